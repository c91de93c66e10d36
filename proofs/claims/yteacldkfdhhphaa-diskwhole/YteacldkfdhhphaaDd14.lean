/- What the document's Crash answers. -/
import Derived.Test.YteacldkfdhhphaaDc14
set_option linter.unusedVariables false
set_option linter.unusedSimpArgs false
set_option maxRecDepth 4000
namespace Go.Proofs.Yteacldkfdhhphaa
open Go.RowKit

theorem take_crash : ∀ (l : List (Nat × Bs)) (k : List Bool) (s : List Bs) (i : Nat) (h : i < l.length), crashL s (l.take (i + 1)) k = if k.getD i false then (crashL s (l.take i) k).set l[i].1 l[i].2 else crashL s (l.take i) k
  | p :: r, [], s, i, h => by
    rw [List.take_succ_cons]
    cases i <;> simp [crashL]
  | p :: r, b :: k, s, 0, h => by
    rw [List.take_succ_cons]
    simp only [List.take_zero, crashL, List.getD_cons_zero, List.getElem_cons_zero]
    cases b <;> rfl
  | p :: r, b :: k, s, i + 1, h => by
    rw [List.take_succ_cons, List.take_succ_cons]
    simp only [crashL, List.getD_cons_succ, List.getElem_cons_succ]
    exact take_crash r k _ i (by simpa using h)
theorem getD_lt (k : List Bool) (i : Nat) (h : i < k.length) : k.getD i false = k[i] := by
  rw [List.getD_eq_getElem?_getD, List.getElem?_eq_getElem h]; rfl
theorem getD_ge (k : List Bool) (i : Nat) (h : ¬ i < k.length) : k.getD i false = false := by
  rw [List.getD_eq_getElem?_getD, List.getElem?_eq_none (by omega)]; rfl
def zeroDV : DV := ⟨{ safe := [] }, .slice none 0 0, .slice none 0 0⟩
abbrev dkB (w : World) (d : DV) : World := (dkW w d).alloc (.cells (dkC zeroDV) 31)
theorem dk_boxB (w : World) (d : DV) {x : World} (h : Below (dkB w d).heap.size (dkB w d) x) : x.heap[w.heap.size]? = some (.cells (dkC d) 31 (0, 0)) ∧ x.heap[w.heap.size + 1]? = some (.cells (dkC zeroDV) 31 (0, 0)) ∧ Below (dkW w d).heap.size (dkW w d) x ∧ Below w.heap.size w x := by
  have h2 := below_alloc (dkW w d) (.cells (dkC zeroDV) 31)
  have s1 : (dkW w d).heap.size = w.heap.size + 1 := by simp
  have h3 : Below (dkW w d).heap.size (dkW w d) x := h2.trans (h.mono h2.size)
  refine ⟨(dk_box w d h3).1, ?_, h3, (dk_box w d h3).2⟩
  rw [← s1]
  exact (h.block (dkW w d).heap.size (by simp)).trans (alloc_new (dkW w d) _)
abbrev set5 (w : World) (b : Nat) (v0 v1 v2 v3 v4 : Value) : World := ((((w.setCell ⟨b, 0, none⟩ v0).setCell ⟨b, 1, none⟩ v1).setCell ⟨b, 2, none⟩ v2).setCell ⟨b, 3, none⟩ v3).setCell ⟨b, 4, none⟩ v4
theorem set5_other (w : World) (A : Nat) (v0 v1 v2 v3 v4 : Value) : ∀ k, k ≠ A → (set5 w A v0 v1 v2 v3 v4).heap[k]? = w.heap[k]? := fun k hk => by
  unfold set5
  rw [Below.heap_setCell _ _ _ _ hk, Below.heap_setCell _ _ _ _ hk, Below.heap_setCell _ _ _ _ hk, Below.heap_setCell _ _ _ _ hk, Below.heap_setCell _ _ _ _ hk]
theorem below_set5 {w X : World} {b : Nat} (hb : w.heap.size ≤ b) (h : Below w.heap.size w X) (v0 v1 v2 v3 v4 : Value) : Below w.heap.size w (set5 X b v0 v1 v2 v3 v4) :=
  ((((h.setCell (p := ⟨b, 0, none⟩) hb _).setCell (p := ⟨b, 1, none⟩) hb _).setCell (p := ⟨b, 2, none⟩) hb _).setCell (p := ⟨b, 3, none⟩) hb _).setCell (p := ⟨b, 4, none⟩) hb _
def NoStr (w : World) (A : Nat) : Prop := ∀ j s, w.cell? ⟨A, j, none⟩ ≠ some (.string s)
theorem IsW.but {w W : World} {v : Value} {l : List Bs} {A : Nat} (h : IsW w v l) (hn : NoStr w A) (hk : ∀ k, k ≠ A → W.heap[k]? = w.heap[k]?) : IsW W v l := by
  rcases h with h | ⟨b, o, cap, rfl, hc⟩
  · exact .inl h
  · refine .inr ⟨b, o, cap, rfl, fun j hj => ?_⟩
    have hb : b ≠ A := fun e => by subst e; exact hn _ _ (hc j hj)
    exact (World.cell?_of_block (a := ⟨b, o + j, none⟩) (hk b hb)).trans (hc j hj)
theorem IsP.but {w W : World} {v : Value} {l : List (Nat × Bs)} {A : Nat} (h : IsP w v l) (hn : NoStr w A) (hk : ∀ k, k ≠ A → W.heap[k]? = w.heap[k]?) : IsP W v l := by
  rcases h with h | ⟨b, o, cap, rfl, hc⟩
  · exact .inl h
  · refine .inr ⟨b, o, cap, rfl, fun j hj => ?_⟩
    have hb : b ≠ A := fun e => by subst e; exact hn _ _ (hc j hj).2
    exact ⟨(World.cell?_of_block (a := ⟨b, o + j * 2, none⟩) (hk b hb)).trans (hc j hj).1, (World.cell?_of_block (a := ⟨b, o + j * 2 + 1, none⟩) (hk b hb)).trans (hc j hj).2⟩
theorem IsD.but {w W : World} {d : DV} {A : Nat} (h : IsD w d) (hn : NoStr w A) (hk : ∀ k, k ≠ A → W.heap[k]? = w.heap[k]?) : IsD W d := ⟨h.s.but hn hk, h.l.but hn hk⟩
theorem noStr_dk {w W : World} {A : Nat} {d : DV} (hI : IsD W d) (h : w.heap[A]? = some (.cells (dkC d) 31 (0, 0))) : NoStr w A := by
  obtain ⟨a0, d0, e0⟩ := hI.s.form
  obtain ⟨a1, d1, e1⟩ := hI.l.form
  intro j s e
  simp only [World.cell?, h] at e
  match j with
  | 0 => simp [dkC, e0] at e
  | 1 => simp [dkC, e1] at e
  | 2 => simp [dkC] at e
  | 3 => simp [dkC] at e
  | 4 => simp [dkC] at e
  | j + 5 => simp [dkC] at e
theorem isD_zero (w : World) : IsD w zeroDV := ⟨.inl ⟨rfl, _, _, rfl⟩, .inl ⟨rfl, _, _, rfl⟩⟩
set_option maxHeartbeats 4000000 in
theorem rcrash_any (d : DV) (kv : Value) (keep : List Bool) (w : World) (hI : IsD w d) (hF : IsF w kv keep) (hok : OkD d.m) (h1 : d.m.safe.length ≤ 100000) (h2 : d.m.l.length ≤ 100000) (h3 : keep.length ≤ 100000) :
    Calls Try.prog 32 #[dkA d, kv] w fun e w' => ∃ v, e = .returned (dkA ⟨crashD d.m keep, v, .slice none 0 0⟩) ∧ IsD w' ⟨crashD d.m keep, v, .slice none 0 0⟩ ∧ Below w.heap.size w w' := by
  have hb0 := (dk_boxB w d (Below.refl _ (dkB w d))).2.2.2
  obtain ⟨g, cap, w1, hr, ho, hb1, hg⟩ := copy_texts (dkB w d) d.sv d.m.safe (hI.s.below hb0) (by omega)
  have s1 : (dkB w d).heap.size = w.heap.size + 2 := by simp
  rw [s1] at hr
  have HBX := hide (fun x (b : Below (dkB w d).heap.size (dkB w d) x) => dk_boxB w d b)
  have HP : Hid (∀ x, Below w.heap.size w x → IsP x d.lv d.m.l) := hide (fun x b => hI.l.below b)
  have HFK : Hid (∀ x, Below w.heap.size w x → IsF x kv keep) := hide (fun x b => hF.below b)
  have HO : Hid (w1.ownsRow (dkB w d).heap.size 9 1 (.slice (some ⟨g, 0, none⟩) d.m.safe.length cap) d.m.safe.length (textsV (crashL d.m.safe (d.m.l.take 0) keep))) := hide (by
    rw [List.take_zero]
    cases keep <;> exact ho)
  have HB := hide hb1
  have hat := hok.at_
  have HFN : Hid (∀ wr, wr.ownsRow (dkB w d).heap.size 9 1 (.slice (some ⟨g, 0, none⟩) d.m.safe.length cap) d.m.safe.length (textsV (crashL d.m.safe d.m.l keep)) → Below (dkB w d).heap.size (dkB w d) wr → ∀ v0 v1 v2 v3 v4, ∃ v, Ending.returned (.agg #[.slice (some ⟨g, 0, none⟩) d.m.safe.length cap, .slice none 0 0, .int .i64 0, .bool false, .bool false]) = .returned (dkA ⟨crashD d.m keep, v, .slice none 0 0⟩) ∧ IsD (set5 wr (w.heap.size + 1) v0 v1 v2 v3 v4) ⟨crashD d.m keep, v, .slice none 0 0⟩ ∧ Below w.heap.size w (set5 wr (w.heap.size + 1) v0 v1 v2 v3 v4)) := hide (fun wr ho hb v0 v1 v2 v3 v4 => by
    obtain ⟨k0, k1, k2, k3⟩ := dk_boxB w d hb
    refine ⟨.slice (some ⟨g, 0, none⟩) d.m.safe.length cap, rfl, ⟨?_, .inl ⟨rfl, _, _, rfl⟩⟩, below_set5 (by omega) k3 _ _ _ _ _⟩
    exact (owns_isW ho).1.but (noStr_dk (isD_zero w) k1) (set5_other wr _ v0 v1 v2 v3 v4))
  obtain ⟨⟨safe, l, left, fuse, off⟩, sv, lv⟩ := d
  have gs : IsW w sv safe := hI.s
  have gl : IsP w lv l := hI.l
  obtain ⟨sa, sc, rfl⟩ := gs.form
  obtain ⟨la, lc, rfl⟩ := gl.form
  obtain ⟨ka, kc, rfl⟩ := hF.form
  simp only [] at *
  clear gs gl hI hok ho hb1 hb0 s1 hF
  obtain ⟨k0, _⟩ := HBX.out _ (Below.refl _ _)
  obtain ⟨x0, x1, x2, x3, x4, _⟩ := dk_cells k0
  have x0a : ((dkB w ⟨⟨safe, l, left, fuse, off⟩, .slice sa safe.length sc, .slice la l.length lc⟩).alloc (.cells #[] 9)).cell? ⟨w.heap.size, 0, none⟩ = some (.slice sa safe.length sc) := ((below_alloc _ _).cell (cell_lt x0)).trans x0
  simp only [dkB, dkW, dkC, zeroDV] at x0a
  clear k0 x0 x1 x2 x3 x4
  go_enter Try.func32, Try.ntmps32
  go_wp2_with (at_builtin; refine Lib.wpList_append_run _ rfl (.tmp 7) (.tmp 9) _ _ rfl _ _ rfl rfl _ _ hr ?_)
  clear x0a hr
  go_loopw [6] (fun vi wr => ∃ i : Nat, vi = .int .i64 (i : Int) ∧ i ≤ l.length ∧ Hid (wr.ownsRow (dkB w ⟨⟨safe, l, left, fuse, off⟩, .slice sa safe.length sc, .slice la l.length lc⟩).heap.size 9 1 (.slice (some ⟨g, 0, none⟩) safe.length cap) safe.length (textsV (crashL safe (l.take i) keep))) ∧ Hid (Below (dkB w ⟨⟨safe, l, left, fuse, off⟩, .slice sa safe.length sc, .slice la l.length lc⟩).heap.size (dkB w ⟨⟨safe, l, left, fuse, off⟩, .slice sa safe.length sc, .slice la l.length lc⟩) wr)) (fun vi _ => l.length - (intOf vi).toNat)
  case atStart => exact ⟨0, rfl, Nat.zero_le _, HO, HB⟩
  case round =>
    clear HO HB
    obtain ⟨i, rfl, hi, HO, HB⟩ := hrel
    obtain ⟨k0, k1, _, kb⟩ := HBX.out _ HB.out
    obtain ⟨x0, x1, x2, x3, x4, _⟩ := dk_cells k0
    by_cases hlt : i < l.length
    · have hlt2 : (i : Int) < l.length := by omega
      have htk := take_crash l keep safe i hlt
      by_cases hkp : ∃ h : i < keep.length, keep[i] = true
      · obtain ⟨hik, hkt⟩ := hkp
        have hik2 : (i : Int) < keep.length := by omega
        rw [getD_lt keep i hik, hkt, if_pos rfl] at htk
        rcases HFK.out _ kb with ⟨h0, _⟩ | ⟨fb, fo, fc, ef, hcf⟩
        · rw [h0] at hik; simp at hik
        injection ef with ef _ efc
        subst ef efc
        have hkc := hcf i hik
        rw [hkt] at hkc
        rcases HP.out _ kb with ⟨h0, _⟩ | ⟨b, o, c, e, hc⟩
        · rw [h0] at hlt; simp at hlt
        injection e with e _ ec
        subst e ec
        obtain ⟨p0, p1⟩ := hc i hlt
        have hai := hat l[i] (List.getElem_mem hlt)
        have hai2 : ((l[i].1 : Nat) : Int) < safe.length := by omega
        have hlenx : (textsV (crashL safe (l.take i) keep)).length = safe.length := by rw [textsV_len, crashL_len]
        have hod : wr.drew.ownsRow (dkB w ⟨⟨safe, l, left, fuse, off⟩, .slice sa safe.length sc, .slice (some ⟨b, o, none⟩) l.length lc⟩).heap.size 9 1 (.slice (some ⟨g, 0, none⟩) safe.length cap) safe.length (textsV (crashL safe (l.take i) keep)) := HO.out
        have q0 : wr.drew.cell? ⟨g, l[i].1, none⟩ = (textsV (crashL safe (l.take i) keep))[l[i].1]? := hod.cellAt l[i].1 (by omega)
        obtain ⟨old, hold⟩ : ∃ old, wr.drew.cell? ⟨g, l[i].1, none⟩ = some old := ⟨_, q0.trans (List.getElem?_eq_getElem (by omega))⟩
        have q1 := hod.frozenAt l[i].1
        have hst := (hod.stored l[i].1 (.string ⟨l[i].2.toArray⟩)).1
        rw [← textsV_set, ← htk] at hst
        have HST := hide hst
        have hBg : (dkB w ⟨⟨safe, l, left, fuse, off⟩, .slice sa safe.length sc, .slice (some ⟨b, o, none⟩) l.length lc⟩).heap.size ≤ g := hg
        have HB2 := hide (HB.out.drew.setCell (p := ⟨g, l[i].1, none⟩) hBg (.string ⟨l[i].2.toArray⟩))
        have x1d : wr.drew.cell? ⟨w.heap.size, 1, none⟩ = some (.slice (some ⟨b, o, none⟩) l.length lc) := x1
        have p0d : wr.drew.cell? ⟨b, o + i * 2, none⟩ = some (.int .i64 (l[i].1 : Int)) := p0
        have p1d : wr.drew.cell? ⟨b, o + i * 2 + 1, none⟩ = some (.string ⟨l[i].2.toArray⟩) := p1
        clear hst hc hcf k0 k1 kb q0 hlenx hai hod x0 x2 x3 x4 p0 p1 htk hkt HFN
        generalize (⟨l[i].2.toArray⟩ : ByteArray) = X at *
        generalize l[i].1 = at_ at *
        go_wp2
        go_region
        all_goals go_wp2
        all_goals go_roundw
        all_goals first | exact ⟨i + 1, by go_num, by omega, HST, HB2⟩ | (simp [intOf]; omega)
      · have hgd : keep.getD i false = false := by
          by_cases hik : i < keep.length
          · rw [getD_lt keep i hik]
            cases hkk : keep[i]
            · rfl
            · exact absurd ⟨hik, hkk⟩ hkp
          · exact getD_ge keep i hik
        rw [hgd] at htk
        have HO2 : Hid (wr.ownsRow (dkB w ⟨⟨safe, l, left, fuse, off⟩, .slice sa safe.length sc, .slice la l.length lc⟩).heap.size 9 1 (.slice (some ⟨g, 0, none⟩) safe.length cap) safe.length (textsV (crashL safe (l.take (i + 1)) keep))) := hide (by rw [htk]; exact HO.out)
        by_cases hik : i < keep.length
        · have hik2 : (i : Int) < keep.length := by omega
          rw [getD_lt keep i hik] at hgd
          rcases HFK.out _ kb with ⟨h0, _⟩ | ⟨fb, fo, fc, ef, hcf⟩
          · rw [h0] at hik; simp at hik
          injection ef with ef _ efc
          subst ef efc
          have hkc := hcf i hik
          rw [hgd] at hkc
          clear hcf k0 k1 kb htk hgd hkp HFN
          go_wp2
          go_roundw
          case rel => exact ⟨i + 1, by go_num, by omega, HO2, HB⟩
          case measure => simp [intOf]; omega
        · have hik2 : ¬ (i : Int) < keep.length := by omega
          clear k0 k1 kb htk hgd hkp HFN
          go_wp2
          go_roundw
          case rel => exact ⟨i + 1, by go_num, by omega, HO2, HB⟩
          case measure => simp [intOf]; omega
    · have hlt2 : ¬ (i : Int) < l.length := by omega
      obtain rfl : i = l.length := by omega
      have ho := HO.out
      rw [List.take_length] at ho
      have HF := hide (HFN.out wr ho HB.out)
      obtain ⟨y0, y1, y2, y3, y4, f0, f1, f2, f3, f4⟩ := dk_cells k1
      simp only [zeroDV] at y0 y1 y2 y3 y4
      clear ho kb k0 k1 HFN
      go_wp2
      refine bodyPost_ret (v := .agg #[.slice (some ⟨g, 0, none⟩) safe.length cap, .slice none 0 0, .int .i64 0, .bool false, .bool false]) ?_ rfl (HF.out _ _ _ _ _)
      simp [results, Try.results32, go_sem, y0, y1, y2, y3, y4]
end Go.Proofs.Yteacldkfdhhphaa
