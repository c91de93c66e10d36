/- What the document's Now and Crash answer. -/
import Derived.Test.YteacldkfdhhphaaDb14
set_option linter.unusedVariables false
set_option linter.unusedSimpArgs false
set_option maxRecDepth 4000
namespace Go.Proofs.Yteacldkfdhhphaa
open Go.RowKit

theorem own_form {w : World} {B n : Nat} {v : Value} {xs : List Value} {e : TypeId} {z : Nat} (h : w.ownsRow B e z v n xs) (hv : v ≠ .slice none 0 0) : ∃ g cap, v = .slice (some ⟨g, 0, none⟩) n cap ∧ B ≤ g := by
  rcases h.2 with ⟨rfl, _⟩ | ⟨g, cap, cur, rfl, h3, _⟩
  · exact absurd rfl hv
  · exact ⟨g, cap, rfl, h3⟩
theorem own_base {w : World} {B C n : Nat} {e : TypeId} {z : Nat} {v : Value} {xs : List Value} (h : w.ownsRow B e z v n xs) (hC : C ≤ B) : w.ownsRow C e z v n xs := by
  refine ⟨h.1, ?_⟩
  rcases h.2 with h | ⟨g, cap, cur, h1, h2, h3⟩
  · exact .inl h
  · exact .inr ⟨g, cap, cur, h1, by omega, h3⟩
theorem copy_texts (w : World) (u : Value) (l : List Bs) (hU : IsW w u l) (hl : l.length ≤ 100000) :
    ∃ g cap w1, (Builtin.append_ #[28, 28] 28 #[.slice (some ⟨w.heap.size, 0, none⟩) 0 0, u]).run Try.prog (w.alloc (.cells #[] 9)) = .ok (.slice (some ⟨g, 0, none⟩) l.length cap) w1 ∧ w1.ownsRow w.heap.size 9 1 (.slice (some ⟨g, 0, none⟩) l.length cap) l.length (textsV l) ∧ Below w.heap.size w w1 ∧ w.heap.size ≤ g := by
  have hb := below_alloc w (.cells #[] 9)
  obtain ⟨v3, w3, e1, e2, e3⟩ := append_isW (w.alloc (.cells #[] 9)) w.heap.size 0 _ (textsV []) u l (own_none w _ (Nat.le_refl _)) (by simp) (hU.below hb) (by omega) (by omega) hb.size
  have e2' : w3.ownsRow w.heap.size 9 1 v3 l.length (textsV l) := by
    have h := e2
    rw [Nat.zero_add] at h
    exact h
  have hne : v3 ≠ .slice none 0 0 := by
    cases l with
    | nil =>
      obtain ⟨a, c, rfl⟩ := hU.form
      rw [show ([] : List Bs).length = 0 from rfl, append_nothing _ w.heap.size 0 0 _ _ (Nat.le_refl _) (by decide)] at e1
      injection e1 with e1
      rw [← e1]
      simp
    | cons y l => exact not_nil e2' (by simp)
  obtain ⟨g, cap, rfl, hg⟩ := own_form e2' hne
  exact ⟨g, cap, w3, e1, e2', hb.trans e3, hg⟩
theorem textsV_set (l : List Bs) (j : Nat) (x : Bs) : textsV (l.set j x) = (textsV l).set j (.string ⟨x.toArray⟩) := by
  unfold textsV
  rw [List.map_set]
theorem take_now (s : List Bs) (l : List (Nat × Bs)) (i : Nat) (h : i < l.length) : nowL s (l.take (i + 1)) = (nowL s (l.take i)).set l[i].1 l[i].2 := by
  unfold nowL
  rw [List.take_succ_eq_append_getElem h, List.foldl_append]
  rfl
/-- A list of bools lies there. -/
def IsF (w : World) (v : Value) (l : List Bool) : Prop := (l = [] ∧ ∃ a c, v = .slice a 0 c) ∨ ∃ b o cap, v = .slice (some ⟨b, o, none⟩) l.length cap ∧ ∀ j (hj : j < l.length), w.cell? ⟨b, o + j, none⟩ = some (.bool l[j])
theorem IsF.below {w W : World} {v : Value} {l : List Bool} (h : IsF w v l) (hb : Below w.heap.size w W) : IsF W v l := by
  rcases h with h | ⟨b, o, cap, rfl, hc⟩
  · exact .inl h
  · exact .inr ⟨b, o, cap, rfl, fun j hj => (hb.cell (cell_lt (hc j hj))).trans (hc j hj)⟩
theorem IsF.form {w : World} {v : Value} {l : List Bool} (h : IsF w v l) : ∃ a c, v = .slice a l.length c := by
  rcases h with ⟨rfl, a, c, rfl⟩ | ⟨b, o, cap, rfl, _⟩
  · exact ⟨_, _, rfl⟩
  · exact ⟨_, _, rfl⟩
set_option maxHeartbeats 2000000 in
theorem rnow_any (d : DV) (w : World) (hI : IsD w d) (hok : OkD d.m) (h1 : d.m.safe.length ≤ 100000) (h2 : d.m.l.length ≤ 100000) :
    Calls Try.prog 35 #[dkA d] w fun e w' => ∃ v, e = .returned v ∧ w'.ownsRow w.heap.size 9 1 v (nowD d.m).length (textsV (nowD d.m)) ∧ Below w.heap.size w w' := by
  have hb0 := below_alloc w (.cells (dkC d) 31)
  obtain ⟨g, cap, w1, hr, ho, hb1, hg⟩ := copy_texts (dkW w d) d.sv d.m.safe (hI.s.below hb0) (by omega)
  have s1 : (dkW w d).heap.size = w.heap.size + 1 := by simp
  rw [s1] at hr
  clear s1
  have HBX := hide (fun x (b : Below (dkW w d).heap.size (dkW w d) x) => dk_box w d b)
  have HP : Hid (∀ x, Below w.heap.size w x → IsP x d.lv d.m.l) := hide (fun x b => hI.l.below b)
  have HO : Hid (w1.ownsRow (dkW w d).heap.size 9 1 (.slice (some ⟨g, 0, none⟩) d.m.safe.length cap) d.m.safe.length (textsV (nowL d.m.safe (d.m.l.take 0)))) := hide ho
  have HB := hide hb1
  have hat := hok.at_
  have HSZ := hide hb0.size
  rw [show nowD d.m = nowL d.m.safe d.m.l from rfl, nowL_len]
  obtain ⟨⟨safe, l, left, fuse, off⟩, sv, lv⟩ := d
  have gs : IsW w sv safe := hI.s
  have gl : IsP w lv l := hI.l
  obtain ⟨sa, sc, rfl⟩ := gs.form
  obtain ⟨la, lc, rfl⟩ := gl.form
  simp only [] at *
  clear gs gl hI hok ho hb1 hb0
  obtain ⟨k0, _⟩ := HBX.out _ (Below.refl _ _)
  obtain ⟨x0, x1, x2, x3, x4, _⟩ := dk_cells k0
  have x0a : ((dkW w ⟨⟨safe, l, left, fuse, off⟩, .slice sa safe.length sc, .slice la l.length lc⟩).alloc (.cells #[] 9)).cell? ⟨w.heap.size, 0, none⟩ = some (.slice sa safe.length sc) := ((below_alloc _ _).cell (cell_lt x0)).trans x0
  clear k0 x0 x1 x2 x3 x4
  go_enter Try.func35, Try.ntmps35
  go_wp2_with (at_builtin; refine Lib.wpList_append_run _ rfl (.tmp 5) (.tmp 7) _ _ rfl _ _ rfl rfl _ _ hr ?_)
  clear x0a hr
  go_loopw [4] (fun vi wr => ∃ i : Nat, vi = .int .i64 (i : Int) ∧ i ≤ l.length ∧ Hid (wr.ownsRow (dkW w ⟨⟨safe, l, left, fuse, off⟩, .slice sa safe.length sc, .slice la l.length lc⟩).heap.size 9 1 (.slice (some ⟨g, 0, none⟩) safe.length cap) safe.length (textsV (nowL safe (l.take i)))) ∧ Hid (Below (dkW w ⟨⟨safe, l, left, fuse, off⟩, .slice sa safe.length sc, .slice la l.length lc⟩).heap.size (dkW w ⟨⟨safe, l, left, fuse, off⟩, .slice sa safe.length sc, .slice la l.length lc⟩) wr)) (fun vi _ => l.length - (intOf vi).toNat)
  case atStart => exact ⟨0, rfl, Nat.zero_le _, HO, HB⟩
  case round =>
    clear HO HB
    obtain ⟨i, rfl, hi, HO, HB⟩ := hrel
    obtain ⟨k0, kb⟩ := HBX.out _ HB.out
    obtain ⟨x0, x1, x2, x3, x4, _⟩ := dk_cells k0
    by_cases hlt : i < l.length
    · have hlt2 : (i : Int) < l.length := by omega
      rcases HP.out _ kb with ⟨h0, _⟩ | ⟨b, o, c, e, hc⟩
      · rw [h0] at hlt; simp at hlt
      injection e with e _ ec
      subst e ec
      obtain ⟨p0, p1⟩ := hc i hlt
      have hai := hat l[i] (List.getElem_mem hlt)
      have hai2 : ((l[i].1 : Nat) : Int) < safe.length := by omega
      have hlenx : (textsV (nowL safe (l.take i))).length = safe.length := by rw [textsV_len, nowL_len]
      have hod : wr.drew.ownsRow (dkW w ⟨⟨safe, l, left, fuse, off⟩, .slice sa safe.length sc, .slice (some ⟨b, o, none⟩) l.length lc⟩).heap.size 9 1 (.slice (some ⟨g, 0, none⟩) safe.length cap) safe.length (textsV (nowL safe (l.take i))) := HO.out
      have q0 : wr.drew.cell? ⟨g, l[i].1, none⟩ = (textsV (nowL safe (l.take i)))[l[i].1]? := hod.cellAt l[i].1 (by omega)
      obtain ⟨old, hold⟩ : ∃ old, wr.drew.cell? ⟨g, l[i].1, none⟩ = some old := ⟨_, q0.trans (List.getElem?_eq_getElem (by omega))⟩
      have q1 := hod.frozenAt l[i].1
      have hst := (hod.stored l[i].1 (.string ⟨l[i].2.toArray⟩)).1
      rw [← textsV_set, ← take_now safe l i hlt] at hst
      have HST := hide hst
      have hBg : (dkW w ⟨⟨safe, l, left, fuse, off⟩, .slice sa safe.length sc, .slice (some ⟨b, o, none⟩) l.length lc⟩).heap.size ≤ g := hg
      have HB2 := hide (HB.out.drew.setCell (p := ⟨g, l[i].1, none⟩) hBg (.string ⟨l[i].2.toArray⟩))
      have x1d : wr.drew.cell? ⟨w.heap.size, 1, none⟩ = some (.slice (some ⟨b, o, none⟩) l.length lc) := x1
      have p0d : wr.drew.cell? ⟨b, o + i * 2, none⟩ = some (.int .i64 (l[i].1 : Int)) := p0
      have p1d : wr.drew.cell? ⟨b, o + i * 2 + 1, none⟩ = some (.string ⟨l[i].2.toArray⟩) := p1
      clear hst hc k0 kb q0 hlenx hai hod x0 x2 x3 x4 p0 p1
      generalize (⟨l[i].2.toArray⟩ : ByteArray) = X at *
      generalize l[i].1 = at_ at *
      go_wp2
      go_region
      all_goals go_wp2
      all_goals go_roundw
      all_goals first | exact ⟨i + 1, by go_num, by omega, HST, HB2⟩ | (simp [intOf]; omega)
    · have hlt2 : ¬ (i : Int) < l.length := by omega
      obtain rfl : i = l.length := by omega
      have ho := HO.out
      rw [List.take_length] at ho
      have HF : Hid (∃ v, Ending.returned (.slice (some ⟨g, 0, none⟩) safe.length cap) = .returned v ∧ wr.ownsRow w.heap.size 9 1 v safe.length (textsV (nowL safe l)) ∧ Below w.heap.size w wr) := hide ⟨_, rfl, own_base ho (by simp), kb⟩
      clear ho kb k0
      go_wp2
      go_ret
      exact HF.out
end Go.Proofs.Yteacldkfdhhphaa
