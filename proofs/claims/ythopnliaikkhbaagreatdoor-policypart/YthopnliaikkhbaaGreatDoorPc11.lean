/- What the program's own lists and ruleNames answer. -/
import Derived.Test.YthopnliaikkhbaaGreatDoorPb11
import Derived.Deep.AppendSrc
set_option linter.unusedVariables false
set_option linter.unusedSimpArgs false
set_option maxRecDepth 4000
namespace Go.Proofs.YthopnliaikkhbaaGreatDoor
open Go.RowKit

theorem owns_alloc {W : World} {B n : Nat} {e : TypeId} {z : Nat} {v : Value} {xs : List Value} (h : W.ownsRow B e z v n xs) (o : Obj) : (W.alloc o).ownsRow B e z v n xs := by
  refine ⟨h.1, ?_⟩
  rcases h.2 with h | ⟨g, cap, cur, h1, h2, h3, h4⟩
  · exact .inl h
  · refine .inr ⟨g, cap, cur, h1, h2, ?_, h4⟩
    have hg : g < W.heap.size := (Array.getElem?_eq_some_iff.1 h3).1
    rw [(below_alloc W o).block g hg]; exact h3
theorem owns_below {w W : World} {B n : Nat} {e : TypeId} {z : Nat} {v : Value} {xs : List Value} (h : w.ownsRow B e z v n xs) (hb : Below w.heap.size w W) : W.ownsRow B e z v n xs := by
  refine ⟨h.1, ?_⟩
  rcases h.2 with h | ⟨g, cap, cur, h1, h2, h3, h4⟩
  · exact .inl h
  · refine .inr ⟨g, cap, cur, h1, h2, ?_, h4⟩
    have hg : g < w.heap.size := (Array.getElem?_eq_some_iff.1 h3).1
    rw [hb.block g hg]; exact h3
theorem owns_formG {w : World} {B n : Nat} {e : TypeId} {z : Nat} {v : Value} {l : List Value} (h : w.ownsRow B e z v n l) : ∃ a cap, v = .slice a n cap := by
  rcases h.2 with ⟨rfl, h2⟩ | ⟨g, cap, cur, rfl, _⟩
  · subst h2
    exact ⟨none, 0, rfl⟩
  · exact ⟨_, _, rfl⟩
theorem owns_blk {w : World} {B n : Nat} {e : TypeId} {z : Nat} {v : Value} {xs : List Value} (h : w.ownsRow B e z v n xs) : ∀ k, v.ownBlock = some k → B ≤ k := fun k hk => (h.lt k hk).1
/-- append(v, u), v a list of texts of the call's own, u just written out. -/
theorem append_text (W : World) (B n : Nat) (v : Value) (xs : List Value) (s : ByteArray) (N : Nat) (hN : W.heap.size = N) (hown : W.ownsRow B 9 1 v n xs) (hl : n ≤ 2000000) (hB : B ≤ N) :
    ∃ v' w', (Builtin.append_ #[24, 24] 24 #[v, .slice (some ⟨N, 0, none⟩) 1 1]).run Tryz.prog (W.alloc (.cells #[.string s] 9)) = .ok v' w' ∧ w'.ownsRow B 9 1 v' (n + 1) (xs ++ [.string s]) ∧ Below B W w' := by
  subst hN
  obtain ⟨v', w', hr, ho, hg, _⟩ := run_append_own (P := Tryz.prog) (W.alloc (.cells #[.string s] 9)) B 24 24 9 Tryz.t9 (.string ⟨#[]⟩) 1 16 Tryz.underlying24 (by kernel_rfl) (by kernel_rfl) (by kernel_rfl) (by kernel_rfl) (by kernel_rfl) (by omega)
      v n xs (owns_alloc hown _) ⟨W.heap.size, 0, none⟩ 1 1 [.string s] rfl
      (by
        intro j u hu
        have hj : j < 1 := (List.getElem?_eq_some_iff.1 hu).1
        obtain rfl : j = 0 := by omega
        obtain rfl : Value.string s = u := by simpa using hu
        rw [addr_add]
        simp [go_sem]) (by intro u hu; obtain rfl := List.mem_singleton.1 hu; rfl) (by unfold maxLen; omega) (by omega) (by simp; omega)
  exact ⟨v', w', hr, ho, (((below_alloc W _).mono hB)).grown hg (by simp; omega) (owns_blk hown)⟩
theorem append_list (W : World) (B n : Nat) (v : Value) (xs : List Value) (a : Option Addr) (m c : Nat) (N : Nat) (hN : W.heap.size = N) (hown : W.ownsRow B 24 1 v n xs) (hl : n ≤ 2000000) (hB : B ≤ N) :
    ∃ v' w', (Builtin.append_ #[66, 66] 66 #[v, .slice (some ⟨N, 0, none⟩) 1 1]).run Tryz.prog (W.alloc (.cells #[.slice a m c] 24)) = .ok v' w' ∧ w'.ownsRow B 24 1 v' (n + 1) (xs ++ [.slice a m c]) ∧ Below B W w' := by
  subst hN
  obtain ⟨v', w', hr, ho, hg, _⟩ := run_append_own (P := Tryz.prog) (W.alloc (.cells #[.slice a m c] 24)) B 66 66 24 Tryz.t24 (.slice none 0 0) 1 24 Tryz.underlying66 (by kernel_rfl) (by kernel_rfl) (by kernel_rfl) (by kernel_rfl) (by kernel_rfl) (by omega)
      v n xs (owns_alloc hown _) ⟨W.heap.size, 0, none⟩ 1 1 [.slice a m c] rfl
      (by
        intro j u hu
        have hj : j < 1 := (List.getElem?_eq_some_iff.1 hu).1
        obtain rfl : j = 0 := by omega
        obtain rfl : Value.slice a m c = u := by simpa using hu
        rw [addr_add]
        simp [go_sem]) (by intro u hu; obtain rfl := List.mem_singleton.1 hu; rfl) (by unfold maxLen; omega) (by omega) (by simp; omega)
  exact ⟨v', w', hr, ho, (((below_alloc W _).mono hB)).grown hg (by simp; omega) (owns_blk hown)⟩
theorem str_self (s : ByteArray) : (⟨s.data.toList.toArray⟩ : ByteArray) = s := by cases s; simp
/-- A row of values lies there. -/
def IsV (w : World) (v : Value) (xs : List Value) : Prop := ∃ g cap, v = .slice (some ⟨g, 0, none⟩) xs.length cap ∧ ∀ j (hj : j < xs.length), w.cell? ⟨g, j, none⟩ = some xs[j]
def listsV (p : PV) : List Value := p.lv :: p.sv :: p.dv :: p.rs.map fun r => r.av
def textsV (l : List Bs) : List Value := l.map fun x => Value.string ⟨x.toArray⟩
theorem textsV_len (l : List Bs) : (textsV l).length = l.length := by unfold textsV; rw [List.length_map]
theorem textsV_get (l : List Bs) (j : Nat) (hj : j < l.length) : (textsV l)[j]? = some (.string ⟨(l[j]).toArray⟩) := by unfold textsV; rw [List.getElem?_map, List.getElem?_eq_getElem hj]; rfl
theorem owns_isW {w : World} {B n : Nat} {v : Value} {l : List Bs} (h : w.ownsRow B 9 1 v n (textsV l)) : IsW w v l ∧ ∀ a n c, v = .slice a n c → n ≤ c := by
  have hn : n = l.length := by
    have := h.1
    rw [textsV_len] at this
    omega
  subst hn
  refine ⟨?_, ?_⟩
  · rcases h.2 with ⟨rfl, h2⟩ | ⟨g, cap, cur, rfl, _⟩
    · exact .inl ⟨List.eq_nil_of_length_eq_zero h2, _, _, rfl⟩
    · exact .inr ⟨g, 0, cap, rfl, fun j hj => by
        have := h.cells rfl j _ (textsV_get l j hj)
        rw [addr_add] at this
        rw [Nat.zero_add]
        exact this⟩
  · rintro a n c rfl
    rcases h.2 with ⟨e, _⟩ | ⟨g, cap, cur, e, _, _, h4, _⟩
    · injection e with e1 e2 e3
      omega
    · injection e with e1 e2 e3
      omega
theorem owns_isV {w : World} {B n : Nat} {e : TypeId} {v : Value} {xs : List Value} (h : w.ownsRow B e 1 v n xs) (h0 : 0 < xs.length) : IsV w v xs := by
  have hn : n = xs.length := by have := h.1; omega
  subst hn
  rcases h.2 with ⟨rfl, h2⟩ | ⟨g, cap, cur, rfl, _⟩
  · omega
  · exact ⟨g, cap, rfl, fun j hj => by
      have := h.cells rfl j _ (List.getElem?_eq_getElem hj)
      rw [addr_add] at this
      exact this⟩
theorem texts_snoc (rs : List RV) (k : Nat) (r : RV) (h : rs[k]? = some r) : textsV (nsL (rs.take (k + 1))) = textsV (nsL (rs.take k)) ++ [.string r.nm] := by
  obtain ⟨hlt, rfl⟩ := List.getElem?_eq_some_iff.1 h
  have e : rs.take (k + 1) = rs.take k ++ [rs[k]] := by rw [List.take_add_one, List.getElem?_eq_getElem hlt]; rfl
  rw [e]
  unfold textsV nsL
  rw [List.map_append, List.map_append]
  show _ ++ [Value.string ⟨(rs[k].nm.data.toList).toArray⟩] = _
  rw [str_self]
theorem lists_snoc (rs : List RV) (k : Nat) (r : RV) (h : rs[k]? = some r) (x y z : Value) : (x :: y :: z :: (rs.take (k + 1)).map fun r => r.av) = (x :: y :: z :: (rs.take k).map fun r => r.av) ++ [r.av] := by
  obtain ⟨hlt, rfl⟩ := List.getElem?_eq_some_iff.1 h
  have e : rs.take (k + 1) = rs.take k ++ [rs[k]] := by rw [List.take_add_one, List.getElem?_eq_getElem hlt]; rfl
  rw [e, List.map_append]
  rfl
set_option maxHeartbeats 1000000 in
theorem ruleNames_any (p : PV) (hrl : p.rs.length ≤ 1000000) (w : World) (hI : IsPo w p) :
    Calls Tryz.prog 44 #[poA p] w fun e w' => ∃ v, e = .returned v ∧ (IsW w' v (nsL p.rs) ∧ ∀ a n c, v = .slice a n c → n ≤ c) ∧ Below w.heap.size w w' := by
  have HB := hide (fun x (b : Below (poW w p).heap.size (poW w p) x) => po_box w p b)
  obtain ⟨rs, li, sc, dr, de, rv, lv, sv, dv⟩ := p
  simp only [] at *
  have gr : IsR w rv rs := hI.r
  have gl : IsW w lv li := hI.l
  have gs : IsW w sv sc := hI.s
  have gd : IsW w dv dr := hI.d
  obtain ⟨ra, rc, rfl⟩ := gr.form
  obtain ⟨la, lc, rfl⟩ := gl.form
  obtain ⟨sa, sc', rfl⟩ := gs.form
  obtain ⟨da, dc, rfl⟩ := gd.form
  clear gl gs gd
  have HAT := hide (fun k r (hk : rs[k]? = some r) => gr.at_ k r hk)
  have B0 := hide (Below.refl (poW w ⟨rs, li, sc, dr, de, .slice ra rs.length rc, .slice la li.length lc, .slice sa sc.length sc', .slice da dr.length dc⟩).heap.size (poW w ⟨rs, li, sc, dr, de, .slice ra rs.length rc, .slice la li.length lc, .slice sa sc.length sc', .slice da dr.length dc⟩))
  obtain ⟨c0, c1, c2, c3, c4, bb⟩ := HB.out _ B0.out
  have BB := hide bb
  clear hI bb gr
  go_enter Tryz.func44, Tryz.ntmps44
  go_wp2
  go_loopw [3, 9] (fun tb i wr => ∃ k : Nat, k ≤ rs.length ∧ i = .int .i64 k ∧ Below w.heap.size w wr ∧ Hid (wr.ownsRow w.heap.size 9 1 tb k (textsV (nsL (rs.take k))))) (fun _ i _ => rs.length - (intOf i).toNat)
  case atStart => exact ⟨0, Nat.zero_le _, rfl, BB.out, hide ⟨rfl, .inl ⟨rfl, rfl⟩⟩⟩
  case round =>
    obtain ⟨k, hk, rfl, bw, HO⟩ := hrel
    by_cases hlt : k < rs.length
    · have hlt2 : (k : Int) < rs.length := by omega
      obtain ⟨r, hr⟩ : ∃ r, rs[k]? = some r := ⟨_, List.getElem?_eq_getElem hlt⟩
      obtain ⟨⟨b, o, rfl, q⟩, hw⟩ := HAT.out k r hr
      obtain ⟨d0, d1⟩ := q _ bw
      obtain ⟨xa, xc, hx⟩ := hw.form
      have hsn := texts_snoc rs k r hr
      have hsz := bw.size
      have bw2 := bw.trans ((below_alloc wr (.cells #[.string r.nm, r.av] 53)).mono hsz)
      obtain ⟨v', w', hrun, ho, hb⟩ := append_text (ruW wr r.nm r.av) w.heap.size k _ _ r.nm (wr.heap.size + 1) (by simp) (owns_alloc HO.out _) (by omega) (by omega)
      obtain ⟨a, cap, rfl⟩ := owns_formG HO.out
      rw [← hsn] at ho
      have HO2 := hide ho
      have HRUN := hide hrun
      have b2 := bw2.trans hb
      obtain ⟨rn, rat, rav⟩ := r
      simp only [] at hx d0 d1 HRUN
      subst hx
      generalize rat.length = rl at *
      clear hrun hb hsn hw hr q HO bw2
      go_wp2_with (at_builtin; refine wpList_append_run rfl _ _ 24 rfl _ _ _ _ rfl rfl HRUN.out ?_)
      go_roundw
      case rel => exact ⟨k + 1, by omega, by go_num, b2, HO2⟩
      case measure => simp [intOf]; omega
    · have hlt2 : ¬ (k : Int) < rs.length := by omega
      obtain rfl : k = rs.length := by omega
      have hq := HO.out
      rw [List.take_of_length_le (Nat.le_refl _)] at hq
      have hz := hide (owns_isW hq)
      clear HO hlt hq
      go_wp2
      go_ret
      exact ⟨_, rfl, hz.out, bw⟩
set_option maxHeartbeats 1000000 in
theorem lists_any (p : PV) (hrl : p.rs.length ≤ 1000000) (w : World) (hI : IsPo w p) :
    Calls Tryz.prog 42 #[poA p] w fun e w' => ∃ v, e = .returned v ∧ IsV w' v (listsV p) ∧ Below w.heap.size w w' := by
  have HB := hide (fun x (b : Below (poW w p).heap.size (poW w p) x) => po_box w p b)
  obtain ⟨rs, li, sc, dr, de, rv, lv, sv, dv⟩ := p
  simp only [] at *
  have gr : IsR w rv rs := hI.r
  have gl : IsW w lv li := hI.l
  have gs : IsW w sv sc := hI.s
  have gd : IsW w dv dr := hI.d
  obtain ⟨ra, rc, rfl⟩ := gr.form
  obtain ⟨la, lc, rfl⟩ := gl.form
  obtain ⟨sa, sc', rfl⟩ := gs.form
  obtain ⟨da, dc, rfl⟩ := gd.form
  clear gl gs gd
  have HAT := hide (fun k r (hk : rs[k]? = some r) => gr.at_ k r hk)
  have B0 := hide (Below.refl (poW w ⟨rs, li, sc, dr, de, .slice ra rs.length rc, .slice la li.length lc, .slice sa sc.length sc', .slice da dr.length dc⟩).heap.size (poW w ⟨rs, li, sc, dr, de, .slice ra rs.length rc, .slice la li.length lc, .slice sa sc.length sc', .slice da dr.length dc⟩))
  obtain ⟨c0, c1, c2, c3, c4, bb⟩ := HB.out _ B0.out
  have BB := hide bb
  clear hI bb gr
  unfold listsV
  simp only []
  go_enter Tryz.func42, Tryz.ntmps42
  go_wp2
  go_loopw [3, 16] (fun tb i wr => ∃ k : Nat, k ≤ rs.length ∧ i = .int .i64 k ∧ Below w.heap.size w wr ∧ Hid (wr.ownsRow w.heap.size 24 1 tb (3 + k) (.slice la li.length lc :: .slice sa sc.length sc' :: .slice da dr.length dc :: (rs.take k).map fun r => r.av))) (fun _ i _ => rs.length - (intOf i).toNat)
  case atStart =>
    refine ⟨0, Nat.zero_le _, rfl, BB.out.trans ((below_alloc _ _).mono BB.out.size), hide ?_⟩
    have e := World.ownsRow_lit (e := 24) (size := 1) (base := w.heap.size) (poW w ⟨rs, li, sc, dr, de, .slice ra rs.length rc, .slice la li.length lc, .slice sa sc.length sc', .slice da dr.length dc⟩) #[.slice la li.length lc, .slice sa sc.length sc', .slice da dr.length dc] 3 BB.out.size (by unfold maxLen; omega) rfl
    rw [show (poW w ⟨rs, li, sc, dr, de, .slice ra rs.length rc, .slice la li.length lc, .slice sa sc.length sc', .slice da dr.length dc⟩).heap.size = w.heap.size + 1 by simp] at e
    exact e
  case round =>
    obtain ⟨k, hk, rfl, bw, HO⟩ := hrel
    by_cases hlt : k < rs.length
    · have hlt2 : (k : Int) < rs.length := by omega
      obtain ⟨r, hr⟩ : ∃ r, rs[k]? = some r := ⟨_, List.getElem?_eq_getElem hlt⟩
      obtain ⟨⟨b, o, rfl, q⟩, hw⟩ := HAT.out k r hr
      obtain ⟨d0, d1⟩ := q _ bw
      obtain ⟨xa, xc, hx⟩ := hw.form
      have hsn := lists_snoc rs k r hr (.slice la li.length lc) (.slice sa sc.length sc') (.slice da dr.length dc)
      have hsz := bw.size
      have bw2 := bw.trans ((below_alloc wr (.cells #[.string r.nm, r.av] 53)).mono hsz)
      obtain ⟨v', w', hrun, ho, hb⟩ := append_list (ruW wr r.nm r.av) w.heap.size (3 + k) _ _ xa r.at_.length xc (wr.heap.size + 1) (by simp) (owns_alloc HO.out _) (by omega) (by omega)
      rw [← hx] at hrun ho
      obtain ⟨a, cap, rfl⟩ := owns_formG HO.out
      rw [← hsn] at ho
      have HO2 := hide ho
      have HRUN := hide hrun
      have b2 := bw2.trans hb
      obtain ⟨rn, rat, rav⟩ := r
      simp only [] at hx d0 d1 HRUN
      subst hx
      generalize rat.length = rl at *
      clear hrun hb hsn hw hr q HO bw2
      go_wp2_with (at_builtin; refine wpList_append_run rfl _ _ 66 rfl _ _ _ _ rfl rfl HRUN.out ?_)
      go_roundw
      case rel => exact ⟨k + 1, by omega, by go_num, b2, HO2⟩
      case measure => simp [intOf]; omega
    · have hlt2 : ¬ (k : Int) < rs.length := by omega
      obtain rfl : k = rs.length := by omega
      have hq := HO.out
      rw [List.take_of_length_le (Nat.le_refl _)] at hq
      have hz := hide (owns_isV hq (by simp))
      clear HO hlt hq
      go_wp2
      go_ret
      exact ⟨_, rfl, hz.out, bw⟩
end Go.Proofs.YthopnliaikkhbaaGreatDoor
