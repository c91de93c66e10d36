/- What the statements' do and small answer, of every act. -/
import Derived.Test.YtjgklemhlmgheaaDoW5
set_option linter.unusedVariables false
set_option linter.unusedSimpArgs false
namespace Go.Proofs.Ytjgklemhlmgheaa
open Go.RowKit

def okB (T U : TR) (x : AV) : Bool := (actP T x).2.1 == (actD U x).2.1 && (actP T x).2.2 == (actD U x).2.2
theorem do_p {n0 : Nat} {w0 w : World} {pb : Nat} {rv : Value} {T U : TR} (hn0 : n0 = w0.heap.size) (x : AV) (F : Fit T U x) (hV : IsV w0 x.av x.aa) (h : Both n0 w0 w pb rv T U) :
    Calls Try.prog 12 #[.pointer (some ⟨pb, 0, none⟩), .agg #[rv], .agg x.cells.toArray] w fun e w' => ∃ rv', e = .returned (.tuple #[.agg #[rv'], .bool (okB T U x)]) ∧ Both n0 w0 w' pb rv' (actP T x).1 (actD U x).1 ∧ ∃ a m c, rv' = .slice a m c := by
  obtain ⟨k, a, b2, sp, s, aa, av⟩ := x
  by_cases k1 : k = 1
  · subst k1
    refine (do_k1 hn0 a b2 sp s aa av F hV h).mono ?_
    rintro e w' ⟨rv', he, hb, hf⟩
    exact ⟨rv', by rw [he]; simp [okB, actP, actD], by simpa [actP, actD] using hb, hf⟩
  by_cases k2 : k = 2
  · subst k2
    refine (do_k2 hn0 a b2 sp s aa av F hV h).mono ?_
    rintro e w' ⟨rv', he, hb, hf⟩
    exact ⟨rv', by rw [he]; simp [okB, actP, actD], by simpa [actP, actD] using hb, hf⟩
  by_cases k3 : k = 3
  · subst k3
    refine (do_k3 hn0 a b2 sp s aa av F hV h).mono ?_
    rintro e w' ⟨rv', he, hb, hf⟩
    exact ⟨rv', by rw [he]; simp [okB, actP, actD], by simpa [actP, actD] using hb, hf⟩
  by_cases k4 : k = 4
  · subst k4
    refine (do_k4 hn0 a b2 sp s aa av F hV h).mono ?_
    rintro e w' ⟨rv', he, hb, hf⟩
    exact ⟨rv', by rw [he]; simp [okB, actP, actD], by simpa [actP, actD] using hb, hf⟩
  by_cases k5 : k = 5
  · subst k5
    refine (do_k5 hn0 a b2 sp s aa av F hV h).mono ?_
    rintro e w' ⟨rv', he, hb, hf⟩
    exact ⟨rv', by rw [he]; simp [okB, actP, actD], by simpa [actP, actD] using hb, hf⟩
  by_cases k6 : k = 6
  · subst k6
    refine (do_k6 hn0 a b2 sp s aa av F hV h).mono ?_
    rintro e w' ⟨rv', he, hb, hf⟩
    exact ⟨rv', by rw [he]; simp [okB, actP, actD], by simpa [actP, actD] using hb, hf⟩
  by_cases k7 : k = 7
  · subst k7
    refine (do_k7 hn0 a b2 sp s aa av F hV h).mono ?_
    rintro e w' ⟨rv', he, hb, hf⟩
    exact ⟨rv', by rw [he]; simp [okB, actP, actD], by simpa [actP, actD] using hb, hf⟩
  by_cases k8 : k = 8
  · subst k8
    refine (do_k8 hn0 a b2 sp s aa av F hV h).mono ?_
    rintro e w' ⟨rv', he, hb, hf⟩
    exact ⟨rv', by rw [he]; simp [okB, actP, actD], by simpa [actP, actD] using hb, hf⟩
  by_cases k9 : k = 9
  · subst k9
    refine (do_k9 hn0 a b2 sp s aa av F hV h).mono ?_
    rintro e w' ⟨rv', he, hb, hf⟩
    exact ⟨rv', by rw [he]; simp [okB, actP, actD], by simpa [actP, actD] using hb, hf⟩
  · refine (do_k0 hn0 k a b2 sp s aa av ⟨k1, k2, k3, k4, k5, k6, k7, k8, k9⟩ F hV h).mono ?_
    rintro e w' ⟨rv', he, hb, hf⟩
    exact ⟨rv', by rw [he]; simp [okB, actP, actD, k1, k2, k3, k4, k5, k6, k7, k8, k9], by simpa [actP, actD, k1, k2, k3, k4, k5, k6, k7, k8, k9] using hb, hf⟩
def smallB (x : AV) : Bool := decide (x.s.size ≤ 60) && decide (x.aa.length ≤ 6)
set_option maxHeartbeats 1000000 in
theorem small_p (x : AV) (hf : ∃ a c, x.av = .slice a x.aa.length c) (w : World) : Calls Try.prog 11 #[.agg x.cells.toArray] w fun e w' => e = .returned (.bool (smallB x)) ∧ Below w.heap.size w w' := by
  obtain ⟨k, a, b2, sp, s, aa, av⟩ := x
  obtain ⟨va, vc, hav⟩ := hf
  simp only at hav
  subst hav
  unfold smallB AV.cells
  simp only
  have B0 := hide (below_alloc w (.cells #[.int .i64 k, .int .i64 a, .int .i64 b2, .int .i64 sp, .string s, .slice va aa.length vc] 33))
  by_cases h1 : s.size ≤ 60
  · have h1i : (s.size : Int) ≤ 60 := by omega
    rw [decide_eq_true h1, Bool.true_and]
    by_cases h2 : aa.length ≤ 6
    · have h2i : (aa.length : Int) ≤ 6 := by omega
      rw [decide_eq_true h2]
      go_enter Try.func11, Try.ntmps11
      go_wp2
      go_ret
      exact ⟨rfl, B0.out⟩
    · have h2i : ¬ (aa.length : Int) ≤ 6 := by omega
      rw [decide_eq_false h2]
      go_enter Try.func11, Try.ntmps11
      go_wp2
      go_ret
      exact ⟨rfl, B0.out⟩
  · have h1i : ¬ (s.size : Int) ≤ 60 := by omega
    rw [decide_eq_false h1, Bool.false_and]
    go_enter Try.func11, Try.ntmps11
    go_wp2
    go_ret
    exact ⟨rfl, B0.out⟩
/-- A script lies there. -/
def IsS (w : World) (v : Value) (xs : List AV) : Prop := (xs = [] ∧ ∃ a c, v = .slice a 0 c) ∨ ∃ b o c, v = .slice (some ⟨b, o, none⟩) xs.length c ∧ ∀ j (hj : j < xs.length), (∀ i, i < 6 → w.cell? ⟨b, o + j * 6 + i, none⟩ = (xs[j].cells)[i]?) ∧ IsV w xs[j].av xs[j].aa
theorem isS_form {w : World} {v : Value} {xs : List AV} (h : IsS w v xs) : ∃ a c, v = .slice a xs.length c := by
  rcases h with ⟨rfl, a, c, rfl⟩ | ⟨b, o, c, rfl, _⟩
  · exact ⟨_, _, rfl⟩
  · exact ⟨_, _, rfl⟩
theorem IsS.get {w : World} {a : Option Addr} {n c : Nat} {xs : List AV} (h : IsS w (.slice a n c) xs) (j : Nat) (hj : j < xs.length) : ∃ b o, a = some ⟨b, o, none⟩ ∧ (∀ i, i < 6 → w.cell? ⟨b, o + j * 6 + i, none⟩ = (xs[j].cells)[i]?) ∧ IsV w xs[j].av xs[j].aa := by
  rcases h with ⟨rfl, _⟩ | ⟨b, o, c', e, h⟩
  · simp at hj
  · injection e with e1 _ _
    exact ⟨b, o, e1, h j hj⟩
/-! What stays true over a script. -/
structure Good (N : Nat) (T : TR) : Prop where
  wf : WF T
  l0 : 0 < T.length
  ll : T.length ≤ N + 1
  at6 : ∀ i, (nodeAt T i).attrs.length ≤ 6 ∧ (nodeAt T i).text.length ≤ 60 * N
  el : ∀ i, (nodeAt T i).kind = 1 → (nodeAt T i).text = []
theorem good_new : Good 0 newL := by
  refine ⟨WF.new, by decide, by decide, fun i => ?_, fun i h => ?_⟩
  · have hn : nodeAt newL i = {} := by cases i <;> rfl
    rw [hn]
    exact ⟨by decide, by decide⟩
  · cases i <;> rfl
theorem node_pushL (T : TR) (d : ND) (i : Nat) : nodeAt (pushL T d) i = if i < T.length then nodeAt T i else if i = T.length then d else {} := by
  unfold nodeAt pushL
  by_cases h : i < T.length
  · rw [if_pos h, List.getElem?_append_left h]
  · rw [if_neg h, List.getElem?_append_right (by omega)]
    by_cases h2 : i = T.length
    · rw [if_pos h2, h2, Nat.sub_self]
      rfl
    · rw [if_neg h2, List.getElem?_eq_none (by simp; omega)]
      rfl
theorem good_nodes {N : Nat} {T U : TR} (h : Good N T) (hw : WF U) (hl : U.length = T.length) (hn : ∀ i, nodeAt U i = nodeAt T i) : Good (N + 1) U :=
  ⟨hw, by rw [hl]; exact h.l0, by rw [hl]; have := h.ll; omega, fun i => by rw [hn]; exact ⟨(h.at6 i).1, by have := (h.at6 i).2; omega⟩, fun i => by rw [hn]; exact h.el i⟩
theorem Good.up {N : Nat} {T : TR} (h : Good N T) : Good (N + 1) T := good_nodes h h.wf rfl fun _ => rfl
theorem good_make {N : Nat} {T : TR} (h : Good N T) (d : ND) (ha : d.attrs.length ≤ 6) (ht : d.text.length ≤ 60 * (N + 1)) (he : d.kind = 1 → d.text = []) : Good (N + 1) (makeL T d).1 := by
  unfold makeL
  split
  · refine ⟨h.wf.push d, by simp [pushL], by have := h.ll; simp [pushL]; omega, fun i => ?_, fun i => ?_⟩
    · rw [node_pushL]
      split
      · exact ⟨(h.at6 i).1, by have := (h.at6 i).2; omega⟩
      · split
        · exact ⟨ha, ht⟩
        · exact ⟨by decide, by simp⟩
    · rw [node_pushL]
      split
      · exact h.el i
      · split
        · exact he
        · intro _; rfl
  · exact h.up
theorem copy_same {N : Nat} {T : TR} (h : Good N T) (z : Int) : copyD T z = copyL T z := by
  unfold copyD copyL
  split
  · rename_i hh
    congr 1
    have he := h.el z.toNat hh.2
    generalize nodeAt T z.toNat = d at *
    obtain ⟨k, sp, nm, aa, tx⟩ := d
    simp only at hh he
    rw [hh.2, he]
  · rfl
theorem node_addL (T : TR) (n : Nat) (s : List UInt8) (i : Nat) : nodeAt (addL T n s) i = if n = i ∧ i < T.length then { nodeAt T i with text := (nodeAt T i).text ++ s } else nodeAt T i := by
  unfold addL
  by_cases h : n < T.length
  · by_cases e : n = i
    · subst e
      rw [if_pos ⟨rfl, h⟩]
      generalize ({ nodeAt T n with text := (nodeAt T n).text ++ s } : ND) = x
      unfold nodeAt
      rw [List.getElem?_set_self h]
      rfl
    · rw [if_neg (fun hh => e hh.1)]
      generalize ({ nodeAt T n with text := (nodeAt T n).text ++ s } : ND) = x
      unfold nodeAt
      rw [List.getElem?_set_ne e]
  · rw [List.set_eq_of_length_le (by omega), if_neg (fun hh => h (by omega))]
theorem good_act {N : Nat} {T : TR} (h : Good N T) (x : AV) (hs : smallB x = true) : Good (N + 1) (actP T x).1 := by
  unfold smallB at hs
  simp only [Bool.and_eq_true, decide_eq_true_eq] at hs
  obtain ⟨h1, h2⟩ := hs
  rw [size_list] at h1
  unfold actP
  split
  · exact good_make h _ h2 (by simp) (fun _ => rfl)
  split
  · exact good_make h _ (by simp) (by show x.s.data.toList.length ≤ _; omega) (by intro e; cases e)
  split
  · exact good_make h _ (by simp) (by show x.s.data.toList.length ≤ _; omega) (by intro e; cases e)
  split
  · show Good (N + 1) (copyL T x.a).1
    unfold copyL
    split
    · exact good_make h _ (h.at6 _).1 (by simp) (fun _ => rfl)
    · exact h.up
  split
  · show Good (N + 1) (addZ T x.a x.s.data.toList).1
    unfold addZ
    split
    · split
      · rename_i hk
        refine ⟨h.wf.add _ _, by simp [addL]; exact h.l0, by simp [addL]; have := h.ll; omega, fun i => ?_, fun i => ?_⟩
        · rw [node_addL]
          split
          · refine ⟨(h.at6 i).1, ?_⟩
            simp only [List.length_append]
            have := (h.at6 i).2
            omega
          · exact ⟨(h.at6 i).1, by have := (h.at6 i).2; omega⟩
        · rw [node_addL]
          split
          · rename_i hh
            intro e
            simp only at e
            rw [hh.1] at hk
            rw [hk] at e
            cases e
          · exact h.el i
      · exact h.up
    · exact h.up
  split
  · refine good_nodes h (appendZ_wf h.wf _ _) (appendZ_len _ _ _) fun i => ?_
    show nodeAt (appendZ T x.a x.b).1 i = _
    unfold appendZ
    split
    · split
      · exact node_append _ _ _ _
      · rfl
    · rfl
  split
  · refine good_nodes h (beforeZ_wf h.wf _ _) (beforeZ_len _ _ _) fun i => ?_
    show nodeAt (beforeZ T x.a x.b).1 i = _
    unfold beforeZ
    split
    · cases parentN T x.a.toNat with
      | none => rfl
      | some p =>
        show nodeAt (if _ then _ else _ : TR × Int).1 i = _
        split
        · exact node_before _ _ _ _ _
        · rfl
    · rfl
  split
  · refine good_nodes h (removeZ_wf h.wf _) (removeZ_len _ _) fun i => ?_
    show nodeAt (removeZ T x.a).1 i = _
    unfold removeZ
    split
    · split
      · exact node_out _ _ _
      · rfl
    · rfl
  split
  · refine good_nodes h (moveZ_wf h.wf _ _) (moveZ_len _ _ _) fun i => ?_
    show nodeAt (moveZ T x.a x.b).1 i = _
    unfold moveZ
    split
    · split
      · exact node_move _ _ _ _
      · rfl
    · rfl
  · exact h.up
theorem act_same {N : Nat} {T : TR} (h : Good N T) (x : AV) : actD T x = actP T x := by
  unfold actD
  split
  · rename_i hk
    rw [copy_same h]
    unfold actP
    rw [if_neg (by omega), if_neg (by omega), if_neg (by omega), if_pos hk]
  · rfl
theorem good_fit {N M : Nat} {T U : TR} (h : Good N T) (h' : Good M U) (hN : N ≤ 40) (hM : M ≤ 40) (x : AV) (hs : smallB x = true) : Fit T U x := by
  unfold smallB at hs
  simp only [Bool.and_eq_true, decide_eq_true_eq] at hs
  exact ⟨h.wf, h'.wf, h.l0, by have := h.ll; omega, h'.l0, by have := h'.ll; omega, fun i => ⟨by have := (h.at6 i).1; omega, by have := (h.at6 i).2; omega⟩, fun i => ⟨by have := (h'.at6 i).1; omega, by have := (h'.at6 i).2; omega⟩, hs.1, hs.2⟩
end Go.Proofs.Ytjgklemhlmgheaa
