/- What the document's own Drop, Clear and Insert answer; nothing that was there is written. -/
import Derived.Test.YtihpjalbdkiecaaRC7
set_option linter.unusedVariables false
set_option linter.unusedSimpArgs false
namespace Go.Proofs.Ytihpjalbdkiecaa
open Go.RowKit

set_option maxHeartbeats 1000000 in
theorem rdrop_any (v : Value) (l : List MV) (hl : l.length ≤ 1000000) (z : Int) (w : World) (hM : RowM w v l) (hOk : OkM w l) :
    Calls Try.prog 21 #[v, .int .i64 z] w fun e w' => (∃ v', e = .returned v' ∧ NewM w.heap.size w' v' (dropL l z)) ∧ Below w.heap.size w w' := by
  have H1 := hide (rfind_any v l hl z w hM)
  have H2 := hide (rwithout_any v l hl (findZ l z) w hM hOk)
  obtain ⟨a, c, rfl⟩ := rowM_form hM
  unfold dropL
  generalize findZ l z = F at *
  clear hM hOk
  go_enter Try.func21, Try.ntmps21
  go_wp2_with fail
  refine H1.out.mono ?_
  rintro e w1 ⟨rfl, rfl⟩
  go_wp2_with fail
  refine H2.out.mono ?_
  rintro e w2 ⟨⟨v', n, rfl, ho⟩, b2⟩
  obtain ⟨a4, c4, rfl⟩ := owns_form ho
  have HO := hide (owns_new ho)
  clear ho
  go_wp2
  go_ret
  exact ⟨⟨_, rfl, HO.out⟩, b2⟩

set_option maxHeartbeats 1000000 in
theorem rclear_any (v : Value) (l : List MV) (hl : l.length ≤ 1000000) (w : World) (hM : RowM w v l) (hOk : OkM w l) :
    Calls Try.prog 20 #[v] w fun e w' => (∃ v', e = .returned v' ∧ NewM w.heap.size w' v' (clearL l)) ∧ Below w.heap.size w w' := by
  have BA := hide (below_alloc w (.cells #[] 27))
  have H1 := hide (rbehind_any v l hl (w.alloc (.cells #[] 27)) (hM.below BA.out))
  obtain ⟨a, c, rfl⟩ := rowM_form hM
  have HM := hide hM
  have HOK := hide hOk
  clear hM hOk
  have HO := hide (owns_empty w)
  have hbl := behind_len l
  unfold clearL
  generalize behindL l = B at *
  go_enter Try.func20, Try.ntmps20
  go_wp2_with fail
  refine H1.out.mono ?_
  rintro e w1 ⟨rfl, rfl⟩
  go_wp2_with fail
  go_loopw [3, 5] (fun x i wr => ∃ (k : Nat) (a3 : Option Addr) (c3 : Nat), k ≤ B - 1 ∧ x = .slice a3 k c3 ∧ i = .int .i64 (k : Int) ∧ Hid (wr.ownsRow w.heap.size 27 3 (.slice a3 k c3) k (markCells (l.take k))) ∧ Hid (Below w.heap.size w wr)) (fun _ i _ => B - (intOf i).toNat)
  case atStart => exact ⟨0, _, _, Nat.zero_le _, rfl, rfl, HO, BA⟩
  case round =>
    obtain ⟨k, a3, c3, hk, rfl, rfl, HR, BW⟩ := hrel
    by_cases hkB : k < B - 1
    · have hlt : k < l.length := by omega
      have hlt2 : (k : Int) < l.length := by omega
      have hkb2 : (k : Int) < (B : Int) - 1 := by omega
      obtain ⟨b, o, rfl, c0, c1, c2⟩ := (HM.out.below BW.out).get k hlt
      obtain ⟨qa, qc, hqa⟩ := isQ_form (HOK.out.at_ k hlt)
      obtain ⟨v', w', hr, ho, hb⟩ := append_mark wr w.heap.size k (.slice a3 k c3) (l.take k) l[k] qa qc hqa HR.out (by omega) BW.out.size
      rw [← List.take_succ_eq_append_getElem hlt] at ho
      rw [hqa] at c2 hr
      obtain ⟨a4, c4, rfl⟩ := owns_form ho
      generalize l[k].id = id at *
      generalize l[k].nm = nm at *
      generalize l[k].aa.length = ql at *
      have HRUN := hide hr
      have HO2 := hide ho
      have B2 := hide (BW.out.trans hb)
      clear hr ho hb HR hlt hqa
      go_wp2_with (with_reducible refine wpList_append_run rfl _ _ 25 rfl (.slice a3 k c3) (.slice (some ⟨wr.heap.size, 0, none⟩) 1 1) _ w' rfl rfl HRUN.out ?_)
      go_roundw
      case rel => exact ⟨k + 1, a4, c4, by omega, rfl, by go_num, HO2, B2⟩
      case measure => simp [intOf]; omega
    · have hkb2 : ¬ ((k : Int) < (B : Int) - 1) := by omega
      have e : l.take k = l.take (B - 1) := by
        have : k = B - 1 := by omega
        rw [this]
      have HN := hide (owns_new HR.out)
      rw [e] at HN
      clear HR e
      go_wp2
      go_ret
      exact ⟨⟨_, rfl, HN.out⟩, BW.out⟩

/-- Of the first k, with m at z. -/
def putK (l : List MV) (z : Int) (m : MV) : Nat → List MV
  | 0 => []
  | k + 1 => putK l z m k ++ (if ((k : Nat) : Int) = z then [m] else []) ++ l[k]?.toList
theorem putK_here (l : List MV) (z : Int) (m : MV) (k : Nat) (hk : k < l.length) (h : (k : Int) = z) : putK l z m (k + 1) = putK l z m k ++ [m] ++ [l[k]] := by
  rw [putK, if_pos h, List.getElem?_eq_getElem hk]; rfl
theorem putK_other (l : List MV) (z : Int) (m : MV) (k : Nat) (hk : k < l.length) (h : (k : Int) ≠ z) : putK l z m (k + 1) = putK l z m k ++ [l[k]] := by
  rw [putK, if_neg h, List.getElem?_eq_getElem hk, List.append_nil]; rfl
theorem putK_below (l : List MV) (z : Int) (m : MV) : ∀ k, k ≤ l.length → (k : Int) ≤ z → putK l z m k = l.take k := by
  intro k
  induction k with
  | zero => intro _ _; rfl
  | succ k ih =>
    intro hk h
    have hk2 : k < l.length := by omega
    rw [putK_other l z m k hk2 (by omega), ih (by omega) (by omega), List.take_succ_eq_append_getElem hk2]
theorem putK_above (l : List MV) (j : Nat) (hj : j < l.length) (m : MV) : ∀ d, j + 1 + d ≤ l.length → putK l (j : Int) m (j + 1 + d) = l.take j ++ m :: (l.take (j + 1 + d)).drop j := by
  intro d
  induction d with
  | zero =>
    intro _
    rw [Nat.add_zero, putK_here l _ m j hj rfl, putK_below l _ m j (by omega) (by omega), List.take_succ_eq_append_getElem hj, List.drop_append_of_le_length (by rw [List.length_take]; omega)]
    rw [List.drop_eq_nil_of_le (by rw [List.length_take]; omega)]
    simp
  | succ d ih =>
    intro hd
    have hk2 : j + 1 + d < l.length := by omega
    rw [show j + 1 + (d + 1) = (j + 1 + d) + 1 by omega, putK_other l _ m _ hk2 (by omega), ih (by omega), List.take_succ_eq_append_getElem hk2, List.drop_append_of_le_length (by rw [List.length_take]; omega)]
    simp
theorem putK_end (l : List MV) (z : Int) (m : MV) (h : (l.length : Int) ≤ z) : putK l z m l.length ++ [m] = insertL l z m := by
  rw [putK_below l z m _ (Nat.le_refl _) h, List.take_length]
  unfold insertL
  have : atN l z = l.length := by unfold atN; omega
  rw [this, List.take_length, List.drop_length]
theorem putK_mid (l : List MV) (z : Int) (m : MV) (h0 : 0 ≤ z) (h : z < (l.length : Int)) : putK l z m l.length = insertL l z m := by
  have hz : z.toNat < l.length := by omega
  obtain ⟨d, hd⟩ : ∃ d, z.toNat + 1 + d = l.length := ⟨l.length - (z.toNat + 1), by omega⟩
  have e : ((z.toNat : Nat) : Int) = z := by omega
  have := putK_above l z.toNat hz m d (by omega)
  rw [hd, e, List.take_length] at this
  rw [this]
  unfold insertL
  have : atN l z = z.toNat := by unfold atN; omega
  rw [this]
theorem insert_neg (l : List MV) (z : Int) (m : MV) (h : z < 0) : insertL l z m = insertL l 0 m := by
  unfold insertL
  have : atN l z = atN l 0 := by unfold atN; rw [show z.toNat = 0 by omega]; rfl
  rw [this]
end Go.Proofs.Ytihpjalbdkiecaa
