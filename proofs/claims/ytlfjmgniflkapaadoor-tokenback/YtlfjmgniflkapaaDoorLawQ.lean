/- What the statements' own quoted answers; the world stays as it was. The document's comparison of a token and itself, also where the list of no length came in. -/
import Derived.Test.YtlfjmgniflkapaaDoorLawH
import Derived.Test.YtlfjmgniflkapaaDoorSameP
set_option linter.unusedVariables false
set_option linter.unusedSimpArgs false
namespace Go.Proofs.YtlfjmgniflkapaaDoor
open Go.RowKit

theorem escQ_app (a b : List UInt8) : escQ (a ++ b) = escQ a ++ escQ b := by
  induction a with
  | nil => rfl
  | cons c r ih =>
    simp only [List.cons_append, escQ]
    split
    · rw [ih]; rfl
    · split
      · rw [ih]; rfl
      · rw [ih, List.cons_append]
theorem escQ_one (s : ByteArray) (k : Nat) (h : k < s.size) : escQ (s.data.toList.take (k + 1)) = escQ (s.data.toList.take k) ++ escQ [s[k]] := by
  rw [← escQ_app]
  congr 1
  have h2 : k < s.data.toList.length := by rw [← size_list]; exact h
  rw [List.take_succ_eq_append_getElem h2]
  rfl
def quotedL (l : List UInt8) : List UInt8 := 34 :: (escQ l ++ [34])
set_option maxHeartbeats 1000000 in
theorem lquoted_any (s : ByteArray) (hs : s.size ≤ 1000) (w : World) :
    Calls Tryd.prog 12 #[.string s] w fun e w' => (∃ q : ByteArray, e = .returned (.string q) ∧ q.data.toList = quotedL s.data.toList ∧ q.size ≤ 6 * s.size + 2) ∧ w' = w := by
  go_enter Tryd.func12, Tryd.ntmps12
  go_wp2
  go_loop [3, 4] (fun vo i => ∃ (k : Nat) (o : ByteArray), k ≤ s.size ∧ vo = .string o ∧ i = .int .i64 k ∧ o.size ≤ 6 * k ∧ Hid (o.data.toList = escQ (s.data.toList.take k))) (fun _ i => s.size - (intOf i).toNat)
  case atStart => exact ⟨0, ⟨#[]⟩, by omega, rfl, rfl, by decide, hide rfl⟩
  case round =>
    obtain ⟨k, o, hk, rfl, rfl, ho, HO⟩ := hrel
    by_cases hlt : k < s.size
    · have hlt2 : (k : Int) < s.size := by omega
      have hst := escQ_one s k hlt
      rw [← HO.out] at hst
      by_cases h38 : s[k].toNat = 38
      · have h38' : (s[k].toNat : Int) = 38 := by omega
        have hc : s[k] = 38 := UInt8.toNat_inj.1 h38
        have HN : Hid ((o ++ (⟨#[38, 97, 109, 112, 59]⟩ : ByteArray)).data.toList = escQ (s.data.toList.take (k + 1))) := hide (by
          rw [hst, str_app _ _ _ _ rfl (rfl : (⟨#[38, 97, 109, 112, 59]⟩ : ByteArray).data.toList = [38, 97, 109, 112, 59]), hc]
          rfl)
        have hz : (o ++ (⟨#[38, 97, 109, 112, 59]⟩ : ByteArray)).size ≤ 6 * (k + 1) := by rw [ByteArray.size_append]; show o.size + 5 ≤ _; omega
        clear hst hc HO
        go_wp2
        go_round
        case rel => exact ⟨k + 1, _, by omega, rfl, by go_num, hz, HN⟩
        case measure => simp [intOf]; omega
      · have h38' : ¬ (s[k].toNat : Int) = 38 := by omega
        have hc : ¬ s[k] = 38 := fun h => h38 (by rw [h]; rfl)
        by_cases h34 : s[k].toNat = 34
        · have h34' : (s[k].toNat : Int) = 34 := by omega
          have hc2 : s[k] = 34 := UInt8.toNat_inj.1 h34
          have HN : Hid ((o ++ (⟨#[38, 113, 117, 111, 116, 59]⟩ : ByteArray)).data.toList = escQ (s.data.toList.take (k + 1))) := hide (by
            rw [hst, str_app _ _ _ _ rfl (rfl : (⟨#[38, 113, 117, 111, 116, 59]⟩ : ByteArray).data.toList = [38, 113, 117, 111, 116, 59]), hc2]
            rfl)
          have hz : (o ++ (⟨#[38, 113, 117, 111, 116, 59]⟩ : ByteArray)).size ≤ 6 * (k + 1) := by rw [ByteArray.size_append]; show o.size + 6 ≤ _; omega
          clear hst hc hc2 HO
          go_wp2
          go_round
          case rel => exact ⟨k + 1, _, by omega, rfl, by go_num, hz, HN⟩
          case measure => simp [intOf]; omega
        · have h34' : ¬ (s[k].toNat : Int) = 34 := by omega
          have hc2 : ¬ s[k] = 34 := fun h => h34 (by rw [h]; rfl)
          have hx : (s.extract k (k + 1)).data.toList = [s[k]] := by
            rw [Lib.extract_data, Nat.add_sub_cancel_left, drop_cons s k hlt]
            rfl
          have hxs : (s.extract k (k + 1)).size = 1 := by rw [size_list, hx]; rfl
          have HN : Hid ((o ++ s.extract k (k + 1)).data.toList = escQ (s.data.toList.take (k + 1))) := hide (by
            rw [hst, str_app _ _ _ _ rfl hx]
            simp only [escQ]
            rw [if_neg hc, if_neg hc2])
          have hz : (o ++ s.extract k (k + 1)).size ≤ 6 * (k + 1) := by rw [ByteArray.size_append, hxs]; omega
          clear hst hc hc2 hx HO
          go_wp2
          go_round
          case rel => exact ⟨k + 1, _, by omega, rfl, by go_num, hz, HN⟩
          case measure => simp [intOf]; omega
    · have hlt2 : ¬ (k : Int) < s.size := by omega
      have hks : k = s.size := by omega
      have HN : Hid (((⟨#[34]⟩ : ByteArray) ++ o ++ ⟨#[34]⟩).data.toList = quotedL s.data.toList) := hide (by
        rw [str_app _ _ _ _ (str_app _ _ _ _ (rfl : (⟨#[34]⟩ : ByteArray).data.toList = [34]) rfl) (rfl : (⟨#[34]⟩ : ByteArray).data.toList = [34]), HO.out, hks, size_list, List.take_length]
        rfl)
      have hz : ((⟨#[34]⟩ : ByteArray) ++ o ++ ⟨#[34]⟩).size ≤ 6 * s.size + 2 := by rw [ByteArray.size_append, ByteArray.size_append]; show 1 + o.size + 1 ≤ _; omega
      clear HO
      go_wp2
      go_ret
      exact ⟨⟨_, rfl, HN.out, hz⟩, rfl⟩

/-- A list of attributes as it may come in: of no length, it may lie anywhere. -/
def IsZ (w : World) (v : Value) (aa : AttrL) : Prop := IsA w v aa ∨ (aa = [] ∧ ∃ a c, v = .slice a 0 c)
theorem IsZ.below {w w' : World} {v : Value} {aa : AttrL} (h : IsZ w v aa) (hb : Below w.heap.size w w') : IsZ w' v aa := h.elim (fun h => .inl (h.below hb)) .inr
theorem isZ_form {w : World} {v : Value} {aa : AttrL} (h : IsZ w v aa) : ∃ a c, v = .slice a aa.length c := by
  rcases h with h | ⟨rfl, a, c, rfl⟩
  · exact isA_form h
  · exact ⟨a, c, rfl⟩
set_option maxHeartbeats 1000000 in
theorem attrs_zero (a1 a2 : Option Addr) (c1 c2 : Nat) (w : World) :
    Calls Tryd.prog 18 #[.slice a1 0 c1, .slice a2 0 c2] w fun e w' => e = .returned (.bool true) ∧ Below w.heap.size w w' := by
  go_enter Tryd.func18, Tryd.ntmps18
  go_wp2
  go_loop [5] (fun ti => ti = .int .i64 0) (fun _ => 0)
  case atStart => rfl
  case round =>
    subst hrel
    go_wp2
    go_ret
    exact ⟨rfl, Below.refl _ _⟩
theorem attrs_self (va vb : Value) (aa : AttrL) (ha : aa.length ≤ 1000000) (w : World) (hA : IsZ w va aa) (hB : IsZ w vb aa) :
    Calls Tryd.prog 18 #[va, vb] w fun e w' => e = .returned (.bool true) ∧ Below w.heap.size w w' := by
  cases aa with
  | nil =>
    obtain ⟨a1, c1, rfl⟩ := isZ_form hA
    obtain ⟨a2, c2, rfl⟩ := isZ_form hB
    exact attrs_zero a1 a2 c1 c2 w
  | cons x y =>
    have h1 : IsA w va (x :: y) := hA.elim id fun h => nomatch h.1
    have h2 : IsA w vb (x :: y) := hB.elim id fun h => nomatch h.1
    have h := attrs_any va vb (x :: y) (x :: y) ha ha w h1 h2
    rw [show ((x :: y) == (x :: y)) = true from by simp] at h
    exact h
set_option maxHeartbeats 1000000 in
theorem same_z (kd : Nat) (x1 x2 : ByteArray) (cl : Bool) (aa : AttrL) (va vb : Value) (ha : aa.length ≤ 1000000) (w : World) (hA : IsZ w va aa) (hB : IsZ w vb aa) :
    Calls Tryd.prog 13 #[.agg #[.int .i64 (kd : Int), .string x1, va, .bool cl, .string x2], .agg #[.int .i64 (kd : Int), .string x1, vb, .bool cl, .string x2]] w fun e w' => e = .returned (.bool true) ∧ Below w.heap.size w w' := by
  have HAT := hide (fun W (hb0 : Below w.heap.size w W) => attrs_self va vb aa ha W (hA.below hb0) (hB.below hb0))
  obtain ⟨a1, c1, rfl⟩ := isZ_form hA
  obtain ⟨a2, c2, rfl⟩ := isZ_form hB
  clear hA hB
  go_enter Tryd.func13, Tryd.ntmps13
  go_wp2_with fail
  refine (HAT.out _ ((below_alloc w _).alloc (below_alloc w _).size _)).mono ?_
  rintro e w1 ⟨rfl, b1⟩
  obtain ⟨hcell, hfz⟩ := bcell b1
  have hcA := fun o => hcell w.heap.size o (by simp; omega)
  have hcB := fun o => hcell (w.heap.size + 1) o (by simp)
  have HB1 := hide b1
  clear b1 hcell hfz
  go_wp2_with fail
  go_ret
  exact ⟨rfl, ((below_alloc w _).alloc (below_alloc w _).size _).trans (HB1.out.mono (by simp; omega))⟩
end Go.Proofs.YtlfjmgniflkapaaDoor
