/- Proved: for every text the card of InputTidy holds: Text answers no carriage return and no nought, and changes its own answer no more, if that does not begin with the mark; Lines is no longer than the text, and done twice it is done once; at most 300 bytes; beyond that the live question is answered as fixed. Conditions: those of the given card: the two listed tables of package utf8 start as the program's text lays them (the given tie); the walk reads neither. -/
import Derived.Test.YthagloigihpfdabDoorCards
import Derived.Test.YthagloigihpfdabDoorTie
import Derived.Test.YthagloigihpfdabDoorWalkT0
import Derived.Test.YthagloigihpfdabDoorWalkM
import Derived.WalkKit
import Derived.ProofKit
import Derived.OpenShut
import Derived.ShutString
import Derived.ChangeOld
import Derived.Below
import Derived.Lay
import Derived.LaidMore
import Derived.SevenTiedAt
import Derived.Deep.DeepHandedRow
set_option linter.unusedVariables false
namespace Go.Proofs.YthagloigihpfdabDoor
open Go.ChangeShapes Go.WideShapes Go.ChangeAt Go.RowKit
open Go.ChangeMaps (open_string shut_string)

theorem ownL : ownKnob Tryd.prog.godebug = none := by kernel_rfl
theorem laidOutD : laidOutB Tryd.prog = true := by kernel_rfl
theorem max_of_shape {W : World} (h : W.ShapedOpen Tryd.prog) : MaxOk W := Tryd.laysM155.s1_3 W h

theorem str_data (l : List UInt8) : (⟨l.toArray⟩ : ByteArray).data.toList = l := rfl
theorem str_size (l : List UInt8) : (⟨l.toArray⟩ : ByteArray).size = l.length := size_list ⟨l.toArray⟩
theorem str_same (a b : List UInt8) (h : a = b) : ((⟨a.toArray⟩ : ByteArray).toList == (⟨b.toArray⟩ : ByteArray).toList) = true := by
  rw [h]; simp
theorem str_same_ne (a b : List UInt8) (h : a = b) : ((⟨a.toArray⟩ : ByteArray).toList != (⟨b.toArray⟩ : ByteArray).toList) = false := by
  rw [h]; simp
theorem at_list (x : ByteArray) (k : Nat) (h : k < x.size) : x[k] ∈ x.data.toList := by
  have e := drop_cons x k h
  have : x[k] ∈ x.data.toList.drop k := by rw [e]; simp
  exact List.mem_of_mem_drop this

set_option maxHeartbeats 1000000 in
theorem tidy_walk (s : ByteArray) (w : World) (hmx : MaxOk w) :
    Calls Tryd.prog 3 #[.string s] w fun e w' => e = .returned (.bool true) ∧ Below w.heap.size w w' := by
  have H1 := hide alive_any
  by_cases hs : 300 < s.size
  · have hs2 : (300 : Int) < s.size := by omega
    clear hs hmx
    go_enter Tryd.func3, Tryd.ntmps3
    go_wp2_with fail
    refine (H1.out _).mono ?_
    rintro e w1 ⟨rfl, b1⟩
    go_wp2
    go_ret
    exact ⟨rfl, b1⟩
  · have hs2 : ¬ (300 : Int) < s.size := by omega
    have hl : s.data.toList.length ≤ 300 := by rw [← size_list]; omega
    have htl := text_length s.data.toList
    have htt : (TextL s.data.toList).length ≤ (linesL (DecL s.data.toList)).length := List.length_filter_le _ _
    have hno := TextL_no s.data.toList
    have hag := TextL_again s.data.toList
    have hll := linesL_len s.data.toList
    have hlt := linesL_twice s.data.toList
    have T1 := hide (fun (v : Value) (W : World) (hm : MaxOk W) (h : IsB W v s.data.toList) => text_any s.data.toList v (by omega) W hm h.conv)
    have T2 := hide (fun (v : Value) (W : World) (hm : MaxOk W) (h : IsB W v (TextL s.data.toList)) => text_any (TextL s.data.toList) v (by omega) W hm h.conv)
    have L1 := hide (lines_any s (by omega))
    have L2 := hide (lines_any ⟨(linesL s.data.toList).toArray⟩ (by rw [str_size]; omega))
    rw [str_data, hlt] at L2
    have M1 := hide (marked_any ⟨(TextL s.data.toList).toArray⟩ (by rw [str_size]; omega))
    rw [str_data] at M1
    have hxz : (⟨(TextL s.data.toList).toArray⟩ : ByteArray).size ≤ 900 := by rw [str_size]; omega
    have hlz : (⟨(linesL s.data.toList).toArray⟩ : ByteArray).size ≤ s.size := by rw [str_size, size_list s]; exact hll
    have hlz2 : ¬ (s.size : Int) < ((⟨(linesL s.data.toList).toArray⟩ : ByteArray).size : Int) := by omega
    have hno2 : ∀ k (h : k < (⟨(TextL s.data.toList).toArray⟩ : ByteArray).size), (((⟨(TextL s.data.toList).toArray⟩ : ByteArray)[k]).toNat ≠ 0) ∧ (((⟨(TextL s.data.toList).toArray⟩ : ByteArray)[k]).toNat ≠ 13) := by
      intro k h
      have := hno _ (at_list _ k h)
      constructor
      · intro e; exact this.1 (UInt8.toNat_inj.1 e)
      · intro e; exact this.2 (UInt8.toNat_inj.1 e)
    have HNO := hide hno2
    have HM := hide hmx
    have T2b : Hid (markedL (TextL s.data.toList) = false → ∀ (v : Value) (W : World), MaxOk W → IsB W v (⟨(TextL s.data.toList).toArray⟩ : ByteArray).data.toList → Calls Tryd.prog 5 #[v] W fun e w' => e = .returned (.string ⟨(TextL s.data.toList).toArray⟩) ∧ Below W.heap.size W w') := by
      intro hm0 v W hm h
      have h2 := T2.out v W hm h
      rw [hag hm0] at h2
      exact h2
    clear hs hmx hl htl htt hno hag hll hlt hno2 T2
    generalize markedL (TextL s.data.toList) = Mk at *
    generalize (⟨(TextL s.data.toList).toArray⟩ : ByteArray) = X at *
    generalize (⟨(linesL s.data.toList).toArray⟩ : ByteArray) = L at *
    obtain ⟨v1, w1, k1, hv1, b1⟩ := conv_string w s
    have HV1 := hide hv1
    clear hv1
    go_enter Tryd.func3, Tryd.ntmps3
    go_wp2_with fail
    refine (T1.out _ _ (HM.out.below b1) HV1.out).mono ?_
    rintro e w2 ⟨rfl, b2⟩
    have c2 := b1.trans (b2.mono b1.size)
    clear k1
    go_wp2
    go_loop [4] (fun ti => ∃ k : Nat, k ≤ X.size ∧ ti = .int .i64 k) (fun ti => X.size - (intOf ti).toNat)
    case atStart => exact ⟨0, by omega, rfl⟩
    case round =>
      obtain ⟨k, hk, rfl⟩ := hrel
      by_cases hp : k < X.size
      · have hz := HNO.out k hp
        have n0 : ((X[k].toNat : Int) == 0) = false := beq_eq_false_iff_ne.2 (by omega)
        have n1 : ((X[k].toNat : Int) == 13) = false := beq_eq_false_iff_ne.2 (by omega)
        clear hz
        go_wp2
        go_round
        case rel => exact ⟨k + 1, by omega, by go_num⟩
        case measure => simp [intOf]; omega
      · go_wp2_with fail
        refine (L1.out _).mono ?_
        rintro e w3 ⟨rfl, b3⟩
        have c3 := c2.trans (b3.mono c2.size)
        go_wp2_with fail
        refine (L2.out _).mono ?_
        rintro e w4 ⟨rfl, b4⟩
        have c4 := c3.trans (b4.mono c3.size)
        go_wp2_with fail
        refine (H1.out _).mono ?_
        rintro e w5 ⟨rfl, b5⟩
        have c5 := c4.trans (b5.mono c4.size)
        go_wp2_with fail
        refine (M1.out _).mono ?_
        rintro e w6 ⟨rfl, rfl⟩
        cases Mk
        · obtain ⟨v7, w7, k7, hv7, b7⟩ := conv_string w6 X
          have HV7 := hide hv7
          clear hv7
          have c7 := c5.trans (b7.mono c5.size)
          go_wp2_with fail
          refine (T2b.out trivial _ _ (HM.out.below c7) HV7.out).mono ?_
          rintro e w8 ⟨rfl, b8⟩
          clear k7
          go_wp2
          go_ret
          exact ⟨by simp, c7.trans (b8.mono c7.size)⟩
        · go_wp2
          go_ret
          exact ⟨rfl, c5⟩

set_option maxRecDepth 100000 in
theorem inputTidy_lifted (os : Os) (started : os.Started) (H : Type) (enc : TypeId × Value → H) :
    ReturnsInHanded {} Tryd.checked os 3 .any (fun w args => (Rows.inputTidySpec.pre enc Tryd.prog Tryd.f3 [] false w args ∧ laidMetH Tryd.prog Rows.inputTidyRow.laid w) ∧ sizedMet enc Tryd.prog Tryd.f3 (OpenSpec.ofChange Rows.inputTidySpec) false w args)
      (Rows.inputTidySpec.post enc Tryd.prog Tryd.f3 false true false false) := by
  refine returnsInHanded_of_row (C := Tryd.checked) (s := OpenSpec.ofChange Rows.inputTidySpec) (F := fun _ _ _ => 0) (conds := []) (laid := Rows.inputTidyRow.laid) ownL started (by kernel_rfl) Tryd.func3
    (ChangeSpec.witness_shaped (enc := enc) (C := Tryd.checked) (os := os) (X := fun w _ => laidMetH Tryd.prog Rows.inputTidyRow.laid w) false (World.laidAll Tryd.prog os Rows.inputTidyRow.laid) #[.string ByteArray.empty] 8 (World.laidAll_os _ _ _)
      (World.shaped_of_ZipB (by kernel_rfl) (by kernel_rfl)) (by kernel_rfl) (by kernel_rfl) (by kernel_rfl)
      (by rw [MakeChecks.laidMetH_plain _ _ _ (by kernel_rfl)]; exact laidMet_laidAll _ (by kernel_rfl) (by kernel_rfl))) ?_
  intro W base args ds gs before hval0 hW _ _ _ _ hsh _
  have hval : ∀ (j : Nat) t v, Tryd.f3.params[j]? = some t → args[j]? = some v → Value.okWide Tryd.prog W .any base t v := hval0
  have hW' := hW
  obtain ⟨p, q, hA0, hV, rfl, hfz, hnd⟩ := hW
  have hA : DataW.TrodAll enc Tryd.prog W 0 (fun _ => true) true Tryd.f3.params.toList args.toList ds p := hA0
  rw [Tryd.params3] at hA hval
  obtain ⟨v0, vs0, d0, ds0, p0, q0, hargs, rfl, rfl, h0, r0⟩ := trodAll_cons hA
  obtain ⟨rfl, rfl, rfl⟩ := trodAll_nil r0
  obtain rfl : args = #[v0] := by cases args; simp_all
  obtain ⟨rfl, rfl⟩ := trodVars_none hV
  obtain ⟨a0, rfl, rfl, rfl, w0⟩ := open_string Tryd.underlying9 (hval 0 9 v0 rfl rfl) h0
  clear hA0 hval0
  refine (tidy_walk a0 W  (max_of_shape hsh)).mono fun e W' ⟨he, bel⟩ => ?_
  subst he
  exact ⟨_, rfl, _, _, _, [], _, [], hW', trodAll_mk1 (shut_bool Tryd.underlying4 _), (trodAll_cons_mk (shut_string Tryd.underlying9 w0) trodAll_mk0), rfl, bel.frame _, fun h => by cases h⟩

theorem inputTidy_holds : Rows.InputTidySaid :=
  OpenClaim.holds_of_wide 3 Tryd.f3 rfl rfl rfl rfl rfl rfl rfl ⟨rfl, rfl, rfl, rfl, rfl⟩ rfl rfl rfl rfl rfl (by kernel_rfl) Tryd.func3 (by kernel_rfl)
    (of_decide_eq_true (by kernel_rfl)) (by unfold Func.isWrapper; first | (rw [if_pos (by decide +kernel)]; kernel_rfl) | (rw [if_neg (by decide +kernel)]; exact ⟨rfl, rfl⟩))
    (fun os started H enc _ => inputTidy_lifted os started H enc)

theorem inputTidy_card : Rows.InputTidyCardSaid :=
  Claim7.holds_tied_plain_at .later [] _ _ _ _ inputTidy_holds (fun _ h => by cases h) (by kernel_rfl) (fun _ h => by cases h) inputTidy_row_tie rfl ⟨rfl, rfl⟩ (by kernel_rfl) rfl
    (fun f fn hf hfn => by
      obtain rfl : f = 3 := Option.some.inj ((show Tryd.prog.funcNamed Rows.inputTidyRow.func = some 3 by kernel_rfl).symm.trans hf) |>.symm
      obtain rfl : fn = Tryd.f3 := (Option.some.inj (Tryd.func3.symm.trans hfn)).symm
      exact ⟨by kernel_rfl, fun j t ht => by
        rw [Tryd.params3] at ht
        have hm : t ∈ [9] := by simpa using Array.mem_of_getElem? ht
        have hall : ([9].all fun u => !Tryd.prog.wantsStandIn u) = true := by kernel_rfl
        exact (show Tryd.prog.wantsStandIn t = false by simpa using List.all_eq_true.1 hall t hm)⟩)
    (by kernel_rfl)
end Go.Proofs.YthagloigihpfdabDoor
