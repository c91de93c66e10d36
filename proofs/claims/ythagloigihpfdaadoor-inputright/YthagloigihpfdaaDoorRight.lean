/- Proved: for every text the card of InputRight holds: what is decoded, and made a text, is right; a text that does not begin with the mark is decoded as it is just where it is right; and the pieces' number stays; at most 300 bytes; beyond that the live question is answered as fixed. Conditions: those of the given card: the two listed tables of package utf8 start as the program's text lays them (the given tie); the walk reads neither. -/
import Derived.Test.YthagloigihpfdaaDoorCards
import Derived.Test.YthagloigihpfdaaDoorTie
import Derived.Test.YthagloigihpfdaaDoorWalkT
import Derived.Test.YthagloigihpfdaaDoorRowB
import Derived.WalkKit
import Derived.ProofKit
import Derived.OpenShut
import Derived.ShutString
import Derived.ChangeOld
import Derived.Below
import Derived.Lay
import Derived.LaidMore
import Derived.SevenTiedAt
import Derived.Deep.DeepHandedRow
set_option linter.unusedVariables false
namespace Go.Proofs.YthagloigihpfdaaDoor
open Go.ChangeShapes Go.WideShapes Go.ChangeAt Go.RowKit
open Go.ChangeMaps (open_string shut_string)

theorem ownL : ownKnob Tryd.prog.godebug = none := by kernel_rfl
theorem laidOutD : laidOutB Tryd.prog = true := by kernel_rfl
theorem max_of_shape {W : World} (h : W.ShapedOpen Tryd.prog) : MaxOk W := Tryd.laysM155.s1_3 W h

theorem dec_same (s : ByteArray) (D : List UInt8) (V : Bool) (h : D = s.data.toList ↔ V = true) : ((⟨D.toArray⟩ : ByteArray).toList == s.toList) = V := by
  rw [Lib.toList_data, Lib.toList_data, str_data, Bool.eq_iff_iff]
  simpa using h

set_option maxHeartbeats 1000000 in
theorem right_walk (s : ByteArray) (w : World) (hmx : MaxOk w) :
    Calls Tryd.prog 4 #[.string s] w fun e w' => e = .returned (.bool true) ∧ Below w.heap.size w w' := by
  have H1 := hide alive_any
  by_cases hs : 300 < s.size
  · have hs2 : (300 : Int) < s.size := by omega
    clear hs hmx
    go_enter Tryd.func4, Tryd.ntmps4
    go_wp2_with fail
    refine (H1.out _).mono ?_
    rintro e w1 ⟨rfl, b1⟩
    go_wp2
    go_ret
    exact ⟨rfl, b1⟩
  · have hs2 : ¬ (300 : Int) < s.size := by omega
    have M1 := hide (marked_any s (by omega))
    cases m1 : markedL s.data.toList
    · rw [m1] at M1
      have hl : s.data.toList.length ≤ 300 := by rw [← size_list]; omega
      have hdl := DecL_length s.data.toList
      have htl := text_length s.data.toList
      have htt : (TextL s.data.toList).length ≤ (linesL (DecL s.data.toList)).length := List.length_filter_le _ _
      have hde : DecL s.data.toList = decL s.data.toList := by unfold DecL; rw [stripL_not _ m1]
      have hvd : validL (DecL s.data.toList) = true := by rw [hde]; exact decL_valid _
      have hvt : validL (TextL s.data.toList) = true := TextL_valid _
      have hcd : countL (DecL s.data.toList) = countL s.data.toList := by rw [hde]; exact decL_count _
      have hiff : DecL s.data.toList = s.data.toList ↔ validL s.data.toList = true := by rw [hde]; exact decL_eq_iff _
      have heq := dec_same s _ _ hiff
      have D1 := hide (fun (v : Value) (W : World) (h : IsB W v s.data.toList) => decode_any s.data.toList v (by omega) W h.conv)
      have T1 := hide (fun (v : Value) (W : World) (hm : MaxOk W) (h : IsB W v s.data.toList) => text_any s.data.toList v (by omega) W hm h.conv)
      have V1 := hide (valid_any ⟨(DecL s.data.toList).toArray⟩ (str_len _ _ (by unfold maxLen; omega)))
      have V2 := hide (valid_any ⟨(TextL s.data.toList).toArray⟩ (str_len _ _ (by unfold maxLen; omega)))
      have V3 := hide (valid_any s (by unfold maxLen; omega))
      have C1 := hide (count_any ⟨(DecL s.data.toList).toArray⟩ (str_len _ _ (by unfold maxLen; omega)))
      have C2 := hide (count_any s (by unfold maxLen; omega))
      rw [str_data, hvd] at V1
      rw [str_data, hvt] at V2
      rw [str_data, hcd] at C1
      have HM := hide hmx
      have HEQ := hide heq
      have hq1 := conv_string w s
      clear hs hmx m1 hl hdl htl htt hde hvd hvt hcd hiff heq
      obtain ⟨v1, w1, k1, hv1, b1⟩ := hq1
      have HV1 := hide hv1
      clear hv1
      generalize validL s.data.toList = V at *
      generalize countL s.data.toList = C at *
      generalize (⟨(DecL s.data.toList).toArray⟩ : ByteArray) = X1 at *
      generalize (⟨(TextL s.data.toList).toArray⟩ : ByteArray) = X2 at *
      go_enter Tryd.func4, Tryd.ntmps4
      go_wp2_with fail
      refine (M1.out _).mono ?_
      rintro e w0 ⟨rfl, rfl⟩
      go_wp2_with fail
      refine (D1.out _ _ HV1.out).mono ?_
      rintro e w2 ⟨rfl, b2⟩
      have c2 := b1.trans (b2.mono b1.size)
      clear k1
      obtain ⟨v3, w3, k3, hv3, b3⟩ := conv_string w2 s
      have HV3 := hide hv3
      clear hv3
      have c3 := c2.trans (b3.mono c2.size)
      go_wp2_with fail
      refine (T1.out _ _ (HM.out.below c3) HV3.out).mono ?_
      rintro e w4 ⟨rfl, b4⟩
      have c4 := c3.trans (b4.mono c3.size)
      clear k3
      go_wp2_with fail
      refine (H1.out _).mono ?_
      rintro e w5 ⟨rfl, b5⟩
      have c5 := c4.trans (b5.mono c4.size)
      go_wp2_with fail
      refine (V1.out _).mono ?_
      rintro e w6 ⟨rfl, b6⟩
      have c6 := c5.trans (b6.mono c5.size)
      go_wp2_with fail
      refine (V2.out _).mono ?_
      rintro e w7 ⟨rfl, b7⟩
      have c7 := c6.trans (b7.mono c6.size)
      have heq := HEQ.out
      go_wp2_with fail
      refine (V3.out _).mono ?_
      rintro e w8 ⟨rfl, b8⟩
      have c8 := c7.trans (b8.mono c7.size)
      go_wp2_with fail
      refine (C1.out _).mono ?_
      rintro e w9 ⟨rfl, b9⟩
      have c9 := c8.trans (b9.mono c8.size)
      go_wp2_with fail
      refine (C2.out _).mono ?_
      rintro e wz ⟨rfl, bz⟩
      go_wp2
      go_ret
      exact ⟨by simp, c9.trans (bz.mono c9.size)⟩
    · rw [m1] at M1
      clear hs hmx m1
      go_enter Tryd.func4, Tryd.ntmps4
      go_wp2_with fail
      refine (M1.out _).mono ?_
      rintro e w0 ⟨rfl, rfl⟩
      go_wp2_with fail
      refine (H1.out _).mono ?_
      rintro e w1 ⟨rfl, b1⟩
      go_wp2
      go_ret
      exact ⟨rfl, b1⟩

set_option maxRecDepth 100000 in
theorem inputRight_lifted (os : Os) (started : os.Started) (H : Type) (enc : TypeId × Value → H) :
    ReturnsInHanded {} Tryd.checked os 4 .any (fun w args => (Rows.inputRightSpec.pre enc Tryd.prog Tryd.f4 [] false w args ∧ laidMetH Tryd.prog Rows.inputRightRow.laid w) ∧ sizedMet enc Tryd.prog Tryd.f4 (OpenSpec.ofChange Rows.inputRightSpec) false w args)
      (Rows.inputRightSpec.post enc Tryd.prog Tryd.f4 false true false false) := by
  refine returnsInHanded_of_row (C := Tryd.checked) (s := OpenSpec.ofChange Rows.inputRightSpec) (F := fun _ _ _ => 0) (conds := []) (laid := Rows.inputRightRow.laid) ownL started (by kernel_rfl) Tryd.func4
    (ChangeSpec.witness_shaped (enc := enc) (C := Tryd.checked) (os := os) (X := fun w _ => laidMetH Tryd.prog Rows.inputRightRow.laid w) false (World.laidAll Tryd.prog os Rows.inputRightRow.laid) #[.string ByteArray.empty] 8 (World.laidAll_os _ _ _)
      (World.shaped_of_ZipB (by kernel_rfl) (by kernel_rfl)) (by kernel_rfl) (by kernel_rfl) (by kernel_rfl)
      (by rw [MakeChecks.laidMetH_plain _ _ _ (by kernel_rfl)]; exact laidMet_laidAll _ (by kernel_rfl) (by kernel_rfl))) ?_
  intro W base args ds gs before hval0 hW _ _ _ _ hsh _
  have hval : ∀ (j : Nat) t v, Tryd.f4.params[j]? = some t → args[j]? = some v → Value.okWide Tryd.prog W .any base t v := hval0
  have hW' := hW
  obtain ⟨p, q, hA0, hV, rfl, hfz, hnd⟩ := hW
  have hA : DataW.TrodAll enc Tryd.prog W 0 (fun _ => true) true Tryd.f4.params.toList args.toList ds p := hA0
  rw [Tryd.params4] at hA hval
  obtain ⟨v0, vs0, d0, ds0, p0, q0, hargs, rfl, rfl, h0, r0⟩ := trodAll_cons hA
  obtain ⟨rfl, rfl, rfl⟩ := trodAll_nil r0
  obtain rfl : args = #[v0] := by cases args; simp_all
  obtain ⟨rfl, rfl⟩ := trodVars_none hV
  obtain ⟨a0, rfl, rfl, rfl, w0⟩ := open_string Tryd.underlying9 (hval 0 9 v0 rfl rfl) h0
  clear hA0 hval0
  refine (right_walk a0 W  (max_of_shape hsh)).mono fun e W' ⟨he, bel⟩ => ?_
  subst he
  exact ⟨_, rfl, _, _, _, [], _, [], hW', trodAll_mk1 (shut_bool Tryd.underlying4 _), (trodAll_cons_mk (shut_string Tryd.underlying9 w0) trodAll_mk0), rfl, bel.frame _, fun h => by cases h⟩

theorem inputRight_holds : Rows.InputRightSaid :=
  OpenClaim.holds_of_wide 4 Tryd.f4 rfl rfl rfl rfl rfl rfl rfl ⟨rfl, rfl, rfl, rfl, rfl⟩ rfl rfl rfl rfl rfl (by kernel_rfl) Tryd.func4 (by kernel_rfl)
    (of_decide_eq_true (by kernel_rfl)) (by unfold Func.isWrapper; first | (rw [if_pos (by decide +kernel)]; kernel_rfl) | (rw [if_neg (by decide +kernel)]; exact ⟨rfl, rfl⟩))
    (fun os started H enc _ => inputRight_lifted os started H enc)

theorem inputRight_card : Rows.InputRightCardSaid :=
  Claim7.holds_tied_plain_at .later [] _ _ _ _ inputRight_holds (fun _ h => by cases h) (by kernel_rfl) (fun _ h => by cases h) inputRight_row_tie rfl ⟨rfl, rfl⟩ (by kernel_rfl) rfl
    (fun f fn hf hfn => by
      obtain rfl : f = 4 := Option.some.inj ((show Tryd.prog.funcNamed Rows.inputRightRow.func = some 4 by kernel_rfl).symm.trans hf) |>.symm
      obtain rfl : fn = Tryd.f4 := (Option.some.inj (Tryd.func4.symm.trans hfn)).symm
      exact ⟨by kernel_rfl, fun j t ht => by
        rw [Tryd.params4] at ht
        have hm : t ∈ [9] := by simpa using Array.mem_of_getElem? ht
        have hall : ([9].all fun u => !Tryd.prog.wantsStandIn u) = true := by kernel_rfl
        exact (show Tryd.prog.wantsStandIn t = false by simpa using List.all_eq_true.1 hall t hm)⟩)
    (by kernel_rfl)
end Go.Proofs.YthagloigihpfdaaDoor
