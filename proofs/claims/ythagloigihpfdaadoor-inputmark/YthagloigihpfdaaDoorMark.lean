/- Proved: for every list of bytes the card of InputMark holds: bytes that do not begin with the mark are decoded, and made a text, alike with it ahead and without, at most 300 bytes; beyond that the live question is answered as fixed. Conditions: those of the given card: the two listed tables of package utf8 start as the program's text lays them (the given tie); the walk reads neither. -/
import Derived.Test.YthagloigihpfdaaDoorCards
import Derived.Test.YthagloigihpfdaaDoorTie
import Derived.Test.YthagloigihpfdaaDoorWalkT
import Derived.Test.YthagloigihpfdaaDoorRowB
import Derived.WalkKit
import Derived.ProofKit
import Derived.OpenShut
import Derived.ShutString
import Derived.ChangeOld
import Derived.Below
import Derived.Lay
import Derived.LaidMore
import Derived.SevenTiedAt
import Derived.Deep.DeepHandedRow
set_option linter.unusedVariables false
namespace Go.Proofs.YthagloigihpfdaaDoor
open Go.ChangeShapes Go.WideShapes Go.ChangeAt Go.RowKit
open Go.ChangeMaps (open_string shut_string)

theorem ownL : ownKnob Tryd.prog.godebug = none := by kernel_rfl
theorem laidOutD : laidOutB Tryd.prog = true := by kernel_rfl
theorem max_of_shape {W : World} (h : W.ShapedOpen Tryd.prog) : MaxOk W := Tryd.laysM155.s1_3 W h

set_option maxHeartbeats 1000000 in
theorem mark_walk (a : Option Addr) (len cap : Nat) (l : List UInt8) (hlen : l.length = len) (w : World) (hb : IsB w (.slice a len cap) l) (hmx : MaxOk w) :
    Calls Tryd.prog 5 #[.slice a len cap] w fun e w' => e = .returned (.bool true) ∧ Below w.heap.size w w' := by
  have H1 := hide alive_any
  by_cases hs : 300 < len
  · have hs2 : (300 : Int) < len := by omega
    clear hs hlen hb hmx
    go_enter Tryd.func5, Tryd.ntmps5
    go_wp2_with fail
    refine (H1.out _).mono ?_
    rintro e w1 ⟨rfl, b1⟩
    go_wp2
    go_ret
    exact ⟨rfl, b1⟩
  · have hs2 : ¬ (300 : Int) < len := by omega
    have hcv := hb.conv
    have M1 := hide (marked_any ⟨l.toArray⟩ (str_len l _ (by omega)))
    rw [str_data] at M1
    cases m1 : markedL l
    · rw [m1] at M1
      have hd := DecL_mark l m1
      have ht := TextL_mark l m1
      obtain ⟨v', w', hrun, hv', bel⟩ := append_bytes w #[.int .u8 239, .int .u8 187, .int .u8 191] markB l (.slice a len cap) rfl (by decide) (by omega) hb
      have hml : (markB ++ l).length ≤ 1000000 := by rw [List.length_append, show markB.length = 3 from rfl]; omega
      have D1 := hide (fun (v : Value) (W : World) (h : IsB W v (markB ++ l)) => decode_any (markB ++ l) v hml W h.conv)
      have D2 := hide (fun (v : Value) (W : World) (h : IsB W v l) => decode_any l v (by omega) W h.conv)
      have T1 := hide (fun (v : Value) (W : World) (hm : MaxOk W) (h : IsB W v (markB ++ l)) => text_any (markB ++ l) v hml W hm h.conv)
      have T2 := hide (fun (v : Value) (W : World) (hm : MaxOk W) (h : IsB W v l) => text_any l v (by omega) W hm h.conv)
      rw [hd] at D1
      rw [ht] at T1
      have HV := hide hv'
      have HB := hide hb
      have HM := hide hmx
      have HRUN : Hid ((Builtin.append_ #[25, 25] 25 #[.slice (some ⟨w.heap.size, 0, none⟩) 3 3, .slice a len cap]).run Tryd.prog (w.alloc (.cells #[.int .u8 239, .int .u8 187, .int .u8 191] 5)) = .ok v' w') := hrun
      clear hs hlen hb hmx hrun hv' hd ht m1 hml
      generalize DecL l = D at *
      generalize TextL l = T at *
      go_enter Tryd.func5, Tryd.ntmps5
      go_wp2_with fail
      refine (M1.out _).mono ?_
      rintro e w0 ⟨rfl, rfl⟩
      clear hcv
      go_wp2_with (at_builtin; refine wpList_append_run rfl _ _ 25 rfl _ _ _ _ rfl rfl HRUN.out ?_)
      refine (H1.out _).mono ?_
      rintro e w1 ⟨rfl, b1⟩
      have c1 := bel.trans (b1.mono bel.size)
      have d1 := b1
      go_wp2_with fail
      refine (D1.out _ _ (HV.out.below d1)).mono ?_
      rintro e w2 ⟨rfl, b2⟩
      have c2 := c1.trans (b2.mono c1.size)
      have d2 := d1.trans (b2.mono d1.size)
      go_wp2_with fail
      refine (D2.out _ _ (HB.out.below c2)).mono ?_
      rintro e w3 ⟨rfl, b3⟩
      have c3 := c2.trans (b3.mono c2.size)
      have d3 := d2.trans (b3.mono d2.size)
      go_wp2_with fail
      refine (T1.out _ _ (HM.out.below c3) (HV.out.below d3)).mono ?_
      rintro e w4 ⟨rfl, b4⟩
      have c4 := c3.trans (b4.mono c3.size)
      go_wp2_with fail
      refine (T2.out _ _ (HM.out.below c4) (HB.out.below c4)).mono ?_
      rintro e w5 ⟨rfl, b5⟩
      go_wp2
      go_ret
      exact ⟨by simp, c4.trans (b5.mono c4.size)⟩
    · rw [m1] at M1
      clear hs hlen hb hmx m1
      go_enter Tryd.func5, Tryd.ntmps5
      go_wp2_with fail
      refine (M1.out _).mono ?_
      rintro e w0 ⟨rfl, rfl⟩
      go_wp2_with fail
      refine (H1.out _).mono ?_
      rintro e w1 ⟨rfl, b1⟩
      go_wp2
      go_ret
      exact ⟨rfl, b1⟩

set_option maxRecDepth 100000 in
theorem inputMark_lifted (os : Os) (started : os.Started) (H : Type) (enc : TypeId × Value → H) :
    ReturnsInHanded {} Tryd.checked os 5 .any (fun w args => (Rows.inputMarkSpec.pre enc Tryd.prog Tryd.f5 [] false w args ∧ laidMetH Tryd.prog Rows.inputMarkRow.laid w) ∧ sizedMet enc Tryd.prog Tryd.f5 (OpenSpec.ofChange Rows.inputMarkSpec) false w args)
      (Rows.inputMarkSpec.post enc Tryd.prog Tryd.f5 false true false false) := by
  refine returnsInHanded_of_row (C := Tryd.checked) (s := OpenSpec.ofChange Rows.inputMarkSpec) (F := fun _ _ _ => 0) (conds := []) (laid := Rows.inputMarkRow.laid) ownL started (by kernel_rfl) Tryd.func5
    (ChangeSpec.witness_shaped (enc := enc) (C := Tryd.checked) (os := os) (X := fun w _ => laidMetH Tryd.prog Rows.inputMarkRow.laid w) false (World.laidAll Tryd.prog os Rows.inputMarkRow.laid) #[.slice none 0 0] 8 (World.laidAll_os _ _ _)
      (World.shaped_of_ZipB (by kernel_rfl) (by kernel_rfl)) (by kernel_rfl) (by kernel_rfl) (by kernel_rfl)
      (by rw [MakeChecks.laidMetH_plain _ _ _ (by kernel_rfl)]; exact laidMet_laidAll _ (by kernel_rfl) (by kernel_rfl))) ?_
  intro W base args ds gs before hval0 hW _ _ _ _ hsh _
  have hval : ∀ (j : Nat) t v, Tryd.f5.params[j]? = some t → args[j]? = some v → Value.okWide Tryd.prog W .any base t v := hval0
  have hW' := hW
  obtain ⟨p, q, hA0, hV, rfl, hfz, hnd⟩ := hW
  have hA : DataW.TrodAll enc Tryd.prog W 0 (fun _ => true) true Tryd.f5.params.toList args.toList ds p := hA0
  rw [Tryd.params5] at hA hval
  obtain ⟨v0, vs0, d0, ds0, p0, q0, hargs, rfl, rfl, h0, r0⟩ := trodAll_cons hA
  obtain ⟨rfl, rfl, rfl⟩ := trodAll_nil r0
  obtain rfl : args = #[v0] := by cases args; simp_all
  obtain ⟨rfl, rfl⟩ := trodVars_none hV
  obtain ⟨a0, len0, cap0, rfl⟩ := okWide_slice Tryd.underlying25 (hval 0 25 v0 rfl rfl)
  have k0 := h0
  have lt0 : ∀ x ∈ p0, x.block < W.heap.size := by obtain ⟨m, hm⟩ := k0; exact DataW.trod_lt m _ _ _ hm
  obtain ⟨z0, w0⟩ : ∃ zs, IsRow W a0 len0 cap0 zs := by
    obtain ⟨fuel, hf⟩ := h0
    rcases open_ints Tryd.underlying25 Tryd.underlying5 (by kernel_rfl) hf with ⟨hcs, _⟩ | ⟨x, l, c, zs, hcs, _, hl, hm, hz, _, hcell, hwz⟩
    · simp [Value.cells] at hcs
      obtain ⟨rfl, rfl, rfl⟩ := hcs
      exact ⟨[], .inl ⟨rfl, rfl, rfl, rfl⟩⟩
    · simp [Value.cells] at hcs
      obtain ⟨rfl, rfl, rfl⟩ := hcs
      exact ⟨zs, .inr ⟨_, rfl, hl, hm, by simpa using hz, hcell, hwz⟩⟩
  obtain ⟨l0, hl0, hb0⟩ := isRow_isB W a0 len0 cap0 z0 w0
  clear hA0 hval0
  refine (mark_walk a0 len0 cap0 l0 hl0 W hb0 (max_of_shape hsh)).mono fun e W' ⟨he, bel⟩ => ?_
  subst he
  exact ⟨_, rfl, _, _, _, [], _, [], hW', trodAll_mk1 (shut_bool Tryd.underlying4 _), (trodAll_cons_mk (Below.trod laidOutD (by kernel_rfl) (of_decide_eq_true (by kernel_rfl)) k0 bel lt0) trodAll_mk0), rfl, bel.frame _, fun h => by cases h⟩

theorem inputMark_holds : Rows.InputMarkSaid :=
  OpenClaim.holds_of_wide 5 Tryd.f5 rfl rfl rfl rfl rfl rfl rfl ⟨rfl, rfl, rfl, rfl, rfl⟩ rfl rfl rfl rfl rfl (by kernel_rfl) Tryd.func5 (by kernel_rfl)
    (of_decide_eq_true (by kernel_rfl)) (by unfold Func.isWrapper; first | (rw [if_pos (by decide +kernel)]; kernel_rfl) | (rw [if_neg (by decide +kernel)]; exact ⟨rfl, rfl⟩))
    (fun os started H enc _ => inputMark_lifted os started H enc)

theorem inputMark_card : Rows.InputMarkCardSaid :=
  Claim7.holds_tied_plain_at .later [] _ _ _ _ inputMark_holds (fun _ h => by cases h) (by kernel_rfl) (fun _ h => by cases h) inputMark_row_tie rfl ⟨rfl, rfl⟩ (by kernel_rfl) rfl
    (fun f fn hf hfn => by
      obtain rfl : f = 5 := Option.some.inj ((show Tryd.prog.funcNamed Rows.inputMarkRow.func = some 5 by kernel_rfl).symm.trans hf) |>.symm
      obtain rfl : fn = Tryd.f5 := (Option.some.inj (Tryd.func5.symm.trans hfn)).symm
      exact ⟨by kernel_rfl, fun j t ht => by
        rw [Tryd.params5] at ht
        have hm : t ∈ [25] := by simpa using Array.mem_of_getElem? ht
        have hall : ([25].all fun u => !Tryd.prog.wantsStandIn u) = true := by kernel_rfl
        exact (show Tryd.prog.wantsStandIn t = false by simpa using List.all_eq_true.1 hall t hm)⟩)
    (by kernel_rfl)
end Go.Proofs.YthagloigihpfdaaDoor
