/- Proved: for every text TokenAll answers true: all tokens of a text of at most 200 bytes are by the program what the document says; and the live question is answered as fixed. Conditions: those of the given card: the program's table of the numbers 128 to 159 starts as its text lays it (the given tie); the walk reads it. The library's variable MaxLen is taken with whatever number it holds. -/
import Derived.Test.YtlfjmgniflkapaaGreatDoorBunN
import Derived.Test.YtlfjmgniflkapaaGreatDoorBunX
import Derived.Deep.RegionWith
import Derived.Test.YtlfjmgniflkapaaGreatDoorRows
import Derived.Test.YtlfjmgniflkapaaGreatDoorWalkPD
import Derived.Lib.LaidTab
import Derived.LaidMore
import Derived.MakeChecks
import Derived.Shelf.Strings.Builder1
import Derived.Shelf.Small.Strs
import Derived.Shelf.Small.Wraps
import Derived.Shelf.Strings.BuilderF
import Derived.Shelf.Strings.BuilderK
import Derived.Shelf.Strings.Search1
import Derived.Shelf.Strings.Search2
import Derived.Shelf.Strings.Cut
import Derived.Shelf.LaysM
import Derived.Shelf.Strings.Shaped
import Derived.Shelf.Strings.Prefix
import Derived.Test.YtlfjmgniflkapaaGreatDoorProg
import Derived.Test.YtlfjmgniflkapaaGreatDoorBunC
import Derived.Test.YtlfjmgniflkapaaGreatDoorCards
import Derived.Test.YtlfjmgniflkapaaGreatDoorTie
import Derived.WalkKit
import Derived.ProofKit
import Derived.OpenShut
import Derived.ShutString
import Derived.ChangeOld
import Derived.Below
import Derived.Lay
import Derived.SevenTiedAt
import Derived.Deep.DeepHandedRow
import Derived.Lib.SmallJoins
import Derived.Carry
/- What TokenAll answers: true; nothing that was there is written. -/
set_option linter.unusedVariables false
set_option linter.unusedSimpArgs false
namespace Go.Proofs.YtlfjmgniflkapaaGreatDoor
open Go.RowKit

theorem allK_few : ∀ (k : Nat) (r : List UInt8), (allK k r).length ≤ k ∧ ∀ t ∈ allK k r, t.attrs.length ≤ r.length
  | 0, r => ⟨by simp [allK], by simp [allK]⟩
  | k + 1, r => by
    have ih := allK_few k (nextR 0 [] false r).2
    have h1 := nextR_few 0 [] false r
    have h2 := (nextR_sfx 0 [] false r).length_le
    simp only [allK]
    split
    · exact ⟨by simp, by simp⟩
    · refine ⟨by simp; exact ih.1, ?_⟩
      intro t ht
      rcases List.mem_cons.1 ht with rfl | ht
      · exact h1
      · exact Nat.le_trans (ih.2 t ht) h2

set_option maxHeartbeats 4000000 in
theorem tall_walk (s : ByteArray) (w : World) (he : Env w) :
    Calls Tryz.prog 4 #[.string s] w fun e w' => e = .returned (.bool true) ∧ Below w.heap.size w w' := by
  have H1 := hide alive_any
  have HE := hide he
  clear he
  by_cases hs : 200 < s.size
  · have hs2 : (200 : Int) < s.size := by omega
    go_enter Tryz.func4, Tryz.ntmps4
    go_wp2_with fail
    refine (H1.out _ HE.out).mono ?_
    rintro e w1 ⟨rfl, b1⟩
    go_wp2
    go_ret
    exact ⟨rfl, b1⟩
  have hs2 : ¬ (200 : Int) < s.size := by omega
  have HP := hide (fun w he => pall_any s (by omega) w he)
  have HD := hide (fun w => all_any s (by omega) w)
  have hfew := allK_few (s.data.toList.length + 1) s.data.toList
  have hfl : (allL s.data.toList).length ≤ 201 := by
    have := hfew.1
    rw [← size_list] at this
    unfold allL
    rw [← size_list]
    omega
  have HF : Hid (∀ t ∈ allL s.data.toList, t.attrs.length ≤ 200) := hide fun t ht => by
    have := hfew.2 t ht
    rw [← size_list] at this
    omega
  clear hfew
  generalize allL s.data.toList = AL at *
  go_enter Tryz.func4, Tryz.ntmps4
  go_wp2_with fail
  refine (HP.out _ HE.out).mono ?_
  rintro e w1 ⟨lv, ts, rfl, hts, hown, hat, b1⟩
  obtain ⟨la, lc, rfl⟩ := owns_form hown
  have HO1 := hide hown
  have HT1 := hide hat
  have HM1 := hide hts
  have B1 := hide b1
  clear hown hat hts b1 HP
  go_wp2_with fail
  refine (HD.out _).mono ?_
  rintro e w2 ⟨lv2, us, rfl, hus, hown2, hat2, b2⟩
  obtain ⟨la2, lc2, rfl⟩ := owns_form hown2
  have HO2 := hide hown2
  have HT2 := hide hat2
  have HM2 := hide hus
  have HO1b := hide (owns_below HO1.out b2)
  have HT1b : Hid (∀ p ∈ ts, IsA w2 p.2 p.1.attrs) := hide (fun p hp => (HT1.out p hp).below b2)
  have B2 := hide (B1.out.trans (b2.mono B1.out.size))
  have hl1 : ts.length = AL.length := by rw [← HM1.out, List.length_map]
  have hl2 : us.length = AL.length := by rw [← HM2.out, List.length_map]
  clear hown2 hat2 hus b2 HO1 HT1 B1 HD
  go_wp2_with fail
  have HEQ : Hid (∀ k (h1 : k < ts.length) (h2 : k < us.length), us[k].1 = ts[k].1) := by
    refine hide fun k h1 h2 => ?_
    have e1 : (ts.map (·.1))[k]'(by simpa using h1) = ts[k].1 := by simp
    have e2 : (us.map (·.1))[k]'(by simpa using h2) = us[k].1 := by simp
    rw [← e1, ← e2]
    congr 1
    rw [HM1.out, HM2.out]
  have HFT : Hid (∀ k (h1 : k < ts.length), ts[k].1.attrs.length ≤ 200) := by
    refine hide fun k h1 => HF.out _ ?_
    rw [← HM1.out]
    exact List.mem_map.2 ⟨ts[k], List.getElem_mem h1, rfl⟩
  go_loopw [5] (fun ti wr => ∃ k : Nat, ti = .int .i64 (k : Int) ∧ k ≤ AL.length ∧ Below w2.heap.size w2 wr) (fun ti _ => AL.length - (intOf ti).toNat)
  case atStart => exact ⟨0, rfl, by omega, Below.refl _ _⟩
  case round =>
    obtain ⟨k, rfl, hk, bw⟩ := hrel
    by_cases hlt : k < AL.length
    · have k1 : k < ts.length := by omega
      have k2 : k < us.length := by omega
      have hlt1 : (k : Int) < ts.length := by omega
      have hlt2 : (k : Int) < us.length := by omega
      have hO1 := owns_below HO1b.out bw
      have hO2 := owns_below HO2.out bw
      obtain ⟨g1, rfl⟩ : ∃ g, la = some ⟨g, 0, none⟩ := by
        rcases hO1.2 with ⟨h, _⟩ | ⟨g, cap, cur, h, _⟩
        · injection h with e1 e2
          omega
        · injection h with e1 e2
          exact ⟨g, e1⟩
      obtain ⟨g2, rfl⟩ : ∃ g, la2 = some ⟨g, 0, none⟩ := by
        rcases hO2.2 with ⟨h, _⟩ | ⟨g, cap, cur, h, _⟩
        · injection h with e1 e2
          omega
        · injection h with e1 e2
          exact ⟨g, e1⟩
      have hA1 := (HT1b.out ts[k] (List.getElem_mem k1)).below bw
      have hA2 := (HT2.out us[k] (List.getElem_mem k2)).below bw
      have htk := HEQ.out k k1 k2
      have hfk := HFT.out k k1
      have hc1 : ∀ o, o < 5 → wr.cell? ⟨g1, k * 5 + o, none⟩ = (tokC ts[k])[o]? := fun o ho => by
        have hg := tokCells_get ts k k1 o ho
        have hlt5 : o < (tokC ts[k]).length := by simpa [tokC] using ho
        rw [List.getElem?_eq_getElem hlt5] at hg ⊢
        have := hO1.cells rfl _ _ hg
        rw [addr_add] at this
        exact this
      have hc2 : ∀ o, o < 5 → wr.cell? ⟨g2, k * 5 + o, none⟩ = (tokC us[k])[o]? := fun o ho => by
        have hg := tokCells_get us k k2 o ho
        have hlt5 : o < (tokC us[k]).length := by simpa [tokC] using ho
        rw [List.getElem?_eq_getElem hlt5] at hg ⊢
        have := hO2.cells rfl _ _ hg
        rw [addr_add] at this
        exact this
      rw [htk] at hA2
      obtain ⟨sa1, sc1, hs1⟩ := isA_form hA1
      obtain ⟨sa2, sc2, hs2'⟩ := isA_form hA2
      have d1 : ts[k].2 = .slice sa1 ts[k].1.attrs.length sc1 := hs1
      have d2 : us[k].2 = .slice sa2 ts[k].1.attrs.length sc2 := hs2'
      have c10 : wr.cell? ⟨g1, k * 5, none⟩ = some (.int .i64 (ts[k].1.kind : Int)) := hc1 0 (by omega)
      have c11 : wr.cell? ⟨g1, k * 5 + 1, none⟩ = some (.string ⟨ts[k].1.name.toArray⟩) := hc1 1 (by omega)
      have c12 : wr.cell? ⟨g1, k * 5 + 2, none⟩ = some (.slice sa1 ts[k].1.attrs.length sc1) := by rw [← d1]; exact hc1 2 (by omega)
      have c13 : wr.cell? ⟨g1, k * 5 + 3, none⟩ = some (.bool ts[k].1.closed) := hc1 3 (by omega)
      have c14 : wr.cell? ⟨g1, k * 5 + 4, none⟩ = some (.string ⟨ts[k].1.text.toArray⟩) := hc1 4 (by omega)
      have c20 : wr.cell? ⟨g2, k * 5, none⟩ = some (.int .i64 (ts[k].1.kind : Int)) := by rw [← htk]; exact hc2 0 (by omega)
      have c21 : wr.cell? ⟨g2, k * 5 + 1, none⟩ = some (.string ⟨ts[k].1.name.toArray⟩) := by rw [← htk]; exact hc2 1 (by omega)
      have c22 : wr.cell? ⟨g2, k * 5 + 2, none⟩ = some (.slice sa2 ts[k].1.attrs.length sc2) := by rw [← d2]; exact hc2 2 (by omega)
      have c23 : wr.cell? ⟨g2, k * 5 + 3, none⟩ = some (.bool ts[k].1.closed) := by rw [← htk]; exact hc2 3 (by omega)
      have c24 : wr.cell? ⟨g2, k * 5 + 4, none⟩ = some (.string ⟨ts[k].1.text.toArray⟩) := by rw [← htk]; exact hc2 4 (by omega)
      rw [d1] at hA1
      rw [d2] at hA2
      have BW := hide bw
      clear hc1 hc2 d1 d2 hs1 hs2' htk hO1 hO2 bw
      have hfk2 : ts[k].1.attrs.length ≤ 1000000 := by omega
      have HSM := hide (same_self ts[k].1 (.slice sa1 ts[k].1.attrs.length sc1) (.slice sa2 ts[k].1.attrs.length sc2) hfk2)
      unfold tokV at HSM
      have HA1 := hide hA1
      have HA2 := hide hA2
      clear hA1 hA2
      generalize ts[k].1 = t at *
      have hl1' : (ts.length : Int) = AL.length := by omega
      go_wp2_with fail
      go_region_with (go_at_call 8; refine (HSM.out _ HA1.out.drew HA2.out.drew).mono ?_; rintro e w3 ⟨rfl, b3⟩)
      all_goals have B3 := hide (BW.out.drew.trans (b3.mono BW.out.drew.size))
      all_goals clear b3
      all_goals go_wp2
      all_goals go_roundw
      all_goals first | exact ⟨k + 1, by go_num, by omega, B3.out⟩ | (simp [intOf]; omega)
    · have hke : k = AL.length := by omega
      subst hke
      have hl1' : ts.length = AL.length := hl1
      have BW := hide bw
      clear bw
      go_wp2_with fail
      refine (H1.out _ ((HE.out.below B2.out).below BW.out)).mono ?_
      rintro e w3 ⟨rfl, b3⟩
      go_wp2
      go_ret
      exact ⟨rfl, (B2.out.trans (BW.out.mono B2.out.size)).trans (b3.mono (B2.out.trans (BW.out.mono B2.out.size)).size)⟩
end Go.Proofs.YtlfjmgniflkapaaGreatDoor
/- From the row's condition to what the walks ask: the program's table of the numbers 128 to 159 stands as it was laid. -/
set_option linter.unusedVariables false
namespace Go.Proofs.YtlfjmgniflkapaaGreatDoor
open Go.RowKit

theorem old_data : (Rows.laid_marginalia_charref_oldCodes : DataW Unit) = Lib.tabData .i32 (oldN.map fun (n : Nat) => (n : Int)) := by kernel_rfl
theorem old_of_laid {W : World} (h : laidMetH Tryz.prog [("marginalia/charref.oldCodes", Rows.laid_marginalia_charref_oldCodes)] W) : OldOk W := by
  rw [MakeChecks.laidMetH_plain _ _ _ (by kernel_rfl), old_data] at h
  have hg : Tryz.prog.globalNamed "marginalia/charref.oldCodes" = some 0 := by kernel_rfl
  have hT := Lib.tabIs_of_head hg (t := 101) (by kernel_rfl) Tryz.underlying101 Tryz.underlying21 (by kernel_rfl) (by kernel_rfl) h
  intro j hj
  have hc := hT.cell hg j (by rw [List.length_map]; exact hj)
  rw [hc]
  have hl : j < oldN.length := hj
  simp [List.getD_eq_getElem?_getD, List.getElem?_map, List.getElem?_eq_getElem hl]
end Go.Proofs.YtlfjmgniflkapaaGreatDoor
/- What the library's contract asks of a variable of its own, at this program's own numbers: one application of a theorem of the library. -/
namespace Go.Proofs
open Go.Shelf
def Tryz.laysM145_ren : Go.Shelf.Ren := ⟨fun | 145 => 74 | 220 => 92 | 219 => 101 | 217 => 94 | 225 => 104 | 224 => 105 | 267 => 106 | 266 => 102 | 314 => 107 | n => n, fun | 9 => 9 | 4 => 4 | 59 => 87 | 3 => 3 | 5 => 5 | 46 => 107 | 146 => 109 | 51 => 108 | n => n, fun | 1 => 1 | n => n⟩
theorem Tryz.laysM145 : Go.Proofs.LaysM.n145 Tryz.prog Tryz.laysM145_ren := {
  mixed := by kernel_rfl
  f145 := Tryz.func74.trans (congrArg some (by kernel_rfl))
  f217 := Tryz.func94.trans (congrArg some (by kernel_rfl))
  f219 := Tryz.func101.trans (congrArg some (by kernel_rfl))
  f220 := Tryz.func92.trans (congrArg some (by kernel_rfl))
  f224 := Tryz.func105.trans (congrArg some (by kernel_rfl))
  f225 := Tryz.func104.trans (congrArg some (by kernel_rfl))
  f266 := Tryz.func102.trans (congrArg some (by kernel_rfl))
  f267 := Tryz.func106.trans (congrArg some (by kernel_rfl))
  f314 := Tryz.func107.trans (congrArg some (by kernel_rfl))
  t3 := Tryz.underlying3
  a3 := Tryz.isAgg3
  z3 := Tryz.sizeOf3
  v3 := Tryz.zeroValue3
  t4 := Tryz.underlying4
  a4 := Tryz.isAgg4
  z4 := Tryz.sizeOf4
  v4 := Tryz.zeroValue4
  t5 := Tryz.underlying5
  a5 := Tryz.isAgg5
  z5 := Tryz.sizeOf5
  v5 := Tryz.zeroValue5
  t9 := Tryz.underlying9
  a9 := Tryz.isAgg9
  z9 := Tryz.sizeOf9
  v9 := Tryz.zeroValue9
  t46 := Tryz.underlying107
  a46 := Tryz.isAgg107
  z46 := Tryz.sizeOf107
  v46 := Tryz.zeroValue107
  t51 := Tryz.underlying108
  a51 := Tryz.isAgg108
  z51 := Tryz.sizeOf108
  v51 := Tryz.zeroValue108
  t59 := Tryz.underlying87
  a59 := Tryz.isAgg87
  z59 := Tryz.sizeOf87
  v59 := Tryz.zeroValue87
  t146 := Tryz.underlying109
  a146 := Tryz.isAgg109
  z146 := Tryz.sizeOf109
  v146 := Tryz.zeroValue109
  g1 := by kernel_rfl
  i3 := by kernel_rfl
  i4 := by kernel_rfl
  i5 := by kernel_rfl
  i9 := by kernel_rfl
  i46 := by kernel_rfl
  i51 := by kernel_rfl
  i59 := by kernel_rfl
  i146 := by kernel_rfl
  m1 := by kernel_rfl
  s1_3 := fun w h => Go.Proofs.cell_of_shapedOpen_int (zero := #[.int .i64 0]) (t := 3) h (of_decide_eq_true (by kernel_rfl)) (by kernel_rfl) rfl (by kernel_rfl) (by kernel_rfl) Tryz.underlying3 }
end Go.Proofs
/- From the row's condition and the world's shape to what the walks ask: the program's table of the numbers 128 to 159 stands as it was laid, and the library's variable holds some number. -/
set_option linter.unusedVariables false
namespace Go.Proofs.YtlfjmgniflkapaaGreatDoor
open Go.RowKit

theorem env_of {W : World} (h : laidMetH Tryz.prog [("marginalia/charref.oldCodes", Rows.laid_marginalia_charref_oldCodes)] W) (hs : W.ShapedOpen Tryz.prog) : Env W := ⟨old_of_laid h, Tryz.laysM145.s1_3 W hs⟩
end Go.Proofs.YtlfjmgniflkapaaGreatDoor
set_option linter.unusedVariables false
namespace Go.Proofs.YtlfjmgniflkapaaGreatDoor
open Go.ChangeShapes Go.WideShapes Go.ChangeAt Go.RowKit
open Go.ChangeMaps (open_string shut_string)

theorem ownL : ownKnob Tryz.prog.godebug = none := by kernel_rfl
theorem laidOutD : laidOutB Tryz.prog = true := by kernel_rfl

set_option maxRecDepth 100000 in
theorem tokenAll_lifted (os : Os) (started : os.Started) (H : Type) (enc : TypeId × Value → H) :
    ReturnsInHanded {} Tryz.checked os 4 .any (fun w args => (Rows.tokenAllSpec.pre enc Tryz.prog Tryz.f4 [] false w args ∧ laidMetH Tryz.prog Rows.tokenAllRow.laid w) ∧ sizedMet enc Tryz.prog Tryz.f4 (OpenSpec.ofChange Rows.tokenAllSpec) false w args)
      (Rows.tokenAllSpec.post enc Tryz.prog Tryz.f4 false true false false) := by
  refine returnsInHanded_of_row (C := Tryz.checked) (s := OpenSpec.ofChange Rows.tokenAllSpec) (F := fun _ _ _ => 0) (conds := []) (laid := Rows.tokenAllRow.laid) ownL started (by kernel_rfl) Tryz.func4
    (ChangeSpec.witness_shaped (enc := enc) (C := Tryz.checked) (os := os) (X := fun w _ => laidMetH Tryz.prog Rows.tokenAllRow.laid w) false (World.laidAll Tryz.prog os Rows.tokenAllRow.laid) #[.string ByteArray.empty] 8 (World.laidAll_os _ _ _)
      (World.shaped_of_ZipB (by kernel_rfl) (by kernel_rfl)) (by kernel_rfl) (by kernel_rfl) (by kernel_rfl)
      (by rw [MakeChecks.laidMetH_plain _ _ _ (by kernel_rfl)]; exact laidMet_laidAll _ (by kernel_rfl) (by kernel_rfl))) ?_
  intro W base args ds gs before hval0 hW _ _ _ hL hsh _
  have hval : ∀ (j : Nat) t v, Tryz.f4.params[j]? = some t → args[j]? = some v → Value.okWide Tryz.prog W .any base t v := hval0
  have hW' := hW
  obtain ⟨p, q, hA0, hV, rfl, hfz, hnd⟩ := hW
  have hA : DataW.TrodAll enc Tryz.prog W 0 (fun _ => true) true Tryz.f4.params.toList args.toList ds p := hA0
  rw [Tryz.params4] at hA hval
  obtain ⟨v0, vs0, d0, ds0, p0, q0, hargs, rfl, rfl, h0, r0⟩ := trodAll_cons hA
  obtain ⟨rfl, rfl, rfl⟩ := trodAll_nil r0
  obtain rfl : args = #[v0] := by cases args; simp_all
  obtain ⟨rfl, rfl⟩ := trodVars_none hV
  obtain ⟨a0, rfl, rfl, rfl, w0⟩ := open_string Tryz.underlying9 (hval 0 9 v0 rfl rfl) h0
  clear hA0 hval0
  refine (tall_walk a0 W  (env_of hL hsh) ).mono fun e W' ⟨he, bel⟩ => ?_
  subst he
  exact ⟨_, rfl, _, _, _, [], _, [], hW', trodAll_mk1 (shut_bool Tryz.underlying4 _), (trodAll_cons_mk (shut_string Tryz.underlying9 w0) trodAll_mk0), rfl, bel.frame _, fun h => by cases h⟩

theorem tokenAll_holds : Rows.TokenAllSaid :=
  OpenClaim.holds_of_wide 4 Tryz.f4 rfl rfl rfl rfl rfl rfl rfl ⟨rfl, rfl, rfl, rfl, rfl⟩ rfl rfl rfl rfl rfl (by kernel_rfl) Tryz.func4 (by kernel_rfl)
    (of_decide_eq_true (by kernel_rfl)) (by unfold Func.isWrapper; first | (rw [if_pos (by decide +kernel)]; kernel_rfl) | (rw [if_neg (by decide +kernel)]; exact ⟨rfl, rfl⟩))
    (fun os started H enc _ => tokenAll_lifted os started H enc)

theorem tokenAll_card : Rows.TokenAllCardSaid :=
  Claim7.holds_tied_plain_at .later [] _ _ _ _ tokenAll_holds (fun _ h => by cases h) (by kernel_rfl) (fun _ h => by cases h) tokenAll_row_tie rfl ⟨rfl, rfl⟩ (by kernel_rfl) rfl
    (fun f fn hf hfn => by
      obtain rfl : f = 4 := Option.some.inj ((show Tryz.prog.funcNamed Rows.tokenAllRow.func = some 4 by kernel_rfl).symm.trans hf) |>.symm
      obtain rfl : fn = Tryz.f4 := (Option.some.inj (Tryz.func4.symm.trans hfn)).symm
      exact ⟨by kernel_rfl, fun j t ht => by
        rw [Tryz.params4] at ht
        have hm : t ∈ [9] := by simpa using Array.mem_of_getElem? ht
        have hall : ([9].all fun u => !Tryz.prog.wantsStandIn u) = true := by kernel_rfl
        exact (show Tryz.prog.wantsStandIn t = false by simpa using List.all_eq_true.1 hall t hm)⟩)
    (by kernel_rfl)
end Go.Proofs.YtlfjmgniflkapaaGreatDoor
