/- Proved: for every text, place, mode, name and flag TokenNext answers true: the next token of a text of at most 200 bytes, and the place behind it, are by the program what the document says; and the live question is answered as fixed. Conditions: those of the given card: the program's table of the numbers 128 to 159 starts as its text lays it (the given tie); the walk reads it. The library's variable MaxLen is taken with whatever number it holds. -/
import Derived.Test.YtlfjmgniflkapaaGreatDoorBunN
import Derived.Test.YtlfjmgniflkapaaGreatDoorBunX
import Derived.Test.YtlfjmgniflkapaaGreatDoorRows
import Derived.Test.YtlfjmgniflkapaaGreatDoorWalkPD
import Derived.Lib.LaidTab
import Derived.LaidMore
import Derived.MakeChecks
import Derived.Shelf.Strings.Builder1
import Derived.Shelf.Small.Strs
import Derived.Shelf.Small.Wraps
import Derived.Shelf.Strings.BuilderF
import Derived.Shelf.Strings.BuilderK
import Derived.Shelf.Strings.Search1
import Derived.Shelf.Strings.Search2
import Derived.Shelf.Strings.Cut
import Derived.Shelf.LaysM
import Derived.Shelf.Strings.Shaped
import Derived.Shelf.Strings.Prefix
import Derived.Test.YtlfjmgniflkapaaGreatDoorProg
import Derived.Test.YtlfjmgniflkapaaGreatDoorBunC
import Derived.Test.YtlfjmgniflkapaaGreatDoorCards
import Derived.Test.YtlfjmgniflkapaaGreatDoorTie
import Derived.WalkKit
import Derived.ProofKit
import Derived.OpenShut
import Derived.ShutString
import Derived.ChangeOld
import Derived.Below
import Derived.Lay
import Derived.SevenTiedAt
import Derived.Deep.DeepHandedRow
import Derived.Lib.SmallJoins
import Derived.Carry
/- What TokenNext answers: true; nothing that was there is written. -/
set_option linter.unusedVariables false
set_option linter.unusedSimpArgs false
namespace Go.Proofs.YtlfjmgniflkapaaGreatDoor
open Go.RowKit

theorem nextZ_few (m : Int) (n : List UInt8) (f : Bool) (l : List UInt8) (z : Int) : (nextZ m n f l z).1.attrs.length ≤ l.length := by
  unfold nextZ
  split
  · have := nextR_few m n f (l.drop z.toNat)
    rw [List.length_drop] at this
    omega
  · simp

set_option maxHeartbeats 4000000 in
theorem tnext_walk (s : ByteArray) (z m : Int) (n : ByteArray) (f : Bool) (w : World) (he : Env w) :
    Calls Tryz.prog 3 #[.string s, .agg #[.int .i64 z, .int .i64 m, .string n, .bool f]] w fun e w' => e = .returned (.bool true) ∧ Below w.heap.size w w' := by
  have H1 := hide alive_any
  have HE := hide (he.alloc (.cells #[.int .i64 z, .int .i64 m, .string n, .bool f] 24))
  have HB := hide (below_alloc w (.cells #[.int .i64 z, .int .i64 m, .string n, .bool f] 24))
  have KO := hide (Kept.new w [.int .i64 z, .int .i64 m, .string n, .bool f] 24)
  clear he
  by_cases hs : 200 < s.size
  · have hs2 : (200 : Int) < s.size := by omega
    go_enter Tryz.func3, Tryz.ntmps3
    go_wp2_with fail
    refine (H1.out _ HE.out).mono ?_
    rintro e w1 ⟨rfl, b1⟩
    go_wp2
    go_ret
    exact ⟨rfl, HB.out.trans (b1.mono HB.out.size)⟩
  have hs2 : ¬ (200 : Int) < s.size := by omega
  by_cases hn : 200 < n.size
  · have hn2 : (200 : Int) < n.size := by omega
    go_enter Tryz.func3, Tryz.ntmps3
    go_wp2_with fail
    refine (H1.out _ HE.out).mono ?_
    rintro e w1 ⟨rfl, b1⟩
    go_wp2
    go_ret
    exact ⟨rfl, HB.out.trans (b1.mono HB.out.size)⟩
  have hn2 : ¬ (200 : Int) < n.size := by omega
  have HN := hide (fun w he => pnext_any s n (by omega) (by omega) z m f w he)
  have HM := hide (fun w => next_any s n (by omega) (by omega) z m f w)
  have hfw := nextZ_few m n.data.toList f s.data.toList z
  rw [← size_list] at hfw
  generalize nextZ m n.data.toList f s.data.toList z = R at *
  have HSM := hide (fun va vb w hA hB => same_self R.1 va vb (by omega) w hA hB)
  go_enter Tryz.func3, Tryz.ntmps3
  go_wp2_with fail
  refine (HN.out _ HE.out).mono ?_
  rintro e w1 ⟨⟨sv, hA, hob, rfl⟩, b1⟩
  obtain ⟨sa, sc, rfl⟩ := isA_form hA
  unfold tokV
  unfold tokV at HSM
  have bA := below_alloc w1 (.cells #[.int .i64 (R.1.kind : Int), .string ⟨R.1.name.toArray⟩, .slice sa R.1.attrs.length sc, .bool R.1.closed, .string ⟨R.1.text.toArray⟩] 29)
  have KT := hide (Kept.new w1 [.int .i64 (R.1.kind : Int), .string ⟨R.1.name.toArray⟩, .slice sa R.1.attrs.length sc, .bool R.1.closed, .string ⟨R.1.text.toArray⟩] 29)
  have HA := hide (hA.below bA)
  have B1 := hide ((HB.out.trans (b1.mono HB.out.size)).trans (bA.mono (HB.out.trans (b1.mono HB.out.size)).size))
  have E1 := hide ((HE.out.below b1).below bA)
  have hzw : w.heap.size < w1.heap.size := (KO.out.below b1).lt
  have p0 : w1.cell? ⟨w.heap.size, 0, none⟩ = some (.int .i64 z) := (KO.out.below b1).1 0
  have p1 : w1.cell? ⟨w.heap.size, 1, none⟩ = some (.int .i64 m) := (KO.out.below b1).1 1
  have p2 : w1.cell? ⟨w.heap.size, 2, none⟩ = some (.string n) := (KO.out.below b1).1 2
  have p3 : w1.cell? ⟨w.heap.size, 3, none⟩ = some (.bool f) := (KO.out.below b1).1 3
  clear hA hob b1 bA KO HE HB HN
  go_wp2_with fail
  refine (HM.out _).mono ?_
  rintro e w2 ⟨⟨sv2, hA2, hob2, rfl⟩, b2⟩
  obtain ⟨sa2, sc2, rfl⟩ := isA_form hA2
  unfold tokV
  have bB := below_alloc w2 (.cells #[.int .i64 (R.1.kind : Int), .string ⟨R.1.name.toArray⟩, .slice sa2 R.1.attrs.length sc2, .bool R.1.closed, .string ⟨R.1.text.toArray⟩] 29)
  have KT2 := hide ((KT.out.below b2).below bB)
  have KU2 := hide (Kept.new w2 [.int .i64 (R.1.kind : Int), .string ⟨R.1.name.toArray⟩, .slice sa2 R.1.attrs.length sc2, .bool R.1.closed, .string ⟨R.1.text.toArray⟩] 29)
  have HA2 := hide ((HA.out.below b2).below bB)
  have HC2 := hide (hA2.below bB)
  have B2 := hide ((B1.out.trans (b2.mono B1.out.size)).trans (bB.mono (B1.out.trans (b2.mono B1.out.size)).size))
  have E2 := hide ((E1.out.below b2).below bB)
  have hz2 : w1.heap.size < w2.heap.size := (KT.out.below b2).lt
  clear hA2 hob2 b2 bB KT HA B1 E1 p0 p1 p2 p3 HM
  go_wp2_with fail
  refine (H1.out _ E2.out).mono ?_
  rintro e w3 ⟨rfl, b3⟩
  have KT3 := hide (KT2.out.below b3)
  have KU3 := hide (KU2.out.below b3)
  have HA3 := hide (HA2.out.below b3)
  have HC3 := hide (HC2.out.below b3)
  have B3 := hide (B2.out.trans (b3.mono B2.out.size))
  clear b3 KT2 KU2 HA2 HC2 B2 E2
  generalize w1.heap.size = G1 at *
  generalize w2.heap.size = G2 at *
  have t0 : w3.cell? ⟨G1, 0, none⟩ = some (.int .i64 (R.1.kind : Int)) := KT3.out.1 0
  have t1 : w3.cell? ⟨G1, 1, none⟩ = some (.string ⟨R.1.name.toArray⟩) := KT3.out.1 1
  have t2 : w3.cell? ⟨G1, 2, none⟩ = some (.slice sa R.1.attrs.length sc) := KT3.out.1 2
  have t3 : w3.cell? ⟨G1, 3, none⟩ = some (.bool R.1.closed) := KT3.out.1 3
  have t4 : w3.cell? ⟨G1, 4, none⟩ = some (.string ⟨R.1.text.toArray⟩) := KT3.out.1 4
  have u0 : w3.cell? ⟨G2, 0, none⟩ = some (.int .i64 (R.1.kind : Int)) := KU3.out.1 0
  have u1 : w3.cell? ⟨G2, 1, none⟩ = some (.string ⟨R.1.name.toArray⟩) := KU3.out.1 1
  have u2 : w3.cell? ⟨G2, 2, none⟩ = some (.slice sa2 R.1.attrs.length sc2) := KU3.out.1 2
  have u3 : w3.cell? ⟨G2, 3, none⟩ = some (.bool R.1.closed) := KU3.out.1 3
  have u4 : w3.cell? ⟨G2, 4, none⟩ = some (.string ⟨R.1.text.toArray⟩) := KU3.out.1 4
  go_wp2_with fail
  refine (HSM.out _ _ _ HA3.out HC3.out).mono ?_
  rintro e w4 ⟨rfl, b4⟩
  have B4 := hide (B3.out.trans (b4.mono B3.out.size))
  clear b4 B3 t0 t1 t2 t3 t4 u0 u1 u2 u3 u4
  go_wp2
  go_ret
  exact ⟨rfl, B4.out⟩
end Go.Proofs.YtlfjmgniflkapaaGreatDoor
/- From the row's condition to what the walks ask: the program's table of the numbers 128 to 159 stands as it was laid. -/
set_option linter.unusedVariables false
namespace Go.Proofs.YtlfjmgniflkapaaGreatDoor
open Go.RowKit

theorem old_data : (Rows.laid_marginalia_charref_oldCodes : DataW Unit) = Lib.tabData .i32 (oldN.map fun (n : Nat) => (n : Int)) := by kernel_rfl
theorem old_of_laid {W : World} (h : laidMetH Tryz.prog [("marginalia/charref.oldCodes", Rows.laid_marginalia_charref_oldCodes)] W) : OldOk W := by
  rw [MakeChecks.laidMetH_plain _ _ _ (by kernel_rfl), old_data] at h
  have hg : Tryz.prog.globalNamed "marginalia/charref.oldCodes" = some 0 := by kernel_rfl
  have hT := Lib.tabIs_of_head hg (t := 101) (by kernel_rfl) Tryz.underlying101 Tryz.underlying21 (by kernel_rfl) (by kernel_rfl) h
  intro j hj
  have hc := hT.cell hg j (by rw [List.length_map]; exact hj)
  rw [hc]
  have hl : j < oldN.length := hj
  simp [List.getD_eq_getElem?_getD, List.getElem?_map, List.getElem?_eq_getElem hl]
end Go.Proofs.YtlfjmgniflkapaaGreatDoor
/- What the library's contract asks of a variable of its own, at this program's own numbers: one application of a theorem of the library. -/
namespace Go.Proofs
open Go.Shelf
def Tryz.laysM145_ren : Go.Shelf.Ren := ⟨fun | 145 => 74 | 220 => 92 | 219 => 101 | 217 => 94 | 225 => 104 | 224 => 105 | 267 => 106 | 266 => 102 | 314 => 107 | n => n, fun | 9 => 9 | 4 => 4 | 59 => 87 | 3 => 3 | 5 => 5 | 46 => 107 | 146 => 109 | 51 => 108 | n => n, fun | 1 => 1 | n => n⟩
theorem Tryz.laysM145 : Go.Proofs.LaysM.n145 Tryz.prog Tryz.laysM145_ren := {
  mixed := by kernel_rfl
  f145 := Tryz.func74.trans (congrArg some (by kernel_rfl))
  f217 := Tryz.func94.trans (congrArg some (by kernel_rfl))
  f219 := Tryz.func101.trans (congrArg some (by kernel_rfl))
  f220 := Tryz.func92.trans (congrArg some (by kernel_rfl))
  f224 := Tryz.func105.trans (congrArg some (by kernel_rfl))
  f225 := Tryz.func104.trans (congrArg some (by kernel_rfl))
  f266 := Tryz.func102.trans (congrArg some (by kernel_rfl))
  f267 := Tryz.func106.trans (congrArg some (by kernel_rfl))
  f314 := Tryz.func107.trans (congrArg some (by kernel_rfl))
  t3 := Tryz.underlying3
  a3 := Tryz.isAgg3
  z3 := Tryz.sizeOf3
  v3 := Tryz.zeroValue3
  t4 := Tryz.underlying4
  a4 := Tryz.isAgg4
  z4 := Tryz.sizeOf4
  v4 := Tryz.zeroValue4
  t5 := Tryz.underlying5
  a5 := Tryz.isAgg5
  z5 := Tryz.sizeOf5
  v5 := Tryz.zeroValue5
  t9 := Tryz.underlying9
  a9 := Tryz.isAgg9
  z9 := Tryz.sizeOf9
  v9 := Tryz.zeroValue9
  t46 := Tryz.underlying107
  a46 := Tryz.isAgg107
  z46 := Tryz.sizeOf107
  v46 := Tryz.zeroValue107
  t51 := Tryz.underlying108
  a51 := Tryz.isAgg108
  z51 := Tryz.sizeOf108
  v51 := Tryz.zeroValue108
  t59 := Tryz.underlying87
  a59 := Tryz.isAgg87
  z59 := Tryz.sizeOf87
  v59 := Tryz.zeroValue87
  t146 := Tryz.underlying109
  a146 := Tryz.isAgg109
  z146 := Tryz.sizeOf109
  v146 := Tryz.zeroValue109
  g1 := by kernel_rfl
  i3 := by kernel_rfl
  i4 := by kernel_rfl
  i5 := by kernel_rfl
  i9 := by kernel_rfl
  i46 := by kernel_rfl
  i51 := by kernel_rfl
  i59 := by kernel_rfl
  i146 := by kernel_rfl
  m1 := by kernel_rfl
  s1_3 := fun w h => Go.Proofs.cell_of_shapedOpen_int (zero := #[.int .i64 0]) (t := 3) h (of_decide_eq_true (by kernel_rfl)) (by kernel_rfl) rfl (by kernel_rfl) (by kernel_rfl) Tryz.underlying3 }
end Go.Proofs
/- From the row's condition and the world's shape to what the walks ask: the program's table of the numbers 128 to 159 stands as it was laid, and the library's variable holds some number. -/
set_option linter.unusedVariables false
namespace Go.Proofs.YtlfjmgniflkapaaGreatDoor
open Go.RowKit

theorem env_of {W : World} (h : laidMetH Tryz.prog [("marginalia/charref.oldCodes", Rows.laid_marginalia_charref_oldCodes)] W) (hs : W.ShapedOpen Tryz.prog) : Env W := ⟨old_of_laid h, Tryz.laysM145.s1_3 W hs⟩
end Go.Proofs.YtlfjmgniflkapaaGreatDoor
set_option linter.unusedVariables false
namespace Go.Proofs.YtlfjmgniflkapaaGreatDoor
open Go.ChangeShapes Go.WideShapes Go.ChangeAt Go.RowKit
open Go.ChangeMaps (open_string shut_string)

theorem ownL : ownKnob Tryz.prog.godebug = none := by kernel_rfl
theorem laidOutD : laidOutB Tryz.prog = true := by kernel_rfl

set_option maxRecDepth 100000 in
theorem tokenNext_lifted (os : Os) (started : os.Started) (H : Type) (enc : TypeId × Value → H) :
    ReturnsInHanded {} Tryz.checked os 3 .any (fun w args => (Rows.tokenNextSpec.pre enc Tryz.prog Tryz.f3 [] false w args ∧ laidMetH Tryz.prog Rows.tokenNextRow.laid w) ∧ sizedMet enc Tryz.prog Tryz.f3 (OpenSpec.ofChange Rows.tokenNextSpec) false w args)
      (Rows.tokenNextSpec.post enc Tryz.prog Tryz.f3 false true false false) := by
  refine returnsInHanded_of_row (C := Tryz.checked) (s := OpenSpec.ofChange Rows.tokenNextSpec) (F := fun _ _ _ => 0) (conds := []) (laid := Rows.tokenNextRow.laid) ownL started (by kernel_rfl) Tryz.func3
    (ChangeSpec.witness_shaped (enc := enc) (C := Tryz.checked) (os := os) (X := fun w _ => laidMetH Tryz.prog Rows.tokenNextRow.laid w) false (World.laidAll Tryz.prog os Rows.tokenNextRow.laid) #[.string ByteArray.empty, .agg #[.int .i64 0, .int .i64 0, .string ByteArray.empty, .bool false]] 8 (World.laidAll_os _ _ _)
      (World.shaped_of_ZipB (by kernel_rfl) (by kernel_rfl)) (by kernel_rfl) (by kernel_rfl) (by kernel_rfl)
      (by rw [MakeChecks.laidMetH_plain _ _ _ (by kernel_rfl)]; exact laidMet_laidAll _ (by kernel_rfl) (by kernel_rfl))) ?_
  intro W base args ds gs before hval0 hW _ _ _ hL hsh _
  have hval : ∀ (j : Nat) t v, Tryz.f3.params[j]? = some t → args[j]? = some v → Value.okWide Tryz.prog W .any base t v := hval0
  have hW' := hW
  obtain ⟨p, q, hA0, hV, rfl, hfz, hnd⟩ := hW
  have hA : DataW.TrodAll enc Tryz.prog W 0 (fun _ => true) true Tryz.f3.params.toList args.toList ds p := hA0
  rw [Tryz.params3] at hA hval
  obtain ⟨v0, vs0, d0, ds0, p0, q0, hargs, rfl, rfl, h0, r0⟩ := trodAll_cons hA
  obtain ⟨v1, vs1, d1, ds1, p1, q1, rfl, rfl, rfl, h1, r1⟩ := trodAll_cons r0
  obtain ⟨rfl, rfl, rfl⟩ := trodAll_nil r1
  obtain rfl : args = #[v0, v1] := by cases args; simp_all
  obtain ⟨rfl, rfl⟩ := trodVars_none hV
  obtain ⟨a0, rfl, rfl, rfl, w0⟩ := open_string Tryz.underlying9 (hval 0 9 v0 rfl rfl) h0
  have k1 := h1
  have lt1 : ∀ x ∈ p1, x.block < W.heap.size := by obtain ⟨m, hm⟩ := k1; exact DataW.trod_lt m _ _ _ hm
  obtain ⟨c10, c11, c12, c13, y10, y11, y12, y13, m1, rfl, rfl, rfl, g10, g11, g12, g13⟩ := Joins.open_agg4 Tryz.underlying24 (by kernel_rfl) (by kernel_rfl) (hval 1 24 v1 rfl rfl) h1
  obtain ⟨z10, e10, rfl, u10⟩ := DataW.trod_int Tryz.underlying3 g10
  obtain ⟨z11, e11, rfl, u11⟩ := DataW.trod_int Tryz.underlying22 g11
  obtain ⟨z12, e12, rfl, u12⟩ := DataW.trod_string Tryz.underlying9 g12
  obtain ⟨z13, e13, rfl⟩ := DataW.trod_bool Tryz.underlying4 g13
  simp only [List.cons.injEq, and_true] at e10 e11 e12 e13
  subst e10 e11 e12 e13
  clear hA0 hval0
  refine (tnext_walk a0 z10 z11 z12 z13 W  (env_of hL hsh) ).mono fun e W' ⟨he, bel⟩ => ?_
  subst he
  exact ⟨_, rfl, _, _, _, [], _, [], hW', trodAll_mk1 (shut_bool Tryz.underlying4 _), (trodAll_cons_mk (shut_string Tryz.underlying9 w0) (trodAll_cons_mk (Below.trod laidOutD (by kernel_rfl) (of_decide_eq_true (by kernel_rfl)) k1 bel lt1) trodAll_mk0)), rfl, bel.frame _, fun h => by cases h⟩

theorem tokenNext_holds : Rows.TokenNextSaid :=
  OpenClaim.holds_of_wide 3 Tryz.f3 rfl rfl rfl rfl rfl rfl rfl ⟨rfl, rfl, rfl, rfl, rfl⟩ rfl rfl rfl rfl rfl (by kernel_rfl) Tryz.func3 (by kernel_rfl)
    (of_decide_eq_true (by kernel_rfl)) (by unfold Func.isWrapper; first | (rw [if_pos (by decide +kernel)]; kernel_rfl) | (rw [if_neg (by decide +kernel)]; exact ⟨rfl, rfl⟩))
    (fun os started H enc _ => tokenNext_lifted os started H enc)

theorem tokenNext_card : Rows.TokenNextCardSaid :=
  Claim7.holds_tied_plain_at .later [] _ _ _ _ tokenNext_holds (fun _ h => by cases h) (by kernel_rfl) (fun _ h => by cases h) tokenNext_row_tie rfl ⟨rfl, rfl⟩ (by kernel_rfl) rfl
    (fun f fn hf hfn => by
      obtain rfl : f = 3 := Option.some.inj ((show Tryz.prog.funcNamed Rows.tokenNextRow.func = some 3 by kernel_rfl).symm.trans hf) |>.symm
      obtain rfl : fn = Tryz.f3 := (Option.some.inj (Tryz.func3.symm.trans hfn)).symm
      exact ⟨by kernel_rfl, fun j t ht => by
        rw [Tryz.params3] at ht
        have hm : t ∈ [9, 24] := by simpa using Array.mem_of_getElem? ht
        have hall : ([9, 24].all fun u => !Tryz.prog.wantsStandIn u) = true := by kernel_rfl
        exact (show Tryz.prog.wantsStandIn t = false by simpa using List.all_eq_true.1 hall t hm)⟩)
    (by kernel_rfl)
end Go.Proofs.YtlfjmgniflkapaaGreatDoor
