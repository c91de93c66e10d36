/- Proved: for every region, epoch and list of cells WalReads answers true, and the live question is answered as fixed. Conditions: none beyond the given row's. -/
import Derived.Test.YthpepkfodcgbcaaRows
import Derived.Test.YthpepkfodcgbcaaWxR
import Derived.Test.YthpepkfodcgbcaaWq16
import Derived.WalkKit
import Derived.ProofKit
import Derived.OpenShut
import Derived.ShutString
import Derived.ChangeOld
import Derived.Below
import Derived.Lay
import Derived.LaidMore
import Derived.Deep.DeepHandedRow
import Derived.Lib.SmallJoins
set_option linter.unusedVariables false
namespace Go.Proofs.Ythpepkfodcgbcaa
open Go.ChangeShapes Go.WideShapes Go.ChangeAt Go.RowKit
open Go.ChangeMaps (open_string shut_string)

theorem ownL : ownKnob Try.prog.godebug = none := by kernel_rfl
theorem laidOutD : laidOutB Try.prog = true := by kernel_rfl
theorem i64_is {z : Int} (h : (Lit.int .i64 z).wf = true) : -9223372036854775808 ≤ z ∧ z ≤ 9223372036854775807 := by
  have h1 : IntKind.i64.min ≤ z ∧ z ≤ IntKind.i64.max := by simpa [Lit.wf] using h
  exact h1
theorem u64_is {z : Int} (h : (Lit.int .u64 z).wf = true) : ∃ Z : Nat, z = (Z : Int) ∧ Z < 18446744073709551616 := by
  have h1 : IntKind.u64.min ≤ z ∧ z ≤ IntKind.u64.max := by simpa [Lit.wf] using h
  have h2 : (0 : Int) ≤ z ∧ z ≤ 18446744073709551615 := h1
  exact ⟨z.toNat, by omega, by omega⟩
theorem walReads_fr (bl fi si ep : Int) (hf : (Lit.int .i64 fi).wf = true) (hs : (Lit.int .i64 si).wf = true) (he : (Lit.int .u64 ep).wf = true) (lv : Value) (l : List (CL × Value)) (w : World) (hL : IsL w lv l) (hl : l.length ≤ 9223372036854775807) : Calls Try.prog 4 #[.agg #[.int .i64 bl, .int .i64 fi, .int .i64 si, .int .u64 ep], lv] w fun e w' => e = .returned (.bool true) ∧ Below w.heap.size w w' := by
  obtain ⟨Z, rfl, hZ⟩ := u64_is he
  exact walReads_walk bl fi si Z lv l w (i64_is hf) (i64_is hs) hZ hL hl
set_option maxRecDepth 100000 in
theorem walReads_lifted (os : Os) (started : os.Started) (H : Type) (enc : TypeId × Value → H) :
    ReturnsInHanded {} Try.checked os 4 .any (Rows.walReadsSpec.pre6 enc Try.prog Try.f4 Rows.walReadsRow.domain false) (Rows.walReadsSpec.post enc Try.prog Try.f4 false true false false) := by
  refine returnsInHanded_of_change (C := Try.checked) ownL started (by kernel_rfl) Try.func4
    (ChangeSpec.witness6 (enc := enc) (C := Try.checked) false ⟨#[], #[.agg #[.int .i64 0, .int .i64 0, .int .i64 0, .int .u64 0], .slice none 0 0], []⟩ 8 (by kernel_rfl) (by kernel_rfl) (by kernel_rfl) (by kernel_rfl)) ?_
  intro W base args ds gs before hval0 hW hcnd _
  have hval : ∀ (j : Nat) t v, Try.f4.params[j]? = some t → args[j]? = some v → Value.okWide Try.prog W .any base t v := hval0
  have hW' := hW
  obtain ⟨p, q, hA0, hV, rfl, hfz, hnd⟩ := hW
  have hA : DataW.TrodAll enc Try.prog W 0 (fun _ => true) true Try.f4.params.toList args.toList ds p := hA0
  rw [Try.params4] at hA hval
  obtain ⟨v0, vs0, d0, ds0, p0, q0, hargs, rfl, rfl, h0, r0⟩ := trodAll_cons hA
  obtain ⟨v1, vs1, d1, ds1, p1, q1, rfl, rfl, rfl, h1, r1⟩ := trodAll_cons r0
  obtain ⟨rfl, rfl, rfl⟩ := trodAll_nil r1
  obtain rfl : args = #[v0, v1] := by cases args; simp_all
  obtain ⟨rfl, rfl⟩ := trodVars_none hV
  have k0 := h0
  have lt0 : ∀ x ∈ p0, x.block < W.heap.size := by obtain ⟨m, hm⟩ := k0; exact DataW.trod_lt m _ _ _ hm
  obtain ⟨c00, c01, c02, c03, y00, y01, y02, y03, m0, rfl, rfl, rfl, g00, g01, g02, g03⟩ := Joins.open_agg4 Try.underlying68 (by kernel_rfl) (by kernel_rfl) (hval 0 68 v0 rfl rfl) h0
  obtain ⟨z00, e00, rfl, u00⟩ := DataW.trod_int Try.underlying3 g00
  obtain ⟨z01, e01, rfl, u01⟩ := DataW.trod_int Try.underlying3 g01
  obtain ⟨z02, e02, rfl, u02⟩ := DataW.trod_int Try.underlying3 g02
  obtain ⟨z03, e03, rfl, u03⟩ := DataW.trod_int Try.underlying37 g03
  simp only [List.cons.injEq, and_true] at e00 e01 e02 e03
  subst e00 e01 e02 e03
  have k1 := h1
  have lt1 : ∀ x ∈ p1, x.block < W.heap.size := by obtain ⟨m, hm⟩ := k1; exact DataW.trod_lt m _ _ _ hm
  obtain ⟨a1, len1, cap1, rfl⟩ := okWide_slice Try.underlying69 (hval 1 69 v1 rfl rfl)
  obtain ⟨aa1, hb1, hc1⟩ : ∃ xs, IsL W (.slice a1 len1 cap1) xs ∧ xs.length ≤ 9223372036854775807 := by
    obtain ⟨fuel, hf⟩ := h1
    exact cells_in hf
  clear hA0 hval0
  refine (walReads_fr z00 z01 z02 z03 u01 u02 u03 _ aa1 W   hb1 hc1).mono fun e W' ⟨he, bel⟩ => ?_
  subst he
  exact ⟨_, rfl, _, _, _, [], _, [], hW', trodAll_mk1 (shut_bool Try.underlying4 _), (trodAll_cons_mk (Below.trod laidOutD (by kernel_rfl) (of_decide_eq_true (by kernel_rfl)) k0 bel lt0) (trodAll_cons_mk (Below.trod laidOutD (by kernel_rfl) (of_decide_eq_true (by kernel_rfl)) k1 bel lt1) trodAll_mk0)), rfl, bel.frame _, fun h => by cases h⟩

theorem walReads_holds : Rows.WalReadsSaid :=
  OpenClaim.holds_of_wide 4 Try.f4 rfl rfl rfl rfl rfl rfl rfl ⟨rfl, rfl, rfl, rfl, rfl⟩ rfl rfl rfl rfl rfl (by kernel_rfl) Try.func4 (by kernel_rfl)
    (of_decide_eq_true (by kernel_rfl)) (by unfold Func.isWrapper; first | (rw [if_pos (by decide +kernel)]; kernel_rfl) | (rw [if_neg (by decide +kernel)]; exact ⟨rfl, rfl⟩))
    (fun os started H enc _ => walReads_lifted os started H enc)
end Go.Proofs.Ythpepkfodcgbcaa
