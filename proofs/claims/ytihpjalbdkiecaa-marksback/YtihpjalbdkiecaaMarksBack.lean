/- Proved: for every list of marks, every place and every mark MarksBack answers true: an entry of an Id that none has, put in at a place, is found there or at the end, and taken out leaves the list as it was; what is cleared behind a marker that was pushed is as it was ahead of it, of at most 40 entries of at most 6 attributes; else nothing is asked; the document's own answer has no part in it, and the live question is answered as fixed. Conditions: none beyond the given row's. -/
import Derived.Test.YtihpjalbdkiecaaRows
import Derived.Test.YtihpjalbdkiecaaLG7
import Derived.Test.YtihpjalbdkiecaaRow7
import Derived.WalkKit
import Derived.ProofKit
import Derived.OpenShut
import Derived.ShutString
import Derived.ChangeOld
import Derived.Below
import Derived.Lay
import Derived.LaidMore
import Derived.Deep.DeepHandedRow
import Derived.Lib.SmallJoins
set_option linter.unusedVariables false
namespace Go.Proofs.Ytihpjalbdkiecaa
open Go.ChangeShapes Go.WideShapes Go.ChangeAt Go.RowKit
open Go.ChangeMaps (open_string shut_string)

theorem ownL : ownKnob Try.prog.godebug = none := by kernel_rfl
theorem laidOutD : laidOutB Try.prog = true := by kernel_rfl
theorem marksBack_walk2 (v : Value) (l : List MV) (z : Int) (hz : (Lit.int .i64 z).wf = true) (id : Int) (nm : ByteArray) (mv : Value) (aa : AttrL) (w : World) (hM : RowM w v l) (hO : OkM w l) (hm : IsQ w mv aa) : Calls Try.prog 8 #[v, .int .i64 z, .agg #[.int .i64 id, .string nm, mv]] w fun e w' => e = .returned (.bool true) ∧ Below w.heap.size w w' := marksBack_walk v l z ⟨id, nm, aa, mv⟩ w hM hO hm

set_option maxRecDepth 100000 in
theorem marksBack_lifted (os : Os) (started : os.Started) (H : Type) (enc : TypeId × Value → H) :
    ReturnsInHanded {} Try.checked os 8 .any (Rows.marksBackSpec.pre6 enc Try.prog Try.f8 Rows.marksBackRow.domain false) (Rows.marksBackSpec.post enc Try.prog Try.f8 false true false false) := by
  refine returnsInHanded_of_change (C := Try.checked) ownL started (by kernel_rfl) Try.func8
    (ChangeSpec.witness6 (enc := enc) (C := Try.checked) false ⟨#[], #[.slice none 0 0, .int .i64 0, .agg #[.int .i64 0, .string ByteArray.empty, .slice none 0 0]], []⟩ 8 (by kernel_rfl) (by kernel_rfl) (by kernel_rfl) (by kernel_rfl)) ?_
  intro W base args ds gs before hval0 hW hcnd _
  have hval : ∀ (j : Nat) t v, Try.f8.params[j]? = some t → args[j]? = some v → Value.okWide Try.prog W .any base t v := hval0
  have hW' := hW
  obtain ⟨p, q, hA0, hV, rfl, hfz, hnd⟩ := hW
  have hA : DataW.TrodAll enc Try.prog W 0 (fun _ => true) true Try.f8.params.toList args.toList ds p := hA0
  rw [Try.params8] at hA hval
  obtain ⟨v0, vs0, d0, ds0, p0, q0, hargs, rfl, rfl, h0, r0⟩ := trodAll_cons hA
  obtain ⟨v1, vs1, d1, ds1, p1, q1, rfl, rfl, rfl, h1, r1⟩ := trodAll_cons r0
  obtain ⟨v2, vs2, d2, ds2, p2, q2, rfl, rfl, rfl, h2, r2⟩ := trodAll_cons r1
  obtain ⟨rfl, rfl, rfl⟩ := trodAll_nil r2
  obtain rfl : args = #[v0, v1, v2] := by cases args; simp_all
  obtain ⟨rfl, rfl⟩ := trodVars_none hV
  have k0 := h0
  have lt0 : ∀ x ∈ p0, x.block < W.heap.size := by obtain ⟨m, hm⟩ := k0; exact DataW.trod_lt m _ _ _ hm
  obtain ⟨a0, len0, cap0, rfl⟩ := okWide_slice Try.underlying25 (hval 0 25 v0 rfl rfl)
  obtain ⟨aa0, hb0, hc0⟩ : ∃ xs, RowM W (.slice a0 len0 cap0) xs ∧ OkM W xs := by
    obtain ⟨fuel, hf⟩ := h0
    exact marks_of hf
  obtain ⟨a1, rfl, rfl, rfl, w1⟩ := open_int Try.underlying3 (hval 1 3 v1 rfl rfl) h1
  have k2 := h2
  have lt2 : ∀ x ∈ p2, x.block < W.heap.size := by obtain ⟨m, hm⟩ := k2; exact DataW.trod_lt m _ _ _ hm
  obtain ⟨c20, c21, c22, y20, y21, y22, m2, rfl, rfl, rfl, g20, g21, g22⟩ := Joins.open_agg3 Try.underlying27 (by kernel_rfl) (by kernel_rfl) (hval 2 27 v2 rfl rfl) h2
  obtain ⟨z20, e20, rfl, u20⟩ := DataW.trod_int Try.underlying3 g20
  obtain ⟨z21, e21, rfl, u21⟩ := DataW.trod_string Try.underlying9 g21
  obtain ⟨aa2, hb2⟩ := attrs_of g22
  simp only [List.cons.injEq, and_true] at e20 e21
  subst e20 e21
  clear hA0 hval0
  refine (marksBack_walk2 _ aa0 a1 w1 z20 z21 c22 aa2 W   hb0 hc0 hb2).mono fun e W' ⟨he, bel⟩ => ?_
  subst he
  exact ⟨_, rfl, _, _, _, [], _, [], hW', trodAll_mk1 (shut_bool Try.underlying4 _), (trodAll_cons_mk (Below.trod laidOutD (by kernel_rfl) (of_decide_eq_true (by kernel_rfl)) k0 bel lt0) (trodAll_cons_mk (shut_int Try.underlying3 w1) (trodAll_cons_mk (Below.trod laidOutD (by kernel_rfl) (of_decide_eq_true (by kernel_rfl)) k2 bel lt2) trodAll_mk0))), rfl, bel.frame _, fun h => by cases h⟩

theorem marksBack_holds : Rows.MarksBackSaid :=
  OpenClaim.holds_of_wide 8 Try.f8 rfl rfl rfl rfl rfl rfl rfl ⟨rfl, rfl, rfl, rfl, rfl⟩ rfl rfl rfl rfl rfl (by kernel_rfl) Try.func8 (by kernel_rfl)
    (of_decide_eq_true (by kernel_rfl)) (by unfold Func.isWrapper; first | (rw [if_pos (by decide +kernel)]; kernel_rfl) | (rw [if_neg (by decide +kernel)]; exact ⟨rfl, rfl⟩))
    (fun os started H enc _ => marksBack_lifted os started H enc)
end Go.Proofs.Ytihpjalbdkiecaa
