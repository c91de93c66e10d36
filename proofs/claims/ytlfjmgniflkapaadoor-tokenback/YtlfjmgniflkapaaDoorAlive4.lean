/- What the statements' live question answers: true; nothing that was there is written. -/
import Derived.Test.YtlfjmgniflkapaaDoorRdR
import Derived.Test.YtlfjmgniflkapaaDoorRdS
import Derived.KernelRfl
set_option linter.unusedVariables false
set_option linter.unusedSimpArgs false
namespace Go.Proofs.YtlfjmgniflkapaaDoor
open Go.RowKit

theorem alive_next : nextZ 0 [] false [97, 60, 66, 32, 99, 61, 100, 62, 101] 1 = ({ kind := 2, name := [98], attrs := [([99], [100])] }, [101]) := by kernel_rfl
theorem alive_all : (allL [97, 60, 98, 62, 99]).length = 3 := by kernel_rfl

set_option maxHeartbeats 1000000 in
theorem alive_any (w : World) (he : Env w) :
    Calls Tryd.prog 7 #[] w fun e w' => e = .returned (.bool true) ∧ Below w.heap.size w w' := by
  have h1 := pnext_any ⟨#[97, 60, 66, 32, 99, 61, 100, 62, 101]⟩ ⟨#[]⟩ (by decide) (by decide) 1 0 false w he
  rw [show (⟨#[97, 60, 66, 32, 99, 61, 100, 62, 101]⟩ : ByteArray).data.toList = [97, 60, 66, 32, 99, 61, 100, 62, 101] from rfl, show (⟨#[]⟩ : ByteArray).data.toList = [] from rfl, alive_next] at h1
  have H1 := hide h1
  have H2 := hide (fun v w (hA : IsA w v [([99], [100])]) => pget_any v [([99], [100])] (by decide) ⟨#[99]⟩ w hA)
  have H3 := hide (fun w he => pall_any ⟨#[97, 60, 98, 62, 99]⟩ (by decide) w he)
  have HE := hide he
  clear h1 he
  go_enter Tryd.func7, Tryd.ntmps7
  go_wp2_with fail
  refine H1.out.mono ?_
  rintro e w1 ⟨⟨sv, hA, hob, rfl⟩, b1⟩
  obtain ⟨sa, sc, rfl⟩ := isA_form hA
  have HA := hide (hA.below (below_alloc w1 (.cells #[.int .i64 2, .string ⟨#[98]⟩, .slice sa 1 sc, .bool false, .string ⟨#[]⟩] 32)))
  have KT := hide (Kept.new w1 [.int .i64 2, .string ⟨#[98]⟩, .slice sa 1 sc, .bool false, .string ⟨#[]⟩] 32)
  have B1 := hide (b1.alloc b1.size (.cells #[.int .i64 2, .string ⟨#[98]⟩, .slice sa 1 sc, .bool false, .string ⟨#[]⟩] 32))
  have hz : (⟨#[97, 60, 66, 32, 99, 61, 100, 62, 101]⟩ : ByteArray).size - [(101 : UInt8)].length = 8 := rfl
  clear hA hob b1
  simp only [tokV, hz]
  go_wp2_with fail
  refine (H2.out _ _ HA.out).mono ?_
  rintro e w2 ⟨rfl, b2⟩
  have KT2 := hide (KT.out.below b2)
  have B2 := hide (B1.out.trans (b2.mono B1.out.size))
  have hg1 : gotS (getA [([99], [100])] (⟨#[99]⟩ : ByteArray).data.toList) = ⟨#[100]⟩ := rfl
  have hg2 : (getA [(([99] : List UInt8), ([100] : List UInt8))] (⟨#[99]⟩ : ByteArray).data.toList).isSome = true := rfl
  rw [hg1, hg2]
  clear b2 HA KT B1 H1 H2 hg1 hg2
  generalize w1.heap.size = G at *
  have g0 : w2.cell? ⟨G, 0, none⟩ = some (.int .i64 2) := KT2.out.1 0
  have g1 : w2.cell? ⟨G, 1, none⟩ = some (.string ⟨#[98]⟩) := KT2.out.1 1
  go_wp2_with fail
  refine (H3.out _ (HE.out.below B2.out)).mono ?_
  rintro e w3 ⟨lv, ts, rfl, hts, hown, _, b3⟩
  have hl : ts.length = 3 := by
    have := congrArg List.length hts
    rw [List.length_map] at this
    rw [this]
    exact alive_all
  obtain ⟨la, lc, rfl⟩ := owns_form hown
  have B3 := hide (B2.out.trans (b3.mono B2.out.size))
  clear hts hown b3 B2 g0 g1
  rw [hl]
  go_wp2
  go_ret
  exact ⟨rfl, B3.out⟩
end Go.Proofs.YtlfjmgniflkapaaDoor
