/- The live question of stage 16's statements, and few. -/
import Derived.Test.YtbodbomebmkopaaPk16
import Derived.Laws.OwnMore
set_option linter.unusedVariables false
set_option linter.unusedSimpArgs false
set_option maxRecDepth 40000
namespace Go.Proofs.Ytbodbomebmkopaa
open Go.RowKit

theorem make_isY (w : World) (n : Nat) (hn : n ≤ 1000000) : ∃ w1, (Instr.makeSlice 23 (.int .i64 (n : Int)) (.int .i64 (n : Int))).run Try.prog w = .ok (.slice (some ⟨w.heap.size, 0, none⟩) n n) w1 ∧ IsY w1 (.slice (some ⟨w.heap.size, 0, none⟩) n n) (List.replicate n 0) ∧ Below w.heap.size w w1 := by
  obtain ⟨w1, h1, h2, h3⟩ := run_make_full (P := Try.prog) w w.heap.size 23 5 Try.t5 (.int .u8 0) 1 Try.underlying23 (by kernel_rfl) (by kernel_rfl) (by kernel_rfl) .i64 .i64 n (by rw [show Try.t5.bytes = 1 from by kernel_rfl]; omega) (by unfold maxLen; omega) (Nat.le_refl _)
  have e : (madeCells (Value.cells (.int .u8 0)) (n * 1)).toList = Lib.byteCells (List.replicate n 0) := by
    rw [show Value.cells (.int .u8 0) = #[.int .u8 0] from rfl, toList_madeCells_one, Nat.mul_one]
    simp [Lib.byteCells]
  rw [e] at h2
  refine ⟨w1, h1, ?_, (Below.refl _ w).grown h3 (Nat.le_refl _) (fun k hk => by cases hk)⟩
  have hl : (List.replicate n (0 : UInt8)).length = n := List.length_replicate
  have h4 : w1.ownsRow w.heap.size 5 1 (.slice (some ⟨w.heap.size, 0, none⟩) n n) (List.replicate n (0 : UInt8)).length (Lib.byteCells (List.replicate n 0)) := by rw [hl]; exact h2
  exact owns_isY h4
def liveC : List CL := [⟨1, 2, 0, 2, List.replicate 39 0⟩, ⟨1, 2, 1, 2, [0]⟩]
theorem live_cut : cutC (List.replicate 40 0) 1 2 = liveC := by kernel_rfl
theorem live_dec : decC (List.replicate 64 0) = none := by kernel_rfl
set_option maxHeartbeats 4000000 in
theorem alive_any (w : World) : Calls Try.prog 9 #[] w fun e w' => e = .returned (.bool true) ∧ Below w.heap.size w w' := by
  obtain ⟨w1, hm1, hy1, hb1⟩ := make_isY w 40 (by decide)
  have HC := hide (pcut_any _ _ 1 2 w1 hy1 (by decide) (by decide) (by decide))
  rw [live_cut] at HC
  have HB1 := hide hb1
  have HM2 : Hid (∀ x, ∃ w2, (Instr.makeSlice 23 (.int .i64 64) (.int .i64 64)).run Try.prog x = .ok (.slice (some ⟨x.heap.size, 0, none⟩) 64 64) w2 ∧ Below x.heap.size x w2 ∧ Calls Try.prog 13 #[.slice (some ⟨x.heap.size, 0, none⟩) 64 64] w2 fun e w' => Below w2.heap.size w2 w' ∧ ∃ a k, e = .returned (.tuple #[clA zeroC (.slice a 0 k), .int .i64 8])) := hide (fun x => by
    obtain ⟨w2, h1, h2, h3⟩ := make_isY x 64 (by decide)
    refine ⟨w2, h1, h3, (pdec_any _ _ w2 h2 (by decide)).mono ?_⟩
    rintro e w' ⟨hb, ⟨_, a, k, rfl⟩ | ⟨c, a, k, hc, _⟩⟩
    · exact ⟨hb, a, k, rfl⟩
    · rw [live_dec] at hc
      cases hc)
  change (Instr.makeSlice 23 (.int .i64 40) (.int .i64 40)).run Try.prog w = _ at hm1
  change Hid (Calls Try.prog _ #[_, .int .u64 1, .int .u64 2] w1 _) at HC
  clear hy1 hb1
  go_enter Try.func9, Try.ntmps9
  go_wp2_with fail
  refine HC.out.mono ?_
  rintro e w2 ⟨v, vs, rfl, hI, hm, hb2⟩
  have hvl : vs.length = 2 := by
    have := congrArg List.length hm
    rw [List.length_map] at this
    exact this
  obtain ⟨va, vc, rfl⟩ := hI.form
  obtain ⟨b, o, rfl, hc0, hi0⟩ := hI.at_ 0 (by omega)
  obtain ⟨b', o', e', hc1, hi1⟩ := hI.at_ 1 (by omega)
  injection e' with e'
  injection e' with e1 e2
  subst e1 e2
  have hv0 : vs[0].1 = ⟨1, 2, 0, 2, List.replicate 39 0⟩ := by
    have := congrArg (fun l : List CL => l[0]?) hm
    simp only [List.getElem?_map, List.getElem?_eq_getElem (show 0 < vs.length by omega), liveC] at this
    simpa using this
  have hv1 : vs[1].1 = ⟨1, 2, 1, 2, [0]⟩ := by
    have := congrArg (fun l : List CL => l[1]?) hm
    simp only [List.getElem?_map, List.getElem?_eq_getElem (show 1 < vs.length by omega), liveC] at this
    simpa using this
  obtain ⟨da0, dk0, hd0⟩ := hi0.d.form
  obtain ⟨da1, dk1, hd1⟩ := hi1.d.form
  rw [hv0] at hd0
  rw [hv1] at hd1
  have hd0' : vs[0].2 = .slice da0 39 dk0 := hd0
  have hd1' : vs[1].2 = .slice da1 1 dk1 := hd1
  have HD : Hid (∀ x, Below w2.heap.size w2 x → x.cell? ⟨b, o + 4, none⟩ = some (.slice da0 39 dk0) ∧ x.cell? ⟨b, o + 5 + 4, none⟩ = some (.slice da1 1 dk1) ∧ x.cell? ⟨b, o + 5 + 2, none⟩ = some (.int .i64 1)) := hide (fun x hb => by
    have p0 := (hc0 x hb).2.2.2.2
    have p1 := (hc1 x hb).2.2.2.2
    have p2 := (hc1 x hb).2.2.1
    rw [hd0', Nat.zero_mul, Nat.add_zero] at p0
    rw [hd1', Nat.one_mul] at p1
    rw [hv1, Nat.one_mul] at p2
    exact ⟨p0, p1, p2⟩)
  rw [hvl]
  obtain ⟨w3, hm3, hb3, hdec⟩ := HM2.out w2
  have HDEC := hide hdec
  have HB3 := hide (HB1.out.trans ((hb2.trans (hb3.mono hb2.size)).mono HB1.out.size))
  have HB23 := hide hb3
  clear hdec hd0 hd1 hd0' hd1' hv0 hv1 hi0 hi1 hc0 hc1 hI hm hvl hb2 hb3 HC HM2 hm1
  go_wp2_with fail
  refine HDEC.out.mono ?_
  rintro e w4 ⟨hb4, a, k, rfl⟩
  have HBX : Hid (∀ o, Below w.heap.size w (w4.alloc o)) := hide (fun o => HB3.out.trans ((hb4.trans ((below_alloc w4 o).mono hb4.size)).mono HB3.out.size))
  have HX : Hid (∀ q, ∃ _ : True, Below w2.heap.size w2 (w4.alloc q)) := hide (fun q => ⟨trivial, HB23.out.trans ((hb4.trans ((below_alloc w4 q).mono hb4.size)).mono HB23.out.size)⟩)
  have x1 : ∀ q, (w4.alloc q).cell? ⟨b, o + 4, none⟩ = some (.slice da0 39 dk0) := fun q => (HD.out _ (HX.out q).2).1
  have x2 : ∀ q, (w4.alloc q).cell? ⟨b, o + 5 + 4, none⟩ = some (.slice da1 1 dk1) := fun q => (HD.out _ (HX.out q).2).2.1
  have x3 : ∀ q, (w4.alloc q).cell? ⟨b, o + 5 + 2, none⟩ = some (.int .i64 1) := fun q => (HD.out _ (HX.out q).2).2.2
  clear hb4 HDEC HD HX HB23 HB3 hm3
  go_wp2
  go_ret
  exact ⟨rfl, HBX.out _⟩
end Go.Proofs.Ytbodbomebmkopaa
