import Derived.Test.YtpppdfjdngmaoaaGreatDoorKh09
import Derived.Test.YtpppdfjdngmaoaaGreatDoorKh10
import Derived.Lib.FrozenHead
import Derived.Lib.FrozenHead2
import Derived.Lib.Builder
import Derived.Lib.OthersKept
import Derived.BigCall
import Derived.Lib.Strings
import Derived.Lib.AppendStr
set_option linter.unusedVariables false
set_option linter.unusedSimpArgs false
set_option maxRecDepth 100000
set_option maxHeartbeats 8000000
namespace Go.Proofs.YtpppdfjdngmaoaaGreatDoor.P9
open Go.RowKit
abbrev tP : TypeId := 72
abbrev tU : TypeId := 5
theorem check_used (b : Nat) (w : World) (h0 : w.cell? ⟨b, 0, none⟩ = some (.pointer (some ⟨b, 0, none⟩))) :
    Calls Tryz.prog 68 #[.pointer (some ⟨b, 0, none⟩)] w fun e w' => e = .returned (.tuple #[]) ∧ w' = w := by
  have hs : (Tryz.prog.info? 70).map (·.size) = some 2 := by kernel_rfl
  obtain ⟨j, hj, _⟩ := Option.map_eq_some_iff.1 hs
  go_enter Tryz.func68, Tryz.ntmps68
  go_wp2
  rw [Lib.run_neq_ptr_same w _ Tryz.underlying68 hj]
  go_wp2
  go_end0
  exact ⟨rfl, rfl⟩
theorem check_fresh (b : Nat) (w : World) (h0 : w.cell? ⟨b, 0, none⟩ = some (.pointer none)) (hsh : w.shape? b = some (tP, 2)) (hfz : w.frozen? ⟨b, 0, none⟩ = false) :
    Calls Tryz.prog 68 #[.pointer (some ⟨b, 0, none⟩)] w fun e w' => e = .returned (.tuple #[]) ∧ w' = w.setCell ⟨b, 0, none⟩ (.pointer (some ⟨b, 0, none⟩)) := by
  have hs : (Tryz.prog.info? 70).map (·.size) = some 2 := by kernel_rfl
  obtain ⟨j, hj, hjs⟩ := Option.map_eq_some_iff.1 hs
  go_enter Tryz.func68, Tryz.ntmps68
  go_wp2
  rw [Lib.run_to_unsafe w ⟨b, 0, none⟩ Tryz.underlying68 Tryz.underlying127 hj (by rw [hjs]; decide) hsh (Nat.zero_lt_succ 1)]
  simp only [Result.andThen]
  rw [Oper.upon_value]
  go_wp2
  rw [run_callFunc_extern Tryz.func95 (by kernel_rfl) (by kernel_rfl) (by kernel_rfl) (e := Extern.AbiNoEscape.same) (by kernel_rfl)]
  rw [Lib.run_noEscape]
  simp only [Result.andThen]
  rw [Oper.upon_value]
  go_wp2
  rw [Lib.run_from_unsafe w ⟨b, 0, none⟩ Tryz.underlying127 Tryz.underlying68 hj hsh (by kernel_rfl)]
  simp only [Result.andThen]
  rw [Oper.upon_value]
  go_wp2
  go_end0
  exact ⟨rfl, rfl⟩
theorem check_k (B b : Nat) (bs : List Value) (w : World) (h : Lib.IsBuilderF tP tU B b bs w) :
    Calls Tryz.prog 68 #[.pointer (some ⟨b, 0, none⟩)] w fun e w' => e = .returned (.tuple #[]) ∧ (Lib.BuilderAtF tP tU B b (.pointer (some ⟨b, 0, none⟩)) bs w' ∧ Below B w w' ∧ Lib.OthersKept tU (some b) w w') := by
  rcases h with h | h
  · refine (check_fresh b w h.cell0 h.shape h.frozen0).mono ?_
    rintro e w' ⟨rfl, rfl⟩
    exact ⟨rfl, h.used _, (Below.refl B w).setCell (p := ⟨b, 0, none⟩) h.1 _, (Lib.OthersKept.refl _ _ w).setCell ⟨b, 0, none⟩ rfl _⟩
  · refine (check_used b w h.cell0).mono ?_
    rintro e w' ⟨rfl, rfl⟩
    exact ⟨rfl, h, Below.refl B _, Lib.OthersKept.refl _ _ _⟩
theorem byte_info : ∃ i0 : TypeInfo, Tryz.prog.info? tU = some i0 ∧ i0.zero = some (.int .u8 0) ∧ i0.size = 1 ∧ i0.bytes = 1 := by
  have h : (Tryz.prog.info? tU).map (fun i => (i.zero, i.size, i.bytes)) = some (some (.int .u8 0), 1, 1) := by kernel_rfl
  obtain ⟨i, hi, h2⟩ := Option.map_eq_some_iff.1 h
  simp only [Prod.mk.injEq] at h2
  exact ⟨i, hi, h2.1, h2.2.1, h2.2.2⟩
theorem write_k (B b : Nat) (bs : List Value) (s : ByteArray) (w : World) (h : Lib.IsBuilderF tP tU B b bs w) (hlen : bs.length + s.size ≤ 140737488355328) (hBw : B ≤ w.heap.size) :
    Calls Tryz.prog 53 #[.pointer (some ⟨b, 0, none⟩), .string s] w fun e w' => e = .returned (.tuple #[.int .i64 s.size, .nilIface]) ∧ (Lib.BuilderAtF tP tU B b (.pointer (some ⟨b, 0, none⟩)) (bs ++ Lib.strCells s) w' ∧ Below B w w' ∧ Lib.OthersKept tU (some b) w w') := by
  obtain ⟨i0, hi, hz0, hz1, hz2⟩ := byte_info
  have HC := hide (check_k B b bs w h)
  clear h
  go_enter Tryz.func53, Tryz.ntmps53
  go_wp2_with fail
  refine HC.out.mono ?_
  rintro e w1 ⟨rfl, h1, hb1, hk1⟩
  obtain ⟨hB, v, hbk, hown, hne⟩ := h1
  have c0 : w1.cell? ⟨b, 0, none⟩ = some (.pointer (some ⟨b, 0, none⟩)) := by rw [Lib.cell_of_heap hbk]; rfl
  have c1 : w1.cell? ⟨b, 1, none⟩ = some v := by rw [Lib.cell_of_heap hbk]; rfl
  go_wp2_with (at_builtin; refine Lib.wpList_append_own_stringF _ rfl _ _ 64 9 rfl B tU i0 Tryz.underlying64 Tryz.underlying9 hi hz0 hz1 hz2 _ _ _ rfl hown s rfl ?c3 ?c4 ?c5 ?_)
  case c3 => unfold maxLen; omega
  case c4 => omega
  case c5 => have := hb1.size; omega
  intro v' w2 hown' hgrow _
  have hlt : b < w1.heap.size := by
    rcases Nat.lt_or_ge b w1.heap.size with h' | h'
    · exact h'
    · simp [Array.getElem?_eq_none h'] at hbk
  have hb2 : w2.heap[b]? = some (.cells #[.pointer (some ⟨b, 0, none⟩), v] tP (0, 0)) := by
    rw [hgrow.block b hlt (fun e => hne e.symm)]
    exact hbk
  have d0 : w2.cell? ⟨b, 0, none⟩ = some (.pointer (some ⟨b, 0, none⟩)) := by rw [Lib.cell_of_heap hb2]; rfl
  have d1 : w2.cell? ⟨b, 1, none⟩ = some v := by rw [Lib.cell_of_heap hb2]; rfl
  have f1 : w2.frozen? ⟨b, 1, none⟩ = false := Lib.frozen_of_heap hb2 1
  obtain ⟨ao, n', cap, rfl⟩ : ∃ ao n' cap, v' = .slice ao n' cap := by
    rcases hown'.2 with ⟨hv, _⟩ | ⟨g, cap, cur, fz, hv, _⟩
    · exact ⟨_, _, _, hv⟩
    · exact ⟨_, _, _, hv⟩
  go_wp2
  go_ret2
  refine ⟨rfl, ?_, ?_, (hk1.grown hgrow (Lib.ownsRowF_kind hown)).setCell ⟨b, 1, none⟩ rfl _⟩
  · exact Lib.BuilderAtF.put (T := tP) (e := tU) hB hb2 (bs' := bs ++ Lib.strCells s) (by simpa [Lib.strCells_length] using hown') (by decide)
  · exact (hb1.grown hgrow (by have := hb1.size; omega) (fun k hk => (hown.lt k hk).1)).setCell (p := ⟨b, 1, none⟩) hB _
end Go.Proofs.YtpppdfjdngmaoaaGreatDoor.P9
namespace Go.Proofs.YtpppdfjdngmaoaaGreatDoor.P9
open Go.RowKit
theorem us_none (W : World) (q : Option Addr) : (Builtin.unsafeString_ #[109, 3] 9 #[.pointer q, .int .i64 0]).run Tryz.prog W = .ok (.string .empty) W := Lib.run_unsafeString_none W _ _ _ q
theorem string_k (B b : Nat) (l : List UInt8) (w : World) (h : Lib.IsBuilderF tP tU B b (Lib.byteCells l) w) (h0 : l ≠ []) :
    Calls Tryz.prog 38 #[.pointer (some ⟨b, 0, none⟩)] w fun e w' => e = .returned (.string ⟨l.toArray⟩) ∧ Below B w w' := by
  obtain ⟨p, hp, hAt⟩ : ∃ p, (p = .pointer none ∨ p = .pointer (some ⟨b, 0, none⟩)) ∧ Lib.BuilderAtF tP tU B b p (Lib.byteCells l) w := by
    rcases h with h | h
    · exact ⟨_, .inl rfl, h⟩
    · exact ⟨_, .inr rfl, h⟩
  obtain ⟨hB, v, hbk, hown, hne⟩ := hAt
  have hl0 : l.length ≠ 0 := by simpa using h0
  rw [Lib.byteCells_length] at hown
  obtain ⟨g, cap, cur, fz, rfl, hbg, hg, hfz, hnc, hcm, hcs, htake⟩ : ∃ g cap cur fz, v = .slice (some ⟨g, 0, none⟩) l.length cap ∧ B ≤ g ∧ w.heap[g]? = some (.cells cur tU fz) ∧ fz.2 ≤ l.length * 1 ∧ l.length ≤ cap ∧ cap ≤ maxLen ∧ cur.size = cap * 1 ∧ cur.toList.take (l.length * 1) = Lib.byteCells l := by
    rcases hown.2 with ⟨_, hz⟩ | ⟨g, cap, cur, fz, hv, r⟩
    · exact absurd hz hl0
    · exact ⟨g, cap, cur, fz, hv, r⟩
  have c1 : w.drew.cell? ⟨b, 1, none⟩ = some (.slice (some ⟨g, 0, none⟩) l.length cap) := by
    have : w.drew.heap[b]? = some (.cells #[p, .slice (some ⟨g, 0, none⟩) l.length cap] tP (0, 0)) := hbk
    rw [Lib.cell_of_heap this]; rfl
  have hSD : (Builtin.unsafeSliceData_ #[64] 109 #[.slice (some ⟨g, 0, none⟩) l.length cap]).run Tryz.prog w.drew = .ok (.pointer (some ⟨g, 0, none⟩)) w.drew :=
    Lib.run_unsafeSliceData_row _ _ _ _ _ _ (by omega)
  have hUS : (Builtin.unsafeString_ #[109, 3] 9 #[.pointer (some ⟨g, 0, none⟩), .int .i64 l.length]).run Tryz.prog w.drew = .ok (.string ⟨l.toArray⟩) (w.drew.freeze ⟨g, 0, none⟩ l.length) := by
    refine Lib.run_unsafeString_row w.drew 109 3 9 tU Tryz.underlying109 (by kernel_rfl) g cur.size (by have hg' : w.drew.heap[g]? = some (.cells cur tU fz) := hg; simp [World.shape?, hg']) l h0 (by omega) (by unfold maxLen at hcm; omega) ?_
    intro j x hx
    have := hown.cells (g := g) rfl j (.int .u8 x.toNat) (by simp [Lib.byteCells, hx])
    exact this
  clear hown hp h
  go_enter Tryz.func38, Tryz.ntmps38
  go_wp2
  go_region
  all_goals (go_wp2; go_ret; exact ⟨rfl, Lib.below_freeze (Below.drew (Below.refl B w)) (p := ⟨g, 0, none⟩) hbg _⟩)
theorem string_nil (B b : Nat) (p : Value) (w : World) (hbk : w.heap[b]? = some (.cells #[p, .slice none 0 0] tP (0, 0))) :
    Calls Tryz.prog 38 #[.pointer (some ⟨b, 0, none⟩)] w fun e w' => e = .returned (.string ⟨#[]⟩) ∧ Below B w w' := by
  have hUS := us_none
  have c1 : w.drew.cell? ⟨b, 1, none⟩ = some (.slice none 0 0) := by
    have : w.drew.heap[b]? = some (.cells #[p, .slice none 0 0] tP (0, 0)) := hbk
    rw [Lib.cell_of_heap this]; rfl
  have hSD : (Builtin.unsafeSliceData_ #[64] 109 #[.slice none 0 0]).run Tryz.prog w.drew = .ok (.pointer none) w.drew := rfl
  go_enter Tryz.func38, Tryz.ntmps38
  go_wp2
  go_region
  all_goals (go_wp2; go_ret; exact ⟨rfl, Below.drew (Below.refl B w)⟩)
theorem string_noroom (B b g : Nat) (p : Value) (cur : Array Value) (w : World) (hBw : B ≤ w.heap.size) (hbk : w.heap[b]? = some (.cells #[p, .slice (some ⟨g, 0, none⟩) 0 0] tP (0, 0))) (fz : Nat × Nat) (hg : w.heap[g]? = some (.cells cur tU fz)) :
    Calls Tryz.prog 38 #[.pointer (some ⟨b, 0, none⟩)] w fun e w' => e = .returned (.string ⟨#[]⟩) ∧ Below B w w' := by
  have hUS := us_none
  have hlt : b < w.heap.size := by
    rcases Nat.lt_or_ge b w.heap.size with h' | h'
    · exact h'
    · simp [Array.getElem?_eq_none h'] at hbk
  have c1 : w.drew.cell? ⟨b, 1, none⟩ = some (.slice (some ⟨g, 0, none⟩) 0 0) := by
    have : w.drew.heap[b]? = some (.cells #[p, .slice (some ⟨g, 0, none⟩) 0 0] tP (0, 0)) := hbk
    rw [Lib.cell_of_heap this]; rfl
  have hSD : (Builtin.unsafeSliceData_ #[64] 109 #[.slice (some ⟨g, 0, none⟩) 0 0]).run Tryz.prog w.drew = .ok (.pointer (some ⟨w.drew.heap.size, 0, none⟩)) (w.drew.alloc (.view ⟨g, 0, none⟩ tU)) :=
    Lib.run_unsafeSliceData_zero w.drew _ _ tU Tryz.underlying109 ⟨g, 0, none⟩ 0 (tU, cur.size) (by have hg' : w.drew.heap[g]? = some (.cells cur tU fz) := hg; simp [World.shape?, hg'])
  have c2 : (w.drew.alloc (.view ⟨g, 0, none⟩ tU)).cell? ⟨b, 1, none⟩ = some (.slice (some ⟨g, 0, none⟩) 0 0) := by
    have : (w.drew.alloc (.view ⟨g, 0, none⟩ tU)).heap[b]? = _ := (Lib.alloc_old w.drew _ b hlt).trans hbk
    rw [Lib.cell_of_heap this]; rfl
  have c3 : (w.alloc (.view ⟨g, 0, none⟩ tU)).drew.cell? ⟨b, 1, none⟩ = some (.slice (some ⟨g, 0, none⟩) 0 0) := c2
  have c0 : w.cell? ⟨b, 1, none⟩ = some (.slice (some ⟨g, 0, none⟩) 0 0) := c1
  go_enter Tryz.func38, Tryz.ntmps38
  go_wp2
  go_region
  all_goals (go_wp2; go_ret; exact ⟨rfl, (Below.drew (Below.refl B w)).alloc hBw _⟩)
theorem string_room (B b g cap : Nat) (p : Value) (w : World) (hc0 : cap ≠ 0) (hbk : w.heap[b]? = some (.cells #[p, .slice (some ⟨g, 0, none⟩) 0 cap] tP (0, 0))) :
    Calls Tryz.prog 38 #[.pointer (some ⟨b, 0, none⟩)] w fun e w' => e = .returned (.string ⟨#[]⟩) ∧ Below B w w' := by
  have hUS := us_none
  have c1 : w.drew.cell? ⟨b, 1, none⟩ = some (.slice (some ⟨g, 0, none⟩) 0 cap) := by
    have : w.drew.heap[b]? = some (.cells #[p, .slice (some ⟨g, 0, none⟩) 0 cap] tP (0, 0)) := hbk
    rw [Lib.cell_of_heap this]; rfl
  have hSD : (Builtin.unsafeSliceData_ #[64] 109 #[.slice (some ⟨g, 0, none⟩) 0 cap]).run Tryz.prog w.drew = .ok (.pointer (some ⟨g, 0, none⟩)) w.drew :=
    Lib.run_unsafeSliceData_row _ _ _ _ _ _ hc0
  clear hc0
  go_enter Tryz.func38, Tryz.ntmps38
  go_wp2
  go_region
  all_goals (go_wp2; go_ret; exact ⟨rfl, Below.drew (Below.refl B w)⟩)
theorem string_any (B b : Nat) (l : List UInt8) (w : World) (h : Lib.IsBuilderF tP tU B b (Lib.byteCells l) w) (hBw : B ≤ w.heap.size) :
    Calls Tryz.prog 38 #[.pointer (some ⟨b, 0, none⟩)] w fun e w' => e = .returned (.string ⟨l.toArray⟩) ∧ Below B w w' := by
  cases l with
  | cons x r => exact string_k B b (x :: r) w h (by simp)
  | nil =>
    obtain ⟨p, hA⟩ : ∃ p, Lib.BuilderAtF tP tU B b p [] w := by
      rcases h with h | h
      · exact ⟨_, h⟩
      · exact ⟨_, h⟩
    obtain ⟨hB, v, hbk, hown, hne⟩ := hA
    rcases hown.2 with ⟨rfl, _⟩ | ⟨g, cap, cur, fz, rfl, hbg, hg, _, _, _, _, _⟩
    · exact string_nil B b p w hbk
    · by_cases hc0 : cap = 0
      · subst hc0
        exact string_noroom B b g p cur w hBw hbk fz hg
      · exact string_room B b g cap p w hc0 hbk
theorem fresh_p (w : World) : Lib.IsBuilderF tP tU w.heap.size w.heap.size [] (w.alloc (.cells #[.pointer none, .slice none 0 0] tP)) := Lib.IsBuilderF.of (Lib.fresh_isBuilder tP tU w)
end Go.Proofs.YtpppdfjdngmaoaaGreatDoor.P9
namespace Go.Proofs.YtpppdfjdngmaoaaGreatDoor.P9.SB
open Go.RowKit
abbrev tP : TypeId := 70
abbrev tU : TypeId := 5
theorem check_used (b : Nat) (w : World) (h0 : w.cell? ⟨b, 0, none⟩ = some (.pointer (some ⟨b, 0, none⟩))) :
    Calls Tryz.prog 68 #[.pointer (some ⟨b, 0, none⟩)] w fun e w' => e = .returned (.tuple #[]) ∧ w' = w := by
  have hs : (Tryz.prog.info? 70).map (·.size) = some 2 := by kernel_rfl
  obtain ⟨j, hj, _⟩ := Option.map_eq_some_iff.1 hs
  go_enter Tryz.func68, Tryz.ntmps68
  go_wp2
  rw [Lib.run_neq_ptr_same w _ Tryz.underlying68 hj]
  go_wp2
  go_end0
  exact ⟨rfl, rfl⟩
theorem check_fresh (b : Nat) (w : World) (h0 : w.cell? ⟨b, 0, none⟩ = some (.pointer none)) (hsh : w.shape? b = some (tP, 2)) (hfz : w.frozen? ⟨b, 0, none⟩ = false) :
    Calls Tryz.prog 68 #[.pointer (some ⟨b, 0, none⟩)] w fun e w' => e = .returned (.tuple #[]) ∧ w' = w.setCell ⟨b, 0, none⟩ (.pointer (some ⟨b, 0, none⟩)) := by
  have hs : (Tryz.prog.info? 70).map (·.size) = some 2 := by kernel_rfl
  obtain ⟨j, hj, hjs⟩ := Option.map_eq_some_iff.1 hs
  go_enter Tryz.func68, Tryz.ntmps68
  go_wp2
  rw [Lib.run_to_unsafe w ⟨b, 0, none⟩ Tryz.underlying68 Tryz.underlying127 hj (by rw [hjs]; decide) hsh (Nat.zero_lt_succ 1)]
  simp only [Result.andThen]
  rw [Oper.upon_value]
  go_wp2
  rw [run_callFunc_extern Tryz.func95 (by kernel_rfl) (by kernel_rfl) (by kernel_rfl) (e := Extern.AbiNoEscape.same) (by kernel_rfl)]
  rw [Lib.run_noEscape]
  simp only [Result.andThen]
  rw [Oper.upon_value]
  go_wp2
  rw [Lib.run_from_unsafe w ⟨b, 0, none⟩ Tryz.underlying127 Tryz.underlying68 hj hsh (by kernel_rfl)]
  simp only [Result.andThen]
  rw [Oper.upon_value]
  go_wp2
  go_end0
  exact ⟨rfl, rfl⟩
theorem check_k (B b : Nat) (bs : List Value) (w : World) (h : Lib.IsBuilderF tP tU B b bs w) :
    Calls Tryz.prog 68 #[.pointer (some ⟨b, 0, none⟩)] w fun e w' => e = .returned (.tuple #[]) ∧ (Lib.BuilderAtF tP tU B b (.pointer (some ⟨b, 0, none⟩)) bs w' ∧ Below B w w' ∧ Lib.OthersKept tU (some b) w w') := by
  rcases h with h | h
  · refine (check_fresh b w h.cell0 h.shape h.frozen0).mono ?_
    rintro e w' ⟨rfl, rfl⟩
    exact ⟨rfl, h.used _, (Below.refl B w).setCell (p := ⟨b, 0, none⟩) h.1 _, (Lib.OthersKept.refl _ _ w).setCell ⟨b, 0, none⟩ rfl _⟩
  · refine (check_used b w h.cell0).mono ?_
    rintro e w' ⟨rfl, rfl⟩
    exact ⟨rfl, h, Below.refl B _, Lib.OthersKept.refl _ _ _⟩
theorem byte_info : ∃ i0 : TypeInfo, Tryz.prog.info? tU = some i0 ∧ i0.zero = some (.int .u8 0) ∧ i0.size = 1 ∧ i0.bytes = 1 := by
  have h : (Tryz.prog.info? tU).map (fun i => (i.zero, i.size, i.bytes)) = some (some (.int .u8 0), 1, 1) := by kernel_rfl
  obtain ⟨i, hi, h2⟩ := Option.map_eq_some_iff.1 h
  simp only [Prod.mk.injEq] at h2
  exact ⟨i, hi, h2.1, h2.2.1, h2.2.2⟩
theorem write_k (B b : Nat) (bs : List Value) (s : ByteArray) (w : World) (h : Lib.IsBuilderF tP tU B b bs w) (hlen : bs.length + s.size ≤ 140737488355328) (hBw : B ≤ w.heap.size) :
    Calls Tryz.prog 53 #[.pointer (some ⟨b, 0, none⟩), .string s] w fun e w' => e = .returned (.tuple #[.int .i64 s.size, .nilIface]) ∧ (Lib.BuilderAtF tP tU B b (.pointer (some ⟨b, 0, none⟩)) (bs ++ Lib.strCells s) w' ∧ Below B w w' ∧ Lib.OthersKept tU (some b) w w') := by
  obtain ⟨i0, hi, hz0, hz1, hz2⟩ := byte_info
  have HC := hide (check_k B b bs w h)
  clear h
  go_enter Tryz.func53, Tryz.ntmps53
  go_wp2_with fail
  refine HC.out.mono ?_
  rintro e w1 ⟨rfl, h1, hb1, hk1⟩
  obtain ⟨hB, v, hbk, hown, hne⟩ := h1
  have c0 : w1.cell? ⟨b, 0, none⟩ = some (.pointer (some ⟨b, 0, none⟩)) := by rw [Lib.cell_of_heap hbk]; rfl
  have c1 : w1.cell? ⟨b, 1, none⟩ = some v := by rw [Lib.cell_of_heap hbk]; rfl
  go_wp2_with (at_builtin; refine Lib.wpList_append_own_stringF _ rfl _ _ 64 9 rfl B tU i0 Tryz.underlying64 Tryz.underlying9 hi hz0 hz1 hz2 _ _ _ rfl hown s rfl ?c3 ?c4 ?c5 ?_)
  case c3 => unfold maxLen; omega
  case c4 => omega
  case c5 => have := hb1.size; omega
  intro v' w2 hown' hgrow _
  have hlt : b < w1.heap.size := by
    rcases Nat.lt_or_ge b w1.heap.size with h' | h'
    · exact h'
    · simp [Array.getElem?_eq_none h'] at hbk
  have hb2 : w2.heap[b]? = some (.cells #[.pointer (some ⟨b, 0, none⟩), v] tP (0, 0)) := by
    rw [hgrow.block b hlt (fun e => hne e.symm)]
    exact hbk
  have d0 : w2.cell? ⟨b, 0, none⟩ = some (.pointer (some ⟨b, 0, none⟩)) := by rw [Lib.cell_of_heap hb2]; rfl
  have d1 : w2.cell? ⟨b, 1, none⟩ = some v := by rw [Lib.cell_of_heap hb2]; rfl
  have f1 : w2.frozen? ⟨b, 1, none⟩ = false := Lib.frozen_of_heap hb2 1
  obtain ⟨ao, n', cap, rfl⟩ : ∃ ao n' cap, v' = .slice ao n' cap := by
    rcases hown'.2 with ⟨hv, _⟩ | ⟨g, cap, cur, fz, hv, _⟩
    · exact ⟨_, _, _, hv⟩
    · exact ⟨_, _, _, hv⟩
  go_wp2
  go_ret2
  refine ⟨rfl, ?_, ?_, (hk1.grown hgrow (Lib.ownsRowF_kind hown)).setCell ⟨b, 1, none⟩ rfl _⟩
  · exact Lib.BuilderAtF.put (T := tP) (e := tU) hB hb2 (bs' := bs ++ Lib.strCells s) (by simpa [Lib.strCells_length] using hown') (by decide)
  · exact (hb1.grown hgrow (by have := hb1.size; omega) (fun k hk => (hown.lt k hk).1)).setCell (p := ⟨b, 1, none⟩) hB _
end Go.Proofs.YtpppdfjdngmaoaaGreatDoor.P9.SB
namespace Go.Proofs.YtpppdfjdngmaoaaGreatDoor.P9.SB
open Go.RowKit
theorem us_none (W : World) (q : Option Addr) : (Builtin.unsafeString_ #[109, 3] 9 #[.pointer q, .int .i64 0]).run Tryz.prog W = .ok (.string .empty) W := Lib.run_unsafeString_none W _ _ _ q
theorem string_k (B b : Nat) (l : List UInt8) (w : World) (h : Lib.IsBuilderF tP tU B b (Lib.byteCells l) w) (h0 : l ≠ []) :
    Calls Tryz.prog 38 #[.pointer (some ⟨b, 0, none⟩)] w fun e w' => e = .returned (.string ⟨l.toArray⟩) ∧ Below B w w' := by
  obtain ⟨p, hp, hAt⟩ : ∃ p, (p = .pointer none ∨ p = .pointer (some ⟨b, 0, none⟩)) ∧ Lib.BuilderAtF tP tU B b p (Lib.byteCells l) w := by
    rcases h with h | h
    · exact ⟨_, .inl rfl, h⟩
    · exact ⟨_, .inr rfl, h⟩
  obtain ⟨hB, v, hbk, hown, hne⟩ := hAt
  have hl0 : l.length ≠ 0 := by simpa using h0
  rw [Lib.byteCells_length] at hown
  obtain ⟨g, cap, cur, fz, rfl, hbg, hg, hfz, hnc, hcm, hcs, htake⟩ : ∃ g cap cur fz, v = .slice (some ⟨g, 0, none⟩) l.length cap ∧ B ≤ g ∧ w.heap[g]? = some (.cells cur tU fz) ∧ fz.2 ≤ l.length * 1 ∧ l.length ≤ cap ∧ cap ≤ maxLen ∧ cur.size = cap * 1 ∧ cur.toList.take (l.length * 1) = Lib.byteCells l := by
    rcases hown.2 with ⟨_, hz⟩ | ⟨g, cap, cur, fz, hv, r⟩
    · exact absurd hz hl0
    · exact ⟨g, cap, cur, fz, hv, r⟩
  have c1 : w.drew.cell? ⟨b, 1, none⟩ = some (.slice (some ⟨g, 0, none⟩) l.length cap) := by
    have : w.drew.heap[b]? = some (.cells #[p, .slice (some ⟨g, 0, none⟩) l.length cap] tP (0, 0)) := hbk
    rw [Lib.cell_of_heap this]; rfl
  have hSD : (Builtin.unsafeSliceData_ #[64] 109 #[.slice (some ⟨g, 0, none⟩) l.length cap]).run Tryz.prog w.drew = .ok (.pointer (some ⟨g, 0, none⟩)) w.drew :=
    Lib.run_unsafeSliceData_row _ _ _ _ _ _ (by omega)
  have hUS : (Builtin.unsafeString_ #[109, 3] 9 #[.pointer (some ⟨g, 0, none⟩), .int .i64 l.length]).run Tryz.prog w.drew = .ok (.string ⟨l.toArray⟩) (w.drew.freeze ⟨g, 0, none⟩ l.length) := by
    refine Lib.run_unsafeString_row w.drew 109 3 9 tU Tryz.underlying109 (by kernel_rfl) g cur.size (by have hg' : w.drew.heap[g]? = some (.cells cur tU fz) := hg; simp [World.shape?, hg']) l h0 (by omega) (by unfold maxLen at hcm; omega) ?_
    intro j x hx
    have := hown.cells (g := g) rfl j (.int .u8 x.toNat) (by simp [Lib.byteCells, hx])
    exact this
  clear hown hp h
  go_enter Tryz.func38, Tryz.ntmps38
  go_wp2
  go_region
  all_goals (go_wp2; go_ret; exact ⟨rfl, Lib.below_freeze (Below.drew (Below.refl B w)) (p := ⟨g, 0, none⟩) hbg _⟩)
theorem string_nil (B b : Nat) (p : Value) (w : World) (hbk : w.heap[b]? = some (.cells #[p, .slice none 0 0] tP (0, 0))) :
    Calls Tryz.prog 38 #[.pointer (some ⟨b, 0, none⟩)] w fun e w' => e = .returned (.string ⟨#[]⟩) ∧ Below B w w' := by
  have hUS := us_none
  have c1 : w.drew.cell? ⟨b, 1, none⟩ = some (.slice none 0 0) := by
    have : w.drew.heap[b]? = some (.cells #[p, .slice none 0 0] tP (0, 0)) := hbk
    rw [Lib.cell_of_heap this]; rfl
  have hSD : (Builtin.unsafeSliceData_ #[64] 109 #[.slice none 0 0]).run Tryz.prog w.drew = .ok (.pointer none) w.drew := rfl
  go_enter Tryz.func38, Tryz.ntmps38
  go_wp2
  go_region
  all_goals (go_wp2; go_ret; exact ⟨rfl, Below.drew (Below.refl B w)⟩)
theorem string_noroom (B b g : Nat) (p : Value) (cur : Array Value) (w : World) (hBw : B ≤ w.heap.size) (hbk : w.heap[b]? = some (.cells #[p, .slice (some ⟨g, 0, none⟩) 0 0] tP (0, 0))) (fz : Nat × Nat) (hg : w.heap[g]? = some (.cells cur tU fz)) :
    Calls Tryz.prog 38 #[.pointer (some ⟨b, 0, none⟩)] w fun e w' => e = .returned (.string ⟨#[]⟩) ∧ Below B w w' := by
  have hUS := us_none
  have hlt : b < w.heap.size := by
    rcases Nat.lt_or_ge b w.heap.size with h' | h'
    · exact h'
    · simp [Array.getElem?_eq_none h'] at hbk
  have c1 : w.drew.cell? ⟨b, 1, none⟩ = some (.slice (some ⟨g, 0, none⟩) 0 0) := by
    have : w.drew.heap[b]? = some (.cells #[p, .slice (some ⟨g, 0, none⟩) 0 0] tP (0, 0)) := hbk
    rw [Lib.cell_of_heap this]; rfl
  have hSD : (Builtin.unsafeSliceData_ #[64] 109 #[.slice (some ⟨g, 0, none⟩) 0 0]).run Tryz.prog w.drew = .ok (.pointer (some ⟨w.drew.heap.size, 0, none⟩)) (w.drew.alloc (.view ⟨g, 0, none⟩ tU)) :=
    Lib.run_unsafeSliceData_zero w.drew _ _ tU Tryz.underlying109 ⟨g, 0, none⟩ 0 (tU, cur.size) (by have hg' : w.drew.heap[g]? = some (.cells cur tU fz) := hg; simp [World.shape?, hg'])
  have c2 : (w.drew.alloc (.view ⟨g, 0, none⟩ tU)).cell? ⟨b, 1, none⟩ = some (.slice (some ⟨g, 0, none⟩) 0 0) := by
    have : (w.drew.alloc (.view ⟨g, 0, none⟩ tU)).heap[b]? = _ := (Lib.alloc_old w.drew _ b hlt).trans hbk
    rw [Lib.cell_of_heap this]; rfl
  have c3 : (w.alloc (.view ⟨g, 0, none⟩ tU)).drew.cell? ⟨b, 1, none⟩ = some (.slice (some ⟨g, 0, none⟩) 0 0) := c2
  have c0 : w.cell? ⟨b, 1, none⟩ = some (.slice (some ⟨g, 0, none⟩) 0 0) := c1
  go_enter Tryz.func38, Tryz.ntmps38
  go_wp2
  go_region
  all_goals (go_wp2; go_ret; exact ⟨rfl, (Below.drew (Below.refl B w)).alloc hBw _⟩)
theorem string_room (B b g cap : Nat) (p : Value) (w : World) (hc0 : cap ≠ 0) (hbk : w.heap[b]? = some (.cells #[p, .slice (some ⟨g, 0, none⟩) 0 cap] tP (0, 0))) :
    Calls Tryz.prog 38 #[.pointer (some ⟨b, 0, none⟩)] w fun e w' => e = .returned (.string ⟨#[]⟩) ∧ Below B w w' := by
  have hUS := us_none
  have c1 : w.drew.cell? ⟨b, 1, none⟩ = some (.slice (some ⟨g, 0, none⟩) 0 cap) := by
    have : w.drew.heap[b]? = some (.cells #[p, .slice (some ⟨g, 0, none⟩) 0 cap] tP (0, 0)) := hbk
    rw [Lib.cell_of_heap this]; rfl
  have hSD : (Builtin.unsafeSliceData_ #[64] 109 #[.slice (some ⟨g, 0, none⟩) 0 cap]).run Tryz.prog w.drew = .ok (.pointer (some ⟨g, 0, none⟩)) w.drew :=
    Lib.run_unsafeSliceData_row _ _ _ _ _ _ hc0
  clear hc0
  go_enter Tryz.func38, Tryz.ntmps38
  go_wp2
  go_region
  all_goals (go_wp2; go_ret; exact ⟨rfl, Below.drew (Below.refl B w)⟩)
theorem string_any (B b : Nat) (l : List UInt8) (w : World) (h : Lib.IsBuilderF tP tU B b (Lib.byteCells l) w) (hBw : B ≤ w.heap.size) :
    Calls Tryz.prog 38 #[.pointer (some ⟨b, 0, none⟩)] w fun e w' => e = .returned (.string ⟨l.toArray⟩) ∧ Below B w w' := by
  cases l with
  | cons x r => exact string_k B b (x :: r) w h (by simp)
  | nil =>
    obtain ⟨p, hA⟩ : ∃ p, Lib.BuilderAtF tP tU B b p [] w := by
      rcases h with h | h
      · exact ⟨_, h⟩
      · exact ⟨_, h⟩
    obtain ⟨hB, v, hbk, hown, hne⟩ := hA
    rcases hown.2 with ⟨rfl, _⟩ | ⟨g, cap, cur, fz, rfl, hbg, hg, _, _, _, _, _⟩
    · exact string_nil B b p w hbk
    · by_cases hc0 : cap = 0
      · subst hc0
        exact string_noroom B b g p cur w hBw hbk fz hg
      · exact string_room B b g cap p w hc0 hbk
theorem fresh_p (w : World) : Lib.IsBuilderF tP tU w.heap.size w.heap.size [] (w.alloc (.cells #[.pointer none, .slice none 0 0] tP)) := Lib.IsBuilderF.of (Lib.fresh_isBuilder tP tU w)
end Go.Proofs.YtpppdfjdngmaoaaGreatDoor.P9.SB
namespace Go.Proofs.YtpppdfjdngmaoaaGreatDoor.P9
open Go.RowKit
theorem has_two (s : ByteArray) (c : UInt8) (r : List UInt8) (hs : s.data.toList = c :: r) : (s.data.toList.take 2 == [194, 160]) = (decide (c = 194 ∧ r.head? = some 160)) := by
  rw [hs]
  cases r with
  | nil => simp
  | cons d t =>
    simp only [List.take_succ_cons, List.take_zero, List.head?_cons, Option.some.injEq]
    by_cases h1 : c = 194
    · by_cases h2 : d = 160
      · simp [h1, h2]
      · simp [h1, h2]
    · simp [h1]
theorem slprefix_two (s : ByteArray) (hs : s.size ≤ 100000000) (w : World) :
    Calls Tryz.prog 94 #[.string s, .string ⟨#[194, 160]⟩] w fun e w' => e = .returned (.bool (s.data.toList.take 2 == [194, 160])) ∧ w' = w := by
  have hz := G5.size_list s
  by_cases h2 : 2 ≤ s.size
  · have h2' : (2 : Int) ≤ s.size := by omega
    have hx : (s.extract 0 2).toList = s.data.toList.take 2 := by
      rw [Lib.toList_data, Lib.extract_data]
      simp
    have hy : (⟨#[194, 160]⟩ : ByteArray).toList = [194, 160] := by
      rw [Lib.toList_data]
    rw [← hx]
    clear hx hy hz
    go_enter Tryz.func94, Tryz.ntmps94
    go_wp2
    go_ret
    exact ⟨rfl, rfl⟩
  · have h2' : ¬ (2 : Int) ≤ s.size := by omega
    have hx : (s.data.toList.take 2 == [194, 160]) = false := by
      rw [beq_eq_false_iff_ne]
      intro h
      have := congrArg List.length h
      simp at this
      rw [Array.length_toList] at hz
      have h3 : s.data.size = s.size := rfl
      omega
    rw [hx]
    clear hx hz
    go_enter Tryz.func94, Tryz.ntmps94
    go_wp2
    go_ret
    exact ⟨rfl, rfl⟩
theorem prefix_two (s : ByteArray) (hs : s.size ≤ 100000000) (w : World) :
    Calls Tryz.prog 67 #[.string s, .string ⟨#[194, 160]⟩] w fun e w' => e = .returned (.bool (s.data.toList.take 2 == [194, 160])) ∧ w' = w := by
  have H := hide (slprefix_two s hs)
  generalize (s.data.toList.take 2 == [194, 160]) = V at *
  clear hs
  go_enter Tryz.func67, Tryz.ntmps67
  go_wp2_with fail
  refine (H.out _).mono ?_
  rintro e w1 ⟨rfl, rfl⟩
  go_wp2
  go_ret
  exact ⟨rfl, rfl⟩
theorem list_head (s : ByteArray) (h : 0 < s.size) : s.data.toList = s[0] :: s.data.toList.drop 1 := by
  have h2 : 0 < s.data.toList.length := by rw [← G5.size_list]; exact h
  have := List.drop_eq_getElem_cons h2
  rw [List.drop_zero] at this
  exact this
theorem head_one (s : ByteArray) (h : 0 < s.size) : (s.extract 0 1) = ⟨#[s[0]]⟩ := by
  refine G5.str_of _ [s[0]] ?_
  rw [Lib.extract_data, List.drop_zero]
  have := list_head s h
  rw [this]
  simp
theorem nat_u8 {c : UInt8} {n : Nat} (d : UInt8) (hd : d.toNat = n) (h : c ≠ d) : ((c.toNat : Int) == (n : Int)) = false := by
  refine beq_eq_false_iff_ne.2 fun e => h ?_
  exact UInt8.toNat_inj.1 (by rw [hd]; omega)
def escP (attr : Bool) (s : ByteArray) (T : List UInt8) (n : Nat) : Prop := ∀ w : World, Calls Tryz.prog 52 #[.string s, .bool attr] w fun e w' => e = .returned (.tuple #[.string ⟨T.toArray⟩, .int .i64 (n : Int)]) ∧ w' = w
theorem first_any (s : ByteArray) (h : 0 < s.size) (hs : s.size ≤ 100000000) (attr : Bool) : escP attr s (escF attr s[0] (s.data.toList.drop 1)).1 (escF attr s[0] (s.data.toList.drop 1)).2 := by
  intro w
  have hp : (0 : Int) < s.size := by omega
  have HP := hide (prefix_two s hs)
  have ht := has_two s s[0] _ (list_head s h)
  have h1 := head_one s h
  unfold escF oneB
  generalize (s.data.toList.drop 1) = r at *
  generalize s.data.toList.take 2 = t2 at *
  generalize hc : s[0] = c at *
  by_cases c1 : c = 38
  · subst c1
    rw [if_neg (by simp), if_pos rfl]
    clear HP ht h1
    go_enter Tryz.func52, Tryz.ntmps52
    go_wp2
    go_ret2
    exact ⟨rfl, rfl⟩
  · have e1 := nat_u8 (c := c) (n := 38) 38 rfl c1
    by_cases c2 : c = 60
    · subst c2
      rw [if_neg (by simp), if_neg (by simp), if_pos rfl]
      clear HP ht h1
      go_enter Tryz.func52, Tryz.ntmps52
      go_wp2
      go_ret2
      exact ⟨rfl, rfl⟩
    · have e2 := nat_u8 (c := c) (n := 60) 60 rfl c2
      by_cases c3 : c = 62
      · subst c3
        rw [if_neg (by simp), if_neg (by simp), if_neg (by simp), if_pos rfl]
        clear HP ht h1
        go_enter Tryz.func52, Tryz.ntmps52
        go_wp2
        go_ret2
        exact ⟨rfl, rfl⟩
      · have e3 := nat_u8 (c := c) (n := 62) 62 rfl c3
        by_cases c4 : c = 34 ∧ attr = true
        · obtain ⟨rfl, rfl⟩ := c4
          rw [if_neg (by simp), if_neg (by simp), if_neg (by simp), if_neg (by simp), if_pos ⟨rfl, rfl⟩]
          clear HP ht h1
          go_enter Tryz.func52, Tryz.ntmps52
          go_wp2
          go_ret2
          exact ⟨rfl, rfl⟩
        · rw [if_neg c1, if_neg c2, if_neg c3, if_neg c4]
          by_cases c5 : c = 194 ∧ r.head? = some 160
          · obtain ⟨rfl, c6⟩ := c5
            rw [if_pos ⟨rfl, c6⟩]
            rw [show (t2 == [194, 160]) = true by rw [ht]; simp [c6]] at HP
            clear ht h1 c4
            go_enter Tryz.func52, Tryz.ntmps52
            go_wp2_with fail
            refine (HP.out _).mono ?_
            rintro e w1 ⟨rfl, rfl⟩
            go_wp2
            go_ret2
            exact ⟨rfl, rfl⟩
          · rw [if_neg c5]
            rw [show (t2 == [194, 160]) = false by rw [ht]; simp only [decide_eq_false_iff_not]; exact c5] at HP
            clear ht
            by_cases c7 : c = 34
            · subst c7
              obtain rfl : attr = false := by
                cases attr
                · rfl
                · exact absurd ⟨rfl, rfl⟩ c4
              clear c4 c5
              go_enter Tryz.func52, Tryz.ntmps52
              go_wp2_with fail
              refine (HP.out _).mono ?_
              rintro e w1 ⟨rfl, rfl⟩
              go_wp2
              go_ret2
              exact ⟨rfl, rfl⟩
            · have e4 := nat_u8 (c := c) (n := 34) 34 rfl c7
              have e5 : ¬ (c.toNat : Int) = 34 := fun e => c7 (UInt8.toNat_inj.1 (by show c.toNat = 34; omega))
              have e6 : ¬ c.toNat = 34 := fun e => e5 (by omega)
              clear c4 c5
              go_enter Tryz.func52, Tryz.ntmps52
              go_wp2_with fail
              refine (HP.out _).mono ?_
              rintro e w1 ⟨rfl, rfl⟩
              go_wp2
              go_ret2
              exact ⟨rfl, rfl⟩
end Go.Proofs.YtpppdfjdngmaoaaGreatDoor.P9
namespace Go.Proofs.YtpppdfjdngmaoaaGreatDoor.P9
open Go.RowKit
theorem strCells9 (T : List UInt8) : Lib.strCells ⟨T.toArray⟩ = Lib.byteCells T := by
  simp [Lib.strCells, Lib.byteCells]
theorem cut_list (s : ByteArray) (k : Nat) : (s.extract k s.size).data.toList = s.data.toList.drop k := by
  rw [Lib.extract_data]
  refine List.take_of_length_le ?_
  rw [List.length_drop, ← G5.size_list]
  omega
theorem cut_size (s : ByteArray) (k : Nat) (h : k ≤ s.size) : (s.extract k s.size).size = s.size - k := by
  rw [G5.size_list, cut_list, List.length_drop, ← G5.size_list]
theorem list_drop (s : ByteArray) (k : Nat) (h : k < s.size) : s.data.toList.drop k = s[k] :: s.data.toList.drop (k + 1) := by
  have h2 : k < s.data.toList.length := by rw [← G5.size_list]; exact h
  rw [List.drop_eq_getElem_cons h2]
  rfl
theorem cut_head (s : ByteArray) (k : Nat) (h : k < s.size) (h2 : 0 < (s.extract k s.size).size) : (s.extract k s.size)[0] = s[k] ∧ (s.extract k s.size).data.toList.drop 1 = s.data.toList.drop (k + 1) := by
  have e := list_head (s.extract k s.size) h2
  rw [cut_list, list_drop s k h] at e
  injection e with e1 e2
  refine ⟨e1.symm, ?_⟩
  rw [cut_list, List.drop_drop]
theorem first_at (s : ByteArray) (k : Nat) (h : k < s.size) (hs : s.size ≤ 100000000) (attr : Bool) : escP attr (s.extract k s.size) (escF attr s[k] (s.data.toList.drop (k + 1))).1 (escF attr s[k] (s.data.toList.drop (k + 1))).2 := by
  have hz := cut_size s k (by omega)
  have h2 : 0 < (s.extract k s.size).size := by omega
  have := first_any (s.extract k s.size) h2 (by omega) attr
  obtain ⟨e1, e2⟩ := cut_head s k h h2
  rw [e1, e2] at this
  exact this
theorem escape_any (s : ByteArray) (hs : s.size ≤ 1000000) (attr : Bool) (w : World) :
    Calls Tryz.prog 35 #[.string s, .bool attr] w fun e w' => e = .returned (.string ⟨(escL attr s.data.toList).toArray⟩) ∧ Below w.heap.size w w' := by
  have HF := hide (fun (k : Nat) (h : k < s.size) => first_at s k h (by omega) attr)
  have HS := hide (fun (k : Nat) (h : k < s.size) => list_drop s k h)
  have HE : Hid (∀ k, s.data.toList.length ≤ k → s.data.toList.drop k = []) := hide (fun k h => List.drop_eq_nil_of_le h)
  have hz := G5.size_list s
  generalize hR : escL attr s.data.toList = R at *
  have HR := hide hR
  have HZ := hide hz
  clear hR hz
  go_enter Tryz.func35, Tryz.ntmps35
  go_wp2
  go_loopw [6] (fun te wr => ∃ (pos : Nat) (acc : List UInt8), te = .int .i64 pos ∧ Lib.IsBuilderF SB.tP SB.tU w.heap.size w.heap.size (Lib.byteCells acc) wr ∧ Below w.heap.size w wr ∧ pos ≤ s.size ∧ acc.length ≤ 6 * pos ∧ Hid (acc ++ escL attr (s.data.toList.drop pos) = R)) (fun te _ => s.size - (intOf te).toNat)
  case atStart =>
    refine ⟨0, [], rfl, SB.fresh_p w, (Below.refl _ w).alloc (Nat.le_refl _) _, by omega, by simp, hide ?_⟩
    rw [List.drop_zero, List.nil_append]
    exact HR.out
  case round =>
    obtain ⟨pos, acc, rfl, hI, hbw, hps, hal, HN⟩ := hrel
    have hwz : w.heap.size ≤ wr.heap.size := hbw.size
    by_cases hp : pos < s.size
    · have hp2 : (pos : Int) < s.size := by omega
      have hps2 : (pos : Int) ≤ s.size := by omega
      have hd := HS.out pos hp
      have hf := HF.out pos hp wr
      have hb := escF_bd attr s[pos] (s.data.toList.drop (pos + 1))
      have hl := escL_first attr s[pos] (s.data.toList.drop (pos + 1))
      rw [← hd, List.drop_drop] at hl
      rw [List.length_drop, ← HZ.out] at hb
      generalize escF attr s[pos] (s.data.toList.drop (pos + 1)) = Q at *
      obtain ⟨T, n⟩ := Q
      simp only at hb hl hf
      have HN2 : Hid ((acc ++ T) ++ escL attr (s.data.toList.drop (pos + n)) = R) := hide (by rw [← HN.out, hl, List.append_assoc])
      have HF2 := hide hf
      have hts : (⟨T.toArray⟩ : ByteArray).size = T.length := by rw [G5.size_list, G5.str_data]
      have HSC := hide (strCells9 T)
      obtain ⟨hb1, hb2, hb3, hb4⟩ := hb
      clear HN hl hf hd
      generalize (⟨T.toArray⟩ : ByteArray) = t at *
      go_wp2_with fail
      refine HF2.out.mono ?_
      rintro e w1 ⟨rfl, rfl⟩
      go_wp2_with fail
      refine (SB.write_k w.heap.size w.heap.size _ t _ hI (by rw [Lib.byteCells_length]; omega) hwz).mono ?_
      rintro e W1 ⟨rfl, k1, b1, _⟩
      go_wp2
      go_roundw
      case rel =>
        refine ⟨pos + n, acc ++ T, by go_num, ?_, hbw.trans b1, by omega, by rw [List.length_append]; omega, HN2⟩
        rw [Lib.byteCells_append, ← HSC.out]
        exact Or.inr k1
      case measure => simp [intOf]; omega
    · have hp2 : ¬ (pos : Int) < s.size := by omega
      have HE2 : Hid (acc = R) := by
        refine hide ?_
        rw [← HN.out, HE.out pos (by rw [← HZ.out]; omega), escL_nil, List.append_nil]
      clear HN
      go_wp2_with fail
      refine (SB.string_any w.heap.size w.heap.size acc _ hI hwz).mono ?_
      rintro e W1 ⟨rfl, b1⟩
      go_wp2
      go_ret
      exact ⟨G5.ret_str HE2.out, hbw.trans b1⟩
end Go.Proofs.YtpppdfjdngmaoaaGreatDoor.P9
namespace Go.Proofs.YtpppdfjdngmaoaaGreatDoor.P9
open Go.RowKit
theorem bf_below {T e : TypeId} {B b : Nat} {bs : List Value} {w W : World} (h : Lib.IsBuilderF T e B b bs w) (hb : Below w.heap.size w W) : Lib.IsBuilderF T e B b bs W := by
  have key : ∀ p, Lib.BuilderAtF T e B b p bs w → Lib.BuilderAtF T e B b p bs W := by
    rintro p ⟨hB, v, hbk, hown, hne⟩
    have lt : ∀ k o, w.heap[k]? = some o → W.heap[k]? = some o := fun k o hk => by
      rw [hb.block k (Array.getElem?_eq_some_iff.1 hk).1]; exact hk
    refine ⟨hB, v, lt _ _ hbk, ⟨hown.1, ?_⟩, hne⟩
    rcases hown.2 with h2 | ⟨g, cap, cur, fz, h1, h2, h3, h4⟩
    · exact .inl h2
    · exact .inr ⟨g, cap, cur, fz, h1, h2, lt _ _ h3, h4⟩
  exact h.imp (key _) (key _)
theorem ok_below {e : TypeId} {b : Option Nat} {w W : World} (hb : Below w.heap.size w W) : Lib.OthersKept e b w W := by
  intro k o hk _ _
  rw [hb.block k (Array.getElem?_eq_some_iff.1 hk).1]; exact hk
def Pr (B b : Nat) (acc : List UInt8) (w : World) : Prop := Lib.IsBuilderF tP tU B b (Lib.byteCells acc) w ∧ B ≤ w.heap.size
def Wrote (B b : Nat) (acc out : List UInt8) (w w' : World) : Prop := Pr B b (acc ++ out) w' ∧ Below B w w' ∧ Lib.OthersKept tU (some b) w w'
theorem Pr.below {B b : Nat} {acc : List UInt8} {w W : World} (h : Pr B b acc w) (hb : Below w.heap.size w W) : Pr B b acc W := ⟨bf_below h.1 hb, Nat.le_trans h.2 hb.size⟩
theorem Pr.alloc {B b : Nat} {acc : List UInt8} {w : World} (h : Pr B b acc w) (o : Obj) : Pr B b acc (w.alloc o) := h.below (G5.below_alloc w o)
theorem Wrote.trans {B b : Nat} {acc x y : List UInt8} {w w1 w2 : World} (h : Wrote B b acc x w w1) (k : Wrote B b (acc ++ x) y w1 w2) : Wrote B b acc (x ++ y) w w2 := by
  refine ⟨?_, h.2.1.trans k.2.1, h.2.2.trans k.2.2⟩
  have := k.1
  rwa [List.append_assoc] at this
theorem Wrote.behind {B b : Nat} {acc x : List UInt8} {w w1 w2 : World} (hb : Below w.heap.size w w1) (hB : B ≤ w.heap.size) (h : Wrote B b acc x w1 w2) : Wrote B b acc x w w2 :=
  ⟨h.1, (hb.mono hB).trans h.2.1, (ok_below hb).trans h.2.2⟩
theorem Wrote.none {B b : Nat} {acc : List UInt8} {w w1 : World} (h : Pr B b acc w) (hb : Below w.heap.size w w1) : Wrote B b acc [] w w1 := by
  refine ⟨?_, hb.mono h.2, ok_below hb⟩
  rw [List.append_nil]
  exact h.below hb
theorem Pr.fresh (w : World) : Pr w.heap.size w.heap.size [] (w.alloc (.cells #[.pointer none, .slice none 0 0] tP)) := ⟨fresh_p w, (G5.below_alloc w _).size⟩
theorem write_p {B b : Nat} {acc : List UInt8} {w : World} (h : Pr B b acc w) (s : ByteArray) (hl : acc.length + s.size ≤ 140737488355328) :
    Calls Tryz.prog 53 #[.pointer (some ⟨b, 0, none⟩), .string s] w fun e w' => e = .returned (.tuple #[.int .i64 s.size, .nilIface]) ∧ Wrote B b acc s.data.toList w w' := by
  refine (write_k B b _ s w h.1 (by rw [Lib.byteCells_length]; exact hl) h.2).mono ?_
  rintro e w' ⟨rfl, h1, h2, h3⟩
  refine ⟨rfl, ⟨?_, Nat.le_trans h.2 h2.size⟩, h2, h3⟩
  rw [Lib.byteCells_append]
  have : Lib.byteCells s.data.toList = Lib.strCells s := by rw [← strCells9, ← G5.str_of s _ rfl]
  rw [this]
  exact .inr h1
def cellsW (ps : List (List UInt8)) : Array Value := (ps.map fun p => Value.string ⟨p.toArray⟩).toArray
theorem cellsW_at (ps : List (List UInt8)) (j : Nat) (hj : j < ps.length) : (cellsW ps)[j]? = some (.string ⟨ps[j].toArray⟩) := by
  unfold cellsW
  simp [List.getElem?_eq_getElem hj]
theorem flat_take (ps : List (List UInt8)) (i : Nat) (h : i < ps.length) : (ps.take (i + 1)).flatten = (ps.take i).flatten ++ ps[i] := by
  rw [List.take_succ_eq_append_getElem h, List.flatten_append]
  simp
theorem flat_le (ps : List (List UInt8)) (i : Nat) : (ps.take i).flatten.length ≤ ps.flatten.length := by
  have : ps.flatten = (ps.take i).flatten ++ (ps.drop i).flatten := by rw [← List.flatten_append, List.take_append_drop]
  rw [this, List.length_append]
  omega
theorem put_any {B b : Nat} {acc : List UInt8} {w : World} (h : Pr B b acc w) (ps : List (List UInt8)) (rb cap : Nat) (hn : ps.length ≤ 1000) (hb : rb ≠ b) (hr : w.heap[rb]? = some (.cells (cellsW ps) 9 (0, 0))) (hl : acc.length + ps.flatten.length ≤ 140737488355328) :
    Calls Tryz.prog 55 #[.pointer (some ⟨b, 0, none⟩), .slice (some ⟨rb, 0, none⟩) ps.length cap] w fun e w' => e = .returned (.tuple #[]) ∧ Wrote B b acc ps.flatten w w' := by
  have HR := hide hr
  have HP := hide h
  clear hr h
  go_enter Tryz.func55, Tryz.ntmps55
  go_wp2
  go_loopw [8] (fun i wr => ∃ k : Nat, k ≤ ps.length ∧ i = .int .i64 k ∧ Hid (Wrote B b acc (ps.take k).flatten w wr)) (fun i _ => ps.length - (intOf i).toNat)
  case atStart => exact ⟨0, Nat.zero_le _, rfl, hide (Wrote.none HP.out (Below.refl _ _))⟩
  case round =>
    obtain ⟨k, hk, rfl, HW⟩ := hrel
    by_cases hlt : k < ps.length
    · have hlt2 : (k : Int) < ps.length := by omega
      have hcell : wr.cell? ⟨rb, k, none⟩ = some (.string ⟨ps[k].toArray⟩) := by
        have := HW.out.2.2 rb _ HR.out (fun e => hb (by simpa using e)) (fun c fz e => by cases e)
        rw [Lib.cell_of_heap this, cellsW_at ps k hlt]
      have hft := flat_take ps k hlt
      have hf1 := flat_le ps (k + 1)
      rw [hft, List.length_append] at hf1
      have HF := hide hft
      have HC := hide (write_p HW.out.1 ⟨ps[k].toArray⟩ (by rw [List.length_append, G5.size_list, G5.str_data]; omega))
      rw [G5.str_data] at HC
      clear hft hf1
      generalize ps[k] = q at *
      generalize (⟨q.toArray⟩ : ByteArray) = t at *
      go_wp2_with fail
      refine HC.out.mono ?_
      rintro e w1 ⟨rfl, h1⟩
      have HN : Hid (Wrote B b acc (ps.take (k + 1)).flatten w w1) := hide (by rw [HF.out]; exact HW.out.trans h1)
      clear h1
      go_wp2
      go_roundw
      case rel => exact ⟨k + 1, by omega, by go_num, HN⟩
      case measure => simp [intOf]; omega
    · have hlt2 : ¬ (k : Int) < ps.length := by omega
      have hke : ps.take k = ps := List.take_of_length_le (by omega)
      rw [hke] at HW
      clear hke
      go_wp2
      go_end0
      exact ⟨rfl, HW.out⟩
end Go.Proofs.YtpppdfjdngmaoaaGreatDoor.P9
namespace Go.Proofs.YtpppdfjdngmaoaaGreatDoor.P9
open Go.RowKit
theorem pr_lt {B b : Nat} {acc : List UInt8} {w : World} (h : Pr B b acc w) : b < w.heap.size := by
  rcases h.1 with h1 | h1
  · exact h1.lt
  · exact h1.lt
theorem new_heap (w : World) (o : Obj) : (w.alloc o).heap[w.heap.size]? = some o := by
  show (w.heap.push o)[w.heap.size]? = some o
  simp
theorem put_lit {B b : Nat} {acc : List UInt8} {w : World} (h : Pr B b acc w) (ss : List ByteArray) (hn : ss.length ≤ 1000) (hl : acc.length + (ss.map fun s => s.data.toList).flatten.length ≤ 140737488355328) :
    Calls Tryz.prog 55 #[.pointer (some ⟨b, 0, none⟩), .slice (some ⟨w.heap.size, 0, none⟩) ss.length ss.length] (w.alloc (.cells (ss.map fun s => Value.string s).toArray 9)) fun e w' => e = .returned (.tuple #[]) ∧ Wrote B b acc (ss.map fun s => s.data.toList).flatten w w' := by
  have e1 : (ss.map fun s => Value.string s).toArray = cellsW (ss.map fun s => s.data.toList) := by
    unfold cellsW
    rw [List.map_map]
    rfl
  have hlt := pr_lt h
  have := put_any (h.alloc (.cells (cellsW (ss.map fun s => s.data.toList)) 9)) (ss.map fun s => s.data.toList) w.heap.size ss.length (by rw [List.length_map]; exact hn) (by omega) (new_heap w _) hl
  rw [List.length_map] at this
  rw [e1]
  refine this.mono ?_
  rintro e w' ⟨rfl, h1⟩
  exact ⟨rfl, h1.behind (G5.below_alloc w _) h.2⟩
theorem put1 {B b : Nat} {acc : List UInt8} {w : World} (h : Pr B b acc w) (s : ByteArray) (hl : acc.length + s.size ≤ 140737488355328) {m : Nat} (hm : m = w.heap.size) :
    Calls Tryz.prog 55 #[.pointer (some ⟨b, 0, none⟩), .slice (some ⟨m, 0, none⟩) 1 1] (w.alloc (.cells #[.string s] 9)) fun e w' => e = .returned (.tuple #[]) ∧ Wrote B b acc s.data.toList w w' := by
  subst hm
  have := put_lit h [s] (by simp) (by simp only [List.map_cons, List.map_nil, List.flatten_cons, List.flatten_nil, List.append_nil]; rw [← G5.size_list]; exact hl)
  simp only [List.map_cons, List.map_nil, List.flatten_cons, List.flatten_nil, List.append_nil, List.length_cons, List.length_nil] at this
  exact this
theorem put2 {B b : Nat} {acc : List UInt8} {w : World} (h : Pr B b acc w) (s t : ByteArray) (hl : acc.length + (s.size + t.size) ≤ 140737488355328) {m : Nat} (hm : m = w.heap.size) :
    Calls Tryz.prog 55 #[.pointer (some ⟨b, 0, none⟩), .slice (some ⟨m, 0, none⟩) 2 2] (w.alloc (.cells #[.string s, .string t] 9)) fun e w' => e = .returned (.tuple #[]) ∧ Wrote B b acc (s.data.toList ++ t.data.toList) w w' := by
  subst hm
  have := put_lit h [s, t] (by simp) (by simp only [List.map_cons, List.map_nil, List.flatten_cons, List.flatten_nil, List.append_nil, List.length_append]; rw [← G5.size_list, ← G5.size_list]; exact hl)
  simp only [List.map_cons, List.map_nil, List.flatten_cons, List.flatten_nil, List.append_nil, List.length_cons, List.length_nil] at this
  exact this
theorem put3 {B b : Nat} {acc : List UInt8} {w : World} (h : Pr B b acc w) (s t u : ByteArray) (hl : acc.length + (s.size + (t.size + u.size)) ≤ 140737488355328) {m : Nat} (hm : m = w.heap.size) :
    Calls Tryz.prog 55 #[.pointer (some ⟨b, 0, none⟩), .slice (some ⟨m, 0, none⟩) 3 3] (w.alloc (.cells #[.string s, .string t, .string u] 9)) fun e w' => e = .returned (.tuple #[]) ∧ Wrote B b acc (s.data.toList ++ (t.data.toList ++ u.data.toList)) w w' := by
  subst hm
  have := put_lit h [s, t, u] (by simp) (by simp only [List.map_cons, List.map_nil, List.flatten_cons, List.flatten_nil, List.append_nil, List.length_append]; rw [← G5.size_list, ← G5.size_list, ← G5.size_list]; exact hl)
  simp only [List.map_cons, List.map_nil, List.flatten_cons, List.flatten_nil, List.append_nil, List.length_cons, List.length_nil] at this
  exact this
theorem put5 {B b : Nat} {acc : List UInt8} {w : World} (h : Pr B b acc w) (s t u v x : ByteArray) (hl : acc.length + (s.size + (t.size + (u.size + (v.size + x.size)))) ≤ 140737488355328) {m : Nat} (hm : m = w.heap.size) :
    Calls Tryz.prog 55 #[.pointer (some ⟨b, 0, none⟩), .slice (some ⟨m, 0, none⟩) 5 5] (w.alloc (.cells #[.string s, .string t, .string u, .string v, .string x] 9)) fun e w' => e = .returned (.tuple #[]) ∧ Wrote B b acc (s.data.toList ++ (t.data.toList ++ (u.data.toList ++ (v.data.toList ++ x.data.toList)))) w w' := by
  subst hm
  have := put_lit h [s, t, u, v, x] (by simp) (by simp only [List.map_cons, List.map_nil, List.flatten_cons, List.flatten_nil, List.append_nil, List.length_append]; rw [← G5.size_list, ← G5.size_list, ← G5.size_list, ← G5.size_list, ← G5.size_list]; exact hl)
  simp only [List.map_cons, List.map_nil, List.flatten_cons, List.flatten_nil, List.append_nil, List.length_cons, List.length_nil] at this
  exact this
theorem text_p {B b : Nat} {acc : List UInt8} {w : World} (h : Pr B b acc w) (kd sp : Int) (nm tx : ByteArray) (av kv : Value) (ht : tx.size ≤ 1000000) (hl : acc.length + 6 * tx.size ≤ 140737488355328) :
    Calls Tryz.prog 37 #[.pointer (some ⟨b, 0, none⟩), .agg #[.int .i64 kd, .int .i64 sp, .string nm, av, .string tx, kv]] w fun e w' => e = .returned (.tuple #[]) ∧ Wrote B b acc (escL false tx.data.toList) w w' := by
  have HE := hide (escape_any tx ht false (w.alloc (.cells #[.int .i64 kd, .int .i64 sp, .string nm, av, .string tx, kv] 46)))
  have hz := escL_len false tx.data.toList
  rw [← G5.size_list] at hz
  have HD := hide (G5.str_data (escL false tx.data.toList))
  have hsz : (⟨(escL false tx.data.toList).toArray⟩ : ByteArray).size = (escL false tx.data.toList).length := by rw [G5.size_list, G5.str_data]
  generalize escL false tx.data.toList = T at *
  generalize (⟨T.toArray⟩ : ByteArray) = t at *
  have HP := hide h
  clear h
  go_enter Tryz.func37, Tryz.ntmps37
  go_wp2_with fail
  refine HE.out.mono ?_
  rintro e w1 ⟨rfl, b0⟩
  have b1 : Below w.heap.size w w1 := (G5.below_alloc w _).trans (b0.mono (G5.below_alloc w _).size)
  have hp1 := HP.out.below b1
  clear b0
  go_wp2_with fail
  refine (put1 hp1 t (by omega) rfl).mono ?_
  rintro e w2 ⟨rfl, h2⟩
  go_wp2
  go_end0
  rw [HD.out] at h2
  exact ⟨rfl, h2.behind b1 HP.out.2⟩
theorem rawText_p {B b : Nat} {acc : List UInt8} {w : World} (h : Pr B b acc w) (kd sp : Int) (nm tx : ByteArray) (av kv : Value) (hl : acc.length + tx.size ≤ 140737488355328) :
    Calls Tryz.prog 151 #[.pointer (some ⟨b, 0, none⟩), .agg #[.int .i64 kd, .int .i64 sp, .string nm, av, .string tx, kv]] w fun e w' => e = .returned (.tuple #[]) ∧ Wrote B b acc tx.data.toList w w' := by
  have HP := hide h
  clear h
  go_enter Tryz.func151, Tryz.ntmps151
  go_wp2_with fail
  refine (put1 (HP.out.alloc (.cells #[.int .i64 kd, .int .i64 sp, .string nm, av, .string tx, kv] 46)) tx hl (by simp)).mono ?_
  rintro e w2 ⟨rfl, h2⟩
  go_wp2
  go_end0
  exact ⟨rfl, h2.behind (G5.below_alloc w _) HP.out.2⟩
theorem comment_p {B b : Nat} {acc : List UInt8} {w : World} (h : Pr B b acc w) (kd sp : Int) (nm tx : ByteArray) (av kv : Value) (hl : acc.length + (4 + (tx.size + 3)) ≤ 140737488355328) :
    Calls Tryz.prog 70 #[.pointer (some ⟨b, 0, none⟩), .agg #[.int .i64 kd, .int .i64 sp, .string nm, av, .string tx, kv]] w fun e w' => e = .returned (.tuple #[]) ∧ Wrote B b acc (commentW tx.data.toList) w w' := by
  have HP := hide h
  clear h
  go_enter Tryz.func70, Tryz.ntmps70
  go_wp2_with fail
  refine (put3 (HP.out.alloc (.cells #[.int .i64 kd, .int .i64 sp, .string nm, av, .string tx, kv] 46)) ⟨#[60, 33, 45, 45]⟩ tx ⟨#[45, 45, 62]⟩ hl (by simp)).mono ?_
  rintro e w2 ⟨rfl, h2⟩
  go_wp2
  go_end0
  exact ⟨rfl, h2.behind (G5.below_alloc w _) HP.out.2⟩
theorem nothing_p {B b : Nat} {acc : List UInt8} {w : World} (h : Pr B b acc w) (cs : Array Value) :
    Calls Tryz.prog 71 #[.pointer (some ⟨b, 0, none⟩), .agg cs] w fun e w' => e = .returned (.tuple #[]) ∧ Wrote B b acc [] w w' := by
  have HP := hide h
  clear h
  go_enter Tryz.func71, Tryz.ntmps71
  go_wp2
  go_end0
  exact ⟨rfl, Wrote.none HP.out (G5.below_alloc w _)⟩
end Go.Proofs.YtpppdfjdngmaoaaGreatDoor.P9
namespace Go.Proofs.YtpppdfjdngmaoaaGreatDoor.P9
open Go.RowKit
theorem box_kept {w W : World} {cs : Array Value} {T : TypeId} (hb : Below (w.alloc (.cells cs T)).heap.size (w.alloc (.cells cs T)) W) (j : Nat) : W.cell? ⟨w.heap.size, j, none⟩ = cs[j]? := by
  have h := hb.block w.heap.size (by simp)
  rw [new_heap] at h
  exact Lib.cell_of_heap h j
theorem box_below {w W : World} {o : Obj} (hb : Below (w.alloc o).heap.size (w.alloc o) W) : Below w.heap.size w W := (G5.below_alloc w o).trans (hb.mono (G5.below_alloc w o).size)
theorem html_p (kd sp : Int) (nm tx : ByteArray) (av kv : Value) (w : World) :
    Calls Tryz.prog 96 #[.agg #[.int .i64 kd, .int .i64 sp, .string nm, av, .string tx, kv]] w fun e w' => e = .returned (.bool (sp == 0)) ∧ Below w.heap.size w w' := by
  go_enter Tryz.func96, Tryz.ntmps96
  go_wp2
  go_ret
  exact ⟨rfl, G5.below_alloc w _⟩
abbrev wText : Value := .func (.func 37) #[] #[]
abbrev wRaw : Value := .func (.func 151) #[] #[]
abbrev wElement : Value := .func (.func 69) #[] #[]
abbrev wComment : Value := .func (.func 70) #[] #[]
abbrev wNothing : Value := .func (.func 71) #[] #[]
abbrev wayOfTexts (raw : Bool) : Value := if raw then wRaw else wText
theorem wayOf_p (k : Int) (v : Value) (w : World) :
    Calls Tryz.prog 54 #[.int .i64 k, v] w fun e w' => e = .returned (if k = 1 then wElement else if k = 2 then v else if k = 3 then wComment else wNothing) ∧ w' = w := by
  by_cases h1 : k = 1
  · subst h1
    go_enter Tryz.func54, Tryz.ntmps54
    go_wp2
    go_ret
    exact ⟨rfl, rfl⟩
  · have e1 : (k == 1) = false := beq_eq_false_iff_ne.2 h1
    by_cases h2 : k = 2
    · subst h2
      go_enter Tryz.func54, Tryz.ntmps54
      go_wp2
      go_ret
      exact ⟨rfl, rfl⟩
    · have e2 : (k == 2) = false := beq_eq_false_iff_ne.2 h2
      by_cases h3 : k = 3
      · subst h3
        go_enter Tryz.func54, Tryz.ntmps54
        go_wp2
        go_ret
        exact ⟨rfl, rfl⟩
      · have e3 : (k == 3) = false := beq_eq_false_iff_ne.2 h3
        rw [if_neg h1, if_neg h2, if_neg h3]
        go_enter Tryz.func54, Tryz.ntmps54
        go_wp2
        go_ret
        exact ⟨rfl, rfl⟩
theorem textsWithin_p (kd sp : Int) (nm tx : ByteArray) (av kv : Value) (w : World) :
    Calls Tryz.prog 97 #[.agg #[.int .i64 kd, .int .i64 sp, .string nm, av, .string tx, kv]] w fun e w' => e = .returned (wayOfTexts ((sp == 0) && (S6.isL 2 nm.data.toList || nm.data.toList == plainT))) ∧ Below w.heap.size w w' := by
  have HH := hide (html_p kd sp nm tx av kv)
  have HI := hide (S6.is_any 2 nm)
  have hx : nm.toList = nm.data.toList := Lib.toList_data nm
  cases hs : (sp == 0)
  · rw [hs] at HH
    rw [Bool.false_and]
    go_enter Tryz.func97, Tryz.ntmps97
    go_wp2_with fail
    refine (HH.out _).mono ?_
    rintro e w1 ⟨rfl, b1⟩
    have n2 : w1.cell? ⟨w.heap.size, 2, none⟩ = some (.string nm) := box_kept b1 2
    go_wp2
    go_ret
    exact ⟨rfl, box_below b1⟩
  · rw [hs] at HH
    rw [Bool.true_and]
    cases h2 : S6.isL 2 nm.data.toList
    · rw [h2] at HI
      rw [Bool.false_or]
      cases h3 : (nm.data.toList == plainT)
      · have h4 : (nm.toList == [112, 108, 97, 105, 110, 116, 101, 120, 116]) = false := by rw [hx]; exact h3
        clear h3 hx
        go_enter Tryz.func97, Tryz.ntmps97
        go_wp2_with fail
        refine (HH.out _).mono ?_
        rintro e w1 ⟨rfl, b1⟩
        have n2 : w1.cell? ⟨w.heap.size, 2, none⟩ = some (.string nm) := box_kept b1 2
        go_wp2_with fail
        refine (HI.out _).mono ?_
        rintro e w2 ⟨rfl, b2⟩
        have n3 : w2.cell? ⟨w.heap.size, 2, none⟩ = some (.string nm) := box_kept (b1.trans (b2.mono b1.size)) 2
        go_wp2
        go_ret
        exact ⟨rfl, box_below (b1.trans (b2.mono b1.size))⟩
      · have h4 : (nm.toList == [112, 108, 97, 105, 110, 116, 101, 120, 116]) = true := by rw [hx]; exact h3
        clear h3 hx
        go_enter Tryz.func97, Tryz.ntmps97
        go_wp2_with fail
        refine (HH.out _).mono ?_
        rintro e w1 ⟨rfl, b1⟩
        have n2 : w1.cell? ⟨w.heap.size, 2, none⟩ = some (.string nm) := box_kept b1 2
        go_wp2_with fail
        refine (HI.out _).mono ?_
        rintro e w2 ⟨rfl, b2⟩
        have n3 : w2.cell? ⟨w.heap.size, 2, none⟩ = some (.string nm) := box_kept (b1.trans (b2.mono b1.size)) 2
        go_wp2
        go_ret
        exact ⟨rfl, box_below (b1.trans (b2.mono b1.size))⟩
    · rw [h2] at HI
      rw [Bool.true_or]
      clear hx
      go_enter Tryz.func97, Tryz.ntmps97
      go_wp2_with fail
      refine (HH.out _).mono ?_
      rintro e w1 ⟨rfl, b1⟩
      have n2 : w1.cell? ⟨w.heap.size, 2, none⟩ = some (.string nm) := box_kept b1 2
      go_wp2_with fail
      refine (HI.out _).mono ?_
      rintro e w2 ⟨rfl, b2⟩
      have n3 : w2.cell? ⟨w.heap.size, 2, none⟩ = some (.string nm) := box_kept (b1.trans (b2.mono b1.size)) 2
      go_wp2
      go_ret
      exact ⟨rfl, box_below (b1.trans (b2.mono b1.size))⟩
end Go.Proofs.YtpppdfjdngmaoaaGreatDoor.P9
