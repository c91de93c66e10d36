import Derived.Test.YthpepkfodcgbcaaWq22
import Derived.Test.YthpepkfodcgbcaaWq07
import Derived.Deep.RegionLaw
/- A record more in the program's memory: take. -/
set_option linter.unusedVariables false
set_option linter.unusedSimpArgs false
set_option maxRecDepth 40000
namespace Go.Proofs.Ythpepkfodcgbcaa
open Go.RowKit

theorem grown_at {w w' : World} {v : Value} (h : w.grownBy w' v.ownBlock) (k : Nat) (hk : k < w.heap.size) (hn : v.ownBlock ≠ some k) : w'.heap[k]? = w.heap[k]? := h.block k hk (fun e => hn e.symm)
/-- What take lays, step by step. -/
theorem take_mem {w : World} {a : Nat} {dv tv ev bv : Value} {m : LM} {b : Bs} {n : Nat} (h : IsLP w a dv tv ev m) (hY : IsY w bv b) (hb : b ≠ []) (hbl : b.length ≤ 39 * n) (hn : m.end_ + n ≤ 20000) (h0 : 0 < n) :
    ∃ ta tc w1, (Builtin.append_ #[43, 43] 43 #[tv, bv]).run Try.prog w = .ok (.slice ta (m.recs.flatten ++ b).length tc) w1 ∧ (∃ old, w1.cell? ⟨a, 6, none⟩ = some old) ∧ w1.frozen? ⟨a, 6, none⟩ = false ∧
      ∃ w2, w1.setCell ⟨a, 6, none⟩ (.slice ta (m.recs.flatten ++ b).length tc) = w2 ∧ w2.cell? ⟨a, 6, none⟩ = some (.slice ta (m.recs.flatten ++ b).length tc) ∧ w2.cell? ⟨a, 7, none⟩ = some ev ∧
      (∀ o, (w2.drew.alloc o).cell? ⟨a, 6, none⟩ = some (.slice ta (m.recs.flatten ++ b).length tc)) ∧ (∀ o, (w2.drew.alloc o).cell? ⟨a, 7, none⟩ = some ev) ∧
      ∃ ea ec w3, (Builtin.append_ #[81, 81] 81 #[ev, .slice (some ⟨w2.heap.size, 0, none⟩) 1 1]).run Try.prog (w2.drew.alloc (.cells #[.int .i64 (((m.recs.flatten ++ b).length : Nat) : Int)] 3)) = .ok (.slice ea (m.recs.length + 1) ec) w3 ∧
      (∃ old, w3.cell? ⟨a, 7, none⟩ = some old) ∧ w3.frozen? ⟨a, 7, none⟩ = false ∧ (∀ v, (w3.setCell ⟨a, 7, none⟩ v).cell? ⟨a, 5, none⟩ = some (.int .i64 (m.end_ : Int))) ∧ w3.frozen? ⟨a, 5, none⟩ = false ∧
      IsLP ((w3.setCell ⟨a, 7, none⟩ (.slice ea (m.recs.length + 1) ec)).setCell ⟨a, 5, none⟩ (.int .i64 ((m.end_ + n : Nat) : Int))) a dv (.slice ta (m.recs.flatten ++ b).length tc) (.slice ea (m.recs.length + 1) ec) { m with recs := m.recs ++ [b], end_ := m.end_ + n } ∧
      Grew (lpA a tv ev) (lpA a (.slice ta (m.recs.flatten ++ b).length tc) (.slice ea (m.recs.length + 1) ec)) w.heap.size ∧
      ButA (lpA a tv ev) w ((w3.setCell ⟨a, 7, none⟩ (.slice ea (m.recs.length + 1) ec)).setCell ⟨a, 5, none⟩ (.int .i64 ((m.end_ + n : Nat) : Int))) := by
  obtain ⟨n1, n2, n3⟩ := h.apart
  have hfl := h.fl
  have hrl := h.rl
  have haw : a < w.heap.size := h.lt a (.inl rfl)
  obtain ⟨ta, tc, w1, r1, R1, g1, at1⟩ := append_b17 w tv bv m.recs.flatten b h.t hY hb (by omega) (by omega)
  have hk1 : ∀ k, k < w.heap.size → tv.ownBlock ≠ some k → w1.heap[k]? = w.heap[k]? := fun k hk hne => grown_at g1 k hk hne
  have hbox1 : w1.heap[a]? = some (.cells (lpC dv tv ev m) 83 (0, 0)) := (hk1 a haw fun e => n1 a e rfl).trans h.box
  obtain ⟨x0, x1, x2, x3, x4, x5, x6, x7, x8, xf⟩ := lp_cells hbox1
  have hbox2 : (w1.setCell ⟨a, 6, none⟩ (.slice ta (m.recs.flatten ++ b).length tc)).heap[a]? = some (.cells (lpC dv (.slice ta (m.recs.flatten ++ b).length tc) ev m) 83 (0, 0)) := by
    rw [heap_box_set hbox1 6 _]
    rfl
  have hk2 : ∀ k, k ≠ a → (w1.setCell ⟨a, 6, none⟩ (.slice ta (m.recs.flatten ++ b).length tc)).heap[k]? = w1.heap[k]? := fun k hk => Below.heap_setCell _ _ _ _ hk
  have hs2 : (w1.setCell ⟨a, 6, none⟩ (.slice ta (m.recs.flatten ++ b).length tc)).heap.size = w1.heap.size := by simp [World.setCell]
  have hos2 : (w1.setCell ⟨a, 6, none⟩ (.slice ta (m.recs.flatten ++ b).length tc)).os = w1.os ∧ (w1.setCell ⟨a, 6, none⟩ (.slice ta (m.recs.flatten ++ b).length tc)).tape = w1.tape ∧ (w1.setCell ⟨a, 6, none⟩ (.slice ta (m.recs.flatten ++ b).length tc)).output = w1.output := ⟨rfl, rfl, rfl⟩
  generalize hw2 : w1.setCell ⟨a, 6, none⟩ (.slice ta (m.recs.flatten ++ b).length tc) = w2 at *
  obtain ⟨y0, y1, y2, y3, y4, y5, y6, y7, y8, yf⟩ := lp_cells hbox2
  have hTa : ∀ j, (Value.slice ta (m.recs.flatten ++ b).length tc).ownBlock = some j → j ≠ a := fun j hj => by
    rcases at1 with e | e
    · exact n1 j (e.symm.trans hj)
    · rw [e] at hj
      injection hj with hj
      omega
  have hTe : ∀ j, (Value.slice ta (m.recs.flatten ++ b).length tc).ownBlock = some j → ev.ownBlock ≠ some j := fun j hj e2 => by
    rcases at1 with e | e
    · exact n3 j (e.symm.trans hj) e2
    · rw [e] at hj
      injection hj with hj
      have := h.e.lt j e2
      omega
  have R1' : RowI w2 5 (.slice ta (m.recs.flatten ++ b).length tc) (m.recs.flatten ++ b).length (bytesV (m.recs.flatten ++ b)) := R1.keep fun j hj => hk2 j (hTa j hj)
  have E2 : RowI w2.drew 3 ev m.recs.length (endsV m.recs) := h.e.keep fun j hj => (hk2 j (n2 j hj)).trans (hk1 j (h.e.lt j hj) fun e => n3 j e hj)
  obtain ⟨ea, ec, w3, r3, R3, g3, at3⟩ := append_i17 w2.drew ev m.recs.length (endsV m.recs) (((m.recs.flatten ++ b).length : Nat) : Int) E2 (endsV_int _) (by omega)
  have hsz1 : w.heap.size ≤ w1.heap.size := g1.size
  have hsz3 : w2.heap.size ≤ w3.heap.size := g3.size
  have hk3 : ∀ k, k < w2.heap.size → ev.ownBlock ≠ some k → w3.heap[k]? = w2.heap[k]? := fun k hk hne => grown_at (w := w2.drew) g3 k hk hne
  have hbox3 : w3.heap[a]? = some (.cells (lpC dv (.slice ta (m.recs.flatten ++ b).length tc) ev m) 83 (0, 0)) := (hk3 a (by omega) fun e => n2 a e rfl).trans hbox2
  obtain ⟨z0, z1, z2, z3, z4, z5, z6, z7, z8, zf⟩ := lp_cells hbox3
  have hEa : ∀ j, (Value.slice ea (m.recs.length + 1) ec).ownBlock = some j → j ≠ a := fun j hj => by
    rcases at3 with e | e
    · exact n2 j (e.symm.trans hj)
    · have h9 : w2.heap.size ≤ j := e j hj
      omega
  have hbox4 : ((w3.setCell ⟨a, 7, none⟩ (.slice ea (m.recs.length + 1) ec)).setCell ⟨a, 5, none⟩ (.int .i64 ((m.end_ + n : Nat) : Int))).heap[a]? = some (.cells (lpC dv (.slice ta (m.recs.flatten ++ b).length tc) (.slice ea (m.recs.length + 1) ec) { m with recs := m.recs ++ [b], end_ := m.end_ + n }) 83 (0, 0)) := by
    rw [heap_box_set (heap_box_set hbox3 7 _) 5 _]
    rfl
  have hk4 : ∀ k, k ≠ a → ((w3.setCell ⟨a, 7, none⟩ (.slice ea (m.recs.length + 1) ec)).setCell ⟨a, 5, none⟩ (.int .i64 ((m.end_ + n : Nat) : Int))).heap[k]? = w3.heap[k]? := fun k hk => by rw [Below.heap_setCell _ _ _ _ hk, Below.heap_setCell _ _ _ _ hk]
  have hs4 : ((w3.setCell ⟨a, 7, none⟩ (.slice ea (m.recs.length + 1) ec)).setCell ⟨a, 5, none⟩ (.int .i64 ((m.end_ + n : Nat) : Int))).heap.size = w3.heap.size := by simp [World.setCell]
  have haw2 : a < w2.heap.size := by omega
  have hal : ∀ o k, k < w2.heap.size → (w2.drew.alloc o).heap[k]? = w2.heap[k]? := fun o k hk => (below_alloc w2.drew o).block k hk
  have hR5 : RowI ((w3.setCell ⟨a, 7, none⟩ (.slice ea (m.recs.length + 1) ec)).setCell ⟨a, 5, none⟩ (.int .i64 ((m.end_ + n : Nat) : Int))) 5 (.slice ta (m.recs.flatten ++ b).length tc) (m.recs.flatten ++ b).length (bytesV (m.recs.flatten ++ b)) := R1'.keep fun j hj => (hk4 j (hTa j hj)).trans (hk3 j (R1'.lt j hj) (hTe j hj))
  have hR6 : RowI ((w3.setCell ⟨a, 7, none⟩ (.slice ea (m.recs.length + 1) ec)).setCell ⟨a, 5, none⟩ (.int .i64 ((m.end_ + n : Nat) : Int))) 3 (.slice ea (m.recs.length + 1) ec) (m.recs.length + 1) (endsV (m.recs ++ [b])) := by
    rw [endsV_app]
    exact R3.keep fun j hj => hk4 j (hEa j hj)
  refine ⟨ta, tc, w1, r1, ⟨_, x6⟩, xf 6, w2, hw2, y6, y7, fun o => (cell_blk (hal o a haw2) 6).trans y6, fun o => (cell_blk (hal o a haw2) 7).trans y7, ea, ec, w3, r3, ⟨_, z7⟩, zf 7, fun v => (World.cell?_setCell_other _ _ _ _ (by intro e; injection e; omega)).trans z5, zf 5, ⟨hbox4, ?_, ?_, ?_, ?_, ?_, ?_, h.dp⟩, ?_, ?_⟩
  · have e1 : (m.recs ++ [b]).flatten = m.recs.flatten ++ b := by simp
    show RowI _ 5 _ (m.recs ++ [b]).flatten.length (bytesV (m.recs ++ [b]).flatten)
    rw [e1]
    exact hR5
  · have e1 : (m.recs ++ [b]).length = m.recs.length + 1 := by simp
    show RowI _ 3 _ (m.recs ++ [b]).length (endsV (m.recs ++ [b]))
    rw [e1]
    exact hR6
  · exact hn
  · show (m.recs ++ [b]).flatten.length ≤ 39 * (m.end_ + n)
    have e1 : (m.recs ++ [b]).flatten = m.recs.flatten ++ b := by simp
    rw [e1, List.length_append]
    omega
  · show (m.recs ++ [b]).length ≤ m.end_ + n
    rw [List.length_append, List.length_singleton]
    omega
  · intro r hr
    rcases List.mem_append.1 hr with hr | hr
    · exact h.ne r hr
    · rw [List.mem_singleton.1 hr]; exact hb
  · rintro k (rfl | hk | hk)
    · exact .inl (.inl rfl)
    · rcases at1 with e | e
      · exact .inl (.inr (.inl (e.symm.trans hk)))
      · rw [e] at hk
        injection hk with hk
        exact .inr (by omega)
    · rcases at3 with e | e
      · exact .inl (.inr (.inr (e.symm.trans hk)))
      · have h9 : w2.heap.size ≤ k := e k hk
        exact .inr (by omega)
  · refine ⟨?_, ?_, ?_, by omega, fun k hk hn2 => ?_⟩
    · show w3.os = _
      exact g3.os.trans (hos2.1.trans g1.os)
    · show w3.tape = _
      exact g3.tape.trans (hos2.2.1.trans g1.tape)
    · show w3.output = _
      exact g3.output.trans (hos2.2.2.trans g1.output)
    · rw [hk4 k fun e => hn2 (.inl e), hk3 k (by omega) fun e => hn2 (.inr (.inr e)), hk2 k fun e => hn2 (.inl e), hk1 k hk fun e => hn2 (.inr (.inl e))]
def TakeR (w : World) (a : Nat) (dv tv ev : Value) (m' : LM) (e : Ending) (w' : World) : Prop := e = .returned (.tuple #[]) ∧ ∃ tv' ev', IsLP w' a dv tv' ev' m' ∧ Grew (lpA a tv ev) (lpA a tv' ev') w.heap.size ∧ ButA (lpA a tv ev) w w'
set_option maxHeartbeats 8000000 in
theorem ptake_any (a : Nat) (dv tv ev bv : Value) (m : LM) (b : Bs) (n : Nat) (w : World) (h : IsLP w a dv tv ev m) (hY : IsY w bv b) (hb : b ≠ []) (hbl : b.length ≤ 39 * n) (hn : m.end_ + n ≤ 20000) (h0 : 0 < n) :
    Calls Try.prog 47 #[.pointer (some ⟨a, 0, none⟩), bv, .int .i64 (n : Int)] w (TakeR w a dv tv ev { m with recs := m.recs ++ [b], end_ := m.end_ + n }) := by
  obtain ⟨ta, tc, w1, r1, ⟨old1, c1⟩, f1, w2, hw2, c6, c7, d6, d7, ea, ec, w3, r3, ⟨old3, c3⟩, f3, c5, f5, hL, hG, hB⟩ := take_mem h hY hb hbl hn h0
  obtain ⟨x0, x1, x2, x3, x4, x5, x6, x7, x8, xf⟩ := lp_cells h.box
  obtain ⟨tva, tvc, htv⟩ := h.t.form
  obtain ⟨eva, evc, hev⟩ := h.e.form
  obtain ⟨ba, bc, rfl⟩ := hY.form
  have hen := h.en
  have HF : Hid (TakeR w a dv tv ev { m with recs := m.recs ++ [b], end_ := m.end_ + n } (.returned (.tuple #[])) ((w3.setCell ⟨a, 7, none⟩ (.slice ea (m.recs.length + 1) ec)).setCell ⟨a, 5, none⟩ (.int .i64 ((m.end_ + n : Nat) : Int)))) := hide ⟨rfl, _, _, hL, hG, hB⟩
  rw [htv] at x6 r1
  rw [hev] at c7 d7 r3
  have HR1 := hide r1
  change (Builtin.append_ #[81, 81] 81 #[.slice eva m.recs.length evc, .slice (some ⟨w2.heap.size, 0, none⟩) 1 1]).run Try.prog (w2.alloc (.cells #[.int .i64 (((m.recs.flatten ++ b).length : Nat) : Int)] 3)).drew = _ at r3
  change ∀ o, (w2.alloc o).cell? ⟨a, 6, none⟩ = _ at d6
  change ∀ o, (w2.alloc o).cell? ⟨a, 7, none⟩ = _ at d7
  have HR3 := hide r3
  clear h hY hL hG hB r1 r3 x0 x1 x2 x3 x4 x7 x8 hb hbl htv hev
  generalize TakeR w a dv tv ev { m with recs := m.recs ++ [b], end_ := m.end_ + n } = R at *
  generalize (m.recs.flatten ++ b).length = L1 at *
  generalize m.recs.flatten.length = L0 at *
  generalize m.recs.length = L2 at *
  generalize b.length = bl at *
  generalize m.end_ = en at *
  have hadd : wrap64 ((en : Int) + (n : Int)) = ((en + n : Nat) : Int) := by unfold wrap64; omega
  go_enter Try.func47, Try.ntmps47
  go_wp2_with (at_builtin; refine wpList_append_run rfl (.tmp 10) (.tmp 11) 43 rfl _ _ _ _ rfl rfl HR1.out ?_)
  go_region_law (first | (with_reducible refine step_append_run rfl (.tmp 19) (.tmp 25) 81 rfl (.slice eva L2 evc) (.slice (some ⟨w2.heap.size, 0, none⟩) 1 1) _ _ rfl rfl HR3.out ?_))
  all_goals
    go_wp2
    go_end0
    exact HF.out
end Go.Proofs.Ythpepkfodcgbcaa
