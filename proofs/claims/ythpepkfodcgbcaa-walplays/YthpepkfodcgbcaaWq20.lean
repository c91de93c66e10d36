import Derived.Test.YthpepkfodcgbcaaWq19
import Derived.Maps.AppendAt
/- A write appended to the pending ones. -/
set_option linter.unusedVariables false
set_option linter.unusedSimpArgs false
set_option maxRecDepth 4000
namespace Go.Proofs.Ythpepkfodcgbcaa
open Go.RowKit

theorem zeros_int (n : Nat) : ∀ v ∈ (Builtin.zeroCells zeroV.toArray n).toList, IntV v := by
  intro v hv
  unfold Builtin.zeroCells at hv
  rw [Array.toList_map] at hv
  obtain ⟨i, _, rfl⟩ := List.mem_map.1 hv
  have hz := zeroV_size
  have hi : i % zeroV.toArray.size < zeroV.toArray.size := Nat.mod_lt _ (by omega)
  have e : zeroV.toArray[i % zeroV.toArray.size]! = zeroV.toArray[i % zeroV.toArray.size] := getElem!_pos zeroV.toArray _ hi
  show IntV (zeroV.toArray[i % zeroV.toArray.size]!)
  rw [e]
  refine zeroV_int _ ?_
  rw [List.getElem_toArray]
  exact List.getElem_mem _
theorem wsV_int : ∀ ws : List PW, ∀ v ∈ wsV ws, IntV v := by
  intro ws v hv
  obtain ⟨x, _, h⟩ := List.mem_flatMap.1 hv
  exact wV_int x v h
theorem run_ok_inj {α : Type} {x : Result α} {a b : α} {w v : World} (h1 : x = .ok a w) (h2 : x = .ok b v) : a = b ∧ w = v := by
  rw [h1] at h2
  injection h2 with e1 e2
  exact ⟨e1, e2⟩
set_option maxHeartbeats 1000000 in
theorem append_write (W : World) (pv : Value) (ws : List PW) (x : PW) (hp : PendAt W pv ws) (hx : Good x) (hl : ws.length ≤ 100000) :
    ∃ v' w', (Builtin.append_ #[77, 77] 77 #[pv, .slice (some ⟨W.heap.size, 0, none⟩) 1 1]).run Try.prog (W.alloc (.cells (wV x).toArray 112)) = .ok v' w' ∧ PendAt w' v' (ws ++ [x]) ∧ W.grownBy w' pv.ownBlock ∧ (∀ j, v'.ownBlock = some j → pv.ownBlock = some j ∨ W.heap.size ≤ j) := by
  obtain ⟨i, h1, h2, h3, h4⟩ := write_info
  have hwl := wV_len hx
  have ho : (W.alloc (.cells (wV x).toArray 112)).ownsRow 0 112 513 pv ws.length (wsV ws) := hp.1.alloc _
  have hnews : ∀ j u, (wV x)[j]? = some u → (W.alloc (.cells (wV x).toArray 112)).cell? ((⟨W.heap.size, 0, none⟩ : Addr).add j) = some u := fun j u hu => by
    rw [addr_add, cell_of_row _ W.heap.size j _ _ _ (heap_alloc_new W _)]
    simpa using hu
  obtain ⟨v', w', hr, how, hg, _, hat⟩ := run_append_own_at (P := Try.prog) (W.alloc (.cells (wV x).toArray 112)) 0 77 77 112 i (.agg zeroV.toArray) 513 520 Try.underlying77 h1 h2 h3 h4 zeroV_size (by omega)
    pv ws.length (wsV ws) ho ⟨W.heap.size, 0, none⟩ 1 1 (wV x) (by rw [hwl]) hnews (wV_one x) (by unfold maxLen; omega) (by omega) (Nat.zero_le _)
  have hsz : (W.alloc (.cells (wV x).toArray 112)).heap.size = W.heap.size + 1 := by simp
  refine ⟨v', w', hr, ⟨?_, ?_⟩, ⟨hg.os, hg.tape, hg.output, by have := hg.size; omega, fun k hk hne => (hg.block k (by omega) hne).trans ((below_alloc W _).block k hk)⟩, ?_⟩
  · rw [List.length_append, List.length_singleton, wsV_app, wsV_one]
    exact how
  · intro j hj
    rcases hp.1.2 with ⟨rfl, h0⟩ | ⟨g, cap, cur, rfl, hbg, hgg, hnc, hcm, hcs, htake⟩
    · have hr2 := run_append_nil (P := Try.prog) (W.alloc (.cells (wV x).toArray 112)) 77 77 112 i (.agg zeroV.toArray) Try.underlying77 h1 h2 ⟨W.heap.size, 0, none⟩ 1 1 (wV x) (by rw [hwl, h3]) hnews (by omega) (by omega) (by rw [h4]; omega)
      obtain ⟨rfl, rfl⟩ := run_ok_inj hr hr2
      cases hj
      refine intB_cells (heap_alloc_new _ _) ?_
      intro v hv
      rw [Array.toList_append] at hv
      rcases List.mem_append.1 hv with hv | hv
      · exact wV_int x v (by simpa using hv)
      · exact zeros_int _ v hv
    · have hgg' : (W.alloc (.cells (wV x).toArray 112)).heap[g]? = some (.cells cur 112 (0, 0)) := ((below_alloc W _).block g (Array.getElem?_eq_some_iff.1 hgg).1).trans hgg
      have hci : ∀ v ∈ cur.toList, IntV v := by
        intro v hv
        obtain ⟨k, hk, rfl⟩ := List.getElem_of_mem hv
        refine hp.2 g rfl k _ ?_
        rw [cell_of_row W g k cur _ _ hgg]
        simp at hk ⊢
      by_cases hroom : ws.length + 1 ≤ cap
      · have hr2 := run_append_room (P := Try.prog) (W.alloc (.cells (wV x).toArray 112)) 77 77 112 i Try.underlying77 h1 g ws.length cap cur hgg' ⟨W.heap.size, 0, none⟩ 1 1 (wV x) (by rw [hwl, h3]) hnews (wV_one x) hroom (by rw [h3, hwl, hcs]; omega)
        obtain ⟨rfl, rfl⟩ := run_ok_inj hr hr2
        cases hj
        refine intB_cells (setRow_heap _ g cur _ _ _ hgg') ?_
        intro v hv
        rcases List.mem_append.1 (by simpa using hv : v ∈ (cur.toList.take (ws.length * i.size) ++ wV x) ++ cur.toList.drop (ws.length * i.size + (wV x).length)) with hv | hv
        · rcases List.mem_append.1 hv with hv | hv
          · exact hci v (List.mem_of_mem_take hv)
          · exact wV_int x v hv
        · exact hci v (List.mem_of_mem_drop hv)
      · have hr2 := run_append_grow (P := Try.prog) (W.alloc (.cells (wV x).toArray 112)) 77 77 112 i (.agg zeroV.toArray) Try.underlying77 h1 h2 ⟨g, 0, none⟩ ws.length cap (wsV ws) (by rw [h3]; exact hp.1.1) (fun j u hu => ho.cells (g := g) rfl j u hu) ⟨W.heap.size, 0, none⟩ 1 1 (wV x) (by rw [hwl, h3]) hnews (by omega) (by omega) (growslice_fits (by omega) (by rw [h4]; omega))
        obtain ⟨rfl, rfl⟩ := run_ok_inj hr hr2
        cases hj
        refine intB_cells (heap_alloc_new _ _) ?_
        intro v hv
        rw [Array.toList_append, Array.toList_append] at hv
        rcases List.mem_append.1 hv with hv | hv
        · rcases List.mem_append.1 hv with hv | hv
          · exact wsV_int ws v (by simpa using hv)
          · exact wV_int x v (by simpa using hv)
        · exact zeros_int _ v hv
  · intro j hj
    rcases hat with h | h
    · exact .inl (h ▸ hj)
    · rw [h] at hj
      injection hj with hj
      exact .inr (by omega)
end Go.Proofs.Ythpepkfodcgbcaa
