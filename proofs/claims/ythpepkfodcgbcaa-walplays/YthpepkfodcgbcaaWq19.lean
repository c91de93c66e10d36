import Derived.Test.YthpepkfodcgbcaaWq18
import Derived.Great.BuildSlice
/- A pending write as it is put together in memory, and appended. -/
set_option linter.unusedVariables false
set_option linter.unusedSimpArgs false
set_option maxRecDepth 4000
namespace Go.Proofs.Ythpepkfodcgbcaa
open Go.RowKit

def setL (F : List Value) (o : Nat) : List Value → List Value
  | [] => F
  | v :: r => setL (F.set o v) (o + 1) r
theorem setL_mid : ∀ (x X A D : List Value), X.length = x.length → setL (A ++ (X ++ D)) A.length x = A ++ (x ++ D)
  | [], X, A, D, h => by
    obtain rfl : X = [] := List.eq_nil_of_length_eq_zero h
    rfl
  | v :: r, [], A, D, h => by cases h
  | v :: r, u :: X, A, D, h => by
    show setL ((A ++ (u :: X ++ D)).set A.length v) (A.length + 1) r = _
    have e : (A ++ (u :: X ++ D)).set A.length v = (A ++ [v]) ++ (X ++ D) := by
      rw [List.set_append_right _ _ (Nat.le_refl _), Nat.sub_self]
      simp
    rw [e, show A.length + 1 = (A ++ [v]).length by simp, setL_mid r X (A ++ [v]) D (by simpa using h)]
    simp
theorem heap_cells_any (g : Nat) (t : TypeId) : ∀ (vs C : List Value) (o : Nat) (w : World), w.heap[g]? = some (.cells C.toArray t (0, 0)) → (w.setCells g o vs).heap[g]? = some (.cells (setL C o vs).toArray t (0, 0))
  | [], C, o, w, h => h
  | v :: r, C, o, w, h => by
    show ((w.setCell ⟨g, o, none⟩ v).setCells g (o + 1) r).heap[g]? = _
    refine heap_cells_any g t r (C.set o v) (o + 1) _ ?_
    rw [setCell_eq_setRow w g o _ t _ _ h, setRow_heap w g _ _ t _ h]
    congr 2
    apply Array.ext'
    simp
def noughtsV : List Value := List.replicate 256 (.int .u8 0)
theorem noughtsV_len : noughtsV.length = 256 := by unfold noughtsV; rw [List.length_replicate]
/-- The write ahead of its bytes. -/
def wV0 (m : Nat) (was : Bs) : List Value := .int .i64 (m : Int) :: (bytesV was ++ noughtsV)
theorem wV0_len (m : Nat) (was : Bs) (h : was.length = 256) : (wV0 m was).length = 513 := by unfold wV0; rw [List.length_cons, List.length_append, bytesV_len, h, noughtsV_len]
theorem laid_in (m : Nat) (was b : Bs) (h : was.length = 256) (hb : b.length = 256) : setL (wV0 m was) 257 (bytesV b) = wV ⟨m, was, b⟩ := by
  have e := setL_mid (bytesV b) noughtsV (.int .i64 (m : Int) :: bytesV was) [] (by rw [noughtsV_len, bytesV_len, hb])
  rw [List.length_cons, bytesV_len, h, List.append_nil, List.append_nil] at e
  exact e
def zeroV : List Value := .int .i64 0 :: (noughtsV ++ noughtsV)
theorem write_zero : (Try.prog.info? 112).map (fun i => (i.zero, i.size)) = some (some (.agg zeroV.toArray), 513) := by kernel_rfl
theorem write_bytes : (Try.prog.info? 112).map (·.bytes) = some 520 := by kernel_rfl
theorem write_info : ∃ i, Try.prog.info? 112 = some i ∧ i.zero = some (.agg zeroV.toArray) ∧ i.size = 513 ∧ i.bytes = 520 := by
  have h1 := write_zero
  have h2 := write_bytes
  cases hq : Try.prog.info? 112 with
  | none => rw [hq] at h1; cases h1
  | some i =>
    rw [hq] at h1 h2
    simp only [Option.map_some, Option.some.injEq, Prod.mk.injEq] at h1 h2
    exact ⟨i, rfl, h1.1, h1.2, h2⟩
theorem run_zero (w : World) : (zeroValue 112).run Try.prog w = .ok (.agg zeroV.toArray) w := (zero_of_info write_zero).1 w
theorem write_size_is : (Try.prog.info? 112).map (·.size) = some 513 := (zero_of_info write_zero).2
theorem run_alloc_write (w : World) : (Instr.alloc 112 true (.tuple #[])).run Try.prog w = .ok (.pointer (some ⟨w.heap.size, 0, none⟩)) (w.alloc (.cells zeroV.toArray 112)) := by
  simp [Instr.alloc, run_zero, newVar, newRow, Value.cells]
  try (refine congrArg (fun z => w.alloc (Obj.cells z 112)) ?_; kernel_rfl)
theorem zeroV_get (k : Nat) : zeroV[k]? = if k = 0 then some (.int .i64 0) else if k < 513 then some (.int .u8 0) else none := by
  unfold zeroV
  cases k with
  | zero => rfl
  | succ j =>
    rw [List.getElem?_cons_succ, if_neg (by omega)]
    have e : noughtsV ++ noughtsV = List.replicate 512 (.int .u8 0) := by unfold noughtsV; rw [List.replicate_append_replicate]
    rw [e]
    by_cases hj : j < 512
    · rw [List.getElem?_replicate_of_lt hj, if_pos (by omega)]
    · rw [List.getElem?_eq_none (by rw [List.length_replicate]; omega), if_neg (by omega)]
def placesW : List (Nat × Nat) := [(0, 1), (1, 256), (257, 256)]
theorem built_is (parts : List (Nat × Value)) : Try.prog.built 112 parts = Instr.fill (placesW.toArray[·]?) zeroV.toArray parts := by kernel_rfl
theorem zeroV_size : zeroV.toArray.size = 513 := by kernel_rfl
theorem fold_is (off : Nat) (vs : List Value) (cs : Array Value) : ∃ R : Array Value, Array.foldl (fun cs (x : Value × Nat) => cs.setIfInBounds (off + x.2) x.1) cs vs.toArray.zipIdx = R ∧ R.size = cs.size ∧ ∀ k, R[k]? = if off ≤ k ∧ k < off + vs.length ∧ k < cs.size then vs[k - off]? else cs[k]? := by
  obtain ⟨g1, g2⟩ := Great.foldl_set off vs 0 cs
  refine ⟨_, rfl, ?_, ?_⟩
  · rw [← Array.foldl_toList, Array.toList_zipIdx]
    exact g1
  · rw [← Array.foldl_toList, Array.toList_zipIdx]
    exact g2
theorem fill_two (place : Nat → Option (Nat × Nat)) (Z : Array Value) (v0 : Value) (vs : List Value) (o0 o1 n1 : Nat) (h0 : place 0 = some (o0, 1)) (h1 : place 1 = some (o1, n1)) (hv : v0.cells = #[v0]) (hn : vs.length = n1) (hs0 : o0 + 1 ≤ Z.size) (hs1 : o1 + n1 ≤ Z.size) :
    ∃ R : Array Value, Instr.fill place Z [(0, v0), (1, .agg vs.toArray)] = some R ∧ R.size = Z.size ∧ ∀ k, R[k]? = if o1 ≤ k ∧ k < o1 + n1 then vs[k - o1]? else if k = o0 then some v0 else Z[k]? := by
  obtain ⟨R0, e0, s0, g0⟩ := fold_is o0 [v0] Z
  obtain ⟨R1, e1, s1, g1⟩ := fold_is o1 vs R0
  refine ⟨R1, ?_, by rw [s1, s0], fun k => ?_⟩
  · unfold Instr.fill
    simp only [h0]
    rw [hv, if_neg (by simp; omega)]
    have e0' : Array.foldl (fun cs (x : Value × Nat) => cs.setIfInBounds (o0 + x.2) x.1) Z #[v0].zipIdx = R0 := e0
    rw [e0']
    unfold Instr.fill
    simp only [h1]
    have c1 : Value.cells (.agg vs.toArray) = vs.toArray := rfl
    rw [c1, if_neg (by simp [hn, s0]; omega), e1]
    rfl
  · rw [g1 k, g0 k, hn, s0, List.length_singleton]
    by_cases c1 : o1 ≤ k ∧ k < o1 + n1
    · rw [if_pos (by omega), if_pos c1]
    · rw [if_neg (by omega), if_neg c1]
      by_cases c2 : k = o0
      · subst c2
        rw [if_pos (by omega), if_pos rfl, Nat.sub_self]
        rfl
      · rw [if_neg (by omega), if_neg c2]
theorem built_write (m : Nat) (was : Bs) (h : was.length = 256) : Try.prog.built 112 [(0, .int .i64 (m : Int)), (1, .agg (bytesV was).toArray)] = some (wV0 m was).toArray := by
  rw [built_is]
  have hz := zeroV_size
  have hl : (bytesV was).length = 256 := by rw [bytesV_len, h]
  obtain ⟨R, e, hs, hg⟩ := fill_two (placesW.toArray[·]?) zeroV.toArray (.int .i64 (m : Int)) (bytesV was) 0 1 256 rfl rfl rfl hl (by omega) (by omega)
  rw [e]
  congr 1
  apply Array.ext_getElem?
  intro k
  rw [hg k, List.getElem?_toArray, List.getElem?_toArray, zeroV_get]
  unfold wV0
  cases k with
  | zero => rfl
  | succ j =>
    rw [List.getElem?_cons_succ, if_neg (by omega : ¬ j + 1 = 0), if_neg (by omega : ¬ j + 1 = 0), Nat.add_sub_cancel]
    by_cases hj : j < 256
    · rw [if_pos (by omega), List.getElem?_append_left (by omega)]
    · rw [if_neg (by omega), List.getElem?_append_right (by omega), hl]
      unfold noughtsV
      by_cases hj2 : j < 512
      · rw [if_pos (by omega), List.getElem?_replicate_of_lt (by omega)]
      · rw [if_neg (by omega), List.getElem?_eq_none (by rw [List.length_replicate]; omega)]
theorem run_build_write (w : World) (m : Nat) (was : Bs) (h : was.length = 256) : (Instr.build 112 #[(0, .int .i64 (m : Int)), (1, .agg (bytesV was).toArray)]).run Try.prog w = .ok (.agg (wV0 m was).toArray) w := run_build w _ _ _ (built_write m was h)
theorem wV0_one (m : Nat) (was : Bs) : ∀ v ∈ wV0 m was, v.oneCell' = true := by
  intro v hv
  rcases List.mem_cons.1 hv with rfl | hv
  · rfl
  · rcases List.mem_append.1 hv with hv | hv
    · exact bytesV_one _ v hv
    · obtain rfl := (List.mem_replicate.1 hv).2
      rfl
theorem run_store_write (w : World) (m : Nat) (was : Bs) (h : was.length = 256) : (Instr.storeAt 112 (.pointer (some ⟨w.heap.size, 0, none⟩)) (.agg (wV0 m was).toArray)).run Try.prog (w.alloc (.cells zeroV.toArray 112)) = .ok () (w.alloc (.cells (wV0 m was).toArray 112)) :=
  run_storeAt_new w _ zeroV.toArray (wV0 m was).toArray (by rw [write_size_is, List.size_toArray, wV0_len m was h]) (by rw [zeroV_size, List.size_toArray, wV0_len m was h]) (all_oneCell_toArray (wV0_one m was))
theorem zeroV_int : ∀ v ∈ zeroV, IntV v := by
  intro v hv
  rcases List.mem_cons.1 hv with rfl | hv
  · exact ⟨_, _, rfl⟩
  · rcases List.mem_append.1 hv with hv | hv
    · obtain rfl := (List.mem_replicate.1 hv).2
      exact ⟨_, _, rfl⟩
    · obtain rfl := (List.mem_replicate.1 hv).2
      exact ⟨_, _, rfl⟩
/-- []write{x}: a row of one write. -/
theorem run_one_write (w : World) (x : PW) (hx : Good x) : (Instr.buildSlice 77 1 #[(0, .agg (wV x).toArray)]).run Try.prog w = .ok (.slice (some ⟨w.heap.size, 0, none⟩) 1 1) (w.alloc (.cells (wV x).toArray 112)) := by
  obtain ⟨i, h1, h2, h3, h4⟩ := write_info
  refine run_buildSlice w 77 112 1 _ (wV x).toArray i (.agg zeroV.toArray) Try.underlying77 h1 h2 (by rw [h3]; decide) (by rw [h3]; decide) ?_
  rw [h3]
  have h := Great.fill_whole (s := 513) (by omega) [.agg (wV x).toArray] ((Array.range (1 * 513)).map ((Value.agg zeroV.toArray).cells[· % (Value.agg zeroV.toArray).cells.size]!)) (by
    intro v hv
    obtain rfl := List.mem_singleton.1 hv
    show (wV x).toArray.size = 513
    rw [List.size_toArray, wV_len hx]) (by simp)
  rw [show (([Value.agg (wV x).toArray].zipIdx 0).map fun x => (x.2, x.1)) = [(0, Value.agg (wV x).toArray)] from rfl] at h
  rw [show ([Value.agg (wV x).toArray].flatMap fun v => v.cells.toList) = wV x from by show (wV x).toArray.toList ++ [] = wV x; simp] at h
  exact h
end Go.Proofs.Ythpepkfodcgbcaa
