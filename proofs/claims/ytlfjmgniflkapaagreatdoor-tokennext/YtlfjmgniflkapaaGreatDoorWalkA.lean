/- What the document's own Letter, Figure, digit, Utf8 and Number answer; nothing that was there is written. -/
import Derived.Test.YtlfjmgniflkapaaGreatDoorBase
set_option linter.unusedVariables false
set_option linter.unusedSimpArgs false
namespace Go.Proofs.YtlfjmgniflkapaaGreatDoor
open Go.RowKit

set_option maxHeartbeats 1000000 in
theorem rfigure_any (n : Nat) (w : World) :
    Calls Tryz.prog 61 #[.int .u8 (n : Int)] w fun e w' => e = .returned (.bool (figureN n)) ∧ w' = w := by
  rcases (by omega : (n < 48) ∨ (48 ≤ n ∧ n ≤ 57) ∨ (57 < n)) with h | h | h
  · have hv : figureN n = false := by simp [letterN, greatN, figureN]; omega
    rw [hv]
    clear hv
    have d0 : ¬ ((48 : Int) ≤ n) := by omega
    clear h
    go_enter Tryz.func61, Tryz.ntmps61
    go_wp2
    go_ret
    exact ⟨by first | rfl | (simp; omega), rfl⟩
  · have hv : figureN n = true := by simp [letterN, greatN, figureN]; omega
    rw [hv]
    clear hv
    have d0 : ((48 : Int) ≤ n) := by omega
    have d1 : ((n : Int) ≤ 57) := by omega
    clear h
    go_enter Tryz.func61, Tryz.ntmps61
    go_wp2
    go_ret
    exact ⟨by first | rfl | (simp; omega), rfl⟩
  · have hv : figureN n = false := by simp [letterN, greatN, figureN]; omega
    rw [hv]
    clear hv
    have d0 : ((48 : Int) ≤ n) := by omega
    have d1 : ¬ ((n : Int) ≤ 57) := by omega
    clear h
    go_enter Tryz.func61, Tryz.ntmps61
    go_wp2
    go_ret
    exact ⟨by first | rfl | (simp; omega), rfl⟩

set_option maxHeartbeats 1000000 in
theorem rletter_any (n : Nat) (w : World) :
    Calls Tryz.prog 29 #[.int .u8 (n : Int)] w fun e w' => e = .returned (.bool (letterN n)) ∧ w' = w := by
  rcases (by omega : (n < 65) ∨ (65 ≤ n ∧ n ≤ 90) ∨ (90 < n ∧ n < 97) ∨ (97 ≤ n ∧ n ≤ 122) ∨ (122 < n)) with h | h | h | h | h
  · have hv : letterN n = false := by simp [letterN, greatN, figureN]; omega
    rw [hv]
    clear hv
    have d0 : ¬ ((65 : Int) ≤ n) := by omega
    have d1 : ¬ ((97 : Int) ≤ n) := by omega
    clear h
    go_enter Tryz.func29, Tryz.ntmps29
    go_wp2
    go_ret
    exact ⟨by first | rfl | (simp; omega), rfl⟩
  · have hv : letterN n = true := by simp [letterN, greatN, figureN]; omega
    rw [hv]
    clear hv
    have d0 : ((65 : Int) ≤ n) := by omega
    have d1 : ((n : Int) ≤ 90) := by omega
    clear h
    go_enter Tryz.func29, Tryz.ntmps29
    go_wp2
    go_ret
    exact ⟨by first | rfl | (simp; omega), rfl⟩
  · have hv : letterN n = false := by simp [letterN, greatN, figureN]; omega
    rw [hv]
    clear hv
    have d0 : ((65 : Int) ≤ n) := by omega
    have d1 : ¬ ((n : Int) ≤ 90) := by omega
    have d2 : ¬ ((97 : Int) ≤ n) := by omega
    clear h
    go_enter Tryz.func29, Tryz.ntmps29
    go_wp2
    go_ret
    exact ⟨by first | rfl | (simp; omega), rfl⟩
  · have hv : letterN n = true := by simp [letterN, greatN, figureN]; omega
    rw [hv]
    clear hv
    have d0 : ((65 : Int) ≤ n) := by omega
    have d1 : ¬ ((n : Int) ≤ 90) := by omega
    have d2 : ((97 : Int) ≤ n) := by omega
    have d3 : ((n : Int) ≤ 122) := by omega
    clear h
    go_enter Tryz.func29, Tryz.ntmps29
    go_wp2
    go_ret
    exact ⟨by first | rfl | (simp; omega), rfl⟩
  · have hv : letterN n = false := by simp [letterN, greatN, figureN]; omega
    rw [hv]
    clear hv
    have d0 : ((65 : Int) ≤ n) := by omega
    have d1 : ¬ ((n : Int) ≤ 90) := by omega
    have d2 : ((97 : Int) ≤ n) := by omega
    have d3 : ¬ ((n : Int) ≤ 122) := by omega
    clear h
    go_enter Tryz.func29, Tryz.ntmps29
    go_wp2
    go_ret
    exact ⟨by first | rfl | (simp; omega), rfl⟩

set_option maxHeartbeats 2000000 in
theorem rdigit_any (n : Nat) (hn : n < 256) (base : Nat) (hb : 1 ≤ base) (hb2 : base ≤ 16) (w : World) :
    Calls Tryz.prog 75 #[.int .u8 (n : Int), .int .i64 (base : Int)] w fun e w' => e = .returned (.int .i64 (digitZ base n)) ∧ w' = w := by
  rw [digitZ_eq base n hn]
  rcases (by omega : (48 ≤ n ∧ n ≤ 57) ∨ (97 ≤ n ∧ n ≤ 102) ∨ (65 ≤ n ∧ n ≤ 70) ∨ (n < 48) ∨ (57 < n ∧ n < 65) ∨ (70 < n ∧ n < 97) ∨ (102 < n)) with h | h | h | h | h | h | h
  · have hv : rawZ n = (n : Int) - 48 := by unfold rawZ; (repeat' split) <;> omega
    rw [hv]
    clear hv
    have d0 : (48 : Int) ≤ n := by omega
    have d1 : (n : Int) ≤ 57 := by omega
    clear h
    by_cases hg : (base : Int) ≤ (n : Int) - 48
    · rw [if_pos hg]
      go_enter Tryz.func75, Tryz.ntmps75
      go_wp2
      go_ret
      exact ⟨rfl, rfl⟩
    · rw [if_neg hg]
      go_enter Tryz.func75, Tryz.ntmps75
      go_wp2
      go_ret
      exact ⟨rfl, rfl⟩
  · have hv : rawZ n = (n : Int) - 97 + 10 := by unfold rawZ; (repeat' split) <;> omega
    rw [hv]
    clear hv
    have d0 : (48 : Int) ≤ n := by omega
    have d1 : ¬ (n : Int) ≤ 57 := by omega
    have d2 : (97 : Int) ≤ n := by omega
    have d3 : (n : Int) ≤ 102 := by omega
    clear h
    by_cases hg : (base : Int) ≤ (n : Int) - 97 + 10
    · rw [if_pos hg]
      go_enter Tryz.func75, Tryz.ntmps75
      go_wp2
      go_ret
      exact ⟨rfl, rfl⟩
    · rw [if_neg hg]
      go_enter Tryz.func75, Tryz.ntmps75
      go_wp2
      go_ret
      exact ⟨rfl, rfl⟩
  · have hv : rawZ n = (n : Int) - 65 + 10 := by unfold rawZ; (repeat' split) <;> omega
    rw [hv]
    clear hv
    have d0 : (48 : Int) ≤ n := by omega
    have d1 : ¬ (n : Int) ≤ 57 := by omega
    have d2 : ¬ (97 : Int) ≤ n := by omega
    have d3 : (65 : Int) ≤ n := by omega
    have d4 : (n : Int) ≤ 70 := by omega
    clear h
    by_cases hg : (base : Int) ≤ (n : Int) - 65 + 10
    · rw [if_pos hg]
      go_enter Tryz.func75, Tryz.ntmps75
      go_wp2
      go_ret
      exact ⟨rfl, rfl⟩
    · rw [if_neg hg]
      go_enter Tryz.func75, Tryz.ntmps75
      go_wp2
      go_ret
      exact ⟨rfl, rfl⟩
  · have hv : rawZ n = -1 := by unfold rawZ; (repeat' split) <;> omega
    rw [hv]
    clear hv
    have d0 : ¬ (48 : Int) ≤ n := by omega
    have d1 : ¬ (97 : Int) ≤ n := by omega
    have d2 : ¬ (65 : Int) ≤ n := by omega
    clear h
    have hg : ¬ (base : Int) ≤ -1 := by omega
    rw [if_neg hg]
    go_enter Tryz.func75, Tryz.ntmps75
    go_wp2
    go_ret
    exact ⟨rfl, rfl⟩
  · have hv : rawZ n = -1 := by unfold rawZ; (repeat' split) <;> omega
    rw [hv]
    clear hv
    have d0 : (48 : Int) ≤ n := by omega
    have d1 : ¬ (n : Int) ≤ 57 := by omega
    have d2 : ¬ (97 : Int) ≤ n := by omega
    have d3 : ¬ (65 : Int) ≤ n := by omega
    clear h
    have hg : ¬ (base : Int) ≤ -1 := by omega
    rw [if_neg hg]
    go_enter Tryz.func75, Tryz.ntmps75
    go_wp2
    go_ret
    exact ⟨rfl, rfl⟩
  · have hv : rawZ n = -1 := by unfold rawZ; (repeat' split) <;> omega
    rw [hv]
    clear hv
    have d0 : (48 : Int) ≤ n := by omega
    have d1 : ¬ (n : Int) ≤ 57 := by omega
    have d2 : ¬ (97 : Int) ≤ n := by omega
    have d3 : (65 : Int) ≤ n := by omega
    have d4 : ¬ (n : Int) ≤ 70 := by omega
    clear h
    have hg : ¬ (base : Int) ≤ -1 := by omega
    rw [if_neg hg]
    go_enter Tryz.func75, Tryz.ntmps75
    go_wp2
    go_ret
    exact ⟨rfl, rfl⟩
  · have hv : rawZ n = -1 := by unfold rawZ; (repeat' split) <;> omega
    rw [hv]
    clear hv
    have d0 : (48 : Int) ≤ n := by omega
    have d1 : ¬ (n : Int) ≤ 57 := by omega
    have d2 : (97 : Int) ≤ n := by omega
    have d3 : ¬ (n : Int) ≤ 102 := by omega
    have d4 : (65 : Int) ≤ n := by omega
    have d5 : ¬ (n : Int) ≤ 70 := by omega
    clear h
    have hg : ¬ (base : Int) ≤ -1 := by omega
    rw [if_neg hg]
    go_enter Tryz.func75, Tryz.ntmps75
    go_wp2
    go_ret
    exact ⟨rfl, rfl⟩

/-- Bytes that were just written out, as a text. -/
theorem conv_ints (W : World) (zs : List Int) (hz : ∀ z ∈ zs, 0 ≤ z ∧ z < 256) : (convert 54 9 (.slice (some ⟨W.heap.size, 0, none⟩) zs.length zs.length)).run Tryz.prog (W.alloc (.cells (zs.map (Value.int .u8)).toArray 5)) = .ok (.string ⟨(zs.map fun x => x.toNat.toUInt8).toArray⟩) (W.alloc (.cells (zs.map (Value.int .u8)).toArray 5)) := by
  have h := run_convert_bytes_back (P := Tryz.prog) (W.alloc (.cells (zs.map (Value.int .u8)).toArray 5)) 54 9 5 ⟨W.heap.size, 0, none⟩ zs.length (zs.map fun x => x.toNat.toUInt8) Tryz.underlying54 Tryz.underlying5 Tryz.underlying9 (by
    intro j hj
    have hj2 : j < zs.length := by rw [List.length_map] at hj; exact hj
    have hr := hz zs[j] (List.getElem_mem hj2)
    have e1 : (zs.map fun x => x.toNat.toUInt8)[j] = (zs[j]).toNat.toUInt8 := by simp
    have e2 : ((zs[j]).toNat.toUInt8.toNat : Int) = zs[j] := by
      show ((UInt8.ofNat (zs[j]).toNat).toNat : Int) = _
      rw [UInt8.toNat_ofNat']
      omega
    rw [addr_add, e1, e2, World.cell?_alloc_mark]
    simp [hj2])
  rw [List.length_map] at h
  exact h

set_option maxHeartbeats 2000000 in
theorem rutf8_any (n : Nat) (hn : n ≤ 1114111) (hs : ¬ (55296 ≤ n ∧ n ≤ 57343)) (w : World) :
    Calls Tryz.prog 78 #[.int .i64 (n : Int)] w fun e w' => e = .returned (.string ⟨(Lib.encodeRune (n : Int)).toArray⟩) ∧ Below w.heap.size w w' := by
  have hcv : ∀ W : World, (convert 54 9 (.slice (some ⟨W.heap.size, 0, none⟩) (Lib.encodeRuneZ (n : Int)).length (Lib.encodeRuneZ (n : Int)).length)).run Tryz.prog (W.alloc (.cells ((Lib.encodeRuneZ (n : Int)).map (Value.int .u8)).toArray 5)) = .ok (.string ⟨(Lib.encodeRune (n : Int)).toArray⟩) (W.alloc (.cells ((Lib.encodeRuneZ (n : Int)).map (Value.int .u8)).toArray 5)) := fun W => conv_ints W _ (Lib.encodeRuneZ_byte _)
  rcases (by omega : n < 128 ∨ (128 ≤ n ∧ n < 2048) ∨ (2048 ≤ n ∧ n < 65536) ∨ 65536 ≤ n) with h | h | h | h
  · rw [Lib.encodeRuneZ_one (r := (n : Int)) (by omega) (by omega)] at hcv
    generalize Lib.encodeRune (n : Int) = R at *
    simp only [List.map_cons, List.map_nil, List.length_cons, List.length_nil, Nat.zero_add, Nat.reduceAdd] at hcv
    have d0 : (n : Int) < 128 := by omega
    go_enter Tryz.func78, Tryz.ntmps78
    go_wp2
    go_ret
    exact ⟨rfl, below_alloc w _⟩
  · rw [Lib.encodeRuneZ_two (r := (n : Int)) (by omega) (by omega)] at hcv
    generalize Lib.encodeRune (n : Int) = R at *
    simp only [List.map_cons, List.map_nil, List.length_cons, List.length_nil, Nat.zero_add, Nat.reduceAdd] at hcv
    have d0 : ¬ (n : Int) < 128 := by omega
    have d1 : (n : Int) < 2048 := by omega
    go_enter Tryz.func78, Tryz.ntmps78
    go_wp2
    go_ret
    exact ⟨rfl, below_alloc w _⟩
  · rw [Lib.encodeRuneZ_three (r := (n : Int)) (by omega)] at hcv
    generalize Lib.encodeRune (n : Int) = R at *
    simp only [List.map_cons, List.map_nil, List.length_cons, List.length_nil, Nat.zero_add, Nat.reduceAdd] at hcv
    have d0 : ¬ (n : Int) < 128 := by omega
    have d1 : ¬ (n : Int) < 2048 := by omega
    have d2 : (n : Int) < 65536 := by omega
    go_enter Tryz.func78, Tryz.ntmps78
    go_wp2
    go_ret
    exact ⟨rfl, below_alloc w _⟩
  · rw [Lib.encodeRuneZ_four (r := (n : Int)) (by omega) (by omega)] at hcv
    generalize Lib.encodeRune (n : Int) = R at *
    simp only [List.map_cons, List.map_nil, List.length_cons, List.length_nil, Nat.zero_add, Nat.reduceAdd] at hcv
    have d0 : ¬ (n : Int) < 128 := by omega
    have d1 : ¬ (n : Int) < 2048 := by omega
    have d2 : ¬ (n : Int) < 65536 := by omega
    go_enter Tryz.func78, Tryz.ntmps78
    go_wp2
    go_ret
    exact ⟨rfl, below_alloc w _⟩

def oldCells : Array Value := (oldN.map fun (c : Nat) => Value.int .i64 (c : Int)).toArray
def oldParts : List (Nat × Value) := [(0, .int .i64 8364), (1, .int .i64 129), (2, .int .i64 8218), (3, .int .i64 402), (4, .int .i64 8222), (5, .int .i64 8230), (6, .int .i64 8224), (7, .int .i64 8225), (8, .int .i64 710), (9, .int .i64 8240), (10, .int .i64 352), (11, .int .i64 8249), (12, .int .i64 338), (13, .int .i64 141), (14, .int .i64 381), (15, .int .i64 143), (16, .int .i64 144), (17, .int .i64 8216), (18, .int .i64 8217), (19, .int .i64 8220), (20, .int .i64 8221), (21, .int .i64 8226), (22, .int .i64 8211), (23, .int .i64 8212), (24, .int .i64 732), (25, .int .i64 8482), (26, .int .i64 353), (27, .int .i64 8250), (28, .int .i64 339), (29, .int .i64 157), (30, .int .i64 382), (31, .int .i64 376)]
theorem old_run (w : World) : (Instr.buildSlice 106 32 oldParts.toArray).run Tryz.prog w = .ok (.slice (some ⟨w.heap.size, 0, none⟩) 32 32) (w.alloc (.cells oldCells 3)) := by kernel_rfl
theorem old_cell (w : World) (j : Nat) (hj : j < 32) : (w.alloc (.cells oldCells 3)).cell? ⟨w.heap.size, j, none⟩ = some (.int .i64 (oldN.getD j 0 : Nat)) := by
  rw [World.cell?_alloc_mark]
  have hl : j < oldN.length := hj
  unfold oldCells
  simp [List.getElem?_map, List.getElem?_eq_getElem hl, List.getD_eq_getElem?_getD]
set_option maxHeartbeats 2000000 in
theorem rold_any (n : Nat) (h1 : 128 ≤ n) (h2 : n ≤ 159) (w : World) :
    Calls Tryz.prog 93 #[.int .i64 (n : Int)] w fun e w' => e = .returned (.int .i64 (oldN.getD (n - 128) 0 : Nat)) ∧ Below w.heap.size w w' := by
  have hc := old_cell w (n - 128) (by omega)
  have hb := below_alloc w (.cells oldCells 3)
  have hr := old_run w
  generalize w.alloc (.cells oldCells 3) = W at *
  generalize oldN.getD (n - 128) 0 = R at *
  have HR := hide hr
  clear hr
  have d1 : (128 : Int) ≤ n := by omega
  have d2 : (n : Int) ≤ 159 := by omega
  obtain ⟨k, rfl⟩ : ∃ k, n = k + 128 := ⟨n - 128, by omega⟩
  rw [Nat.add_sub_cancel] at hc
  go_enter Tryz.func93, Tryz.ntmps93
  go_wp2_with (with_reducible refine wpList_build_run rfl 106 32 _ rfl oldParts ?_ _ W HR.out ?_)
  · rfl
  go_ret
  exact ⟨rfl, hb⟩

set_option maxHeartbeats 2000000 in
theorem rnumber_any (n : Int) (w : World) :
    Calls Tryz.prog 76 #[.int .i64 n] w fun e w' => e = .returned (.string ⟨(numberL n).toArray⟩) ∧ Below w.heap.size w w' := by
  have hbad : ∀ w, Calls Tryz.prog 78 #[.int .i64 65533] w fun e w' => e = .returned (.string ⟨(Lib.encodeRune 65533).toArray⟩) ∧ Below w.heap.size w w' := rutf8_any 65533 (by omega) (by omega)
  have HB := hide hbad
  clear hbad
  rcases (by omega : n ≤ 0 ∨ 1114111 < n ∨ (55296 ≤ n ∧ n ≤ 57343) ∨ (128 ≤ n ∧ n ≤ 159) ∨ (0 < n ∧ n < 128) ∨ (159 < n ∧ n < 55296) ∨ (57343 < n ∧ n ≤ 1114111)) with h | h | h | h | h | h | h
  · have hv : numberL n = Lib.encodeRune 65533 := by unfold numberL cpN; rw [if_pos (by omega)]
    rw [hv]
    clear hv
    generalize Lib.encodeRune 65533 = R at *
    have d0 : n ≤ 0 := by omega
    clear h
    go_enter Tryz.func76, Tryz.ntmps76
    go_wp2_with fail
    refine (HB.out _).mono ?_
    rintro e w1 ⟨rfl, b1⟩
    go_wp2
    go_ret
    exact ⟨rfl, b1⟩
  · have hv : numberL n = Lib.encodeRune 65533 := by unfold numberL cpN; rw [if_pos (by omega)]
    rw [hv]
    clear hv
    generalize Lib.encodeRune 65533 = R at *
    have d0 : ¬ (n ≤ 0) := by omega
    have d1 : 1114111 < n := by omega
    clear h
    go_enter Tryz.func76, Tryz.ntmps76
    go_wp2_with fail
    refine (HB.out _).mono ?_
    rintro e w1 ⟨rfl, b1⟩
    go_wp2
    go_ret
    exact ⟨rfl, b1⟩
  · have hv : numberL n = Lib.encodeRune 65533 := by unfold numberL cpN; rw [if_pos (by omega)]
    rw [hv]
    clear hv
    generalize Lib.encodeRune 65533 = R at *
    have d0 : ¬ (n ≤ 0) := by omega
    have d1 : ¬ (1114111 < n) := by omega
    have d2 : 55296 ≤ n := by omega
    have d3 : n ≤ 57343 := by omega
    clear h
    go_enter Tryz.func76, Tryz.ntmps76
    go_wp2_with fail
    refine (HB.out _).mono ?_
    rintro e w1 ⟨rfl, b1⟩
    go_wp2
    go_ret
    exact ⟨rfl, b1⟩
  · obtain ⟨m, rfl⟩ : ∃ m : Nat, n = (m : Int) := ⟨n.toNat, by omega⟩
    have hv : numberL (m : Int) = Lib.encodeRune ((oldN.getD (m - 128) 0 : Nat) : Int) := by
      unfold numberL cpN
      rw [if_neg (by omega), if_pos (by omega), show ((m : Int) - 128).toNat = m - 128 by omega]
    have hr := old_range (m - 128) (by omega)
    rw [hv]
    have HO := hide (rold_any m (by omega) (by omega))
    have HU := hide (rutf8_any _ hr.1 hr.2)
    clear hv hr
    generalize oldN.getD (m - 128) 0 = c at *
    generalize Lib.encodeRune (c : Int) = R at *
    have d0 : ¬ ((m : Int) ≤ 0) := by omega
    have d1 : ¬ (1114111 < (m : Int)) := by omega
    have d2 : ¬ (55296 ≤ (m : Int)) := by omega
    have d3 : 128 ≤ (m : Int) := by omega
    have d4 : (m : Int) ≤ 159 := by omega
    clear h
    go_enter Tryz.func76, Tryz.ntmps76
    go_wp2_with fail
    refine (HO.out _).mono ?_
    rintro e w1 ⟨rfl, b1⟩
    go_wp2_with fail
    refine (HU.out _).mono ?_
    rintro e w2 ⟨rfl, b2⟩
    go_wp2
    go_ret
    exact ⟨rfl, b1.trans (b2.mono b1.size)⟩
  · obtain ⟨m, rfl⟩ : ∃ m : Nat, n = (m : Int) := ⟨n.toNat, by omega⟩
    have hv : numberL (m : Int) = Lib.encodeRune (m : Int) := by
      unfold numberL cpN
      rw [if_neg (by omega), if_neg (by omega)]
    rw [hv]
    have HU := hide (rutf8_any m (by omega) (by omega))
    clear hv
    generalize Lib.encodeRune (m : Int) = R at *
    have d0 : ¬ ((m : Int) ≤ 0) := by omega
    have d1 : ¬ (1114111 < (m : Int)) := by omega
    have d2 : ¬ (55296 ≤ (m : Int)) := by omega
    have d3 : ¬ (128 ≤ (m : Int)) := by omega
    clear h
    go_enter Tryz.func76, Tryz.ntmps76
    go_wp2_with fail
    refine (HU.out _).mono ?_
    rintro e w1 ⟨rfl, b1⟩
    go_wp2
    go_ret
    exact ⟨rfl, b1⟩
  · obtain ⟨m, rfl⟩ : ∃ m : Nat, n = (m : Int) := ⟨n.toNat, by omega⟩
    have hv : numberL (m : Int) = Lib.encodeRune (m : Int) := by
      unfold numberL cpN
      rw [if_neg (by omega), if_neg (by omega)]
    rw [hv]
    have HU := hide (rutf8_any m (by omega) (by omega))
    clear hv
    generalize Lib.encodeRune (m : Int) = R at *
    have d0 : ¬ ((m : Int) ≤ 0) := by omega
    have d1 : ¬ (1114111 < (m : Int)) := by omega
    have d2 : ¬ (55296 ≤ (m : Int)) := by omega
    have d3 : 128 ≤ (m : Int) := by omega
    have d4 : ¬ ((m : Int) ≤ 159) := by omega
    clear h
    go_enter Tryz.func76, Tryz.ntmps76
    go_wp2_with fail
    refine (HU.out _).mono ?_
    rintro e w1 ⟨rfl, b1⟩
    go_wp2
    go_ret
    exact ⟨rfl, b1⟩
  · obtain ⟨m, rfl⟩ : ∃ m : Nat, n = (m : Int) := ⟨n.toNat, by omega⟩
    have hv : numberL (m : Int) = Lib.encodeRune (m : Int) := by
      unfold numberL cpN
      rw [if_neg (by omega), if_neg (by omega)]
    rw [hv]
    have HU := hide (rutf8_any m (by omega) (by omega))
    clear hv
    generalize Lib.encodeRune (m : Int) = R at *
    have d0 : ¬ ((m : Int) ≤ 0) := by omega
    have d1 : ¬ (1114111 < (m : Int)) := by omega
    have d2 : 55296 ≤ (m : Int) := by omega
    have d3 : ¬ ((m : Int) ≤ 57343) := by omega
    have d4 : 128 ≤ (m : Int) := by omega
    have d5 : ¬ ((m : Int) ≤ 159) := by omega
    clear h
    go_enter Tryz.func76, Tryz.ntmps76
    go_wp2_with fail
    refine (HU.out _).mono ?_
    rintro e w1 ⟨rfl, b1⟩
    go_wp2
    go_ret
    exact ⟨rfl, b1⟩
end Go.Proofs.YtlfjmgniflkapaaGreatDoor
