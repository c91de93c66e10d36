/- Bytes, and texts in small letters: the program's and the document's own; nothing that was there is written. -/
import Derived.Test.YthopnliaikkhbaaGreatDoorPl10
import Derived.Test.YthopnliaikkhbaaGreatDoorProg
import Derived.WalkKit
import Derived.WalkSpells
import Derived.WalkLawsBesides
import Derived.Lib.IndexBytes
import Derived.Lib.ConvBytes
import Derived.Lib.RuneBytes
import Derived.Laws.IdiomStrings
import Derived.Laws.AppendOwn
import Derived.Below
set_option linter.unusedVariables false
set_option linter.unusedSimpArgs false
set_option maxRecDepth 4000
namespace Go.Proofs.YthopnliaikkhbaaGreatDoor
open Go.RowKit

theorem hide {p : Prop} (h : p) : Hid p := h
theorem ret_bool {a b : Bool} (h : a = b) : Ending.returned (.bool a) = .returned (.bool b) := by rw [h]
theorem ret_str {a b : List UInt8} (h : a = b) : Ending.returned (.string ⟨a.toArray⟩) = .returned (.string ⟨b.toArray⟩) := by rw [h]
theorem ret_int {k : IntKind} {a b : Int} (h : a = b) : Ending.returned (.int k a) = .returned (.int k b) := by rw [h]
theorem ne_lit (n : Nat) (k : Int) (h : (n : Int) ≠ k) : ((n : Int) == k) = false := beq_eq_false_iff_ne.2 h
set_option maxHeartbeats 1000000 in
theorem great_any (n : Nat) (w : World) :
    Calls Tryz.prog 100 #[.int .u8 (n : Int)] w fun e w' => e = .returned (.bool (greatN n)) ∧ w' = w := by
  rcases (by omega : (n < 65) ∨ (65 ≤ n ∧ n ≤ 90) ∨ (90 < n)) with h | h | h
  · have hv : greatN n = false := by simp [letterN, greatN, figureN]; omega
    rw [hv]
    clear hv
    have d0 : ¬ ((65 : Int) ≤ n) := by omega
    clear h
    go_enter Tryz.func100, Tryz.ntmps100
    go_wp2
    go_ret
    exact ⟨by first | rfl | (simp; omega), rfl⟩
  · have hv : greatN n = true := by simp [letterN, greatN, figureN]; omega
    rw [hv]
    clear hv
    have d0 : ((65 : Int) ≤ n) := by omega
    have d1 : ((n : Int) ≤ 90) := by omega
    clear h
    go_enter Tryz.func100, Tryz.ntmps100
    go_wp2
    go_ret
    exact ⟨by first | rfl | (simp; omega), rfl⟩
  · have hv : greatN n = false := by simp [letterN, greatN, figureN]; omega
    rw [hv]
    clear hv
    have d0 : ((65 : Int) ≤ n) := by omega
    have d1 : ¬ ((n : Int) ≤ 90) := by omega
    clear h
    go_enter Tryz.func100, Tryz.ntmps100
    go_wp2
    go_ret
    exact ⟨by first | rfl | (simp; omega), rfl⟩
set_option maxHeartbeats 1000000 in
theorem figure_any (n : Nat) (w : World) :
    Calls Tryz.prog 80 #[.int .u8 (n : Int)] w fun e w' => e = .returned (.bool (figureN n)) ∧ w' = w := by
  rcases (by omega : (n < 48) ∨ (48 ≤ n ∧ n ≤ 57) ∨ (57 < n)) with h | h | h
  · have hv : figureN n = false := by simp [letterN, greatN, figureN]; omega
    rw [hv]
    clear hv
    have d0 : ¬ ((48 : Int) ≤ n) := by omega
    clear h
    go_enter Tryz.func80, Tryz.ntmps80
    go_wp2
    go_ret
    exact ⟨by first | rfl | (simp; omega), rfl⟩
  · have hv : figureN n = true := by simp [letterN, greatN, figureN]; omega
    rw [hv]
    clear hv
    have d0 : ((48 : Int) ≤ n) := by omega
    have d1 : ((n : Int) ≤ 57) := by omega
    clear h
    go_enter Tryz.func80, Tryz.ntmps80
    go_wp2
    go_ret
    exact ⟨by first | rfl | (simp; omega), rfl⟩
  · have hv : figureN n = false := by simp [letterN, greatN, figureN]; omega
    rw [hv]
    clear hv
    have d0 : ((48 : Int) ≤ n) := by omega
    have d1 : ¬ ((n : Int) ≤ 57) := by omega
    clear h
    go_enter Tryz.func80, Tryz.ntmps80
    go_wp2
    go_ret
    exact ⟨by first | rfl | (simp; omega), rfl⟩
set_option maxHeartbeats 1000000 in
theorem rfigure_any (n : Nat) (w : World) :
    Calls Tryz.prog 57 #[.int .u8 (n : Int)] w fun e w' => e = .returned (.bool (figureN n)) ∧ w' = w := by
  rcases (by omega : (n < 48) ∨ (48 ≤ n ∧ n ≤ 57) ∨ (57 < n)) with h | h | h
  · have hv : figureN n = false := by simp [letterN, greatN, figureN]; omega
    rw [hv]
    clear hv
    have d0 : ¬ ((48 : Int) ≤ n) := by omega
    clear h
    go_enter Tryz.func57, Tryz.ntmps57
    go_wp2
    go_ret
    exact ⟨by first | rfl | (simp; omega), rfl⟩
  · have hv : figureN n = true := by simp [letterN, greatN, figureN]; omega
    rw [hv]
    clear hv
    have d0 : ((48 : Int) ≤ n) := by omega
    have d1 : ((n : Int) ≤ 57) := by omega
    clear h
    go_enter Tryz.func57, Tryz.ntmps57
    go_wp2
    go_ret
    exact ⟨by first | rfl | (simp; omega), rfl⟩
  · have hv : figureN n = false := by simp [letterN, greatN, figureN]; omega
    rw [hv]
    clear hv
    have d0 : ((48 : Int) ≤ n) := by omega
    have d1 : ¬ ((n : Int) ≤ 57) := by omega
    clear h
    go_enter Tryz.func57, Tryz.ntmps57
    go_wp2
    go_ret
    exact ⟨by first | rfl | (simp; omega), rfl⟩
set_option maxHeartbeats 1000000 in
theorem letter_any (n : Nat) (w : World) :
    Calls Tryz.prog 101 #[.int .u8 (n : Int)] w fun e w' => e = .returned (.bool (letterN n)) ∧ w' = w := by
  rcases (by omega : (n < 65) ∨ (65 ≤ n ∧ n ≤ 90) ∨ (90 < n ∧ n < 97) ∨ (97 ≤ n ∧ n ≤ 122) ∨ (122 < n)) with h | h | h | h | h
  · have hv : letterN n = false := by simp [letterN, greatN, figureN]; omega
    rw [hv]
    clear hv
    have d0 : ¬ ((97 : Int) ≤ n) := by omega
    have hg : greatN n = false := by simp [greatN]; omega
    have H := hide (great_any n)
    rw [hg] at H
    clear hg
    clear h
    go_enter Tryz.func101, Tryz.ntmps101
    go_wp2_with fail
    refine (H.out _).mono ?_
    rintro e w1 ⟨rfl, rfl⟩
    go_wp2
    go_ret
    exact ⟨by first | rfl | (simp; omega), rfl⟩
  · have hv : letterN n = true := by simp [letterN, greatN, figureN]; omega
    rw [hv]
    clear hv
    have hg : greatN n = true := by simp [greatN]; omega
    have H := hide (great_any n)
    rw [hg] at H
    clear hg
    clear h
    go_enter Tryz.func101, Tryz.ntmps101
    go_wp2_with fail
    refine (H.out _).mono ?_
    rintro e w1 ⟨rfl, rfl⟩
    go_wp2
    go_ret
    exact ⟨by first | rfl | (simp; omega), rfl⟩
  · have hv : letterN n = false := by simp [letterN, greatN, figureN]; omega
    rw [hv]
    clear hv
    have d0 : ¬ ((97 : Int) ≤ n) := by omega
    have hg : greatN n = false := by simp [greatN]; omega
    have H := hide (great_any n)
    rw [hg] at H
    clear hg
    clear h
    go_enter Tryz.func101, Tryz.ntmps101
    go_wp2_with fail
    refine (H.out _).mono ?_
    rintro e w1 ⟨rfl, rfl⟩
    go_wp2
    go_ret
    exact ⟨by first | rfl | (simp; omega), rfl⟩
  · have hv : letterN n = true := by simp [letterN, greatN, figureN]; omega
    rw [hv]
    clear hv
    have d0 : ((97 : Int) ≤ n) := by omega
    have d1 : ((n : Int) ≤ 122) := by omega
    have hg : greatN n = false := by simp [greatN]; omega
    have H := hide (great_any n)
    rw [hg] at H
    clear hg
    clear h
    go_enter Tryz.func101, Tryz.ntmps101
    go_wp2_with fail
    refine (H.out _).mono ?_
    rintro e w1 ⟨rfl, rfl⟩
    go_wp2
    go_ret
    exact ⟨by first | rfl | (simp; omega), rfl⟩
  · have hv : letterN n = false := by simp [letterN, greatN, figureN]; omega
    rw [hv]
    clear hv
    have d0 : ((97 : Int) ≤ n) := by omega
    have d1 : ¬ ((n : Int) ≤ 122) := by omega
    have hg : greatN n = false := by simp [greatN]; omega
    have H := hide (great_any n)
    rw [hg] at H
    clear hg
    clear h
    go_enter Tryz.func101, Tryz.ntmps101
    go_wp2_with fail
    refine (H.out _).mono ?_
    rintro e w1 ⟨rfl, rfl⟩
    go_wp2
    go_ret
    exact ⟨by first | rfl | (simp; omega), rfl⟩
set_option maxHeartbeats 1000000 in
theorem rletter_any (n : Nat) (w : World) :
    Calls Tryz.prog 96 #[.int .u8 (n : Int)] w fun e w' => e = .returned (.bool (letterN n)) ∧ w' = w := by
  rcases (by omega : (n < 65) ∨ (65 ≤ n ∧ n ≤ 90) ∨ (90 < n ∧ n < 97) ∨ (97 ≤ n ∧ n ≤ 122) ∨ (122 < n)) with h | h | h | h | h
  · have hv : letterN n = false := by simp [letterN, greatN, figureN]; omega
    rw [hv]
    clear hv
    have d0 : ¬ ((65 : Int) ≤ n) := by omega
    have d1 : ¬ ((97 : Int) ≤ n) := by omega
    clear h
    go_enter Tryz.func96, Tryz.ntmps96
    go_wp2
    go_ret
    exact ⟨by first | rfl | (simp; omega), rfl⟩
  · have hv : letterN n = true := by simp [letterN, greatN, figureN]; omega
    rw [hv]
    clear hv
    have d0 : ((65 : Int) ≤ n) := by omega
    have d1 : ((n : Int) ≤ 90) := by omega
    clear h
    go_enter Tryz.func96, Tryz.ntmps96
    go_wp2
    go_ret
    exact ⟨by first | rfl | (simp; omega), rfl⟩
  · have hv : letterN n = false := by simp [letterN, greatN, figureN]; omega
    rw [hv]
    clear hv
    have d0 : ((65 : Int) ≤ n) := by omega
    have d1 : ¬ ((n : Int) ≤ 90) := by omega
    have d2 : ¬ ((97 : Int) ≤ n) := by omega
    clear h
    go_enter Tryz.func96, Tryz.ntmps96
    go_wp2
    go_ret
    exact ⟨by first | rfl | (simp; omega), rfl⟩
  · have hv : letterN n = true := by simp [letterN, greatN, figureN]; omega
    rw [hv]
    clear hv
    have d0 : ((65 : Int) ≤ n) := by omega
    have d1 : ¬ ((n : Int) ≤ 90) := by omega
    have d2 : ((97 : Int) ≤ n) := by omega
    have d3 : ((n : Int) ≤ 122) := by omega
    clear h
    go_enter Tryz.func96, Tryz.ntmps96
    go_wp2
    go_ret
    exact ⟨by first | rfl | (simp; omega), rfl⟩
  · have hv : letterN n = false := by simp [letterN, greatN, figureN]; omega
    rw [hv]
    clear hv
    have d0 : ((65 : Int) ≤ n) := by omega
    have d1 : ¬ ((n : Int) ≤ 90) := by omega
    have d2 : ((97 : Int) ≤ n) := by omega
    have d3 : ¬ ((n : Int) ≤ 122) := by omega
    clear h
    go_enter Tryz.func96, Tryz.ntmps96
    go_wp2
    go_ret
    exact ⟨by first | rfl | (simp; omega), rfl⟩
theorem str_data (l : List UInt8) : (⟨l.toArray⟩ : ByteArray).data.toList = l := by simp
theorem size_list (s : ByteArray) : s.size = s.data.toList.length := by
  rw [Array.length_toList]; rfl
theorem str_eq (n : ByteArray) (o : List UInt8) : (n.toList == o) = (n.data.toList == o) := by
  rw [Lib.toList_data]
theorem among_step (l : List (List UInt8)) (n : List UInt8) (k : Nat) (h : k < l.length) : amongL (l.drop k) n = (n == l[k] || amongL (l.drop (k + 1)) n) := by
  rw [List.drop_eq_getElem_cons h]; rfl
theorem among_end (l : List (List UInt8)) (n : List UInt8) (k : Nat) (h : l.length ≤ k) : amongL (l.drop k) n = false := by
  rw [List.drop_eq_nil_of_le h]; rfl
theorem cell_lt {w : World} {a : Addr} {v : Value} (h : w.cell? a = some v) : a.block < w.heap.size := World.block_lt_of_cell? w a h
theorem drop_cons (s : ByteArray) (k : Nat) (h : k < s.size) : s.data.toList.drop k = s[k] :: s.data.toList.drop (k + 1) := by
  have h2 : k < s.data.toList.length := by rw [← size_list]; exact h
  rw [List.drop_eq_getElem_cons h2]
  rfl
/-- Behind k rounds: a byte ahead of k is the small one. -/
def midB (k j : Nat) (c : UInt8) : UInt8 := if j < k then low c else c
/-- The row at this block holds the text's bytes, those ahead of k as small ones. -/
def RowLow (W : World) (b k : Nat) (l : List UInt8) : Prop := ∀ j (hj : j < l.length), W.cell? ⟨b, j, none⟩ = some (.int .u8 ((midB k j l[j]).toNat : Int)) ∧ W.frozen? ⟨b, j, none⟩ = false
theorem RowLow.skip {W : World} {b k : Nat} {l : List UInt8} (h : RowLow W b k l) (hk : k < l.length) (hg : greatN l[k].toNat = false) : RowLow W b (k + 1) l := by
  intro j hj
  rw [(h j hj).1]
  refine ⟨?_, (h j hj).2⟩
  by_cases e : j = k
  · subst e
    unfold midB
    rw [if_neg (by omega), if_pos (by omega)]
    have : low l[j] = l[j] := by
      unfold low isGreat
      rw [hg]; rfl
    rw [this]
  · unfold midB
    by_cases h2 : j < k
    · rw [if_pos h2, if_pos (by omega)]
    · rw [if_neg h2, if_neg (by omega)]
theorem RowLow.put {W : World} {b k : Nat} {l : List UInt8} (h : RowLow W b k l) (hk : k < l.length) (z : Int) (hz : z = (low l[k]).toNat) : RowLow (W.setCell ⟨b, k, none⟩ (.int .u8 z)) b (k + 1) l := by
  intro j hj
  rw [World.frozen?_setCell]
  refine ⟨?_, (h j hj).2⟩
  by_cases e : j = k
  · subst e
    rw [World.cell?_setCell_same W _ _ (h j hj).1]
    unfold midB
    rw [if_pos (by omega), hz]
  · rw [World.cell?_setCell_other W _ _ _ (by intro he; injection he; omega), (h j hj).1]
    unfold midB
    by_cases h2 : j < k
    · rw [if_pos h2, if_pos (by omega)]
    · rw [if_neg h2, if_neg (by omega)]
theorem low_great (c : UInt8) (h : greatN c.toNat = true) : 65 ≤ c.toNat ∧ c.toNat ≤ 90 ∧ (low c).toNat = c.toNat + 32 := by
  have h2 := h
  simp [greatN] at h2
  refine ⟨h2.1, h2.2, ?_⟩
  unfold low isGreat
  rw [h, if_pos rfl, UInt8.toNat_add]
  show (c.toNat + 32) % 256 = _
  omega
/-- []byte(s). -/
theorem conv_string (w : World) (s : ByteArray) : ∃ cap W, (convert 9 104 (.string s)).run Tryz.prog w = .ok (.slice (some ⟨w.heap.size, 0, none⟩) s.size cap) W ∧ RowLow W w.heap.size 0 s.data.toList ∧ Below w.heap.size w W := by
  refine ⟨_, _, Lib.run_convert_string_bytes w 9 104 5 s Tryz.underlying9 Tryz.underlying104 Tryz.underlying5, ?_, ?_⟩
  · intro j hj
    have hj2 : j < s.size := by rw [size_list]; exact hj
    have := Lib.bytesWorld_cell w 5 s j hj2
    refine ⟨?_, ?_⟩
    · rw [this, List.getD_eq_getElem?_getD, List.getElem?_eq_getElem hj]
      unfold midB
      rw [if_neg (by omega)]
      rfl
    · unfold World.frozen?
      show (match (Lib.bytesWorld w 5 s).heap[w.heap.size]? with | some (.cells _ _ (lo, hi)) => decide (lo ≤ j) && decide (j < hi) | _ => false) = false
      rw [Lib.bytesWorld_at_new]
      have : s.size ≤ (Lib.bytesCells w 5 s).size := by
        unfold Lib.bytesCells
        rw [Array.size_append, Array.size_map]
        show s.data.size ≤ _
        omega
      simp
      omega
  · exact ⟨rfl, rfl, rfl, by rw [Lib.bytesWorld_size]; omega, fun k hk => Lib.bytesWorld_at_old w 5 s k hk⟩
/-- Cells that are bytes, as a text: in whatever world has them. -/
theorem conv_bytes (w : World) (a : Addr) (cap : Nat) (l : List UInt8) (hc : ∀ j (hj : j < l.length), w.cell? (a.add j) = some (.int .u8 (l[j].toNat : Int))) :
    (convert 104 9 (.slice (some a) l.length cap)).run Tryz.prog w = .ok (.string ⟨l.toArray⟩) w :=
  run_convert_bytes_back w 104 9 5 a cap l Tryz.underlying104 Tryz.underlying5 Tryz.underlying9 hc
theorem addr_add (b j : Nat) : (⟨b, 0, none⟩ : Addr).add j = ⟨b, j, none⟩ := by unfold Addr.add; split <;> simp_all
theorem RowLow.conv {W : World} {b : Nat} {s : ByteArray} (h : RowLow W b s.size s.data.toList) (cap : Nat) :
    (convert 104 9 (.slice (some ⟨b, 0, none⟩) s.size cap)).run Tryz.prog W = .ok (.string ⟨(lowerL s.data.toList).toArray⟩) W := by
  have e : s.size = (lowerL s.data.toList).length := by rw [lower_length, size_list]
  have h2 := conv_bytes W ⟨b, 0, none⟩ cap (lowerL s.data.toList) (by
    intro j hj
    have hj2 : j < s.data.toList.length := by rw [lower_length] at hj; exact hj
    rw [addr_add, (h j hj2).1]
    unfold midB
    rw [if_pos (by rw [size_list]; exact hj2)]
    have e2 : (lowerL s.data.toList)[j] = low s.data.toList[j] := List.getElem_map low
    rw [e2])
  rw [← e] at h2
  exact h2
set_option maxHeartbeats 1000000 in
theorem lower_any (s : ByteArray) (hs : s.size ≤ 1000000) (w : World) :
    Calls Tryz.prog 87 #[.string s] w fun e w' => e = .returned (.string ⟨(lowerL s.data.toList).toArray⟩) ∧ Below w.heap.size w w' := by
  have hcv := fun W (h : RowLow W w.heap.size s.size s.data.toList) cap => h.conv cap
  have HCV := hide hcv
  clear hcv
  generalize lowerL s.data.toList = R at *
  obtain ⟨cap, W0, hr, hrow, hb⟩ := conv_string w s
  have HROW := hide hrow
  have HSL := hide (size_list s)
  have HG := hide great_any
  clear hrow
  generalize hB : w.heap.size = b at *
  go_enter Tryz.func87, Tryz.ntmps87
  go_wp2
  go_loopw [10] (fun i wr => ∃ k : Nat, k ≤ s.size ∧ i = .int .i64 k ∧ Below b w wr ∧ Hid (RowLow wr b k s.data.toList)) (fun i _ => s.size - (intOf i).toNat)
  case atStart => exact ⟨0, Nat.zero_le _, rfl, hb, HROW⟩
  case round =>
    obtain ⟨k, hk, rfl, bw, HR⟩ := hrel
    by_cases hlt : k < s.size
    · have hlt2 : (k : Int) < s.size := by omega
      have hkl : k < s.data.toList.length := by rw [← HSL.out]; exact hlt
      have hc0 := HR.out k hkl
      have hcell : wr.cell? ⟨b, k, none⟩ = some (.int .u8 ((s.data.toList[k]).toNat : Int)) := by
        rw [hc0.1]; unfold midB; rw [if_neg (by omega)]
      have hfz := hc0.2
      have HQ := hide (HG.out (s.data.toList[k]).toNat)
      cases hg : greatN (s.data.toList[k]).toNat
      · have HR2 := hide (HR.out.skip hkl hg)
        rw [hg] at HQ
        clear hc0 hg HR
        generalize (s.data.toList[k]).toNat = N at *
        go_wp2_with fail
        refine (HQ.out _).mono ?_
        rintro e w1 ⟨rfl, rfl⟩
        go_wp2
        go_roundw
        case rel => exact ⟨k + 1, by omega, by go_num, bw, HR2⟩
        case measure => simp [intOf]; omega
      · obtain ⟨g1, g2, g3⟩ := low_great _ hg
        have HR2 := hide (fun z hz => HR.out.put hkl z hz)
        have HZ := hide g3
        rw [hg] at HQ
        clear hc0 hg HR g3
        generalize (low s.data.toList[k]).toNat = M at *
        generalize (s.data.toList[k]).toNat = N at *
        go_wp2_with fail
        refine (HQ.out _).mono ?_
        rintro e w1 ⟨rfl, rfl⟩
        go_wp2
        go_roundw
        case rel => exact ⟨k + 1, by omega, by go_num, bw.setCell (Nat.le_refl _) _, HR2.out _ (by rw [HZ.out]; omega)⟩
        case measure => simp [intOf]; omega
    · have hlt2 : ¬ (k : Int) < s.size := by omega
      obtain rfl : k = s.size := by omega
      have hcv := HCV.out wr HR.out cap
      clear HR hlt
      go_wp2
      go_ret
      exact ⟨rfl, bw⟩
/-- The value is a slice that reads as these bytes. -/
def IsB (w : World) (v : Value) (l : List UInt8) : Prop :=
  (v = .slice none 0 0 ∧ l = []) ∨ ∃ a cap, v = .slice (some a) l.length cap ∧ ∀ j (hj : j < l.length), w.cell? (a.add j) = some (.int .u8 (l[j].toNat : Int))
theorem IsB.below {w W : World} {v : Value} {l : List UInt8} (h : IsB w v l) (hb : Below w.heap.size w W) : IsB W v l := by
  rcases h with h | ⟨a, cap, rfl, hc⟩
  · exact .inl h
  · refine .inr ⟨a, cap, rfl, fun j hj => ?_⟩
    rw [hb.cell (cell_lt (hc j hj))]
    exact hc j hj
theorem IsB.conv {w : World} {v : Value} {l : List UInt8} (h : IsB w v l) : (convert 104 9 v).run Tryz.prog w = .ok (.string ⟨l.toArray⟩) w := by
  rcases h with ⟨rfl, rfl⟩ | ⟨a, cap, rfl, hc⟩
  · exact run_convert_bytes_nil w 104 5 Tryz.underlying104 Tryz.underlying5 0 0 9 Tryz.underlying9
  · exact conv_bytes w a cap l hc
theorem byteCells_get (l : List UInt8) (j : Nat) (hj : j < l.length) : (Lib.byteCells l)[j]? = some (.int .u8 (l[j].toNat : Int)) := by
  simp [Lib.byteCells, List.getElem?_eq_getElem hj]
theorem byteCells_one (l : List UInt8) : ∀ u ∈ Lib.byteCells l, u.oneCell' = true := by
  intro u hu
  simp only [Lib.byteCells, List.mem_map] at hu
  obtain ⟨b, _, rfl⟩ := hu
  rfl
theorem byteCells_len (l : List UInt8) : (Lib.byteCells l).length = l.length := by simp [Lib.byteCells]
theorem owns_isB {w : World} {B n : Nat} {v : Value} {l : List UInt8} (h : w.ownsRow B 5 1 v n (Lib.byteCells l)) : IsB w v l := by
  have hn : n = l.length := by
    have := h.1
    rw [byteCells_len] at this
    omega
  subst hn
  rcases h.2 with ⟨rfl, h2⟩ | ⟨g, cap, cur, rfl, _, _, _, _, _, _⟩
  · exact .inl ⟨rfl, List.eq_nil_of_length_eq_zero h2⟩
  · exact .inr ⟨⟨g, 0, none⟩, cap, rfl, fun j hj => h.cells rfl j _ (byteCells_get l j hj)⟩
/-- An append whose run is known. -/
theorem wpList_append_run {P : Program} {ops : Array Oper} {rest : List Oper} {o : Oper} {a : Act} {Q : Exit → Act → World → Prop} {w : World} (hgd : o.guard = none) (s x : Operand) (t : TypeId)
    (ho : o.op = .call { callee := .builtin .append, args := #[s, x], argTypes := #[t, t] }) (v1 v2 v' : Value) (w' : World) (hs : a.eval s = v1) (hx : a.eval x = v2)
    (hr : (Builtin.append_ #[t, t] o.type #[v1, v2]).run P w = .ok v' w') (h : wpList P ops Q rest (a.put o.dst v') w') : wpList P ops Q (o :: rest) a w :=
  wpList_plain hgd fun _ hK => by
    unfold Oper.wp execOp
    simp only [ho, resolve, invoke, builtin, Sem.run_bind, Sem.run_pure, Result.andThen_ok, List.map_toArray, List.map_cons, List.map_nil, hs, hx, hr]
    exact hK _ _ h
/-- append(b, c), b a list of the call's own, c a byte that was just written out. -/
theorem append_byte (W : World) (B n : Nat) (v : Value) (l : List UInt8) (c : UInt8) (hown : W.ownsRow B 5 1 v n (Lib.byteCells l)) (hl : n ≤ 1000000) (hB : B ≤ W.heap.size) :
    ∃ v' w', (Builtin.append_ #[104, 104] 104 #[v, .slice (some ⟨W.heap.size, 0, none⟩) 1 1]).run Tryz.prog (W.alloc (.cells #[.int .u8 (c.toNat : Int)] 5)) = .ok v' w' ∧ w'.ownsRow B 5 1 v' (n + 1) (Lib.byteCells (l ++ [c])) ∧ Below B W w' := by
  have b0 : Below W.heap.size W (W.alloc (.cells #[.int .u8 (c.toNat : Int)] 5)) := (Below.refl _ W).alloc (Nat.le_refl _) _
  have hown2 : (W.alloc (.cells #[.int .u8 (c.toNat : Int)] 5)).ownsRow B 5 1 v n (Lib.byteCells l) := by
    refine ⟨hown.1, ?_⟩
    rcases hown.2 with h | ⟨g, cap, cur, h1, h2, h3, h4⟩
    · exact .inl h
    · refine .inr ⟨g, cap, cur, h1, h2, ?_, h4⟩
      have hg : g < W.heap.size := (Array.getElem?_eq_some_iff.1 h3).1
      rw [b0.block g hg]; exact h3
  have hblk : ∀ k, v.ownBlock = some k → B ≤ k := by
    intro k hk
    rcases hown.2 with ⟨rfl, _⟩ | ⟨g, cap, cur, rfl, h2, _⟩
    · simp [Value.ownBlock] at hk
    · simp [Value.ownBlock] at hk; omega
  obtain ⟨v', w', hr, ho, hg, _⟩ := run_append_own (P := Tryz.prog) (W.alloc (.cells #[.int .u8 (c.toNat : Int)] 5)) B 104 104 5 Tryz.t5 (.int .u8 0) 1 1 Tryz.underlying104 (by kernel_rfl) (by kernel_rfl) (by kernel_rfl) (by kernel_rfl) (by kernel_rfl) (by omega)
      v n (Lib.byteCells l) hown2 ⟨W.heap.size, 0, none⟩ 1 1 (Lib.byteCells [c]) rfl
      (by
        intro j u hu
        have hj : j < 1 := (List.getElem?_eq_some_iff.1 hu).1
        obtain rfl : j = 0 := by omega
        rw [byteCells_get [c] 0 (by simp)] at hu
        rw [addr_add, ← hu]
        simp [go_sem]) (byteCells_one [c]) (by unfold maxLen; omega) (by omega) (by simp; omega)
  refine ⟨v', w', hr, ?_, ((b0.mono hB)).grown hg (by simp; omega) hblk⟩
  rw [← Lib.byteCells_append] at ho
  exact ho
theorem lower_step (l : List UInt8) (k : Nat) (h : k < l.length) : lowerL (l.take (k + 1)) = lowerL (l.take k) ++ [low l[k]] := by
  unfold lowerL
  rw [List.take_add_one, List.getElem?_eq_getElem h, List.map_append]
  rfl
theorem take_len (s : ByteArray) (k : Nat) (h : k ≤ s.size) : (lowerL (s.data.toList.take k)).length = k := by
  rw [lower_length, List.length_take, ← size_list]; omega
set_option maxHeartbeats 1000000 in
theorem rlower_any (s : ByteArray) (hs : s.size ≤ 1000000) (w : World) :
    Calls Tryz.prog 97 #[.string s] w fun e w' => e = .returned (.string ⟨(lowerL s.data.toList).toArray⟩) ∧ Below w.heap.size w w' := by
  generalize hR : lowerL s.data.toList = R
  have HRR := hide hR
  have HSL := hide (size_list s)
  clear hR
  go_enter Tryz.func97, Tryz.ntmps97
  go_wp2
  go_loopw [3, 4] (fun tb i wr => ∃ k : Nat, k ≤ s.size ∧ i = .int .i64 k ∧ w.heap.size ≤ wr.heap.size ∧ Below w.heap.size w wr ∧ Hid (wr.ownsRow w.heap.size 5 1 tb k (Lib.byteCells (lowerL (s.data.toList.take k))))) (fun _ i _ => s.size - (intOf i).toNat)
  case atStart =>
    refine ⟨0, Nat.zero_le _, rfl, ?_, (Below.refl _ w).alloc (Nat.le_refl _) _, hide ⟨rfl, .inr ⟨w.heap.size, 0, #[], rfl, Nat.le_refl _, heap_alloc_new w _, Nat.le_refl _, by decide, rfl, rfl⟩⟩⟩
    simp
  case round =>
    obtain ⟨k, hk, rfl, hsz, bw, HO⟩ := hrel
    by_cases hlt : k < s.size
    · have hlt2 : (k : Int) < s.size := by omega
      have hkl : k < s.data.toList.length := by rw [← HSL.out]; exact hlt
      obtain ⟨v', w', hr, ho, hb⟩ := append_byte wr w.heap.size k _ _ (low s.data.toList[k]) HO.out (by omega) hsz
      rw [← lower_step _ k hkl] at ho
      have HO2 := hide ho
      have HRUN := hide hr
      have b2 := bw.trans hb
      have hsz2 := b2.size
      have hidx : s[k] = s.data.toList[k] := rfl
      clear ho hr HO hb
      cases hg : greatN (s.data.toList[k]).toNat
      · have hlw : low s.data.toList[k] = s.data.toList[k] := by
          unfold low isGreat
          rw [hg]; rfl
        rw [hlw, ← hidx] at HRUN
        rw [← hidx] at hg
        simp [greatN] at hg
        clear hlw hidx
        generalize hc : s[k] = c at *
        by_cases h65 : (65 : Int) ≤ c.toNat
        · have h90 : ¬ (c.toNat : Int) ≤ 90 := by omega
          clear hg
          go_wp2_with (at_builtin; refine wpList_append_run rfl _ _ 104 rfl _ _ _ _ rfl rfl HRUN.out ?_)
          go_roundw
          case rel => exact ⟨k + 1, by omega, by go_num, hsz2, b2, HO2⟩
          case measure => simp [intOf]; omega
        · clear hg
          go_wp2_with (at_builtin; refine wpList_append_run rfl _ _ 104 rfl _ _ _ _ rfl rfl HRUN.out ?_)
          go_roundw
          case rel => exact ⟨k + 1, by omega, by go_num, hsz2, b2, HO2⟩
          case measure => simp [intOf]; omega
      · obtain ⟨g1, g2, g3⟩ := low_great _ hg
        rw [← hidx] at g1 g2
        have HRUN2 : Hid ((Builtin.append_ #[104, 104] 104 #[u3, .slice (some ⟨wr.heap.size, 0, none⟩) 1 1]).run Tryz.prog (wr.alloc (.cells #[.int .u8 ((s[k].toNat : Int) + 32)] 5)) = .ok v' w') := by
          have := HRUN.out
          rw [g3] at this
          exact this
        clear hidx hg g3 HRUN
        have h65 : (65 : Int) ≤ s[k].toNat := by omega
        have h90 : (s[k].toNat : Int) ≤ 90 := by omega
        generalize hc : s[k] = c at *
        go_wp2_with (at_builtin; refine wpList_append_run rfl _ _ 104 rfl _ _ _ _ rfl rfl HRUN2.out ?_)
        go_roundw
        case rel => exact ⟨k + 1, by omega, by go_num, hsz2, b2, HO2⟩
        case measure => simp [intOf]; omega
    · have hlt2 : ¬ (k : Int) < s.size := by omega
      obtain rfl : k = s.size := by omega
      have hq := HO.out
      rw [List.take_of_length_le (by rw [← HSL.out]; omega), HRR.out] at hq
      have hcv := (owns_isB hq).conv
      clear HO hlt hq
      go_wp2
      go_ret
      exact ⟨rfl, bw⟩
end Go.Proofs.YthopnliaikkhbaaGreatDoor
