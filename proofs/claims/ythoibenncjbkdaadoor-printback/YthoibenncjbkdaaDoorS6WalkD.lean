/- What ofAny, special and Is answer, of whatever set and name; nothing that was there is written. -/
import Derived.Test.YthoibenncjbkdaaDoorS6WalkC
set_option linter.unusedVariables false
set_option linter.unusedSimpArgs false
set_option maxRecDepth 4000
namespace Go.Proofs.YthoibenncjbkdaaDoor.S6
open Go.RowKit

theorem cell_lt {w : World} {a : Addr} {v : Value} (h : w.cell? a = some v) : a.block < w.heap.size := World.block_lt_of_cell? w a h
def anyL (ks : List Int) (n : List UInt8) : Bool := ks.any fun k => isL k n
theorem any_step (ks : List Int) (n : List UInt8) (k : Nat) (h : k < ks.length) : anyL (ks.drop k) n = (isL ks[k] n || anyL (ks.drop (k + 1)) n) := by
  rw [List.drop_eq_getElem_cons h]; rfl
theorem any_end (ks : List Int) (n : List UInt8) (k : Nat) (h : ks.length ≤ k) : anyL (ks.drop k) n = false := by
  rw [List.drop_eq_nil_of_le h]; rfl
/-- Is answers at this set. -/
def IsOk (k : Int) : Prop := ∀ (n : ByteArray) (w : World), Calls Tryd.prog 36 #[.int .i64 k, .string n] w fun e w' => e = .returned (.bool (isL k n.data.toList)) ∧ Below w.heap.size w w'

set_option maxHeartbeats 1000000 in
theorem ofAny_any (n : ByteArray) (ks : List Int) (b cap : Nat) (w : World) (hl : ks.length ≤ 1000) (hc : ∀ j (hj : j < ks.length), w.cell? ⟨b, j, none⟩ = some (.int .i64 ks[j])) (his : ∀ j (hj : j < ks.length), IsOk ks[j]) :
    Calls Tryd.prog 46 #[.string n, .slice (some ⟨b, 0, none⟩) ks.length cap] w fun e w' => e = .returned (.bool (anyL ks n.data.toList)) ∧ Below w.heap.size w w' := by
  have HC := hide hc
  have HI := hide his
  clear hc his
  generalize hV : anyL ks n.data.toList = V
  have HV := hide hV
  clear hV
  go_enter Tryd.func46, Tryd.ntmps46
  go_wp2
  go_loopw [9] (fun i wr => ∃ k : Nat, k ≤ ks.length ∧ i = .int .i64 k ∧ Below w.heap.size w wr ∧ Hid (anyL (ks.drop k) n.data.toList = V)) (fun i _ => ks.length - (intOf i).toNat)
  case atStart => exact ⟨0, Nat.zero_le _, rfl, Below.refl _ w, hide (by rw [List.drop_zero]; exact HV.out)⟩
  case round =>
    obtain ⟨k, hk, rfl, bw, HR⟩ := hrel
    by_cases hlt : k < ks.length
    · have hc0 := HC.out k hlt
      have hcell : wr.cell? ⟨b, k, none⟩ = some (.int .i64 ks[k]) := by
        rw [bw.cell (cell_lt hc0)]; exact hc0
      have H := hide (HI.out k hlt n)
      have hs := any_step ks n.data.toList k hlt
      rw [HR.out] at hs
      have hlt2 : (k : Int) < ks.length := by omega
      have HS := hide hs
      clear hs HR hc0
      generalize ks[k] = K at *
      clear hlt
      generalize isL K n.data.toList = B at *
      go_wp2_with fail
      refine (H.out _).mono ?_
      rintro e w1 ⟨rfl, b1⟩
      have b2 := bw.trans (b1.mono bw.size)
      cases B
      · have HR2 : Hid (anyL (ks.drop (k + 1)) n.data.toList = V) := hide (by rw [HS.out, Bool.false_or])
        clear HS
        go_wp2
        go_roundw
        case rel => exact ⟨k + 1, by omega, by go_num, b2, HR2⟩
        case measure => simp [intOf]; omega
      · have HR2 : Hid (V = true) := hide (by rw [HS.out, Bool.true_or])
        clear HS
        go_wp2
        go_ret
        exact ⟨ret_bool HR2.out.symm, b2⟩
    · have hs := any_end ks n.data.toList k (by omega)
      rw [HR.out] at hs
      have HR2 := hide hs
      have hlt2 : ¬ (k : Int) < ks.length := by omega
      clear hs HR hlt
      go_wp2
      go_ret
      exact ⟨ret_bool HR2.out.symm, bw⟩

def cellsK (l : List Int) : Array Value := (l.map fun k => Value.int .i64 k).toArray
theorem built_cellK (w : World) (l : List Int) (j : Nat) (hj : j < l.length) : (w.alloc (.cells (cellsK l) 72)).cell? ⟨w.heap.size, j, none⟩ = some (.int .i64 l[j]) := by
  have : (cellsK l)[j]? = some (.int .i64 l[j]) := by
    unfold cellsK
    simp [List.getElem?_eq_getElem hj]
  simp [go_sem, this]
def seven : List Int := [1, 2, 3, 7, 6, 9, 11]
theorem seven_ok (j : Nat) (hj : j < seven.length) : IsOk seven[j] := by
  have hj2 : j < 7 := hj
  rcases (by omega : j = 0 ∨ j = 1 ∨ j = 2 ∨ j = 3 ∨ j = 4 ∨ j = 5 ∨ j = 6) with rfl | rfl | rfl | rfl | rfl | rfl | rfl
  · exact isp_1
  · exact isp_2
  · exact isp_3
  · exact isp_7
  · exact isp_6
  · exact isp_9
  · exact isp_11
theorem seven_any (n : ByteArray) (V : Bool) (hV : anyL seven n.data.toList = V) (w : World) :
    Calls Tryd.prog 46 #[.string n, .slice (some ⟨w.heap.size, 0, none⟩) 7 7] (w.alloc (.cells (cellsK seven) 72)) fun e w' => e = .returned (.bool V) ∧ Below w.heap.size w w' :=
  (ofAny_any n seven w.heap.size 7 _ (by decide) (built_cellK w seven) seven_ok).mono fun e w' ⟨h1, h2⟩ => ⟨by rw [h1, hV], (below_alloc w _).trans (h2.mono (below_alloc w _).size)⟩
theorem any_seven {α : Type} (p : α → Bool) (a b c d e f g : α) : [a, b, c, d, e, f, g].any p = (p a || p b || p c || p d || p e || p f || p g) := by simp [Bool.or_assoc]
theorem special_parts (n : List UInt8) : isL 4 n = (anyL seven n || amongL specialN n) := by
  rw [is_4]
  have h : anyL seven n = (isL 1 n || isL 2 n || isL 3 n || isL 7 n || isL 6 n || isL 9 n || isL 11 n) := any_seven (fun k => isL k n) 1 2 3 7 6 9 11
  rw [h, is_1, is_2, is_3, is_7, is_6, is_9, is_11]

set_option maxHeartbeats 1000000 in
theorem special_any (n : ByteArray) (w : World) :
    Calls Tryd.prog 43 #[.string n] w fun e w' => e = .returned (.bool (isL 4 n.data.toList)) ∧ Below w.heap.size w w' := by
  rw [special_parts]
  generalize hV : amongL specialN n.data.toList = V
  generalize hU : anyL seven n.data.toList = U
  have H1 := hide (seven_any n U hU w)
  have H2 := hide (among_built n specialN (by decide) V hV)
  clear hV hU
  cases U
  · go_enter Tryd.func43, Tryd.ntmps43
    go_wp2_with fail
    refine H1.out.mono ?_
    rintro e w1 ⟨rfl, b1⟩
    go_wp2_with fail
    refine (H2.out _).mono ?_
    rintro e w2 ⟨rfl, b2⟩
    go_wp2
    go_ret
    exact ⟨ret_bool (Bool.false_or V).symm, b1.trans (b2.mono b1.size)⟩
  · go_enter Tryd.func43, Tryd.ntmps43
    go_wp2_with fail
    refine H1.out.mono ?_
    rintro e w1 ⟨rfl, b1⟩
    go_wp2
    go_ret
    exact ⟨ret_bool (Bool.true_or V).symm, b1⟩

set_option maxHeartbeats 1000000 in
theorem isp_4 (n : ByteArray) (w : World) :
    Calls Tryd.prog 36 #[.int .i64 4, .string n] w fun e w' => e = .returned (.bool (isL 4 n.data.toList)) ∧ Below w.heap.size w w' := by
  have H := hide (special_any n w)
  generalize isL 4 n.data.toList = V at *
  go_enter Tryd.func36, Tryd.ntmps36
  go_wp2_with fail
  refine H.out.mono ?_
  rintro e w1 ⟨rfl, b1⟩
  go_wp2
  go_ret
  exact ⟨rfl, b1⟩

set_option maxHeartbeats 1000000 in
theorem isp_12 (n : ByteArray) (w : World) :
    Calls Tryd.prog 36 #[.int .i64 12, .string n] w fun e w' => e = .returned (.bool (isL 12 n.data.toList)) ∧ Below w.heap.size w w' := by
  have H2 := hide (isp_9 n)
  rw [is_12]
  rw [is_9] at H2
  generalize amongL tableN n.data.toList = V at *
  generalize hU : amongL skipN n.data.toList = U
  have H1 := hide (among_built n skipN (by decide) U hU w)
  clear hU
  cases U
  · go_enter Tryd.func36, Tryd.ntmps36
    go_wp2_with fail
    refine H1.out.mono ?_
    rintro e w1 ⟨rfl, b1⟩
    go_wp2_with fail
    refine (H2.out _).mono ?_
    rintro e w2 ⟨rfl, b2⟩
    go_wp2
    go_ret
    exact ⟨ret_bool (Bool.false_or V).symm, b1.trans (b2.mono b1.size)⟩
  · go_enter Tryd.func36, Tryd.ntmps36
    go_wp2_with fail
    refine H1.out.mono ?_
    rintro e w1 ⟨rfl, b1⟩
    go_wp2
    go_ret
    exact ⟨ret_bool (Bool.true_or V).symm, b1⟩

theorem is_any (k : Int) : IsOk k := by
  rcases (by omega : k = 1 ∨ k = 2 ∨ k = 3 ∨ k = 4 ∨ k = 5 ∨ k = 6 ∨ k = 7 ∨ k = 8 ∨ k = 9 ∨ k = 10 ∨ k = 11 ∨ k = 12 ∨ (k < 1 ∨ 12 < k)) with rfl | rfl | rfl | rfl | rfl | rfl | rfl | rfl | rfl | rfl | rfl | rfl | hk
  · exact isp_1
  · exact isp_2
  · exact isp_3
  · exact isp_4
  · exact isp_5
  · exact isp_6
  · exact isp_7
  · exact isp_8
  · exact isp_9
  · exact isp_10
  · exact isp_11
  · exact isp_12
  · exact isp_none k hk
end Go.Proofs.YthoibenncjbkdaaDoor.S6
