import Derived.Test.YtfohijnkeefcfaaGreatDoorKn07
import Derived.Test.YtfohijnkeefcfaaGreatDoorProg
import Derived.WalkKit
import Derived.WalkSpells
import Derived.WalkLawsBesides
import Derived.Lib.IndexBytes
import Derived.Below
set_option linter.unusedVariables false
set_option linter.unusedSimpArgs false
set_option maxRecDepth 100000
set_option maxHeartbeats 8000000
namespace Go.Proofs.YtfohijnkeefcfaaGreatDoor.S6
open Go.RowKit
theorem hide {p : Prop} (h : p) : Hid p := h
theorem ret_bool {a b : Bool} (h : a = b) : Ending.returned (.bool a) = .returned (.bool b) := by rw [h]
theorem ret_int {k : IntKind} {a b : Int} (h : a = b) : Ending.returned (.int k a) = .returned (.int k b) := by rw [h]
end Go.Proofs.YtfohijnkeefcfaaGreatDoor.S6
namespace Go.Proofs.YtfohijnkeefcfaaGreatDoor.S6
open Go.RowKit
theorem str_eq (n : ByteArray) (o : List UInt8) : (n.toList == o) = (n.data.toList == o) := by
  rw [Lib.toList_data]
theorem among_step (l : List (List UInt8)) (n : List UInt8) (k : Nat) (h : k < l.length) : amongL (l.drop k) n = (n == l[k] || amongL (l.drop (k + 1)) n) := by
  rw [List.drop_eq_getElem_cons h]; rfl
theorem among_end (l : List (List UInt8)) (n : List UInt8) (k : Nat) (h : l.length <= k) : amongL (l.drop k) n = false := by
  rw [List.drop_eq_nil_of_le h]; rfl
theorem among_any (n : ByteArray) (l : List (List UInt8)) (b cap : Nat) (w : World) (hl : l.length <= 1000) (hc : ∀ j (hj : j < l.length), w.cell? ⟨b, j, none⟩ = some (.string ⟨(l[j]).toArray⟩)) :
    Calls Tryz.prog 39 #[.string n, .slice (some ⟨b, 0, none⟩) l.length cap] w fun e w' => e = .returned (.bool (amongL l n.data.toList)) /\ w' = w := by
  have HC := hide hc
  clear hc
  generalize hV : amongL l n.data.toList = V
  have HV := hide hV
  clear hV
  go_enter Tryz.func39, Tryz.ntmps39
  go_wp2
  go_loop [9] (fun i => ∃ k : Nat, k <= l.length /\ i = .int .i64 k /\ Hid (amongL (l.drop k) n.data.toList = V)) (fun i => l.length - (intOf i).toNat)
  case atStart => exact ⟨0, Nat.zero_le _, rfl, hide (by rw [List.drop_zero]; exact HV.out)⟩
  case round =>
    obtain ⟨k, hk, rfl, HR⟩ := hrel
    by_cases hlt : k < l.length
    · have hcell := HC.out k hlt
      have he := str_eq n l[k]
      have hs := among_step l n.data.toList k hlt
      rw [HR.out] at hs
      have hlt2 : (k : Int) < l.length := by omega
      cases hb : n.data.toList == l[k]
      · rw [hb] at he hs
        rw [Bool.false_or] at hs
        have HR2 := hide hs.symm
        clear hs hb HR
        generalize l[k] = o at *
        clear hlt
        go_wp2
        go_round
        case rel => exact ⟨k + 1, by omega, by go_num, HR2⟩
        case measure => simp [intOf]; omega
      · rw [hb] at he hs
        rw [Bool.true_or] at hs
        have HR2 := hide hs
        clear hs hb HR
        generalize l[k] = o at *
        clear hlt
        go_wp2
        go_ret
        exact ⟨ret_bool HR2.out.symm, rfl⟩
    · have hs := among_end l n.data.toList k (by omega)
      rw [HR.out] at hs
      have HR2 := hide hs
      have hlt2 : ¬ (k : Int) < l.length := by omega
      clear hs HR hlt
      go_wp2
      go_ret
      exact ⟨ret_bool HR2.out.symm, rfl⟩
end Go.Proofs.YtfohijnkeefcfaaGreatDoor.S6
namespace Go.Proofs.YtfohijnkeefcfaaGreatDoor.S6
open Go.RowKit
def cellsOf (l : List (List UInt8)) : Array Value := (l.map fun o => Value.string ⟨o.toArray⟩).toArray
theorem built_cell (w : World) (l : List (List UInt8)) (j : Nat) (hj : j < l.length) : (w.alloc (.cells (cellsOf l) 9)).cell? ⟨w.heap.size, j, none⟩ = some (.string ⟨(l[j]).toArray⟩) := by
  have : (cellsOf l)[j]? = some (.string ⟨(l[j]).toArray⟩) := by
    unfold cellsOf
    simp [List.getElem?_eq_getElem hj]
  simp [go_sem, this]
theorem below_alloc (w : World) (o : Obj) : Below w.heap.size w (w.alloc o) := (Below.refl _ w).alloc (Nat.le_refl _) _
theorem among_built (n : ByteArray) (l : List (List UInt8)) (hl : l.length <= 1000) (V : Bool) (hV : amongL l n.data.toList = V) (w : World) :
    Calls Tryz.prog 39 #[.string n, .slice (some ⟨w.heap.size, 0, none⟩) l.length l.length] (w.alloc (.cells (cellsOf l) 9)) fun e w' => e = .returned (.bool V) /\ Below w.heap.size w w' :=
  (among_any n l w.heap.size l.length _ hl (built_cell w l)).mono fun e w' ⟨h1, h2⟩ => ⟨by rw [h1, hV], by rw [h2]; exact below_alloc w _⟩
theorem block_any (n : ByteArray) (w : World) :
    Calls Tryz.prog 40 #[.string n] w fun e w' => e = .returned (.bool (isL 6 n.data.toList)) /\ Below w.heap.size w w' := by
  generalize hV : isL 6 n.data.toList = V
  rw [is_6] at hV
  have H := hide (among_built n blockN (by decide) V hV w)
  clear hV
  go_enter Tryz.func40, Tryz.ntmps40
  go_wp2_with fail
  refine H.out.mono ?_
  rintro e w1 ⟨rfl, b1⟩
  go_wp2
  go_ret
  exact ⟨rfl, b1⟩
theorem isp_1 (n : ByteArray) (w : World) :
    Calls Tryz.prog 24 #[.int .i64 1, .string n] w fun e w' => e = .returned (.bool (isL 1 n.data.toList)) /\ Below w.heap.size w w' := by
  generalize hV : isL 1 n.data.toList = V
  rw [is_1] at hV
  have H := hide (among_built n voidN (by decide) V hV w)
  clear hV
  go_enter Tryz.func24, Tryz.ntmps24
  go_wp2_with fail
  refine H.out.mono ?_
  rintro e w1 ⟨rfl, b1⟩
  go_wp2
  go_ret
  exact ⟨rfl, b1⟩
theorem isp_2 (n : ByteArray) (w : World) :
    Calls Tryz.prog 24 #[.int .i64 2, .string n] w fun e w' => e = .returned (.bool (isL 2 n.data.toList)) /\ Below w.heap.size w w' := by
  generalize hV : isL 2 n.data.toList = V
  rw [is_2] at hV
  have H := hide (among_built n rawN (by decide) V hV w)
  clear hV
  go_enter Tryz.func24, Tryz.ntmps24
  go_wp2_with fail
  refine H.out.mono ?_
  rintro e w1 ⟨rfl, b1⟩
  go_wp2
  go_ret
  exact ⟨rfl, b1⟩
theorem isp_3 (n : ByteArray) (w : World) :
    Calls Tryz.prog 24 #[.int .i64 3, .string n] w fun e w' => e = .returned (.bool (isL 3 n.data.toList)) /\ Below w.heap.size w w' := by
  generalize hV : isL 3 n.data.toList = V
  rw [is_3] at hV
  have H := hide (among_built n rcdataN (by decide) V hV w)
  clear hV
  go_enter Tryz.func24, Tryz.ntmps24
  go_wp2_with fail
  refine H.out.mono ?_
  rintro e w1 ⟨rfl, b1⟩
  go_wp2
  go_ret
  exact ⟨rfl, b1⟩
theorem isp_5 (n : ByteArray) (w : World) :
    Calls Tryz.prog 24 #[.int .i64 5, .string n] w fun e w' => e = .returned (.bool (isL 5 n.data.toList)) /\ Below w.heap.size w w' := by
  generalize hV : isL 5 n.data.toList = V
  rw [is_5] at hV
  have H := hide (among_built n formatN (by decide) V hV w)
  clear hV
  go_enter Tryz.func24, Tryz.ntmps24
  go_wp2_with fail
  refine H.out.mono ?_
  rintro e w1 ⟨rfl, b1⟩
  go_wp2
  go_ret
  exact ⟨rfl, b1⟩
theorem isp_6 (n : ByteArray) (w : World) :
    Calls Tryz.prog 24 #[.int .i64 6, .string n] w fun e w' => e = .returned (.bool (isL 6 n.data.toList)) /\ Below w.heap.size w w' := by
  have H := hide (block_any n w)
  generalize isL 6 n.data.toList = V at *
  go_enter Tryz.func24, Tryz.ntmps24
  go_wp2_with fail
  refine H.out.mono ?_
  rintro e w1 ⟨rfl, b1⟩
  go_wp2
  go_ret
  exact ⟨rfl, b1⟩
theorem isp_7 (n : ByteArray) (w : World) :
    Calls Tryz.prog 24 #[.int .i64 7, .string n] w fun e w' => e = .returned (.bool (isL 7 n.data.toList)) /\ Below w.heap.size w w' := by
  generalize hV : isL 7 n.data.toList = V
  rw [is_7] at hV
  have H := hide (among_built n headingN (by decide) V hV w)
  clear hV
  go_enter Tryz.func24, Tryz.ntmps24
  go_wp2_with fail
  refine H.out.mono ?_
  rintro e w1 ⟨rfl, b1⟩
  go_wp2
  go_ret
  exact ⟨rfl, b1⟩
theorem isp_8 (n : ByteArray) (w : World) :
    Calls Tryz.prog 24 #[.int .i64 8, .string n] w fun e w' => e = .returned (.bool (isL 8 n.data.toList)) /\ Below w.heap.size w w' := by
  generalize hV : isL 8 n.data.toList = V
  rw [is_8] at hV
  have H := hide (among_built n impliedN (by decide) V hV w)
  clear hV
  go_enter Tryz.func24, Tryz.ntmps24
  go_wp2_with fail
  refine H.out.mono ?_
  rintro e w1 ⟨rfl, b1⟩
  go_wp2
  go_ret
  exact ⟨rfl, b1⟩
theorem isp_9 (n : ByteArray) (w : World) :
    Calls Tryz.prog 24 #[.int .i64 9, .string n] w fun e w' => e = .returned (.bool (isL 9 n.data.toList)) /\ Below w.heap.size w w' := by
  generalize hV : isL 9 n.data.toList = V
  rw [is_9] at hV
  have H := hide (among_built n tableN (by decide) V hV w)
  clear hV
  go_enter Tryz.func24, Tryz.ntmps24
  go_wp2_with fail
  refine H.out.mono ?_
  rintro e w1 ⟨rfl, b1⟩
  go_wp2
  go_ret
  exact ⟨rfl, b1⟩
theorem isp_11 (n : ByteArray) (w : World) :
    Calls Tryz.prog 24 #[.int .i64 11, .string n] w fun e w' => e = .returned (.bool (isL 11 n.data.toList)) /\ Below w.heap.size w w' := by
  generalize hV : isL 11 n.data.toList = V
  rw [is_11] at hV
  have H := hide (among_built n markerN (by decide) V hV w)
  clear hV
  go_enter Tryz.func24, Tryz.ntmps24
  go_wp2_with fail
  refine H.out.mono ?_
  rintro e w1 ⟨rfl, b1⟩
  go_wp2
  go_ret
  exact ⟨rfl, b1⟩
theorem ne_int (k j : Int) (h : k ≠ j) : (k == j) = false := beq_eq_false_iff_ne.2 h
end Go.Proofs.YtfohijnkeefcfaaGreatDoor.S6
namespace Go.Proofs.YtfohijnkeefcfaaGreatDoor.S6
open Go.RowKit
theorem cell_lt {w : World} {a : Addr} {v : Value} (h : w.cell? a = some v) : a.block < w.heap.size := World.block_lt_of_cell? w a h
def anyL (ks : List Int) (n : List UInt8) : Bool := ks.any fun k => isL k n
theorem any_step (ks : List Int) (n : List UInt8) (k : Nat) (h : k < ks.length) : anyL (ks.drop k) n = (isL ks[k] n || anyL (ks.drop (k + 1)) n) := by
  rw [List.drop_eq_getElem_cons h]; rfl
theorem any_end (ks : List Int) (n : List UInt8) (k : Nat) (h : ks.length <= k) : anyL (ks.drop k) n = false := by
  rw [List.drop_eq_nil_of_le h]; rfl
def IsOk (k : Int) : Prop := ∀ (n : ByteArray) (w : World), Calls Tryz.prog 24 #[.int .i64 k, .string n] w fun e w' => e = .returned (.bool (isL k n.data.toList)) /\ Below w.heap.size w w'
theorem ofAny_any (n : ByteArray) (ks : List Int) (b cap : Nat) (w : World) (hl : ks.length <= 1000) (hc : ∀ j (hj : j < ks.length), w.cell? ⟨b, j, none⟩ = some (.int .i64 ks[j])) (his : ∀ j (hj : j < ks.length), IsOk ks[j]) :
    Calls Tryz.prog 58 #[.string n, .slice (some ⟨b, 0, none⟩) ks.length cap] w fun e w' => e = .returned (.bool (anyL ks n.data.toList)) /\ Below w.heap.size w w' := by
  have HC := hide hc
  have HI := hide his
  clear hc his
  generalize hV : anyL ks n.data.toList = V
  have HV := hide hV
  clear hV
  go_enter Tryz.func58, Tryz.ntmps58
  go_wp2
  go_loopw [9] (fun i wr => ∃ k : Nat, k <= ks.length /\ i = .int .i64 k /\ Below w.heap.size w wr /\ Hid (anyL (ks.drop k) n.data.toList = V)) (fun i _ => ks.length - (intOf i).toNat)
  case atStart => exact ⟨0, Nat.zero_le _, rfl, Below.refl _ w, hide (by rw [List.drop_zero]; exact HV.out)⟩
  case round =>
    obtain ⟨k, hk, rfl, bw, HR⟩ := hrel
    by_cases hlt : k < ks.length
    · have hc0 := HC.out k hlt
      have hcell : wr.cell? ⟨b, k, none⟩ = some (.int .i64 ks[k]) := by
        rw [bw.cell (cell_lt hc0)]; exact hc0
      have H := hide (HI.out k hlt n)
      have hs := any_step ks n.data.toList k hlt
      rw [HR.out] at hs
      have hlt2 : (k : Int) < ks.length := by omega
      have HS := hide hs
      clear hs HR hc0
      generalize ks[k] = K at *
      clear hlt
      generalize isL K n.data.toList = B at *
      go_wp2_with fail
      refine (H.out _).mono ?_
      rintro e w1 ⟨rfl, b1⟩
      have b2 := bw.trans (b1.mono bw.size)
      cases B
      · have HR2 : Hid (anyL (ks.drop (k + 1)) n.data.toList = V) := hide (by rw [HS.out, Bool.false_or])
        clear HS
        go_wp2
        go_roundw
        case rel => exact ⟨k + 1, by omega, by go_num, b2, HR2⟩
        case measure => simp [intOf]; omega
      · have HR2 : Hid (V = true) := hide (by rw [HS.out, Bool.true_or])
        clear HS
        go_wp2
        go_ret
        exact ⟨ret_bool HR2.out.symm, b2⟩
    · have hs := any_end ks n.data.toList k (by omega)
      rw [HR.out] at hs
      have HR2 := hide hs
      have hlt2 : ¬ (k : Int) < ks.length := by omega
      clear hs HR hlt
      go_wp2
      go_ret
      exact ⟨ret_bool HR2.out.symm, bw⟩
def cellsK (l : List Int) : Array Value := (l.map fun k => Value.int .i64 k).toArray
theorem built_cellK (w : World) (l : List Int) (j : Nat) (hj : j < l.length) : (w.alloc (.cells (cellsK l) 59)).cell? ⟨w.heap.size, j, none⟩ = some (.int .i64 l[j]) := by
  have : (cellsK l)[j]? = some (.int .i64 l[j]) := by
    unfold cellsK
    simp [List.getElem?_eq_getElem hj]
  simp [go_sem, this]
def seven : List Int := [1, 2, 3, 7, 6, 9, 11]
theorem seven_ok (j : Nat) (hj : j < seven.length) : IsOk seven[j] := by
  have hj2 : j < 7 := hj
  rcases (by omega : j = 0 \/ j = 1 \/ j = 2 \/ j = 3 \/ j = 4 \/ j = 5 \/ j = 6) with rfl | rfl | rfl | rfl | rfl | rfl | rfl
  · exact isp_1
  · exact isp_2
  · exact isp_3
  · exact isp_7
  · exact isp_6
  · exact isp_9
  · exact isp_11
theorem seven_any (n : ByteArray) (V : Bool) (hV : anyL seven n.data.toList = V) (w : World) :
    Calls Tryz.prog 58 #[.string n, .slice (some ⟨w.heap.size, 0, none⟩) 7 7] (w.alloc (.cells (cellsK seven) 59)) fun e w' => e = .returned (.bool V) /\ Below w.heap.size w w' :=
  (ofAny_any n seven w.heap.size 7 _ (by decide) (built_cellK w seven) seven_ok).mono fun e w' ⟨h1, h2⟩ => ⟨by rw [h1, hV], (below_alloc w _).trans (h2.mono (below_alloc w _).size)⟩
theorem any_seven {α : Type} (p : α -> Bool) (a b c d e f g : α) : [a, b, c, d, e, f, g].any p = (p a || p b || p c || p d || p e || p f || p g) := by simp [Bool.or_assoc]
theorem special_parts (n : List UInt8) : isL 4 n = (anyL seven n || amongL specialN n) := by
  rw [is_4]
  have h : anyL seven n = (isL 1 n || isL 2 n || isL 3 n || isL 7 n || isL 6 n || isL 9 n || isL 11 n) := any_seven (fun k => isL k n) 1 2 3 7 6 9 11
  rw [h, is_1, is_2, is_3, is_7, is_6, is_9, is_11]
theorem special_any (n : ByteArray) (w : World) :
    Calls Tryz.prog 42 #[.string n] w fun e w' => e = .returned (.bool (isL 4 n.data.toList)) /\ Below w.heap.size w w' := by
  rw [special_parts]
  generalize hV : amongL specialN n.data.toList = V
  generalize hU : anyL seven n.data.toList = U
  have H1 := hide (seven_any n U hU w)
  have H2 := hide (among_built n specialN (by decide) V hV)
  clear hV hU
  cases U
  · go_enter Tryz.func42, Tryz.ntmps42
    go_wp2_with fail
    refine H1.out.mono ?_
    rintro e w1 ⟨rfl, b1⟩
    go_wp2_with fail
    refine (H2.out _).mono ?_
    rintro e w2 ⟨rfl, b2⟩
    go_wp2
    go_ret
    exact ⟨ret_bool (Bool.false_or V).symm, b1.trans (b2.mono b1.size)⟩
  · go_enter Tryz.func42, Tryz.ntmps42
    go_wp2_with fail
    refine H1.out.mono ?_
    rintro e w1 ⟨rfl, b1⟩
    go_wp2
    go_ret
    exact ⟨ret_bool (Bool.true_or V).symm, b1⟩
theorem isp_4 (n : ByteArray) (w : World) :
    Calls Tryz.prog 24 #[.int .i64 4, .string n] w fun e w' => e = .returned (.bool (isL 4 n.data.toList)) /\ Below w.heap.size w w' := by
  have H := hide (special_any n w)
  generalize isL 4 n.data.toList = V at *
  go_enter Tryz.func24, Tryz.ntmps24
  go_wp2_with fail
  refine H.out.mono ?_
  rintro e w1 ⟨rfl, b1⟩
  go_wp2
  go_ret
  exact ⟨rfl, b1⟩
theorem isp_12 (n : ByteArray) (w : World) :
    Calls Tryz.prog 24 #[.int .i64 12, .string n] w fun e w' => e = .returned (.bool (isL 12 n.data.toList)) /\ Below w.heap.size w w' := by
  have H2 := hide (isp_9 n)
  rw [is_12]
  rw [is_9] at H2
  generalize amongL tableN n.data.toList = V at *
  generalize hU : amongL skipN n.data.toList = U
  have H1 := hide (among_built n skipN (by decide) U hU w)
  clear hU
  cases U
  · go_enter Tryz.func24, Tryz.ntmps24
    go_wp2_with fail
    refine H1.out.mono ?_
    rintro e w1 ⟨rfl, b1⟩
    go_wp2_with fail
    refine (H2.out _).mono ?_
    rintro e w2 ⟨rfl, b2⟩
    go_wp2
    go_ret
    exact ⟨ret_bool (Bool.false_or V).symm, b1.trans (b2.mono b1.size)⟩
  · go_enter Tryz.func24, Tryz.ntmps24
    go_wp2_with fail
    refine H1.out.mono ?_
    rintro e w1 ⟨rfl, b1⟩
    go_wp2
    go_ret
    exact ⟨ret_bool (Bool.true_or V).symm, b1⟩
end Go.Proofs.YtfohijnkeefcfaaGreatDoor.S6
namespace Go.Proofs.YtfohijnkeefcfaaGreatDoor.S6
open Go.RowKit
def IsW (w : World) (v : Value) (l : List (List UInt8)) : Prop := (l = [] /\ ∃ a c, v = .slice a 0 c) \/ ∃ b o cap, v = .slice (some ⟨b, o, none⟩) l.length cap /\ ∀ j (hj : j < l.length), w.cell? ⟨b, o + j, none⟩ = some (.string ⟨(l[j]).toArray⟩)
theorem IsW.below {w W : World} {v : Value} {l : List (List UInt8)} (h : IsW w v l) (hb : Below w.heap.size w W) : IsW W v l := by
  rcases h with h | ⟨b, o, cap, rfl, hc⟩
  · exact .inl h
  · exact .inr ⟨b, o, cap, rfl, fun j hj => by rw [hb.cell (cell_lt (hc j hj))]; exact hc j hj⟩
theorem IsW.drew {w : World} {v : Value} {l : List (List UInt8)} (h : IsW w v l) : IsW w.drew v l := h
theorem isW_built (w : World) (l : List (List UInt8)) : IsW (w.alloc (.cells (cellsOf l) 9)) (.slice (some ⟨w.heap.size, 0, none⟩) l.length l.length) l :=
  .inr ⟨_, _, _, rfl, fun j hj => by rw [Nat.zero_add]; exact built_cell w l j hj⟩
theorem index_any (n : ByteArray) (l : List (List UInt8)) (v : Value) (w : World) (hl : l.length <= 1000000) (hW : IsW w v l) :
    Calls Tryz.prog 205 #[v, .string n] w fun e w' => (∃ z : Int, e = .returned (.int .i64 z) /\ decide (0 <= z) = amongL l n.data.toList) /\ w' = w := by
  rcases hW with ⟨rfl, a, c, rfl⟩ | ⟨b, o, cap, rfl, hc⟩
  · go_enter Tryz.func205, Tryz.ntmps205
    go_wp2
    go_loop [8] (fun i => i = .int .i64 0) (fun i => 0)
    case atStart => rfl
    case round =>
      subst hrel
      go_wp2
      go_ret
      exact ⟨⟨_, rfl, rfl⟩, rfl⟩
  · have HC := hide hc
    clear hc
    generalize hV : amongL l n.data.toList = V
    have HV := hide hV
    clear hV
    go_enter Tryz.func205, Tryz.ntmps205
    go_wp2
    go_loop [8] (fun i => ∃ k : Nat, k <= l.length /\ i = .int .i64 k /\ Hid (amongL (l.drop k) n.data.toList = V)) (fun i => l.length - (intOf i).toNat)
    case atStart => exact ⟨0, Nat.zero_le _, rfl, hide (by rw [List.drop_zero]; exact HV.out)⟩
    case round =>
      obtain ⟨k, hk, rfl, HR⟩ := hrel
      by_cases hlt : k < l.length
      · have hcell := HC.out k hlt
        have he := str_eq n l[k]
        have hs := among_step l n.data.toList k hlt
        rw [HR.out] at hs
        have hlt2 : (k : Int) < l.length := by omega
        cases hb : n.data.toList == l[k]
        · rw [hb] at he hs
          rw [Bool.false_or] at hs
          have HR2 := hide hs.symm
          clear hs hb HR
          generalize l[k] = x at *
          clear hlt
          go_wp2
          go_round
          case rel => exact ⟨k + 1, by omega, by go_num, HR2⟩
          case measure => simp [intOf]; omega
        · rw [hb] at he hs
          rw [Bool.true_or] at hs
          have HR2 := hide hs
          clear hs hb HR
          generalize l[k] = x at *
          clear hlt
          go_wp2
          go_ret
          exact ⟨⟨_, rfl, by rw [HR2.out]; exact decide_eq_true (by omega)⟩, rfl⟩
      · have hs := among_end l n.data.toList k (by omega)
        rw [HR.out] at hs
        have HR2 := hide hs
        have hlt2 : ¬ (k : Int) < l.length := by omega
        clear hs HR hlt
        go_wp2
        go_ret
        exact ⟨⟨_, rfl, by rw [HR2.out]; rfl⟩, rfl⟩
theorem contains_any (n : ByteArray) (l : List (List UInt8)) (v : Value) (w : World) (hl : l.length <= 1000000) (hW : IsW w v l) :
    Calls Tryz.prog 164 #[v, .string n] w fun e w' => e = .returned (.bool (amongL l n.data.toList)) /\ w' = w := by
  have H := hide (index_any n l v w hl hW)
  generalize amongL l n.data.toList = V at *
  clear hW
  go_enter Tryz.func164, Tryz.ntmps164
  go_wp2_with fail
  refine H.out.mono ?_
  rintro e w1 ⟨⟨z, rfl, hz⟩, rfl⟩
  have HZ := hide hz
  clear hz
  go_wp2
  go_ret
  exact ⟨ret_bool HZ.out, rfl⟩
theorem pamong_any (n : ByteArray) (l : List (List UInt8)) (v : Value) (w : World) (hl : l.length <= 1000000) (hW : IsW w v l) :
    Calls Tryz.prog 112 #[.string n, v] w fun e w' => e = .returned (.bool (amongL l n.data.toList)) /\ w' = w := by
  have H := hide (contains_any n l v w hl hW)
  generalize amongL l n.data.toList = V at *
  clear hW
  go_enter Tryz.func112, Tryz.ntmps112
  go_wp2_with fail
  refine H.out.mono ?_
  rintro e w1 ⟨rfl, rfl⟩
  go_wp2
  go_ret
  exact ⟨rfl, rfl⟩
theorem pamong_built (n : ByteArray) (l : List (List UInt8)) (hl : l.length <= 1000) (V : Bool) (hV : amongL l n.data.toList = V) (w : World) :
    Calls Tryz.prog 112 #[.string n, .slice (some ⟨w.heap.size, 0, none⟩) l.length l.length] (w.alloc (.cells (cellsOf l) 9)) fun e w' => e = .returned (.bool V) /\ Below w.heap.size w w' :=
  (pamong_any n l _ _ (by omega) (isW_built w l)).mono fun e w' ⟨h1, h2⟩ => ⟨by rw [h1, hV], by rw [h2]; exact below_alloc w _⟩
theorem endsAll_any (n : ByteArray) (w : World) :
    Calls Tryz.prog 262 #[.string n] w fun e w' => e = .returned (.bool (amongL wholeN n.data.toList)) /\ Below w.heap.size w w' := by
  generalize hV : amongL wholeN n.data.toList = V
  have H := hide (pamong_built n wholeN (by decide) V hV w)
  clear hV
  go_enter Tryz.func262, Tryz.ntmps262
  go_wp2_with fail
  refine H.out.mono ?_
  rintro e w1 ⟨rfl, b1⟩
  go_wp2
  go_ret
  exact ⟨rfl, b1⟩
theorem html_any (o : OV) (w : World) :
    Calls Tryz.prog 212 #[.agg #[.int .i64 o.id, .int .i64 o.sp, .string o.nm]] w fun e w' => e = .returned (.bool (htmlL o)) /\ Below w.heap.size w w' := by
  obtain ⟨id, sp, nm⟩ := o
  go_enter Tryz.func212, Tryz.ntmps212
  go_wp2
  go_ret
  exact ⟨rfl, below_alloc w _⟩
end Go.Proofs.YtfohijnkeefcfaaGreatDoor.S6
namespace Go.Proofs.YtfohijnkeefcfaaGreatDoor.S6
open Go.RowKit
theorem box_size (w : World) (x : Array Value) : (w.alloc (.cells x 76)).heap.size = w.heap.size + 1 := by simp
theorem box_cells (w : World) (id sp : Int) (nm : ByteArray) {w1 : World} (b1 : Below (w.alloc (.cells #[.int .i64 id, .int .i64 sp, .string nm] 76)).heap.size (w.alloc (.cells #[.int .i64 id, .int .i64 sp, .string nm] 76)) w1) :
    w1.cell? ⟨w.heap.size, 0, none⟩ = some (.int .i64 id) /\ w1.cell? ⟨w.heap.size, 1, none⟩ = some (.int .i64 sp) /\ w1.cell? ⟨w.heap.size, 2, none⟩ = some (.string nm) := by
  refine ⟨?_, ?_, ?_⟩
  all_goals
    rw [b1.cell (by simp)]
    simp [go_sem]
theorem box_below (w : World) (x : Obj) {w1 : World} (b1 : Below (w.alloc x).heap.size (w.alloc x) w1) : Below w.heap.size w w1 := (below_alloc w x).trans (b1.mono (below_alloc w x).size)
theorem point_any (o : OV) (w : World) :
    Calls Tryz.prog 74 #[.agg #[.int .i64 o.id, .int .i64 o.sp, .string o.nm]] w fun e w' => e = .returned (.bool (pointL o)) /\ Below w.heap.size w w' := by
  obtain ⟨id, sp, nm⟩ := o
  show Calls Tryz.prog 74 #[.agg #[.int .i64 id, .int .i64 sp, .string nm]] w fun e w' => e = .returned (.bool (pointS sp nm.data.toList)) /\ Below w.heap.size w w'
  by_cases h1 : sp = 1
  · subst h1
    have e : pointS 1 nm.data.toList = amongL svgN nm.data.toList := rfl
    rw [e]
    generalize hV : amongL svgN nm.data.toList = V
    have H := hide (pamong_built nm svgN (by decide) V hV (w.alloc (.cells #[.int .i64 id, .int .i64 1, .string nm] 76)))
    rw [box_size] at H
    clear hV e
    go_enter Tryz.func74, Tryz.ntmps74
    go_wp2_with fail
    refine H.out.mono ?_
    rintro e w1 ⟨rfl, b1⟩
    go_wp2
    go_ret
    exact ⟨rfl, box_below w _ (by rw [box_size]; exact b1)⟩
  · by_cases h2 : sp = 2
    · subst h2
      have e : pointS 2 nm.data.toList = amongL mathN nm.data.toList := rfl
      rw [e]
      generalize hV : amongL mathN nm.data.toList = V
      have H := hide (pamong_built nm mathN (by decide) V hV (w.alloc (.cells #[.int .i64 id, .int .i64 2, .string nm] 76)))
      rw [box_size] at H
      clear hV e
      go_enter Tryz.func74, Tryz.ntmps74
      go_wp2_with fail
      refine H.out.mono ?_
      rintro e w1 ⟨rfl, b1⟩
      go_wp2
      go_ret
      exact ⟨rfl, box_below w _ (by rw [box_size]; exact b1)⟩
    · have e : pointS sp nm.data.toList = false := by
        unfold pointS
        rw [if_neg h1, if_neg h2]
      rw [e]
      have e1 := ne_int sp 1 h1
      have e2 := ne_int sp 2 h2
      clear e h1 h2
      go_enter Tryz.func74, Tryz.ntmps74
      go_wp2_with fail
      go_ret
      exact ⟨rfl, below_alloc w _⟩
theorem endsAtName_any (n : ByteArray) (k : Int) (w : World) :
    Calls Tryz.prog 239 #[.string n, .int .i64 k] w fun e w' => e = .returned (.bool (endsNameL n.data.toList k)) /\ Below w.heap.size w w' := by
  have H1 := hide (endsAll_any n)
  by_cases h4 : k = 4
  · subst h4
    have e : endsNameL n.data.toList 4 = amongL tabN n.data.toList := rfl
    rw [e]
    generalize hV : amongL tabN n.data.toList = V
    have H := hide (pamong_built n tabN (by decide) V hV w)
    clear hV e
    go_enter Tryz.func239, Tryz.ntmps239
    go_wp2_with fail
    refine H.out.mono ?_
    rintro e w1 ⟨rfl, b1⟩
    go_wp2
    go_ret
    exact ⟨rfl, b1⟩
  by_cases h2 : k = 2
  · subst h2
    have e : endsNameL n.data.toList 2 = (amongL wholeN n.data.toList || amongL rowN n.data.toList) := rfl
    rw [e]
    generalize hV : amongL rowN n.data.toList = V
    have H := hide (pamong_built n rowN (by decide) V hV)
    generalize amongL wholeN n.data.toList = U at *
    clear hV e
    cases U
    · go_enter Tryz.func239, Tryz.ntmps239
      go_wp2_with fail
      refine (H1.out _).mono ?_
      rintro e w1 ⟨rfl, b1⟩
      go_wp2_with fail
      refine (H.out _).mono ?_
      rintro e w2 ⟨rfl, b2⟩
      go_wp2
      go_ret
      exact ⟨ret_bool (Bool.false_or V).symm, b1.trans (b2.mono b1.size)⟩
    · go_enter Tryz.func239, Tryz.ntmps239
      go_wp2_with fail
      refine (H1.out _).mono ?_
      rintro e w1 ⟨rfl, b1⟩
      go_wp2
      go_ret
      exact ⟨ret_bool (Bool.true_or V).symm, b1⟩
  by_cases h3 : k = 3
  · subst h3
    have e : endsNameL n.data.toList 3 = (amongL wholeN n.data.toList || n.data.toList == buttonB) := rfl
    rw [e]
    have hs := str_eq n buttonB
    generalize amongL wholeN n.data.toList = U at *
    generalize (n.data.toList == buttonB) = V at *
    have hs2 : (n.toList == [98, 117, 116, 116, 111, 110]) = V := hs
    clear e hs
    cases U
    · go_enter Tryz.func239, Tryz.ntmps239
      go_wp2_with fail
      refine (H1.out _).mono ?_
      rintro e w1 ⟨rfl, b1⟩
      go_wp2
      go_ret
      exact ⟨ret_bool (Bool.false_or V).symm, b1⟩
    · go_enter Tryz.func239, Tryz.ntmps239
      go_wp2_with fail
      refine (H1.out _).mono ?_
      rintro e w1 ⟨rfl, b1⟩
      go_wp2
      go_ret
      exact ⟨ret_bool (Bool.true_or V).symm, b1⟩
  have e : endsNameL n.data.toList k = amongL wholeN n.data.toList := by
    unfold endsNameL
    rw [if_neg h4, if_neg h2, if_neg h3]
  rw [e]
  have e2 := ne_int k 2 h2
  have e3 := ne_int k 3 h3
  have e4 := ne_int k 4 h4
  generalize amongL wholeN n.data.toList = U at *
  clear e h2 h3 h4
  go_enter Tryz.func239, Tryz.ntmps239
  go_wp2_with fail
  refine (H1.out _).mono ?_
  rintro e w1 ⟨rfl, b1⟩
  go_wp2
  go_ret
  exact ⟨rfl, b1⟩
theorem ends_any (o : OV) (k : Int) (w : World) :
    Calls Tryz.prog 210 #[.agg #[.int .i64 o.id, .int .i64 o.sp, .string o.nm], .int .i64 k] w fun e w' => e = .returned (.bool (endsL o k)) /\ Below w.heap.size w w' := by
  have H1 := hide (html_any o)
  have H2 := hide (endsAtName_any o.nm k)
  have H3 := hide (point_any o)
  unfold endsL
  generalize endsNameL o.nm.data.toList k = E at *
  generalize pointL o = P at *
  generalize htmlL o = B at *
  obtain ⟨id, sp, nm⟩ := o
  simp only [] at H1 H2 H3 ⊢
  cases B with
  | true =>
    go_enter Tryz.func210, Tryz.ntmps210
    go_wp2_with fail
    refine (H1.out _).mono ?_
    rintro e w1 ⟨rfl, b1⟩
    obtain ⟨c0, c1, c2⟩ := box_cells w id sp nm b1
    have bb := box_below w _ b1
    clear b1
    go_wp2_with fail
    refine (H2.out _).mono ?_
    rintro e w2 ⟨rfl, b2⟩
    go_wp2
    go_ret
    exact ⟨rfl, bb.trans (b2.mono bb.size)⟩
  | false =>
    by_cases h4 : k = 4
    · subst h4
      go_enter Tryz.func210, Tryz.ntmps210
      go_wp2_with fail
      refine (H1.out _).mono ?_
      rintro e w1 ⟨rfl, b1⟩
      obtain ⟨c0, c1, c2⟩ := box_cells w id sp nm b1
      have bb := box_below w _ b1
      clear b1
      go_wp2
      go_ret
      exact ⟨rfl, bb⟩
    · have e4 := ne_int k 4 h4
      go_enter Tryz.func210, Tryz.ntmps210
      go_wp2_with fail
      refine (H1.out _).mono ?_
      rintro e w1 ⟨rfl, b1⟩
      obtain ⟨c0, c1, c2⟩ := box_cells w id sp nm b1
      have bb := box_below w _ b1
      clear b1
      go_wp2_with fail
      refine (H3.out _).mono ?_
      rintro e w2 ⟨rfl, b2⟩
      go_wp2
      go_ret
      exact ⟨rfl, bb.trans (b2.mono bb.size)⟩
theorem named_any (o : OV) (names : List (List UInt8)) (hl : names.length <= 1000000) (v : Value) (w : World) (hW : IsW w v names) :
    Calls Tryz.prog 198 #[.agg #[.int .i64 o.id, .int .i64 o.sp, .string o.nm], v] w fun e w' => e = .returned (.bool (namedL names o)) /\ Below w.heap.size w w' := by
  have H1 := hide (html_any o)
  have H2 := hide (fun w1 (b1 : Below w.heap.size w w1) => contains_any o.nm names v w1 hl (hW.below b1))
  unfold namedL
  generalize amongL names o.nm.data.toList = P at *
  generalize htmlL o = B at *
  obtain ⟨id, sp, nm⟩ := o
  simp only [] at H1 H2 ⊢
  clear hW
  cases B with
  | true =>
    go_enter Tryz.func198, Tryz.ntmps198
    go_wp2_with fail
    refine (H1.out _).mono ?_
    rintro e w1 ⟨rfl, b1⟩
    obtain ⟨c0, c1, c2⟩ := box_cells w id sp nm b1
    have bb := box_below w _ b1
    clear b1
    go_wp2_with fail
    refine (H2.out w1 bb).mono ?_
    rintro e w2 ⟨rfl, rfl⟩
    go_wp2
    go_ret
    exact ⟨rfl, bb⟩
  | false =>
    go_enter Tryz.func198, Tryz.ntmps198
    go_wp2_with fail
    refine (H1.out _).mono ?_
    rintro e w1 ⟨rfl, b1⟩
    have bb := box_below w _ b1
    clear b1
    go_wp2
    go_ret
    exact ⟨rfl, bb⟩
theorem special6_any (o : OV) (w : World) :
    Calls Tryz.prog 228 #[.agg #[.int .i64 o.id, .int .i64 o.sp, .string o.nm]] w fun e w' => e = .returned (.bool (specialL o)) /\ Below w.heap.size w w' := by
  have H1 := hide (html_any o)
  have H2 := hide (isp_4 o.nm)
  have H3 := hide (point_any o)
  unfold specialL
  generalize isL 4 o.nm.data.toList = S at *
  generalize pointL o = P at *
  generalize htmlL o = B at *
  obtain ⟨id, sp, nm⟩ := o
  simp only [] at H1 H2 H3 ⊢
  cases B with
  | true =>
    cases S with
    | true =>
      go_enter Tryz.func228, Tryz.ntmps228
      go_wp2_with fail
      refine (H1.out _).mono ?_
      rintro e w1 ⟨rfl, b1⟩
      obtain ⟨c0, c1, c2⟩ := box_cells w id sp nm b1
      have bb := box_below w _ b1
      clear b1
      go_wp2_with fail
      refine (H2.out _).mono ?_
      rintro e w2 ⟨rfl, b2⟩
      go_wp2
      go_ret
      exact ⟨rfl, bb.trans (b2.mono bb.size)⟩
    | false =>
      go_enter Tryz.func228, Tryz.ntmps228
      go_wp2_with fail
      refine (H1.out _).mono ?_
      rintro e w1 ⟨rfl, b1⟩
      obtain ⟨c0, c1, c2⟩ := box_cells w id sp nm b1
      have bb := box_below w _ b1
      go_wp2_with fail
      refine (H2.out _).mono ?_
      rintro e w2 ⟨rfl, b2⟩
      have b12 := b1.trans (b2.mono b1.size)
      obtain ⟨d0, d1, d2⟩ := box_cells w id sp nm b12
      have bb2 := box_below w _ b12
      clear b1 b2 b12 c0 c1 c2
      go_wp2_with fail
      refine (H3.out _).mono ?_
      rintro e w3 ⟨rfl, b3⟩
      go_wp2
      go_ret
      exact ⟨rfl, bb2.trans (b3.mono bb2.size)⟩
  | false =>
    go_enter Tryz.func228, Tryz.ntmps228
    go_wp2_with fail
    refine (H1.out _).mono ?_
    rintro e w1 ⟨rfl, b1⟩
    obtain ⟨c0, c1, c2⟩ := box_cells w id sp nm b1
    have bb := box_below w _ b1
    clear b1
    go_wp2_with fail
    refine (H3.out _).mono ?_
    rintro e w3 ⟨rfl, b3⟩
    go_wp2
    go_ret
    exact ⟨rfl, bb.trans (b3.mono bb.size)⟩
end Go.Proofs.YtfohijnkeefcfaaGreatDoor.S6
namespace Go.Proofs.YtfohijnkeefcfaaGreatDoor.S6
open Go.RowKit
def IsO (w : World) (v : Value) (l : List OV) : Prop := (l = [] /\ ∃ a c, v = .slice a 0 c) \/ ∃ b o cap, v = .slice (some ⟨b, o, none⟩) l.length cap /\
  ∀ j (hj : j < l.length), w.cell? ⟨b, o + j * 3, none⟩ = some (.int .i64 l[j].id) /\ w.cell? ⟨b, o + j * 3 + 1, none⟩ = some (.int .i64 l[j].sp) /\ w.cell? ⟨b, o + j * 3 + 2, none⟩ = some (.string l[j].nm)
theorem IsO.below {w W : World} {v : Value} {l : List OV} (h : IsO w v l) (hb : Below w.heap.size w W) : IsO W v l := by
  rcases h with h | ⟨b, o, cap, rfl, hc⟩
  · exact .inl h
  · refine .inr ⟨b, o, cap, rfl, fun j hj => ?_⟩
    obtain ⟨h0, h1, h2⟩ := hc j hj
    exact ⟨by rw [hb.cell (cell_lt h0)]; exact h0, by rw [hb.cell (cell_lt h1)]; exact h1, by rw [hb.cell (cell_lt h2)]; exact h2⟩
theorem isO_form {w : World} {v : Value} {l : List OV} (h : IsO w v l) : ∃ a c, v = .slice a l.length c := by
  rcases h with ⟨rfl, a, c, rfl⟩ | ⟨b, o, c, rfl, _⟩
  · exact ⟨_, _, rfl⟩
  · exact ⟨_, _, rfl⟩
theorem IsO.get {w : World} {a : Option Addr} {n c : Nat} {l : List OV} (h : IsO w (.slice a n c) l) (j : Nat) (hj : j < l.length) : ∃ b o, a = some ⟨b, o, none⟩ /\
    w.cell? ⟨b, o + j * 3, none⟩ = some (.int .i64 l[j].id) /\ w.cell? ⟨b, o + j * 3 + 1, none⟩ = some (.int .i64 l[j].sp) /\ w.cell? ⟨b, o + j * 3 + 2, none⟩ = some (.string l[j].nm) := by
  rcases h with ⟨rfl, _⟩ | ⟨b, o, c', e, h⟩
  · exact absurd hj (by simp)
  · simp only [Value.slice.injEq] at e
    obtain ⟨rfl, -, -⟩ := e
    exact ⟨b, o, rfl, h j hj⟩
theorem isW_form {w : World} {v : Value} {l : List (List UInt8)} (h : IsW w v l) : ∃ a c, v = .slice a l.length c := by
  rcases h with ⟨rfl, a, c, rfl⟩ | ⟨b, o, c, rfl, _⟩
  · exact ⟨_, _, rfl⟩
  · exact ⟨_, _, rfl⟩
theorem last_any (F : Nat) (caps : List Value) (p : OV -> Bool) (l : List OV) (hl : l.length <= 1000000) (v : Value) (w : World) (hO : IsO w v l) (hen : ∀ (args : Array Value) (w : World), (callFunc F args).run Tryz.prog w = .ok (.enter F args) w)
    (hf : ∀ (o : OV) (w1 : World), Below w.heap.size w w1 -> Calls Tryz.prog F (.agg #[.int .i64 o.id, .int .i64 o.sp, .string o.nm] :: caps).toArray w1 fun e w' => e = .returned (.bool (p o)) /\ Below w1.heap.size w1 w') :
    Calls Tryz.prog 196 #[v, .func (.func F) #[] caps.toArray] w fun e w' => e = .returned (.int .i64 (placeZ (lastO p l l.length))) /\ Below w.heap.size w w' := by
  obtain ⟨a, c, rfl⟩ := isO_form hO
  have HO := hide hO
  have HF := hide hf
  clear hO hf
  generalize hV : lastO p l l.length = V
  have HV := hide hV
  clear hV
  go_enter Tryz.func196, Tryz.ntmps196
  go_wp2
  go_loopw [5] (fun i wr => ∃ k : Nat, k <= l.length /\ i = .int .i64 ((k : Int) - 1) /\ Below w.heap.size w wr /\ Hid (lastO p l k = V)) (fun i _ => (intOf i + 1).toNat)
  case atStart => exact ⟨l.length, Nat.le_refl _, by go_num, Below.refl _ w, HV⟩
  case round =>
    obtain ⟨k, hk, rfl, bw, HR⟩ := hrel
    cases k with
    | zero =>
      have HV2 : Hid (placeZ V = -1) := hide (by rw [<- HR.out]; rfl)
      clear HR
      go_wp2
      go_ret
      exact ⟨ret_int HV2.out.symm, bw⟩
    | succ j =>
      have hj : j < l.length := by omega
      obtain ⟨b, o, rfl, c0, c1, c2⟩ := (HO.out.below bw).get j hj
      have HQ := hide (HF.out l[j] wr bw)
      have hh := last_hit p l j hj
      have hm := last_miss p l j hj
      generalize hP : p l[j] = P at *
      generalize hE : l[j] = el at *
      obtain ⟨id, sp, nm⟩ := el
      simp only [] at c0 c1 c2 HQ
      have e1 : ((j + 1 : Nat) : Int) - 1 = (j : Int) := by omega
      rw [e1]
      have hlt : (j : Int) < l.length := by omega
      have HH := hide hh
      have HM := hide hm
      clear hh hm hP hE e1
      go_wp2_with fail
      refine HQ.out.mono ?_
      rintro e w1 ⟨rfl, b1⟩
      have b2 := bw.trans (b1.mono bw.size)
      clear c0 c1 c2
      cases P with
      | true =>
        have HV2 : Hid (placeZ V = (j : Int)) := hide (by rw [<- HR.out, HH.out rfl]; rfl)
        clear HH HM HR
        go_wp2
        go_ret
        exact ⟨ret_int HV2.out.symm, b2⟩
      | false =>
        have HR2 : Hid (lastO p l j = V) := hide (by rw [<- HR.out, HM.out rfl])
        clear HH HM HR
        go_wp2
        go_roundw
        case rel => exact ⟨j, by omega, by go_num, b2, HR2⟩
        case measure => simp [intOf]
end Go.Proofs.YtfohijnkeefcfaaGreatDoor.S6
namespace Go.Proofs.YtfohijnkeefcfaaGreatDoor.S6
open Go.RowKit
theorem cutC_any (o : OV) (names : List (List UInt8)) (hl : names.length <= 1000000) (v : Value) (nb : Nat) (w : World) (hn : w.cell? ⟨nb, 0, none⟩ = some v) (hW : IsW w v names) :
    Calls Tryz.prog 197 #[.agg #[.int .i64 o.id, .int .i64 o.sp, .string o.nm], .pointer (some ⟨nb, 0, none⟩)] w fun e w' => e = .returned (.bool (namedL names o)) /\ Below w.heap.size w w' := by
  obtain ⟨a, c, rfl⟩ := isW_form hW
  have H := hide (named_any o names hl _ (w.alloc (.cells #[.int .i64 o.id, .int .i64 o.sp, .string o.nm] 76)) (hW.below (below_alloc w _)))
  generalize namedL names o = B at *
  obtain ⟨id, sp, nm⟩ := o
  simp only [] at H
  have hn2 : (w.alloc (.cells #[.int .i64 id, .int .i64 sp, .string nm] 76)).cell? ⟨nb, 0, none⟩ = some (.slice a names.length c) := by
    rw [(below_alloc w _).cell (cell_lt hn)]; exact hn
  clear hW hn
  go_enter Tryz.func197, Tryz.ntmps197
  go_wp2_with fail
  refine H.out.mono ?_
  rintro e w1 ⟨rfl, b1⟩
  go_wp2
  go_ret
  exact ⟨rfl, box_below w _ b1⟩
theorem impliedC_any (o : OV) (ex : ByteArray) (nb : Nat) (w : World) (hn : w.cell? ⟨nb, 0, none⟩ = some (.string ex)) :
    Calls Tryz.prog 211 #[.agg #[.int .i64 o.id, .int .i64 o.sp, .string o.nm], .pointer (some ⟨nb, 0, none⟩)] w fun e w' => e = .returned (.bool (staysL ex o)) /\ Below w.heap.size w w' := by
  have H1 := hide (html_any o)
  have H2 := hide (isp_8 o.nm)
  have he : (o.nm.toList == ex.toList) = (o.nm.data.toList == ex.data.toList) := by rw [Lib.toList_data, Lib.toList_data]
  unfold staysL
  generalize isL 8 o.nm.data.toList = S at *
  generalize (o.nm.data.toList == ex.data.toList) = X at *
  generalize htmlL o = B at *
  obtain ⟨id, sp, nm⟩ := o
  simp only [] at H1 H2 he ⊢
  have HN := hide (fun (w1 : World) (b : Below (w.alloc (.cells #[.int .i64 id, .int .i64 sp, .string nm] 76)).heap.size (w.alloc (.cells #[.int .i64 id, .int .i64 sp, .string nm] 76)) w1) =>
    show w1.cell? ⟨nb, 0, none⟩ = some (.string ex) by rw [(box_below w _ b).cell (cell_lt hn)]; exact hn)
  clear hn
  cases B with
  | false =>
    go_enter Tryz.func211, Tryz.ntmps211
    go_wp2_with fail
    refine (H1.out _).mono ?_
    rintro e w1 ⟨rfl, b1⟩
    go_wp2
    go_ret
    exact ⟨rfl, box_below w _ b1⟩
  | true =>
    cases S with
    | false =>
      go_enter Tryz.func211, Tryz.ntmps211
      go_wp2_with fail
      refine (H1.out _).mono ?_
      rintro e w1 ⟨rfl, b1⟩
      obtain ⟨c0, c1, c2⟩ := box_cells w id sp nm b1
      have bb := box_below w _ b1
      clear b1
      go_wp2_with fail
      refine (H2.out _).mono ?_
      rintro e w2 ⟨rfl, b2⟩
      go_wp2
      go_ret
      exact ⟨rfl, bb.trans (b2.mono bb.size)⟩
    | true =>
      go_enter Tryz.func211, Tryz.ntmps211
      go_wp2_with fail
      refine (H1.out _).mono ?_
      rintro e w1 ⟨rfl, b1⟩
      obtain ⟨c0, c1, c2⟩ := box_cells w id sp nm b1
      go_wp2_with fail
      refine (H2.out _).mono ?_
      rintro e w2 ⟨rfl, b2⟩
      have b12 := b1.trans (b2.mono b1.size)
      obtain ⟨d0, d1, d2⟩ := box_cells w id sp nm b12
      have hn3 := HN.out _ b12
      have bb2 := box_below w _ b12
      clear b1 b2 b12 c0 c1 c2
      go_wp2
      go_ret
      exact ⟨rfl, bb2⟩
theorem hasC_any (o : OV) (names : List (List UInt8)) (hl : names.length <= 1000000) (sc : Int) (v : Value) (nb sb : Nat) (w : World) (hn : w.cell? ⟨nb, 0, none⟩ = some v) (hs : w.cell? ⟨sb, 0, none⟩ = some (.int .i64 sc)) (hW : IsW w v names) :
    Calls Tryz.prog 209 #[.agg #[.int .i64 o.id, .int .i64 o.sp, .string o.nm], .pointer (some ⟨nb, 0, none⟩), .pointer (some ⟨sb, 0, none⟩)] w fun e w' => e = .returned (.bool (namedL names o || endsL o sc)) /\ Below w.heap.size w w' := by
  obtain ⟨a, c, rfl⟩ := isW_form hW
  have H := hide (named_any o names hl _ (w.alloc (.cells #[.int .i64 o.id, .int .i64 o.sp, .string o.nm] 76)) (hW.below (below_alloc w _)))
  have H2 := hide (ends_any o sc)
  generalize namedL names o = B at *
  generalize endsL o sc = E at *
  obtain ⟨id, sp, nm⟩ := o
  simp only [] at H H2
  have hn2 : (w.alloc (.cells #[.int .i64 id, .int .i64 sp, .string nm] 76)).cell? ⟨nb, 0, none⟩ = some (.slice a names.length c) := by
    rw [(below_alloc w _).cell (cell_lt hn)]; exact hn
  have HS := hide (fun (w1 : World) (b : Below (w.alloc (.cells #[.int .i64 id, .int .i64 sp, .string nm] 76)).heap.size (w.alloc (.cells #[.int .i64 id, .int .i64 sp, .string nm] 76)) w1) =>
    show w1.cell? ⟨sb, 0, none⟩ = some (.int .i64 sc) by rw [(box_below w _ b).cell (cell_lt hs)]; exact hs)
  clear hW hn hs
  cases B with
  | true =>
    go_enter Tryz.func209, Tryz.ntmps209
    go_wp2_with fail
    refine H.out.mono ?_
    rintro e w1 ⟨rfl, b1⟩
    go_wp2
    go_ret
    exact ⟨rfl, box_below w _ b1⟩
  | false =>
    go_enter Tryz.func209, Tryz.ntmps209
    go_wp2_with fail
    refine H.out.mono ?_
    rintro e w1 ⟨rfl, b1⟩
    obtain ⟨c0, c1, c2⟩ := box_cells w id sp nm b1
    have hs3 := HS.out _ b1
    have bb := box_below w _ b1
    clear b1 hn2
    go_wp2_with fail
    refine (H2.out _).mono ?_
    rintro e w2 ⟨rfl, b2⟩
    go_wp2
    go_ret
    exact ⟨rfl, bb.trans (b2.mono bb.size)⟩
theorem enters_cut : ∀ (args : Array Value) (w : World), (callFunc 197 args).run Tryz.prog w = .ok (.enter 197 args) w := by intro args w; simp [go_sem]
theorem enters_implied : ∀ (args : Array Value) (w : World), (callFunc 211 args).run Tryz.prog w = .ok (.enter 211 args) w := by intro args w; simp [go_sem]
theorem enters_has : ∀ (args : Array Value) (w : World), (callFunc 209 args).run Tryz.prog w = .ok (.enter 209 args) w := by intro args w; simp [go_sem]
theorem one_cell (w : World) (v : Value) (t : TypeId) : (w.alloc (.cells #[v] t)).cell? ⟨w.heap.size, 0, none⟩ = some v := by simp [go_sem]
theorem cut_any (l : List OV) (hl : l.length <= 1000000) (names : List (List UInt8)) (hn : names.length <= 1000000) (v u : Value) (w : World) (hO : IsO w v l) (hW : IsW w u names) :
    Calls Tryz.prog 156 #[v, u] w fun e w' => e = .returned (.int .i64 (cutZ l names)) /\ Below w.heap.size w w' := by
  have hmf : ∀ (fn : Fn) (first cap : Array Value) (w : World), (Instr.makeFunc fn first cap).run Tryz.prog w = .ok (.func fn first cap) w := fun _ _ _ _ => rfl
  have bA := below_alloc w (.cells #[u] 36)
  have H := hide (last_any 197 [.pointer (some ⟨w.heap.size, 0, none⟩)] (namedL names) l hl v (w.alloc (.cells #[u] 36)) (hO.below bA) enters_cut
    (fun o w1 b1 => cutC_any o names hn u w.heap.size w1 (by rw [b1.cell (by simp)]; exact one_cell w u _) (hW.below (bA.trans (b1.mono bA.size)))))
  obtain ⟨a, c, rfl⟩ := isO_form hO
  obtain ⟨a2, c2, rfl⟩ := isW_form hW
  unfold cutZ
  generalize placeZ (lastO (namedL names) l l.length) = Z at *
  clear hO hW
  have BA := hide bA
  clear bA
  go_enter Tryz.func156, Tryz.ntmps156
  go_wp2_with fail
  refine H.out.mono ?_
  rintro e w1 ⟨rfl, b1⟩
  go_wp2
  go_ret
  exact ⟨rfl, BA.out.trans (b1.mono BA.out.size)⟩
theorem implied_any (l : List OV) (hl : l.length <= 1000000) (ex : ByteArray) (v : Value) (w : World) (hO : IsO w v l) :
    Calls Tryz.prog 173 #[v, .string ex] w fun e w' => e = .returned (.int .i64 (impliedZ l ex)) /\ Below w.heap.size w w' := by
  have hmf : ∀ (fn : Fn) (first cap : Array Value) (w : World), (Instr.makeFunc fn first cap).run Tryz.prog w = .ok (.func fn first cap) w := fun _ _ _ _ => rfl
  have bA := below_alloc w (.cells #[.string ex] 9)
  have H := hide (last_any 211 [.pointer (some ⟨w.heap.size, 0, none⟩)] (staysL ex) l hl v (w.alloc (.cells #[.string ex] 9)) (hO.below bA) enters_implied
    (fun o w1 b1 => impliedC_any o ex w.heap.size w1 (by rw [b1.cell (by simp)]; exact one_cell w _ _)))
  obtain ⟨a, c, rfl⟩ := isO_form hO
  unfold impliedZ
  rw [left_last ex l _ (Nat.le_refl _)]
  have hr := place_range (staysL ex) l
  generalize placeZ (lastO (staysL ex) l l.length) = Z at *
  clear hO
  have BA := hide bA
  clear bA
  go_enter Tryz.func173, Tryz.ntmps173
  go_wp2_with fail
  refine H.out.mono ?_
  rintro e w1 ⟨rfl, b1⟩
  go_wp2
  go_ret
  exact ⟨rfl, BA.out.trans (b1.mono BA.out.size)⟩
end Go.Proofs.YtfohijnkeefcfaaGreatDoor.S6
