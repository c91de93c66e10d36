/- What the document's own Renew, without, Drop and Clear answer; nothing that was there is written. -/
import Derived.Test.YtihpjalbdkiecaaRB7
set_option linter.unusedVariables false
set_option linter.unusedSimpArgs false
namespace Go.Proofs.Ytihpjalbdkiecaa
open Go.RowKit

/-- A list of numbers lies there. -/
def IsZ (w : World) (v : Value) (zs : List Int) : Prop := (zs = [] ∧ ∃ a c, v = .slice a 0 c) ∨ ∃ b o cap, v = .slice (some ⟨b, o, none⟩) zs.length cap ∧ ∀ j (hj : j < zs.length), w.cell? ⟨b, o + j, none⟩ = some (.int .i64 zs[j])
theorem IsZ.below {w W : World} {v : Value} {zs : List Int} (h : IsZ w v zs) (hb : Below w.heap.size w W) : IsZ W v zs := by
  rcases h with h | ⟨b, o, cap, rfl, hc⟩
  · exact .inl h
  · exact .inr ⟨b, o, cap, rfl, fun j hj => by rw [hb.cell (cell_lt (hc j hj))]; exact hc j hj⟩
theorem isZ_form {w : World} {v : Value} {zs : List Int} (h : IsZ w v zs) : ∃ a c, v = .slice a zs.length c := by
  rcases h with ⟨rfl, a, c, rfl⟩ | ⟨b, o, c, rfl, _⟩
  · exact ⟨_, _, rfl⟩
  · exact ⟨_, _, rfl⟩
theorem IsZ.get {w : World} {a : Option Addr} {n c : Nat} {zs : List Int} (h : IsZ w (.slice a n c) zs) (j : Nat) (hj : j < zs.length) : ∃ b o, a = some ⟨b, o, none⟩ ∧ w.cell? ⟨b, o + j, none⟩ = some (.int .i64 zs[j]) := by
  rcases h with ⟨rfl, _⟩ | ⟨b, o, c', e, h⟩
  · exact absurd hj (by simp)
  · simp only [Value.slice.injEq] at e
    obtain ⟨rfl, -, -⟩ := e
    exact ⟨b, o, rfl, h j hj⟩
theorem anyZ_step (zs : List Int) (x : Int) (k : Nat) (h : k < zs.length) : ((zs.drop k).any fun z => z == x) = (zs[k] == x || (zs.drop (k + 1)).any fun z => z == x) := by
  rw [List.drop_eq_getElem_cons h]; rfl
theorem anyZ_end (zs : List Int) (x : Int) (k : Nat) (h : zs.length ≤ k) : ((zs.drop k).any fun z => z == x) = false := by
  rw [List.drop_eq_nil_of_le h]; rfl

set_option maxHeartbeats 1000000 in
theorem rrenew_any (v u : Value) (l : List MV) (hl : l.length ≤ 1000000) (zs : List Int) (hz : zs.length ≤ 1000000) (w : World) (hM : RowM w v l) (hZ : IsZ w u zs) :
    Calls Try.prog 29 #[v, u] w fun e w' => e = .returned (.int .i64 (renewL l zs : Int)) ∧ Below w.heap.size w w' := by
  obtain ⟨a, c, rfl⟩ := rowM_form hM
  obtain ⟨a2, c2, rfl⟩ := isZ_form hZ
  have HM := hide hM
  have HZ := hide hZ
  clear hM hZ
  unfold renewL
  generalize hV : behindG (stopM zs) l l.length = V
  have HV := hide hV
  clear hV
  go_enter Try.func29, Try.ntmps29
  go_wp2
  go_loopw [5] (fun i wr => ∃ k : Nat, k ≤ l.length ∧ i = .int .i64 (k : Int) ∧ Hid (Below w.heap.size w wr) ∧ Hid (behindG (stopM zs) l k = V)) (fun i _ => (intOf i).toNat)
  case atStart => exact ⟨l.length, Nat.le_refl _, by go_num, hide (Below.refl _ _), HV⟩
  case round =>
    obtain ⟨k, hk, rfl, BW, HR⟩ := hrel
    generalize wr = wq at *
    cases k with
    | zero =>
      have HV2 : Hid ((V : Int) = 0) := hide (by rw [← HR.out]; rfl)
      clear HR
      go_wp2
      go_ret
      exact ⟨ret_int HV2.out.symm, BW.out⟩
    | succ j =>
      have hj : j < l.length := by omega
      obtain ⟨b, o, rfl, c0, -, -⟩ := (HM.out.below BW.out).get j hj
      have hh : (l[j].id == 0 || zs.any fun z => z == l[j].id) = true → _ := behind_hit (stopM zs) l j hj
      have hm : (l[j].id == 0 || zs.any fun z => z == l[j].id) = false → _ := behind_miss (stopM zs) l j hj
      generalize hid : l[j].id = id at *
      have HID := hide hid
      clear hid
      have hlt : (j : Int) < l.length := by omega
      have hlt0 : (0 : Int) < ((j + 1 : Nat) : Int) := by omega
      have e1 : IntKind.i64.wrap (((j + 1 : Nat) : Int) - 1) = (j : Int) := by rw [IntKind.wrap_i64]; omega
      by_cases h0 : id = 0
      · subst h0
        have HV2 : Hid ((V : Int) = ((j + 1 : Nat) : Int)) := hide (by rw [← HR.out, hh rfl])
        clear HR hh hm
        go_wp2
        go_ret
        exact ⟨ret_int HV2.out.symm, BW.out⟩
      · have h1 := ne_int id 0 h0
        rw [h1, Bool.false_or] at hh hm
        have HH := hide hh
        have HMM := hide hm
        clear hh hm
        go_wp2_with fail
        go_loopw [6] (fun i wr => ∃ m : Nat, m ≤ zs.length ∧ i = .int .i64 (m : Int) ∧ Hid (Below w.heap.size w wr) ∧ Hid (((zs.drop m).any fun z => z == id) = (zs.any fun z => z == id))) (fun i _ => zs.length - (intOf i).toNat)
        case atStart => exact ⟨0, Nat.zero_le _, rfl, BW, hide (by rw [List.drop_zero])⟩
        case round =>
          obtain ⟨m, hm, rfl, BX, HA⟩ := hrel
          by_cases hmz : m < zs.length
          · obtain ⟨b2, o2, rfl, d0⟩ := (HZ.out.below BX.out).get m hmz
            obtain ⟨b3, o3, e3, d1, -, -⟩ := (HM.out.below BX.out).get j hj
            simp only [Option.some.injEq, Addr.mk.injEq, and_true] at e3
            obtain ⟨rfl, rfl⟩ := e3
            rw [HID.out] at d1
            have hst := HA.out
            rw [anyZ_step zs id m hmz] at hst
            generalize zs[m] = y at *
            have hmz2 : (m : Int) < zs.length := by omega
            cases hP : (y == id) with
            | true =>
              have HV2 : Hid ((V : Int) = ((j + 1 : Nat) : Int)) := hide (by rw [← HR.out, HH.out (by rw [← hst, hP, Bool.true_or])])
              clear HR HH HMM HA hst hmz c0
              go_wp2_with fail
              go_region
              all_goals (try go_wp2)
              all_goals go_ret
              all_goals exact ⟨ret_int HV2.out.symm, BX.out.drew⟩
            | false =>
              have HA2 : Hid (((zs.drop (m + 1)).any fun z => z == id) = (zs.any fun z => z == id)) := hide (by rw [← hst, hP, Bool.false_or])
              clear HA hst hmz c0
              go_wp2_with fail
              go_region
              all_goals (try go_wp2)
              all_goals go_roundw
              case rel => exact ⟨m + 1, by omega, by go_num, hide BX.out.drew, HA2⟩
              case measure => simp [intOf]; omega
          · have HR2 : Hid (behindG (stopM zs) l j = V) := hide (by rw [← HR.out, HMM.out (by rw [← HA.out, anyZ_end zs id m (by omega)])])
            have hmz2 : ¬ (m : Int) < zs.length := by omega
            clear HR HH HMM HA hmz
            go_wp2
            go_roundw
            case rel => exact ⟨j, by omega, by go_num, BX, HR2⟩
            case measure => simp [intOf]

/-- Of the first k those whose place is not z. -/
def leftK (l : List MV) (z : Int) : Nat → List MV
  | 0 => []
  | k + 1 => leftK l z k ++ (if ((k : Nat) : Int) = z then [] else l[k]?.toList)
theorem leftK_same (l : List MV) (z : Int) (k : Nat) (h : (k : Int) = z) : leftK l z (k + 1) = leftK l z k := by
  rw [leftK, if_pos h, List.append_nil]
theorem leftK_more (l : List MV) (z : Int) (k : Nat) (hk : k < l.length) (h : (k : Int) ≠ z) : leftK l z (k + 1) = leftK l z k ++ [l[k]] := by
  rw [leftK, if_neg h, List.getElem?_eq_getElem hk]; rfl
theorem leftK_below (l : List MV) (z : Int) : ∀ k, k ≤ l.length → ((k : Int) ≤ z ∨ z < 0) → leftK l z k = l.take k := by
  intro k
  induction k with
  | zero => intro _ _; rfl
  | succ k ih =>
    intro hk h
    have hk2 : k < l.length := by omega
    rw [leftK_more l z k hk2 (by omega), ih (by omega) (by omega), List.take_succ_eq_append_getElem hk2]
theorem leftK_above (l : List MV) (j : Nat) (hj : j < l.length) : ∀ d, j + 1 + d ≤ l.length → leftK l (j : Int) (j + 1 + d) = (l.take (j + 1 + d)).eraseIdx j := by
  intro d
  induction d with
  | zero =>
    intro _
    rw [Nat.add_zero, leftK_same l _ j rfl, leftK_below l _ j (by omega) (.inl (by omega)), List.take_succ_eq_append_getElem hj, List.eraseIdx_append_of_length_le (by rw [List.length_take]; omega)]
    rw [List.length_take, Nat.min_eq_left (by omega), Nat.sub_self]
    simp
  | succ d ih =>
    intro hd
    have hk2 : j + 1 + d < l.length := by omega
    rw [show j + 1 + (d + 1) = (j + 1 + d) + 1 by omega, leftK_more l _ _ hk2 (by omega), ih (by omega), List.take_succ_eq_append_getElem hk2, List.eraseIdx_append_of_lt_length (by rw [List.length_take]; omega)]
theorem leftK_all (l : List MV) (z : Int) : leftK l z l.length = withoutZ l z := by
  unfold withoutZ
  split
  · rename_i h
    rw [leftK_below l z _ (Nat.le_refl _) (.inr h), List.take_length]
  · rename_i h
    by_cases hz : z.toNat < l.length
    · obtain ⟨d, hd⟩ : ∃ d, z.toNat + 1 + d = l.length := ⟨l.length - (z.toNat + 1), by omega⟩
      have e : ((z.toNat : Nat) : Int) = z := by omega
      have := leftK_above l z.toNat hz d (by omega)
      rw [hd, e, List.take_length] at this
      exact this
    · rw [leftK_below l z _ (Nat.le_refl _) (.inl (by omega)), List.take_length, List.eraseIdx_of_length_le (by omega)]
theorem leftK_len (l : List MV) (z : Int) : ∀ k, (leftK l z k).length ≤ k := by
  intro k
  induction k with
  | zero => exact Nat.le_refl _
  | succ k ih =>
    rw [leftK, List.length_append]
    split
    · simp; omega
    · have : (l[k]?.toList).length ≤ 1 := by cases l[k]? <;> simp
      omega

set_option maxHeartbeats 1000000 in
theorem rwithout_any (v : Value) (l : List MV) (hl : l.length ≤ 1000000) (z : Int) (w : World) (hM : RowM w v l) (hOk : OkM w l) :
    Calls Try.prog 38 #[v, .int .i64 z] w fun e w' => (∃ v' n, e = .returned v' ∧ w'.ownsRow w.heap.size 27 3 v' n (markCells (withoutZ l z))) ∧ Below w.heap.size w w' := by
  obtain ⟨a, c, rfl⟩ := rowM_form hM
  have HM := hide hM
  have HOK := hide hOk
  clear hM hOk
  have HO := hide (owns_empty w)
  have BA := hide (below_alloc w (.cells #[] 27))
  rw [← leftK_all]
  go_enter Try.func38, Try.ntmps38
  go_wp2
  go_loopw [5, 6] (fun x i wr => ∃ (k n : Nat) (a3 : Option Addr) (c3 : Nat), k ≤ l.length ∧ x = .slice a3 n c3 ∧ i = .int .i64 (k : Int) ∧ Hid (n ≤ k) ∧ Hid (wr.ownsRow w.heap.size 27 3 (.slice a3 n c3) n (markCells (leftK l z k))) ∧ Hid (Below w.heap.size w wr)) (fun _ i _ => l.length - (intOf i).toNat)
  case atStart => exact ⟨0, 0, _, _, Nat.zero_le _, rfl, rfl, hide (Nat.le_refl _), HO, BA⟩
  case round =>
    obtain ⟨k, n, a3, c3, hk, rfl, rfl, HN, HR, BW⟩ := hrel
    by_cases hlt : k < l.length
    · have hlt2 : (k : Int) < l.length := by omega
      by_cases hz : (k : Int) = z
      · have hz2 : ((k : Int) == z) = true := beq_iff_eq.2 hz
        have HR2 := HR
        rw [← leftK_same l z k hz] at HR2
        clear HR hlt hz
        go_wp2
        go_roundw
        case rel => exact ⟨k + 1, n, a3, c3, by omega, rfl, by go_num, hide (by have := HN.out; omega), HR2, BW⟩
        case measure => simp [intOf]; omega
      · have hz2 := ne_int (k : Int) z hz
        obtain ⟨b, o, rfl, c0, c1, c2⟩ := (HM.out.below BW.out).get k hlt
        obtain ⟨qa, qc, hqa⟩ := isQ_form (HOK.out.at_ k hlt)
        obtain ⟨v', w', hr, ho, hb⟩ := append_mark wr w.heap.size n (.slice a3 n c3) (leftK l z k) l[k] qa qc hqa HR.out (by have := HN.out; omega) BW.out.size
        rw [← leftK_more l z k hlt hz] at ho
        rw [hqa] at c2 hr
        obtain ⟨a4, c4, rfl⟩ := owns_form ho
        generalize l[k].id = id at *
        generalize l[k].nm = nm at *
        generalize l[k].aa.length = ql at *
        have HRUN := hide hr
        have HO2 := hide ho
        have B2 := hide (BW.out.trans hb)
        clear hr ho hb HR hlt hz hqa
        go_wp2_with (with_reducible refine wpList_append_run rfl _ _ 25 rfl (.slice a3 n c3) (.slice (some ⟨wr.heap.size, 0, none⟩) 1 1) _ w' rfl rfl HRUN.out ?_)
        go_roundw
        case rel => exact ⟨k + 1, n + 1, a4, c4, by omega, rfl, by go_num, hide (by have := HN.out; omega), HO2, B2⟩
        case measure => simp [intOf]; omega
    · obtain rfl : k = l.length := by omega
      have hlt2 : ¬ (l.length : Int) < l.length := by omega
      go_wp2
      go_ret
      exact ⟨⟨_, rfl, _, HR.out⟩, BW.out⟩
end Go.Proofs.Ytihpjalbdkiecaa
