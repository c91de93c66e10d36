/- What the walks share: bytes and texts, and what stands at a place. No function of the program in it. -/
import Derived.Test.YthoibenncjbkdaaDoorS4Pieces
import Derived.Test.YthoibenncjbkdaaDoorProg
import Derived.WalkKit
import Derived.WalkSpells
import Derived.WalkLawsBesides
import Derived.Laws.IdiomStrings
import Derived.Lib.IndexBytes
import Derived.Below
set_option linter.unusedVariables false
set_option linter.unusedSimpArgs false
set_option maxRecDepth 4000
namespace Go.Proofs.YthoibenncjbkdaaDoor.S4
open Go.RowKit

theorem hide {p : Prop} (h : p) : Hid p := h
theorem ret_bool {a b : Bool} (h : a = b) : Ending.returned (.bool a) = .returned (.bool b) := by rw [h]
theorem ret_str {a b : List UInt8} (h : a = b) : Ending.returned (.string ⟨a.toArray⟩) = .returned (.string ⟨b.toArray⟩) := by rw [h]
theorem ret_int {k : IntKind} {a b : Int} (h : a = b) : Ending.returned (.int k a) = .returned (.int k b) := by rw [h]
theorem str_data (l : List UInt8) : (⟨l.toArray⟩ : ByteArray).data.toList = l := by simp
theorem size_list (s : ByteArray) : s.size = s.data.toList.length := by
  rw [Array.length_toList]; rfl
theorem below_alloc (w : World) (o : Obj) : Below w.heap.size w (w.alloc o) := (Below.refl _ w).alloc (Nat.le_refl _) _
theorem addr_add (b j : Nat) : (⟨b, 0, none⟩ : Addr).add j = ⟨b, j, none⟩ := by unfold Addr.add; split <;> simp_all

/-- A digit's value, as the document's digit tells it: -1 where there is none. -/
def digitZ (base : Nat) (n : Nat) : Int := match digitB base (UInt8.ofNat n) with | some d => (d : Int) | none => -1
def rawZ (n : Nat) : Int := if 48 ≤ n ∧ n ≤ 57 then (n : Int) - 48 else if 97 ≤ n ∧ n ≤ 102 then (n : Int) - 97 + 10 else if 65 ≤ n ∧ n ≤ 70 then (n : Int) - 65 + 10 else -1
theorem digitZ_eq (base n : Nat) (hn : n < 256) : digitZ base n = if (base : Int) ≤ rawZ n then -1 else rawZ n := by
  unfold digitZ digitB rawZ figureN
  have e : (UInt8.ofNat n).toNat = n := by rw [UInt8.toNat_ofNat']; omega
  rw [e]
  by_cases h1 : 48 ≤ n ∧ n ≤ 57
  · have : (decide (48 ≤ n) && decide (n ≤ 57)) = true := by simp [h1]
    simp only [this, if_true, if_pos h1]
    by_cases hb : n - 48 < base
    · rw [if_pos hb, if_neg (by omega)]; simp only; omega
    · rw [if_neg hb, if_pos (by omega)]
  · have : (decide (48 ≤ n) && decide (n ≤ 57)) = false := by simp; omega
    simp only [this, Bool.false_eq_true, if_false, if_neg h1]
    by_cases h2 : 97 ≤ n ∧ n ≤ 102
    · simp only [if_pos h2]
      by_cases hb : n - 87 < base
      · rw [if_pos hb, if_neg (by omega)]; simp only; omega
      · rw [if_neg hb, if_pos (by omega)]
    · simp only [if_neg h2]
      by_cases h3 : 65 ≤ n ∧ n ≤ 70
      · simp only [if_pos h3]
        by_cases hb : n - 55 < base
        · rw [if_pos hb, if_neg (by omega)]; simp only; omega
        · rw [if_neg hb, if_pos (by omega)]
      · simp only [if_neg h3]
        split <;> rfl

theorem old_range (j : Nat) (hj : j < 32) : oldN.getD j 0 ≤ 1114111 ∧ ¬ (55296 ≤ oldN.getD j 0 ∧ oldN.getD j 0 ≤ 57343) := by
  have h : (List.range 32).all (fun j => decide (oldN.getD j 0 ≤ 1114111) && !(decide (55296 ≤ oldN.getD j 0) && decide (oldN.getD j 0 ≤ 57343))) = true := by decide +kernel
  have := List.all_eq_true.1 h j (List.mem_range.2 hj)
  simp at this
  simp
  omega
/-- A list that is written out, whose run is known. -/
theorem wpList_build_run {P : Program} {ops : Array Oper} {rest : List Oper} {o : Oper} {a : Act} {Q : Exit → Act → World → Prop} {w : World} (hgd : o.guard = none) (t : TypeId) (len : Nat) (ps : List (Nat × Operand)) (ho : o.op = .buildSlice t len ps.toArray)
    (vs : List (Nat × Value)) (hvs : ps.map (fun p => (p.1, a.eval p.2)) = vs) (v' : Value) (w' : World) (hr : (Instr.buildSlice t len vs.toArray).run P w = .ok v' w') (h : wpList P ops Q rest (a.put o.dst v') w') : wpList P ops Q (o :: rest) a w :=
  wpList_plain hgd fun _ hK => by
    have e : ps.toArray.map (fun p => (p.1, a.eval p.2)) = vs.toArray := by rw [List.map_toArray, hvs]
    unfold Oper.wp execOp
    simp only [ho]
    have hr2 := hr
    rw [← e] at hr2
    simp only [Sem.run_bind, Sem.run_pure, Result.andThen_ok, hr2]
    exact hK _ _ h
theorem cell_lt {w : World} {a : Addr} {v : Value} (h : w.cell? a = some v) : a.block < w.heap.size := World.block_lt_of_cell? w a h
theorem entries_range : entriesE.all (fun e => decide (e.2.1 ≤ 1114111) && !(decide (55296 ≤ e.2.1) && decide (e.2.1 ≤ 57343))) = true := by decide +kernel
theorem entry_range (j : Nat) (hj : j < entriesE.length) : (entriesE[j]).2.1 ≤ 1114111 ∧ ¬ (55296 ≤ (entriesE[j]).2.1 ∧ (entriesE[j]).2.1 ≤ 57343) := by
  have h := List.all_eq_true.1 entries_range _ (List.getElem_mem hj)
  generalize (entriesE[j]).2.1 = c at *
  simp at h
  omega
theorem entries_len : entriesE.length = 45 := by decide +kernel
def codeFrom (k : Nat) (n : List UInt8) : Option Nat := ((entriesE.drop k).find? (hitE n)).map fun e => e.2.1
theorem codeFrom_hit (k : Nat) (n : List UInt8) (hk : k < entriesE.length) (h : hitE n entriesE[k] = true) : codeFrom k n = some (entriesE[k]).2.1 := by
  unfold codeFrom
  rw [List.drop_eq_getElem_cons hk, List.find?_cons_of_pos h]
  rfl
theorem codeFrom_miss (k : Nat) (n : List UInt8) (hk : k < entriesE.length) (h : hitE n entriesE[k] = false) : codeFrom k n = codeFrom (k + 1) n := by
  unfold codeFrom
  rw [List.drop_eq_getElem_cons hk, List.find?_cons_of_neg (by rw [h]; decide)]
theorem codeFrom_end (k : Nat) (n : List UInt8) (hk : entriesE.length ≤ k) : codeFrom k n = none := by
  unfold codeFrom
  rw [List.drop_eq_nil_of_le hk]
  rfl
theorem semi_data (o : List UInt8) : ((⟨o.toArray⟩ : ByteArray) ++ ⟨#[59]⟩).data.toList = o ++ [59] := by
  rw [ByteArray.data_append, Array.toList_append]
theorem entries_short : entriesE.all (fun e => decide (e.1.length ≤ 7)) = true := by decide +kernel
theorem entry_short (j : Nat) (hj : j < entriesE.length) : (⟨(entriesE[j]).1.toArray⟩ : ByteArray).size ≤ 7 := by
  rw [size_list, str_data]
  exact of_decide_eq_true (List.all_eq_true.1 entries_short _ (List.getElem_mem hj))
theorem str_semi (n : ByteArray) (o : List UInt8) : (n.toList == ((⟨o.toArray⟩ : ByteArray) ++ ⟨#[59]⟩).toList) = (n.data.toList == o ++ [59]) := by
  rw [Lib.toList_data, Lib.toList_data, semi_data]
theorem str_same (n : ByteArray) (o : List UInt8) : (n.toList == (⟨o.toArray⟩ : ByteArray).toList) = (n.data.toList == o) := by
  rw [Lib.toList_data, Lib.toList_data, str_data]

theorem semi_size (o : ByteArray) : (o ++ (⟨#[59]⟩ : ByteArray)).size = o.size + 1 := by
  rw [ByteArray.size_append]; rfl
theorem semi_list (o : List UInt8) : ((⟨o.toArray⟩ : ByteArray) ++ (⟨#[59]⟩ : ByteArray)).data.toList = o ++ [59] := semi_data o
theorem drop_cons (s : ByteArray) (k : Nat) (h : k < s.size) : s.data.toList.drop k = s[k] :: s.data.toList.drop (k + 1) := by
  have h2 : k < s.data.toList.length := by rw [← size_list]; exact h
  rw [List.drop_eq_getElem_cons h2]
  rfl
theorem drop_end (s : ByteArray) (k : Nat) (h : s.size ≤ k) : s.data.toList.drop k = [] := List.drop_eq_nil_of_le (by rw [← size_list]; exact h)
def capv (v : Nat) : Nat := if 1114111 < v then 1114112 else v
theorem capv_le (v : Nat) : capv v ≤ 1114112 := by unfold capv; split <;> omega
theorem capv_number (v : Nat) : numberL (capv v : Nat) = numberL (v : Nat) := by
  unfold capv
  split
  · unfold numberL cpN
    rw [if_pos (by omega), if_pos (by omega)]
  · rfl
theorem capv_over (v β d : Nat) (hβ : 1 ≤ β) (h : 1114111 < capv v * β + d) : capv (v * β + d) = 1114112 := by
  unfold capv at h ⊢
  by_cases hv : 1114111 < v
  · have : v ≤ v * β := Nat.le_mul_of_pos_right v hβ
    rw [if_pos (by omega)]
  · rw [if_neg hv] at h
    rw [if_pos h]
theorem capv_under (v β d : Nat) (hβ : 1 ≤ β) (h : ¬ 1114111 < capv v * β + d) : capv (v * β + d) = capv v * β + d := by
  unfold capv at h ⊢
  by_cases hv : 1114111 < v
  · rw [if_pos hv] at h
    have : 1114112 ≤ 1114112 * β := Nat.le_mul_of_pos_right _ hβ
    omega
  · rw [if_neg hv] at h ⊢
    rw [if_neg h]
theorem digs_yes (β : Nat) (c : UInt8) (r : List UInt8) (d : Nat) (h : digitB β c = some d) : digsN β (c :: r) = 1 + digsN β r ∧ ∀ v, valN β v (c :: r) = valN β (v * β + d) r := by
  simp [digsN, valN, h]
theorem digs_no (β : Nat) (c : UInt8) (r : List UInt8) (h : digitB β c = none) : digsN β (c :: r) = 0 ∧ ∀ v, valN β v (c :: r) = v := by
  simp [digsN, valN, h]
theorem digitZ_some (β : Nat) (c : UInt8) (d : Nat) (h : digitB β c = some d) : digitZ β c.toNat = d := by
  unfold digitZ
  rw [show UInt8.ofNat c.toNat = c from UInt8.ofNat_toNat, h]
theorem digitZ_none (β : Nat) (c : UInt8) (h : digitB β c = none) : digitZ β c.toNat = -1 := by
  unfold digitZ
  rw [show UInt8.ofNat c.toNat = c from UInt8.ofNat_toNat, h]
theorem digit_lt (β : Nat) (c : UInt8) (d : Nat) (h : digitB β c = some d) : d < β := by
  unfold digitB at h
  simp only at h
  split at h
  · split at h
    · rename_i hv
      cases h
      exact hv
    · simp at h
  · simp at h
theorem ne_lit (n : Nat) (k : Int) (h : (n : Int) ≠ k) : ((n : Int) == k) = false := beq_eq_false_iff_ne.2 h
theorem eq_lit (n : Nat) (k : Int) (h : (n : Int) = k) : ((n : Int) == k) = true := beq_iff_eq.2 h
/-- What the digits at a place say: read so far, and what is left. -/
def NumSt (β : Nat) (L l : List UInt8) (k v : Nat) : Prop := digsN β L = k + digsN β l ∧ valN β 0 L = valN β v l

/-- What At tells, of a place that need be none. -/
def atZ (attr : Bool) (l : List UInt8) (z : Int) : List UInt8 × Nat := if 0 ≤ z ∧ z < l.length then atL attr (l.drop z.toNat) else ([], 0)
theorem atZ_in (attr : Bool) (l : List UInt8) (p : Nat) (h : p < l.length) : atZ attr l (p : Int) = atL attr (l.drop p) := by
  unfold atZ
  rw [if_pos (by omega), show (p : Int).toNat = p by omega]
theorem atZ_out (attr : Bool) (l : List UInt8) (z : Int) (h : z < 0 ∨ (l.length : Int) ≤ z) : atZ attr l z = ([], 0) := by
  unfold atZ
  rw [if_neg (by omega)]
theorem at_other (attr : Bool) (s : ByteArray) (p : Nat) (h : p < s.size) (hc : (s[p]).toNat ≠ 38) : atL attr (s.data.toList.drop p) = ([], 0) := by
  rw [drop_cons s p h]
  simp only [atL]
  rw [if_neg (fun e => hc (by rw [e]; rfl))]
theorem at_amp (attr : Bool) (s : ByteArray) (p : Nat) (h : p < s.size) (hc : (s[p]).toNat = 38) : atL attr (s.data.toList.drop p) = refL attr (s.data.toList.drop (p + 1)) := by
  rw [drop_cons s p h]
  simp only [atL]
  rw [if_pos (UInt8.toNat_inj.1 hc)]
theorem ref_num (attr : Bool) (s : ByteArray) (p : Nat) (h : p + 1 < s.size) (hc : (s[p + 1]).toNat = 35) : refL attr (s.data.toList.drop (p + 1)) = if (numL (s.data.toList.drop (p + 2))).2 = 0 then ([38], 1) else numL (s.data.toList.drop (p + 2)) := by
  unfold refL
  rw [if_pos (by rw [drop_cons s (p + 1) h]; simp only [List.head?_cons]; rw [UInt8.toNat_inj.1 (show (s[p + 1]).toNat = (35 : UInt8).toNat from hc)])]
  rw [show (s.data.toList.drop (p + 1)).tail = s.data.toList.drop (p + 2) by rw [drop_cons s (p + 1) h]; rfl]
theorem ref_name (attr : Bool) (s : ByteArray) (p : Nat) (h : p + 1 = s.size ∨ ∃ h : p + 1 < s.size, (s[p + 1]).toNat ≠ 35) : refL attr (s.data.toList.drop (p + 1)) = match longL (s.data.toList.drop (p + 1)) with
    | none => ([38], 1)
    | some (c, n) => if attr && !((s.data.toList.drop (p + 1))[n - 1]? == some 59) && barredB (s.data.toList.drop (p + 1))[n]? then ([38], 1) else (Lib.encodeRune (c : Int), n + 1) := by
  have hh : ¬ (s.data.toList.drop (p + 1)).head? = some 35 := by
    rcases h with h | ⟨h, hc⟩
    · rw [drop_end s (p + 1) (by omega)]; simp
    · rw [drop_cons s (p + 1) h]
      simp only [List.head?_cons, Option.some.injEq]
      exact fun e => hc (by rw [e]; rfl)
  unfold refL
  rw [if_neg hh]
  rfl
theorem drop_at (s : ByteArray) (p k : Nat) (h : p + k < s.size) : (s.data.toList.drop p)[k]? = some s[p + k] := by
  have h2 : p + k < s.data.toList.length := by rw [← size_list]; exact h
  rw [List.getElem?_drop, List.getElem?_eq_getElem h2]
  rfl
theorem drop_at_end (s : ByteArray) (p k : Nat) (h : s.size ≤ p + k) : (s.data.toList.drop p)[k]? = none := by
  rw [List.getElem?_drop, List.getElem?_eq_none (by rw [← size_list]; exact h)]

theorem drop_at2 (s : ByteArray) (p k q : Nat) (hq : p + k = q) (h : q < s.size) : (s.data.toList.drop p)[k]? = some s[q] := by
  subst hq
  exact drop_at s p k h
theorem str_of (x : ByteArray) (R : List UInt8) (h : x.data.toList = R) : x = ⟨R.toArray⟩ := by
  subst h
  cases x
  simp
theorem str_app (a b : ByteArray) (x y : List UInt8) (ha : a.data.toList = x) (hb : b.data.toList = y) : (a ++ b).data.toList = x ++ y := by
  rw [ByteArray.data_append, Array.toList_append, ha, hb]
theorem one_byte (s : ByteArray) (k : Nat) (h : k < s.size) : (s.extract k (k + 1)).data.toList = [s[k]] := by
  rw [Lib.extract_data, Nat.add_sub_cancel_left, drop_cons s k h]; rfl
theorem encode_len (r : Int) : (Lib.encodeRune r).length ≤ 4 := by
  unfold Lib.encodeRune
  rw [List.length_map]
  exact (Lib.encodeRuneZ_length r).2
theorem numL_len (q : List UInt8) : (numL q).1.length ≤ 4 := by
  unfold numL
  cases q with
  | nil => simp
  | cons c r =>
    have h : ∀ base l, (digsL base l).1.length ≤ 4 := by
      intro base l
      unfold digsL
      split
      · simp
      · exact encode_len _
    simp only
    split
    · split
      · simp
      · exact h 16 r
    · split
      · simp
      · exact h 10 (c :: r)
theorem refL_len (attr : Bool) (r : List UInt8) : (refL attr r).1.length ≤ 4 := by
  unfold refL
  split
  · split
    · simp
    · exact numL_len _
  · split
    · simp
    · split
      · simp
      · exact encode_len _

theorem decL_len (attr : Bool) : ∀ l : List UInt8, (decL attr l).length ≤ 4 * l.length := by
  have key : ∀ k l, List.length l ≤ k → (decL attr l).length ≤ 4 * l.length := by
    intro k
    induction k with
    | zero =>
      intro l hl
      obtain rfl : l = [] := List.eq_nil_of_length_eq_zero (by omega)
      simp [decL_nil]
    | succ k ih =>
      intro l hl
      cases l with
      | nil => simp [decL_nil]
      | cons c r =>
        simp only [List.length_cons] at hl ⊢
        by_cases hc : c = 38
        · subst hc
          have hb := refL_bd attr r
          have h4 := refL_len attr r
          have hi := ih ((38 :: r).drop (refL attr r).2) (by rw [List.length_drop, List.length_cons]; omega)
          rw [List.length_drop, List.length_cons] at hi
          rw [decL_amp, List.length_append]
          omega
        · have hi := ih r (by omega)
          rw [decL_other _ _ _ hc, List.length_cons]
          omega
  exact fun l => key l.length l (Nat.le_refl _)
end Go.Proofs.YthoibenncjbkdaaDoor.S4
