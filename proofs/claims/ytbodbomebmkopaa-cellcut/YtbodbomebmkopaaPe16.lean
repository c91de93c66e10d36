/- Which cells join, said cell by cell. No program in it. -/
import Derived.Test.YtbodbomebmkopaaCe16
set_option linter.unusedVariables false
set_option linter.unusedSimpArgs false
namespace Go.Proofs.Ytbodbomebmkopaa

/-- All pieces are full but the last one, which is not empty. -/
def FullD : List (List UInt8) → Prop
  | [] => True
  | [d] => 1 ≤ d.length ∧ d.length ≤ 39
  | d :: e :: r => d.length = 39 ∧ FullD (e :: r)
theorem pieces_nil (k : Nat) : piecesF k [] = [] := by cases k <;> rfl
theorem full_head {d : List UInt8} {r : List (List UInt8)} (h : FullD (d :: r)) : 1 ≤ d.length ∧ d.length ≤ 39 := by
  cases r with
  | nil => exact h
  | cons e r => have := h.1; omega
theorem pieces_of : ∀ (ds : List (List UInt8)) (k : Nat), FullD ds → ds.length ≤ k → piecesF k ds.flatten = ds
  | [], k, _, _ => pieces_nil k
  | [d], 0, _, hk => by simp at hk
  | [d], k + 1, h, _ => by
    have h1 : d.length ≤ 39 := h.2
    have h2 : 1 ≤ d.length := h.1
    cases d with
    | nil => simp at h2
    | cons c b =>
      have e : [c :: b].flatten = c :: b := by simp
      rw [e, piecesF, List.take_of_length_le h1, List.drop_of_length_le h1, pieces_nil]
  | d :: e :: r, 0, _, hk => by simp at hk
  | d :: e :: r, k + 1, h, hk => by
    have h1 : d.length = 39 := h.1
    have ih := pieces_of (e :: r) k h.2 (by simp only [List.length_cons] at hk ⊢; omega)
    cases d with
    | nil => simp at h1
    | cons c b =>
      have e2 : ((c :: b) :: e :: r).flatten = c :: (b ++ (e :: r).flatten) := by simp
      have e3 : c :: (b ++ (e :: r).flatten) = (c :: b) ++ (e :: r).flatten := rfl
      rw [e2, piecesF, e3, ← h1, List.take_left, List.drop_left, ih]
theorem flat_len : ∀ (ds : List (List UInt8)), FullD ds → ds.flatten.length ≤ 39 * ds.length ∧ 39 * ds.length ≤ ds.flatten.length + 38
  | [], _ => by simp
  | [d], h => by
    have h1 := h.1
    have h2 := h.2
    simp only [List.flatten_cons, List.flatten_nil, List.append_nil, List.length_cons, List.length_nil]
    omega
  | d :: e :: r, h => by
    have ih := flat_len (e :: r) h.2
    have h1 := h.1
    rw [List.flatten_cons, List.length_append, List.length_cons]
    omega
theorem pieces_full : ∀ (k : Nat) (b : List UInt8), b.length ≤ 39 * k → FullD (piecesF k b)
  | 0, b, h => by cases b with | nil => exact trivial | cons c b => simp at h
  | k + 1, [], _ => trivial
  | k + 1, c :: b, h => by
    have ih := pieces_full k ((c :: b).drop 39) (by rw [List.length_drop]; omega)
    have hl : ((c :: b).take 39).length = min 39 (c :: b).length := List.length_take ..
    rw [piecesF]
    cases hp : piecesF k ((c :: b).drop 39) with
    | nil =>
      refine ⟨?_, ?_⟩
      · rw [hl, List.length_cons]; omega
      · rw [hl]; omega
    | cons e r =>
      rw [hp] at ih
      refine ⟨?_, ih⟩
      rw [hl]
      cases hd : (c :: b).drop 39 with
      | nil => rw [hd, pieces_nil] at hp; cases hp
      | cons x y =>
        have := congrArg List.length hd
        rw [List.length_drop, List.length_cons (a := x)] at this
        omega
theorem full_get : ∀ (ds : List (List UInt8)), FullD ds → ∀ i (hi : i < ds.length), (if i + 1 = ds.length then 1 else 39) ≤ ds[i].length ∧ ds[i].length ≤ 39
  | [], _, i, hi => by simp at hi
  | [d], h, 0, _ => by
    have h1 : 1 ≤ d.length ∧ d.length ≤ 39 := h
    simpa using h1
  | [d], h, i + 1, hi => by simp at hi
  | d :: e :: r, h, 0, _ => by
    have h1 := h.1
    show (if 0 + 1 = (d :: e :: r).length then 1 else 39) ≤ d.length ∧ d.length ≤ 39
    rw [if_neg (by simp), h1]
    omega
  | d :: e :: r, h, i + 1, hi => by
    have ih := full_get (e :: r) h.2 i (by simpa using hi)
    show (if i + 1 + 1 = (e :: r).length + 1 then 1 else 39) ≤ ((e :: r)[i]'(by simpa using hi)).length ∧ ((e :: r)[i]'(by simpa using hi)).length ≤ 39
    by_cases hh : i + 1 = (e :: r).length
    · rw [if_pos hh] at ih
      rw [if_pos (by omega)]
      exact ih
    · rw [if_neg hh] at ih
      rw [if_neg (by omega)]
      exact ih
theorem full_of : ∀ (ds : List (List UInt8)), (∀ i (hi : i < ds.length), (if i + 1 = ds.length then 1 else 39) ≤ ds[i].length ∧ ds[i].length ≤ 39) → FullD ds
  | [], _ => trivial
  | [d], h => by
    have h1 : 1 ≤ d.length ∧ d.length ≤ 39 := by simpa using h 0 (by simp)
    exact h1
  | d :: e :: r, h => by
    refine ⟨?_, full_of (e :: r) fun i hi => ?_⟩
    · have h0 := h 0 (by simp)
      rw [if_neg (by simp)] at h0
      have : ((d :: e :: r)[0]'(by simp)).length = d.length := rfl
      omega
    · have h1 := h (i + 1) (by simpa using hi)
      change (if i + 1 + 1 = (e :: r).length + 1 then 1 else 39) ≤ (e :: r)[i].length ∧ (e :: r)[i].length ≤ 39 at h1
      by_cases hh : i + 1 = (e :: r).length
      · rw [if_pos (by omega)] at h1
        rw [if_pos hh]
        exact h1
      · rw [if_neg (by omega)] at h1
        rw [if_neg hh]
        exact h1
theorem cells_len (e l : Nat) (n : Int) : ∀ (i : Nat) (ds : List (List UInt8)), (cellsF e l n i ds).length = ds.length
  | _, [] => rfl
  | i, d :: ds => by rw [cellsF, List.length_cons, List.length_cons, cells_len e l n (i + 1) ds]
theorem cells_get (e l : Nat) (n : Int) : ∀ (ds : List (List UInt8)) (i j : Nat) (hj : j < ds.length), (cellsF e l n i ds)[j]? = some ⟨e, l, ((i + j : Nat) : Int), n, ds[j]⟩
  | [], i, j, hj => by simp at hj
  | d :: ds, i, 0, _ => rfl
  | d :: ds, i, j + 1, hj => by
    rw [cellsF, List.getElem?_cons_succ, cells_get e l n ds (i + 1) j (by simpa using hj), show i + 1 + j = i + (j + 1) by omega]
    rfl
theorem cells_of (e li : Nat) (n : Int) : ∀ (l : List CL) (i : Nat), (∀ j (hj : j < l.length), l[j].ep = e ∧ l[j].li = li ∧ l[j].part = ((i + j : Nat) : Int) ∧ l[j].of = n) → cellsF e li n i (l.map CL.data) = l
  | [], _, _ => rfl
  | c :: r, i, h => by
    have h0 : c.ep = e ∧ c.li = li ∧ c.part = ((i + 0 : Nat) : Int) ∧ c.of = n := h 0 (by simp)
    rw [List.map_cons, cellsF, cells_of e li n r (i + 1) fun j hj => by
      have h1 := h (j + 1) (by simpa using hj)
      have e1 : ((c :: r)[j + 1]'(by simpa using hj)) = r[j] := rfl
      rw [e1, show i + (j + 1) = i + 1 + j by omega] at h1
      exact h1]
    obtain ⟨ep, l2, p, o, d⟩ := c
    simp only [Nat.add_zero] at h0
    obtain ⟨rfl, rfl, rfl, rfl⟩ := h0
    rfl
/-- A cell in its place of a record of n cells. -/
def CellAt (e li n i : Nat) (c : CL) : Prop := c.ep = e ∧ c.li = li ∧ c.part = (i : Int) ∧ c.of = (n : Int) ∧ (if i + 1 = n then 1 else 39) ≤ c.data.length ∧ c.data.length ≤ 39
def JoinsC (l : List CL) : Prop := ∃ c r, l = c :: r ∧ l.length ≤ 65535 ∧ ∀ i (hi : i < l.length), CellAt c.ep c.li l.length i l[i]
theorem join_yes {l : List CL} (h : JoinsC l) : joinC l = some (dataC l) := by
  obtain ⟨c, r, rfl, hl, ha⟩ := h
  have hf : FullD ((c :: r).map CL.data) := full_of _ fun i hi => by
    rw [List.length_map] at hi
    have h1 := (ha i hi).2.2.2.2
    rw [List.length_map, List.getElem_map]
    exact h1
  have hfl := flat_len _ hf
  rw [List.length_map] at hfl
  have hn : 1 ≤ (c :: r).length := by simp
  show (if samesC (cutC (dataC (c :: r)) c.ep c.li) (c :: r) then some (dataC (c :: r)) else none) = _
  have hd : dataC (c :: r) = ((c :: r).map CL.data).flatten := rfl
  rw [if_pos]
  refine samesC_iff.2 ?_
  rw [hd, cutC, if_neg (by omega), pieces_of _ _ hf (by rw [List.length_map]; omega)]
  rw [show (((c :: r).map CL.data).flatten.length + 38) / 39 = (c :: r).length by omega]
  refine cells_of _ _ _ _ _ fun j hj => ?_
  have h1 := ha j hj
  rw [Nat.zero_add]
  exact ⟨h1.1, h1.2.1, h1.2.2.1, h1.2.2.2.1⟩
theorem join_no {l : List CL} (h : ¬ JoinsC l) : joinC l = none := by
  cases l with
  | nil => rfl
  | cons c r =>
    show (if samesC (cutC (dataC (c :: r)) c.ep c.li) (c :: r) then some (dataC (c :: r)) else none) = _
    rw [if_neg]
    intro hs
    have hc := samesC_iff.1 hs
    rw [cutC] at hc
    split at hc
    · cases hc
    · next g =>
      have hp := pieces_len (dataC (c :: r)).length (dataC (c :: r)) (by omega)
      have hf := pieces_full (dataC (c :: r)).length (dataC (c :: r)) (by omega)
      have hlen : (c :: r).length = ((dataC (c :: r)).length + 38) / 39 := by
        have h1 := cells_len c.ep c.li (((dataC (c :: r)).length + 38) / 39 : Nat) 0 (piecesF (dataC (c :: r)).length (dataC (c :: r)))
        rw [hc, hp] at h1
        exact h1
      refine h ⟨c, r, rfl, by omega, ?_⟩
      intro i hi
      have hi2 : i < (piecesF (dataC (c :: r)).length (dataC (c :: r))).length := by omega
      have hg := cells_get c.ep c.li (((dataC (c :: r)).length + 38) / 39 : Nat) (piecesF (dataC (c :: r)).length (dataC (c :: r))) 0 i hi2
      rw [hc, List.getElem?_eq_getElem hi, Nat.zero_add] at hg
      injection hg with hg
      have hfu := full_get _ hf i hi2
      rw [hp, ← hlen] at hfu
      rw [hg]
      refine ⟨rfl, rfl, rfl, ?_, hfu.1, hfu.2⟩
      show ((((dataC (c :: r)).length + 38) / 39 : Nat) : Int) = _
      rw [← hlen]
end Go.Proofs.Ytbodbomebmkopaa
