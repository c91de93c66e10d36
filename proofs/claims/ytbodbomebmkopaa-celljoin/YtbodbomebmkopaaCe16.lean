/- Cells, plainly: over lists of bytes. No program in it. -/
import Derived.Test.YtbodbomebmkopaaCr15
set_option linter.unusedVariables false
set_option linter.unusedSimpArgs false
namespace Go.Proofs.Ytbodbomebmkopaa

/-- A number in so many bytes, the highest first. -/
def putB (n : Nat) : Nat → List UInt8
  | 0 => []
  | k + 1 => UInt8.ofNat (n / 256 ^ k) :: putB n k
/-- The number that bytes are, behind what was read before. -/
def numF (n : Nat) (l : List UInt8) : Nat := l.foldl (fun n c => n * 256 + c.toNat) n
def numB (l : List UInt8) : Nat := numF 0 l
theorem put_len (n : Nat) : ∀ k, (putB n k).length = k
  | 0 => rfl
  | k + 1 => by rw [putB, List.length_cons, put_len n k]
theorem num_from : ∀ (l : List UInt8) (n : Nat), numF n l = n * 256 ^ l.length + numF 0 l
  | [], n => by simp [numF]
  | c :: l, n => by
    have h1 := num_from l (n * 256 + c.toNat)
    have h2 := num_from l (0 * 256 + c.toNat)
    have e1 : numF n (c :: l) = numF (n * 256 + c.toNat) l := rfl
    have e2 : numF 0 (c :: l) = numF (0 * 256 + c.toNat) l := rfl
    rw [e1, e2, h1, h2, List.length_cons, Nat.pow_succ]
    rw [Nat.zero_mul, Nat.zero_add, Nat.add_mul, Nat.mul_assoc, Nat.mul_comm 256, Nat.add_assoc]
theorem num_lt : ∀ (l : List UInt8), numB l < 256 ^ l.length
  | [] => by simp [numB, numF]
  | c :: l => by
    have h := num_lt l
    have hc := c.toNat_lt
    have e : numB (c :: l) = numF c.toNat l := by
      show numF (0 * 256 + c.toNat) l = _
      rw [Nat.zero_mul, Nat.zero_add]
    rw [e, num_from]
    have : numF 0 l < 256 ^ l.length := h
    rw [List.length_cons, Nat.pow_succ, Nat.mul_comm]
    have h3 : 256 ^ l.length * c.toNat + 256 ^ l.length ≤ 256 ^ l.length * 256 := by
      rw [← Nat.mul_succ]; exact Nat.mul_le_mul_left _ hc
    omega
theorem put_mod : ∀ (k n : Nat), numB (putB n k) = n % 256 ^ k
  | 0, n => by simp [putB, numB, numF, Nat.mod_one]
  | k + 1, n => by
    have e : numB (putB n (k + 1)) = numF (UInt8.ofNat (n / 256 ^ k)).toNat (putB n k) := by
      show numF (0 * 256 + _) _ = _
      rw [Nat.zero_mul, Nat.zero_add]
    have h := put_mod k n
    rw [e, num_from, put_len]
    have : numF 0 (putB n k) = n % 256 ^ k := h
    rw [this, UInt8.toNat_ofNat', show 256 ^ (k + 1) = 256 ^ k * 256 from Nat.pow_succ .., Nat.mod_mul (a := 256 ^ k), Nat.mul_comm, Nat.add_comm]
theorem num_put {n k : Nat} (h : n < 256 ^ k) : numB (putB n k) = n := by rw [put_mod, Nat.mod_eq_of_lt h]
theorem put_inj {n m k : Nat} (hn : n < 256 ^ k) (hm : m < 256 ^ k) (h : putB n k = putB m k) : n = m := by
  rw [← num_put hn, ← num_put hm, h]

/-- A cell. -/
structure CL where
  ep : Nat
  li : Nat
  part : Int
  of : Int
  data : List UInt8
abbrev mayC (c : CL) : Prop := 0 ≤ c.part ∧ c.part < c.of ∧ c.of ≤ 65535 ∧ c.data.length ≤ 39
def headC (c : CL) : List UInt8 := putB c.ep 8 ++ (putB c.li 8 ++ (putB c.part.toNat 2 ++ (putB c.of.toNat 2 ++ (putB c.data.length 1 ++ c.data))))
def bodyC (c : CL) : List UInt8 := headC c ++ List.replicate (39 - c.data.length) 0
def encC (c : CL) : List UInt8 := bodyC c ++ putB (sumB (bodyC c)).toNat 4
/-- What bytes are, read loosely. -/
def readC (b : List UInt8) : CL :=
  ⟨numB (b.take 8), numB ((b.drop 8).take 8), numB ((b.drop 16).take 2), numB ((b.drop 18).take 2), (b.drop 21).take (numB ((b.drop 20).take 1))⟩
def decC (b : List UInt8) : Option CL :=
  if b.length = 64 ∧ numB ((b.drop 20).take 1) ≤ 39 ∧ mayC (readC b) ∧ encC (readC b) = b then some (readC b) else none

theorem head_len (c : CL) : (headC c).length = 21 + c.data.length := by
  simp only [headC, List.length_append, put_len]; omega
theorem body_len (c : CL) (h : c.data.length ≤ 39) : (bodyC c).length = 60 := by
  rw [bodyC, List.length_append, head_len, List.length_replicate]; omega
theorem enc_len (c : CL) (h : c.data.length ≤ 39) : (encC c).length = 64 := by
  rw [encC, List.length_append, body_len c h, put_len]

theorem drop_put (n k : Nat) (l : List UInt8) : (putB n k ++ l).drop k = l := by
  conv => lhs; arg 1; rw [← put_len n k]
  exact List.drop_left
theorem take_put (n k : Nat) (l : List UInt8) : (putB n k ++ l).take k = putB n k := by
  conv => lhs; arg 1; rw [← put_len n k]
  exact List.take_left

theorem read_enc (c : CL) (hm : mayC c) (he : c.ep < 2 ^ 64) (hl : c.li < 2 ^ 64) :
    readC (encC c) = c ∧ numB (((encC c).drop 20).take 1) = c.data.length := by
  obtain ⟨h0, h1, h2, h3⟩ := hm
  obtain ⟨ep, li, part, of, data⟩ := c
  simp only at h0 h1 h2 h3 he hl
  generalize ht : List.replicate (39 - data.length) (0 : UInt8) ++ putB (sumB (bodyC ⟨ep, li, part, of, data⟩)).toNat 4 = t
  have e0 : encC ⟨ep, li, part, of, data⟩ = putB ep 8 ++ (putB li 8 ++ (putB part.toNat 2 ++ (putB of.toNat 2 ++ (putB data.length 1 ++ (data ++ t))))) := by
    rw [← ht, encC]
    conv => lhs; arg 1; rw [bodyC]
    simp only [headC, List.append_assoc]
  have d8 : (encC ⟨ep, li, part, of, data⟩).drop 8 = putB li 8 ++ (putB part.toNat 2 ++ (putB of.toNat 2 ++ (putB data.length 1 ++ (data ++ t)))) := by rw [e0, drop_put]
  have d16 : (encC ⟨ep, li, part, of, data⟩).drop 16 = putB part.toNat 2 ++ (putB of.toNat 2 ++ (putB data.length 1 ++ (data ++ t))) := by
    rw [show (16 : Nat) = 8 + 8 from rfl, ← List.drop_drop, d8, drop_put]
  have d18 : (encC ⟨ep, li, part, of, data⟩).drop 18 = putB of.toNat 2 ++ (putB data.length 1 ++ (data ++ t)) := by
    rw [show (18 : Nat) = 16 + 2 from rfl, ← List.drop_drop, d16, drop_put]
  have d20 : (encC ⟨ep, li, part, of, data⟩).drop 20 = putB data.length 1 ++ (data ++ t) := by
    rw [show (20 : Nat) = 18 + 2 from rfl, ← List.drop_drop, d18, drop_put]
  have d21 : (encC ⟨ep, li, part, of, data⟩).drop 21 = data ++ t := by
    rw [show (21 : Nat) = 20 + 1 from rfl, ← List.drop_drop, d20, drop_put]
  have n1 : numB (((encC ⟨ep, li, part, of, data⟩).drop 20).take 1) = data.length := by
    rw [d20, take_put, num_put (by omega)]
  refine ⟨?_, n1⟩
  rw [readC, n1, d8, d16, d18, d21, take_put, take_put, take_put, List.take_left]
  rw [num_put (show li < 256 ^ 8 by omega), num_put (show part.toNat < 256 ^ 2 by omega), num_put (show of.toNat < 256 ^ 2 by omega)]
  rw [e0, take_put, num_put (show ep < 256 ^ 8 by omega), Int.toNat_of_nonneg h0, Int.toNat_of_nonneg (by omega)]
/-- P16.2: what is encoded is decoded as it was. -/
theorem dec_enc (c : CL) (hm : mayC c) (he : c.ep < 2 ^ 64) (hl : c.li < 2 ^ 64) : decC (encC c) = some c := by
  have ⟨r, n⟩ := read_enc c hm he hl
  rw [decC, r, if_pos ⟨enc_len c hm.2.2.2, by rw [n]; exact hm.2.2.2, hm, rfl⟩]
/-- P16.2: what is decoded is encoded as it was. -/
theorem enc_dec {b : List UInt8} {c : CL} (h : decC b = some c) : b.length = 64 ∧ mayC c ∧ encC c = b ∧ c = readC b := by
  rw [decC] at h
  split at h
  · next g =>
    cases h
    exact ⟨g.1, g.2.2.1, g.2.2.2, rfl⟩
  · cases h
theorem enc_take (c : CL) (h : c.data.length ≤ 39) : (encC c).take 60 = bodyC c := by
  rw [encC, ← body_len c h, List.take_left]
theorem enc_drop (c : CL) (h : c.data.length ≤ 39) : (encC c).drop 60 = putB (sumB ((encC c).take 60)).toNat 4 := by
  rw [enc_take c h, encC]
  conv => lhs; arg 1; rw [← body_len c h]
  exact List.drop_left
/-- P16.3: with one byte another one they are none of any cell. -/
theorem dec_one {a b : List UInt8} {x y : UInt8} {c : CL} (h : decC (a ++ x :: b) = some c) (hn : x ≠ y) : decC (a ++ y :: b) = none := by
  cases hd : decC (a ++ y :: b) with
  | none => rfl
  | some d =>
    exfalso
    obtain ⟨l1, m1, e1, -⟩ := enc_dec h
    obtain ⟨l2, m2, e2, -⟩ := enc_dec hd
    have s1 := enc_drop c m1.2.2.2
    have s2 := enc_drop d m2.2.2.2
    rw [e1] at s1
    rw [e2] at s2
    by_cases ha : a.length < 60
    · obtain ⟨k, hk⟩ : ∃ k, 60 = a.length + (k + 1) := ⟨59 - a.length, by omega⟩
      have t1 : (a ++ x :: b).take 60 = a ++ x :: b.take k := by rw [hk, List.take_length_add_append, List.take_succ_cons]
      have t2 : (a ++ y :: b).take 60 = a ++ y :: b.take k := by rw [hk, List.take_length_add_append, List.take_succ_cons]
      have u1 : (a ++ x :: b).drop 60 = b.drop k := by rw [hk, List.drop_length_add_append, List.drop_succ_cons]
      have u2 : (a ++ y :: b).drop 60 = b.drop k := by rw [hk, List.drop_length_add_append, List.drop_succ_cons]
      rw [u1, t1] at s1
      rw [u2, t2] at s2
      have q := put_inj (BitVec.isLt _) (BitVec.isLt _) (s1.symm.trans s2)
      exact hn ((sum_one _ _ _ _).1 (BitVec.eq_of_toNat_eq q))
    · have hk : 60 ≤ a.length := by omega
      have t1 : (a ++ x :: b).take 60 = a.take 60 := List.take_append_of_le_length hk
      have t2 : (a ++ y :: b).take 60 = a.take 60 := List.take_append_of_le_length hk
      rw [t1] at s1
      rw [t2] at s2
      have w : a ++ x :: b = a ++ y :: b := by
        rw [← List.take_append_drop 60 (a ++ x :: b), ← List.take_append_drop 60 (a ++ y :: b), s1, s2, t1, t2]
      have := List.append_cancel_left w
      cases this
      exact hn rfl

/-- A record's pieces: at most k of them, of 39 bytes each but the last. -/
def piecesF : Nat → List UInt8 → List (List UInt8)
  | 0, _ => []
  | _ + 1, [] => []
  | k + 1, c :: b => (c :: b).take 39 :: piecesF k ((c :: b).drop 39)
theorem pieces_join : ∀ (k : Nat) (b : List UInt8), b.length ≤ 39 * k → (piecesF k b).flatten = b
  | 0, b, h => by cases b with | nil => rfl | cons c b => simp at h
  | k + 1, [], _ => rfl
  | k + 1, c :: b, h => by
    rw [piecesF, List.flatten_cons, pieces_join k _ (by rw [List.length_drop]; omega), List.take_append_drop]
theorem pieces_len : ∀ (k : Nat) (b : List UInt8), b.length ≤ 39 * k → (piecesF k b).length = (b.length + 38) / 39
  | 0, b, h => by cases b with | nil => rfl | cons c b => simp at h
  | k + 1, [], _ => rfl
  | k + 1, c :: b, h => by
    rw [piecesF, List.length_cons, pieces_len k _ (by rw [List.length_drop]; omega), List.length_drop]
    simp only [List.length_cons] at h ⊢
    omega
theorem pieces_short : ∀ (k : Nat) (b d : List UInt8), d ∈ piecesF k b → d.length ≤ 39 ∧ 0 < d.length
  | 0, _, _, h => by cases h
  | _ + 1, [], _, h => by cases h
  | k + 1, c :: b, d, h => by
    rw [piecesF] at h
    rcases List.mem_cons.1 h with h | h
    · subst h
      rw [List.length_take]
      simp only [List.length_cons]
      omega
    · exact pieces_short k _ d h
/-- The cells of a record's pieces, from the i-th on. -/
def cellsF (e l : Nat) (n : Int) : Nat → List (List UInt8) → List CL
  | _, [] => []
  | i, d :: ds => ⟨e, l, i, n, d⟩ :: cellsF e l n (i + 1) ds
def cutC (b : List UInt8) (e l : Nat) : List CL :=
  if b.length > 65535 * 39 then [] else cellsF e l ((b.length + 38) / 39 : Nat) 0 (piecesF b.length b)
theorem cells_data (e l : Nat) (n : Int) : ∀ (i : Nat) (ds : List (List UInt8)), (cellsF e l n i ds).map CL.data = ds
  | _, [] => rfl
  | i, d :: ds => by rw [cellsF, List.map_cons, cells_data e l n (i + 1) ds]
def sameC (a b : CL) : Bool := decide (a.ep = b.ep) && (decide (a.li = b.li) && (decide (a.part = b.part) && (decide (a.of = b.of) && decide (a.data = b.data))))
theorem sameC_iff {a b : CL} : sameC a b = true ↔ a = b := by
  unfold sameC
  simp only [Bool.and_eq_true, decide_eq_true_eq]
  constructor
  · rintro ⟨h1, h2, h3, h4, h5⟩
    cases a
    cases b
    simp_all
  · rintro rfl
    exact ⟨rfl, rfl, rfl, rfl, rfl⟩
def samesC : List CL → List CL → Bool
  | [], [] => true
  | a :: l, b :: m => sameC a b && samesC l m
  | _, _ => false
theorem samesC_iff : ∀ {l m : List CL}, samesC l m = true ↔ l = m
  | [], [] => by simp [samesC]
  | a :: l, [] => by simp [samesC]
  | [], b :: m => by simp [samesC]
  | a :: l, b :: m => by
    unfold samesC
    rw [Bool.and_eq_true, sameC_iff, samesC_iff, List.cons.injEq]
def dataC (l : List CL) : List UInt8 := (l.map CL.data).flatten
def joinC (l : List CL) : Option (List UInt8) :=
  match l with
  | [] => none
  | c :: _ => if samesC (cutC (dataC l) c.ep c.li) l then some (dataC l) else none
theorem cut_data (b : List UInt8) (e l : Nat) (h : b.length ≤ 65535 * 39) : dataC (cutC b e l) = b := by
  rw [dataC, cutC, if_neg (by omega), cells_data, pieces_join _ _ (by omega)]
/-- P16.2: what is cut is joined as it was. -/
theorem cut_join (b : List UInt8) (e l : Nat) (h : b.length ≤ 65535 * 39) : joinC (cutC b e l) = if b = [] then none else some b := by
  cases b with
  | nil => rfl
  | cons x b =>
    have hd := cut_data (x :: b) e l h
    obtain ⟨n, d, ds, hc⟩ : ∃ n d ds, cutC (x :: b) e l = ⟨e, l, 0, n, d⟩ :: ds := by
      rw [cutC, if_neg (by omega)]
      exact ⟨_, _, _, rfl⟩
    rw [if_neg (List.cons_ne_nil _ _), hc]
    show (if samesC (cutC (dataC (⟨e, l, 0, n, d⟩ :: ds)) e l) (⟨e, l, 0, n, d⟩ :: ds) then some (dataC (⟨e, l, 0, n, d⟩ :: ds)) else none) = _
    rw [← hc, hd, if_pos (samesC_iff.2 rfl)]
/-- Each cell of a record may be. -/
theorem cells_may (e l n : Nat) (hn : n ≤ 65535) : ∀ (i : Nat) (ds : List (List UInt8)), i + ds.length ≤ n → (∀ d ∈ ds, d.length ≤ 39) →
    ∀ c ∈ cellsF e l n i ds, mayC c ∧ c.ep = e ∧ c.li = l
  | _, [], _, _, c, h => by cases h
  | i, d :: ds, h1, h2, c, h => by
    rw [cellsF] at h
    simp only [List.length_cons] at h1
    rcases List.mem_cons.1 h with h | h
    · subst h
      refine ⟨⟨?_, ?_, ?_, h2 d (List.mem_cons_self ..)⟩, rfl, rfl⟩
      · exact Int.natCast_nonneg _
      · show (i : Int) < n
        omega
      · show (n : Int) ≤ 65535
        omega
    · exact cells_may e l n hn (i + 1) ds (by omega) (fun d h => h2 d (List.mem_cons_of_mem _ h)) c h
theorem cut_may (b : List UInt8) (e l : Nat) : ∀ c ∈ cutC b e l, mayC c ∧ c.ep = e ∧ c.li = l := by
  intro c h
  rw [cutC] at h
  split at h
  · cases h
  · next g =>
    exact cells_may e l _ (by omega) 0 _ (by rw [pieces_len _ _ (by omega)]; omega) (fun d hd => (pieces_short _ _ d hd).1) c h
end Go.Proofs.Ytbodbomebmkopaa
