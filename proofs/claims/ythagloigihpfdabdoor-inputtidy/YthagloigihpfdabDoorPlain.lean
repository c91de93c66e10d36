/- The pieces of a text, plainly: what Piece, Decode, Valid, Count, Lines and Text come to over lists of bytes, and how the model's own decoder goes through them. No program in it. -/
import Derived.Lib.DecodeN
import Derived.Lib.RuneBytes
set_option linter.unusedVariables false
set_option linter.unusedSimpArgs false
namespace Go.Proofs.YthagloigihpfdabDoor

/-- How many bytes stand behind a first byte. -/
def need (b : Nat) : Nat := if b < 194 then 0 else if b < 224 then 1 else if b < 240 then 2 else if b < 245 then 3 else 0
def secLo (b : Nat) : Nat := if b = 224 then 160 else if b = 240 then 144 else 128
def secHi (b : Nat) : Nat := if b = 237 then 159 else if b = 244 then 143 else 191

/-- How many of the next bytes fit, at most k, the first between lo and hi, the others 128 to 191. -/
def runL : Nat → Nat → Nat → List UInt8 → Nat
  | 0, _, _, _ => 0
  | _ + 1, _, _, [] => 0
  | k + 1, lo, hi, c :: r => if lo ≤ c.toNat ∧ c.toNat ≤ hi then 1 + runL k 128 191 r else 0

/-- The first piece's length. -/
def pieceL : List UInt8 → Nat
  | [] => 0
  | b :: r => 1 + runL (need b.toNat) (secLo b.toNat) (secHi b.toNat) r

/-- Is the first piece good? -/
def goodL : List UInt8 → Bool
  | [] => false
  | b :: r => decide (b.toNat < 128) || (decide (1 ≤ need b.toNat) && decide (runL (need b.toNat) (secLo b.toNat) (secHi b.toNat) r = need b.toNat))

theorem runL_le (k lo hi : Nat) (l : List UInt8) : runL k lo hi l ≤ k ∧ runL k lo hi l ≤ l.length := by
  induction k generalizing lo hi l with
  | zero => simp [runL]
  | succ k ih =>
    cases l with
    | nil => simp [runL]
    | cons c r =>
      have := ih 128 191 r
      simp only [runL]
      split <;> simp <;> omega

theorem need_le (b : Nat) : need b ≤ 3 := by
  unfold need; repeat' split
  all_goals omega

theorem pieceL_bd (l : List UInt8) (h : l ≠ []) : 1 ≤ pieceL l ∧ pieceL l ≤ l.length ∧ pieceL l ≤ 4 := by
  cases l with
  | nil => exact absurd rfl h
  | cons b r =>
    have h1 := runL_le (need b.toNat) (secLo b.toNat) (secHi b.toNat) r
    have h2 := need_le b.toNat
    simp only [pieceL, List.length_cons]
    omega

/-- The bytes within a piece, but the first, are 128 to 191. -/
theorem runL_cont (k lo hi : Nat) (hlo : 128 ≤ lo) (hhi : hi ≤ 191) (l : List UInt8) (j : Nat) (h : j < runL k lo hi l) : ∃ c, l[j]? = some c ∧ 128 ≤ c.toNat ∧ c.toNat ≤ 191 := by
  induction k generalizing lo hi l j with
  | zero => simp [runL] at h
  | succ k ih =>
    cases l with
    | nil => simp [runL] at h
    | cons c r =>
      simp only [runL] at h
      split at h
      · rename_i hc
        cases j with
        | zero => exact ⟨c, rfl, by omega, by omega⟩
        | succ j =>
          obtain ⟨d, hd⟩ := ih 128 191 (by omega) (by omega) r j (by omega)
          exact ⟨d, by simpa using hd.1, hd.2⟩
      · omega

theorem secLo_ge (b : Nat) : 128 ≤ secLo b := by
  unfold secLo; repeat' split
  all_goals omega
theorem secHi_le (b : Nat) : secHi b ≤ 191 := by
  unfold secHi; repeat' split
  all_goals omega

theorem pieceL_cont (l : List UInt8) (j : Nat) (h1 : 1 ≤ j) (h : j < pieceL l) : ∃ c, l[j]? = some c ∧ 128 ≤ c.toNat ∧ c.toNat ≤ 191 := by
  cases l with
  | nil => simp [pieceL] at h
  | cons b r =>
    obtain ⟨i, rfl⟩ : ∃ i, j = i + 1 := ⟨j - 1, by omega⟩
    simp only [pieceL] at h
    obtain ⟨c, hc⟩ := runL_cont (need b.toNat) _ _ (secLo_ge b.toNat) (secHi_le b.toNat) r i (by omega)
    exact ⟨c, by simpa using hc.1, hc.2⟩

/-- The model's decoder over a list. -/
def byteN (l : List UInt8) (k : Nat) : Nat := (l.getD k 0).toNat
def decL1 (l : List UInt8) : Nat × Nat := Go.Lib.decodeN l.length (byteN l 0) (byteN l 1) (byteN l 2) (byteN l 3)

theorem byteN_lt (l : List UInt8) (k : Nat) : byteN l k < 256 := (l.getD k 0).toNat_lt

theorem getBang_eq (s : ByteArray) (i : Nat) : (s.get! i).toNat = byteN s.data.toList i := by
  unfold byteN
  rw [List.getD_eq_getElem?_getD]
  show (s.data[i]!).toNat = _
  rw [Array.getElem?_toList]
  by_cases h : i < s.data.size
  · rw [getElem!_pos s.data i h, getElem?_pos s.data i h]
    rfl
  · rw [getElem!_neg s.data i h, getElem?_neg s.data i h]
    rfl

theorem decode_list (s : ByteArray) (i : Nat) : Utf8.decode s i = decL1 (s.data.toList.drop i) := by
  rw [Go.Lib.decode_at]
  have hb : ∀ k, (s.get! (i + k)).toNat = byteN (s.data.toList.drop i) k := by
    intro k
    rw [getBang_eq]
    simp [byteN, List.getD_eq_getElem?_getD]
  have h0 := hb 0
  simp only [Nat.add_zero] at h0
  have hl : s.size - i = (s.data.toList.drop i).length := by
    rw [List.length_drop, Array.length_toList]
    rfl
  unfold decL1
  rw [h0, hb 1, hb 2, hb 3, hl]

/-! ### the decoder, class by class -/
def twoOk (n b0 b1 : Nat) : Prop := 194 ≤ b0 ∧ b0 < 224 ∧ 1 < n ∧ 128 ≤ b1 ∧ b1 ≤ 191
def threeOk (n b0 b1 b2 : Nat) : Prop := 224 ≤ b0 ∧ b0 < 240 ∧ 2 < n ∧ secLo b0 ≤ b1 ∧ b1 ≤ secHi b0 ∧ 128 ≤ b2 ∧ b2 ≤ 191
def fourOk (n b0 b1 b2 b3 : Nat) : Prop := 240 ≤ b0 ∧ b0 < 245 ∧ 3 < n ∧ secLo b0 ≤ b1 ∧ b1 ≤ secHi b0 ∧ 128 ≤ b2 ∧ b2 ≤ 191 ∧ 128 ≤ b3 ∧ b3 ≤ 191

theorem dec_one (n b0 b1 b2 b3 : Nat) (h : b0 < 128) : Go.Lib.decodeN n b0 b1 b2 b3 = (b0, 1) := by
  unfold Go.Lib.decodeN; rw [if_pos h]
theorem dec_two (n b0 b1 b2 b3 : Nat) (h : twoOk n b0 b1) : Go.Lib.decodeN n b0 b1 b2 b3 = (b0 % 32 * 64 + b1 % 64, 2) := by
  unfold twoOk at h
  unfold Go.Lib.decodeN
  rw [if_neg (by omega), if_pos (by omega), if_pos (by omega)]
theorem dec_three (n b0 b1 b2 b3 : Nat) (h : threeOk n b0 b1 b2) : Go.Lib.decodeN n b0 b1 b2 b3 = (b0 % 16 * 4096 + b1 % 64 * 64 + b2 % 64, 3) := by
  unfold threeOk secLo secHi at h
  unfold Go.Lib.decodeN
  have hb1 : b1 / 64 = 2 := by (repeat' split at h) <;> omega
  rw [if_neg (by omega), if_neg (by omega), if_pos (by omega), if_pos ?_]
  (repeat' split at h) <;> omega
theorem dec_four (n b0 b1 b2 b3 : Nat) (h : fourOk n b0 b1 b2 b3) : Go.Lib.decodeN n b0 b1 b2 b3 = (b0 % 8 * 262144 + b1 % 64 * 4096 + b2 % 64 * 64 + b3 % 64, 4) := by
  unfold fourOk secLo secHi at h
  unfold Go.Lib.decodeN
  have hb1 : b1 / 64 = 2 := by (repeat' split at h) <;> omega
  rw [if_neg (by omega), if_neg (by omega), if_neg (by omega), if_pos (by omega), if_pos ?_]
  (repeat' split at h) <;> omega
theorem dec_bad (n b0 b1 b2 b3 : Nat) (h0 : b0 < 256) (h1 : b1 < 256) (h2 : b2 < 256) (h3 : b3 < 256) (ha : 128 ≤ b0) (hb : ¬ twoOk n b0 b1) (hc : ¬ threeOk n b0 b1 b2) (hd : ¬ fourOk n b0 b1 b2 b3) : Go.Lib.decodeN n b0 b1 b2 b3 = (65533, 1) := by
  unfold twoOk at hb
  unfold threeOk secLo secHi at hc
  unfold fourOk secLo secHi at hd
  unfold Go.Lib.decodeN
  rw [if_neg (by omega)]
  by_cases c2 : b0 / 32 = 6 ∧ (1 < n ∧ b1 / 64 = 2)
  · rw [if_pos c2, if_neg (by omega)]
  · rw [if_neg c2]
    by_cases c3 : b0 / 16 = 14 ∧ (1 < n ∧ b1 / 64 = 2) ∧ (2 < n ∧ b2 / 64 = 2)
    · rw [if_pos c3, if_neg ?_]
      clear c2 hb hd
      (repeat' split at hc) <;> omega
    · rw [if_neg c3]
      by_cases c4 : b0 / 8 = 30 ∧ (1 < n ∧ b1 / 64 = 2) ∧ (2 < n ∧ b2 / 64 = 2) ∧ (3 < n ∧ b3 / 64 = 2)
      · rw [if_pos c4, if_neg ?_]
        clear c2 c3 hb hc
        (repeat' split at hd) <;> omega
      · rw [if_neg c4]

theorem enc_two (b0 b1 : Nat) (h : 194 ≤ b0 ∧ b0 < 224 ∧ 128 ≤ b1 ∧ b1 ≤ 191) : Go.Lib.encodeRuneZ ((b0 % 32 * 64 + b1 % 64 : Nat) : Int) = [(b0 : Int), (b1 : Int)] := by
  rw [Go.Lib.encodeRuneZ_two (by omega) (by omega)]
  simp only [List.cons.injEq, and_true]
  omega
theorem enc_three (n b0 b1 b2 : Nat) (h : threeOk n b0 b1 b2) : Go.Lib.encodeRuneZ ((b0 % 16 * 4096 + b1 % 64 * 64 + b2 % 64 : Nat) : Int) = [(b0 : Int), (b1 : Int), (b2 : Int)] := by
  unfold threeOk secLo secHi at h
  rw [Go.Lib.encodeRuneZ_three (by (repeat' split at h) <;> omega)]
  simp only [List.cons.injEq, and_true]
  (repeat' split at h) <;> omega
theorem enc_four (n b0 b1 b2 b3 : Nat) (h : fourOk n b0 b1 b2 b3) : Go.Lib.encodeRuneZ ((b0 % 8 * 262144 + b1 % 64 * 4096 + b2 % 64 * 64 + b3 % 64 : Nat) : Int) = [(b0 : Int), (b1 : Int), (b2 : Int), (b3 : Int)] := by
  unfold fourOk secLo secHi at h
  rw [Go.Lib.encodeRuneZ_four (by (repeat' split at h) <;> omega) (by (repeat' split at h) <;> omega)]
  simp only [List.cons.injEq, and_true]
  (repeat' split at h) <;> omega

theorem toU8 (b : UInt8) : ((b.toNat : Int).toNat).toUInt8 = b := by
  rw [Int.toNat_natCast]
  exact UInt8.ofNat_toNat

theorem runL_full (k lo hi : Nat) (r : List UInt8) (h : runL (k + 1) lo hi r = k + 1) : ∃ c r', r = c :: r' ∧ lo ≤ c.toNat ∧ c.toNat ≤ hi ∧ runL k 128 191 r' = k := by
  cases r with
  | nil => simp [runL] at h
  | cons c r' =>
    simp only [runL] at h
    split at h
    · rename_i hc
      exact ⟨c, r', rfl, hc.1, hc.2, by omega⟩
    · omega

/-- A good piece: the decoder takes just it, and its rune is written as it. -/
theorem dec_good (l : List UInt8) (h : goodL l = true) : (decL1 l).2 = pieceL l ∧ Go.Lib.encodeRune ((decL1 l).1 : Int) = l.take (pieceL l) ∧ (l.head?.map UInt8.toNat ≠ some 13 → (decL1 l).1 ≠ 13) ∧ (l.head?.map UInt8.toNat = some 13 → (decL1 l).1 = 13) := by
  cases l with
  | nil => simp [goodL] at h
  | cons b0 r =>
    have hlt := b0.toNat_lt
    simp only [goodL, Bool.or_eq_true, Bool.and_eq_true, decide_eq_true_eq] at h
    by_cases ha : b0.toNat < 128
    · have hn : need b0.toNat = 0 := by unfold need; rw [if_pos (by omega)]
      have hd : decL1 (b0 :: r) = (b0.toNat, 1) := dec_one _ _ _ _ _ ha
      have hp : pieceL (b0 :: r) = 1 := by simp [pieceL, hn, runL]
      rw [hd, hp]
      refine ⟨rfl, ?_, ?_, ?_⟩
      · unfold Go.Lib.encodeRune
        rw [Go.Lib.encodeRuneZ_one (by omega) (by simp; omega)]
        simp only [List.map_cons, List.map_nil, toU8]
        rfl
      · simp
      · simp
    · have h2 := h.resolve_left ha
      clear h
      obtain ⟨hn, hr⟩ := h2
      have hn3 := need_le b0.toNat
      by_cases h1 : need b0.toNat = 1
      · have hb : 194 ≤ b0.toNat ∧ b0.toNat < 224 := by
          unfold need at h1
          (repeat' split at h1) <;> omega
        have hlo : secLo b0.toNat = 128 := by unfold secLo; rw [if_neg (by omega), if_neg (by omega)]
        have hhi : secHi b0.toNat = 191 := by unfold secHi; rw [if_neg (by omega), if_neg (by omega)]
        rw [h1, hlo, hhi] at hr
        obtain ⟨c, r', rfl, c1, c2, _⟩ := runL_full 0 128 191 r hr
        have hd : decL1 (b0 :: c :: r') = (b0.toNat % 32 * 64 + c.toNat % 64, 2) := dec_two _ _ _ _ _ ⟨hb.1, hb.2, by simp, c1, c2⟩
        have hp : pieceL (b0 :: c :: r') = 2 := by simp only [pieceL, h1, hlo, hhi, hr]
        rw [hd, hp]
        refine ⟨rfl, ?_, ?_, ?_⟩
        · unfold Go.Lib.encodeRune
          rw [enc_two b0.toNat c.toNat ⟨hb.1, hb.2, c1, c2⟩]
          simp only [List.map_cons, List.map_nil, toU8]
          rfl
        · intro _; simp only; omega
        · simp; omega
      · by_cases h2 : need b0.toNat = 2
        · have hb : 224 ≤ b0.toNat ∧ b0.toNat < 240 := by
            unfold need at h2
            (repeat' split at h2) <;> omega
          rw [h2] at hr
          obtain ⟨c, r', rfl, c1, c2, hr2⟩ := runL_full 1 _ _ r hr
          obtain ⟨d, r'', rfl, d1, d2, _⟩ := runL_full 0 128 191 r' hr2
          have hok : threeOk (b0 :: c :: d :: r'').length b0.toNat c.toNat d.toNat := ⟨hb.1, hb.2, by simp, c1, c2, d1, d2⟩
          have hd : decL1 (b0 :: c :: d :: r'') = (b0.toNat % 16 * 4096 + c.toNat % 64 * 64 + d.toNat % 64, 3) := dec_three _ _ _ _ _ hok
          have hp : pieceL (b0 :: c :: d :: r'') = 3 := by simp only [pieceL, h2, hr]
          rw [hd, hp]
          refine ⟨rfl, ?_, ?_, ?_⟩
          · unfold Go.Lib.encodeRune
            rw [enc_three _ b0.toNat c.toNat d.toNat hok]
            simp only [List.map_cons, List.map_nil, toU8]
            rfl
          · intro _; unfold threeOk secLo secHi at hok; simp only; (repeat' split at hok) <;> omega
          · simp; omega
        · have h3 : need b0.toNat = 3 := by omega
          have hb : 240 ≤ b0.toNat ∧ b0.toNat < 245 := by
            unfold need at h3
            (repeat' split at h3) <;> omega
          rw [h3] at hr
          obtain ⟨c, r', rfl, c1, c2, hr2⟩ := runL_full 2 _ _ r hr
          obtain ⟨d, r'', rfl, d1, d2, hr3⟩ := runL_full 1 128 191 r' hr2
          obtain ⟨e, r3, rfl, e1, e2, _⟩ := runL_full 0 128 191 r'' hr3
          have hok : fourOk (b0 :: c :: d :: e :: r3).length b0.toNat c.toNat d.toNat e.toNat := ⟨hb.1, hb.2, by simp, c1, c2, d1, d2, e1, e2⟩
          have hd : decL1 (b0 :: c :: d :: e :: r3) = (b0.toNat % 8 * 262144 + c.toNat % 64 * 4096 + d.toNat % 64 * 64 + e.toNat % 64, 4) := dec_four _ _ _ _ _ hok
          have hp : pieceL (b0 :: c :: d :: e :: r3) = 4 := by simp only [pieceL, h3, hr]
          rw [hd, hp]
          refine ⟨rfl, ?_, ?_, ?_⟩
          · unfold Go.Lib.encodeRune
            rw [enc_four _ b0.toNat c.toNat d.toNat e.toNat hok]
            simp only [List.map_cons, List.map_nil, toU8]
            rfl
          · intro _; unfold fourOk secLo secHi at hok; simp only; (repeat' split at hok) <;> omega
          · simp; omega

theorem runL_mk1 (lo hi : Nat) (c : UInt8) (r : List UInt8) (h : lo ≤ c.toNat ∧ c.toNat ≤ hi) : runL 1 lo hi (c :: r) = 1 := by simp [runL, h]
theorem runL_mk (k lo hi : Nat) (c : UInt8) (r : List UInt8) (h : lo ≤ c.toNat ∧ c.toNat ≤ hi) (h2 : runL k 128 191 r = k) : runL (k + 1) lo hi (c :: r) = k + 1 := by
  simp only [runL, if_pos h, h2]; omega

/-- A bad piece: the decoder tells the replacement, one byte wide. -/
theorem dec_not_good (l : List UInt8) (hl : l ≠ []) (h : goodL l = false) : decL1 l = (65533, 1) := by
  cases l with
  | nil => exact absurd rfl hl
  | cons b0 r =>
    simp only [goodL, Bool.or_eq_false_iff, Bool.and_eq_false_iff, decide_eq_false_iff_not] at h
    obtain ⟨ha, hb⟩ := h
    refine dec_bad _ _ _ _ _ (byteN_lt _ _) (byteN_lt _ _) (byteN_lt _ _) (byteN_lt _ _) (by simp [byteN]; omega) ?_ ?_ ?_
    · rintro ⟨h1, h2, h3, h4, h5⟩
      simp only [byteN, List.getD_cons_zero] at h1 h2
      have hn : need b0.toNat = 1 := by unfold need; rw [if_neg (by omega), if_pos (by omega)]
      have hlo : secLo b0.toNat = 128 := by unfold secLo; rw [if_neg (by omega), if_neg (by omega)]
      have hhi : secHi b0.toNat = 191 := by unfold secHi; rw [if_neg (by omega), if_neg (by omega)]
      cases r with
      | nil => simp at h3
      | cons c r' =>
        simp only [byteN, List.getD_cons_succ, List.getD_cons_zero] at h4 h5
        rw [hn, hlo, hhi, runL_mk1 _ _ _ _ ⟨h4, h5⟩] at hb
        omega
    · rintro ⟨h1, h2, h3, h4, h5, h6, h7⟩
      simp only [byteN, List.getD_cons_zero] at h1 h2 h4 h5
      have hn : need b0.toNat = 2 := by unfold need; rw [if_neg (by omega), if_neg (by omega), if_pos (by omega)]
      match r, h3, h4, h5, h6, h7 with
      | [], h3, _, _, _, _ => simp at h3
      | [_], h3, _, _, _, _ => simp at h3
      | c :: d :: r', _, h4, h5, h6, h7 =>
        simp only [byteN, List.getD_cons_succ, List.getD_cons_zero] at h4 h5 h6 h7
        rw [hn, runL_mk 1 _ _ _ _ ⟨h4, h5⟩ (runL_mk1 _ _ _ _ ⟨h6, h7⟩)] at hb
        omega
    · rintro ⟨h1, h2, h3, h4, h5, h6, h7, h8, h9⟩
      simp only [byteN, List.getD_cons_zero] at h1 h2 h4 h5
      have hn : need b0.toNat = 3 := by unfold need; rw [if_neg (by omega), if_neg (by omega), if_neg (by omega), if_pos (by omega)]
      match r, h3, h4, h5, h6, h7, h8, h9 with
      | [], h3, _, _, _, _, _, _ => simp at h3
      | [_], h3, _, _, _, _, _, _ => simp at h3
      | [_, _], h3, _, _, _, _, _, _ => simp at h3
      | c :: d :: e :: r', _, h4, h5, h6, h7, h8, h9 =>
        simp only [byteN, List.getD_cons_succ, List.getD_cons_zero] at h4 h5 h6 h7 h8 h9
        rw [hn, runL_mk 2 _ _ _ _ ⟨h4, h5⟩ (runL_mk 1 _ _ _ _ ⟨h6, h7⟩ (runL_mk1 _ _ _ _ ⟨h8, h9⟩))] at hb
        omega

/-- A byte that stands behind a first one begins no good piece. -/
theorem cont_not_good (b : UInt8) (r : List UInt8) (h1 : 128 ≤ b.toNat) (h2 : b.toNat ≤ 191) : goodL (b :: r) = false := by
  have hn : need b.toNat = 0 := by unfold need; rw [if_pos (by omega)]
  simp [goodL, hn]
  omega

end Go.Proofs.YthagloigihpfdabDoor
