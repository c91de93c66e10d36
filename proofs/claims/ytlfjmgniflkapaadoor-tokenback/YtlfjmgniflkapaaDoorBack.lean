/- There and back, over lists of bytes: a tag that is written with quoted values is read as it was. No program in it. -/
import Derived.Test.YtlfjmgniflkapaaDoorOnward
set_option linter.unusedVariables false
set_option linter.unusedSimpArgs false
namespace Go.Proofs.YtlfjmgniflkapaaDoor

def escQ : List UInt8 → List UInt8
  | [] => []
  | c :: r => if c = 38 then [38, 97, 109, 112, 59] ++ escQ r else if c = 34 then [38, 113, 117, 111, 116, 59] ++ escQ r else c :: escQ r
theorem quot_last : entriesE.all (fun e => (decide ((e.1 ++ [59]).length ≤ 5) || !((e.1 ++ [59]).take 5 == [113, 117, 111, 116, 59])) && (decide (e.1.length ≤ 5) || !(e.1.take 5 == [113, 117, 111, 116, 59]))) = true := by decide +kernel
theorem back_quot (attr : Bool) (r : List UInt8) : refL attr ([113, 117, 111, 116, 59] ++ r) = ([34], 6) := by
  have hl : longL ([113, 117, 111, 116, 59] ++ r) = some (34, 5) := by
    refine longK_eq 8 _ 5 34 (by omega) (by omega) (by simp) (by show codeL [113, 117, 111, 116, 59] = _; decide +kernel) ?_
    intro m h1 h2 h3
    cases hc : codeL (([113, 117, 111, 116, 59] ++ r).take m) with
    | none => rfl
    | some c =>
      have := code_all (fun n => decide (n.length ≤ 5) || !(n.take 5 == [113, 117, 111, 116, 59])) quot_last _ c hc
      simp only [Bool.or_eq_true, decide_eq_true_eq] at this
      rcases this with h | h
      · rw [List.length_take] at h; omega
      · rw [List.take_take, show min 5 m = 5 by omega] at h
        exact absurd h (by simp)
  unfold refL
  rw [if_neg (by simp), hl]
  simp only
  rw [if_neg (by simp)]
  decide +kernel
theorem escQ_back (attr : Bool) (v : List UInt8) : decL attr (escQ v) = v := by
  induction v with
  | nil => rfl
  | cons c r ih =>
    simp only [escQ]
    split
    · rename_i hc
      show decL attr (38 :: ([97, 109, 112, 59] ++ escQ r)) = _
      rw [decL_amp, back_amp, hc]
      show [38] ++ decL attr ((38 :: ([97, 109, 112, 59] ++ escQ r)).drop 5) = _
      rw [show (38 :: ([97, 109, 112, 59] ++ escQ r)).drop 5 = escQ r by simp, ih]
      rfl
    · split
      · rename_i _ hc
        show decL attr (38 :: ([113, 117, 111, 116, 59] ++ escQ r)) = _
        rw [decL_amp, back_quot, hc]
        show [34] ++ decL attr ((38 :: ([113, 117, 111, 116, 59] ++ escQ r)).drop 6) = _
        rw [show (38 :: ([113, 117, 111, 116, 59] ++ escQ r)).drop 6 = escQ r by simp, ih]
        rfl
      · rename_i hc _
        rw [decL_other _ _ _ hc, ih]
theorem escQ_no (v : List UInt8) : (34 : UInt8) ∉ escQ v := by
  induction v with
  | nil => simp [escQ]
  | cons c r ih =>
    simp only [escQ]
    split
    · simp [ih]
    · split
      · simp [ih]
      · rename_i _ h
        simp [ih]
        exact fun e => h e.symm
theorem findR_one (x : UInt8) : ∀ (l q : List UInt8), x ∉ l → findR [x] (l ++ x :: q) = (l, x :: q)
  | [], q, _ => by simp [findR, List.isPrefixOf]
  | c :: l, q, h => by
    simp only [List.mem_cons, not_or] at h
    have ih := findR_one x l q h.2
    rw [List.cons_append]
    simp only [findR]
    rw [if_neg (by simp [List.isPrefixOf]; exact h.1), ih]
/-- The attributes, written out. -/
def wroteA : List (List UInt8 × List UInt8) → List UInt8
  | [] => []
  | a :: r => 32 :: (a.1 ++ 61 :: 34 :: (escQ a.2 ++ 34 :: wroteA r))
def okA (as : List (List UInt8 × List UInt8)) : Prop := ∀ a ∈ as, a.1 ≠ [] ∧ a.1.all smallC = true
theorem value_quoted (v q : List UInt8) : valueL (34 :: (escQ v ++ 34 :: q)) = (v, q) := by
  unfold valueL
  simp only
  rw [if_neg (by decide), if_pos (by decide), findR_one 34 _ _ (escQ_no v), escQ_back]
  rfl
theorem addA_new (as : List (List UInt8 × List UInt8)) (a : List UInt8 × List UInt8) (h : a.1 ∉ namesA as) : addA as a = as ++ [a] := by
  unfold addA
  rw [if_neg]
  unfold getA
  rw [List.find?_eq_none.2]
  · simp
  · intro x hx e
    exact h (List.mem_map.2 ⟨x, hx, by simpa using e⟩)
/-- One attribute is read. -/
theorem loop_one (k : Nat) (as : List (List UInt8 × List UInt8)) (n v q : List UInt8) (hn : n ≠ []) (hs : n.all smallC = true) (hnew : n ∉ namesA as) :
    loopT (k + 1) as (32 :: (n ++ 61 :: 34 :: (escQ v ++ 34 :: q))) = loopT k (as ++ [(n, v)]) q := by
  cases n with
  | nil => exact absurd rfl hn
  | cons c m =>
    have hs2 := hs
    simp only [List.all_cons, Bool.and_eq_true] at hs2
    obtain ⟨s1, s2, s3, s4, s5, s6⟩ := small_name c hs2.1
    have hd : (32 :: (c :: m ++ 61 :: 34 :: (escQ v ++ 34 :: q))).dropWhile passB = c :: (m ++ 61 :: 34 :: (escQ v ++ 34 :: q)) := by
      rw [List.dropWhile_cons, if_pos (by decide), List.cons_append, List.dropWhile_cons, s6]
      rfl
    have h62 : c ≠ 62 := by
      rintro rfl
      exact absurd hs2.1 (by decide)
    obtain ⟨t1, t2⟩ := tw_app attrB m 61 (34 :: (escQ v ++ 34 :: q)) (all_of _ _ m hs2.2 fun x hx => (small_name x hx).2.1) (by decide)
    have hsp : (61 :: 34 :: (escQ v ++ 34 :: q)).dropWhile isSp = 61 :: 34 :: (escQ v ++ 34 :: q) := by
      rw [List.dropWhile_cons, if_neg (by decide)]
    have hsp2 : (34 :: (escQ v ++ 34 :: q)).dropWhile isSp = 34 :: (escQ v ++ 34 :: q) := by
      rw [List.dropWhile_cons, if_neg (by decide)]
    rw [loopT, hd]
    simp only
    rw [if_neg h62, t1, t2, hsp]
    simp only
    rw [if_pos trivial, hsp2, value_quoted, small_lower _ hs, addA_new _ _ hnew]
/-- All attributes are read. -/
theorem loop_all : ∀ (bs as : List (List UInt8 × List UInt8)) (k : Nat) (q : List UInt8), okA bs → (namesA (as ++ bs)).Nodup → loopT (bs.length + k) as (wroteA bs ++ q) = loopT k (as ++ bs) q
  | [], as, k, q, _, _ => by simp [wroteA]
  | a :: r, as, k, q, hok, hnd => by
    have h1 := hok a (by simp)
    have hnew : a.1 ∉ namesA as := by
      unfold namesA at hnd ⊢
      rw [List.map_append] at hnd
      intro hm
      exact (List.nodup_append.1 hnd).2.2 a.1 hm a.1 (by simp) rfl
    have ih := loop_all r (as ++ [a]) k q (fun b hb => hok b (by simp [hb])) (by rw [List.append_assoc]; exact hnd)
    show loopT (r.length + 1 + k) as (32 :: (a.1 ++ 61 :: 34 :: (escQ a.2 ++ 34 :: wroteA r)) ++ q) = _
    have e : 32 :: (a.1 ++ 61 :: 34 :: (escQ a.2 ++ 34 :: wroteA r)) ++ q = 32 :: (a.1 ++ 61 :: 34 :: (escQ a.2 ++ 34 :: (wroteA r ++ q))) := by simp
    rw [e, show r.length + 1 + k = (r.length + k) + 1 by omega, loop_one _ _ _ _ _ h1.1 h1.2 hnew, show as ++ [(a.1, a.2)] = as ++ [a] from rfl, ih, List.append_assoc]
    rfl
def strokeL (closed : Bool) : List UInt8 := if closed then [47] else []
theorem loop_end (k : Nat) (as : List (List UInt8 × List UInt8)) (closed : Bool) (rest : List UInt8) : loopT (k + 1) as (strokeL closed ++ 62 :: rest) = some (as, closed, rest) := by
  rw [loopT]
  cases closed
  · rw [show (strokeL false ++ 62 :: rest).dropWhile passB = 62 :: rest by simp [strokeL, List.dropWhile_cons, passB, isSp, spaceN]]
    simp only [if_true]
    rw [show strokeB (strokeL false ++ 62 :: rest) = false by simp [strokeB, strokeL, List.takeWhile_cons, passB, isSp, spaceN]]
  · rw [show (strokeL true ++ 62 :: rest).dropWhile passB = 62 :: rest by simp [strokeL, List.dropWhile_cons, passB, isSp, spaceN]]
    simp only [if_true]
    rw [show strokeB (strokeL true ++ 62 :: rest) = true by simp [strokeB, strokeL, List.takeWhile_cons, passB, isSp, spaceN]]
theorem loop_cut (k : Nat) (as : List (List UInt8 × List UInt8)) (closed : Bool) : loopT k as (strokeL closed) = none := by
  cases k with
  | zero => rfl
  | succ k =>
    rw [loopT]
    cases closed <;> simp [strokeL, List.dropWhile_cons, passB, isSp, spaceN]
theorem tw_name (n X : List UInt8) (h : n.all smallC = true) (hX : X = [] ∨ ∃ x q, X = x :: q ∧ nameB x = false) : (n ++ X).takeWhile nameB = n ∧ (n ++ X).dropWhile nameB = X := by
  have hn := all_of _ nameB n h fun c hc => (small_name c hc).1
  rcases hX with rfl | ⟨x, q, rfl, hx⟩
  · rw [List.append_nil]
    have : ∀ l : List UInt8, l.all nameB = true → l.takeWhile nameB = l ∧ l.dropWhile nameB = [] := by
      intro l
      induction l with
      | nil => intro _; simp
      | cons c r ih =>
        intro hl
        simp only [List.all_cons, Bool.and_eq_true] at hl
        simp [List.takeWhile_cons, List.dropWhile_cons, hl.1, ih hl.2]
    exact this n hn
  · exact tw_app nameB n x q hn hx
theorem wrote_head (bs : List (List UInt8 × List UInt8)) (closed : Bool) (q : List UInt8) (hq : q = [] ∨ ∃ r, q = 62 :: r) : wroteA bs ++ (strokeL closed ++ q) = [] ∨ ∃ x r, wroteA bs ++ (strokeL closed ++ q) = x :: r ∧ nameB x = false := by
  cases bs with
  | cons a r => exact .inr ⟨32, _, rfl, by decide⟩
  | nil =>
    cases closed
    · rcases hq with rfl | ⟨r, rfl⟩
      · exact .inl rfl
      · exact .inr ⟨62, r, rfl, by decide⟩
    · exact .inr ⟨47, q, rfl, by decide⟩
theorem data_start (n X : List UInt8) (hn : n ≠ []) (hs : n.all smallC = true) : nextR 0 [] false (60 :: (n ++ X)) = endedL (n ++ X) false := by
  cases n with
  | nil => exact absurd rfl hn
  | cons c m =>
    simp only [List.all_cons, Bool.and_eq_true] at hs
    obtain ⟨s1, s2, s3, s4, s5, s6⟩ := small_name c hs.1
    have e33 : c ≠ 33 := by rintro rfl; exact absurd hs.1 (by decide)
    have e63 : c ≠ 63 := by rintro rfl; exact absurd hs.1 (by decide)
    have e47 : c ≠ 47 := by rintro rfl; exact absurd hs.1 (by decide)
    unfold nextR
    rw [if_neg (by simp), if_neg (by decide), if_pos (by decide)]
    unfold dataL
    rw [List.length_cons, dataK, if_neg (by simp), if_neg (by simp [beginsB, s4])]
    rw [if_neg (by simp [List.isPrefixOf]; exact fun e => absurd e.symm e47), if_neg (by simp [List.isPrefixOf]; exact fun e => absurd e.symm e47), if_neg (by simp [List.isPrefixOf]; exact fun e => absurd e.symm e33), if_neg (by simp), if_neg (by simp [List.isPrefixOf]; exact fun e => absurd e.symm e33), if_neg (by simp [List.isPrefixOf]; exact fun e => absurd e.symm e63)]
    rfl
theorem data_stop (n rest : List UInt8) (hn : n ≠ []) (hs : n.all smallC = true) : nextR 0 [] false (60 :: 47 :: (n ++ 62 :: rest)) = ({ kind := 3, name := n }, rest) := by
  rw [← tag_end n rest hs]
  cases n with
  | nil => exact absurd rfl hn
  | cons c m =>
    simp only [List.all_cons, Bool.and_eq_true] at hs
    obtain ⟨s1, s2, s3, s4, s5, s6⟩ := small_name c hs.1
    have e62 : c ≠ 62 := by rintro rfl; exact absurd hs.1 (by decide)
    unfold nextR
    rw [if_neg (by simp), if_neg (by decide), if_pos (by decide)]
    unfold dataL
    rw [List.length_cons, dataK, if_neg (by simp), if_neg (by simp [beginsB]), if_neg (by simp [List.isPrefixOf]; exact fun e => absurd e.symm e62), if_pos (by simp [List.isPrefixOf]), if_pos (by simp [s4])]
    rfl
theorem wrote_len : ∀ bs : List (List UInt8 × List UInt8), bs.length ≤ (wroteA bs).length
  | [] => Nat.le_refl _
  | a :: r => by
    have := wrote_len r
    simp [wroteA]
    omega
/-- A start tag that is written out is read as it was. -/
theorem tag_back (n : List UInt8) (bs : List (List UInt8 × List UInt8)) (closed : Bool) (rest : List UInt8) (hn : n ≠ []) (hs : n.all smallC = true) (hok : okA bs) (hnd : (namesA bs).Nodup) :
    nextR 0 [] false (60 :: (n ++ (wroteA bs ++ (strokeL closed ++ 62 :: rest)))) = ({ kind := 2, name := n, attrs := bs, closed := closed }, rest) := by
  rw [data_start n _ hn hs]
  have ht := tw_name n (wroteA bs ++ (strokeL closed ++ 62 :: rest)) hs (wrote_head bs closed _ (.inr ⟨rest, rfl⟩))
  have hl := wrote_len bs
  have hk : (n ++ (wroteA bs ++ (strokeL closed ++ 62 :: rest))).length + 1 = bs.length + ((n ++ (wroteA bs ++ (strokeL closed ++ 62 :: rest))).length - bs.length + 1) := by
    simp only [List.length_append]
    omega
  have h : tagL (n ++ (wroteA bs ++ (strokeL closed ++ 62 :: rest))) = some ({ kind := 2, name := n, attrs := bs, closed := closed }, rest) := by
    unfold tagL
    rw [ht.1, ht.2, hk, loop_all bs [] _ _ hok (by simpa using hnd), List.nil_append, loop_end, small_lower n hs]
    rfl
  unfold endedL
  rw [h]
  rfl
/-- Without its end it is nothing. -/
theorem tag_cut (n : List UInt8) (bs : List (List UInt8 × List UInt8)) (closed : Bool) (hn : n ≠ []) (hs : n.all smallC = true) (hok : okA bs) (hnd : (namesA bs).Nodup) :
    nextR 0 [] false (60 :: (n ++ (wroteA bs ++ strokeL closed))) = ({ kind := 0 }, []) := by
  rw [data_start n _ hn hs]
  have ht := tw_name n (wroteA bs ++ (strokeL closed ++ [])) hs (wrote_head bs closed [] (.inl rfl))
  rw [List.append_nil] at ht
  have hl := wrote_len bs
  have hk : (n ++ (wroteA bs ++ strokeL closed)).length + 1 = bs.length + ((n ++ (wroteA bs ++ strokeL closed)).length - bs.length + 1) := by
    simp only [List.length_append]
    omega
  have h : tagL (n ++ (wroteA bs ++ strokeL closed)) = none := by
    unfold tagL
    rw [ht.1, ht.2, hk, loop_all bs [] _ _ hok (by simpa using hnd), loop_cut]
    rfl
  unfold endedL
  rw [h]
end Go.Proofs.YtlfjmgniflkapaaDoor
