/- The program's disk over lists: all bytes in one row, and writes that can be undone. No program in it. -/
import Derived.Test.YteacldkfdhhphaaFt14
set_option linter.unusedVariables false
set_option linter.unusedSimpArgs false
set_option maxRecDepth 4000
namespace Go.Proofs.Yteacldkfdhhphaa

/-- Bytes laid over others from a place on. -/
def setB (F : Bs) (o : Nat) : Bs → Bs
  | [] => F
  | v :: r => setB (F.set o v) (o + 1) r
theorem setB_len : ∀ (x : Bs) (F : Bs) (o : Nat), (setB F o x).length = F.length
  | [], F, o => rfl
  | v :: r, F, o => by rw [setB, setB_len r]; simp
theorem setB_app : ∀ (x y : Bs) (F : Bs) (o : Nat), setB F o (x ++ y) = setB (setB F o x) (o + x.length) y
  | [], y, F, o => rfl
  | v :: r, y, F, o => by
    show setB (F.set o v) (o + 1) (r ++ y) = setB (setB (F.set o v) (o + 1) r) (o + (r.length + 1)) y
    rw [setB_app r y, show o + 1 + r.length = o + (r.length + 1) by omega]
theorem setB_get : ∀ (x : Bs) (F : Bs) (o j : Nat), o + x.length ≤ F.length → (setB F o x)[j]? = if o ≤ j ∧ j < o + x.length then x[j - o]? else F[j]?
  | [], F, o, j, h => by
    show F[j]? = _
    rw [if_neg (by rw [List.length_nil]; omega)]
  | v :: r, F, o, j, h => by
    have h' : o + (r.length + 1) ≤ F.length := h
    rw [setB, setB_get r (F.set o v) (o + 1) j (by rw [List.length_set]; omega), List.length_cons]
    by_cases h1 : j = o
    · subst h1
      rw [if_neg (by omega), if_pos (by omega), List.getElem?_set_self (by omega)]
      simp
    · rw [List.getElem?_set_ne (by omega)]
      by_cases h2 : o ≤ j ∧ j < o + (r.length + 1)
      · rw [if_pos (by omega), if_pos h2, show j - o = (j - (o + 1)) + 1 by omega, List.getElem?_cons_succ]
      · rw [if_neg (by omega), if_neg h2]
theorem setB_is (x F : Bs) (o : Nat) (h : o + x.length ≤ F.length) : setB F o x = F.take o ++ (x ++ F.drop (o + x.length)) := by
  apply List.ext_getElem?
  intro j
  rw [setB_get x F o j h]
  have hl : (F.take o).length = o := by rw [List.length_take]; omega
  by_cases h1 : o ≤ j
  · rw [List.getElem?_append_right (by omega), hl]
    by_cases h2 : j < o + x.length
    · rw [if_pos ⟨h1, h2⟩, List.getElem?_append_left (by omega)]
    · rw [if_neg (by omega), List.getElem?_append_right (by omega), List.getElem?_drop]
      congr 1
      omega
  · rw [if_neg (by omega), List.getElem?_append_left (by omega), List.getElem?_take, if_pos (by omega)]
/-- What was there, laid again. -/
theorem setB_back (x F : Bs) (o : Nat) (h : o + x.length ≤ F.length) : setB (setB F o x) o ((F.drop o).take x.length) = F := by
  have hl : ((F.drop o).take x.length).length = x.length := by rw [List.length_take, List.length_drop]; omega
  apply List.ext_getElem?
  intro j
  rw [setB_get _ _ _ _ (by rw [hl, setB_len]; exact h), hl, setB_get x F o j h]
  by_cases h1 : o ≤ j ∧ j < o + x.length
  · rw [if_pos h1, List.getElem?_take, if_pos (by omega), List.getElem?_drop]
    congr 1
    omega
  · rw [if_neg h1, if_neg h1]
theorem setB_mid (A X D x : Bs) (h : X.length = x.length) : setB (A ++ (X ++ D)) A.length x = A ++ (x ++ D) := by
  rw [setB_is x _ _ (by rw [List.length_append, List.length_append]; omega), List.take_left, List.drop_append, List.drop_of_length_le (by omega), List.nil_append, show A.length + x.length - A.length = X.length by omega, List.drop_left]
theorem set_flat (S : List Bs) (i : Nat) (x : Bs) (hs : ∀ y ∈ S, y.length = 64) (hx : x.length = 64) (hi : i < S.length) : (S.set i x).flatten = setB S.flatten (64 * i) x := by
  have h1 : (S.take i).flatten.length = 64 * i := by
    rw [flat_len _ (fun y hy => hs y (List.mem_of_mem_take hy)), List.length_take]
    congr 1
    omega
  have h2 : S.flatten = (S.take i).flatten ++ (S[i] ++ (S.drop (i + 1)).flatten) := by
    conv => lhs; rw [← List.take_append_drop i S, List.flatten_append, List.drop_eq_getElem_cons hi, List.flatten_cons]
  have h3 : S[i].length = 64 := hs _ (List.getElem_mem hi)
  rw [h2, ← h1, setB_mid _ _ _ _ (by omega), List.set_eq_take_append_cons_drop, if_pos hi, List.flatten_append, List.flatten_cons]
theorem cut_len (b : Bs) (i : Nat) (hb : b.length = 256) (hi : i < 4) : (cutB b i).length = 64 := by unfold cutB; rw [List.length_take, List.length_drop]; omega
theorem four_cut (b : Bs) (hb : b.length = 256) : cutB b 0 ++ (cutB b 1 ++ (cutB b 2 ++ cutB b 3)) = b := by
  unfold cutB
  have e : ∀ k, b.drop (k * 64) = (b.drop (k * 64)).take 64 ++ b.drop ((k + 1) * 64) := fun k => by
    conv => lhs; rw [← List.take_append_drop 64 (b.drop (k * 64)), List.drop_drop]
    rw [show k * 64 + 64 = (k + 1) * 64 by omega]
  have e3 : (b.drop (3 * 64)).take 64 = b.drop (3 * 64) := List.take_of_length_le (by rw [List.length_drop]; omega)
  rw [e3, ← e 2, ← e 1, ← e 0]
  simp
theorem pieces_is (n : Nat) (b : Bs) : piecesL n b = [(n * 4 + 0, cutB b 0), (n * 4 + 1, cutB b 1), (n * 4 + 2, cutB b 2), (n * 4 + 3, cutB b 3)] := rfl
theorem set_64 {S : List Bs} {i : Nat} {x : Bs} (hs : ∀ y ∈ S, y.length = 64) (hx : x.length = 64) : ∀ y ∈ S.set i x, y.length = 64 := fun y hy => by
  rcases List.mem_or_eq_of_mem_set hy with h | h
  · exact hs y h
  · rw [h]; exact hx
theorem lay_flat (S : List Bs) (n : Nat) (b : Bs) (hs : ∀ y ∈ S, y.length = 64) (hb : b.length = 256) (hn : n * 4 + 4 ≤ S.length) : (nowL S (piecesL n b)).flatten = setB S.flatten (256 * n) b := by
  have l0 := cut_len b 0 hb (by omega)
  have l1 := cut_len b 1 hb (by omega)
  have l2 := cut_len b 2 hb (by omega)
  have l3 := cut_len b 3 hb (by omega)
  conv => rhs; rw [← four_cut b hb]
  rw [pieces_is]
  show ((((S.set (n * 4 + 0) (cutB b 0)).set (n * 4 + 1) (cutB b 1)).set (n * 4 + 2) (cutB b 2)).set (n * 4 + 3) (cutB b 3)).flatten = _
  rw [set_flat _ _ _ (set_64 (set_64 (set_64 hs l0) l1) l2) l3 (by simp; omega), set_flat _ _ _ (set_64 (set_64 hs l0) l1) l2 (by simp; omega), set_flat _ _ _ (set_64 hs l0) l1 (by simp; omega), set_flat _ _ _ hs l0 (by omega), setB_app, setB_app, setB_app, l0, l1, l2]
  rw [show 64 * (n * 4 + 0) = 256 * n by omega, show 64 * (n * 4 + 1) = 256 * n + 64 by omega, show 64 * (n * 4 + 2) = 256 * n + 64 + 64 by omega, show 64 * (n * 4 + 3) = 256 * n + 64 + 64 + 64 by omega]
/-- One write that is pending. -/
structure PW where
  at_ : Nat
  was : Bs
  laid : Bs
def pcs (ws : List PW) : List (Nat × Bs) := ws.flatMap fun x => piecesL x.at_ x.laid
theorem pcs_app (a b : List PW) : pcs (a ++ b) = pcs a ++ pcs b := by unfold pcs; rw [List.flatMap_append]
theorem pcs_len : ∀ ws : List PW, (pcs ws).length = 4 * ws.length
  | [] => rfl
  | x :: r => by
    show (piecesL x.at_ x.laid ++ pcs r).length = _
    rw [List.length_append, pieces_len, pcs_len r, List.length_cons]
    omega
theorem pcs_get : ∀ (ws : List PW) (k s : Nat) (hk : k < ws.length), s < 4 → (pcs ws)[4 * k + s]? = some (ws[k].at_ * 4 + s, cutB ws[k].laid s)
  | x :: r, 0, s, hk, hs => by
    show (piecesL x.at_ x.laid ++ pcs r)[4 * 0 + s]? = _
    rw [List.getElem?_append_left (by rw [pieces_len]; omega), pieces_is]
    rcases (by omega : s = 0 ∨ s = 1 ∨ s = 2 ∨ s = 3) with rfl | rfl | rfl | rfl <;> rfl
  | x :: r, k + 1, s, hk, hs => by
    show (piecesL x.at_ x.laid ++ pcs r)[4 * (k + 1) + s]? = _
    rw [List.getElem?_append_right (by rw [pieces_len]; omega), pieces_len, show 4 * (k + 1) + s - 4 = 4 * k + s by omega, pcs_get r k s (by simpa using hk) hs]
    rfl
def undoW (x : PW) (F : Bs) : Bs := setB F (256 * x.at_) x.was
def undoL (F : Bs) (ws : List PW) : Bs := ws.foldr undoW F
theorem undo_app (F : Bs) (a b : List PW) : undoL F (a ++ b) = undoL (undoL F b) a := by unfold undoL; rw [List.foldr_append]
theorem undo_len (F : Bs) : ∀ ws : List PW, (undoL F ws).length = F.length
  | [] => rfl
  | x :: r => by
    show (setB (undoL F r) _ _).length = _
    rw [setB_len, undo_len F r]
/-- From the last one back: what is undone from the write number i on. -/
theorem undo_drop (F : Bs) (ws : List PW) (i : Nat) (hi : i < ws.length) : undoL F (ws.drop i) = undoW ws[i] (undoL F (ws.drop (i + 1))) := by
  rw [List.drop_eq_getElem_cons hi]
  rfl
/- The crash, sector by sector. -/
def keepS (S : List Bs) (q : (Nat × Bs) × Bool) : List Bs := if q.2 then putS S q.1 else S
theorem crash_zip : ∀ (l : List (Nat × Bs)) (k : List Bool) (S : List Bs), crashL S l k = (l.zip k).foldl keepS S
  | [], k, S => by cases k <;> rfl
  | p :: r, [], S => rfl
  | p :: r, b :: k, S => by
    show crashL (if b then putS S p else S) r k = (r.zip k).foldl keepS (keepS S (p, b))
    rw [crash_zip r k]
    rfl
def crashN (S : List Bs) (l : List (Nat × Bs)) (k : List Bool) (i : Nat) : List Bs := ((l.zip k).take i).foldl keepS S
theorem crashN_zero (S : List Bs) (l : List (Nat × Bs)) (k : List Bool) : crashN S l k 0 = S := rfl
theorem crashN_end (S : List Bs) (l : List (Nat × Bs)) (k : List Bool) (i : Nat) (h : k.length ≤ i ∨ l.length ≤ i) : crashN S l k i = crashL S l k := by
  unfold crashN
  rw [crash_zip, List.take_of_length_le (by rw [List.length_zip]; omega)]
theorem crashN_succ (S : List Bs) (l : List (Nat × Bs)) (k : List Bool) (i : Nat) (hl : i < l.length) (hk : i < k.length) : crashN S l k (i + 1) = if k[i] then putS (crashN S l k i) l[i] else crashN S l k i := by
  unfold crashN
  have hz : i < (l.zip k).length := by rw [List.length_zip]; omega
  rw [List.take_succ_eq_append_getElem hz, List.foldl_append, List.getElem_zip]
  rfl
theorem crashN_64 (S : List Bs) (l : List (Nat × Bs)) (k : List Bool) (hs : ∀ y ∈ S, y.length = 64) (hl : ∀ p ∈ l, p.2.length = 64) : ∀ i, (∀ y ∈ crashN S l k i, y.length = 64) ∧ (crashN S l k i).length = S.length
  | 0 => ⟨hs, rfl⟩
  | i + 1 => by
    obtain ⟨h1, h2⟩ := crashN_64 S l k hs hl i
    by_cases hc : i < l.length ∧ i < k.length
    · rw [crashN_succ S l k i hc.1 hc.2]
      split
      · exact ⟨set_64 h1 (hl _ (List.getElem_mem hc.1)), by unfold putS; rw [List.length_set]; exact h2⟩
      · exact ⟨h1, h2⟩
    · rw [crashN_end S l k (i + 1) (by omega), ← crashN_end S l k i (by omega)]
      exact ⟨h1, h2⟩
/-- All bytes of the program's disk, and its writes, are those of a disk over sectors. -/
structure PRel (n : Nat) (F : Bs) (ws : List PW) (fused : Bool) (left : Int) (off : Bool) (d : DM) : Prop where
  n4 : d.safe.length = 4 * n
  len : F.length = 256 * n
  now : F = dumpD d
  l : d.l = pcs ws
  undo : undoL F ws = d.safe.flatten
  ok : ∀ x ∈ ws, x.at_ < n ∧ x.was.length = 256 ∧ x.laid.length = 256
  off_ : off = d.off
  on : d.off = false → fused = d.fuse ∧ left = d.left
theorem PRel.is_ {n : Nat} {F : Bs} {ws : List PW} {fu : Bool} {left : Int} {off : Bool} {d : DM} (h : PRel n F ws fu left off d) (k : Int) : isD d k = (decide (0 ≤ k) && decide (k < (n : Int))) := by
  unfold isD
  rw [h.n4, show 4 * n / 4 = n by omega]
theorem PRel.read {n : Nat} {F : Bs} {ws : List PW} {fu : Bool} {left : Int} {off : Bool} {d : DM} (h : PRel n F ws fu left off d) (hok : OkD d) (k : Nat) (hk : k < n) : (((nowD d).drop (k * 4)).take 4).flatten = (F.drop (256 * k)).take 256 := by
  have h64 : ∀ x ∈ nowD d, x.length = 64 := now_64 (s := d.safe) d.l hok.safe hok.len
  have hl : (nowD d).length = 4 * n := (nowL_len _ _).trans h.n4
  have e1 : ((nowD d).take (k * 4)).flatten.length = 256 * k := by
    rw [flat_len _ (fun y hy => h64 y (List.mem_of_mem_take hy)), List.length_take]
    omega
  have e2 : (((nowD d).drop (k * 4)).take 4).flatten.length = 256 := by
    rw [flat_len _ (fun y hy => h64 y (List.mem_of_mem_drop (List.mem_of_mem_take hy))), List.length_take, List.length_drop]
    omega
  have e3 : F = ((nowD d).take (k * 4)).flatten ++ ((((nowD d).drop (k * 4)).take 4).flatten ++ (((nowD d).drop (k * 4)).drop 4).flatten) := by
    rw [h.now, ← List.flatten_append, List.take_append_drop, ← List.flatten_append, List.take_append_drop]
    rfl
  rw [e3, ← e1]
  generalize ((nowD d).take (k * 4)).flatten = X at *
  generalize (((nowD d).drop (k * 4)).take 4).flatten = Y at *
  rw [List.drop_left, ← e2, List.take_left]
theorem PRel.new (n : Nat) : PRel n (List.replicate (256 * n) 0) [] false 0 false (newD n) := by
  have e : (List.replicate (n * 4) noughtB).flatten = List.replicate (256 * n) 0 := by
    unfold noughtB
    rw [List.flatten_replicate_replicate, show n * 4 * 64 = 256 * n by omega]
  refine ⟨?_, ?_, ?_, rfl, ?_, fun x hx => by simp at hx, rfl, fun _ => ⟨rfl, rfl⟩⟩
  · show (List.replicate (n * 4) noughtB).length = _
    rw [List.length_replicate]; omega
  · rw [List.length_replicate]
  · exact e.symm
  · exact e.symm
/-- The bytes ahead of a write. -/
def wasB (F : Bs) (k : Nat) : Bs := (F.drop (256 * k)).take 256
theorem was_len (F : Bs) (n k : Nat) (h : F.length = 256 * n) (hk : k < n) : (wasB F k).length = 256 := by unfold wasB; rw [List.length_take, List.length_drop]; omega
theorem PRel.write {n : Nat} {F : Bs} {ws : List PW} {fu : Bool} {left : Int} {off : Bool} {d : DM} (h : PRel n F ws fu left off d) (hok : OkD d) (k : Nat) (hk : k < n) (b : Bs) (hb : b.length = 256) :
    PRel n (setB F (256 * k) b) (ws ++ [⟨k, wasB F k, b⟩]) fu left off { d with l := d.l ++ piecesL k b } := by
  have h64 : ∀ x ∈ nowD d, x.length = 64 := now_64 (s := d.safe) d.l hok.safe hok.len
  have hl : (nowD d).length = 4 * n := (nowL_len _ _).trans h.n4
  refine ⟨h.n4, by rw [setB_len]; exact h.len, ?_, ?_, ?_, ?_, h.off_, h.on⟩
  · rw [h.now]
    show setB (nowL d.safe d.l).flatten (256 * k) b = (nowL d.safe (d.l ++ piecesL k b)).flatten
    unfold nowL
    rw [List.foldl_append]
    exact (lay_flat (nowL d.safe d.l) k b h64 hb (by show k * 4 + 4 ≤ (nowD d).length; omega)).symm
  · rw [pcs_app, ← h.l]
    show d.l ++ piecesL k b = d.l ++ (piecesL k b ++ [])
    rw [List.append_nil]
  · rw [undo_app]
    show undoL (setB (setB F (256 * k) b) (256 * k) (wasB F k)) ws = _
    have := setB_back b F (256 * k) (by rw [h.len, hb]; omega)
    rw [hb] at this
    unfold wasB
    rw [this]
    exact h.undo
  · intro x hx
    rcases List.mem_append.1 hx with hx | hx
    · exact h.ok x hx
    · obtain rfl := List.mem_singleton.1 hx
      exact ⟨hk, was_len F n k h.len hk, hb⟩
theorem PRel.flush {n : Nat} {F : Bs} {ws : List PW} {fu : Bool} {left : Int} {off : Bool} {d : DM} (h : PRel n F ws fu left off d) : PRel n F [] fu left off { d with safe := nowD d, l := [] } :=
  ⟨(nowL_len _ _).trans h.n4, h.len, h.now, rfl, h.now, fun x hx => by simp at hx, h.off_, h.on⟩
theorem PRel.spend {n : Nat} {F : Bs} {ws : List PW} {fu fu' : Bool} {left left' : Int} {off off' : Bool} {d d' : DM} (h : PRel n F ws fu left off d) (hs : d'.safe = d.safe) (hl : d'.l = d.l) (ho : off' = d'.off) (hon : d'.off = false → fu' = d'.fuse ∧ left' = d'.left) : PRel n F ws fu' left' off' d' :=
  ⟨by rw [hs]; exact h.n4, h.len, by rw [h.now]; unfold dumpD nowD; rw [hs, hl], by rw [hl]; exact h.l, by rw [hs]; exact h.undo, h.ok, ho, hon⟩
/-- What is laid by so many of the list that a crash is handed. -/
def crashF (d : DM) (keep : List Bool) (i : Nat) : Bs := (crashN d.safe d.l keep i).flatten
theorem PRel.crash_step {n : Nat} {F : Bs} {ws : List PW} {fu : Bool} {left : Int} {off : Bool} {d : DM} (h : PRel n F ws fu left off d) (hok : OkD d) (keep : List Bool) (i : Nat) (hi : i < keep.length) (hw : i / 4 < ws.length) :
    crashF d keep (i + 1) = if keep[i] then setB (crashF d keep i) (256 * ws[i / 4].at_ + 64 * (i % 4)) (cutB ws[i / 4].laid (i % 4)) else crashF d keep i := by
  have hll : d.l.length = 4 * ws.length := by rw [h.l, pcs_len]
  have hl : i < d.l.length := by omega
  obtain ⟨h1, h2⟩ := crashN_64 d.safe d.l keep hok.safe hok.len i
  have hg := pcs_get ws (i / 4) (i % 4) hw (by omega)
  rw [← h.l, show 4 * (i / 4) + i % 4 = i by omega, List.getElem?_eq_getElem hl] at hg
  injection hg with hg
  have ha := (h.ok _ (List.getElem_mem hw))
  unfold crashF
  rw [crashN_succ d.safe d.l keep i hl hi]
  split
  · rw [hg]
    show ((crashN d.safe d.l keep i).set (ws[i / 4].at_ * 4 + i % 4) (cutB ws[i / 4].laid (i % 4))).flatten = _
    rw [set_flat _ _ _ h1 (cut_len _ _ ha.2.2 (by omega)) (by rw [h2, h.n4]; omega), show 64 * (ws[i / 4].at_ * 4 + i % 4) = 256 * ws[i / 4].at_ + 64 * (i % 4) by omega]
  · rfl
theorem PRel.crash {n : Nat} {F : Bs} {ws : List PW} {fu : Bool} {left : Int} {off : Bool} {d : DM} (h : PRel n F ws fu left off d) (hok : OkD d) (keep : List Bool) (i : Nat) (hi : keep.length ≤ i ∨ 4 * ws.length ≤ i) : PRel n (crashF d keep i) [] false 0 false (crashD d keep) := by
  have hll : d.l.length = 4 * ws.length := by rw [h.l, pcs_len]
  obtain ⟨h1, h2⟩ := crashN_64 d.safe d.l keep hok.safe hok.len i
  have e : crashF d keep i = (crashL d.safe d.l keep).flatten := by unfold crashF; rw [crashN_end _ _ _ _ (by omega)]
  refine ⟨(crashL_len _ _ _).trans h.n4, ?_, e, rfl, e, fun x hx => by simp at hx, rfl, fun _ => ⟨rfl, rfl⟩⟩
  unfold crashF
  rw [flat_len _ h1, h2, h.n4]
  omega
theorem crashF_len {n : Nat} {F : Bs} {ws : List PW} {fu : Bool} {left : Int} {off : Bool} {d : DM} (h : PRel n F ws fu left off d) (hok : OkD d) (keep : List Bool) (i : Nat) : (crashF d keep i).length = 256 * n := by
  obtain ⟨h1, h2⟩ := crashN_64 d.safe d.l keep hok.safe hok.len i
  unfold crashF
  rw [flat_len _ h1, h2, h.n4]
  omega
end Go.Proofs.Yteacldkfdhhphaa
