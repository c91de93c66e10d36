import Derived.Test.YtfohijnkeefcfaaGreatDoorKn12
import Derived.Test.YtfohijnkeefcfaaGreatDoorKn16
set_option linter.unusedVariables false
set_option linter.unusedSimpArgs false
set_option maxRecDepth 100000
set_option maxHeartbeats 8000000
namespace Go.Proofs.YtfohijnkeefcfaaGreatDoor.S5
open Go.RowKit
def writeAt (xs : List Value) (o : Nat) (vs : List Value) : List Value := xs.take o ++ vs ++ xs.drop (o + vs.length)
def FullR (w : World) (e : TypeId) (g : Nat) (xs : List Value) : Prop := w.heap[g]? = some (.cells xs.toArray e (0, 0)) /\ xs.length <= maxLen
theorem FullR.of {w : World} {B n : Nat} {e : TypeId} {g cap : Nat} {xs : List Value} (h : w.ownsRow B e 1 (.slice (some ⟨g, 0, none⟩) n cap) n xs) : ∃ sp, FullR w e g (xs ++ sp) /\ (xs ++ sp).length = cap /\ xs.length = n := by
  have hl := h.1
  rcases h.2 with ⟨h2, _⟩ | ⟨g', cap', cur, h1, h2, h3, h4, h5, h6, h7⟩
  · cases h2
  · injection h1 with e1 e2 e3
    injection e1 with e1
    injection e1 with e1
    subst e1 e3
    rw [Nat.mul_one] at hl h6 h7
    refine ⟨cur.toList.drop n, ⟨?_, ?_⟩, ?_, hl⟩
    · rw [h3, <- h7, List.take_append_drop]
    · rw [<- h7, List.take_append_drop, Array.length_toList]; omega
    · rw [<- h7, List.take_append_drop, Array.length_toList]; exact h6
theorem FullR.owns {w : World} {e : TypeId} {g : Nat} {xs ys : List Value} (h : FullR w e g (xs ++ ys)) : w.ownsRow 0 e 1 (.slice (some ⟨g, 0, none⟩) xs.length (xs ++ ys).length) xs.length xs := by
  refine ⟨by simp, .inr ⟨g, _, _, rfl, Nat.zero_le _, h.1, by simp, h.2, by simp, ?_⟩⟩
  simp
theorem writeAt_len (xs : List Value) (o : Nat) (vs : List Value) (h : o + vs.length <= xs.length) : (writeAt xs o vs).length = xs.length := by
  unfold writeAt
  simp only [List.length_append, List.length_take, List.length_drop]
  omega
theorem writeAt_step (xs : List Value) (o : Nat) (v : Value) (r : List Value) (h : o + (v :: r).length <= xs.length) : writeAt (xs.set o v) (o + 1) r = writeAt xs o (v :: r) := by
  have ho : o < xs.length := by simp at h; omega
  unfold writeAt
  rw [List.take_set, List.drop_set_of_lt (by omega), List.take_succ_eq_append_getElem ho, List.set_append_right _ _ (by simp; omega)]
  simp only [List.length_take, Nat.min_eq_left (Nat.le_of_lt ho), Nat.sub_self, List.set_cons_zero, List.append_assoc, List.cons_append, List.nil_append, List.length_cons]
  rw [show o + 1 + r.length = o + (r.length + 1) by omega]
theorem FullR.cells {e : TypeId} {g : Nat} : ∀ (vs : List Value) (o : Nat) (xs : List Value) (w : World), FullR w e g xs -> o + vs.length <= xs.length -> FullR (w.setCells g o vs) e g (writeAt xs o vs) /\ (∀ k, k ≠ g -> (w.setCells g o vs).heap[k]? = w.heap[k]?) /\ (w.setCells g o vs).heap.size = w.heap.size /\ (w.setCells g o vs).os = w.os /\ (w.setCells g o vs).tape = w.tape /\ (w.setCells g o vs).output = w.output
  | [], o, xs, w, h, hl => by
    refine ⟨?_, fun _ _ => rfl, rfl, rfl, rfl, rfl⟩
    have : writeAt xs o [] = xs := by simp [writeAt]
    rw [this]
    exact h
  | v :: r, o, xs, w, h, hl => by
    have h1 : FullR (w.setCell ⟨g, o, none⟩ v) e g (xs.set o v) := ⟨by rw [heap_setCell_same w g o _ e v h.1]; simp, by simpa using h.2⟩
    obtain ⟨a1, a2, a3, a4, a5, a6⟩ := FullR.cells r (o + 1) (xs.set o v) _ h1 (by simp at hl ⊢; omega)
    rw [writeAt_step xs o v r hl] at a1
    exact ⟨a1, fun k hk => (a2 k hk).trans (Below.heap_setCell _ _ _ _ hk), a3.trans (by simp [World.setCell]), a4, a5, a6⟩
theorem FullR.cell {w : World} {e : TypeId} {g : Nat} {xs : List Value} (h : FullR w e g xs) (j : Nat) : w.cell? ⟨g, j, none⟩ = xs[j]? := by
  simp [World.cell?, h.1]
theorem FullR.frz {w : World} {e : TypeId} {g : Nat} {xs : List Value} (h : FullR w e g xs) (j : Nat) : w.frozen? ⟨g, j, none⟩ = false := by
  simp [World.frozen?, h.1]
theorem intCells_len (l : List Nat) : (intCells l).length = l.length := by simp [intCells]
theorem intCells_get (l : List Nat) (j : Nat) (h : j < l.length) : (intCells l)[j]? = some (.int .i64 (l[j] : Int)) := by
  unfold intCells; rw [List.getElem?_map, List.getElem?_eq_getElem h]; rfl
theorem intCells_1c (l : List Nat) : ∀ u ∈ intCells l, u.oneCell' = true := by
  intro u hu
  obtain ⟨x, _, rfl⟩ := List.mem_map.1 hu
  rfl
theorem getD_map (l : List Nat) (j : Nat) (h : j < l.length) : (l.map (fun (x : Nat) => (x : Int))).getD j 0 = (l[j] : Int) := by
  rw [List.getD_eq_getElem?_getD, List.getElem?_map, List.getElem?_eq_getElem h]; rfl
theorem index_row (v : Value) (l : List Nat) (i : Nat) (hi : i < l.length) (hn : l.Nodup) (hl : l.length <= 1000000) (w : World) (h : w.ownsRow 0 3 1 v l.length (intCells l)) :
    Calls Tryz.prog 159 #[v, .int .i64 (l[i] : Int)] w fun e w' => e = .returned (.int .i64 (i : Int)) /\ w' = w := by
  rcases h.2 with ⟨_, h0⟩ | ⟨g, cap, cur, rfl, _⟩
  · omega
  obtain ⟨sp, hF, hc, _⟩ := FullR.of h
  refine (Any.slices_Index_int Tryz.lays108 g 0 l.length cap (l.map fun (x : Nat) => (x : Int)) _ w (by simp) (by omega) ?_).mono ?_
  · intro j hj
    have hj2 : j < l.length := by simpa using hj
    rw [Nat.zero_add, hF.cell, getD_map l j hj2, List.getElem?_append_left (by rw [intCells_len]; exact hj2), intCells_get l j hj2]
  · rintro e w' ⟨rfl, rfl⟩
    refine ⟨?_, rfl⟩
    rw [Lib.idxOf_hit _ l.length i _ hi (by simp) (getD_map l i hi)]
    intro j hj
    rw [getD_map l j (by omega)]
    intro e
    have : l[j] = l[i] := by omega
    have := (List.getElem_inj hn).1 this
    omega
def RowDone (v : Value) (w : World) (l' : List Nat) (e : Ending) (w' : World) : Prop :=
  ∃ v', e = .returned v' /\ w'.ownsRow 0 3 1 v' l'.length (intCells l') /\ (∀ k, v'.ownBlock = some k -> v.ownBlock = some k \/ w.heap.size <= k) /\ ButA (fun k => v.ownBlock = some k) w w'
theorem delete_row (v : Value) (l : List Nat) (i : Nat) (hi : i < l.length) (hl : l.length <= 1000000) (w : World) (h : w.ownsRow 0 3 1 v l.length (intCells l)) :
    Calls Tryz.prog 259 #[v, .int .i64 (i : Int), .int .i64 ((i + 1 : Nat) : Int)] w (RowDone v w (l.eraseIdx i)) := by
  rcases h.2 with ⟨_, h0⟩ | ⟨g, cap, cur, rfl, _, _, hnc, hcm, _⟩
  · omega
  obtain ⟨sp, hF, hc, _⟩ := FullR.of h
  have hcm2 : cap <= 9223372036854775807 := by unfold maxLen at hcm; omega
  refine (Any.slices_Delete_int_cells Tryz.laysNm223 g 0 l.length cap i (i + 1) (l.map fun (x : Nat) => (x : Int)) w (by simp) hnc hcm2 (by omega) (by omega) ?_ ?_).mono ?_
  · intro j hj
    have hj2 : j < l.length := by simpa using hj
    rw [Nat.zero_add, hF.cell, getD_map l j hj2, List.getElem?_append_left (by rw [intCells_len]; exact hj2), intCells_get l j hj2]
  · intro j _
    rw [Nat.zero_add, hF.frz]
  · rintro e w' ⟨rfl, q, rfl⟩
    have hF2 : FullR (w.drewN q) 3 g (intCells l ++ sp) := hF
    generalize hvs : List.map (Value.int IntKind.i64) _ = vs
    have hvl : vs = intCells (l.eraseIdx i) ++ [.int .i64 0] := by
      have ht : List.take l.length (List.map (fun (x : Nat) => (x : Int)) l) = List.map (fun (x : Nat) => (x : Int)) l := List.take_of_length_le (by simp)
      rw [<- hvs, ht, show i + 1 - i = 1 by omega, List.eraseIdx_eq_take_drop_succ]
      simp [intCells, List.map_take, List.map_drop]
      rfl
    have hel : (l.eraseIdx i).length = l.length - 1 := List.length_eraseIdx_of_lt hi
    have hlen : vs.length = l.length := by rw [hvl]; simp [intCells, hel]; omega
    obtain ⟨a1, a2, a3, a4, a5, a6⟩ := FullR.cells vs 0 _ _ hF2 (by rw [hlen]; simp [intCells])
    have hw : writeAt (intCells l ++ sp) 0 vs = intCells (l.eraseIdx i) ++ (.int .i64 0 :: sp) := by
      unfold writeAt
      rw [hlen, Nat.zero_add, List.drop_left' (intCells_len l), hvl]
      simp
    rw [hw] at a1
    have hown := a1.owns
    have hll : (intCells (l.eraseIdx i) ++ (.int .i64 0 :: sp)).length = cap := by
      rw [<- hc]
      simp [intCells, hel]
      omega
    rw [hll, intCells_len] at hown
    refine ⟨_, by rw [show l.length - (i + 1 - i) = (l.eraseIdx i).length by omega], hown, fun k hk => .inl hk, ⟨a4, a5, a6, by rw [a3]; exact Nat.le_refl _, fun k _ hne => a2 k (by rintro rfl; exact hne rfl)⟩⟩
def insL (l : List Nat) (i x : Nat) : List Nat := l.take i ++ x :: l.drop i
theorem insL_len (l : List Nat) (i x : Nat) (hi : i <= l.length) : (insL l i x).length = l.length + 1 := by
  unfold insL; simp; omega
theorem intCells_ins (l : List Nat) (i x : Nat) : intCells (insL l i x) = (intCells l).take i ++ .int .i64 (x : Int) :: (intCells l).drop i := by
  simp [intCells, insL, List.map_take, List.map_drop]
theorem zeroCells_int (n : Nat) : (Builtin.zeroCells (Value.int IntKind.i64 0).cells n).toList = List.replicate n (.int .i64 0) := by
  apply List.ext_getElem?
  intro j
  by_cases hj : j < n
  · simp [Builtin.zeroCells, Value.cells, hj, Nat.mod_one]
  · simp [Builtin.zeroCells, Value.cells, hj]
theorem insert_row (v : Value) (l : List Nat) (i x vb : Nat) (hi : i <= l.length) (hl : l.length <= 1000000) (w : World) (h : w.ownsRow 0 3 1 v l.length (intCells l)) (hvb : w.heap[vb]? = some (.cells #[.int .i64 (x : Int)] 3 (0, 0))) (hne : v.ownBlock ≠ some vb) :
    Calls Tryz.prog 238 #[v, .int .i64 (i : Int), .slice (some ⟨vb, 0, none⟩) 1 1] w (RowDone v w (insL l i x)) := by
  have hvl : vb < w.heap.size := (Array.getElem?_eq_some_iff.1 hvb).1
  have hvs : ∀ j u, ([.int .i64 (x : Int)] : List Value)[j]? = some u -> w.cell? ⟨vb, 0 + j, none⟩ = some u := fun j u hu => by
    rw [Nat.zero_add]
    simp only [World.cell?, hvb]
    simpa using hu
  have h1v : ∀ u ∈ ([.int .i64 (x : Int)] : List Value), u.oneCell' = true := fun u hu => by
    obtain rfl : u = .int .i64 (x : Int) := by simpa using hu
    rfl
  have hgrow : ∀ (c : Nat) (ys : List Value), c < l.length + 1 -> ys = intCells (insL l l.length x) -> ∀ W : World, W = w.drew.alloc (.cells (ys.toArray ++ Builtin.zeroCells (Value.int IntKind.i64 0).cells (grownCap w (l.length + 1) c 3 - (l.length + 1))) 3) -> RowDone v w (insL l l.length x) (.returned (.slice (some ⟨w.heap.size, 0, none⟩) (l.length + 1) (grownCap w (l.length + 1) c 3))) W := by
    intro c ys hc hys W hW
    have hge := grownCap_ge w (l.length + 1) c 3
    have hcm := grownCap_le_maxLen w (l.length + 1) c 3 (by unfold maxLen; omega)
    have hyl : ys.length = l.length + 1 := by rw [hys, intCells_len, insL_len _ _ _ (Nat.le_refl _)]
    have hF : FullR W 3 w.heap.size (ys ++ List.replicate (grownCap w (l.length + 1) c 3 - (l.length + 1)) (Value.int .i64 0)) := by
      refine ⟨?_, ?_⟩
      · rw [hW]
        refine (heap_alloc_new w.drew _).trans ?_
        congr 2
        apply Array.ext'
        rw [Array.toList_append, zeroCells_int]
      · simp [hyl]; omega
    have hown := hF.owns
    have hll : (ys ++ List.replicate (grownCap w (l.length + 1) c 3 - (l.length + 1)) (Value.int .i64 0)).length = grownCap w (l.length + 1) c 3 := by simp [hyl]; omega
    rw [hll, hyl, hys] at hown
    refine ⟨_, rfl, by rw [insL_len _ _ _ (Nat.le_refl _)]; exact hown, fun k hk => .inr ?_, ?_⟩
    · have : w.heap.size = k := by simpa [Value.ownBlock] using hk
      omega
    · rw [hW]
      exact (ButA.refl _ w).drew.alloc _
  have hend : insL l l.length x = l ++ [x] := by simp [insL]
  rcases h.2 with ⟨rfl, h0⟩ | ⟨g, cap, cur, rfl, _, _, hnc, hcm, _⟩
  · have hl0 : l = [] := List.eq_nil_of_length_eq_zero h0
    subst hl0
    have hi0 : i = 0 := by simpa using hi
    subst hi0
    refine (Any2.slices_Insert_int_end_grow Tryz.laysNm221 none 0 0 vb 0 1 1 [] [.int .i64 (x : Int)] w (by omega) (by omega) (by omega) (by omega) rfl rfl (fun _ => rfl) (by intro a ha; cases ha) hvs h1v).mono ?_
    rintro e w' ⟨rfl, rfl⟩
    exact hgrow 0 _ (by simp) (by simp [insL, intCells]) _ rfl
  · obtain ⟨sp, hF, hc, _⟩ := FullR.of h
    have hcm2 : cap <= 9223372036854775807 := by unfold maxLen at hcm; omega
    have hvg : vb ≠ g := fun e => hne (by rw [e]; rfl)
    have hcs : ∀ j u, (intCells l)[j]? = some u -> w.cell? ⟨g, 0 + j, none⟩ = some u := fun j u hu => by
      have hj : j < (intCells l).length := by
        rcases Nat.lt_or_ge j (intCells l).length with h | h
        · exact h
        · rw [List.getElem?_eq_none h] at hu; cases hu
      rw [Nat.zero_add, hF.cell, List.getElem?_append_left hj]
      exact hu
    have hspl : (intCells l).length + sp.length = cap := by rw [<- hc, List.length_append]
    rw [intCells_len] at hspl
    by_cases hend2 : i = l.length
    · subst hend2
      by_cases hroom : l.length + 1 <= cap
      · refine (Any2.slices_Insert_int_end_room Tryz.laysNm221 g 0 l.length cap vb 0 1 1 [.int .i64 (x : Int)] w (by omega) hroom hcm2 rfl ?_ ?_ hvs h1v).mono ?_
        · intro j hj
          rw [hF.cell, List.getElem?_eq_getElem (by rw [hc]; omega)]
          rfl
        · intro j hj
          exact hF.frz _
        · rintro e w' ⟨rfl, rfl⟩
          obtain ⟨a1, a2, a3, a4, a5, a6⟩ := FullR.cells [.int .i64 (x : Int)] (0 + l.length) _ _ hF (by rw [hc]; simp; omega)
          have hw : writeAt (intCells l ++ sp) (0 + l.length) [.int .i64 (x : Int)] = intCells (insL l l.length x) ++ sp.drop 1 := by
            unfold writeAt
            rw [Nat.zero_add, List.take_left' (intCells_len l), hend]
            simp [intCells, List.drop_append]
          rw [hw] at a1
          have hown := a1.owns
          have hll : (intCells (insL l l.length x) ++ sp.drop 1).length = cap := by
            rw [List.length_append, intCells_len, insL_len _ _ _ (Nat.le_refl _), List.length_drop]
            omega
          rw [hll, intCells_len] at hown
          exact ⟨_, by rw [insL_len _ _ _ (Nat.le_refl _)], hown, fun k hk => .inl hk, ⟨a4, a5, a6, by rw [a3]; exact Nat.le_refl _, fun k _ hne => a2 k (by rintro rfl; exact hne rfl)⟩⟩
      · refine (Any2.slices_Insert_int_end_grow Tryz.laysNm221 (some ⟨g, 0, none⟩) l.length cap vb 0 1 1 (intCells l) [.int .i64 (x : Int)] w (by omega) hnc (by omega) (by omega) (intCells_len l) rfl (by intro e; cases e) ?_ hvs h1v).mono ?_
        · intro a ha j u hu
          injection ha with ha
          subst ha
          rw [addr_add]
          have := hcs j u hu
          rw [Nat.zero_add] at this
          exact this
        · rintro e w' ⟨rfl, rfl⟩
          exact hgrow cap _ (by omega) (by rw [hend]; simp [intCells]) _ rfl
    · have hil : i < l.length := by omega
      by_cases hroom : l.length + 1 <= cap
      · refine (Any2.slices_Insert_int_shift Tryz.laysNm221 g 0 l.length cap i vb 0 1 1 (intCells l) [.int .i64 (x : Int)] w hil (by omega) hroom hcm2 hvg (intCells_len l) rfl hcs ?_ ?_ hvs (intCells_1c l) h1v 3 3 1 cap ?_ ?_ (by omega) ?_ ?_).mono ?_
        · intro j hj
          rw [hF.cell, List.getElem?_eq_getElem (by rw [hc]; omega)]
          rfl
        · intro j hj
          exact hF.frz _
        · simp [World.shape?, hvb]
        · simp only [World.shape?, hF.1]
          simp [hspl, intCells_len]
        · simp [World.frozen?, hvb]
        · simp [World.frozen?, hvb]
        · rintro e w' ⟨rfl, rfl⟩
          have hF0 : FullR w.drew 3 g (intCells l ++ sp) := hF
          have hdl : ((intCells l).drop i).length = l.length - i := by rw [List.length_drop, intCells_len]
          obtain ⟨a1, a2, a3, a4, a5, a6⟩ := FullR.cells ((intCells l).drop i) (0 + (i + 1)) _ _ hF0 (by rw [hc, hdl]; omega)
          obtain ⟨b1, b2, b3, b4, b5, b6⟩ := FullR.cells [.int .i64 (x : Int)] (0 + i) _ _ a1 (by rw [writeAt_len _ _ _ (by rw [hc, hdl]; omega), hc]; simp; omega)
          have hw : writeAt (writeAt (intCells l ++ sp) (0 + (i + 1)) ((intCells l).drop i)) (0 + i) [.int .i64 (x : Int)] = intCells (insL l i x) ++ sp.drop 1 := by
            have hil2 : i < (intCells l).length := by rw [intCells_len]; exact hil
            rw [intCells_ins]
            unfold writeAt
            simp only [Nat.zero_add, List.length_cons, List.length_nil, List.append_assoc]
            rw [hdl]
            have e1 : (intCells l ++ sp).take (i + 1) = (intCells l).take (i + 1) := List.take_append_of_le_length (by omega)
            have e2 : (intCells l ++ sp).drop (i + 1 + (l.length - i)) = sp.drop 1 := by
              rw [show i + 1 + (l.length - i) = (intCells l).length + 1 by rw [intCells_len]; omega, List.drop_append]
              simp
            rw [e1, e2]
            have e3 : ((intCells l).take (i + 1) ++ ((intCells l).drop i ++ sp.drop 1)).take i = (intCells l).take i := by
              rw [List.take_append_of_le_length (by simp; omega), List.take_take, Nat.min_eq_left (by omega)]
            have e4 : ((intCells l).take (i + 1) ++ ((intCells l).drop i ++ sp.drop 1)).drop (i + 1) = (intCells l).drop i ++ sp.drop 1 := by
              rw [List.drop_left' (by simp; omega)]
            rw [e3, e4]
            simp
          rw [hw] at b1
          have hown := b1.owns
          have hll : (intCells (insL l i x) ++ sp.drop 1).length = cap := by
            rw [List.length_append, intCells_len, insL_len _ _ _ hi, List.length_drop]
            omega
          rw [hll, intCells_len] at hown
          exact ⟨_, by rw [insL_len _ _ _ hi], hown, fun k hk => .inl hk, ⟨b4.trans a4, b5.trans a5, b6.trans a6, by rw [b3, a3]; exact Nat.le_refl _, fun k _ hne => (b2 k (by rintro rfl; exact hne rfl)).trans (a2 k (by rintro rfl; exact hne rfl))⟩⟩
      · refine (Any2.slices_Insert_int_grow Tryz.laysNm221 g 0 l.length cap i vb 0 1 1 (intCells l) [.int .i64 (x : Int)] w hil (by omega) hnc (by omega) (by omega) (intCells_len l) rfl hcs hvs (intCells_1c l) h1v).mono ?_
        rintro e w' ⟨rfl, rfl⟩
        show RowDone _ _ _ (.returned (.slice (some ⟨w.heap.size, 0, none⟩) (l.length + 1) (grownCap w (l.length + 1) cap 3))) _
        have hge := grownCap_ge w (l.length + 1) cap 3
        have hcm3 := grownCap_le_maxLen w (l.length + 1) cap 3 (by unfold maxLen; omega)
        show RowDone _ _ _ _ ((((w.alloc (.cells (((intCells l).take i).toArray ++ Builtin.zeroCells (Value.int .i64 0).cells (l.length + 1 - i) ++ Builtin.zeroCells (Value.int .i64 0).cells (grownCap w (l.length + 1) cap 3 - (l.length + 1))) 3)).drew.setCells w.heap.size i [.int .i64 (x : Int)]).drew).setCells w.heap.size (i + 1) ((intCells l).drop i))
        generalize grownCap w (l.length + 1) cap 3 = G at *
        have hdl : ((intCells l).drop i).length = l.length - i := by rw [List.length_drop, intCells_len]
        have htl : ((intCells l).take i).length = i := by rw [List.length_take, intCells_len]; omega
        generalize hZ : List.replicate (l.length + 1 - i) (Value.int .i64 0) ++ List.replicate (G - (l.length + 1)) (Value.int .i64 0) = Z
        have hzl : Z.length = G - i := by rw [<- hZ]; simp; omega
        have hF0 : FullR ((w.alloc (.cells (((intCells l).take i).toArray ++ Builtin.zeroCells (Value.int .i64 0).cells (l.length + 1 - i) ++ Builtin.zeroCells (Value.int .i64 0).cells (G - (l.length + 1))) 3)).drew) 3 w.heap.size ((intCells l).take i ++ Z) := by
          refine ⟨?_, by rw [List.length_append, htl, hzl]; omega⟩
          refine (heap_alloc_new w _).trans ?_
          congr 2
          apply Array.ext'
          rw [Array.toList_append, Array.toList_append, zeroCells_int, zeroCells_int, <- hZ]
          simp
        have hfl : ((intCells l).take i ++ Z).length = G := by rw [List.length_append, htl, hzl]; omega
        obtain ⟨a1, a2, a3, a4, a5, a6⟩ := FullR.cells [.int .i64 (x : Int)] i _ _ hF0 (by rw [hfl]; simp; omega)
        have a1' : FullR (((w.alloc (.cells (((intCells l).take i).toArray ++ Builtin.zeroCells (Value.int .i64 0).cells (l.length + 1 - i) ++ Builtin.zeroCells (Value.int .i64 0).cells (G - (l.length + 1))) 3)).drew.setCells w.heap.size i [.int .i64 (x : Int)]).drew) 3 w.heap.size _ := a1
        have hwl : (writeAt ((intCells l).take i ++ Z) i [.int .i64 (x : Int)]).length = G := by rw [writeAt_len _ _ _ (by rw [hfl]; simp; omega), hfl]
        obtain ⟨b1, b2, b3, b4, b5, b6⟩ := FullR.cells ((intCells l).drop i) (i + 1) _ _ a1' (by rw [hwl, hdl]; omega)
        have hw : writeAt (writeAt ((intCells l).take i ++ Z) i [.int .i64 (x : Int)]) (i + 1) ((intCells l).drop i) = intCells (insL l i x) ++ Z.drop (l.length + 1 - i) := by
          rw [intCells_ins]
          unfold writeAt
          rw [List.take_left' htl, hdl]
          simp only [List.length_cons, List.length_nil, List.append_assoc]
          have e1 : ((intCells l).take i ++ Z).drop (i + (0 + 1)) = Z.drop 1 := by
            rw [List.drop_append, htl, List.drop_eq_nil_of_le (by omega)]
            simp
          rw [e1]
          have e2 : ((intCells l).take i ++ ([Value.int .i64 (x : Int)] ++ Z.drop 1)).take (i + 1) = (intCells l).take i ++ [.int .i64 (x : Int)] := by
            rw [<- List.append_assoc, List.take_left' (by simp [htl])]
          have e3 : ((intCells l).take i ++ ([Value.int .i64 (x : Int)] ++ Z.drop 1)).drop (i + 1 + (l.length - i)) = Z.drop (l.length + 1 - i) := by
            rw [<- List.append_assoc, List.drop_append, List.drop_eq_nil_of_le (by simp [htl]), List.nil_append, List.drop_drop]
            congr 1
            simp [htl]
            omega
          rw [e2, e3]
          simp
        rw [hw] at b1
        have hown := b1.owns
        have hll : (intCells (insL l i x) ++ Z.drop (l.length + 1 - i)).length = G := by
          rw [List.length_append, intCells_len, insL_len _ _ _ hi, List.length_drop, hzl]
          omega
        rw [hll, intCells_len, insL_len _ _ _ hi] at hown
        refine ⟨_, rfl, by rw [insL_len _ _ _ hi]; exact hown, fun k hk => .inr ?_, ⟨b4.trans a4, b5.trans a5, b6.trans a6, ?_, fun k hk _ => ?_⟩⟩
        · have : w.heap.size = k := by simpa [Value.ownBlock] using hk
          omega
        · rw [b3]
          show _ <= (World.setCells _ _ _ _).heap.size
          rw [a3]
          show _ <= (w.alloc _).heap.size
          simp
        · refine (b2 k (by omega)).trans ((a2 k (by omega)).trans ?_)
          exact Below.heap_alloc w _ k hk
end Go.Proofs.YtfohijnkeefcfaaGreatDoor.S5
