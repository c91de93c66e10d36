/- Tokens as they lie in memory: a token's cells, lists of attributes, rows of tokens; what stands in the world while they grow. No function of the program in it. -/
import Derived.Test.YtlfjmgniflkapaaDoorBack
import Derived.Test.YtlfjmgniflkapaaDoorAllL
import Derived.Test.YtlfjmgniflkapaaDoorBase
import Derived.Laws.ResultCell
import Derived.Laws.AppendOwn
import Derived.Lib.RuneBytes
import Derived.Maps.AppendAt
set_option linter.unusedVariables false
set_option linter.unusedSimpArgs false
namespace Go.Proofs.YtlfjmgniflkapaaDoor
open Go.RowKit

theorem cut_at (s : ByteArray) (p : Nat) (hp : p ≤ s.size) (a b : List UInt8) (h : a ++ b = s.data.toList.drop p) : s.extract p (s.size - b.length) = ⟨a.toArray⟩ ∧ p ≤ s.size - b.length := by
  have hl := congrArg List.length h
  rw [List.length_append, List.length_drop, ← size_list] at hl
  refine ⟨str_of _ _ ?_, by omega⟩
  rw [Lib.extract_data, ← h, show s.size - b.length - p = a.length by omega, List.take_left]
def tokV (t : Tok) (sv : Value) : Value := .agg #[.int .i64 (t.kind : Int), .string ⟨t.name.toArray⟩, sv, .bool t.closed, .string ⟨t.text.toArray⟩]
/-- An append whose run is known. -/
theorem wpList_append_run {P : Program} {ops : Array Oper} {rest : List Oper} {o : Oper} {a : Act} {Q : Exit → Act → World → Prop} {w : World} (hgd : o.guard = none) (s x : Operand) (t : TypeId)
    (ho : o.op = .call { callee := .builtin .append, args := #[s, x], argTypes := #[t, t] }) (v1 v2 v' : Value) (w' : World) (hs : a.eval s = v1) (hx : a.eval x = v2)
    (hr : (Builtin.append_ #[t, t] o.type #[v1, v2]).run P w = .ok v' w') (h : wpList P ops Q rest (a.put o.dst v') w') : wpList P ops Q (o :: rest) a w :=
  wpList_plain hgd fun _ hK => by
    unfold Oper.wp execOp
    simp only [ho, resolve, invoke, builtin, Sem.run_bind, Sem.run_pure, Result.andThen_ok, List.map_toArray, List.map_cons, List.map_nil, hs, hx, hr]
    exact hK _ _ h
theorem bcell {W w1 : World} (hb : Below W.heap.size W w1) : (∀ b o, b < W.heap.size → w1.cell? ⟨b, o, none⟩ = W.cell? ⟨b, o, none⟩) ∧ (∀ b o, b < W.heap.size → w1.frozen? ⟨b, o, none⟩ = W.frozen? ⟨b, o, none⟩) :=
  ⟨fun b o h => hb.cell (p := ⟨b, o, none⟩) h, fun b o h => hb.frozen (p := ⟨b, o, none⟩) h⟩
theorem below_set5 {w w2 : World} (o : Obj) (b : Below (w.alloc o).heap.size (w.alloc o) w2) (v0 v1 v2 v3 v4 : Value) : Below w.heap.size w (((((w2.setCell ⟨w.heap.size, 0, none⟩ v0).setCell ⟨w.heap.size, 1, none⟩ v1).setCell ⟨w.heap.size, 2, none⟩ v2).setCell ⟨w.heap.size, 3, none⟩ v3).setCell ⟨w.heap.size, 4, none⟩ v4) :=
  have h : Below w.heap.size w w2 := (below_alloc w o).trans (b.mono (by simp))
  ((((h.setCell (Nat.le_refl _) _).setCell (Nat.le_refl _) _).setCell (Nat.le_refl _) _).setCell (Nat.le_refl _) _).setCell (Nat.le_refl _) _
theorem spanT_step (s : ByteArray) (k : Nat) (h : k < s.size) : (spanT (s.data.toList.drop k)).2 = if beginsB (s.data.toList.drop k) then s.data.toList.drop k else (spanT (s.data.toList.drop (k + 1))).2 := by
  rw [drop_cons s k h]
  simp only [spanT]
  split <;> rfl
theorem ret_si {a : ByteArray} {x y : Int} (h : x = y) : Ending.returned (.tuple #[.string a, .int .i64 x]) = .returned (.tuple #[.string a, .int .i64 y]) := by rw [h]
/-- What the loop has passed. -/
def PreC (L l : List UInt8) (k : Nat) : Prop := findC L = (findC l).map fun x => (L.take k ++ x.1, x.2)
theorem preC_start (L : List UInt8) : PreC L L 0 := by
  unfold PreC
  cases findC L <;> simp
theorem preC_step (L : List UInt8) (k : Nat) (c : UInt8) (r : List UInt8) (hk : L.drop k = c :: r) (h1 : [45, 45, 62].isPrefixOf (c :: r) = false) (h2 : [45, 45, 33, 62].isPrefixOf (c :: r) = false) (h : PreC L (L.drop k) k) : PreC L r (k + 1) := by
  unfold PreC at *
  rw [h, hk]
  simp only [findC, h1, h2, Bool.false_eq_true, if_false]
  have e : L.take (k + 1) = L.take k ++ [c] := by
    have hlt : k < L.length := by
      have := congrArg List.length hk
      rw [List.length_drop, List.length_cons] at this
      omega
    rw [List.take_succ_eq_append_getElem hlt]
    have := List.drop_eq_getElem_cons hlt
    rw [hk] at this
    rw [(List.cons.inj this).1]
  rw [e]
  cases findC r <;> simp
theorem preC_3 (L : List UInt8) (k : Nat) (h1 : [45, 45, 62].isPrefixOf (L.drop k) = true) (h : PreC L (L.drop k) k) : findC L = some (L.take k, L.drop (k + 3)) := by
  unfold PreC at h
  cases hk : L.drop k with
  | nil => rw [hk] at h1; simp [List.isPrefixOf] at h1
  | cons c r =>
    rw [hk] at h1 h
    rw [h]
    simp only [findC, h1, if_true, Option.map_some, List.append_nil]
    rw [← hk, List.drop_drop]
theorem preC_4 (L : List UInt8) (k : Nat) (h0 : [45, 45, 62].isPrefixOf (L.drop k) = false) (h1 : [45, 45, 33, 62].isPrefixOf (L.drop k) = true) (h : PreC L (L.drop k) k) : findC L = some (L.take k, L.drop (k + 4)) := by
  unfold PreC at h
  cases hk : L.drop k with
  | nil => rw [hk] at h1; simp [List.isPrefixOf] at h1
  | cons c r =>
    rw [hk] at h1 h h0
    rw [h]
    simp only [findC, h0, h1, if_true, Bool.false_eq_true, if_false, Option.map_some, List.append_nil]
    rw [← hk, List.drop_drop]
theorem preC_end (L : List UInt8) (k : Nat) (h : PreC L [] k) : findC L = none := by
  unfold PreC at h
  rw [h]
  rfl
/-- What is left of the text of a comment that does not end, as a string. -/
theorem trim_3 (t : ByteArray) (h : ([45, 45, 33] : List UInt8).isSuffixOf t.data.toList = true) : t.extract 0 (t.size - 3) = ⟨(trimC t.data.toList).toArray⟩ := by
  refine str_of _ _ ?_
  unfold trimC
  rw [if_pos h, Lib.extract_data, List.drop_zero, Nat.sub_zero, ← size_list]
theorem trim_2 (t : ByteArray) (h0 : ([45, 45, 33] : List UInt8).isSuffixOf t.data.toList = false) (h : ([45, 45] : List UInt8).isSuffixOf t.data.toList = true) : t.extract 0 (t.size - 2) = ⟨(trimC t.data.toList).toArray⟩ := by
  refine str_of _ _ ?_
  unfold trimC
  rw [if_neg (by rw [h0]; decide), if_pos h, Lib.extract_data, List.drop_zero, Nat.sub_zero, ← size_list]
theorem trim_1 (t : ByteArray) (h0 : ([45, 45, 33] : List UInt8).isSuffixOf t.data.toList = false) (h1 : ([45, 45] : List UInt8).isSuffixOf t.data.toList = false) (h : ([45] : List UInt8).isSuffixOf t.data.toList = true) : t.extract 0 (t.size - 1) = ⟨(trimC t.data.toList).toArray⟩ := by
  refine str_of _ _ ?_
  unfold trimC
  rw [if_neg (by rw [h0]; decide), if_neg (by rw [h1]; decide), if_pos h, Lib.extract_data, List.drop_zero, Nat.sub_zero, ← size_list]
theorem trim_0 (t : ByteArray) (h0 : ([45, 45, 33] : List UInt8).isSuffixOf t.data.toList = false) (h1 : ([45, 45] : List UInt8).isSuffixOf t.data.toList = false) (h : ([45] : List UInt8).isSuffixOf t.data.toList = false) : t = ⟨(trimC t.data.toList).toArray⟩ := by
  refine str_of _ _ ?_
  unfold trimC
  rw [if_neg (by rw [h0]; decide), if_neg (by rw [h1]; decide), if_neg (by rw [h]; decide)]
theorem suf_le (t : ByteArray) (o : List UInt8) (h : o.isSuffixOf t.data.toList = true) : o.length ≤ t.size := by
  rw [List.isSuffixOf_iff_suffix] at h
  have := h.length_le
  rw [← size_list] at this
  exact this
/-- What is told of a comment behind its first bytes. -/
def restC (r : List UInt8) : List UInt8 × List UInt8 :=
  match findC r with
  | some x => x
  | none => (trimC r, [])
theorem below_drewN {B : Nat} {a w : World} (h : Below B a w) : ∀ n, Below B a (w.drewN n)
  | 0 => h
  | n + 1 => (below_drewN h n).drew
theorem below_set5b {w w2 : World} (h : Below w.heap.size w w2) (v0 v1 v2 v3 v4 : Value) : Below w.heap.size w (((((w2.setCell ⟨w.heap.size, 0, none⟩ v0).setCell ⟨w.heap.size, 1, none⟩ v1).setCell ⟨w.heap.size, 2, none⟩ v2).setCell ⟨w.heap.size, 3, none⟩ v3).setCell ⟨w.heap.size, 4, none⟩ v4) :=
  ((((h.setCell (Nat.le_refl _) _).setCell (Nat.le_refl _) _).setCell (Nat.le_refl _) _).setCell (Nat.le_refl _) _).setCell (Nat.le_refl _) _
theorem restC_some (r : List UInt8) (x : List UInt8 × List UInt8) (h : findC r = some x) : restC r = x := by
  unfold restC; rw [h]
theorem restC_none (r : List UInt8) (h : findC r = none) : restC r = (trimC r, []) := by
  unfold restC; rw [h]
abbrev AttrL := List (List UInt8 × List UInt8)
/-- A list of attributes lies there. -/
def IsA (w : World) (v : Value) (aa : AttrL) : Prop :=
  (v = .slice none 0 0 ∧ aa = []) ∨ ∃ b o cap, v = .slice (some ⟨b, o, none⟩) aa.length cap ∧ aa.length ≤ cap ∧
    ∀ j (hj : j < aa.length), w.cell? ⟨b, o + j * 2, none⟩ = some (.string ⟨aa[j].1.toArray⟩) ∧ w.cell? ⟨b, o + j * 2 + 1, none⟩ = some (.string ⟨aa[j].2.toArray⟩)
theorem IsA.below {w W : World} {v : Value} {aa : AttrL} (h : IsA w v aa) (hb : Below w.heap.size w W) : IsA W v aa := by
  rcases h with h | ⟨b, o, cap, h1, h2, h3⟩
  · exact .inl h
  · refine .inr ⟨b, o, cap, h1, h2, fun j hj => ?_⟩
    obtain ⟨c1, c2⟩ := h3 j hj
    exact ⟨by rw [hb.cell (cell_lt c1)]; exact c1, by rw [hb.cell (cell_lt c2)]; exact c2⟩
def gotS (o : Option (List UInt8)) : ByteArray := ⟨(o.getD []).toArray⟩
theorem getA_hit (aa : AttrL) (n : List UInt8) (k : Nat) (hk : k < aa.length) (h : (aa[k].1 == n) = true) : getA (aa.drop k) n = some aa[k].2 := by
  unfold getA
  rw [List.drop_eq_getElem_cons hk, List.find?_cons, h]
  rfl
theorem getA_miss (aa : AttrL) (n : List UInt8) (k : Nat) (hk : k < aa.length) (h : (aa[k].1 == n) = false) : getA (aa.drop k) n = getA (aa.drop (k + 1)) n := by
  unfold getA
  rw [List.drop_eq_getElem_cons hk, List.find?_cons, h]
def attrCells : AttrL → List Value
  | [] => []
  | a :: r => .string ⟨a.1.toArray⟩ :: .string ⟨a.2.toArray⟩ :: attrCells r
theorem attrCells_len : ∀ aa : AttrL, (attrCells aa).length = aa.length * 2
  | [] => rfl
  | a :: r => by
    simp only [attrCells, List.length_cons, attrCells_len r]
    omega
theorem attrCells_app : ∀ aa bb : AttrL, attrCells (aa ++ bb) = attrCells aa ++ attrCells bb
  | [], bb => rfl
  | a :: r, bb => by
    simp only [List.cons_append, attrCells, attrCells_app r bb]
theorem attrCells_get : ∀ (aa : AttrL) (j : Nat) (hj : j < aa.length), (attrCells aa)[j * 2]? = some (.string ⟨aa[j].1.toArray⟩) ∧ (attrCells aa)[j * 2 + 1]? = some (.string ⟨aa[j].2.toArray⟩)
  | a :: r, 0, _ => ⟨rfl, rfl⟩
  | a :: r, j + 1, hj => by
    have h := attrCells_get r j (by simpa using hj)
    rw [show (j + 1) * 2 = j * 2 + 1 + 1 by omega]
    exact h
theorem attrCells_1c : ∀ (aa : AttrL), ∀ u ∈ attrCells aa, u.oneCell' = true
  | [] => by intro u hu; cases hu
  | a :: r => by
    intro u hu
    simp only [attrCells, List.mem_cons] at hu
    rcases hu with rfl | rfl | hu
    · rfl
    · rfl
    · exact attrCells_1c r u hu
theorem owns_isA {w : World} {B n : Nat} {v : Value} {aa : AttrL} (h : w.ownsRow B 36 2 v n (attrCells aa)) : IsA w v aa := by
  have hn : n = aa.length := by
    have := h.1
    rw [attrCells_len] at this
    omega
  subst hn
  rcases h.2 with ⟨rfl, h2⟩ | ⟨g, cap, cur, rfl, _, _, hc, _, _, _⟩
  · exact .inl ⟨rfl, List.eq_nil_of_length_eq_zero h2⟩
  · refine .inr ⟨g, 0, cap, rfl, hc, fun j hj => ?_⟩
    obtain ⟨g1, g2⟩ := attrCells_get aa j hj
    have c1 := h.cells rfl _ _ g1
    have c2 := h.cells rfl _ _ g2
    rw [addr_add] at c1 c2
    rw [Nat.zero_add]
    exact ⟨c1, c2⟩
theorem owns_below {w W : World} {B n : Nat} {e : TypeId} {z : Nat} {v : Value} {xs : List Value} (h : w.ownsRow B e z v n xs) (hb : Below w.heap.size w W) : W.ownsRow B e z v n xs := by
  refine ⟨h.1, ?_⟩
  rcases h.2 with h2 | ⟨g, cap, cur, h1, h2, h3, h4⟩
  · exact .inl h2
  · refine .inr ⟨g, cap, cur, h1, h2, ?_, h4⟩
    have hg : g < w.heap.size := (Array.getElem?_eq_some_iff.1 h3).1
    rw [hb.block g hg]; exact h3
/-- append(l, a), l a list of the call's own, a one that was just written out. -/
theorem append_attr (W : World) (B n : Nat) (v : Value) (aa : AttrL) (a : List UInt8 × List UInt8) (hown : W.ownsRow B 36 2 v n (attrCells aa)) (hl : n ≤ 1000000) (hB : B ≤ W.heap.size) :
    ∃ v' w', (Builtin.append_ #[22, 22] 22 #[v, .slice (some ⟨W.heap.size, 0, none⟩) 1 1]).run Tryd.prog (W.alloc (.cells #[.string ⟨a.1.toArray⟩, .string ⟨a.2.toArray⟩] 36)) = .ok v' w' ∧ w'.ownsRow B 36 2 v' (n + 1) (attrCells (aa ++ [a])) ∧ Below B W w' := by
  have b0 : Below W.heap.size W (W.alloc (.cells #[.string ⟨a.1.toArray⟩, .string ⟨a.2.toArray⟩] 36)) := (Below.refl _ W).alloc (Nat.le_refl _) _
  have hown2 := owns_below hown b0
  have hblk : ∀ k, v.ownBlock = some k → B ≤ k := by
    intro k hk
    rcases hown.2 with ⟨rfl, _⟩ | ⟨g, cap, cur, rfl, h2, _⟩
    · simp [Value.ownBlock] at hk
    · simp [Value.ownBlock] at hk; omega
  obtain ⟨v', w', hr, ho, hg, _⟩ := run_append_own (P := Tryd.prog) (W.alloc (.cells #[.string ⟨a.1.toArray⟩, .string ⟨a.2.toArray⟩] 36)) B 22 22 36 Tryd.t36 (.agg #[.string ⟨#[]⟩, .string ⟨#[]⟩]) 2 32 Tryd.underlying22 (by kernel_rfl) (by kernel_rfl) (by kernel_rfl) (by kernel_rfl) (by kernel_rfl) (by omega)
      v n (attrCells aa) hown2 ⟨W.heap.size, 0, none⟩ 1 1 (attrCells [a]) rfl
      (by
        intro j u hu
        have hj : j < 2 := (List.getElem?_eq_some_iff.1 hu).1
        rcases (by omega : j = 0 ∨ j = 1) with rfl | rfl
        · have : u = .string ⟨a.1.toArray⟩ := (Option.some.inj hu).symm
          subst this
          rw [addr_add, World.cell?_alloc_mark]
          rfl
        · have : u = .string ⟨a.2.toArray⟩ := (Option.some.inj hu).symm
          subst this
          rw [addr_add, World.cell?_alloc_mark]
          rfl) (attrCells_1c [a]) (by unfold maxLen; omega) (by omega) (by simp; omega)
  refine ⟨v', w', hr, ?_, ((b0.mono hB)).grown hg (by simp; omega) hblk⟩
  rw [attrCells_app]
  exact ho
def tok0 : List Value := [.int .i64 0, .string ⟨#[]⟩, .slice none 0 0, .bool false, .string ⟨#[]⟩]
theorem set_other (W : World) (a b : Addr) (v : Value) (h : a ≠ b) : (W.setCell a v).cell? b = W.cell? b := by
  apply World.cell?_setCell_other
  exact h
theorem set_same (W : World) (a : Addr) (v u : Value) (h : W.cell? a = some u) : (W.setCell a v).cell? a = some v := by
  apply World.cell?_setCell_same
  exact h
theorem owns_set {w : World} {B n : Nat} {e : TypeId} {z : Nat} {v : Value} {xs : List Value} (h : w.ownsRow B e z v n xs) (a : Addr) (u : Value) (hb : a.block < B) : (w.setCell a u).ownsRow B e z v n xs := by
  refine ⟨h.1, ?_⟩
  rcases h.2 with h2 | ⟨g, cap, cur, h1, h2, h3, h4⟩
  · exact .inl h2
  · refine .inr ⟨g, cap, cur, h1, h2, ?_, h4⟩
    rw [Below.heap_setCell w a u g (by omega)]
    exact h3
theorem owns_form {w : World} {B n : Nat} {e : TypeId} {z : Nat} {v : Value} {xs : List Value} (h : w.ownsRow B e z v n xs) : ∃ a c, v = .slice a n c := by
  rcases h.2 with ⟨h1, h2⟩ | ⟨g, cap, _, h1, _⟩
  · subst h2
    exact ⟨_, _, h1⟩
  · exact ⟨_, _, h1⟩
theorem IsA.set {w : World} {v : Value} {aa : AttrL} (h : IsA w v aa) (a : Addr) (u : Value) (hb : ∀ k, v.ownBlock = some k → k ≠ a.block) : IsA (w.setCell a u) v aa := by
  rcases h with h | ⟨b, o, cap, rfl, h2, h3⟩
  · exact .inl h
  · have hn : b ≠ a.block := hb b rfl
    refine .inr ⟨b, o, cap, rfl, h2, fun j hj => ?_⟩
    obtain ⟨c1, c2⟩ := h3 j hj
    exact ⟨by rw [set_other _ _ _ _ (fun e => hn (by rw [e]))]; exact c1, by rw [set_other _ _ _ _ (fun e => hn (by rw [e]))]; exact c2⟩
theorem IsA.alloc {w : World} {v : Value} {aa : AttrL} (h : IsA w v aa) (o : Obj) : IsA (w.alloc o) v aa := h.below (below_alloc w o)
/-- A token that is answered, with the place behind it. -/
def TokAt (w w' : World) (e : Ending) (s : ByteArray) (R : Tok × List UInt8) : Prop := ∃ sv, IsA w' sv R.1.attrs ∧ (∀ k, sv.ownBlock = some k → w.heap.size ≤ k) ∧ e = .returned (.tuple #[tokV R.1 sv, .int .i64 (s.size - R.2.length : Nat)])
/-- What Next tells, of a place that need be none. -/
def nextZ (mode : Int) (n : List UInt8) (f : Bool) (l : List UInt8) (z : Int) : Tok × List UInt8 := if 0 ≤ z ∧ z < l.length then nextR mode n f (l.drop z.toNat) else ({ kind := 0 }, [])
theorem nextZ_in (mode : Int) (n : List UInt8) (f : Bool) (l : List UInt8) (p : Nat) (h : p < l.length) : nextZ mode n f l (p : Int) = nextR mode n f (l.drop p) := by
  unfold nextZ
  rw [if_pos (by omega), show (p : Int).toNat = p by omega]
theorem nextZ_out (mode : Int) (n : List UInt8) (f : Bool) (l : List UInt8) (z : Int) (h : z < 0 ∨ (l.length : Int) ≤ z) : nextZ mode n f l z = ({ kind := 0 }, []) := by
  unfold nextZ
  rw [if_neg (by omega)]
theorem spanS_step (n : List UInt8) (s : ByteArray) (k : Nat) (h : k < s.size) : (spanS n (s.data.toList.drop k)).2 = if stopB n (s.data.toList.drop k) then s.data.toList.drop k else (spanS n (s.data.toList.drop (k + 1))).2 := by
  rw [drop_cons s k h]
  simp only [spanS]
  split <;> rfl
theorem isA_form {w : World} {v : Value} {aa : AttrL} (h : IsA w v aa) : ∃ a c, v = .slice a aa.length c := by
  rcases h with ⟨rfl, rfl⟩ | ⟨b, o, cap, rfl, _⟩
  · exact ⟨_, _, rfl⟩
  · exact ⟨_, _, rfl⟩
abbrev RowL := List (Tok × Value)
def tokC (p : Tok × Value) : List Value := [.int .i64 (p.1.kind : Int), .string ⟨p.1.name.toArray⟩, p.2, .bool p.1.closed, .string ⟨p.1.text.toArray⟩]
def tokCells : RowL → List Value
  | [] => []
  | p :: r => tokC p ++ tokCells r
theorem tokCells_len : ∀ ts : RowL, (tokCells ts).length = ts.length * 5
  | [] => rfl
  | p :: r => by
    simp only [tokCells, tokC, List.length_append, List.length_cons, List.length_nil, tokCells_len r]
    omega
theorem tokCells_app : ∀ a b : RowL, tokCells (a ++ b) = tokCells a ++ tokCells b
  | [], b => rfl
  | p :: r, b => by simp only [List.cons_append, tokCells, tokCells_app r b, List.append_assoc]
theorem tokCells_get : ∀ (ts : RowL) (j : Nat) (hj : j < ts.length) (o : Nat) (ho : o < 5), (tokCells ts)[j * 5 + o]? = (tokC ts[j])[o]?
  | p :: r, 0, _, o, ho => by
    simp only [tokCells, Nat.zero_mul, Nat.zero_add, List.getElem_cons_zero]
    rw [List.getElem?_append_left (by simpa [tokC] using ho)]
  | p :: r, j + 1, hj, o, ho => by
    have h := tokCells_get r j (by simpa using hj) o ho
    simp only [tokCells, List.getElem_cons_succ]
    rw [List.getElem?_append_right (by simp [tokC]; omega), show (j + 1) * 5 + o - (tokC p).length = j * 5 + o by simp [tokC]; omega]
    exact h
theorem append_tok (W : World) (B n : Nat) (v : Value) (ts : RowL) (p : Tok × Value) (hp : p.2.oneCell' = true) (hts : ∀ q ∈ ts, q.2.oneCell' = true) (hown : W.ownsRow B 32 5 v n (tokCells ts)) (hl : n ≤ 1000000) (hB : B ≤ W.heap.size) :
    ∃ v' w', (Builtin.append_ #[43, 43] 43 #[v, .slice (some ⟨W.heap.size, 0, none⟩) 1 1]).run Tryd.prog (W.alloc (.cells (tokC p).toArray 32)) = .ok v' w' ∧ w'.ownsRow B 32 5 v' (n + 1) (tokCells (ts ++ [p])) ∧ Below B W w' ∧
      (∀ k, k < W.heap.size → v.ownBlock ≠ some k → w'.heap[k]? = W.heap[k]?) ∧ (v'.ownBlock = v.ownBlock ∨ v'.ownBlock = some (W.heap.size + 1)) := by
  have b0 : Below W.heap.size W (W.alloc (.cells (tokC p).toArray 32)) := (Below.refl _ W).alloc (Nat.le_refl _) _
  have hown2 := owns_below hown b0
  have hblk : ∀ k, v.ownBlock = some k → B ≤ k := fun k hk => (hown.lt k hk).1
  have h := run_append_own_at (P := Tryd.prog) (W.alloc (.cells (tokC p).toArray 32)) B 43 43 32 Tryd.t32 (.agg #[.int .i64 0, .string ⟨#[]⟩, .slice none 0 0, .bool false, .string ⟨#[]⟩]) 5 72 Tryd.underlying43 (by kernel_rfl) (by kernel_rfl) (by kernel_rfl) (by kernel_rfl) (by kernel_rfl) (by omega)
      v n (tokCells ts) hown2 ⟨W.heap.size, 0, none⟩ 1 1 (tokCells [p]) (by simp [tokCells, tokC])
      (by
        intro j u hu
        rw [addr_add, World.cell?_alloc_mark]
        simpa [tokCells] using hu)
      (by
        intro u hu
        simp only [tokCells, tokC, List.append_nil, List.mem_cons, List.not_mem_nil, or_false] at hu
        rcases hu with rfl | rfl | rfl | rfl | rfl
        · rfl
        · rfl
        · exact hp
        · rfl
        · rfl) (by unfold maxLen; omega) (by omega) (by simp; omega)
  obtain ⟨v', w', hr, ho, hg, _, hbk⟩ := h
  refine ⟨v', w', hr, by rw [tokCells_app]; exact ho, ((b0.mono hB)).grown hg (by simp; omega) hblk, fun k hk hne => ?_, ?_⟩
  · rw [hg.block k (by simp; omega) (fun e => hne e.symm), b0.block k hk]
  · rcases hbk with h | h
    · exact .inl h
    · exact .inr (by rw [h]; simp)
theorem isA_nil {w : World} {v : Value} (W : World) (h : IsA w v []) : IsA W v [] := by
  rcases h with h | ⟨b, o, cap, h1, h2, _⟩
  · exact .inl h
  · exact .inr ⟨b, o, cap, h1, h2, fun j hj => by simp at hj⟩
theorem isA_keep {w W : World} {v : Value} {aa : AttrL} (h : IsA w v aa) (hk : aa = [] ∨ ∀ b, v.ownBlock = some b → W.heap[b]? = w.heap[b]?) : IsA W v aa := by
  rcases hk with rfl | hk
  · exact isA_nil W h
  · rcases h with h | ⟨b, o, cap, rfl, h2, h3⟩
    · exact .inl h
    · have hb := hk b rfl
      refine .inr ⟨b, o, cap, rfl, h2, fun j hj => ?_⟩
      obtain ⟨c1, c2⟩ := h3 j hj
      exact ⟨by rw [World.cell?_of_block (a := ⟨b, o + j * 2, none⟩) hb]; exact c1, by rw [World.cell?_of_block (a := ⟨b, o + j * 2 + 1, none⟩) hb]; exact c2⟩
def AttOk (wr : World) (G : Nat) (lv : Value) (p : Tok × Value) : Prop := p.2.oneCell' = true ∧ IsA wr p.2 p.1.attrs ∧ (p.1.attrs = [] ∨ ∀ b, p.2.ownBlock = some b → b < wr.heap.size ∧ b ≠ G ∧ lv.ownBlock ≠ some b)
theorem AttOk.keep {w W : World} {G : Nat} {lv lv' : Value} {p : Tok × Value} (h : AttOk w G lv p) (hk : ∀ b, b < w.heap.size → b ≠ G → lv.ownBlock ≠ some b → W.heap[b]? = w.heap[b]? ∧ b < W.heap.size ∧ lv'.ownBlock ≠ some b) : AttOk W G lv' p := by
  obtain ⟨h1, h2, h3⟩ := h
  rcases h3 with h3 | h3
  · exact ⟨h1, isA_keep h2 (.inl h3), .inl h3⟩
  · refine ⟨h1, isA_keep h2 (.inr fun b hb => ?_), .inr fun b hb => ?_⟩
    · obtain ⟨a, c, d⟩ := h3 b hb
      exact (hk b a c d).1
    · obtain ⟨a, c, d⟩ := h3 b hb
      exact ⟨(hk b a c d).2.1, c, (hk b a c d).2.2⟩
structure AllS (w wr : World) (G : Nat) (lv : Value) (ts : RowL) (t : Tok) (sv : Value) : Prop where
  bel : Below w.heap.size w wr
  lt : w.heap.size ≤ G
  lt2 : G < wr.heap.size
  cs : ∀ o, wr.cell? ⟨G, o, none⟩ = (tokC (t, sv))[o]?
  cf : ∀ o, wr.frozen? ⟨G, o, none⟩ = false
  own : wr.ownsRow w.heap.size 32 5 lv ts.length (tokCells ts)
  lvG : lv.ownBlock ≠ some G
  att : ∀ p ∈ ts, AttOk wr G lv p
  att1 : AttOk wr G lv (t, sv)
theorem AllS.call {w wr W : World} {G : Nat} {lv : Value} {ts : RowL} {t : Tok} {sv : Value} (h : AllS w wr G lv ts t sv) (hb : Below wr.heap.size wr W) : AllS w W G lv ts t sv where
  bel := h.bel.trans (hb.mono h.bel.size)
  lt := h.lt
  lt2 := Nat.lt_of_lt_of_le h.lt2 hb.size
  cs := fun o => by rw [hb.cell (p := ⟨G, o, none⟩) h.lt2]; exact h.cs o
  cf := fun o => by rw [hb.frozen (p := ⟨G, o, none⟩) h.lt2]; exact h.cf o
  own := owns_below h.own hb
  lvG := h.lvG
  att := fun p hp => (h.att p hp).keep fun b b1 b2 b3 => ⟨hb.block b b1, Nat.lt_of_lt_of_le b1 hb.size, b3⟩
  att1 := h.att1.keep fun b b1 b2 b3 => ⟨hb.block b b1, Nat.lt_of_lt_of_le b1 hb.size, b3⟩
theorem AllS.push {w wr W : World} {G : Nat} {lv lv' : Value} {ts : RowL} {t : Tok} {sv : Value} (h : AllS w wr G lv ts t sv) (hb : Below w.heap.size wr W) (ho : W.ownsRow w.heap.size 32 5 lv' (ts ++ [(t, sv)]).length (tokCells (ts ++ [(t, sv)])))
    (hk : ∀ k, k < wr.heap.size → lv.ownBlock ≠ some k → W.heap[k]? = wr.heap[k]?) (hbk : lv'.ownBlock = lv.ownBlock ∨ lv'.ownBlock = some (wr.heap.size + 1)) : AllS w W G lv' (ts ++ [(t, sv)]) t sv := by
  have key : ∀ b, b < wr.heap.size → b ≠ G → lv.ownBlock ≠ some b → W.heap[b]? = wr.heap[b]? ∧ b < W.heap.size ∧ lv'.ownBlock ≠ some b := fun b b1 b2 b3 => ⟨hk b b1 b3, Nat.lt_of_lt_of_le b1 hb.size, by
    rcases hbk with e | e
    · rw [e]; exact b3
    · rw [e]; intro hc; have := Option.some.inj hc; omega⟩
  have a1 := h.att1.keep key
  have hG := hk G h.lt2 h.lvG
  refine { bel := h.bel.trans hb, lt := h.lt, lt2 := Nat.lt_of_lt_of_le h.lt2 hb.size, cs := fun o => ?_, cf := fun o => ?_, own := ho, lvG := ?_, att := fun p hp => ?_, att1 := a1 }
  · rw [World.cell?_of_block (a := ⟨G, o, none⟩) hG]; exact h.cs o
  · rw [World.frozen?_of_block (a := ⟨G, o, none⟩) hG]; exact h.cf o
  · rcases hbk with e | e
    · rw [e]; exact h.lvG
    · rw [e]; intro hc; have := Option.some.inj hc; have := h.lt2; omega
  · rcases List.mem_append.1 hp with hp | hp
    · exact (h.att p hp).keep key
    · rw [List.mem_singleton.1 hp]; exact a1
def put5 (W : World) (G : Nat) (p : Tok × Value) : World := ((((W.setCell ⟨G, 0, none⟩ (.int .i64 (p.1.kind : Int))).setCell ⟨G, 1, none⟩ (.string ⟨p.1.name.toArray⟩)).setCell ⟨G, 2, none⟩ p.2).setCell ⟨G, 3, none⟩ (.bool p.1.closed)).setCell ⟨G, 4, none⟩ (.string ⟨p.1.text.toArray⟩)
theorem put5_heap (W : World) (G : Nat) (p : Tok × Value) (b : Nat) (h : b ≠ G) : (put5 W G p).heap[b]? = W.heap[b]? := by
  unfold put5
  rw [Below.heap_setCell _ _ _ b h, Below.heap_setCell _ _ _ b h, Below.heap_setCell _ _ _ b h, Below.heap_setCell _ _ _ b h, Below.heap_setCell _ _ _ b h]
theorem put5_size (W : World) (G : Nat) (p : Tok × Value) : (put5 W G p).heap.size = W.heap.size := by
  simp [put5, World.setCell]
theorem AllS.put5 {w wr : World} {G : Nat} {lv : Value} {ts : RowL} {t : Tok} {sv : Value} (h : AllS w wr G lv ts t sv) (t' : Tok) (sv' : Value) (ha : AttOk wr G lv (t', sv')) : AllS w (put5 wr G (t', sv')) G lv ts t' sv' := by
  have key : ∀ b, b < wr.heap.size → b ≠ G → lv.ownBlock ≠ some b → (Go.Proofs.YtlfjmgniflkapaaDoor.put5 wr G (t', sv')).heap[b]? = wr.heap[b]? ∧ b < (Go.Proofs.YtlfjmgniflkapaaDoor.put5 wr G (t', sv')).heap.size ∧ lv.ownBlock ≠ some b := fun b b1 b2 b3 => ⟨put5_heap _ _ _ b b2, by rw [put5_size]; exact b1, b3⟩
  have e0 : wr.cell? ⟨G, 0, none⟩ = some (.int .i64 (t.kind : Int)) := h.cs 0
  have e1 : wr.cell? ⟨G, 1, none⟩ = some (.string ⟨t.name.toArray⟩) := h.cs 1
  have e2 : wr.cell? ⟨G, 2, none⟩ = some sv := h.cs 2
  have e3 : wr.cell? ⟨G, 3, none⟩ = some (.bool t.closed) := h.cs 3
  have e4 : wr.cell? ⟨G, 4, none⟩ = some (.string ⟨t.text.toArray⟩) := h.cs 4
  have ne : ∀ (i j : Nat), i ≠ j → (⟨G, i, none⟩ : Addr) ≠ ⟨G, j, none⟩ := fun i j hij e => hij (congrArg Addr.off e)
  refine { bel := ((((h.bel.setCell h.lt _).setCell h.lt _).setCell h.lt _).setCell h.lt _).setCell h.lt _, lt := h.lt, lt2 := by rw [put5_size]; exact h.lt2, cs := fun o => ?_, cf := fun o => ?_, own := ?_, lvG := h.lvG, att := fun p hp => (h.att p hp).keep key, att1 := ha.keep key }
  · unfold Go.Proofs.YtlfjmgniflkapaaDoor.put5
    rcases (by omega : o = 0 ∨ o = 1 ∨ o = 2 ∨ o = 3 ∨ o = 4 ∨ 5 ≤ o) with rfl | rfl | rfl | rfl | rfl | ho
    · rw [set_other _ _ _ _ (ne 4 0 (by decide)), set_other _ _ _ _ (ne 3 0 (by decide)), set_other _ _ _ _ (ne 2 0 (by decide)), set_other _ _ _ _ (ne 1 0 (by decide)), set_same _ _ _ _ e0]
      rfl
    · rw [set_other _ _ _ _ (ne 4 1 (by decide)), set_other _ _ _ _ (ne 3 1 (by decide)), set_other _ _ _ _ (ne 2 1 (by decide)), set_same _ _ _ _ (by rw [set_other _ _ _ _ (ne 0 1 (by decide))]; exact e1)]
      rfl
    · rw [set_other _ _ _ _ (ne 4 2 (by decide)), set_other _ _ _ _ (ne 3 2 (by decide)), set_same _ _ _ _ (by rw [set_other _ _ _ _ (ne 1 2 (by decide)), set_other _ _ _ _ (ne 0 2 (by decide))]; exact e2)]
      rfl
    · rw [set_other _ _ _ _ (ne 4 3 (by decide)), set_same _ _ _ _ (by rw [set_other _ _ _ _ (ne 2 3 (by decide)), set_other _ _ _ _ (ne 1 3 (by decide)), set_other _ _ _ _ (ne 0 3 (by decide))]; exact e3)]
      rfl
    · rw [set_same _ _ _ _ (by rw [set_other _ _ _ _ (ne 3 4 (by decide)), set_other _ _ _ _ (ne 2 4 (by decide)), set_other _ _ _ _ (ne 1 4 (by decide)), set_other _ _ _ _ (ne 0 4 (by decide))]; exact e4)]
      rfl
    · rw [set_other _ _ _ _ (ne 4 o (by omega)), set_other _ _ _ _ (ne 3 o (by omega)), set_other _ _ _ _ (ne 2 o (by omega)), set_other _ _ _ _ (ne 1 o (by omega)), set_other _ _ _ _ (ne 0 o (by omega)), h.cs o]
      rw [List.getElem?_eq_none (by simp [tokC]; omega), List.getElem?_eq_none (by simp [tokC]; omega)]
  · unfold Go.Proofs.YtlfjmgniflkapaaDoor.put5
    simp only [World.frozen?_setCell]
    exact h.cf o
  · refine ⟨h.own.1, ?_⟩
    rcases h.own.2 with h2 | ⟨g, cap, cur, h1, h2, h3, h4⟩
    · exact .inl h2
    · refine .inr ⟨g, cap, cur, h1, h2, ?_, h4⟩
      rw [put5_heap _ _ _ g (fun e => h.lvG (by rw [h1, e]; rfl))]
      exact h3
theorem nextZ_le (mode : Int) (n : List UInt8) (f : Bool) (l : List UInt8) (k : Nat) (h : k ≤ l.length) : nextZ mode n f l (k : Int) = nextR mode n f (l.drop k) := by
  by_cases hk : k < l.length
  · exact nextZ_in mode n f l k hk
  · rw [nextZ_out mode n f l k (.inr (by omega)), List.drop_eq_nil_of_le (by omega), nextR_nil]
def kindF (wr : World) (G : Nat) : Nat := match wr.cell? ⟨G, 0, none⟩ with | some (.int _ z) => if z = 0 then 0 else 1 | _ => 0
theorem kindF_of {w wr : World} {G : Nat} {lv : Value} {ts : RowL} {t : Tok} {sv : Value} (h : AllS w wr G lv ts t sv) : kindF wr G = if t.kind = 0 then 0 else 1 := by
  unfold kindF
  rw [show wr.cell? ⟨G, 0, none⟩ = some (.int .i64 (t.kind : Int)) from h.cs 0]
  simp only
  by_cases hk : t.kind = 0
  · rw [if_pos hk, if_pos (by omega)]
  · rw [if_neg hk, if_neg (by omega)]
theorem att_new {W : World} {sv : Value} {aa : AttrL} {lo : Nat} (hA : IsA W sv aa) (hob : ∀ b, sv.ownBlock = some b → lo ≤ b) : aa = [] ∨ ∀ b, sv.ownBlock = some b → b < W.heap.size ∧ lo ≤ b := by
  by_cases h0 : aa = []
  · exact .inl h0
  · refine .inr fun b hb => ⟨?_, hob b hb⟩
    rcases hA with ⟨_, h⟩ | ⟨g, o, cap, rfl, _, h3⟩
    · exact absurd h h0
    · have hpos : 0 < aa.length := by
        cases aa with
        | nil => exact absurd rfl h0
        | cons x y => simp
      have := cell_lt (h3 0 hpos).1
      have e : g = b := Option.some.inj hb
      rw [← e]
      exact this
end Go.Proofs.YtlfjmgniflkapaaDoor
