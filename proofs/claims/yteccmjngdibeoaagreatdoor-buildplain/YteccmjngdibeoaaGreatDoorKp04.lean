import Derived.Test.YteccmjngdibeoaaGreatDoorKp01
import Derived.Test.YteccmjngdibeoaaGreatDoorKp03
import Derived.Laws.ResultCell
import Derived.Laws.AppendOwn
import Derived.Lib.RuneBytes
import Derived.Maps.AppendAt
import Derived.Laws.Runes
set_option linter.unusedVariables false
set_option linter.unusedSimpArgs false
set_option maxRecDepth 4000
namespace Go.Proofs.YteccmjngdibeoaaGreatDoor.S4
open Go.RowKit
def tokV (t : Tok) (sv : Value) : Value := .agg #[.int .i64 (t.kind : Int), .string ⟨t.name.toArray⟩, sv, .bool t.closed, .string ⟨t.text.toArray⟩]
theorem wpList_append_run {P : Program} {ops : Array Oper} {rest : List Oper} {o : Oper} {a : Act} {Q : Exit → Act → World → Prop} {w : World} (hgd : o.guard = none) (s x : Operand) (t : TypeId)
    (ho : o.op = .call { callee := .builtin .append, args := #[s, x], argTypes := #[t, t] }) (v1 v2 v' : Value) (w' : World) (hs : a.eval s = v1) (hx : a.eval x = v2)
    (hr : (Builtin.append_ #[t, t] o.type #[v1, v2]).run P w = .ok v' w') (h : wpList P ops Q rest (a.put o.dst v') w') : wpList P ops Q (o :: rest) a w :=
  wpList_plain hgd fun _ hK => by
    unfold Oper.wp execOp
    simp only [ho, resolve, invoke, builtin, Sem.run_bind, Sem.run_pure, Result.andThen_ok, List.map_toArray, List.map_cons, List.map_nil, hs, hx, hr]
    exact hK _ _ h
theorem spanT_step (s : ByteArray) (k : Nat) (h : k < s.size) : (spanT (s.data.toList.drop k)).2 = if beginsB (s.data.toList.drop k) then s.data.toList.drop k else (spanT (s.data.toList.drop (k + 1))).2 := by
  rw [drop_cons s k h]
  simp only [spanT]
  split <;> rfl
def PreC (L l : List UInt8) (k : Nat) : Prop := findC L = (findC l).map fun x => (L.take k ++ x.1, x.2)
theorem preC_start (L : List UInt8) : PreC L L 0 := by
  unfold PreC
  cases findC L <;> simp
theorem preC_step (L : List UInt8) (k : Nat) (c : UInt8) (r : List UInt8) (hk : L.drop k = c :: r) (h1 : [45, 45, 62].isPrefixOf (c :: r) = false) (h2 : [45, 45, 33, 62].isPrefixOf (c :: r) = false) (h : PreC L (L.drop k) k) : PreC L r (k + 1) := by
  unfold PreC at *
  rw [h, hk]
  simp only [findC, h1, h2, Bool.false_eq_true, if_false]
  have e : L.take (k + 1) = L.take k ++ [c] := by
    have hlt : k < L.length := by
      have := congrArg List.length hk
      rw [List.length_drop, List.length_cons] at this
      omega
    rw [List.take_succ_eq_append_getElem hlt]
    have := List.drop_eq_getElem_cons hlt
    rw [hk] at this
    rw [(List.cons.inj this).1]
  rw [e]
  cases findC r <;> simp
theorem preC_3 (L : List UInt8) (k : Nat) (h1 : [45, 45, 62].isPrefixOf (L.drop k) = true) (h : PreC L (L.drop k) k) : findC L = some (L.take k, L.drop (k + 3)) := by
  unfold PreC at h
  cases hk : L.drop k with
  | nil => rw [hk] at h1; simp [List.isPrefixOf] at h1
  | cons c r =>
    rw [hk] at h1 h
    rw [h]
    simp only [findC, h1, if_true, Option.map_some, List.append_nil]
    rw [← hk, List.drop_drop]
theorem preC_4 (L : List UInt8) (k : Nat) (h0 : [45, 45, 62].isPrefixOf (L.drop k) = false) (h1 : [45, 45, 33, 62].isPrefixOf (L.drop k) = true) (h : PreC L (L.drop k) k) : findC L = some (L.take k, L.drop (k + 4)) := by
  unfold PreC at h
  cases hk : L.drop k with
  | nil => rw [hk] at h1; simp [List.isPrefixOf] at h1
  | cons c r =>
    rw [hk] at h1 h h0
    rw [h]
    simp only [findC, h0, h1, if_true, Bool.false_eq_true, if_false, Option.map_some, List.append_nil]
    rw [← hk, List.drop_drop]
theorem preC_end (L : List UInt8) (k : Nat) (h : PreC L [] k) : findC L = none := by
  unfold PreC at h
  rw [h]
  rfl
def restC (r : List UInt8) : List UInt8 × List UInt8 :=
  match findC r with
  | some x => x
  | none => (trimC r, [])
theorem below_drewN {B : Nat} {a w : World} (h : Below B a w) : ∀ n, Below B a (w.drewN n)
  | 0 => h
  | n + 1 => (below_drewN h n).drew
theorem below_set5b {w w2 : World} (h : Below w.heap.size w w2) (v0 v1 v2 v3 v4 : Value) : Below w.heap.size w (((((w2.setCell ⟨w.heap.size, 0, none⟩ v0).setCell ⟨w.heap.size, 1, none⟩ v1).setCell ⟨w.heap.size, 2, none⟩ v2).setCell ⟨w.heap.size, 3, none⟩ v3).setCell ⟨w.heap.size, 4, none⟩ v4) :=
  ((((h.setCell (Nat.le_refl _) _).setCell (Nat.le_refl _) _).setCell (Nat.le_refl _) _).setCell (Nat.le_refl _) _).setCell (Nat.le_refl _) _
theorem restC_some (r : List UInt8) (x : List UInt8 × List UInt8) (h : findC r = some x) : restC r = x := by
  unfold restC; rw [h]
theorem restC_none (r : List UInt8) (h : findC r = none) : restC r = (trimC r, []) := by
  unfold restC; rw [h]
abbrev AttrL := List (List UInt8 × List UInt8)
def IsA (w : World) (v : Value) (aa : AttrL) : Prop :=
  (v = .slice none 0 0 ∧ aa = []) ∨ ∃ b o cap, v = .slice (some ⟨b, o, none⟩) aa.length cap ∧ aa.length ≤ cap ∧
    ∀ j (hj : j < aa.length), w.cell? ⟨b, o + j * 2, none⟩ = some (.string ⟨aa[j].1.toArray⟩) ∧ w.cell? ⟨b, o + j * 2 + 1, none⟩ = some (.string ⟨aa[j].2.toArray⟩)
theorem IsA.below {w W : World} {v : Value} {aa : AttrL} (h : IsA w v aa) (hb : Below w.heap.size w W) : IsA W v aa := by
  rcases h with h | ⟨b, o, cap, h1, h2, h3⟩
  · exact .inl h
  · refine .inr ⟨b, o, cap, h1, h2, fun j hj => ?_⟩
    obtain ⟨c1, c2⟩ := h3 j hj
    exact ⟨by rw [hb.cell (cell_lt c1)]; exact c1, by rw [hb.cell (cell_lt c2)]; exact c2⟩
def attrCells : AttrL → List Value
  | [] => []
  | a :: r => .string ⟨a.1.toArray⟩ :: .string ⟨a.2.toArray⟩ :: attrCells r
theorem attrCells_len : ∀ aa : AttrL, (attrCells aa).length = aa.length * 2
  | [] => rfl
  | a :: r => by
    simp only [attrCells, List.length_cons, attrCells_len r]
    omega
theorem attrCells_app : ∀ aa bb : AttrL, attrCells (aa ++ bb) = attrCells aa ++ attrCells bb
  | [], bb => rfl
  | a :: r, bb => by
    simp only [List.cons_append, attrCells, attrCells_app r bb]
theorem attrCells_get : ∀ (aa : AttrL) (j : Nat) (hj : j < aa.length), (attrCells aa)[j * 2]? = some (.string ⟨aa[j].1.toArray⟩) ∧ (attrCells aa)[j * 2 + 1]? = some (.string ⟨aa[j].2.toArray⟩)
  | a :: r, 0, _ => ⟨rfl, rfl⟩
  | a :: r, j + 1, hj => by
    have h := attrCells_get r j (by simpa using hj)
    rw [show (j + 1) * 2 = j * 2 + 1 + 1 by omega]
    exact h
theorem attrCells_1c : ∀ (aa : AttrL), ∀ u ∈ attrCells aa, u.oneCell' = true
  | [] => by intro u hu; cases hu
  | a :: r => by
    intro u hu
    simp only [attrCells, List.mem_cons] at hu
    rcases hu with rfl | rfl | hu
    · rfl
    · rfl
    · exact attrCells_1c r u hu
theorem owns_isA {w : World} {B n : Nat} {v : Value} {aa : AttrL} (h : w.ownsRow B 108 2 v n (attrCells aa)) : IsA w v aa := by
  have hn : n = aa.length := by
    have := h.1
    rw [attrCells_len] at this
    omega
  subst hn
  rcases h.2 with ⟨rfl, h2⟩ | ⟨g, cap, cur, rfl, _, _, hc, _, _, _⟩
  · exact .inl ⟨rfl, List.eq_nil_of_length_eq_zero h2⟩
  · refine .inr ⟨g, 0, cap, rfl, hc, fun j hj => ?_⟩
    obtain ⟨g1, g2⟩ := attrCells_get aa j hj
    have c1 := h.cells rfl _ _ g1
    have c2 := h.cells rfl _ _ g2
    rw [addr_add] at c1 c2
    rw [Nat.zero_add]
    exact ⟨c1, c2⟩
theorem owns_below {w W : World} {B n : Nat} {e : TypeId} {z : Nat} {v : Value} {xs : List Value} (h : w.ownsRow B e z v n xs) (hb : Below w.heap.size w W) : W.ownsRow B e z v n xs := by
  refine ⟨h.1, ?_⟩
  rcases h.2 with h2 | ⟨g, cap, cur, h1, h2, h3, h4⟩
  · exact .inl h2
  · refine .inr ⟨g, cap, cur, h1, h2, ?_, h4⟩
    have hg : g < w.heap.size := (Array.getElem?_eq_some_iff.1 h3).1
    rw [hb.block g hg]; exact h3
theorem append_attr (W : World) (B n : Nat) (v : Value) (aa : AttrL) (a : List UInt8 × List UInt8) (hown : W.ownsRow B 108 2 v n (attrCells aa)) (hl : n ≤ 1000000) (hB : B ≤ W.heap.size) :
    ∃ v' w', (Builtin.append_ #[34, 34] 34 #[v, .slice (some ⟨W.heap.size, 0, none⟩) 1 1]).run Tryz.prog (W.alloc (.cells #[.string ⟨a.1.toArray⟩, .string ⟨a.2.toArray⟩] 108)) = .ok v' w' ∧ w'.ownsRow B 108 2 v' (n + 1) (attrCells (aa ++ [a])) ∧ Below B W w' := by
  have b0 : Below W.heap.size W (W.alloc (.cells #[.string ⟨a.1.toArray⟩, .string ⟨a.2.toArray⟩] 108)) := (Below.refl _ W).alloc (Nat.le_refl _) _
  have hown2 := owns_below hown b0
  have hblk : ∀ k, v.ownBlock = some k → B ≤ k := by
    intro k hk
    rcases hown.2 with ⟨rfl, _⟩ | ⟨g, cap, cur, rfl, h2, _⟩
    · simp [Value.ownBlock] at hk
    · simp [Value.ownBlock] at hk; omega
  obtain ⟨v', w', hr, ho, hg, _⟩ := run_append_own (P := Tryz.prog) (W.alloc (.cells #[.string ⟨a.1.toArray⟩, .string ⟨a.2.toArray⟩] 108)) B 34 34 108 Tryz.t108 (.agg #[.string ⟨#[]⟩, .string ⟨#[]⟩]) 2 32 Tryz.underlying34 (by kernel_rfl) (by kernel_rfl) (by kernel_rfl) (by kernel_rfl) (by kernel_rfl) (by omega)
      v n (attrCells aa) hown2 ⟨W.heap.size, 0, none⟩ 1 1 (attrCells [a]) rfl
      (by
        intro j u hu
        have hj : j < 2 := (List.getElem?_eq_some_iff.1 hu).1
        rcases (by omega : j = 0 ∨ j = 1) with rfl | rfl
        · have : u = .string ⟨a.1.toArray⟩ := (Option.some.inj hu).symm
          subst this
          rw [addr_add, World.cell?_alloc_mark]
          rfl
        · have : u = .string ⟨a.2.toArray⟩ := (Option.some.inj hu).symm
          subst this
          rw [addr_add, World.cell?_alloc_mark]
          rfl) (attrCells_1c [a]) (by unfold maxLen; omega) (by omega) (by simp; omega)
  refine ⟨v', w', hr, ?_, ((b0.mono hB)).grown hg (by simp; omega) hblk⟩
  rw [attrCells_app]
  exact ho
def tok0 : List Value := [.int .i64 0, .string ⟨#[]⟩, .slice none 0 0, .bool false, .string ⟨#[]⟩]
theorem set_other (W : World) (a b : Addr) (v : Value) (h : a ≠ b) : (W.setCell a v).cell? b = W.cell? b := by
  apply World.cell?_setCell_other
  exact h
theorem set_same (W : World) (a : Addr) (v u : Value) (h : W.cell? a = some u) : (W.setCell a v).cell? a = some v := by
  apply World.cell?_setCell_same
  exact h
theorem owns_set {w : World} {B n : Nat} {e : TypeId} {z : Nat} {v : Value} {xs : List Value} (h : w.ownsRow B e z v n xs) (a : Addr) (u : Value) (hb : a.block < B) : (w.setCell a u).ownsRow B e z v n xs := by
  refine ⟨h.1, ?_⟩
  rcases h.2 with h2 | ⟨g, cap, cur, h1, h2, h3, h4⟩
  · exact .inl h2
  · refine .inr ⟨g, cap, cur, h1, h2, ?_, h4⟩
    rw [Below.heap_setCell w a u g (by omega)]
    exact h3
theorem owns_form {w : World} {B n : Nat} {e : TypeId} {z : Nat} {v : Value} {xs : List Value} (h : w.ownsRow B e z v n xs) : ∃ a c, v = .slice a n c := by
  rcases h.2 with ⟨h1, h2⟩ | ⟨g, cap, _, h1, _⟩
  · subst h2
    exact ⟨_, _, h1⟩
  · exact ⟨_, _, h1⟩
theorem IsA.set {w : World} {v : Value} {aa : AttrL} (h : IsA w v aa) (a : Addr) (u : Value) (hb : ∀ k, v.ownBlock = some k → k ≠ a.block) : IsA (w.setCell a u) v aa := by
  rcases h with h | ⟨b, o, cap, rfl, h2, h3⟩
  · exact .inl h
  · have hn : b ≠ a.block := hb b rfl
    refine .inr ⟨b, o, cap, rfl, h2, fun j hj => ?_⟩
    obtain ⟨c1, c2⟩ := h3 j hj
    exact ⟨by rw [set_other _ _ _ _ (fun e => hn (by rw [e]))]; exact c1, by rw [set_other _ _ _ _ (fun e => hn (by rw [e]))]; exact c2⟩
theorem IsA.alloc {w : World} {v : Value} {aa : AttrL} (h : IsA w v aa) (o : Obj) : IsA (w.alloc o) v aa := h.below (below_alloc w o)
def TokAt (w w' : World) (e : Ending) (s : ByteArray) (R : Tok × List UInt8) : Prop := ∃ sv, IsA w' sv R.1.attrs ∧ (∀ k, sv.ownBlock = some k → w.heap.size ≤ k) ∧ e = .returned (.tuple #[tokV R.1 sv, .int .i64 (s.size - R.2.length : Nat)])
def nextZ (mode : Int) (n : List UInt8) (f : Bool) (l : List UInt8) (z : Int) : Tok × List UInt8 := if 0 ≤ z ∧ z < l.length then nextR mode n f (l.drop z.toNat) else ({ kind := 0 }, [])
theorem nextZ_in (mode : Int) (n : List UInt8) (f : Bool) (l : List UInt8) (p : Nat) (h : p < l.length) : nextZ mode n f l (p : Int) = nextR mode n f (l.drop p) := by
  unfold nextZ
  rw [if_pos (by omega), show (p : Int).toNat = p by omega]
theorem nextZ_out (mode : Int) (n : List UInt8) (f : Bool) (l : List UInt8) (z : Int) (h : z < 0 ∨ (l.length : Int) ≤ z) : nextZ mode n f l z = ({ kind := 0 }, []) := by
  unfold nextZ
  rw [if_neg (by omega)]
theorem spanS_step (n : List UInt8) (s : ByteArray) (k : Nat) (h : k < s.size) : (spanS n (s.data.toList.drop k)).2 = if stopB n (s.data.toList.drop k) then s.data.toList.drop k else (spanS n (s.data.toList.drop (k + 1))).2 := by
  rw [drop_cons s k h]
  simp only [spanS]
  split <;> rfl
theorem isA_form {w : World} {v : Value} {aa : AttrL} (h : IsA w v aa) : ∃ a c, v = .slice a aa.length c := by
  rcases h with ⟨rfl, rfl⟩ | ⟨b, o, cap, rfl, _⟩
  · exact ⟨_, _, rfl⟩
  · exact ⟨_, _, rfl⟩
abbrev RowL := List (Tok × Value)
def tokC (p : Tok × Value) : List Value := [.int .i64 (p.1.kind : Int), .string ⟨p.1.name.toArray⟩, p.2, .bool p.1.closed, .string ⟨p.1.text.toArray⟩]
def tokCells : RowL → List Value
  | [] => []
  | p :: r => tokC p ++ tokCells r
theorem isA_nil {w : World} {v : Value} (W : World) (h : IsA w v []) : IsA W v [] := by
  rcases h with h | ⟨b, o, cap, h1, h2, _⟩
  · exact .inl h
  · exact .inr ⟨b, o, cap, h1, h2, fun j hj => by simp at hj⟩
theorem isA_keep {w W : World} {v : Value} {aa : AttrL} (h : IsA w v aa) (hk : aa = [] ∨ ∀ b, v.ownBlock = some b → W.heap[b]? = w.heap[b]?) : IsA W v aa := by
  rcases hk with rfl | hk
  · exact isA_nil W h
  · rcases h with h | ⟨b, o, cap, rfl, h2, h3⟩
    · exact .inl h
    · have hb := hk b rfl
      refine .inr ⟨b, o, cap, rfl, h2, fun j hj => ?_⟩
      obtain ⟨c1, c2⟩ := h3 j hj
      exact ⟨by rw [World.cell?_of_block (a := ⟨b, o + j * 2, none⟩) hb]; exact c1, by rw [World.cell?_of_block (a := ⟨b, o + j * 2 + 1, none⟩) hb]; exact c2⟩
def AttOk (wr : World) (G : Nat) (lv : Value) (p : Tok × Value) : Prop := p.2.oneCell' = true ∧ IsA wr p.2 p.1.attrs ∧ (p.1.attrs = [] ∨ ∀ b, p.2.ownBlock = some b → b < wr.heap.size ∧ b ≠ G ∧ lv.ownBlock ≠ some b)
theorem AttOk.keep {w W : World} {G : Nat} {lv lv' : Value} {p : Tok × Value} (h : AttOk w G lv p) (hk : ∀ b, b < w.heap.size → b ≠ G → lv.ownBlock ≠ some b → W.heap[b]? = w.heap[b]? ∧ b < W.heap.size ∧ lv'.ownBlock ≠ some b) : AttOk W G lv' p := by
  obtain ⟨h1, h2, h3⟩ := h
  rcases h3 with h3 | h3
  · exact ⟨h1, isA_keep h2 (.inl h3), .inl h3⟩
  · refine ⟨h1, isA_keep h2 (.inr fun b hb => ?_), .inr fun b hb => ?_⟩
    · obtain ⟨a, c, d⟩ := h3 b hb
      exact (hk b a c d).1
    · obtain ⟨a, c, d⟩ := h3 b hb
      exact ⟨(hk b a c d).2.1, c, (hk b a c d).2.2⟩
structure AllS (w wr : World) (G : Nat) (lv : Value) (ts : RowL) (t : Tok) (sv : Value) : Prop where
  bel : Below w.heap.size w wr
  lt : w.heap.size ≤ G
  lt2 : G < wr.heap.size
  cs : ∀ o, wr.cell? ⟨G, o, none⟩ = (tokC (t, sv))[o]?
  cf : ∀ o, wr.frozen? ⟨G, o, none⟩ = false
  own : wr.ownsRow w.heap.size 64 5 lv ts.length (tokCells ts)
  lvG : lv.ownBlock ≠ some G
  att : ∀ p ∈ ts, AttOk wr G lv p
  att1 : AttOk wr G lv (t, sv)
theorem AllS.call {w wr W : World} {G : Nat} {lv : Value} {ts : RowL} {t : Tok} {sv : Value} (h : AllS w wr G lv ts t sv) (hb : Below wr.heap.size wr W) : AllS w W G lv ts t sv where
  bel := h.bel.trans (hb.mono h.bel.size)
  lt := h.lt
  lt2 := Nat.lt_of_lt_of_le h.lt2 hb.size
  cs := fun o => by rw [hb.cell (p := ⟨G, o, none⟩) h.lt2]; exact h.cs o
  cf := fun o => by rw [hb.frozen (p := ⟨G, o, none⟩) h.lt2]; exact h.cf o
  own := owns_below h.own hb
  lvG := h.lvG
  att := fun p hp => (h.att p hp).keep fun b b1 b2 b3 => ⟨hb.block b b1, Nat.lt_of_lt_of_le b1 hb.size, b3⟩
  att1 := h.att1.keep fun b b1 b2 b3 => ⟨hb.block b b1, Nat.lt_of_lt_of_le b1 hb.size, b3⟩
theorem AllS.push {w wr W : World} {G : Nat} {lv lv' : Value} {ts : RowL} {t : Tok} {sv : Value} (h : AllS w wr G lv ts t sv) (hb : Below w.heap.size wr W) (ho : W.ownsRow w.heap.size 64 5 lv' (ts ++ [(t, sv)]).length (tokCells (ts ++ [(t, sv)])))
    (hk : ∀ k, k < wr.heap.size → lv.ownBlock ≠ some k → W.heap[k]? = wr.heap[k]?) (hbk : lv'.ownBlock = lv.ownBlock ∨ lv'.ownBlock = some (wr.heap.size + 1)) : AllS w W G lv' (ts ++ [(t, sv)]) t sv := by
  have key : ∀ b, b < wr.heap.size → b ≠ G → lv.ownBlock ≠ some b → W.heap[b]? = wr.heap[b]? ∧ b < W.heap.size ∧ lv'.ownBlock ≠ some b := fun b b1 b2 b3 => ⟨hk b b1 b3, Nat.lt_of_lt_of_le b1 hb.size, by
    rcases hbk with e | e
    · rw [e]; exact b3
    · rw [e]; intro hc; have := Option.some.inj hc; omega⟩
  have a1 := h.att1.keep key
  have hG := hk G h.lt2 h.lvG
  refine { bel := h.bel.trans hb, lt := h.lt, lt2 := Nat.lt_of_lt_of_le h.lt2 hb.size, cs := fun o => ?_, cf := fun o => ?_, own := ho, lvG := ?_, att := fun p hp => ?_, att1 := a1 }
  · rw [World.cell?_of_block (a := ⟨G, o, none⟩) hG]; exact h.cs o
  · rw [World.frozen?_of_block (a := ⟨G, o, none⟩) hG]; exact h.cf o
  · rcases hbk with e | e
    · rw [e]; exact h.lvG
    · rw [e]; intro hc; have := Option.some.inj hc; have := h.lt2; omega
  · rcases List.mem_append.1 hp with hp | hp
    · exact (h.att p hp).keep key
    · rw [List.mem_singleton.1 hp]; exact a1
def put5 (W : World) (G : Nat) (p : Tok × Value) : World := ((((W.setCell ⟨G, 0, none⟩ (.int .i64 (p.1.kind : Int))).setCell ⟨G, 1, none⟩ (.string ⟨p.1.name.toArray⟩)).setCell ⟨G, 2, none⟩ p.2).setCell ⟨G, 3, none⟩ (.bool p.1.closed)).setCell ⟨G, 4, none⟩ (.string ⟨p.1.text.toArray⟩)
theorem put5_heap (W : World) (G : Nat) (p : Tok × Value) (b : Nat) (h : b ≠ G) : (put5 W G p).heap[b]? = W.heap[b]? := by
  unfold put5
  rw [Below.heap_setCell _ _ _ b h, Below.heap_setCell _ _ _ b h, Below.heap_setCell _ _ _ b h, Below.heap_setCell _ _ _ b h, Below.heap_setCell _ _ _ b h]
theorem put5_size (W : World) (G : Nat) (p : Tok × Value) : (put5 W G p).heap.size = W.heap.size := by
  simp [put5, World.setCell]
theorem AllS.put5 {w wr : World} {G : Nat} {lv : Value} {ts : RowL} {t : Tok} {sv : Value} (h : AllS w wr G lv ts t sv) (t' : Tok) (sv' : Value) (ha : AttOk wr G lv (t', sv')) : AllS w (put5 wr G (t', sv')) G lv ts t' sv' := by
  have key : ∀ b, b < wr.heap.size → b ≠ G → lv.ownBlock ≠ some b → (Go.Proofs.YteccmjngdibeoaaGreatDoor.S4.put5 wr G (t', sv')).heap[b]? = wr.heap[b]? ∧ b < (Go.Proofs.YteccmjngdibeoaaGreatDoor.S4.put5 wr G (t', sv')).heap.size ∧ lv.ownBlock ≠ some b := fun b b1 b2 b3 => ⟨put5_heap _ _ _ b b2, by rw [put5_size]; exact b1, b3⟩
  have e0 : wr.cell? ⟨G, 0, none⟩ = some (.int .i64 (t.kind : Int)) := h.cs 0
  have e1 : wr.cell? ⟨G, 1, none⟩ = some (.string ⟨t.name.toArray⟩) := h.cs 1
  have e2 : wr.cell? ⟨G, 2, none⟩ = some sv := h.cs 2
  have e3 : wr.cell? ⟨G, 3, none⟩ = some (.bool t.closed) := h.cs 3
  have e4 : wr.cell? ⟨G, 4, none⟩ = some (.string ⟨t.text.toArray⟩) := h.cs 4
  have ne : ∀ (i j : Nat), i ≠ j → (⟨G, i, none⟩ : Addr) ≠ ⟨G, j, none⟩ := fun i j hij e => hij (congrArg Addr.off e)
  refine { bel := ((((h.bel.setCell h.lt _).setCell h.lt _).setCell h.lt _).setCell h.lt _).setCell h.lt _, lt := h.lt, lt2 := by rw [put5_size]; exact h.lt2, cs := fun o => ?_, cf := fun o => ?_, own := ?_, lvG := h.lvG, att := fun p hp => (h.att p hp).keep key, att1 := ha.keep key }
  · unfold Go.Proofs.YteccmjngdibeoaaGreatDoor.S4.put5
    rcases (by omega : o = 0 ∨ o = 1 ∨ o = 2 ∨ o = 3 ∨ o = 4 ∨ 5 ≤ o) with rfl | rfl | rfl | rfl | rfl | ho
    · rw [set_other _ _ _ _ (ne 4 0 (by decide)), set_other _ _ _ _ (ne 3 0 (by decide)), set_other _ _ _ _ (ne 2 0 (by decide)), set_other _ _ _ _ (ne 1 0 (by decide)), set_same _ _ _ _ e0]
      rfl
    · rw [set_other _ _ _ _ (ne 4 1 (by decide)), set_other _ _ _ _ (ne 3 1 (by decide)), set_other _ _ _ _ (ne 2 1 (by decide)), set_same _ _ _ _ (by rw [set_other _ _ _ _ (ne 0 1 (by decide))]; exact e1)]
      rfl
    · rw [set_other _ _ _ _ (ne 4 2 (by decide)), set_other _ _ _ _ (ne 3 2 (by decide)), set_same _ _ _ _ (by rw [set_other _ _ _ _ (ne 1 2 (by decide)), set_other _ _ _ _ (ne 0 2 (by decide))]; exact e2)]
      rfl
    · rw [set_other _ _ _ _ (ne 4 3 (by decide)), set_same _ _ _ _ (by rw [set_other _ _ _ _ (ne 2 3 (by decide)), set_other _ _ _ _ (ne 1 3 (by decide)), set_other _ _ _ _ (ne 0 3 (by decide))]; exact e3)]
      rfl
    · rw [set_same _ _ _ _ (by rw [set_other _ _ _ _ (ne 3 4 (by decide)), set_other _ _ _ _ (ne 2 4 (by decide)), set_other _ _ _ _ (ne 1 4 (by decide)), set_other _ _ _ _ (ne 0 4 (by decide))]; exact e4)]
      rfl
    · rw [set_other _ _ _ _ (ne 4 o (by omega)), set_other _ _ _ _ (ne 3 o (by omega)), set_other _ _ _ _ (ne 2 o (by omega)), set_other _ _ _ _ (ne 1 o (by omega)), set_other _ _ _ _ (ne 0 o (by omega)), h.cs o]
      rw [List.getElem?_eq_none (by simp [tokC]; omega), List.getElem?_eq_none (by simp [tokC]; omega)]
  · unfold Go.Proofs.YteccmjngdibeoaaGreatDoor.S4.put5
    simp only [World.frozen?_setCell]
    exact h.cf o
  · refine ⟨h.own.1, ?_⟩
    rcases h.own.2 with h2 | ⟨g, cap, cur, h1, h2, h3, h4⟩
    · exact .inl h2
    · refine .inr ⟨g, cap, cur, h1, h2, ?_, h4⟩
      rw [put5_heap _ _ _ g (fun e => h.lvG (by rw [h1, e]; rfl))]
      exact h3
theorem nextZ_le (mode : Int) (n : List UInt8) (f : Bool) (l : List UInt8) (k : Nat) (h : k ≤ l.length) : nextZ mode n f l (k : Int) = nextR mode n f (l.drop k) := by
  by_cases hk : k < l.length
  · exact nextZ_in mode n f l k hk
  · rw [nextZ_out mode n f l k (.inr (by omega)), List.drop_eq_nil_of_le (by omega), nextR_nil]
end Go.Proofs.YteccmjngdibeoaaGreatDoor.S4
set_option linter.unusedVariables false
set_option linter.unusedSimpArgs false
set_option maxRecDepth 4000
namespace Go.Proofs.YteccmjngdibeoaaGreatDoor.S4
open Go.RowKit
theorem encode_str (n : Nat) (hn : n ≤ 1114111) (hs : ¬ (55296 ≤ n ∧ n ≤ 57343)) : Utf8.encode (n : Int) = ⟨(Lib.encodeRune (n : Int)).toArray⟩ := by
  have hv : Utf8.valid (n : Int) = true := by
    unfold Utf8.valid
    simp only [Bool.or_eq_true, Bool.and_eq_true, decide_eq_true_eq]
    omega
  unfold Utf8.encode Lib.encodeRune
  simp only [hv, if_true, Int.toNat_natCast]
  rcases (by omega : n < 128 ∨ (128 ≤ n ∧ n < 2048) ∨ (2048 ≤ n ∧ n < 65536) ∨ 65536 ≤ n) with h | h | h | h
  · rw [Lib.encodeRuneZ_one (r := (n : Int)) (by omega) (by omega), if_pos (by omega)]
    rfl
  · rw [Lib.encodeRuneZ_two (r := (n : Int)) (by omega) (by omega), if_neg (by omega), if_pos (by omega)]
    simp only [List.map_cons, List.map_nil]
    rw [show (192 + (n : Int) / 64).toNat = 192 + n / 64 by omega, show (128 + (n : Int) % 64).toNat = 128 + n % 64 by omega]
  · rw [Lib.encodeRuneZ_three (r := (n : Int)) (by omega), if_neg (by omega), if_neg (by omega), if_pos (by omega)]
    simp only [List.map_cons, List.map_nil]
    rw [show (224 + (n : Int) / 4096).toNat = 224 + n / 4096 by omega, show (128 + (n : Int) / 64 % 64).toNat = 128 + n / 64 % 64 by omega, show (128 + (n : Int) % 64).toNat = 128 + n % 64 by omega]
  · rw [Lib.encodeRuneZ_four (r := (n : Int)) (by omega) (by omega), if_neg (by omega), if_neg (by omega), if_neg (by omega)]
    simp only [List.map_cons, List.map_nil]
    rw [show (240 + (n : Int) / 262144).toNat = 240 + n / 262144 by omega, show (128 + (n : Int) / 4096 % 64).toNat = 128 + n / 4096 % 64 by omega, show (128 + (n : Int) / 64 % 64).toNat = 128 + n / 64 % 64 by omega, show (128 + (n : Int) % 64).toNat = 128 + n % 64 by omega]
def OldOk (w : World) : Prop := ∀ j : Nat, j < 32 → w.cell? ⟨0, j, none⟩ = some (.int .i32 (oldN.getD j 0 : Nat))
theorem OldOk.below {w W : World} (h : OldOk w) (hb : Below w.heap.size w W) : OldOk W := by
  intro j hj
  rw [hb.cell (cell_lt (h j hj))]
  exact h j hj
set_option maxHeartbeats 2000000 in
theorem number_same (n : Int) (w : World) (ho : OldOk w) :
    Calls Tryz.prog 102 #[.int .i64 n] w fun e w' => e = .returned (.string ⟨(numberL n).toArray⟩) ∧ w' = w := by
  rcases (by omega : n ≤ 0 ∨ 1114111 < n ∨ (55296 ≤ n ∧ n ≤ 57343) ∨ (128 ≤ n ∧ n ≤ 159) ∨ (0 < n ∧ n < 128) ∨ (159 < n ∧ n < 55296) ∨ (57343 < n ∧ n ≤ 1114111)) with h | h | h | h | h | h | h
  · have hv : numberL n = [239, 191, 189] := by unfold numberL cpN; rw [if_pos (by omega)]; decide +kernel
    rw [hv]
    have d0 : n ≤ 0 := by omega
    clear h hv ho
    go_enter Tryz.func102, Tryz.ntmps102
    go_wp2
    go_ret
    exact ⟨rfl, rfl⟩
  · have hv : numberL n = [239, 191, 189] := by unfold numberL cpN; rw [if_pos (by omega)]; decide +kernel
    rw [hv]
    have d0 : ¬ (n ≤ 0) := by omega
    have d1 : 1114111 < n := by omega
    clear h hv ho
    go_enter Tryz.func102, Tryz.ntmps102
    go_wp2
    go_ret
    exact ⟨rfl, rfl⟩
  · have hv : numberL n = [239, 191, 189] := by unfold numberL cpN; rw [if_pos (by omega)]; decide +kernel
    rw [hv]
    have d0 : ¬ (n ≤ 0) := by omega
    have d1 : ¬ (1114111 < n) := by omega
    have d2 : 55296 ≤ n := by omega
    have d3 : n ≤ 57343 := by omega
    clear h hv ho
    go_enter Tryz.func102, Tryz.ntmps102
    go_wp2
    go_ret
    exact ⟨rfl, rfl⟩
  · have hv : numberL n = Lib.encodeRune ((oldN.getD (n - 128).toNat 0 : Nat) : Int) := by
      unfold numberL cpN
      rw [if_neg (by omega), if_pos (by omega)]
    have hr := old_range (n - 128).toNat (by omega)
    have he := encode_str _ hr.1 hr.2
    have hc := ho (n - 128).toNat (by omega)
    rw [hv, ← he]
    clear hv hr he ho
    generalize oldN.getD (n - 128).toNat 0 = c at *
    have d0 : ¬ (n ≤ 0) := by omega
    have d1 : ¬ (1114111 < n) := by omega
    have d2 : ¬ (55296 ≤ n) := by omega
    have d3 : 128 ≤ n := by omega
    have d4 : n ≤ 159 := by omega
    clear h
    go_enter Tryz.func102, Tryz.ntmps102
    go_wp2
    go_ret
    exact ⟨rfl, rfl⟩
  · obtain ⟨m, rfl⟩ : ∃ m : Nat, n = (m : Int) := ⟨n.toNat, by omega⟩
    have hv : numberL (m : Int) = Lib.encodeRune (m : Int) := by
      unfold numberL cpN
      rw [if_neg (by omega), if_neg (by omega)]
    have he := encode_str m (by omega) (by omega)
    rw [hv, ← he]
    clear hv he ho
    have d0 : ¬ ((m : Int) ≤ 0) := by omega
    have d1 : ¬ (1114111 < (m : Int)) := by omega
    have d2 : ¬ (55296 ≤ (m : Int)) := by omega
    have d3 : ¬ (128 ≤ (m : Int)) := by omega
    have d9 : IntKind.i32.wrap (m : Int) = m := by rw [IntKind.wrap]; simp [IntKind.bits, IntKind.signed]; omega
    clear h
    go_enter Tryz.func102, Tryz.ntmps102
    go_wp2
    go_ret
    exact ⟨rfl, rfl⟩
  · obtain ⟨m, rfl⟩ : ∃ m : Nat, n = (m : Int) := ⟨n.toNat, by omega⟩
    have hv : numberL (m : Int) = Lib.encodeRune (m : Int) := by
      unfold numberL cpN
      rw [if_neg (by omega), if_neg (by omega)]
    have he := encode_str m (by omega) (by omega)
    rw [hv, ← he]
    clear hv he ho
    have d0 : ¬ ((m : Int) ≤ 0) := by omega
    have d1 : ¬ (1114111 < (m : Int)) := by omega
    have d2 : ¬ (55296 ≤ (m : Int)) := by omega
    have d3 : 128 ≤ (m : Int) := by omega
    have d4 : ¬ ((m : Int) ≤ 159) := by omega
    have d9 : IntKind.i32.wrap (m : Int) = m := by rw [IntKind.wrap]; simp [IntKind.bits, IntKind.signed]; omega
    clear h
    go_enter Tryz.func102, Tryz.ntmps102
    go_wp2
    go_ret
    exact ⟨rfl, rfl⟩
  · obtain ⟨m, rfl⟩ : ∃ m : Nat, n = (m : Int) := ⟨n.toNat, by omega⟩
    have hv : numberL (m : Int) = Lib.encodeRune (m : Int) := by
      unfold numberL cpN
      rw [if_neg (by omega), if_neg (by omega)]
    have he := encode_str m (by omega) (by omega)
    rw [hv, ← he]
    clear hv he ho
    have d0 : ¬ ((m : Int) ≤ 0) := by omega
    have d1 : ¬ (1114111 < (m : Int)) := by omega
    have d2 : 55296 ≤ (m : Int) := by omega
    have d3 : ¬ ((m : Int) ≤ 57343) := by omega
    have d4 : 128 ≤ (m : Int) := by omega
    have d5 : ¬ ((m : Int) ≤ 159) := by omega
    have d9 : IntKind.i32.wrap (m : Int) = m := by rw [IntKind.wrap]; simp [IntKind.bits, IntKind.signed]; omega
    clear h
    go_enter Tryz.func102, Tryz.ntmps102
    go_wp2
    go_ret
    exact ⟨rfl, rfl⟩
end Go.Proofs.YteccmjngdibeoaaGreatDoor.S4
set_option linter.unusedVariables false
set_option linter.unusedSimpArgs false
set_option maxRecDepth 4000
namespace Go.Proofs.YteccmjngdibeoaaGreatDoor.S4
open Go.RowKit
theorem ret_pair {a : ByteArray} {x y : Int} (h : x = y) : Ending.returned (.tuple #[.string a, .int .i64 x]) = .returned (.tuple #[.string a, .int .i64 y]) := by rw [h]
theorem capv_min (v β d : Nat) (hβ : 1 ≤ β) : (capv (v * β + d) : Int) = if (1114112 : Int) < (capv v : Int) * β + d then 1114112 else (capv v : Int) * β + d := by
  have hc : ((capv v : Nat) : Int) * β + d = ((capv v * β + d : Nat) : Int) := by simp
  rw [hc]
  by_cases h : 1114111 < capv v * β + d
  · rw [capv_over v β d hβ h]
    split <;> omega
  · rw [capv_under v β d hβ h, if_neg (by omega)]
def digsAt (β q : Nat) (L : List UInt8) : List UInt8 × Nat := if (digsL β L).2 = 0 then (([] : List UInt8), 0) else ((digsL β L).1, (digsL β L).2 + q)
theorem digsAt_in (β q : Nat) (s : ByteArray) (k v : Nat) (hlt : q + k < s.size) (h1 : digsN β (s.data.toList.drop q) = k) (h2 : valN β 0 (s.data.toList.drop q) = v) :
    digsAt β q (s.data.toList.drop q) = if k = 0 then (([] : List UInt8), 0) else (numberL (v : Nat), k + (if (s[q + k]).toNat = 59 then 1 else 0) + q) := by
  have hsm : semiN ((s.data.toList.drop q).drop k) = if (s[q + k]).toNat = 59 then 1 else 0 := by
    rw [List.drop_drop, drop_cons s (q + k) hlt]
    unfold semiN
    simp only [List.head?_cons, Option.some.injEq]
    by_cases h59 : s[q + k] = 59
    · rw [if_pos h59, if_pos (by rw [h59]; rfl)]
    · rw [if_neg h59, if_neg (fun (e : (s[q + k]).toNat = 59) => h59 (UInt8.toNat_inj.1 e))]
  unfold digsAt digsL
  rw [h1, h2, hsm]
  by_cases hk0 : k = 0
  · rw [if_pos hk0, if_pos rfl, if_pos hk0]
  · rw [if_neg hk0, if_neg (by show ¬ k + _ = 0; omega), if_neg hk0]
theorem digsAt_end (β q : Nat) (s : ByteArray) (k v : Nat) (hlt : q + k = s.size) (h1 : digsN β (s.data.toList.drop q) = k) (h2 : valN β 0 (s.data.toList.drop q) = v) :
    digsAt β q (s.data.toList.drop q) = if k = 0 then (([] : List UInt8), 0) else (numberL (v : Nat), k + q) := by
  have hsm : semiN ((s.data.toList.drop q).drop k) = 0 := by
    rw [List.drop_drop, drop_end s (q + k) (by omega)]
    rfl
  unfold digsAt digsL
  rw [h1, h2, hsm]
  by_cases hk0 : k = 0
  · rw [if_pos hk0, if_pos rfl, if_pos hk0]
  · rw [if_neg hk0, if_neg (by show ¬ k + 0 = 0; omega), if_neg hk0] <;> rfl
set_option maxHeartbeats 1500000 in
theorem num_10 (s : ByteArray) (hs : s.size ≤ 1000000) (hp : 2 < s.size) (hx : (s[2]).toNat ≠ 120) (hX : (s[2]).toNat ≠ 88) (w : World) (ho : OldOk w) :
    Calls Tryz.prog 58 #[.string s] w fun e w' => e = .returned (.tuple #[.string ⟨(digsAt 10 2 (s.data.toList.drop 2)).1.toArray⟩, .int .i64 ((digsAt 10 2 (s.data.toList.drop 2)).2 : Nat)]) ∧ w' = w := by
  have HDG := hide (fun (c : UInt8) => digit_any c.toNat)
  have HNM := hide (fun (n : Int) => number_same n w ho)
  have HI := hide (digsAt_in 10 2 s)
  have HE := hide (digsAt_end 10 2 s)
  clear ho
  generalize digsAt 10 2 (s.data.toList.drop 2) = R at *
  generalize hL : s.data.toList.drop 2 = L at *
  have HL := hide hL
  clear hL
  have e1 := ne_lit _ 120 (by omega : ((s[2]).toNat : Int) ≠ 120)
  have e2 := ne_lit _ 88 (by omega : ((s[2]).toNat : Int) ≠ 88)
  have e3 : (2 : Int) < s.size := by omega
  clear hx hX
  go_enter Tryz.func58, Tryz.ntmps58
  go_wp2
  go_loop [6, 7] (fun tn te => ∃ k v : Nat, tn = .int .i64 (capv v : Nat) ∧ te = .int .i64 ((2 + k : Nat) : Int) ∧ 2 + k ≤ s.size ∧ Hid (NumSt 10 L (s.data.toList.drop (2 + k)) k v)) (fun _ te => s.size - (intOf te).toNat)
  case atStart => exact ⟨0, 0, rfl, by go_num, by omega, hide ⟨by rw [← HL.out] <;> simp, by rw [← HL.out] <;> rfl⟩⟩
  case round =>
    obtain ⟨k, v, rfl, rfl, hk, HN⟩ := hrel
    have hcl := capv_le v
    by_cases hlt : 2 + k < s.size
    · have hlt2 : (((2 + k : Nat) : Int)) < s.size := by omega
      cases hd : digitB 10 s[2 + k] with
      | some d =>
        have hz := digitP_some 10 s[2 + k] d hd
        have hdl := digit_lt 10 _ d hd
        have hq := digs_yes 10 s[2 + k] (s.data.toList.drop (2 + k + 1)) d hd
        rw [← drop_cons s (2 + k) hlt] at hq
        have hN2 : NumSt 10 L (s.data.toList.drop (2 + (k + 1))) (k + 1) (v * 10 + d) := by
          obtain ⟨n1, n2⟩ := HN.out
          rw [hq.1] at n1
          rw [hq.2] at n2
          exact ⟨by rw [show 2 + (k + 1) = 2 + k + 1 by omega]; omega, n2⟩
        have HN2 := hide hN2
        have HD := hide (HDG.out s[2 + k])
        rw [hz] at HD
        have HCM := hide (capv_min v 10 d (by omega))
        have hdb : ¬ (10 : Int) ≤ d := by omega
        clear hz hq hN2 HN hd HI HE
        generalize hnx : 2 + k = x at *
        go_wp2_with fail
        refine (HD.out _).mono ?_
        rintro e w1 ⟨rfl, rfl⟩
        by_cases hc : (1114112 : Int) < (capv v : Int) * 10 + d
        · have HCV : Hid ((capv (v * 10 + d) : Int) = 1114112) := hide (by rw [HCM.out]; exact if_pos hc)
          clear HCM
          go_wp2
          go_round
          case rel => exact ⟨k + 1, v * 10 + d, by rw [HCV.out], by (refine congrArg _ ?_; omega), by omega, HN2⟩
          case measure => simp [intOf]; omega
        · have HCV : Hid ((capv (v * 10 + d) : Int) = (capv v : Int) * 10 + d) := hide (by rw [HCM.out]; exact if_neg hc)
          clear HCM
          go_wp2
          go_round
          case rel => exact ⟨k + 1, v * 10 + d, by rw [HCV.out], by (refine congrArg _ ?_; omega), by omega, HN2⟩
          case measure => simp [intOf]; omega
      | none =>
        have hz := digitP_none 10 (by omega) s[2 + k] hd
        have hq := digs_no 10 s[2 + k] (s.data.toList.drop (2 + k + 1)) hd
        rw [← drop_cons s (2 + k) hlt] at hq
        obtain ⟨n1, n2⟩ := HN.out
        rw [hq.1, Nat.add_zero] at n1
        rw [hq.2] at n2
        have hRR := HI.out k v hlt n1 n2
        have HD := hide (HDG.out s[2 + k])
        generalize digitP (s[2 + k]).toNat = dz at *
        have HNU := hide (HNM.out (capv v : Nat))
        rw [capv_number] at HNU
        clear hq hd n1 n2 HN HI HE
        generalize numberL (v : Nat) = T at *
        by_cases hk0 : k = 0
        · subst hk0
          have HRR : Hid (R = ([], 0)) := hide hRR
          clear hRR
          go_wp2_with fail
          refine (HD.out _).mono ?_
          rintro e w1 ⟨rfl, rfl⟩
          go_wp2
          go_ret2
          rw [HRR.out]
          exact ⟨rfl, rfl⟩
        · have hk1 : (((2 + k : Nat) : Int) == 2) = false := beq_eq_false_iff_ne.2 (by omega)
          rw [if_neg hk0] at hRR
          by_cases h59 : (s[2 + k]).toNat = 59
          · have h592 := eq_lit _ 59 (by omega : ((s[2 + k]).toNat : Int) = 59)
            rw [if_pos h59] at hRR
            have HRR := hide hRR
            clear h59 hRR
            generalize hnx : 2 + k = x at *
            go_wp2_with fail
            refine (HD.out _).mono ?_
            rintro e w1 ⟨rfl, rfl⟩
            go_wp2_with fail
            refine HNU.out.mono ?_
            rintro e w2 ⟨rfl, rfl⟩
            go_wp2
            go_ret2
            refine ⟨?_, rfl⟩
            rw [HRR.out]
            exact ret_pair (show (x : Int) + 1 = ((k + 1 + 2 : Nat) : Int) by omega)
          · have h592 := ne_lit _ 59 (by omega : ((s[2 + k]).toNat : Int) ≠ 59)
            rw [if_neg h59] at hRR
            have HRR := hide hRR
            clear h59 hRR
            generalize hnx : 2 + k = x at *
            go_wp2_with fail
            refine (HD.out _).mono ?_
            rintro e w1 ⟨rfl, rfl⟩
            go_wp2_with fail
            refine HNU.out.mono ?_
            rintro e w2 ⟨rfl, rfl⟩
            go_wp2
            go_ret2
            refine ⟨?_, rfl⟩
            rw [HRR.out]
            exact ret_pair (show (x : Int) = ((k + 0 + 2 : Nat) : Int) by omega)
    · have hend : 2 + k = s.size := by omega
      obtain ⟨n1, n2⟩ := HN.out
      rw [drop_end s (2 + k) (by omega)] at n1 n2
      have n1 : digsN 10 L = k := n1
      have n2 : valN 10 0 L = v := n2
      have hRR := HE.out k v hend n1 n2
      have HNU := hide (HNM.out (capv v : Nat))
      rw [capv_number] at HNU
      clear n1 n2 HN HI HE
      generalize numberL (v : Nat) = T at *
      have hlt2 : ¬ (((2 + k : Nat) : Int)) < s.size := by omega
      clear hend
      by_cases hk0 : k = 0
      · subst hk0
        have HRR : Hid (R = ([], 0)) := hide hRR
        clear hRR
        go_wp2
        all_goals go_ret2
        all_goals rw [HRR.out]
        all_goals exact ⟨rfl, rfl⟩
      · have hk1 : (((2 + k : Nat) : Int) == 2) = false := beq_eq_false_iff_ne.2 (by omega)
        rw [if_neg hk0] at hRR
        have HRR := hide hRR
        clear hRR
        generalize hnx : 2 + k = x at *
        go_wp2_with fail
        refine HNU.out.mono ?_
        rintro e w2 ⟨rfl, rfl⟩
        go_wp2
        go_ret2
        refine ⟨?_, rfl⟩
        rw [HRR.out]
        exact ret_pair (show (x : Int) = ((k + 2 : Nat) : Int) by omega)
set_option maxHeartbeats 1500000 in
theorem num_none (s : ByteArray) (hs : s.size ≤ 1000000) (hp : s.size = 2) (w : World) (ho : OldOk w) :
    Calls Tryz.prog 58 #[.string s] w fun e w' => e = .returned (.tuple #[.string ⟨(digsAt 10 2 (s.data.toList.drop 2)).1.toArray⟩, .int .i64 ((digsAt 10 2 (s.data.toList.drop 2)).2 : Nat)]) ∧ w' = w := by
  have HDG := hide (fun (c : UInt8) => digit_any c.toNat)
  have HNM := hide (fun (n : Int) => number_same n w ho)
  have HI := hide (digsAt_in 10 2 s)
  have HE := hide (digsAt_end 10 2 s)
  clear ho
  generalize digsAt 10 2 (s.data.toList.drop 2) = R at *
  generalize hL : s.data.toList.drop 2 = L at *
  have HL := hide hL
  clear hL
  have e3 : ¬ (2 : Int) < s.size := by omega
  go_enter Tryz.func58, Tryz.ntmps58
  go_wp2
  go_loop [6, 7] (fun tn te => ∃ k v : Nat, tn = .int .i64 (capv v : Nat) ∧ te = .int .i64 ((2 + k : Nat) : Int) ∧ 2 + k ≤ s.size ∧ Hid (NumSt 10 L (s.data.toList.drop (2 + k)) k v)) (fun _ te => s.size - (intOf te).toNat)
  case atStart => exact ⟨0, 0, rfl, by go_num, by omega, hide ⟨by rw [← HL.out] <;> simp, by rw [← HL.out] <;> rfl⟩⟩
  case round =>
    obtain ⟨k, v, rfl, rfl, hk, HN⟩ := hrel
    have hcl := capv_le v
    by_cases hlt : 2 + k < s.size
    · exact absurd hlt (by omega)
    · have hend : 2 + k = s.size := by omega
      obtain ⟨n1, n2⟩ := HN.out
      rw [drop_end s (2 + k) (by omega)] at n1 n2
      have n1 : digsN 10 L = k := n1
      have n2 : valN 10 0 L = v := n2
      have hRR := HE.out k v hend n1 n2
      have HNU := hide (HNM.out (capv v : Nat))
      rw [capv_number] at HNU
      clear n1 n2 HN HI HE
      generalize numberL (v : Nat) = T at *
      have hlt2 : ¬ (((2 + k : Nat) : Int)) < s.size := by omega
      clear hend
      obtain rfl : k = 0 := by omega
      have HRR : Hid (R = ([], 0)) := hide hRR
      clear hRR hp
      go_wp2
      all_goals go_ret2
      all_goals rw [HRR.out]
      all_goals exact ⟨rfl, rfl⟩
set_option maxHeartbeats 1500000 in
theorem num_x (s : ByteArray) (hs : s.size ≤ 1000000) (hp : 2 < s.size) (hx : (s[2]).toNat = 120) (w : World) (ho : OldOk w) :
    Calls Tryz.prog 58 #[.string s] w fun e w' => e = .returned (.tuple #[.string ⟨(digsAt 16 3 (s.data.toList.drop 3)).1.toArray⟩, .int .i64 ((digsAt 16 3 (s.data.toList.drop 3)).2 : Nat)]) ∧ w' = w := by
  have HDG := hide (fun (c : UInt8) => digit_any c.toNat)
  have HNM := hide (fun (n : Int) => number_same n w ho)
  have HI := hide (digsAt_in 16 3 s)
  have HE := hide (digsAt_end 16 3 s)
  clear ho
  generalize digsAt 16 3 (s.data.toList.drop 3) = R at *
  generalize hL : s.data.toList.drop 3 = L at *
  have HL := hide hL
  clear hL
  have e1 := eq_lit _ 120 (by omega : ((s[2]).toNat : Int) = 120)
  have e3 : (2 : Int) < s.size := by omega
  clear hx
  go_enter Tryz.func58, Tryz.ntmps58
  go_wp2
  go_loop [6, 7] (fun tn te => ∃ k v : Nat, tn = .int .i64 (capv v : Nat) ∧ te = .int .i64 ((3 + k : Nat) : Int) ∧ 3 + k ≤ s.size ∧ Hid (NumSt 16 L (s.data.toList.drop (3 + k)) k v)) (fun _ te => s.size - (intOf te).toNat)
  case atStart => exact ⟨0, 0, rfl, by go_num, by omega, hide ⟨by rw [← HL.out] <;> simp, by rw [← HL.out] <;> rfl⟩⟩
  case round =>
    obtain ⟨k, v, rfl, rfl, hk, HN⟩ := hrel
    have hcl := capv_le v
    by_cases hlt : 3 + k < s.size
    · have hlt2 : (((3 + k : Nat) : Int)) < s.size := by omega
      cases hd : digitB 16 s[3 + k] with
      | some d =>
        have hz := digitP_some 16 s[3 + k] d hd
        have hdl := digit_lt 16 _ d hd
        have hq := digs_yes 16 s[3 + k] (s.data.toList.drop (3 + k + 1)) d hd
        rw [← drop_cons s (3 + k) hlt] at hq
        have hN2 : NumSt 16 L (s.data.toList.drop (3 + (k + 1))) (k + 1) (v * 16 + d) := by
          obtain ⟨n1, n2⟩ := HN.out
          rw [hq.1] at n1
          rw [hq.2] at n2
          exact ⟨by rw [show 3 + (k + 1) = 3 + k + 1 by omega]; omega, n2⟩
        have HN2 := hide hN2
        have HD := hide (HDG.out s[3 + k])
        rw [hz] at HD
        have HCM := hide (capv_min v 16 d (by omega))
        have hdb : ¬ (16 : Int) ≤ d := by omega
        clear hz hq hN2 HN hd HI HE
        generalize hnx : 3 + k = x at *
        go_wp2_with fail
        refine (HD.out _).mono ?_
        rintro e w1 ⟨rfl, rfl⟩
        by_cases hc : (1114112 : Int) < (capv v : Int) * 16 + d
        · have HCV : Hid ((capv (v * 16 + d) : Int) = 1114112) := hide (by rw [HCM.out]; exact if_pos hc)
          clear HCM
          go_wp2
          go_round
          case rel => exact ⟨k + 1, v * 16 + d, by rw [HCV.out], by (refine congrArg _ ?_; omega), by omega, HN2⟩
          case measure => simp [intOf]; omega
        · have HCV : Hid ((capv (v * 16 + d) : Int) = (capv v : Int) * 16 + d) := hide (by rw [HCM.out]; exact if_neg hc)
          clear HCM
          go_wp2
          go_round
          case rel => exact ⟨k + 1, v * 16 + d, by rw [HCV.out], by (refine congrArg _ ?_; omega), by omega, HN2⟩
          case measure => simp [intOf]; omega
      | none =>
        have hz := digitP_none 16 (by omega) s[3 + k] hd
        have hq := digs_no 16 s[3 + k] (s.data.toList.drop (3 + k + 1)) hd
        rw [← drop_cons s (3 + k) hlt] at hq
        obtain ⟨n1, n2⟩ := HN.out
        rw [hq.1, Nat.add_zero] at n1
        rw [hq.2] at n2
        have hRR := HI.out k v hlt n1 n2
        have HD := hide (HDG.out s[3 + k])
        generalize digitP (s[3 + k]).toNat = dz at *
        have HNU := hide (HNM.out (capv v : Nat))
        rw [capv_number] at HNU
        clear hq hd n1 n2 HN HI HE
        generalize numberL (v : Nat) = T at *
        by_cases hk0 : k = 0
        · subst hk0
          have HRR : Hid (R = ([], 0)) := hide hRR
          clear hRR
          go_wp2_with fail
          refine (HD.out _).mono ?_
          rintro e w1 ⟨rfl, rfl⟩
          go_wp2
          go_ret2
          rw [HRR.out]
          exact ⟨rfl, rfl⟩
        · have hk1 : (((3 + k : Nat) : Int) == 3) = false := beq_eq_false_iff_ne.2 (by omega)
          rw [if_neg hk0] at hRR
          by_cases h59 : (s[3 + k]).toNat = 59
          · have h592 := eq_lit _ 59 (by omega : ((s[3 + k]).toNat : Int) = 59)
            rw [if_pos h59] at hRR
            have HRR := hide hRR
            clear h59 hRR
            generalize hnx : 3 + k = x at *
            go_wp2_with fail
            refine (HD.out _).mono ?_
            rintro e w1 ⟨rfl, rfl⟩
            go_wp2_with fail
            refine HNU.out.mono ?_
            rintro e w2 ⟨rfl, rfl⟩
            go_wp2
            go_ret2
            refine ⟨?_, rfl⟩
            rw [HRR.out]
            exact ret_pair (show (x : Int) + 1 = ((k + 1 + 3 : Nat) : Int) by omega)
          · have h592 := ne_lit _ 59 (by omega : ((s[3 + k]).toNat : Int) ≠ 59)
            rw [if_neg h59] at hRR
            have HRR := hide hRR
            clear h59 hRR
            generalize hnx : 3 + k = x at *
            go_wp2_with fail
            refine (HD.out _).mono ?_
            rintro e w1 ⟨rfl, rfl⟩
            go_wp2_with fail
            refine HNU.out.mono ?_
            rintro e w2 ⟨rfl, rfl⟩
            go_wp2
            go_ret2
            refine ⟨?_, rfl⟩
            rw [HRR.out]
            exact ret_pair (show (x : Int) = ((k + 0 + 3 : Nat) : Int) by omega)
    · have hend : 3 + k = s.size := by omega
      obtain ⟨n1, n2⟩ := HN.out
      rw [drop_end s (3 + k) (by omega)] at n1 n2
      have n1 : digsN 16 L = k := n1
      have n2 : valN 16 0 L = v := n2
      have hRR := HE.out k v hend n1 n2
      have HNU := hide (HNM.out (capv v : Nat))
      rw [capv_number] at HNU
      clear n1 n2 HN HI HE
      generalize numberL (v : Nat) = T at *
      have hlt2 : ¬ (((3 + k : Nat) : Int)) < s.size := by omega
      clear hend
      by_cases hk0 : k = 0
      · subst hk0
        have HRR : Hid (R = ([], 0)) := hide hRR
        clear hRR
        go_wp2
        all_goals go_ret2
        all_goals rw [HRR.out]
        all_goals exact ⟨rfl, rfl⟩
      · have hk1 : (((3 + k : Nat) : Int) == 3) = false := beq_eq_false_iff_ne.2 (by omega)
        rw [if_neg hk0] at hRR
        have HRR := hide hRR
        clear hRR
        generalize hnx : 3 + k = x at *
        go_wp2_with fail
        refine HNU.out.mono ?_
        rintro e w2 ⟨rfl, rfl⟩
        go_wp2
        go_ret2
        refine ⟨?_, rfl⟩
        rw [HRR.out]
        exact ret_pair (show (x : Int) = ((k + 3 : Nat) : Int) by omega)
set_option maxHeartbeats 1500000 in
theorem num_X (s : ByteArray) (hs : s.size ≤ 1000000) (hp : 2 < s.size) (hx : (s[2]).toNat = 88) (w : World) (ho : OldOk w) :
    Calls Tryz.prog 58 #[.string s] w fun e w' => e = .returned (.tuple #[.string ⟨(digsAt 16 3 (s.data.toList.drop 3)).1.toArray⟩, .int .i64 ((digsAt 16 3 (s.data.toList.drop 3)).2 : Nat)]) ∧ w' = w := by
  have HDG := hide (fun (c : UInt8) => digit_any c.toNat)
  have HNM := hide (fun (n : Int) => number_same n w ho)
  have HI := hide (digsAt_in 16 3 s)
  have HE := hide (digsAt_end 16 3 s)
  clear ho
  generalize digsAt 16 3 (s.data.toList.drop 3) = R at *
  generalize hL : s.data.toList.drop 3 = L at *
  have HL := hide hL
  clear hL
  have e1 := ne_lit _ 120 (by omega : ((s[2]).toNat : Int) ≠ 120)
  have e2 := eq_lit _ 88 (by omega : ((s[2]).toNat : Int) = 88)
  have e3 : (2 : Int) < s.size := by omega
  clear hx
  go_enter Tryz.func58, Tryz.ntmps58
  go_wp2
  go_loop [6, 7] (fun tn te => ∃ k v : Nat, tn = .int .i64 (capv v : Nat) ∧ te = .int .i64 ((3 + k : Nat) : Int) ∧ 3 + k ≤ s.size ∧ Hid (NumSt 16 L (s.data.toList.drop (3 + k)) k v)) (fun _ te => s.size - (intOf te).toNat)
  case atStart => exact ⟨0, 0, rfl, by go_num, by omega, hide ⟨by rw [← HL.out] <;> simp, by rw [← HL.out] <;> rfl⟩⟩
  case round =>
    obtain ⟨k, v, rfl, rfl, hk, HN⟩ := hrel
    have hcl := capv_le v
    by_cases hlt : 3 + k < s.size
    · have hlt2 : (((3 + k : Nat) : Int)) < s.size := by omega
      cases hd : digitB 16 s[3 + k] with
      | some d =>
        have hz := digitP_some 16 s[3 + k] d hd
        have hdl := digit_lt 16 _ d hd
        have hq := digs_yes 16 s[3 + k] (s.data.toList.drop (3 + k + 1)) d hd
        rw [← drop_cons s (3 + k) hlt] at hq
        have hN2 : NumSt 16 L (s.data.toList.drop (3 + (k + 1))) (k + 1) (v * 16 + d) := by
          obtain ⟨n1, n2⟩ := HN.out
          rw [hq.1] at n1
          rw [hq.2] at n2
          exact ⟨by rw [show 3 + (k + 1) = 3 + k + 1 by omega]; omega, n2⟩
        have HN2 := hide hN2
        have HD := hide (HDG.out s[3 + k])
        rw [hz] at HD
        have HCM := hide (capv_min v 16 d (by omega))
        have hdb : ¬ (16 : Int) ≤ d := by omega
        clear hz hq hN2 HN hd HI HE
        generalize hnx : 3 + k = x at *
        go_wp2_with fail
        refine (HD.out _).mono ?_
        rintro e w1 ⟨rfl, rfl⟩
        by_cases hc : (1114112 : Int) < (capv v : Int) * 16 + d
        · have HCV : Hid ((capv (v * 16 + d) : Int) = 1114112) := hide (by rw [HCM.out]; exact if_pos hc)
          clear HCM
          go_wp2
          go_round
          case rel => exact ⟨k + 1, v * 16 + d, by rw [HCV.out], by (refine congrArg _ ?_; omega), by omega, HN2⟩
          case measure => simp [intOf]; omega
        · have HCV : Hid ((capv (v * 16 + d) : Int) = (capv v : Int) * 16 + d) := hide (by rw [HCM.out]; exact if_neg hc)
          clear HCM
          go_wp2
          go_round
          case rel => exact ⟨k + 1, v * 16 + d, by rw [HCV.out], by (refine congrArg _ ?_; omega), by omega, HN2⟩
          case measure => simp [intOf]; omega
      | none =>
        have hz := digitP_none 16 (by omega) s[3 + k] hd
        have hq := digs_no 16 s[3 + k] (s.data.toList.drop (3 + k + 1)) hd
        rw [← drop_cons s (3 + k) hlt] at hq
        obtain ⟨n1, n2⟩ := HN.out
        rw [hq.1, Nat.add_zero] at n1
        rw [hq.2] at n2
        have hRR := HI.out k v hlt n1 n2
        have HD := hide (HDG.out s[3 + k])
        generalize digitP (s[3 + k]).toNat = dz at *
        have HNU := hide (HNM.out (capv v : Nat))
        rw [capv_number] at HNU
        clear hq hd n1 n2 HN HI HE
        generalize numberL (v : Nat) = T at *
        by_cases hk0 : k = 0
        · subst hk0
          have HRR : Hid (R = ([], 0)) := hide hRR
          clear hRR
          go_wp2_with fail
          refine (HD.out _).mono ?_
          rintro e w1 ⟨rfl, rfl⟩
          go_wp2
          go_ret2
          rw [HRR.out]
          exact ⟨rfl, rfl⟩
        · have hk1 : (((3 + k : Nat) : Int) == 3) = false := beq_eq_false_iff_ne.2 (by omega)
          rw [if_neg hk0] at hRR
          by_cases h59 : (s[3 + k]).toNat = 59
          · have h592 := eq_lit _ 59 (by omega : ((s[3 + k]).toNat : Int) = 59)
            rw [if_pos h59] at hRR
            have HRR := hide hRR
            clear h59 hRR
            generalize hnx : 3 + k = x at *
            go_wp2_with fail
            refine (HD.out _).mono ?_
            rintro e w1 ⟨rfl, rfl⟩
            go_wp2_with fail
            refine HNU.out.mono ?_
            rintro e w2 ⟨rfl, rfl⟩
            go_wp2
            go_ret2
            refine ⟨?_, rfl⟩
            rw [HRR.out]
            exact ret_pair (show (x : Int) + 1 = ((k + 1 + 3 : Nat) : Int) by omega)
          · have h592 := ne_lit _ 59 (by omega : ((s[3 + k]).toNat : Int) ≠ 59)
            rw [if_neg h59] at hRR
            have HRR := hide hRR
            clear h59 hRR
            generalize hnx : 3 + k = x at *
            go_wp2_with fail
            refine (HD.out _).mono ?_
            rintro e w1 ⟨rfl, rfl⟩
            go_wp2_with fail
            refine HNU.out.mono ?_
            rintro e w2 ⟨rfl, rfl⟩
            go_wp2
            go_ret2
            refine ⟨?_, rfl⟩
            rw [HRR.out]
            exact ret_pair (show (x : Int) = ((k + 0 + 3 : Nat) : Int) by omega)
    · have hend : 3 + k = s.size := by omega
      obtain ⟨n1, n2⟩ := HN.out
      rw [drop_end s (3 + k) (by omega)] at n1 n2
      have n1 : digsN 16 L = k := n1
      have n2 : valN 16 0 L = v := n2
      have hRR := HE.out k v hend n1 n2
      have HNU := hide (HNM.out (capv v : Nat))
      rw [capv_number] at HNU
      clear n1 n2 HN HI HE
      generalize numberL (v : Nat) = T at *
      have hlt2 : ¬ (((3 + k : Nat) : Int)) < s.size := by omega
      clear hend
      by_cases hk0 : k = 0
      · subst hk0
        have HRR : Hid (R = ([], 0)) := hide hRR
        clear hRR
        go_wp2
        all_goals go_ret2
        all_goals rw [HRR.out]
        all_goals exact ⟨rfl, rfl⟩
      · have hk1 : (((3 + k : Nat) : Int) == 3) = false := beq_eq_false_iff_ne.2 (by omega)
        rw [if_neg hk0] at hRR
        have HRR := hide hRR
        clear hRR
        generalize hnx : 3 + k = x at *
        go_wp2_with fail
        refine HNU.out.mono ?_
        rintro e w2 ⟨rfl, rfl⟩
        go_wp2
        go_ret2
        refine ⟨?_, rfl⟩
        rw [HRR.out]
        exact ret_pair (show (x : Int) = ((k + 3 : Nat) : Int) by omega)
theorem num_any (s : ByteArray) (hs : s.size ≤ 1000000) (h2 : 2 ≤ s.size) (w : World) (ho : OldOk w) :
    Calls Tryz.prog 58 #[.string s] w fun e w' => e = .returned (.tuple #[.string ⟨(numL (s.data.toList.drop 2)).1.toArray⟩, .int .i64 ((numL (s.data.toList.drop 2)).2 : Nat)]) ∧ w' = w := by
  by_cases hp : 2 < s.size
  · have hc := drop_cons s 2 hp
    by_cases hx : (s[2]).toNat = 120
    · have e : numL (s.data.toList.drop 2) = digsAt 16 3 (s.data.toList.drop 3) := by
        rw [hc]
        unfold numL digsAt
        simp only
        rw [if_pos (.inl (UInt8.toNat_inj.1 hx))]
      rw [e]
      exact num_x s hs hp hx w ho
    · by_cases hX : (s[2]).toNat = 88
      · have e : numL (s.data.toList.drop 2) = digsAt 16 3 (s.data.toList.drop 3) := by
          rw [hc]
          unfold numL digsAt
          simp only
          rw [if_pos (.inr (UInt8.toNat_inj.1 hX))]
        rw [e]
        exact num_X s hs hp hX w ho
      · have e : numL (s.data.toList.drop 2) = digsAt 10 2 (s.data.toList.drop 2) := by
          rw [hc]
          unfold numL digsAt
          simp only
          rw [if_neg (fun h => h.elim (fun h => hx (by rw [h]; rfl)) (fun h => hX (by rw [h]; rfl)))]
        rw [e]
        exact num_10 s hs hp hx hX w ho
  · have e : numL (s.data.toList.drop 2) = digsAt 10 2 (s.data.toList.drop 2) := by
      rw [drop_end s 2 (by omega)]
      rfl
    rw [e]
    exact num_none s hs (by omega) w ho
end Go.Proofs.YteccmjngdibeoaaGreatDoor.S4
