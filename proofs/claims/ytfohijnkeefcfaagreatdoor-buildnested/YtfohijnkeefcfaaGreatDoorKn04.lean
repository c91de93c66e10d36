import Derived.Test.YtfohijnkeefcfaaGreatDoorKn00
import Derived.Test.YtfohijnkeefcfaaGreatDoorKn01
import Derived.Test.YtfohijnkeefcfaaGreatDoorKn02
import Derived.Test.YtfohijnkeefcfaaGreatDoorKn03
import Derived.Test.YtfohijnkeefcfaaGreatDoorProg
import Derived.WalkKit
import Derived.WalkSpells
import Derived.WalkLawsBesides
import Derived.Laws.IdiomStrings
import Derived.Laws.ResultCell
import Derived.Laws.AppendOwn
import Derived.Lib.IndexBytes
import Derived.Lib.RuneBytes
import Derived.Maps.AppendAt
import Derived.Below
import Derived.Laws.Runes
set_option linter.unusedVariables false
set_option linter.unusedSimpArgs false
set_option maxRecDepth 100000
set_option maxHeartbeats 8000000
namespace Go.Proofs.YtfohijnkeefcfaaGreatDoor.G5
open Go.RowKit
theorem hide {p : Prop} (h : p) : Hid p := h
theorem ret_bool {a b : Bool} (h : a = b) : Ending.returned (.bool a) = .returned (.bool b) := by rw [h]
theorem str_data (l : List UInt8) : (⟨l.toArray⟩ : ByteArray).data.toList = l := by simp
theorem size_list (s : ByteArray) : s.size = s.data.toList.length := by
  rw [Array.length_toList]; rfl
theorem below_alloc (w : World) (o : Obj) : Below w.heap.size w (w.alloc o) := (Below.refl _ w).alloc (Nat.le_refl _) _
theorem cell_lt {w : World} {a : Addr} {v : Value} (h : w.cell? a = some v) : a.block < w.heap.size := World.block_lt_of_cell? w a h
theorem wpList_append_run {P : Program} {ops : Array Oper} {rest : List Oper} {o : Oper} {a : Act} {Q : Exit -> Act -> World -> Prop} {w : World} (hgd : o.guard = none) (s x : Operand) (t : TypeId)
    (ho : o.op = .call { callee := .builtin .append, args := #[s, x], argTypes := #[t, t] }) (v1 v2 v' : Value) (w' : World) (hs : a.eval s = v1) (hx : a.eval x = v2)
    (hr : (Builtin.append_ #[t, t] o.type #[v1, v2]).run P w = .ok v' w') (h : wpList P ops Q rest (a.put o.dst v') w') : wpList P ops Q (o :: rest) a w :=
  wpList_plain hgd fun _ hK => by
    unfold Oper.wp execOp
    simp only [ho, resolve, invoke, builtin, Sem.run_bind, Sem.run_pure, Result.andThen_ok, List.map_toArray, List.map_cons, List.map_nil, hs, hx, hr]
    exact hK _ _ h
abbrev AttrL := List (List UInt8 × List UInt8)
def IsA (w : World) (v : Value) (aa : AttrL) : Prop :=
  ((∃ a c, v = .slice a 0 c) /\ aa = []) \/ ∃ b o cap, v = .slice (some ⟨b, o, none⟩) aa.length cap /\ aa.length <= cap /\
    ∀ j (hj : j < aa.length), w.cell? ⟨b, o + j * 2, none⟩ = some (.string ⟨aa[j].1.toArray⟩) /\ w.cell? ⟨b, o + j * 2 + 1, none⟩ = some (.string ⟨aa[j].2.toArray⟩)
theorem IsA.below {w W : World} {v : Value} {aa : AttrL} (h : IsA w v aa) (hb : Below w.heap.size w W) : IsA W v aa := by
  rcases h with h | ⟨b, o, cap, h1, h2, h3⟩
  · exact .inl h
  · refine .inr ⟨b, o, cap, h1, h2, fun j hj => ?_⟩
    obtain ⟨c1, c2⟩ := h3 j hj
    exact ⟨by rw [hb.cell (cell_lt c1)]; exact c1, by rw [hb.cell (cell_lt c2)]; exact c2⟩
theorem isA_form {w : World} {v : Value} {aa : AttrL} (h : IsA w v aa) : ∃ a c, v = .slice a aa.length c := by
  rcases h with ⟨⟨a, c, rfl⟩, rfl⟩ | ⟨b, o, cap, rfl, _⟩
  · exact ⟨_, _, rfl⟩
  · exact ⟨_, _, rfl⟩
def Kept (w : World) (k : Nat) (cs : List Value) : Prop := (∀ o, w.cell? ⟨k, o, none⟩ = cs[o]?) /\ ∀ o, w.frozen? ⟨k, o, none⟩ = false
theorem Kept.lt {w : World} {k : Nat} {v : Value} {cs : List Value} (h : Kept w k (v :: cs)) : k < w.heap.size := cell_lt (a := ⟨k, 0, none⟩) (h.1 0)
theorem Kept.new (w : World) (cs : List Value) (T : TypeId) : Kept (w.alloc (.cells cs.toArray T)) w.heap.size cs :=
  ⟨fun o => by rw [World.cell?_alloc_mark]; simp, fun o => by simp [go_sem]⟩
theorem Kept.below {k : Nat} {w w1 : World} {v : Value} {cs : List Value} (h : Kept w k (v :: cs)) (hb : Below w.heap.size w w1) : Kept w1 k (v :: cs) :=
  ⟨fun o => by rw [hb.cell (p := ⟨k, o, none⟩) h.lt]; exact h.1 o, fun o => by rw [hb.frozen (p := ⟨k, o, none⟩) h.lt]; exact h.2 o⟩
theorem Kept.alloc {k : Nat} {w : World} {v : Value} {cs : List Value} (h : Kept w k (v :: cs)) (o : Obj) : Kept (w.alloc o) k (v :: cs) := h.below (below_alloc w o)
end Go.Proofs.YtfohijnkeefcfaaGreatDoor.G5
namespace Go.Proofs.YtfohijnkeefcfaaGreatDoor.G5
open Go.RowKit
def IsAB (B : Nat -> Prop) (w : World) (v : Value) (aa : AttrL) : Prop := IsA w v aa /\ (aa = [] \/ ∀ k, v.ownBlock = some k -> B k)
theorem cell_same {w W : World} {b o : Nat} {v : Value} (h : W.heap[b]? = w.heap[b]?) (hc : w.cell? ⟨b, o, none⟩ = some v) : W.cell? ⟨b, o, none⟩ = some v := by
  rw [World.cell?_of_block (a := ⟨b, o, none⟩) h]
  exact hc
theorem own_slice (b o n c : Nat) : (Value.slice (some ⟨b, o, none⟩) n c).ownBlock = some b := rfl
theorem IsAB.keep {B : Nat -> Prop} {w W : World} {v : Value} {aa : AttrL} (h : IsAB B w v aa) (hk : ∀ k, B k -> W.heap[k]? = w.heap[k]?) : IsAB B W v aa := by
  refine ⟨?_, h.2⟩
  rcases h.1 with h1 | ⟨b, o, cap, rfl, hc, hcs⟩
  · exact .inl h1
  · refine .inr ⟨b, o, cap, rfl, hc, fun j hj => ?_⟩
    rcases h.2 with rfl | hb
    · simp at hj
    · have := hk b (hb b (own_slice b o _ _))
      exact ⟨cell_same this (hcs j hj).1, cell_same this (hcs j hj).2⟩
theorem IsAB.mono {B C : Nat -> Prop} {w : World} {v : Value} {aa : AttrL} (h : IsAB B w v aa) (hm : ∀ k, B k -> C k) : IsAB C w v aa := ⟨h.1, h.2.imp id fun f k hk => hm k (f k hk)⟩
end Go.Proofs.YtfohijnkeefcfaaGreatDoor.G5
namespace Go.Proofs.YtfohijnkeefcfaaGreatDoor.G5
open Go.RowKit
def NT : Nat -> Type
  | 0 => { d : ND // False }
  | k + 1 => ND × List (NT k)
def NT.mk {k : Nat} (d : ND) (ks : List (NT k)) : NT (k + 1) := Prod.mk d ks
def NT.nd {k : Nat} (t : NT (k + 1)) : ND := Prod.fst (α := ND) (β := List (NT k)) t
def NT.kids {k : Nat} (t : NT (k + 1)) : List (NT k) := Prod.snd (α := ND) (β := List (NT k)) t
theorem NT.none {G : Prop} (t : NT 0) : G := (Subtype.property (p := fun d : ND => False) t).elim
theorem NT.form {k : Nat} (t : NT (k + 1)) : t = .mk t.nd t.kids := rfl
def nodeC (d : ND) (av kv : Value) : List Value := [.int .i64 d.kind, .int .i64 d.space, .string ⟨d.name.toArray⟩, av, .string ⟨d.text.toArray⟩, kv]
def RowG {α : Type} (P : α -> List Value -> Prop) (w : World) (b : Nat) : Nat -> List α -> Prop
  | _, [] => True
  | o, k :: r => (∃ vs : List Value, (∀ i, i < 6 -> w.cell? ⟨b, o + i, none⟩ = vs[i]?) /\ P k vs) /\ RowG P w b (o + 6) r
theorem RowG.keep {α β : Type} {P : α -> List Value -> Prop} {Q : β -> List Value -> Prop} {w W : World} {b : Nat} (f : α -> β) (hc : W.heap[b]? = w.heap[b]?) (hf : ∀ x vs, P x vs -> Q (f x) vs) : ∀ (o : Nat) (ks : List α), RowG P w b o ks -> RowG Q W b o (ks.map f)
  | _, [], _ => trivial
  | o, k :: r, h => by
    obtain ⟨⟨vs, h1, h2⟩, h3⟩ := h
    exact ⟨⟨vs, fun i hi => by rw [World.cell?_of_block (a := ⟨b, o + i, none⟩) hc]; exact h1 i hi, hf k vs h2⟩, RowG.keep f hc hf (o + 6) r h3⟩
def IsN (B : Nat -> Prop) (w : World) : {k : Nat} -> NT k -> List Value -> Prop
  | 0, _, _ => False
  | k + 1, t, vs => ∃ av kv, vs = nodeC t.nd av kv /\ IsAB B w av t.nd.attrs /\ (((∃ a c, kv = .slice a 0 c) /\ t.kids = []) \/ ∃ b o cap, kv = .slice (some ⟨b, o, none⟩) t.kids.length cap /\ t.kids.length <= cap /\ (t.kids = [] \/ B b) /\ RowG (fun x us => IsN B w x us) w b o t.kids)
def IsNs (B : Nat -> Prop) (w : World) (b : Nat) {k : Nat} (o : Nat) (ks : List (NT k)) : Prop := RowG (fun x us => IsN B w x us) w b o ks
def IsK (B : Nat -> Prop) (w : World) {k : Nat} (ks : List (NT k)) (kv : Value) : Prop := ((∃ a c, kv = .slice a 0 c) /\ ks = []) \/ ∃ b o cap, kv = .slice (some ⟨b, o, none⟩) ks.length cap /\ ks.length <= cap /\ (ks = [] \/ B b) /\ IsNs B w b o ks
theorem isN_iff (B : Nat -> Prop) (w : World) {k : Nat} (d : ND) (ks : List (NT k)) (vs : List Value) : IsN B w (.mk d ks) vs ↔ ∃ av kv, vs = nodeC d av kv /\ IsAB B w av d.attrs /\ IsK B w ks kv := by
  exact Iff.rfl
theorem isN_len {B : Nat -> Prop} {w : World} : ∀ {k : Nat} {t : NT k} {vs : List Value}, IsN B w t vs -> vs.length = 6
  | 0, t, _, _ => t.none
  | k + 1, t, vs, h => by
    obtain ⟨av, kv, rfl, _⟩ := h
    rfl
theorem isK_form {B : Nat -> Prop} {w : World} {k : Nat} {ks : List (NT k)} {kv : Value} (h : IsK B w ks kv) : ∃ a c, kv = .slice a ks.length c := by
  rcases h with ⟨⟨a, c, rfl⟩, rfl⟩ | ⟨b, o, cap, rfl, _⟩
  · exact ⟨_, _, rfl⟩
  · exact ⟨_, _, rfl⟩
theorem IsN.keep {B C : Nat -> Prop} {w W : World} (hk : ∀ k, B k -> W.heap[k]? = w.heap[k]?) (hm : ∀ k, B k -> C k) : ∀ {k : Nat} (t : NT k) (vs : List Value), IsN B w t vs -> IsN C W t vs
  | 0, t, _, _ => t.none
  | k + 1, t, vs, h => by
    obtain ⟨av, kv, h1, h2, h3⟩ := h
    refine ⟨av, kv, h1, (h2.keep hk).mono hm, ?_⟩
    rcases h3 with h3 | ⟨b, o, cap, e1, e2, e3, e4⟩
    · exact .inl h3
    · rcases e3 with e3 | e3
      · refine .inr ⟨b, o, cap, e1, e2, .inl e3, ?_⟩
        rw [e3]
        trivial
      · refine .inr ⟨b, o, cap, e1, e2, .inr (hm b e3), ?_⟩
        have := RowG.keep (Q := fun x us => IsN C W x us) id (hk b e3) (fun x us hx => IsN.keep hk hm x us hx) o t.kids e4
        rwa [List.map_id] at this
theorem IsNs.keep {B C : Nat -> Prop} {w W : World} (hk : ∀ k, B k -> W.heap[k]? = w.heap[k]?) (hm : ∀ k, B k -> C k) (b : Nat) (hb : B b) {k : Nat} (o : Nat) (ks : List (NT k)) (h : IsNs B w b o ks) : IsNs C W b o ks := by
  have := RowG.keep (Q := fun x us => IsN C W x us) id (hk b hb) (fun x us hx => IsN.keep hk hm x us hx) o ks h
  rwa [List.map_id] at this
theorem IsN.on {B : Nat -> Prop} {w W : World} {k : Nat} {t : NT k} {vs : List Value} (h : IsN B w t vs) (hk : ∀ k, B k -> W.heap[k]? = w.heap[k]?) : IsN B W t vs := IsN.keep hk (fun _ h => h) t vs h
theorem IsN.mono {B C : Nat -> Prop} {w : World} {k : Nat} {t : NT k} {vs : List Value} (h : IsN B w t vs) (hm : ∀ k, B k -> C k) : IsN C w t vs := IsN.keep (fun _ _ => rfl) hm t vs h
theorem IsNs.get {B : Nat -> Prop} {w : World} {b : Nat} {k : Nat} : ∀ (o : Nat) (ks : List (NT k)), IsNs B w b o ks -> ∀ j (hj : j < ks.length), ∃ vs : List Value, (∀ i, i < 6 -> w.cell? ⟨b, o + j * 6 + i, none⟩ = vs[i]?) /\ IsN B w ks[j] vs
  | o, x :: r, h, 0, _ => by
    obtain ⟨⟨vs, h1, h2⟩, _⟩ := h
    exact ⟨vs, fun i hi => by rw [show o + 0 * 6 + i = o + i by omega]; exact h1 i hi, h2⟩
  | o, x :: r, h, j + 1, hj => by
    obtain ⟨vs, h1, h2⟩ := IsNs.get (o + 6) r h.2 j (by simpa using hj)
    exact ⟨vs, fun i hi => by rw [show o + (j + 1) * 6 + i = o + 6 + j * 6 + i by omega]; exact h1 i hi, h2⟩
theorem IsNs.of {B : Nat -> Prop} {w : World} {b : Nat} {k : Nat} : ∀ (o : Nat) (ks : List (NT k)), (∀ j (hj : j < ks.length), ∃ vs : List Value, (∀ i, i < 6 -> w.cell? ⟨b, o + j * 6 + i, none⟩ = vs[i]?) /\ IsN B w ks[j] vs) -> IsNs B w b o ks
  | o, [], _ => trivial
  | o, x :: r, h => by
    refine ⟨?_, IsNs.of (o + 6) r fun j hj => ?_⟩
    · obtain ⟨vs, h1, h2⟩ := h 0 (by simp)
      exact ⟨vs, fun i hi => by have := h1 i hi; rw [show o + 0 * 6 + i = o + i by omega] at this; exact this, h2⟩
    · obtain ⟨vs, h1, h2⟩ := h (j + 1) (by simpa using hj)
      exact ⟨vs, fun i hi => by have := h1 i hi; rw [show o + (j + 1) * 6 + i = o + 6 + j * 6 + i by omega] at this; exact this, h2⟩
theorem flatten_get6 : ∀ (cs : List (List Value)), (∀ c ∈ cs, c.length = 6) -> ∀ j (hj : j < cs.length) i, i < 6 -> cs.flatten[j * 6 + i]? = cs[j][i]?
  | c :: r, h, 0, _, i, hi => by
    rw [List.flatten_cons, Nat.zero_mul, Nat.zero_add, List.getElem?_append_left (by rw [h c (by simp)]; exact hi)]
    rfl
  | c :: r, h, j + 1, hj, i, hi => by
    have ih := flatten_get6 r (fun x hx => h x (by simp [hx])) j (by simpa using hj) i hi
    rw [List.flatten_cons, List.getElem?_append_right (by rw [h c (by simp)]; omega), h c (by simp), show (j + 1) * 6 + i - 6 = j * 6 + i by omega]
    exact ih
end Go.Proofs.YtfohijnkeefcfaaGreatDoor.G5
namespace Go.Proofs.YtfohijnkeefcfaaGreatDoor.G5
def ND.same (a b : ND) : Bool := a.kind == b.kind && a.space == b.space && a.name == b.name && a.attrs == b.attrs && a.text == b.text
def eqG {α β : Type} (f : α -> β -> Bool) : List α -> List β -> Bool
  | [], [] => true
  | x :: r, y :: s => f x y && eqG f r s
  | [], _ :: _ => false
  | _ :: _, [] => false
theorem eqG_len {α β : Type} (f : α -> β -> Bool) : ∀ (a : List α) (b : List β), a.length ≠ b.length -> eqG f a b = false
  | [], [], h => absurd rfl h
  | x :: r, y :: s, h => by
    rw [eqG, eqG_len f r s (by simpa using h), Bool.and_false]
  | [], _ :: _, _ => rfl
  | _ :: _, [], _ => rfl
theorem eqG_drop {α β : Type} (f : α -> β -> Bool) : ∀ (a : List α) (b : List β) (i : Nat) (h1 : i < a.length) (h2 : i < b.length), eqG f (a.drop i) (b.drop i) = (f a[i] b[i] && eqG f (a.drop (i + 1)) (b.drop (i + 1)))
  | x :: r, y :: s, 0, _, _ => rfl
  | x :: r, y :: s, i + 1, h1, h2 => by
    have := eqG_drop f r s i (by simpa using h1) (by simpa using h2)
    simpa using this
def eqT : {k : Nat} -> NT k -> {j : Nat} -> NT j -> Bool
  | k + 1, t, j + 1, u => t.nd.same u.nd && eqG (fun x y => eqT x y) t.kids u.kids
  | 0, _, _, _ => false
  | _ + 1, _, 0, _ => false
theorem ND.same_self (d : ND) : d.same d = true := by simp [ND.same]
end Go.Proofs.YtfohijnkeefcfaaGreatDoor.G5
namespace Go.Proofs.YtfohijnkeefcfaaGreatDoor.S5
open Go.RowKit
theorem hide {p : Prop} (h : p) : Hid p := h
theorem ret_bool {a b : Bool} (h : a = b) : Ending.returned (.bool a) = .returned (.bool b) := by rw [h]
theorem ret_int {k : IntKind} {a b : Int} (h : a = b) : Ending.returned (.int k a) = .returned (.int k b) := by rw [h]
theorem size_list (s : ByteArray) : s.size = s.data.toList.length := by
  rw [Array.length_toList]; rfl
theorem below_alloc (w : World) (o : Obj) : Below w.heap.size w (w.alloc o) := (Below.refl _ w).alloc (Nat.le_refl _) _
theorem addr_add (b j : Nat) : (⟨b, 0, none⟩ : Addr).add j = ⟨b, j, none⟩ := by unfold Addr.add; split <;> simp_all
theorem cell_lt {w : World} {a : Addr} {v : Value} (h : w.cell? a = some v) : a.block < w.heap.size := World.block_lt_of_cell? w a h
theorem wpList_append_run {P : Program} {ops : Array Oper} {rest : List Oper} {o : Oper} {a : Act} {Q : Exit -> Act -> World -> Prop} {w : World} (hgd : o.guard = none) (s x : Operand) (t : TypeId)
    (ho : o.op = .call { callee := .builtin .append, args := #[s, x], argTypes := #[t, t] }) (v1 v2 v' : Value) (w' : World) (hs : a.eval s = v1) (hx : a.eval x = v2)
    (hr : (Builtin.append_ #[t, t] o.type #[v1, v2]).run P w = .ok v' w') (h : wpList P ops Q rest (a.put o.dst v') w') : wpList P ops Q (o :: rest) a w :=
  wpList_plain hgd fun _ hK => by
    unfold Oper.wp execOp
    simp only [ho, resolve, invoke, builtin, Sem.run_bind, Sem.run_pure, Result.andThen_ok, List.map_toArray, List.map_cons, List.map_nil, hs, hx, hr]
    exact hK _ _ h
abbrev AttrL := List (List UInt8 × List UInt8)
def IsA (w : World) (v : Value) (aa : AttrL) : Prop :=
  (v = .slice none 0 0 /\ aa = []) \/ ∃ b o cap, v = .slice (some ⟨b, o, none⟩) aa.length cap /\ aa.length <= cap /\
    ∀ j (hj : j < aa.length), w.cell? ⟨b, o + j * 2, none⟩ = some (.string ⟨aa[j].1.toArray⟩) /\ w.cell? ⟨b, o + j * 2 + 1, none⟩ = some (.string ⟨aa[j].2.toArray⟩)
theorem IsA.below {w W : World} {v : Value} {aa : AttrL} (h : IsA w v aa) (hb : Below w.heap.size w W) : IsA W v aa := by
  rcases h with h | ⟨b, o, cap, h1, h2, h3⟩
  · exact .inl h
  · refine .inr ⟨b, o, cap, h1, h2, fun j hj => ?_⟩
    obtain ⟨c1, c2⟩ := h3 j hj
    exact ⟨by rw [hb.cell (cell_lt c1)]; exact c1, by rw [hb.cell (cell_lt c2)]; exact c2⟩
def attrCells : AttrL -> List Value
  | [] => []
  | a :: r => .string ⟨a.1.toArray⟩ :: .string ⟨a.2.toArray⟩ :: attrCells r
theorem attrCells_len : ∀ aa : AttrL, (attrCells aa).length = aa.length * 2
  | [] => rfl
  | a :: r => by
    simp only [attrCells, List.length_cons, attrCells_len r]
    omega
theorem attrCells_get : ∀ (aa : AttrL) (j : Nat) (hj : j < aa.length), (attrCells aa)[j * 2]? = some (.string ⟨aa[j].1.toArray⟩) /\ (attrCells aa)[j * 2 + 1]? = some (.string ⟨aa[j].2.toArray⟩)
  | a :: r, 0, _ => ⟨rfl, rfl⟩
  | a :: r, j + 1, hj => by
    have h := attrCells_get r j (by simpa using hj)
    rw [show (j + 1) * 2 = j * 2 + 1 + 1 by omega]
    exact h
theorem attrCells_1c : ∀ (aa : AttrL), ∀ u ∈ attrCells aa, u.oneCell' = true
  | [] => by intro u hu; cases hu
  | a :: r => by
    intro u hu
    simp only [attrCells, List.mem_cons] at hu
    rcases hu with rfl | rfl | hu
    · rfl
    · rfl
    · exact attrCells_1c r u hu
theorem owns_isA {w : World} {B n : Nat} {v : Value} {aa : AttrL} (h : w.ownsRow B 62 2 v n (attrCells aa)) : IsA w v aa := by
  have hn : n = aa.length := by
    have := h.1
    rw [attrCells_len] at this
    omega
  subst hn
  rcases h.2 with ⟨rfl, h2⟩ | ⟨g, cap, cur, rfl, _, _, hc, _, _, _⟩
  · exact .inl ⟨rfl, List.eq_nil_of_length_eq_zero h2⟩
  · refine .inr ⟨g, 0, cap, rfl, hc, fun j hj => ?_⟩
    obtain ⟨g1, g2⟩ := attrCells_get aa j hj
    have c1 := h.cells rfl _ _ g1
    have c2 := h.cells rfl _ _ g2
    rw [addr_add] at c1 c2
    rw [Nat.zero_add]
    exact ⟨c1, c2⟩
theorem owns_below {w W : World} {B n : Nat} {e : TypeId} {z : Nat} {v : Value} {xs : List Value} (h : w.ownsRow B e z v n xs) (hb : Below w.heap.size w W) : W.ownsRow B e z v n xs := by
  refine ⟨h.1, ?_⟩
  rcases h.2 with h2 | ⟨g, cap, cur, h1, h2, h3, h4⟩
  · exact .inl h2
  · refine .inr ⟨g, cap, cur, h1, h2, ?_, h4⟩
    have hg : g < w.heap.size := (Array.getElem?_eq_some_iff.1 h3).1
    rw [hb.block g hg]; exact h3
theorem owns_form {w : World} {B n : Nat} {e : TypeId} {z : Nat} {v : Value} {xs : List Value} (h : w.ownsRow B e z v n xs) : ∃ a c, v = .slice a n c := by
  rcases h.2 with ⟨h1, h2⟩ | ⟨g, cap, _, h1, _⟩
  · subst h2
    exact ⟨_, _, h1⟩
  · exact ⟨_, _, h1⟩
theorem isA_form {w : World} {v : Value} {aa : AttrL} (h : IsA w v aa) : ∃ a c, v = .slice a aa.length c := by
  rcases h with ⟨rfl, rfl⟩ | ⟨b, o, cap, rfl, _⟩
  · exact ⟨_, _, rfl⟩
  · exact ⟨_, _, rfl⟩
def Kept (w : World) (k : Nat) (cs : List Value) : Prop := (∀ o, w.cell? ⟨k, o, none⟩ = cs[o]?) /\ ∀ o, w.frozen? ⟨k, o, none⟩ = false
theorem Kept.lt {w : World} {k : Nat} {v : Value} {cs : List Value} (h : Kept w k (v :: cs)) : k < w.heap.size := cell_lt (a := ⟨k, 0, none⟩) (h.1 0)
theorem Kept.new (w : World) (cs : List Value) (T : TypeId) : Kept (w.alloc (.cells cs.toArray T)) w.heap.size cs :=
  ⟨fun o => by rw [World.cell?_alloc_mark]; simp, fun o => by simp [go_sem]⟩
theorem Kept.below {k : Nat} {w w1 : World} {v : Value} {cs : List Value} (h : Kept w k (v :: cs)) (hb : Below w.heap.size w w1) : Kept w1 k (v :: cs) :=
  ⟨fun o => by rw [hb.cell (p := ⟨k, o, none⟩) h.lt]; exact h.1 o, fun o => by rw [hb.frozen (p := ⟨k, o, none⟩) h.lt]; exact h.2 o⟩
end Go.Proofs.YtfohijnkeefcfaaGreatDoor.S5
namespace Go.Proofs.YtfohijnkeefcfaaGreatDoor.S5
open Go.RowKit
def IsI (w : World) (v : Value) (l : List Nat) : Prop :=
  (v = .slice none 0 0 /\ l = []) \/ ∃ b o cap, v = .slice (some ⟨b, o, none⟩) l.length cap /\ l.length <= cap /\ ∀ j (hj : j < l.length), w.cell? ⟨b, o + j, none⟩ = some (.int .i64 (l[j] : Int))
theorem isI_form {w : World} {v : Value} {l : List Nat} (h : IsI w v l) : ∃ a c, v = .slice a l.length c := by
  rcases h with ⟨rfl, rfl⟩ | ⟨b, o, cap, rfl, _, _⟩
  · exact ⟨_, _, rfl⟩
  · exact ⟨_, _, rfl⟩
theorem IsI.at {w : World} {a : Option Addr} {n c : Nat} {l : List Nat} (h : IsI w (.slice a n c) l) (hl : 0 < l.length) : ∃ b o, a = some ⟨b, o, none⟩ /\ ∀ j (hj : j < l.length), w.cell? ⟨b, o + j, none⟩ = some (.int .i64 (l[j] : Int)) := by
  rcases h with ⟨_, rfl⟩ | ⟨b, o, cap, hv, _, hcs⟩
  · simp at hl
  · injection hv with e1 e2 e3
    exact ⟨b, o, e1, hcs⟩
def parZ (o : Option Nat) : Int := match o with | some i => (i : Int) | none => -1
def parentZ (T : TR) (z : Int) : Int := if z < 0 then -1 else parZ (parentN T z.toNat)
end Go.Proofs.YtfohijnkeefcfaaGreatDoor.S5
namespace Go.Proofs.YtfohijnkeefcfaaGreatDoor.S5
structure RN where
  nd : ND := {}
  par : Int := -1
  kids : List Nat := []
def rawAt (T : TR) (i : Nat) : RN := ⟨nodeAt T i, parZ (parentN T i), kidsAt T i⟩
def rawOf (T : TR) : List RN := (List.range T.length).map (rawAt T)
theorem raw_len (T : TR) : (rawOf T).length = T.length := by simp [rawOf]
theorem raw_get (T : TR) (i : Nat) (h : i < (rawOf T).length) : (rawOf T)[i] = rawAt T i := by simp [rawOf]
def modR (R : List RN) (i : Nat) (f : RN -> RN) : List RN := R.set i (f (R.getD i {}))
theorem modR_len (R : List RN) (i : Nat) (f : RN -> RN) : (modR R i f).length = R.length := by simp [modR]
theorem modR_get (R : List RN) (i : Nat) (f : RN -> RN) (j : Nat) (h : j < (modR R i f).length) : (modR R i f)[j] = if i = j then f (R[j]'(by rwa [modR_len] at h)) else R[j]'(by rwa [modR_len] at h) := by
  have hj : j < R.length := by rwa [modR_len] at h
  simp only [modR, List.getElem_set]
  split
  · rename_i e
    subst e
    rw [List.getD_eq_getElem?_getD, List.getElem?_eq_getElem hj]
    rfl
  · rfl
def RN.wPar (z : Int) (r : RN) : RN := ⟨r.nd, z, r.kids⟩
def RN.wKids (ks : List Nat) (r : RN) : RN := ⟨r.nd, r.par, ks⟩
def RN.wText (s : List UInt8) (r : RN) : RN := ⟨{ r.nd with text := s }, r.par, r.kids⟩
abbrev setPar (R : List RN) (i : Nat) (z : Int) : List RN := modR R i (RN.wPar z)
abbrev setKids (R : List RN) (i : Nat) (ks : List Nat) : List RN := modR R i (RN.wKids ks)
abbrev setText (R : List RN) (i : Nat) (s : List UInt8) : List RN := modR R i (RN.wText s)
theorem raw_ext {R : List RN} {T : TR} (hl : R.length = T.length) (h : ∀ i (hi : i < R.length), R[i] = rawAt T i) : R = rawOf T := by
  apply List.ext_getElem
  · rw [raw_len]; exact hl
  · intro i h1 h2
    rw [raw_get, h i h1]
theorem parent_congr {T U : TR} (hT : WF T) (hU : WF U) {k : Nat} (h : ∀ i, k ∈ kidsAt U i ↔ k ∈ kidsAt T i) : parentN U k = parentN T k := by
  cases hp : parentN T k with
  | some p => exact hU.parent ((h p).2 (parent_some hp))
  | none =>
    cases hq : parentN U k with
    | none => rfl
    | some q => exact absurd ((h q).1 (parent_some hq)) (parent_none hp q)
theorem no_parent {T : TR} {k : Nat} (h : ∀ i, k ∉ kidsAt T i) : parentN T k = none := by
  cases hp : parentN T k with
  | none => rfl
  | some p => exact absurd (parent_some hp) (h p)
theorem out_raw {T : TR} (h : WF T) {c p : Nat} (hp : parentN T c = some p) : setPar (setKids (rawOf T) p ((kidsAt T p).filter (fun x => !(x == c)))) c (-1) = rawOf (outL T c) := by
  refine raw_ext (by rw [modR_len, modR_len, raw_len, out_len]) fun i hi => ?_
  rw [modR_get, modR_get, raw_get]
  have hkm := parent_some hp
  have hpar : ∀ k, k ≠ c -> parentN (outL T c) k = parentN T k := fun k hk => parent_congr h (h.out c) fun j => by
    rw [kids_out h, List.mem_filter]
    simp [hk]
  have hkids : kidsAt (outL T c) i = if p = i then (kidsAt T p).filter (fun x => !(x == c)) else kidsAt T i := by
    rw [kids_out h]
    split
    · rename_i e; rw [e]
    · rename_i e
      exact filter_self c _ (fun hm => e (h.once p i c hkm hm))
  unfold rawAt
  rw [node_out, hkids]
  by_cases e1 : c = i
  · subst e1
    rw [if_pos rfl, out_parent h]
    split <;> rfl
  · rw [if_neg e1, hpar i (fun e => e1 e.symm)]
    split <;> rfl
theorem put_raw {T U : TR} (hT : WF T) (hU : WF U) {c p : Nat} {ks : List Nat} (hl : U.length = T.length) (hn : ∀ i, nodeAt U i = nodeAt T i) (hk : ∀ i, kidsAt U i = if i = p then ks else kidsAt T i) (hc : c ∈ ks) (hks : ∀ x, x ≠ c -> (x ∈ ks ↔ x ∈ kidsAt T p)) : setPar (setKids (rawOf T) p ks) c (p : Int) = rawOf U := by
  refine raw_ext (by rw [modR_len, modR_len, raw_len, hl]) fun i hi => ?_
  rw [modR_get, modR_get, raw_get]
  have hpar : ∀ k, k ≠ c -> parentN U k = parentN T k := fun k hk2 => parent_congr hT hU fun j => by
    rw [hk]
    by_cases e : j = p
    · subst e
      rw [if_pos rfl]
      exact hks k hk2
    · rw [if_neg e]
  have hcp : parentN U c = some p := hU.parent (by rw [hk, if_pos rfl]; exact hc)
  unfold rawAt
  rw [hn, hk]
  by_cases e1 : c = i
  · subst e1
    rw [if_pos rfl, hcp]
    by_cases e2 : p = c
    · rw [if_pos e2, if_pos e2.symm]; rfl
    · rw [if_neg e2, if_neg (fun e => e2 e.symm)]; rfl
  · rw [if_neg e1, hpar i (fun e => e1 e.symm)]
    by_cases e2 : p = i
    · rw [if_pos e2, if_pos e2.symm]; rfl
    · rw [if_neg e2, if_neg (fun e => e2 e.symm)]
theorem append_raw {T : TR} (h : WF T) {p c : Nat} (hp : p < T.length) (hc : c < T.length) (hc1 : 1 <= c) (hu : ¬ Up T c p) : setPar (setKids (rawOf (outL T c)) p (kidsAt (outL T c) p ++ [c])) c (p : Int) = rawOf (appendL T p c) := by
  refine put_raw (h.out c) (h.append hp hc hc1 hu) (by rw [append_len, out_len]) (fun i => by unfold appendL; rw [node_set]) (fun i => ?_) (by simp) (fun x hx => by simp [hx])
  unfold appendL
  rw [kids_set _ _ _ (by rw [out_len]; exact hp)]
theorem before_raw {T : TR} (h : WF T) {p ref c : Nat} (hr : ref ∈ kidsAt T p) (hc : c < T.length) (hc1 : 1 <= c) (hu : ¬ Up T c ref) : setPar (setKids (rawOf (outL T c)) p (aheadL ref c (kidsAt (outL T c) p))) c (p : Int) = rawOf (beforeL T p ref c) := by
  have hne : ref ≠ c := fun e => hu (e ▸ .refl)
  refine put_raw (h.out c) (h.before hr hc hc1 hu) (by rw [before_len, out_len]) (fun i => by unfold beforeL; rw [node_set]) (fun i => ?_) ?_ (fun x hx => ?_)
  · unfold beforeL
    rw [kids_set _ _ _ (by rw [out_len]; exact kidsAt_lt hr)]
  · rw [mem_ahead]
    refine .inr ⟨rfl, ?_⟩
    rw [kids_out h, List.mem_filter]
    exact ⟨hr, by simp [hne]⟩
  · rw [mem_ahead]
    simp [hx]
theorem push_raw {T : TR} (h : WF T) (d : ND) : rawOf T ++ [⟨d, -1, []⟩] = rawOf (pushL T d) := by
  refine raw_ext (by simp [raw_len, pushL]) fun i hi => ?_
  have hpar : parentN (pushL T d) i = parentN T i := parent_congr h (h.push d) fun j => by rw [kids_push]
  have hi2 : i < T.length + 1 := by simpa [raw_len] using hi
  by_cases e : i < T.length
  · rw [List.getElem_append_left (by rw [raw_len]; exact e), raw_get]
    unfold rawAt
    rw [hpar, kids_push]
    congr 1
    unfold nodeAt pushL
    rw [List.getElem?_append_left e]
  · have e2 : i = T.length := by omega
    subst e2
    rw [List.getElem_append_right (by rw [raw_len]; omega)]
    unfold rawAt
    have hn : parentN T T.length = none := no_parent fun j hm => by have := (h.inb j _ hm).2; omega
    rw [hpar, kids_push, hn, kidsAt_out (Nat.le_refl _)]
    simp [raw_len, nodeAt, pushL, parZ]
theorem add_raw {T : TR} (h : WF T) {n : Nat} (hn : n < T.length) (s : List UInt8) : setText (rawOf T) n ((nodeAt T n).text ++ s) = rawOf (addL T n s) := by
  refine raw_ext (by simp [modR_len, raw_len, addL]) fun i hi => ?_
  have hpar : parentN (addL T n s) i = parentN T i := parent_congr h (h.add n s) fun j => by rw [kids_add]
  rw [modR_get, raw_get]
  unfold rawAt
  rw [hpar, kids_add]
  by_cases e : n = i
  · subst e
    rw [if_pos rfl]
    have : nodeAt (addL T n s) n = { nodeAt T n with text := (nodeAt T n).text ++ s } := by
      unfold addL
      generalize hx : ({ nodeAt T n with text := (nodeAt T n).text ++ s } : ND) = x
      unfold nodeAt
      rw [List.getElem?_set_self hn]
      rfl
    rw [this]
    rfl
  · rw [if_neg e]
    have : nodeAt (addL T n s) i = nodeAt T i := by
      unfold addL
      generalize ({ nodeAt T n with text := (nodeAt T n).text ++ s } : ND) = x
      unfold nodeAt
      rw [List.getElem?_set_ne e]
    rw [this]
theorem new_raw : rawOf newL = [⟨{}, -1, []⟩] := by
  have h : parentN newL 0 = none := WF.new.root
  unfold rawOf rawAt
  simp [newL]
  refine ⟨rfl, ?_, rfl⟩
  rw [show parentN [(({} : ND), ([] : List Nat))] 0 = none from h]
  rfl
theorem WF.kids_len {T : TR} (h : WF T) (i : Nat) : (kidsAt T i).length <= T.length := by
  rw [<- sumL_mem T.length (kidsAt T i) (h.nodup i) (fun x hx => (h.inb i x hx).2)]
  have : ∀ l : List Nat, sumL l (fun m => ind ((kidsAt T i).contains m)) <= l.length := by
    intro l
    induction l with
    | nil => simp [sumL]
    | cons x r ih =>
      rw [sumL_cons, List.length_cons]
      have : ind ((kidsAt T i).contains x) <= 1 := by unfold ind; split <;> omega
      omega
  simpa using this (List.range T.length)
end Go.Proofs.YtfohijnkeefcfaaGreatDoor.S5
namespace Go.Proofs.YtfohijnkeefcfaaGreatDoor.S4
open Go.RowKit
theorem hide {p : Prop} (h : p) : Hid p := h
theorem ret_bool {a b : Bool} (h : a = b) : Ending.returned (.bool a) = .returned (.bool b) := by rw [h]
theorem ret_str {a b : List UInt8} (h : a = b) : Ending.returned (.string ⟨a.toArray⟩) = .returned (.string ⟨b.toArray⟩) := by rw [h]
theorem str_data (l : List UInt8) : (⟨l.toArray⟩ : ByteArray).data.toList = l := by simp
theorem size_list (s : ByteArray) : s.size = s.data.toList.length := by
  rw [Array.length_toList]; rfl
theorem below_alloc (w : World) (o : Obj) : Below w.heap.size w (w.alloc o) := (Below.refl _ w).alloc (Nat.le_refl _) _
theorem addr_add (b j : Nat) : (⟨b, 0, none⟩ : Addr).add j = ⟨b, j, none⟩ := by unfold Addr.add; split <;> simp_all
theorem old_range (j : Nat) (hj : j < 32) : oldN.getD j 0 <= 1114111 /\ ¬ (55296 <= oldN.getD j 0 /\ oldN.getD j 0 <= 57343) := by
  have h : (List.range 32).all (fun j => decide (oldN.getD j 0 <= 1114111) && !(decide (55296 <= oldN.getD j 0) && decide (oldN.getD j 0 <= 57343))) = true := by decide +kernel
  have := List.all_eq_true.1 h j (List.mem_range.2 hj)
  simp at this
  simp
  omega
theorem cell_lt {w : World} {a : Addr} {v : Value} (h : w.cell? a = some v) : a.block < w.heap.size := World.block_lt_of_cell? w a h
theorem drop_cons (s : ByteArray) (k : Nat) (h : k < s.size) : s.data.toList.drop k = s[k] :: s.data.toList.drop (k + 1) := by
  have h2 : k < s.data.toList.length := by rw [<- size_list]; exact h
  rw [List.drop_eq_getElem_cons h2]
  rfl
theorem drop_end (s : ByteArray) (k : Nat) (h : s.size <= k) : s.data.toList.drop k = [] := List.drop_eq_nil_of_le (by rw [<- size_list]; exact h)
def capv (v : Nat) : Nat := if 1114111 < v then 1114112 else v
theorem capv_le (v : Nat) : capv v <= 1114112 := by unfold capv; split <;> omega
theorem capv_number (v : Nat) : numberL (capv v : Nat) = numberL (v : Nat) := by
  unfold capv
  split
  · unfold numberL cpN
    rw [if_pos (by omega), if_pos (by omega)]
  · rfl
theorem capv_over (v β d : Nat) (hβ : 1 <= β) (h : 1114111 < capv v * β + d) : capv (v * β + d) = 1114112 := by
  unfold capv at h ⊢
  by_cases hv : 1114111 < v
  · have : v <= v * β := Nat.le_mul_of_pos_right v hβ
    rw [if_pos (by omega)]
  · rw [if_neg hv] at h
    rw [if_pos h]
theorem capv_under (v β d : Nat) (hβ : 1 <= β) (h : ¬ 1114111 < capv v * β + d) : capv (v * β + d) = capv v * β + d := by
  unfold capv at h ⊢
  by_cases hv : 1114111 < v
  · rw [if_pos hv] at h
    have : 1114112 <= 1114112 * β := Nat.le_mul_of_pos_right _ hβ
    omega
  · rw [if_neg hv] at h ⊢
    rw [if_neg h]
theorem digs_yes (β : Nat) (c : UInt8) (r : List UInt8) (d : Nat) (h : digitB β c = some d) : digsN β (c :: r) = 1 + digsN β r /\ ∀ v, valN β v (c :: r) = valN β (v * β + d) r := by
  simp [digsN, valN, h]
theorem digs_no (β : Nat) (c : UInt8) (r : List UInt8) (h : digitB β c = none) : digsN β (c :: r) = 0 /\ ∀ v, valN β v (c :: r) = v := by
  simp [digsN, valN, h]
theorem digit_lt (β : Nat) (c : UInt8) (d : Nat) (h : digitB β c = some d) : d < β := by
  unfold digitB at h
  simp only at h
  split at h
  · split at h
    · rename_i hv
      cases h
      exact hv
    · simp at h
  · simp at h
theorem ne_lit (n : Nat) (k : Int) (h : (n : Int) ≠ k) : ((n : Int) == k) = false := beq_eq_false_iff_ne.2 h
theorem eq_lit (n : Nat) (k : Int) (h : (n : Int) = k) : ((n : Int) == k) = true := beq_iff_eq.2 h
def NumSt (β : Nat) (L l : List UInt8) (k v : Nat) : Prop := digsN β L = k + digsN β l /\ valN β 0 L = valN β v l
def atZ (attr : Bool) (l : List UInt8) (z : Int) : List UInt8 × Nat := if 0 <= z /\ z < l.length then atL attr (l.drop z.toNat) else ([], 0)
theorem atZ_in (attr : Bool) (l : List UInt8) (p : Nat) (h : p < l.length) : atZ attr l (p : Int) = atL attr (l.drop p) := by
  unfold atZ
  rw [if_pos (by omega), show (p : Int).toNat = p by omega]
theorem atZ_out (attr : Bool) (l : List UInt8) (z : Int) (h : z < 0 \/ (l.length : Int) <= z) : atZ attr l z = ([], 0) := by
  unfold atZ
  rw [if_neg (by omega)]
theorem at_other (attr : Bool) (s : ByteArray) (p : Nat) (h : p < s.size) (hc : (s[p]).toNat ≠ 38) : atL attr (s.data.toList.drop p) = ([], 0) := by
  rw [drop_cons s p h]
  simp only [atL]
  rw [if_neg (fun e => hc (by rw [e]; rfl))]
theorem at_amp (attr : Bool) (s : ByteArray) (p : Nat) (h : p < s.size) (hc : (s[p]).toNat = 38) : atL attr (s.data.toList.drop p) = refL attr (s.data.toList.drop (p + 1)) := by
  rw [drop_cons s p h]
  simp only [atL]
  rw [if_pos (UInt8.toNat_inj.1 hc)]
theorem drop_at (s : ByteArray) (p k : Nat) (h : p + k < s.size) : (s.data.toList.drop p)[k]? = some s[p + k] := by
  have h2 : p + k < s.data.toList.length := by rw [<- size_list]; exact h
  rw [List.getElem?_drop, List.getElem?_eq_getElem h2]
  rfl
theorem drop_at_end (s : ByteArray) (p k : Nat) (h : s.size <= p + k) : (s.data.toList.drop p)[k]? = none := by
  rw [List.getElem?_drop, List.getElem?_eq_none (by rw [<- size_list]; exact h)]
theorem drop_at2 (s : ByteArray) (p k q : Nat) (hq : p + k = q) (h : q < s.size) : (s.data.toList.drop p)[k]? = some s[q] := by
  subst hq
  exact drop_at s p k h
theorem str_of (x : ByteArray) (R : List UInt8) (h : x.data.toList = R) : x = ⟨R.toArray⟩ := by
  subst h
  cases x
  simp
theorem str_app (a b : ByteArray) (x y : List UInt8) (ha : a.data.toList = x) (hb : b.data.toList = y) : (a ++ b).data.toList = x ++ y := by
  rw [ByteArray.data_append, Array.toList_append, ha, hb]
theorem one_byte (s : ByteArray) (k : Nat) (h : k < s.size) : (s.extract k (k + 1)).data.toList = [s[k]] := by
  rw [Lib.extract_data, Nat.add_sub_cancel_left, drop_cons s k h]; rfl
theorem encode_len (r : Int) : (Lib.encodeRune r).length <= 4 := by
  unfold Lib.encodeRune
  rw [List.length_map]
  exact (Lib.encodeRuneZ_length r).2
theorem numL_len (q : List UInt8) : (numL q).1.length <= 4 := by
  unfold numL
  cases q with
  | nil => simp
  | cons c r =>
    have h : ∀ base l, (digsL base l).1.length <= 4 := by
      intro base l
      unfold digsL
      split
      · simp
      · exact encode_len _
    simp only
    split
    · split
      · simp
      · exact h 16 r
    · split
      · simp
      · exact h 10 (c :: r)
theorem refL_len (attr : Bool) (r : List UInt8) : (refL attr r).1.length <= 4 := by
  unfold refL
  split
  · split
    · simp
    · exact numL_len _
  · split
    · simp
    · split
      · simp
      · exact encode_len _
end Go.Proofs.YtfohijnkeefcfaaGreatDoor.S4
namespace Go.Proofs.YtfohijnkeefcfaaGreatDoor.S4
open Go.RowKit
theorem great_any (n : Nat) (w : World) :
    Calls Tryz.prog 70 #[.int .u8 (n : Int)] w fun e w' => e = .returned (.bool (greatN n)) /\ w' = w := by
  rcases (by omega : (n < 65) \/ (65 <= n /\ n <= 90) \/ (90 < n)) with h | h | h
  · have hv : greatN n = false := by simp [letterN, greatN, figureN]; omega
    rw [hv]
    clear hv
    have d0 : ¬ ((65 : Int) <= n) := by omega
    clear h
    go_enter Tryz.func70, Tryz.ntmps70
    go_wp2
    go_ret
    exact ⟨by first | rfl | (simp; omega), rfl⟩
  · have hv : greatN n = true := by simp [letterN, greatN, figureN]; omega
    rw [hv]
    clear hv
    have d0 : ((65 : Int) <= n) := by omega
    have d1 : ((n : Int) <= 90) := by omega
    clear h
    go_enter Tryz.func70, Tryz.ntmps70
    go_wp2
    go_ret
    exact ⟨by first | rfl | (simp; omega), rfl⟩
  · have hv : greatN n = false := by simp [letterN, greatN, figureN]; omega
    rw [hv]
    clear hv
    have d0 : ((65 : Int) <= n) := by omega
    have d1 : ¬ ((n : Int) <= 90) := by omega
    clear h
    go_enter Tryz.func70, Tryz.ntmps70
    go_wp2
    go_ret
    exact ⟨by first | rfl | (simp; omega), rfl⟩
theorem figure_any (n : Nat) (w : World) :
    Calls Tryz.prog 230 #[.int .u8 (n : Int)] w fun e w' => e = .returned (.bool (figureN n)) /\ w' = w := by
  rcases (by omega : (n < 48) \/ (48 <= n /\ n <= 57) \/ (57 < n)) with h | h | h
  · have hv : figureN n = false := by simp [letterN, greatN, figureN]; omega
    rw [hv]
    clear hv
    have d0 : ¬ ((48 : Int) <= n) := by omega
    clear h
    go_enter Tryz.func230, Tryz.ntmps230
    go_wp2
    go_ret
    exact ⟨by first | rfl | (simp; omega), rfl⟩
  · have hv : figureN n = true := by simp [letterN, greatN, figureN]; omega
    rw [hv]
    clear hv
    have d0 : ((48 : Int) <= n) := by omega
    have d1 : ((n : Int) <= 57) := by omega
    clear h
    go_enter Tryz.func230, Tryz.ntmps230
    go_wp2
    go_ret
    exact ⟨by first | rfl | (simp; omega), rfl⟩
  · have hv : figureN n = false := by simp [letterN, greatN, figureN]; omega
    rw [hv]
    clear hv
    have d0 : ((48 : Int) <= n) := by omega
    have d1 : ¬ ((n : Int) <= 57) := by omega
    clear h
    go_enter Tryz.func230, Tryz.ntmps230
    go_wp2
    go_ret
    exact ⟨by first | rfl | (simp; omega), rfl⟩
theorem letter_any (n : Nat) (w : World) :
    Calls Tryz.prog 98 #[.int .u8 (n : Int)] w fun e w' => e = .returned (.bool (letterN n)) /\ w' = w := by
  rcases (by omega : (n < 65) \/ (65 <= n /\ n <= 90) \/ (90 < n /\ n < 97) \/ (97 <= n /\ n <= 122) \/ (122 < n)) with h | h | h | h | h
  · have hv : letterN n = false := by simp [letterN, greatN, figureN]; omega
    rw [hv]
    clear hv
    have d0 : ¬ ((97 : Int) <= n) := by omega
    have hg : greatN n = false := by simp [greatN]; omega
    have H := hide (great_any n)
    rw [hg] at H
    clear hg
    clear h
    go_enter Tryz.func98, Tryz.ntmps98
    go_wp2_with fail
    refine (H.out _).mono ?_
    rintro e w1 ⟨rfl, rfl⟩
    go_wp2
    go_ret
    exact ⟨by first | rfl | (simp; omega), rfl⟩
  · have hv : letterN n = true := by simp [letterN, greatN, figureN]; omega
    rw [hv]
    clear hv
    have hg : greatN n = true := by simp [greatN]; omega
    have H := hide (great_any n)
    rw [hg] at H
    clear hg
    clear h
    go_enter Tryz.func98, Tryz.ntmps98
    go_wp2_with fail
    refine (H.out _).mono ?_
    rintro e w1 ⟨rfl, rfl⟩
    go_wp2
    go_ret
    exact ⟨by first | rfl | (simp; omega), rfl⟩
  · have hv : letterN n = false := by simp [letterN, greatN, figureN]; omega
    rw [hv]
    clear hv
    have d0 : ¬ ((97 : Int) <= n) := by omega
    have hg : greatN n = false := by simp [greatN]; omega
    have H := hide (great_any n)
    rw [hg] at H
    clear hg
    clear h
    go_enter Tryz.func98, Tryz.ntmps98
    go_wp2_with fail
    refine (H.out _).mono ?_
    rintro e w1 ⟨rfl, rfl⟩
    go_wp2
    go_ret
    exact ⟨by first | rfl | (simp; omega), rfl⟩
  · have hv : letterN n = true := by simp [letterN, greatN, figureN]; omega
    rw [hv]
    clear hv
    have d0 : ((97 : Int) <= n) := by omega
    have d1 : ((n : Int) <= 122) := by omega
    have hg : greatN n = false := by simp [greatN]; omega
    have H := hide (great_any n)
    rw [hg] at H
    clear hg
    clear h
    go_enter Tryz.func98, Tryz.ntmps98
    go_wp2_with fail
    refine (H.out _).mono ?_
    rintro e w1 ⟨rfl, rfl⟩
    go_wp2
    go_ret
    exact ⟨by first | rfl | (simp; omega), rfl⟩
  · have hv : letterN n = false := by simp [letterN, greatN, figureN]; omega
    rw [hv]
    clear hv
    have d0 : ((97 : Int) <= n) := by omega
    have d1 : ¬ ((n : Int) <= 122) := by omega
    have hg : greatN n = false := by simp [greatN]; omega
    have H := hide (great_any n)
    rw [hg] at H
    clear hg
    clear h
    go_enter Tryz.func98, Tryz.ntmps98
    go_wp2_with fail
    refine (H.out _).mono ?_
    rintro e w1 ⟨rfl, rfl⟩
    go_wp2
    go_ret
    exact ⟨by first | rfl | (simp; omega), rfl⟩
def goesN (n : Nat) : Bool := n == 61 || letterN n || figureN n
theorem goes_any (n : Nat) (w : World) :
    Calls Tryz.prog 190 #[.int .u8 (n : Int)] w fun e w' => e = .returned (.bool (goesN n)) /\ w' = w := by
  have HL := hide (letter_any n)
  have HF := hide (figure_any n)
  by_cases h : n = 61
  · subst h
    go_enter Tryz.func190, Tryz.ntmps190
    go_wp2
    go_ret
    exact ⟨rfl, rfl⟩
  · have e1 := ne_lit n 61 (by omega)
    have hv : goesN n = (letterN n || figureN n) := by unfold goesN; rw [show (n == 61) = false from beq_eq_false_iff_ne.2 h, Bool.false_or]
    rw [hv]
    generalize letterN n = B at *
    generalize figureN n = C at *
    clear h hv
    cases B
    · go_enter Tryz.func190, Tryz.ntmps190
      go_wp2_with fail
      refine (HL.out _).mono ?_
      rintro e w1 ⟨rfl, rfl⟩
      go_wp2_with fail
      refine (HF.out _).mono ?_
      rintro e w1 ⟨rfl, rfl⟩
      go_wp2
      go_ret
      exact ⟨rfl, rfl⟩
    · go_enter Tryz.func190, Tryz.ntmps190
      go_wp2_with fail
      refine (HL.out _).mono ?_
      rintro e w1 ⟨rfl, rfl⟩
      go_wp2
      go_ret
      exact ⟨rfl, rfl⟩
def digitP (n : Nat) : Int := if 48 <= n /\ n <= 57 then (n : Int) - 48 else if 97 <= n /\ n <= 102 then (n : Int) - 97 + 10 else if 65 <= n /\ n <= 70 then (n : Int) - 65 + 10 else 16
theorem digitP_some (β : Nat) (c : UInt8) (d : Nat) (h : digitB β c = some d) : digitP c.toNat = d := by
  unfold digitB at h
  unfold digitP
  simp only at h
  by_cases h1 : 48 <= c.toNat /\ c.toNat <= 57
  · have hf : figureN c.toNat = true := by simp [figureN, h1]
    rw [hf, if_pos rfl] at h
    rw [if_pos h1]
    simp only at h
    split at h
    · cases h; omega
    · simp at h
  · have hf : figureN c.toNat = false := by simp [figureN]; omega
    rw [hf] at h
    simp only [Bool.false_eq_true, if_false] at h
    rw [if_neg h1]
    by_cases h2 : 97 <= c.toNat /\ c.toNat <= 102
    · rw [if_pos h2] at h
      rw [if_pos h2]
      simp only at h
      split at h
      · cases h; omega
      · simp at h
    · rw [if_neg h2] at h
      rw [if_neg h2]
      by_cases h3 : 65 <= c.toNat /\ c.toNat <= 70
      · rw [if_pos h3] at h
        rw [if_pos h3]
        simp only at h
        split at h
        · cases h; omega
        · simp at h
      · rw [if_neg h3] at h
        simp at h
theorem digitP_none (β : Nat) (hβ : β <= 16) (c : UInt8) (h : digitB β c = none) : (β : Int) <= digitP c.toNat := by
  unfold digitB at h
  unfold digitP
  simp only at h
  by_cases h1 : 48 <= c.toNat /\ c.toNat <= 57
  · have hf : figureN c.toNat = true := by simp [figureN, h1]
    rw [hf, if_pos rfl] at h
    rw [if_pos h1]
    simp only at h
    split at h
    · simp at h
    · omega
  · have hf : figureN c.toNat = false := by simp [figureN]; omega
    rw [hf] at h
    simp only [Bool.false_eq_true, if_false] at h
    rw [if_neg h1]
    by_cases h2 : 97 <= c.toNat /\ c.toNat <= 102
    · rw [if_pos h2] at h
      rw [if_pos h2]
      simp only at h
      split at h
      · simp at h
      · omega
    · rw [if_neg h2] at h
      rw [if_neg h2]
      by_cases h3 : 65 <= c.toNat /\ c.toNat <= 70
      · rw [if_pos h3] at h
        rw [if_pos h3]
        simp only at h
        split at h
        · simp at h
        · omega
      · rw [if_neg h3]
        omega
theorem digit_any (n : Nat) (w : World) :
    Calls Tryz.prog 187 #[.int .u8 (n : Int)] w fun e w' => e = .returned (.int .i64 (digitP n)) /\ w' = w := by
  have HF := hide (figure_any n)
  rcases (by omega : (48 <= n /\ n <= 57) \/ (97 <= n /\ n <= 102) \/ (65 <= n /\ n <= 70) \/ (n < 48) \/ (57 < n /\ n < 65) \/ (70 < n /\ n < 97) \/ (102 < n)) with h | h | h | h | h | h | h
  · have hv : digitP n = (n : Int) - 48 := by unfold digitP; (repeat' split) <;> omega
    have hf : figureN n = true := by simp [figureN]; omega
    rw [hv]
    rw [hf] at HF
    clear hv hf
    have d0 : (48 : Int) <= n := by omega
    have d1 : (n : Int) <= 57 := by omega
    clear h
    go_enter Tryz.func187, Tryz.ntmps187
    go_wp2_with fail
    refine (HF.out _).mono ?_
    rintro e w1 ⟨rfl, rfl⟩
    go_wp2
    go_ret
    exact ⟨rfl, rfl⟩
  · have hv : digitP n = (n : Int) - 97 + 10 := by unfold digitP; (repeat' split) <;> omega
    have hf : figureN n = false := by simp [figureN]; omega
    rw [hv]
    rw [hf] at HF
    clear hv hf
    have d0 : (97 : Int) <= n := by omega
    have d1 : (n : Int) <= 102 := by omega
    clear h
    go_enter Tryz.func187, Tryz.ntmps187
    go_wp2_with fail
    refine (HF.out _).mono ?_
    rintro e w1 ⟨rfl, rfl⟩
    go_wp2
    go_ret
    exact ⟨rfl, rfl⟩
  · have hv : digitP n = (n : Int) - 65 + 10 := by unfold digitP; (repeat' split) <;> omega
    have hf : figureN n = false := by simp [figureN]; omega
    rw [hv]
    rw [hf] at HF
    clear hv hf
    have d0 : ¬ (97 : Int) <= n := by omega
    have d1 : (65 : Int) <= n := by omega
    have d2 : (n : Int) <= 70 := by omega
    clear h
    go_enter Tryz.func187, Tryz.ntmps187
    go_wp2_with fail
    refine (HF.out _).mono ?_
    rintro e w1 ⟨rfl, rfl⟩
    go_wp2
    go_ret
    exact ⟨rfl, rfl⟩
  · have hv : digitP n = 16 := by unfold digitP; (repeat' split) <;> omega
    have hf : figureN n = false := by simp [figureN]; omega
    rw [hv]
    rw [hf] at HF
    clear hv hf
    have d0 : ¬ (97 : Int) <= n := by omega
    have d1 : ¬ (65 : Int) <= n := by omega
    clear h
    go_enter Tryz.func187, Tryz.ntmps187
    go_wp2_with fail
    refine (HF.out _).mono ?_
    rintro e w1 ⟨rfl, rfl⟩
    go_wp2
    go_ret
    exact ⟨rfl, rfl⟩
  · have hv : digitP n = 16 := by unfold digitP; (repeat' split) <;> omega
    have hf : figureN n = false := by simp [figureN]; omega
    rw [hv]
    rw [hf] at HF
    clear hv hf
    have d0 : ¬ (97 : Int) <= n := by omega
    have d1 : ¬ (65 : Int) <= n := by omega
    clear h
    go_enter Tryz.func187, Tryz.ntmps187
    go_wp2_with fail
    refine (HF.out _).mono ?_
    rintro e w1 ⟨rfl, rfl⟩
    go_wp2
    go_ret
    exact ⟨rfl, rfl⟩
  · have hv : digitP n = 16 := by unfold digitP; (repeat' split) <;> omega
    have hf : figureN n = false := by simp [figureN]; omega
    rw [hv]
    rw [hf] at HF
    clear hv hf
    have d0 : ¬ (97 : Int) <= n := by omega
    have d1 : (65 : Int) <= n := by omega
    have d2 : ¬ (n : Int) <= 70 := by omega
    clear h
    go_enter Tryz.func187, Tryz.ntmps187
    go_wp2_with fail
    refine (HF.out _).mono ?_
    rintro e w1 ⟨rfl, rfl⟩
    go_wp2
    go_ret
    exact ⟨rfl, rfl⟩
  · have hv : digitP n = 16 := by unfold digitP; (repeat' split) <;> omega
    have hf : figureN n = false := by simp [figureN]; omega
    rw [hv]
    rw [hf] at HF
    clear hv hf
    have d0 : (97 : Int) <= n := by omega
    have d1 : ¬ (n : Int) <= 102 := by omega
    have d2 : (65 : Int) <= n := by omega
    have d3 : ¬ (n : Int) <= 70 := by omega
    clear h
    go_enter Tryz.func187, Tryz.ntmps187
    go_wp2_with fail
    refine (HF.out _).mono ?_
    rintro e w1 ⟨rfl, rfl⟩
    go_wp2
    go_ret
    exact ⟨rfl, rfl⟩
end Go.Proofs.YtfohijnkeefcfaaGreatDoor.S4
namespace Go.Proofs.YtfohijnkeefcfaaGreatDoor.S4
theorem loopT_enough : ∀ (k j : Nat) (aa : List (List UInt8 × List UInt8)) (r : List UInt8), r.length < k -> r.length < j -> loopT k aa r = loopT j aa r := by
  intro k
  induction k with
  | zero => intro j aa r h; omega
  | succ k ih =>
    intro j aa r h1 h2
    cases j with
    | zero => omega
    | succ j =>
      have h0 := dw_le passB r
      simp only [loopT]
      cases hd : r.dropWhile passB with
      | nil => rfl
      | cons c r2 =>
        rw [hd] at h0
        simp only [List.length_cons] at h0
        simp only
        split
        · rfl
        · have h3 := dw_le isSp (r2.dropWhile attrB)
          have h4 := dw_le attrB r2
          cases hr : (r2.dropWhile attrB).dropWhile isSp with
          | nil => exact ih j _ _ (by simp; omega) (by simp; omega)
          | cons d r4 =>
            rw [hr] at h3
            simp only [List.length_cons] at h3
            simp only
            have h5 := valueL_le (r4.dropWhile isSp)
            have h6 := dw_le isSp r4
            split
            · exact ih j _ _ (by omega) (by omega)
            · exact ih j _ _ (by simp; omega) (by simp; omega)
def tailT (aa : List (List UInt8 × List UInt8)) (r : List UInt8) : Option (List (List UInt8 × List UInt8) × Bool × List UInt8) := loopT (r.length + 1) aa r
theorem tail_none (aa : List (List UInt8 × List UInt8)) (r : List UInt8) (h : r.dropWhile passB = []) : tailT aa r = none := by
  unfold tailT
  simp only [loopT]
  rw [h]
theorem tail_end (aa : List (List UInt8 × List UInt8)) (r r2 : List UInt8) (h : r.dropWhile passB = 62 :: r2) : tailT aa r = some (aa, strokeB r, r2) := by
  unfold tailT
  simp only [loopT]
  rw [h]
  rfl
theorem tail_plain (aa : List (List UInt8 × List UInt8)) (r : List UInt8) (c : UInt8) (r2 : List UInt8) (h : r.dropWhile passB = c :: r2) (hc : c ≠ 62) (hq : ¬ ((r2.dropWhile attrB).dropWhile isSp).head? = some 61) :
    tailT aa r = tailT (addA aa (lowerL (c :: r2.takeWhile attrB), [])) ((r2.dropWhile attrB).dropWhile isSp) := by
  have h0 := dw_le passB r
  have h3 := dw_le isSp (r2.dropWhile attrB)
  have h4 := dw_le attrB r2
  rw [h] at h0
  simp only [List.length_cons] at h0
  unfold tailT
  conv => lhs; simp only [loopT]
  rw [h]
  simp only
  rw [if_neg hc]
  cases hr : (r2.dropWhile attrB).dropWhile isSp with
  | nil => exact loopT_enough _ _ _ _ (by simp; omega) (by simp)
  | cons d r4 =>
    rw [hr] at h3 hq
    simp only [List.head?_cons, Option.some.injEq] at hq
    simp only [List.length_cons] at h3
    simp only
    rw [if_neg hq]
    exact loopT_enough _ _ _ _ (by simp; omega) (by simp)
theorem tail_value (aa : List (List UInt8 × List UInt8)) (r : List UInt8) (c : UInt8) (r2 r4 : List UInt8) (h : r.dropWhile passB = c :: r2) (hc : c ≠ 62) (hq : (r2.dropWhile attrB).dropWhile isSp = 61 :: r4) :
    tailT aa r = tailT (addA aa (lowerL (c :: r2.takeWhile attrB), (valueL (r4.dropWhile isSp)).1)) (valueL (r4.dropWhile isSp)).2 := by
  have h0 := dw_le passB r
  have h3 := dw_le isSp (r2.dropWhile attrB)
  have h4 := dw_le attrB r2
  have h5 := valueL_le (r4.dropWhile isSp)
  have h6 := dw_le isSp r4
  rw [h] at h0
  rw [hq] at h3
  simp only [List.length_cons] at h0 h3
  unfold tailT
  conv => lhs; simp only [loopT]
  rw [h]
  simp only
  rw [if_neg hc, hq]
  simp only [if_true]
  exact loopT_enough _ _ _ _ (by omega) (by omega)
theorem tagL_tail (r : List UInt8) : tagL r = (tailT [] (r.dropWhile nameB)).map fun x => ({ kind := 2, name := lowerL (r.takeWhile nameB), attrs := x.1, closed := x.2.1 }, x.2.2) := by
  unfold tagL tailT
  rw [loopT_enough (r.length + 1) ((r.dropWhile nameB).length + 1) [] _ (by have := dw_le nameB r; omega) (by omega)]
theorem drop_back (s : ByteArray) (k : Nat) (hk : k <= s.size) (a V : List UInt8) (h : a ++ V = s.data.toList.drop k) : s.data.toList.drop (s.size - V.length) = V /\ k <= s.size - V.length /\ s.size - V.length <= s.size /\ V.length <= s.size := by
  have hl := congrArg List.length h
  rw [List.length_append, List.length_drop, <- size_list] at hl
  refine ⟨?_, by omega, by omega, by omega⟩
  rw [show s.size - V.length = k + a.length by omega, <- List.drop_drop, <- h, List.drop_left]
theorem valueL_suf (r : List UInt8) : ∃ a, a ++ (valueL r).2 = r := by
  unfold valueL
  cases r with
  | nil => exact ⟨[], rfl⟩
  | cons c q =>
    simp only
    split
    · exact ⟨[], rfl⟩
    · split
      · refine ⟨c :: (findR [c] q).1 ++ (findR [c] q).2.take 1, ?_⟩
        rw [List.append_assoc, List.take_append_drop, List.cons_append, findR_app]
      · exact ⟨_, List.takeWhile_append_dropWhile⟩
end Go.Proofs.YtfohijnkeefcfaaGreatDoor.S4
namespace Go.Proofs.YtfohijnkeefcfaaGreatDoor.S4
theorem dataK_enough (f : Bool) : ∀ (k j : Nat) (r : List UInt8), r.length <= k -> r.length <= j -> dataK f k r = dataK f j r := by
  intro k
  induction k with
  | zero =>
    intro j r h1 h2
    obtain rfl : r = [] := List.eq_nil_of_length_eq_zero (by omega)
    cases j <;> simp [dataK]
  | succ k ih =>
    intro j r h1 h2
    cases j with
    | zero =>
      obtain rfl : r = [] := List.eq_nil_of_length_eq_zero (by omega)
      simp [dataK]
    | succ j =>
      by_cases h0 : r = []
      · simp [dataK, h0]
      · have hl : 1 <= r.length := by
          cases r with
          | nil => exact absurd rfl h0
          | cons c q => simp
        have hf := findR_le [93, 93, 62] (r.drop 9)
        rw [List.length_drop] at hf
        have e1 := ih j (r.drop 3) (by rw [List.length_drop]; omega) (by rw [List.length_drop]; omega)
        have e2 := ih j ((findR [93, 93, 62] (r.drop 9)).2.drop 3) (by rw [List.length_drop]; omega) (by rw [List.length_drop]; omega)
        simp only [dataK, e1, e2]
def dataS (f : Bool) (r : List UInt8) : Tok × List UInt8 :=
  if beginsB r = false then ({ kind := 1, text := decL false (spanT r).1 }, (spanT r).2)
  else if [60, 47, 62].isPrefixOf r then dataL f (r.drop 3)
  else if [60, 47].isPrefixOf r then (if letterN (r.getD 2 0).toNat then endedL (r.drop 2) true else otherL (r.drop 2))
  else if [60, 33, 45, 45].isPrefixOf r then commentL (r.drop 4)
  else if f && cdataM.isPrefixOf r then (if (findR [93, 93, 62] (r.drop 9)).1 = [] then dataL f ((findR [93, 93, 62] (r.drop 9)).2.drop 3) else ({ kind := 1, text := (findR [93, 93, 62] (r.drop 9)).1 }, (findR [93, 93, 62] (r.drop 9)).2.drop 3))
  else if [60, 33].isPrefixOf r then (if 9 <= r.length /\ lowerL ((r.drop 2).take 7) = doctypeM then ({ kind := 5 }, (otherL (r.drop 9)).2) else otherL (r.drop 2))
  else if [60, 63].isPrefixOf r then otherL (r.drop 1)
  else endedL (r.drop 1) false
theorem dataL_step (f : Bool) (r : List UInt8) (h0 : r ≠ []) : dataL f r = dataS f r := by
  have hl : 1 <= r.length := by
    cases r with
    | nil => exact absurd rfl h0
    | cons c q => simp
  have hf := findR_le [93, 93, 62] (r.drop 9)
  rw [List.length_drop] at hf
  unfold dataL dataS
  obtain ⟨n, hn⟩ : ∃ n, r.length = n + 1 := ⟨r.length - 1, by omega⟩
  rw [hn]
  have e1 := dataK_enough f n (r.drop 3).length (r.drop 3) (by rw [List.length_drop]; omega) (Nat.le_refl _)
  have e2 := dataK_enough f n ((findR [93, 93, 62] (r.drop 9)).2.drop 3).length ((findR [93, 93, 62] (r.drop 9)).2.drop 3) (by rw [List.length_drop]; omega) (Nat.le_refl _)
  simp only [dataK, e1, e2, if_neg h0]
  unfold dataL
  rw [<- hn]
theorem data_text (f : Bool) (r : List UInt8) (h : r ≠ []) (h0 : beginsB r = false) : dataL f r = ({ kind := 1, text := decL false (spanT r).1 }, (spanT r).2) := by
  rw [dataL_step f r h]; unfold dataS; rw [if_pos h0]
theorem data_skip (f : Bool) (r : List UInt8) (h : r ≠ []) (h0 : beginsB r = true) (h1 : [60, 47, 62].isPrefixOf r = true) : dataL f r = dataL f (r.drop 3) := by
  rw [dataL_step f r h]; unfold dataS; rw [if_neg (by rw [h0]; decide), if_pos h1]
theorem data_end (f : Bool) (r : List UInt8) (h : r ≠ []) (h0 : beginsB r = true) (h1 : [60, 47, 62].isPrefixOf r = false) (h2 : [60, 47].isPrefixOf r = true) : dataL f r = if letterN (r.getD 2 0).toNat then endedL (r.drop 2) true else otherL (r.drop 2) := by
  rw [dataL_step f r h]; unfold dataS; rw [if_neg (by rw [h0]; decide), if_neg (by rw [h1]; decide), if_pos h2]
theorem data_comment (f : Bool) (r : List UInt8) (h : r ≠ []) (h0 : beginsB r = true) (h1 : [60, 47, 62].isPrefixOf r = false) (h2 : [60, 47].isPrefixOf r = false) (h3 : [60, 33, 45, 45].isPrefixOf r = true) : dataL f r = commentL (r.drop 4) := by
  rw [dataL_step f r h]; unfold dataS; rw [if_neg (by rw [h0]; decide), if_neg (by rw [h1]; decide), if_neg (by rw [h2]; decide), if_pos h3]
theorem data_cdata (r : List UInt8) (h : r ≠ []) (h0 : beginsB r = true) (h1 : [60, 47, 62].isPrefixOf r = false) (h2 : [60, 47].isPrefixOf r = false) (h3 : [60, 33, 45, 45].isPrefixOf r = false) (h4 : cdataM.isPrefixOf r = true) : dataL true r = if (findR [93, 93, 62] (r.drop 9)).1 = [] then dataL true ((findR [93, 93, 62] (r.drop 9)).2.drop 3) else ({ kind := 1, text := (findR [93, 93, 62] (r.drop 9)).1 }, (findR [93, 93, 62] (r.drop 9)).2.drop 3) := by
  rw [dataL_step true r h]; unfold dataS; rw [if_neg (by rw [h0]; decide), if_neg (by rw [h1]; decide), if_neg (by rw [h2]; decide), if_neg (by rw [h3]; decide), if_pos (by rw [h4]; rfl)]
theorem data_bang (f : Bool) (r : List UInt8) (h : r ≠ []) (h0 : beginsB r = true) (h1 : [60, 47, 62].isPrefixOf r = false) (h2 : [60, 47].isPrefixOf r = false) (h3 : [60, 33, 45, 45].isPrefixOf r = false) (h4 : (f && cdataM.isPrefixOf r) = false) (h5 : [60, 33].isPrefixOf r = true) : dataL f r = if 9 <= r.length /\ lowerL ((r.drop 2).take 7) = doctypeM then ({ kind := 5 }, (otherL (r.drop 9)).2) else otherL (r.drop 2) := by
  rw [dataL_step f r h]; unfold dataS; rw [if_neg (by rw [h0]; decide), if_neg (by rw [h1]; decide), if_neg (by rw [h2]; decide), if_neg (by rw [h3]; decide), if_neg (by rw [h4]; decide), if_pos h5]
theorem data_ask (f : Bool) (r : List UInt8) (h : r ≠ []) (h0 : beginsB r = true) (h1 : [60, 47, 62].isPrefixOf r = false) (h2 : [60, 47].isPrefixOf r = false) (h3 : [60, 33, 45, 45].isPrefixOf r = false) (h4 : (f && cdataM.isPrefixOf r) = false) (h5 : [60, 33].isPrefixOf r = false) (h6 : [60, 63].isPrefixOf r = true) : dataL f r = otherL (r.drop 1) := by
  rw [dataL_step f r h]; unfold dataS; rw [if_neg (by rw [h0]; decide), if_neg (by rw [h1]; decide), if_neg (by rw [h2]; decide), if_neg (by rw [h3]; decide), if_neg (by rw [h4]; decide), if_neg (by rw [h5]; decide), if_pos h6]
theorem data_tag (f : Bool) (r : List UInt8) (h : r ≠ []) (h0 : beginsB r = true) (h1 : [60, 47, 62].isPrefixOf r = false) (h2 : [60, 47].isPrefixOf r = false) (h3 : [60, 33, 45, 45].isPrefixOf r = false) (h4 : (f && cdataM.isPrefixOf r) = false) (h5 : [60, 33].isPrefixOf r = false) (h6 : [60, 63].isPrefixOf r = false) : dataL f r = endedL (r.drop 1) false := by
  rw [dataL_step f r h]; unfold dataS; rw [if_neg (by rw [h0]; decide), if_neg (by rw [h1]; decide), if_neg (by rw [h2]; decide), if_neg (by rw [h3]; decide), if_neg (by rw [h4]; decide), if_neg (by rw [h5]; decide), if_neg (by rw [h6]; decide)]
end Go.Proofs.YtfohijnkeefcfaaGreatDoor.S4
namespace Go.Proofs.YtfohijnkeefcfaaGreatDoor.S4
theorem valueL_sfx (r : List UInt8) : (valueL r).2 <:+ r := by
  obtain ⟨a, h⟩ := valueL_suf r
  exact ⟨a, h⟩
theorem findR_sfx (t r : List UInt8) : (findR t r).2 <:+ r := ⟨_, findR_app t r⟩
theorem loopT_sfx (k : Nat) : ∀ aa r x, loopT k aa r = some x -> x.2.2 <:+ r := by
  induction k with
  | zero => intro aa r x h; simp [loopT] at h
  | succ k ih =>
    intro aa r x h
    simp only [loopT] at h
    have h0 : r.dropWhile passB <:+ r := List.dropWhile_suffix _
    cases hd : r.dropWhile passB with
    | nil => rw [hd] at h; simp at h
    | cons c r2 =>
      rw [hd] at h h0
      have h1 : r2 <:+ r := (List.suffix_cons c r2).trans h0
      simp only at h
      split at h
      · cases h
        exact h1
      · have h2 : (r2.dropWhile attrB).dropWhile isSp <:+ r := ((List.dropWhile_suffix _).trans (List.dropWhile_suffix _)).trans h1
        cases hr : (r2.dropWhile attrB).dropWhile isSp with
        | nil =>
          rw [hr] at h
          exact (ih _ _ _ h).trans (List.nil_suffix)
        | cons d r4 =>
          rw [hr] at h h2
          simp only at h
          split at h
          · exact (ih _ _ _ h).trans (((valueL_sfx _).trans (List.dropWhile_suffix _)).trans ((List.suffix_cons d r4).trans h2))
          · exact (ih _ _ _ h).trans h2
theorem endedL_sfx (r : List UInt8) (stop : Bool) : (endedL r stop).2 <:+ r := by
  unfold endedL
  cases h : tagL r with
  | none => exact List.nil_suffix
  | some x =>
    obtain ⟨t, q⟩ := x
    have hq : q <:+ r := by
      unfold tagL at h
      cases hl : loopT (r.length + 1) [] (r.dropWhile nameB) with
      | none => rw [hl] at h; simp at h
      | some y =>
        rw [hl] at h
        simp only [Option.map_some, Option.some.injEq, Prod.mk.injEq] at h
        rw [<- h.2]
        exact (loopT_sfx _ _ _ _ hl).trans (List.dropWhile_suffix _)
    simp only
    split <;> exact hq
theorem otherL_sfx (r : List UInt8) : (otherL r).2 <:+ r := (List.drop_suffix _ _).trans (findR_sfx _ _)
theorem findC_sfx : ∀ r x, findC r = some x -> x.2 <:+ r
  | [], x, h => by simp [findC] at h
  | c :: r, x, h => by
    simp only [findC] at h
    split at h
    · cases h; exact List.drop_suffix _ _
    · split at h
      · cases h; exact List.drop_suffix _ _
      · cases hf : findC r with
        | none => rw [hf] at h; simp at h
        | some y =>
          rw [hf] at h
          simp only [Option.map_some, Option.some.injEq] at h
          subst h
          exact (findC_sfx r y hf).trans (List.suffix_cons c r)
theorem commentL_sfx (r : List UInt8) : (commentL r).2 <:+ r := by
  unfold commentL
  split
  · exact List.drop_suffix _ _
  · split
    · exact List.drop_suffix _ _
    · split
      · rename_i a b h
        exact findC_sfx r _ h
      · exact List.nil_suffix
theorem dataK_sfx (f : Bool) (k : Nat) : ∀ r, (dataK f k r).2 <:+ r := by
  induction k with
  | zero => intro r; exact List.nil_suffix
  | succ k ih =>
    intro r
    simp only [dataK]
    split
    · exact List.nil_suffix
    · split
      · exact ⟨_, spanT_app r⟩
      · split
        · exact (ih _).trans (List.drop_suffix _ _)
        · split
          · split
            · exact (endedL_sfx _ _).trans (List.drop_suffix _ _)
            · exact (otherL_sfx _).trans (List.drop_suffix _ _)
          · split
            · exact (commentL_sfx _).trans (List.drop_suffix _ _)
            · split
              · split
                · exact (ih _).trans ((List.drop_suffix _ _).trans ((findR_sfx _ _).trans (List.drop_suffix _ _)))
                · exact (List.drop_suffix _ _).trans ((findR_sfx _ _).trans (List.drop_suffix _ _))
              · split
                · split
                  · exact (otherL_sfx _).trans (List.drop_suffix _ _)
                  · exact (otherL_sfx _).trans (List.drop_suffix _ _)
                · split
                  · exact (otherL_sfx _).trans (List.drop_suffix _ _)
                  · exact (endedL_sfx _ _).trans (List.drop_suffix _ _)
theorem nextR_sfx (mode : Int) (n : List UInt8) (f : Bool) (r : List UInt8) : (nextR mode n f r).2 <:+ r := by
  unfold nextR
  split
  · exact List.nil_suffix
  · split
    · exact List.nil_suffix
    · split
      · exact dataK_sfx f _ r
      · split
        · exact (endedL_sfx _ _).trans (List.drop_suffix _ _)
        · exact ⟨_, spanS_app n r⟩
theorem nextR_back (mode : Int) (n : List UInt8) (f : Bool) (s : ByteArray) (k : Nat) (hk : k <= s.size) : s.data.toList.drop (s.size - (nextR mode n f (s.data.toList.drop k)).2.length) = (nextR mode n f (s.data.toList.drop k)).2 /\ s.size - (nextR mode n f (s.data.toList.drop k)).2.length <= s.size := by
  obtain ⟨a, h⟩ := nextR_sfx mode n f (s.data.toList.drop k)
  have := drop_back s k hk a _ h
  exact ⟨this.1, this.2.2.1⟩
theorem nextR_nil (mode : Int) (n : List UInt8) (f : Bool) : nextR mode n f [] = ({ kind := 0 }, []) := by
  unfold nextR; rw [if_pos rfl]
end Go.Proofs.YtfohijnkeefcfaaGreatDoor.S4
namespace Go.Proofs.YtfohijnkeefcfaaGreatDoor.S4
open Go.RowKit
def tokV (t : Tok) (sv : Value) : Value := .agg #[.int .i64 (t.kind : Int), .string ⟨t.name.toArray⟩, sv, .bool t.closed, .string ⟨t.text.toArray⟩]
theorem wpList_append_run {P : Program} {ops : Array Oper} {rest : List Oper} {o : Oper} {a : Act} {Q : Exit -> Act -> World -> Prop} {w : World} (hgd : o.guard = none) (s x : Operand) (t : TypeId)
    (ho : o.op = .call { callee := .builtin .append, args := #[s, x], argTypes := #[t, t] }) (v1 v2 v' : Value) (w' : World) (hs : a.eval s = v1) (hx : a.eval x = v2)
    (hr : (Builtin.append_ #[t, t] o.type #[v1, v2]).run P w = .ok v' w') (h : wpList P ops Q rest (a.put o.dst v') w') : wpList P ops Q (o :: rest) a w :=
  wpList_plain hgd fun _ hK => by
    unfold Oper.wp execOp
    simp only [ho, resolve, invoke, builtin, Sem.run_bind, Sem.run_pure, Result.andThen_ok, List.map_toArray, List.map_cons, List.map_nil, hs, hx, hr]
    exact hK _ _ h
theorem spanT_step (s : ByteArray) (k : Nat) (h : k < s.size) : (spanT (s.data.toList.drop k)).2 = if beginsB (s.data.toList.drop k) then s.data.toList.drop k else (spanT (s.data.toList.drop (k + 1))).2 := by
  rw [drop_cons s k h]
  simp only [spanT]
  split <;> rfl
def PreC (L l : List UInt8) (k : Nat) : Prop := findC L = (findC l).map fun x => (L.take k ++ x.1, x.2)
theorem preC_start (L : List UInt8) : PreC L L 0 := by
  unfold PreC
  cases findC L <;> simp
theorem preC_step (L : List UInt8) (k : Nat) (c : UInt8) (r : List UInt8) (hk : L.drop k = c :: r) (h1 : [45, 45, 62].isPrefixOf (c :: r) = false) (h2 : [45, 45, 33, 62].isPrefixOf (c :: r) = false) (h : PreC L (L.drop k) k) : PreC L r (k + 1) := by
  unfold PreC at *
  rw [h, hk]
  simp only [findC, h1, h2, Bool.false_eq_true, if_false]
  have e : L.take (k + 1) = L.take k ++ [c] := by
    have hlt : k < L.length := by
      have := congrArg List.length hk
      rw [List.length_drop, List.length_cons] at this
      omega
    rw [List.take_succ_eq_append_getElem hlt]
    have := List.drop_eq_getElem_cons hlt
    rw [hk] at this
    rw [(List.cons.inj this).1]
  rw [e]
  cases findC r <;> simp
theorem preC_3 (L : List UInt8) (k : Nat) (h1 : [45, 45, 62].isPrefixOf (L.drop k) = true) (h : PreC L (L.drop k) k) : findC L = some (L.take k, L.drop (k + 3)) := by
  unfold PreC at h
  cases hk : L.drop k with
  | nil => rw [hk] at h1; simp [List.isPrefixOf] at h1
  | cons c r =>
    rw [hk] at h1 h
    rw [h]
    simp only [findC, h1, if_true, Option.map_some, List.append_nil]
    rw [<- hk, List.drop_drop]
theorem preC_4 (L : List UInt8) (k : Nat) (h0 : [45, 45, 62].isPrefixOf (L.drop k) = false) (h1 : [45, 45, 33, 62].isPrefixOf (L.drop k) = true) (h : PreC L (L.drop k) k) : findC L = some (L.take k, L.drop (k + 4)) := by
  unfold PreC at h
  cases hk : L.drop k with
  | nil => rw [hk] at h1; simp [List.isPrefixOf] at h1
  | cons c r =>
    rw [hk] at h1 h h0
    rw [h]
    simp only [findC, h0, h1, if_true, Bool.false_eq_true, if_false, Option.map_some, List.append_nil]
    rw [<- hk, List.drop_drop]
theorem preC_end (L : List UInt8) (k : Nat) (h : PreC L [] k) : findC L = none := by
  unfold PreC at h
  rw [h]
  rfl
def restC (r : List UInt8) : List UInt8 × List UInt8 :=
  match findC r with
  | some x => x
  | none => (trimC r, [])
theorem below_set5b {w w2 : World} (h : Below w.heap.size w w2) (v0 v1 v2 v3 v4 : Value) : Below w.heap.size w (((((w2.setCell ⟨w.heap.size, 0, none⟩ v0).setCell ⟨w.heap.size, 1, none⟩ v1).setCell ⟨w.heap.size, 2, none⟩ v2).setCell ⟨w.heap.size, 3, none⟩ v3).setCell ⟨w.heap.size, 4, none⟩ v4) :=
  ((((h.setCell (Nat.le_refl _) _).setCell (Nat.le_refl _) _).setCell (Nat.le_refl _) _).setCell (Nat.le_refl _) _).setCell (Nat.le_refl _) _
theorem restC_some (r : List UInt8) (x : List UInt8 × List UInt8) (h : findC r = some x) : restC r = x := by
  unfold restC; rw [h]
theorem restC_none (r : List UInt8) (h : findC r = none) : restC r = (trimC r, []) := by
  unfold restC; rw [h]
abbrev AttrL := List (List UInt8 × List UInt8)
def IsA (w : World) (v : Value) (aa : AttrL) : Prop :=
  (v = .slice none 0 0 /\ aa = []) \/ ∃ b o cap, v = .slice (some ⟨b, o, none⟩) aa.length cap /\ aa.length <= cap /\
    ∀ j (hj : j < aa.length), w.cell? ⟨b, o + j * 2, none⟩ = some (.string ⟨aa[j].1.toArray⟩) /\ w.cell? ⟨b, o + j * 2 + 1, none⟩ = some (.string ⟨aa[j].2.toArray⟩)
theorem IsA.below {w W : World} {v : Value} {aa : AttrL} (h : IsA w v aa) (hb : Below w.heap.size w W) : IsA W v aa := by
  rcases h with h | ⟨b, o, cap, h1, h2, h3⟩
  · exact .inl h
  · refine .inr ⟨b, o, cap, h1, h2, fun j hj => ?_⟩
    obtain ⟨c1, c2⟩ := h3 j hj
    exact ⟨by rw [hb.cell (cell_lt c1)]; exact c1, by rw [hb.cell (cell_lt c2)]; exact c2⟩
def attrCells : AttrL -> List Value
  | [] => []
  | a :: r => .string ⟨a.1.toArray⟩ :: .string ⟨a.2.toArray⟩ :: attrCells r
theorem attrCells_len : ∀ aa : AttrL, (attrCells aa).length = aa.length * 2
  | [] => rfl
  | a :: r => by
    simp only [attrCells, List.length_cons, attrCells_len r]
    omega
theorem attrCells_app : ∀ aa bb : AttrL, attrCells (aa ++ bb) = attrCells aa ++ attrCells bb
  | [], bb => rfl
  | a :: r, bb => by
    simp only [List.cons_append, attrCells, attrCells_app r bb]
theorem attrCells_get : ∀ (aa : AttrL) (j : Nat) (hj : j < aa.length), (attrCells aa)[j * 2]? = some (.string ⟨aa[j].1.toArray⟩) /\ (attrCells aa)[j * 2 + 1]? = some (.string ⟨aa[j].2.toArray⟩)
  | a :: r, 0, _ => ⟨rfl, rfl⟩
  | a :: r, j + 1, hj => by
    have h := attrCells_get r j (by simpa using hj)
    rw [show (j + 1) * 2 = j * 2 + 1 + 1 by omega]
    exact h
theorem attrCells_1c : ∀ (aa : AttrL), ∀ u ∈ attrCells aa, u.oneCell' = true
  | [] => by intro u hu; cases hu
  | a :: r => by
    intro u hu
    simp only [attrCells, List.mem_cons] at hu
    rcases hu with rfl | rfl | hu
    · rfl
    · rfl
    · exact attrCells_1c r u hu
theorem owns_isA {w : World} {B n : Nat} {v : Value} {aa : AttrL} (h : w.ownsRow B 62 2 v n (attrCells aa)) : IsA w v aa := by
  have hn : n = aa.length := by
    have := h.1
    rw [attrCells_len] at this
    omega
  subst hn
  rcases h.2 with ⟨rfl, h2⟩ | ⟨g, cap, cur, rfl, _, _, hc, _, _, _⟩
  · exact .inl ⟨rfl, List.eq_nil_of_length_eq_zero h2⟩
  · refine .inr ⟨g, 0, cap, rfl, hc, fun j hj => ?_⟩
    obtain ⟨g1, g2⟩ := attrCells_get aa j hj
    have c1 := h.cells rfl _ _ g1
    have c2 := h.cells rfl _ _ g2
    rw [addr_add] at c1 c2
    rw [Nat.zero_add]
    exact ⟨c1, c2⟩
theorem owns_below {w W : World} {B n : Nat} {e : TypeId} {z : Nat} {v : Value} {xs : List Value} (h : w.ownsRow B e z v n xs) (hb : Below w.heap.size w W) : W.ownsRow B e z v n xs := by
  refine ⟨h.1, ?_⟩
  rcases h.2 with h2 | ⟨g, cap, cur, h1, h2, h3, h4⟩
  · exact .inl h2
  · refine .inr ⟨g, cap, cur, h1, h2, ?_, h4⟩
    have hg : g < w.heap.size := (Array.getElem?_eq_some_iff.1 h3).1
    rw [hb.block g hg]; exact h3
theorem append_attr (W : World) (B n : Nat) (v : Value) (aa : AttrL) (a : List UInt8 × List UInt8) (hown : W.ownsRow B 62 2 v n (attrCells aa)) (hl : n <= 1000000) (hB : B <= W.heap.size) :
    ∃ v' w', (Builtin.append_ #[43, 43] 43 #[v, .slice (some ⟨W.heap.size, 0, none⟩) 1 1]).run Tryz.prog (W.alloc (.cells #[.string ⟨a.1.toArray⟩, .string ⟨a.2.toArray⟩] 62)) = .ok v' w' /\ w'.ownsRow B 62 2 v' (n + 1) (attrCells (aa ++ [a])) /\ Below B W w' := by
  have b0 : Below W.heap.size W (W.alloc (.cells #[.string ⟨a.1.toArray⟩, .string ⟨a.2.toArray⟩] 62)) := (Below.refl _ W).alloc (Nat.le_refl _) _
  have hown2 := owns_below hown b0
  have hblk : ∀ k, v.ownBlock = some k -> B <= k := by
    intro k hk
    rcases hown.2 with ⟨rfl, _⟩ | ⟨g, cap, cur, rfl, h2, _⟩
    · simp [Value.ownBlock] at hk
    · simp [Value.ownBlock] at hk; omega
  obtain ⟨v', w', hr, ho, hg, _⟩ := run_append_own (P := Tryz.prog) (W.alloc (.cells #[.string ⟨a.1.toArray⟩, .string ⟨a.2.toArray⟩] 62)) B 43 43 62 Tryz.t62 (.agg #[.string ⟨#[]⟩, .string ⟨#[]⟩]) 2 32 Tryz.underlying43 (by kernel_rfl) (by kernel_rfl) (by kernel_rfl) (by kernel_rfl) (by kernel_rfl) (by omega)
      v n (attrCells aa) hown2 ⟨W.heap.size, 0, none⟩ 1 1 (attrCells [a]) rfl
      (by
        intro j u hu
        have hj : j < 2 := (List.getElem?_eq_some_iff.1 hu).1
        rcases (by omega : j = 0 \/ j = 1) with rfl | rfl
        · have : u = .string ⟨a.1.toArray⟩ := (Option.some.inj hu).symm
          subst this
          rw [addr_add, World.cell?_alloc_mark]
          rfl
        · have : u = .string ⟨a.2.toArray⟩ := (Option.some.inj hu).symm
          subst this
          rw [addr_add, World.cell?_alloc_mark]
          rfl) (attrCells_1c [a]) (by unfold maxLen; omega) (by omega) (by simp; omega)
  refine ⟨v', w', hr, ?_, ((b0.mono hB)).grown hg (by simp; omega) hblk⟩
  rw [attrCells_app]
  exact ho
def tok0 : List Value := [.int .i64 0, .string ⟨#[]⟩, .slice none 0 0, .bool false, .string ⟨#[]⟩]
theorem set_other (W : World) (a b : Addr) (v : Value) (h : a ≠ b) : (W.setCell a v).cell? b = W.cell? b := by
  apply World.cell?_setCell_other
  exact h
theorem owns_set {w : World} {B n : Nat} {e : TypeId} {z : Nat} {v : Value} {xs : List Value} (h : w.ownsRow B e z v n xs) (a : Addr) (u : Value) (hb : a.block < B) : (w.setCell a u).ownsRow B e z v n xs := by
  refine ⟨h.1, ?_⟩
  rcases h.2 with h2 | ⟨g, cap, cur, h1, h2, h3, h4⟩
  · exact .inl h2
  · refine .inr ⟨g, cap, cur, h1, h2, ?_, h4⟩
    rw [Below.heap_setCell w a u g (by omega)]
    exact h3
theorem owns_form {w : World} {B n : Nat} {e : TypeId} {z : Nat} {v : Value} {xs : List Value} (h : w.ownsRow B e z v n xs) : ∃ a c, v = .slice a n c := by
  rcases h.2 with ⟨h1, h2⟩ | ⟨g, cap, _, h1, _⟩
  · subst h2
    exact ⟨_, _, h1⟩
  · exact ⟨_, _, h1⟩
theorem IsA.set {w : World} {v : Value} {aa : AttrL} (h : IsA w v aa) (a : Addr) (u : Value) (hb : ∀ k, v.ownBlock = some k -> k ≠ a.block) : IsA (w.setCell a u) v aa := by
  rcases h with h | ⟨b, o, cap, rfl, h2, h3⟩
  · exact .inl h
  · have hn : b ≠ a.block := hb b rfl
    refine .inr ⟨b, o, cap, rfl, h2, fun j hj => ?_⟩
    obtain ⟨c1, c2⟩ := h3 j hj
    exact ⟨by rw [set_other _ _ _ _ (fun e => hn (by rw [e]))]; exact c1, by rw [set_other _ _ _ _ (fun e => hn (by rw [e]))]; exact c2⟩
theorem IsA.alloc {w : World} {v : Value} {aa : AttrL} (h : IsA w v aa) (o : Obj) : IsA (w.alloc o) v aa := h.below (below_alloc w o)
def TokAt (w w' : World) (e : Ending) (s : ByteArray) (R : Tok × List UInt8) : Prop := ∃ sv, IsA w' sv R.1.attrs /\ (∀ k, sv.ownBlock = some k -> w.heap.size <= k) /\ e = .returned (.tuple #[tokV R.1 sv, .int .i64 (s.size - R.2.length : Nat)])
def nextZ (mode : Int) (n : List UInt8) (f : Bool) (l : List UInt8) (z : Int) : Tok × List UInt8 := if 0 <= z /\ z < l.length then nextR mode n f (l.drop z.toNat) else ({ kind := 0 }, [])
theorem nextZ_in (mode : Int) (n : List UInt8) (f : Bool) (l : List UInt8) (p : Nat) (h : p < l.length) : nextZ mode n f l (p : Int) = nextR mode n f (l.drop p) := by
  unfold nextZ
  rw [if_pos (by omega), show (p : Int).toNat = p by omega]
theorem nextZ_out (mode : Int) (n : List UInt8) (f : Bool) (l : List UInt8) (z : Int) (h : z < 0 \/ (l.length : Int) <= z) : nextZ mode n f l z = ({ kind := 0 }, []) := by
  unfold nextZ
  rw [if_neg (by omega)]
theorem spanS_step (n : List UInt8) (s : ByteArray) (k : Nat) (h : k < s.size) : (spanS n (s.data.toList.drop k)).2 = if stopB n (s.data.toList.drop k) then s.data.toList.drop k else (spanS n (s.data.toList.drop (k + 1))).2 := by
  rw [drop_cons s k h]
  simp only [spanS]
  split <;> rfl
theorem isA_form {w : World} {v : Value} {aa : AttrL} (h : IsA w v aa) : ∃ a c, v = .slice a aa.length c := by
  rcases h with ⟨rfl, rfl⟩ | ⟨b, o, cap, rfl, _⟩
  · exact ⟨_, _, rfl⟩
  · exact ⟨_, _, rfl⟩
theorem isA_nil {w : World} {v : Value} (W : World) (h : IsA w v []) : IsA W v [] := by
  rcases h with h | ⟨b, o, cap, h1, h2, _⟩
  · exact .inl h
  · exact .inr ⟨b, o, cap, h1, h2, fun j hj => by simp at hj⟩
def put5 (W : World) (G : Nat) (p : Tok × Value) : World := ((((W.setCell ⟨G, 0, none⟩ (.int .i64 (p.1.kind : Int))).setCell ⟨G, 1, none⟩ (.string ⟨p.1.name.toArray⟩)).setCell ⟨G, 2, none⟩ p.2).setCell ⟨G, 3, none⟩ (.bool p.1.closed)).setCell ⟨G, 4, none⟩ (.string ⟨p.1.text.toArray⟩)
theorem nextZ_le (mode : Int) (n : List UInt8) (f : Bool) (l : List UInt8) (k : Nat) (h : k <= l.length) : nextZ mode n f l (k : Int) = nextR mode n f (l.drop k) := by
  by_cases hk : k < l.length
  · exact nextZ_in mode n f l k hk
  · rw [nextZ_out mode n f l k (.inr (by omega)), List.drop_eq_nil_of_le (by omega), nextR_nil]
end Go.Proofs.YtfohijnkeefcfaaGreatDoor.S4
namespace Go.Proofs.YtfohijnkeefcfaaGreatDoor.S4
open Go.RowKit
theorem encode_str (n : Nat) (hn : n <= 1114111) (hs : ¬ (55296 <= n /\ n <= 57343)) : Utf8.encode (n : Int) = ⟨(Lib.encodeRune (n : Int)).toArray⟩ := by
  have hv : Utf8.valid (n : Int) = true := by
    unfold Utf8.valid
    simp only [Bool.or_eq_true, Bool.and_eq_true, decide_eq_true_eq]
    omega
  unfold Utf8.encode Lib.encodeRune
  simp only [hv, if_true, Int.toNat_natCast]
  rcases (by omega : n < 128 \/ (128 <= n /\ n < 2048) \/ (2048 <= n /\ n < 65536) \/ 65536 <= n) with h | h | h | h
  · rw [Lib.encodeRuneZ_one (r := (n : Int)) (by omega) (by omega), if_pos (by omega)]
    rfl
  · rw [Lib.encodeRuneZ_two (r := (n : Int)) (by omega) (by omega), if_neg (by omega), if_pos (by omega)]
    simp only [List.map_cons, List.map_nil]
    rw [show (192 + (n : Int) / 64).toNat = 192 + n / 64 by omega, show (128 + (n : Int) % 64).toNat = 128 + n % 64 by omega]
  · rw [Lib.encodeRuneZ_three (r := (n : Int)) (by omega), if_neg (by omega), if_neg (by omega), if_pos (by omega)]
    simp only [List.map_cons, List.map_nil]
    rw [show (224 + (n : Int) / 4096).toNat = 224 + n / 4096 by omega, show (128 + (n : Int) / 64 % 64).toNat = 128 + n / 64 % 64 by omega, show (128 + (n : Int) % 64).toNat = 128 + n % 64 by omega]
  · rw [Lib.encodeRuneZ_four (r := (n : Int)) (by omega) (by omega), if_neg (by omega), if_neg (by omega), if_neg (by omega)]
    simp only [List.map_cons, List.map_nil]
    rw [show (240 + (n : Int) / 262144).toNat = 240 + n / 262144 by omega, show (128 + (n : Int) / 4096 % 64).toNat = 128 + n / 4096 % 64 by omega, show (128 + (n : Int) / 64 % 64).toNat = 128 + n / 64 % 64 by omega, show (128 + (n : Int) % 64).toNat = 128 + n % 64 by omega]
def OldOk (w : World) : Prop := ∀ j : Nat, j < 32 -> w.cell? ⟨0, j, none⟩ = some (.int .i32 (oldN.getD j 0 : Nat))
theorem OldOk.below {w W : World} (h : OldOk w) (hb : Below w.heap.size w W) : OldOk W := by
  intro j hj
  rw [hb.cell (cell_lt (h j hj))]
  exact h j hj
theorem number_same (n : Int) (w : World) (ho : OldOk w) :
    Calls Tryz.prog 188 #[.int .i64 n] w fun e w' => e = .returned (.string ⟨(numberL n).toArray⟩) /\ w' = w := by
  rcases (by omega : n <= 0 \/ 1114111 < n \/ (55296 <= n /\ n <= 57343) \/ (128 <= n /\ n <= 159) \/ (0 < n /\ n < 128) \/ (159 < n /\ n < 55296) \/ (57343 < n /\ n <= 1114111)) with h | h | h | h | h | h | h
  · have hv : numberL n = [239, 191, 189] := by unfold numberL cpN; rw [if_pos (by omega)]; decide +kernel
    rw [hv]
    have d0 : n <= 0 := by omega
    clear h hv ho
    go_enter Tryz.func188, Tryz.ntmps188
    go_wp2
    go_ret
    exact ⟨rfl, rfl⟩
  · have hv : numberL n = [239, 191, 189] := by unfold numberL cpN; rw [if_pos (by omega)]; decide +kernel
    rw [hv]
    have d0 : ¬ (n <= 0) := by omega
    have d1 : 1114111 < n := by omega
    clear h hv ho
    go_enter Tryz.func188, Tryz.ntmps188
    go_wp2
    go_ret
    exact ⟨rfl, rfl⟩
  · have hv : numberL n = [239, 191, 189] := by unfold numberL cpN; rw [if_pos (by omega)]; decide +kernel
    rw [hv]
    have d0 : ¬ (n <= 0) := by omega
    have d1 : ¬ (1114111 < n) := by omega
    have d2 : 55296 <= n := by omega
    have d3 : n <= 57343 := by omega
    clear h hv ho
    go_enter Tryz.func188, Tryz.ntmps188
    go_wp2
    go_ret
    exact ⟨rfl, rfl⟩
  · have hv : numberL n = Lib.encodeRune ((oldN.getD (n - 128).toNat 0 : Nat) : Int) := by
      unfold numberL cpN
      rw [if_neg (by omega), if_pos (by omega)]
    have hr := old_range (n - 128).toNat (by omega)
    have he := encode_str _ hr.1 hr.2
    have hc := ho (n - 128).toNat (by omega)
    rw [hv, <- he]
    clear hv hr he ho
    generalize oldN.getD (n - 128).toNat 0 = c at *
    have d0 : ¬ (n <= 0) := by omega
    have d1 : ¬ (1114111 < n) := by omega
    have d2 : ¬ (55296 <= n) := by omega
    have d3 : 128 <= n := by omega
    have d4 : n <= 159 := by omega
    clear h
    go_enter Tryz.func188, Tryz.ntmps188
    go_wp2
    go_ret
    exact ⟨rfl, rfl⟩
  · obtain ⟨m, rfl⟩ : ∃ m : Nat, n = (m : Int) := ⟨n.toNat, by omega⟩
    have hv : numberL (m : Int) = Lib.encodeRune (m : Int) := by
      unfold numberL cpN
      rw [if_neg (by omega), if_neg (by omega)]
    have he := encode_str m (by omega) (by omega)
    rw [hv, <- he]
    clear hv he ho
    have d0 : ¬ ((m : Int) <= 0) := by omega
    have d1 : ¬ (1114111 < (m : Int)) := by omega
    have d2 : ¬ (55296 <= (m : Int)) := by omega
    have d3 : ¬ (128 <= (m : Int)) := by omega
    have d9 : IntKind.i32.wrap (m : Int) = m := by rw [IntKind.wrap]; simp [IntKind.bits, IntKind.signed]; omega
    clear h
    go_enter Tryz.func188, Tryz.ntmps188
    go_wp2
    go_ret
    exact ⟨rfl, rfl⟩
  · obtain ⟨m, rfl⟩ : ∃ m : Nat, n = (m : Int) := ⟨n.toNat, by omega⟩
    have hv : numberL (m : Int) = Lib.encodeRune (m : Int) := by
      unfold numberL cpN
      rw [if_neg (by omega), if_neg (by omega)]
    have he := encode_str m (by omega) (by omega)
    rw [hv, <- he]
    clear hv he ho
    have d0 : ¬ ((m : Int) <= 0) := by omega
    have d1 : ¬ (1114111 < (m : Int)) := by omega
    have d2 : ¬ (55296 <= (m : Int)) := by omega
    have d3 : 128 <= (m : Int) := by omega
    have d4 : ¬ ((m : Int) <= 159) := by omega
    have d9 : IntKind.i32.wrap (m : Int) = m := by rw [IntKind.wrap]; simp [IntKind.bits, IntKind.signed]; omega
    clear h
    go_enter Tryz.func188, Tryz.ntmps188
    go_wp2
    go_ret
    exact ⟨rfl, rfl⟩
  · obtain ⟨m, rfl⟩ : ∃ m : Nat, n = (m : Int) := ⟨n.toNat, by omega⟩
    have hv : numberL (m : Int) = Lib.encodeRune (m : Int) := by
      unfold numberL cpN
      rw [if_neg (by omega), if_neg (by omega)]
    have he := encode_str m (by omega) (by omega)
    rw [hv, <- he]
    clear hv he ho
    have d0 : ¬ ((m : Int) <= 0) := by omega
    have d1 : ¬ (1114111 < (m : Int)) := by omega
    have d2 : 55296 <= (m : Int) := by omega
    have d3 : ¬ ((m : Int) <= 57343) := by omega
    have d4 : 128 <= (m : Int) := by omega
    have d5 : ¬ ((m : Int) <= 159) := by omega
    have d9 : IntKind.i32.wrap (m : Int) = m := by rw [IntKind.wrap]; simp [IntKind.bits, IntKind.signed]; omega
    clear h
    go_enter Tryz.func188, Tryz.ntmps188
    go_wp2
    go_ret
    exact ⟨rfl, rfl⟩
end Go.Proofs.YtfohijnkeefcfaaGreatDoor.S4
