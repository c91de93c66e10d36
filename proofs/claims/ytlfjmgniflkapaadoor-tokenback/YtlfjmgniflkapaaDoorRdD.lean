/- What stands in the world while the program's start reads on: the answer's block, the token's, the set of names, the list of attributes. -/
import Derived.Test.YtlfjmgniflkapaaDoorRdC
import Derived.Maps.OwnSet
import Derived.StringKeys
import Derived.Maps.Views
set_option linter.unusedVariables false
set_option linter.unusedSimpArgs false
namespace Go.Proofs.YtlfjmgniflkapaaDoor
open Go.RowKit

def tokL (t : Tok) (sv : Value) : List Value := [.int .i64 (t.kind : Int), .string ⟨t.name.toArray⟩, sv, .bool t.closed, .string ⟨t.text.toArray⟩]
/-- The set of the attributes' names. -/
def namesD (aa : AttrL) : DataW Unit := Maps.setOf (.agg []) (aa.map fun a => .string a.1)
theorem namesD_has (aa : AttrL) (n : List UInt8) : Maps.has (namesD aa) (.string n) = (getA aa n).isSome := by
  unfold namesD
  rw [Maps.has_setOf _ _ _ (by
    intro x hx
    obtain ⟨a, _, rfl⟩ := List.mem_map.1 hx
    trivial)]
  unfold getA
  rw [List.any_map, Option.isSome_map, Bool.eq_iff_iff, List.find?_isSome, List.any_eq_true]
  constructor
  · rintro ⟨a, ha, h⟩
    refine ⟨a, ha, ?_⟩
    have := (WideAt.sameKey_iff (a := .string a.1) (b := .string n) trivial).1 h
    have h2 := Lit.string.inj this
    simp [h2]
  · rintro ⟨a, ha, h⟩
    refine ⟨a, ha, ?_⟩
    have h2 : a.1 = n := by simpa using h
    exact (WideAt.sameKey_iff (a := .string a.1) (b := .string n) trivial).2 (by rw [h2])
theorem namesD_snoc (aa : AttrL) (a : List UInt8 × List UInt8) : namesD (aa ++ [a]) = (namesD aa).put (.string a.1) (.agg []) := by
  unfold namesD
  rw [List.map_append]
  exact Maps.setOf_snoc _ _ _

theorem owns_but {b : Nat} {w W : World} {B n : Nat} {e : TypeId} {z : Nat} {v : Value} {xs : List Value} (h : w.ownsRow B e z v n xs) (hb : But b w W) (hB : b < B) : W.ownsRow B e z v n xs := by
  refine ⟨h.1, ?_⟩
  rcases h.2 with h2 | ⟨g, cap, cur, h1, h2, h3, h4⟩
  · exact .inl h2
  · refine .inr ⟨g, cap, cur, h1, h2, ?_, h4⟩
    have hg : g < w.heap.size := (Array.getElem?_eq_some_iff.1 h3).1
    rw [hb.block g hg (by omega)]; exact h3
theorem map_but {H : Type} {b : Nat} {w W : World} {P : Program} {k : TypeId} {R : Value → Option (DataW H × List MemPlace)} {M n : Nat} {D : DataW H} (h : w.ownsMap P k R M n D) (hb : But b w W) (hM : M ≠ b) : W.ownsMap P k R M n D := by
  have hlt := h.lt
  obtain ⟨es, clock, h1, r⟩ := h
  exact ⟨es, clock, by rw [hb.block M hlt hM]; exact h1, r⟩

theorem But.put5 {b G : Nat} {w W : World} (h : But b w W) (hG : w.heap.size ≤ G) (p : Tok × Value) : But b w (put5 W G p) :=
  ((((h.setNew ⟨G, 0, none⟩ hG _).setNew ⟨G, 1, none⟩ hG _).setNew ⟨G, 2, none⟩ hG _).setNew ⟨G, 3, none⟩ hG _).setNew ⟨G, 4, none⟩ hG _
theorem RdL.put5 {b G : Nat} {W : World} {s : ByteArray} {r : List UInt8} (h : RdL W b s r) (hG : G ≠ b) (p : Tok × Value) : RdL (Go.Proofs.YtlfjmgniflkapaaDoor.put5 W G p) b s r :=
  ((((h.other ⟨G, 0, none⟩ hG _).other ⟨G, 1, none⟩ hG _).other ⟨G, 2, none⟩ hG _).other ⟨G, 3, none⟩ hG _).other ⟨G, 4, none⟩ hG _
theorem IsA.put5 {W : World} {sv : Value} {aa : AttrL} (h : IsA W sv aa) (G : Nat) (hn : ∀ k, sv.ownBlock = some k → k ≠ G) (p : Tok × Value) : IsA (Go.Proofs.YtlfjmgniflkapaaDoor.put5 W G p) sv aa :=
  ((((h.set ⟨G, 0, none⟩ _ hn).set ⟨G, 1, none⟩ _ hn).set ⟨G, 2, none⟩ _ hn).set ⟨G, 3, none⟩ _ hn).set ⟨G, 4, none⟩ _ hn
theorem owns_block {w : World} {B n : Nat} {e : TypeId} {z : Nat} {v : Value} {xs : List Value} (h : w.ownsRow B e z v n xs) : ∀ k, v.ownBlock = some k → B ≤ k := fun k hk => (h.lt k hk).1

structure StS (w wr : World) (b : Nat) (s : ByteArray) (r : List UInt8) (G : Nat) (nm : ByteArray) (sv : Value) (aa : AttrL) : Prop where
  but : But b w wr
  env : Env wr
  rd : RdL wr b s r
  kr : Kept wr w.heap.size tok0
  kg : Kept wr G [.int .i64 2, .string nm, sv, .bool false, .string ⟨#[]⟩]
  lt : w.heap.size < G
  lb : b < w.heap.size
  own : wr.ownsRow (G + 2) 36 2 sv aa.length (attrCells aa)
  map : wr.ownsMap Tryd.prog 9 (unitElem (H := Unit)) (G + 1) aa.length (namesD aa)
theorem StS.call {w wr W : World} {b : Nat} {s : ByteArray} {r r' : List UInt8} {G : Nat} {nm : ByteArray} {sv : Value} {aa : AttrL} (h : StS w wr b s r G nm sv aa) (h2 : 2 ≤ b) (hb : But b wr W) (hr : RdL W b s r') : StS w W b s r' G nm sv aa :=
  have l1 := h.lt
  have l2 := h.lb
  { but := h.but.trans hb, env := h.env.but hb h2, rd := hr, kr := h.kr.but hb (by omega), kg := h.kg.but hb (by omega), lt := h.lt, lb := h.lb, own := owns_but h.own hb (by omega), map := map_but h.map hb (by omega) }
theorem StS.below {w wr W : World} {b : Nat} {s : ByteArray} {r : List UInt8} {G : Nat} {nm : ByteArray} {sv : Value} {aa : AttrL} (h : StS w wr b s r G nm sv aa) (h2 : 2 ≤ b) (hb : Below wr.heap.size wr W) : StS w W b s r G nm sv aa := h.call h2 (.of hb) (h.rd.below hb)
theorem But.other {b k : Nat} {w W W2 : World} (h : But b w W) (h2 : But k W W2) (hk : w.heap.size ≤ k) : But b w W2 :=
  ⟨h2.os.trans h.os, h2.tape.trans h.tape, h2.output.trans h.output, Nat.le_trans h.size h2.size, fun i hi hn => (h2.block i (Nat.lt_of_lt_of_le hi h.size) (by omega)).trans (h.block i hi hn)⟩
theorem But.upTo {b n : Nat} {w W W2 : World} (h : But b w W) (h2 : Below n W W2) (hn : w.heap.size ≤ n) : But b w W2 :=
  ⟨h2.os.trans h.os, h2.tape.trans h.tape, h2.output.trans h.output, Nat.le_trans h.size h2.size, fun i hi he => (h2.block i (by omega)).trans (h.block i hi he)⟩
theorem RdP.keep {w W : World} {b : Nat} {s : ByteArray} {p : Nat} (h : RdP w b s p) (hb : W.heap[b]? = w.heap[b]?) : RdP W b s p :=
  ⟨by rw [World.cell?_of_block (a := ⟨b, 0, none⟩) hb]; exact h.c0, by rw [World.cell?_of_block (a := ⟨b, 1, none⟩) hb]; exact h.c1, fun o => by rw [World.frozen?_of_block (a := ⟨b, o, none⟩) hb]; exact h.fz o⟩
theorem RdL.keep {w W : World} {b : Nat} {s : ByteArray} {r : List UInt8} (h : RdL w b s r) (hb : W.heap[b]? = w.heap[b]?) : RdL W b s r := by
  obtain ⟨p, h1, h2, h3⟩ := h
  exact ⟨p, h1, h2, h3.keep hb⟩
theorem Kept.keep {w W : World} {k : Nat} {cs : List Value} (h : Kept w k cs) (hb : W.heap[k]? = w.heap[k]?) : Kept W k cs :=
  ⟨fun o => by rw [World.cell?_of_block (a := ⟨k, o, none⟩) hb]; exact h.1 o, fun o => by rw [World.frozen?_of_block (a := ⟨k, o, none⟩) hb]; exact h.2 o⟩
theorem Env.keep {w W : World} (h : Env w) (h0 : W.heap[0]? = w.heap[0]?) (h1 : W.heap[1]? = w.heap[1]?) : Env W := by
  refine ⟨fun j hj => ?_, ?_⟩
  · rw [World.cell?_of_block (a := ⟨0, j, none⟩) h0]
    exact h.1 j hj
  · obtain ⟨m, hm⟩ := h.2
    exact ⟨m, by rw [World.cell?_of_block (a := ⟨1, 0, none⟩) h1]; exact hm⟩
/-- Behind a name that was put into the set, and an attribute that was put into the list. -/
theorem StS.push {w W w6 w7 : World} {b : Nat} {s : ByteArray} {r : List UInt8} {G : Nat} {nm : ByteArray} {sv v' : Value} {aa : AttrL} {a : List UInt8 × List UInt8} (h : StS w W b s r G nm sv aa) (h2 : 2 ≤ b) (hb6 : But (G + 1) W w6)
    (hm : w6.ownsMap Tryd.prog 9 (unitElem (H := Unit)) (G + 1) (aa.length + 1) (namesD (aa ++ [a]))) (hb7 : Below (G + 2) w6 w7) (ho : w7.ownsRow (G + 2) 36 2 v' (aa.length + 1) (attrCells (aa ++ [a]))) :
    StS w (w7.setCell ⟨G, 2, none⟩ v') b s r G nm v' (aa ++ [a]) := by
  have l1 := h.lt
  have l2 := h.lb
  have l3 := h.kg.lt
  have hk : ∀ i, i < G + 1 → w7.heap[i]? = W.heap[i]? := fun i hi => (hb7.block i (by omega)).trans (hb6.block i (by omega) (by omega))
  have hs : ∀ i, i ≠ G → (w7.setCell ⟨G, 2, none⟩ v').heap[i]? = w7.heap[i]? := fun i hi => Below.heap_setCell _ _ _ _ hi
  have hlen : (aa ++ [a]).length = aa.length + 1 := by simp
  refine { but := ((h.but.other hb6 (by omega)).upTo hb7 (by omega)).setNew _ (by simp only; omega) _, env := h.env.keep ((hs 0 (by omega)).trans (hk 0 (by omega))) ((hs 1 (by omega)).trans (hk 1 (by omega))), rd := h.rd.keep ((hs b (by omega)).trans (hk b (by omega))), kr := h.kr.keep ((hs _ (by omega)).trans (hk _ (by omega))), kg := ?_, lt := l1, lb := l2, own := ?_, map := ?_ }
  · exact (h.kg.keep (hk G (by omega))).set 2 (by simp) v'
  · rw [hlen]
    exact owns_set ho _ _ (by simp only; omega)
  · rw [hlen]
    have hlt := hm.lt
    obtain ⟨es, clock, h1, q⟩ := hm
    exact ⟨es, clock, by rw [hs _ (by omega), hb7.block _ (by omega)]; exact h1, q⟩
end Go.Proofs.YtlfjmgniflkapaaDoor
