import Derived.Test.YtfohijnkeefcfaaGreatDoorKn04
import Derived.Deep.Slices
import Derived.Deep.AppendSrc
set_option linter.unusedVariables false
set_option linter.unusedSimpArgs false
set_option maxRecDepth 100000
set_option maxHeartbeats 8000000
namespace Go.Proofs.YtfohijnkeefcfaaGreatDoor.S5
open Go.RowKit
theorem parZ_none : parZ none = -1 := rfl
def kidsZ (T : TR) (z : Int) : List Nat := if 0 <= z /\ z < T.length then kidsAt T z.toNat else []
def holdsL (T : TR) (n : Nat) : Bool := (nodeAt T n).kind == 0 || (nodeAt T n).kind == 1
def IsAB (B : Nat -> Prop) (w : World) (v : Value) (aa : AttrL) : Prop := IsA w v aa /\ (aa = [] \/ ∀ k, v.ownBlock = some k -> B k)
def IsIB (B : Nat -> Prop) (w : World) (v : Value) (l : List Nat) : Prop := IsI w v l /\ (l = [] \/ ∀ k, v.ownBlock = some k -> B k)
theorem cell_same {w W : World} {b o : Nat} {v : Value} (h : W.heap[b]? = w.heap[b]?) (hc : w.cell? ⟨b, o, none⟩ = some v) : W.cell? ⟨b, o, none⟩ = some v := by
  rw [World.cell?_of_block (a := ⟨b, o, none⟩) h]
  exact hc
theorem own_slice (b o n c : Nat) : (Value.slice (some ⟨b, o, none⟩) n c).ownBlock = some b := rfl
theorem IsAB.keep {B : Nat -> Prop} {w W : World} {v : Value} {aa : AttrL} (h : IsAB B w v aa) (hk : ∀ k, B k -> W.heap[k]? = w.heap[k]?) : IsAB B W v aa := by
  refine ⟨?_, h.2⟩
  rcases h.1 with h1 | ⟨b, o, cap, rfl, hc, hcs⟩
  · exact .inl h1
  · refine .inr ⟨b, o, cap, rfl, hc, fun j hj => ?_⟩
    rcases h.2 with rfl | hb
    · simp at hj
    · have := hk b (hb b (own_slice b o _ _))
      exact ⟨cell_same this (hcs j hj).1, cell_same this (hcs j hj).2⟩
theorem IsIB.keep {B : Nat -> Prop} {w W : World} {v : Value} {l : List Nat} (h : IsIB B w v l) (hk : ∀ k, B k -> W.heap[k]? = w.heap[k]?) : IsIB B W v l := by
  refine ⟨?_, h.2⟩
  rcases h.1 with h1 | ⟨b, o, cap, rfl, hc, hcs⟩
  · exact .inl h1
  · refine .inr ⟨b, o, cap, rfl, hc, fun j hj => ?_⟩
    rcases h.2 with rfl | hb
    · simp at hj
    · exact cell_same (hk b (hb b (own_slice b o _ _))) (hcs j hj)
theorem IsAB.mono {B C : Nat -> Prop} {w : World} {v : Value} {aa : AttrL} (h : IsAB B w v aa) (hm : ∀ k, B k -> C k) : IsAB C w v aa := ⟨h.1, h.2.imp id fun f k hk => hm k (f k hk)⟩
def andNew (B : Nat -> Prop) (n : Nat) : Nat -> Prop := fun k => B k \/ n <= k
theorem results_cell_one {fn : Func} {p : Tmp} {ty : TypeId} (h : fn.results = #[.cell p ty]) (tmps : Array Value) (P : Program) (w : World) :
    (results fn tmps).run P w = ((asAddr (tmps.getD p undef)).run P w).andThen fun a w₁ => (loadVar ty a).run P w₁ := by
  simp only [results, h]
  simp
def intCells (l : List Nat) : List Value := l.map fun (x : Nat) => Value.int .i64 (x : Int)
theorem owns_isI {w : World} {B n : Nat} {v : Value} {l : List Nat} (h : w.ownsRow B 3 1 v n (intCells l)) : IsI w v l := by
  have hl : n = l.length := by have := h.1; simp [intCells] at this; omega
  rcases h.2 with ⟨rfl, h0⟩ | ⟨g, cap, cur, rfl, hbg, hg, hnc, hcm, hcs, htake⟩
  · exact .inl ⟨rfl, List.eq_nil_of_length_eq_zero (by omega)⟩
  · refine .inr ⟨g, 0, cap, by rw [hl], by omega, fun j hj => ?_⟩
    have hc := h.cells (g := g) rfl j (.int .i64 (l[j] : Int)) (by unfold intCells; rw [List.getElem?_map, List.getElem?_eq_getElem hj]; rfl)
    rw [addr_add] at hc
    rw [Nat.zero_add]
    exact hc
abbrev inT (T : TR) (z : Int) : Prop := 0 <= z /\ z < T.length
def appendZ (T : TR) (zp zc : Int) : TR × Int := if inT T zp /\ inT T zc then (if holdsL T zp.toNat && (!(zc == 0) && !(withinL T zp.toNat zc.toNat)) then (appendL T zp.toNat zc.toNat, 0) else (T, 1)) else (T, 2)
end Go.Proofs.YtfohijnkeefcfaaGreatDoor.S5
namespace Go.Proofs.YtfohijnkeefcfaaGreatDoor.S5
def beforeZ (T : TR) (zr zc : Int) : TR × Int := if inT T zr /\ inT T zc then (match parentN T zr.toNat with | none => (T, 1) | some p => if !(zc == 0) && !(withinL T zr.toNat zc.toNat) then (beforeL T p zr.toNat zc.toNat, 0) else (T, 1)) else (T, 2)
def addZ (T : TR) (z : Int) (s : List UInt8) : TR × Int := if inT T z then (if (nodeAt T z.toNat).kind = 2 then (addL T z.toNat s, 0) else (T, 1)) else (T, 2)
theorem ahead_ins (ref c : Nat) : ∀ (l : List Nat) (i : Nat) (hi : i < l.length), l[i] = ref -> l.Nodup -> aheadL ref c l = l.take i ++ c :: l.drop i
  | a :: r, 0, _, he, hn => by
    obtain rfl : a = ref := he
    obtain ⟨h1, h2⟩ := List.nodup_cons.1 hn
    unfold aheadL
    rw [List.flatMap_cons, if_pos rfl]
    have : r.flatMap (fun x => if x = a then [c, x] else [x]) = r := by
      have : ∀ q : List Nat, a ∉ q -> q.flatMap (fun x => if x = a then [c, x] else [x]) = q := by
        intro q
        induction q with
        | nil => intro _; rfl
        | cons y s ih =>
          intro hy
          simp only [List.mem_cons, not_or] at hy
          rw [List.flatMap_cons, if_neg (fun e => hy.1 e.symm), ih hy.2]
          rfl
      exact this r h1
    rw [this]
    rfl
  | a :: r, i + 1, hi, he, hn => by
    obtain ⟨h1, h2⟩ := List.nodup_cons.1 hn
    have hi2 : i < r.length := by simpa using hi
    have he2 : r[i] = ref := by simpa using he
    have hne : ¬ a = ref := fun e => h1 (e ▸ he2 ▸ List.getElem_mem hi2)
    have ih := ahead_ins ref c r i hi2 he2 h2
    unfold aheadL at ih ⊢
    rw [List.flatMap_cons, if_neg hne, ih]
    simp
end Go.Proofs.YtfohijnkeefcfaaGreatDoor.S5
