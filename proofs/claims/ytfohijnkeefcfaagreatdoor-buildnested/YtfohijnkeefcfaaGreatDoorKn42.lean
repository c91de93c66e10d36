import Derived.Test.YtfohijnkeefcfaaGreatDoorKn21
import Derived.Test.YtfohijnkeefcfaaGreatDoorKn40
import Derived.Test.YtfohijnkeefcfaaGreatDoorKn41
set_option linter.unusedVariables false
set_option linter.unusedSimpArgs false
set_option maxRecDepth 100000
set_option maxHeartbeats 8000000
namespace Go.Proofs.YtfohijnkeefcfaaGreatDoor
open Go.RowKit Go.Shelf
open S6 (OV)
open S5 (hide cell_lt below_alloc)
attribute [local go_sem] Oper.semAt_some
def goOn (nm : ByteArray) (o : OV) : Prop := isP o [nm.data.toList] = false /\ S6.specialL o = false
def otherKP (s : PB) (nm : ByteArray) : Nat -> PB
  | 0 => s
  | k + 1 => match s.op[k]? with
    | none => s
    | some o => if isP o [nm.data.toList] then keepP (impP s nm) k else if S6.specialL o then s else otherKP s nm k
def otherP (s : PB) (nm : ByteArray) : PB := otherKP s nm s.op.length
theorem other_run (s : PB) (nm : ByteArray) : ∀ k, k <= s.op.length -> (∀ y ∈ downO s.op k, goOn nm y.1.2) -> otherP s nm = otherKP s nm (s.op.length - k)
  | 0, _, _ => rfl
  | k + 1, hk, h => by
    rw [downO_succ s.op k (by omega)] at h
    rw [other_run s nm k (by omega) fun y hy => h y (List.mem_append_left _ hy)]
    obtain ⟨q1, q2⟩ := h (atO s.op k (by omega)) (List.mem_append_right _ (List.mem_singleton.2 rfl))
    obtain ⟨j, hj⟩ : ∃ j, s.op.length - k = j + 1 := ⟨s.op.length - k - 1, by omega⟩
    have e : s.op.length - (k + 1) = j := by omega
    rw [hj, e, otherKP]
    have e2 : s.op.length - 1 - k = j := by omega
    have e3 : s.op[j]? = some (atO s.op k (by omega)).1.2 := by rw [<- e2]; exact (atO s.op k (by omega)).2
    rw [e3]
    simp only [q1, q2, Bool.false_eq_true, if_false]
theorem other_stop (s : PB) (nm : ByteArray) (k : Nat) (hk : k <= s.op.length) (pre : List (AtO s.op)) (x : AtO s.op) (e : pre ++ [x] = downO s.op k) (h : ∀ y ∈ pre, goOn nm y.1.2) : otherP s nm = if isP x.1.2 [nm.data.toList] then keepP (impP s nm) x.1.1 else if S6.specialL x.1.2 then s else otherKP s nm x.1.1 := by
  obtain ⟨j, rfl⟩ : ∃ j, k = j + 1 := by
    cases k with
    | zero => simp [downO] at e
    | succ j => exact ⟨j, rfl⟩
  rw [downO_succ s.op j (by omega)] at e
  obtain ⟨e1, e2⟩ := List.append_inj' e rfl
  subst e1
  obtain rfl : x = atO s.op j (by omega) := by simpa using e2
  rw [other_run s nm j (by omega) h]
  obtain ⟨i, hi⟩ : ∃ i, s.op.length - j = i + 1 := ⟨s.op.length - j - 1, by omega⟩
  have e3 : (atO s.op j (by omega)).1.1 = i := by show s.op.length - 1 - j = i; omega
  have e4 : s.op[i]? = some (atO s.op j (by omega)).1.2 := by rw [<- e3]; exact (atO s.op j (by omega)).2
  rw [hi, otherKP, e4, e3]
theorem Does.turned {O : Nat -> Prop} {n : Nat} {w W W' : World} {bb : Nat} {s' : PB} {row : Option Nat} {B : Nat} (hd : Does O n w bb W s') (hg : W.grownBy W' row) (hr : ∀ r, row = some r -> B <= r /\ ∃ o : Obj, W.heap[r]? = some o /\ o.isCells = false) (hB : w.heap.size <= B) : Does O n w bb W' s' := by
  have ht := turned_of hg fun r e => (hr r e).2
  obtain ⟨pb, og, cap, mv, A, hv⟩ := id hd.1
  have hc := hv.cs 0 (by omega)
  refine ⟨hd.1.turned ht, ?_, (ht.cell hc).trans (hc.symm.trans hd.2.2)⟩
  have b := (Below.refl w.heap.size W).grown hg hd.2.1.size (fun k e => Nat.le_trans hB (hr k e).1)
  exact ⟨b.os.trans hd.2.1.os, b.tape.trans hd.2.1.tape, b.output.trans hd.2.1.output, Nat.le_trans hd.2.1.size b.size, fun k hk ho => (b.block k hk).trans (hd.2.1.block k hk ho)⟩
end Go.Proofs.YtfohijnkeefcfaaGreatDoor
