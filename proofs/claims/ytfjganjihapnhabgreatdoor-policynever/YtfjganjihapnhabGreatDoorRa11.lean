/- What the document's own in, Name, names answer; nothing that was there is written. -/
import Derived.Test.YtfjganjihapnhabGreatDoorIp11
import Derived.Test.YtfjganjihapnhabGreatDoorWc10
import Derived.Test.YtfjganjihapnhabGreatDoorWalkI
import Derived.Deep.QuietTactic
import Derived.Deep.RegionHeld2
set_option linter.unusedVariables false
set_option linter.unusedSimpArgs false
namespace Go.Proofs.YtfjganjihapnhabGreatDoor
open Go.RowKit

theorem two_eq (l : List UInt8) (x : ByteArray) : ((⟨l.toArray⟩ : ByteArray).toList == x.toList) = (l == x.data.toList) := by rw [Lib.toList_data, Lib.toList_data, str_data]
theorem all_step (s : ByteArray) (k : Nat) (h : k < s.size) : (s.data.toList.drop k).all inName = (inName s[k] && (s.data.toList.drop (k + 1)).all inName) := by
  rw [drop_cons s k h]; rfl
theorem all_end (s : ByteArray) (k : Nat) (h : s.size ≤ k) : (s.data.toList.drop k).all inName = true := by
  rw [List.drop_eq_nil_of_le (by rw [← size_list]; exact h)]; rfl
theorem name_of (s : ByteArray) (h1 : 1 ≤ s.size) (h2 : s.size ≤ 20) : nameL s.data.toList = (smallN (s[0]'(by omega)).toNat && s.data.toList.all inName) := by
  have e := drop_cons s 0 (by omega)
  rw [List.drop_zero] at e
  have hh : s.data.toList.head? = some (s[0]'(by omega)) := by rw [e]; rfl
  unfold nameL
  rw [decide_eq_true (by rw [← size_list]; exact h1), decide_eq_true (by rw [← size_list]; exact h2), hh]
  rfl
theorem IsW.take {w : World} {v : Value} {l : List Bs} (h : IsW w v l) (k : Nat) (hk : k ≤ l.length) : ∀ a c, v = .slice a l.length c → IsW w (.slice a k c) (l.take k) := by
  intro a c e
  rcases h with ⟨rfl, a', c', rfl⟩ | ⟨b, o, cap, rfl, hc⟩
  · injection e with e1 e2 e3
    subst e1 e3
    have : k = 0 := by simpa using hk
    subst this
    exact .inl ⟨by simp, _, _, rfl⟩
  · injection e with e1 e2 e3
    subst e1 e3
    refine .inr ⟨b, o, cap, by rw [List.length_take, Nat.min_eq_left hk], fun j hj => ?_⟩
    rw [List.length_take] at hj
    rw [hc j (by omega)]
    simp
/-- Nothing but draws. -/
def Qt (w w' : World) : Prop := ∃ m, w' = w.drewN m
theorem Qt.refl (w : World) : Qt w w := ⟨0, rfl⟩
theorem drewN_add (w : World) (a b : Nat) : (w.drewN a).drewN b = w.drewN (a + b) := by
  unfold World.drewN
  simp [Nat.add_assoc]
theorem Qt.trans {a b c : World} (h : Qt a b) (g : Qt b c) : Qt a c := by
  obtain ⟨m, rfl⟩ := h
  obtain ⟨n, rfl⟩ := g
  exact ⟨m + n, drewN_add _ _ _⟩
theorem Qt.below {w w' : World} (h : Qt w w') : Below w.heap.size w w' := by
  obtain ⟨m, rfl⟩ := h
  exact ⟨rfl, rfl, rfl, Nat.le_refl _, fun _ _ => rfl⟩
theorem IsW.drewN {w : World} {v : Value} {l : List Bs} (h : IsW w v l) (m : Nat) : IsW (w.drewN m) v l := h.below (Qt.below ⟨m, rfl⟩)
theorem Qt.drew {w w' : World} (h : Qt w w') : Qt w w'.drew := h.trans ⟨1, rfl⟩
end Go.Proofs.YtfjganjihapnhabGreatDoor
