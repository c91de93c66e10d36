/- Arenas over lists: out and in again. No program in it. -/
import Derived.Test.YthopnliaikkhbaaGreatDoorS5ArC
set_option linter.unusedVariables false
set_option linter.unusedSimpArgs false
set_option maxRecDepth 4000
namespace Go.Proofs.YthopnliaikkhbaaGreatDoor.S5

theorem setK_self (T : TR) (n : Nat) (hn : n < T.length) : setK T n (kidsAt T n) = T := by
  unfold setK
  rw [kidsAt_get hn]
  have : nodeAt T n = T[n].1 := by unfold nodeAt; rw [List.getElem?_eq_getElem hn]; rfl
  rw [this]
  exact List.set_getElem_self hn
theorem setK_twice (T : TR) (n : Nat) (k1 k2 : List Nat) : setK (setK T n k1) n k2 = setK T n k2 := by
  rw [setK, node_set]
  unfold setK
  rw [List.set_set]
theorem out_same {T : TR} {n : Nat} (h : parentN T n = none) : outL T n = T := by
  unfold outL
  rw [h]
theorem out_parent {T : TR} (h : WF T) (n : Nat) : parentN (outL T n) n = none := by
  cases hp : parentN (outL T n) n with
  | none => rfl
  | some q => exact absurd (parent_some hp) (out_none h n q)
theorem out_at {T : TR} (h : WF T) {n p : Nat} (hp : n ∈ kidsAt T p) : outL T n = setK T p ((kidsAt T p).filter (fun x => !(x == n))) := by
  unfold outL
  rw [h.parent hp]
theorem ahead_back (n : Nat) : ∀ (a b : List Nat) (x : Nat), (a ++ n :: x :: b).Nodup → aheadL x n ((a ++ n :: x :: b).filter (fun y => !(y == n))) = a ++ n :: x :: b
  | [], b, x, hn => by
    obtain ⟨h1, h2⟩ := List.nodup_cons.1 hn
    obtain ⟨h3, h4⟩ := List.nodup_cons.1 h2
    have hxn : ¬ x = n := fun e => h1 (by simp [e])
    rw [List.nil_append, List.filter_cons, if_neg (by simp), filter_self n (x :: b) h1]
    unfold aheadL
    rw [List.flatMap_cons, if_pos rfl]
    have hb : ∀ l : List Nat, x ∉ l → (l.flatMap fun y => if y = x then [n, y] else [y]) = l := by
      intro l hl
      induction l with
      | nil => rfl
      | cons y r ih =>
        simp only [List.mem_cons, not_or] at hl
        rw [List.flatMap_cons, if_neg (fun e => hl.1 e.symm), ih hl.2]
        rfl
    rw [hb b h3]
    rfl
  | y :: a, b, x, hn => by
    rw [List.cons_append] at hn ⊢
    obtain ⟨h1, h2⟩ := List.nodup_cons.1 hn
    have ih := ahead_back n a b x h2
    have hyn : ¬ y = n := fun e => h1 (by simp [e])
    have hyx : ¬ y = x := fun e => h1 (by simp [e])
    rw [List.filter_cons, if_pos (by simp [hyn])]
    unfold aheadL at ih ⊢
    rw [List.flatMap_cons, if_neg hyx, ih]
    rfl
theorem last_back (n : Nat) (a : List Nat) (h : (a ++ [n]).Nodup) : (a ++ [n]).filter (fun y => !(y == n)) ++ [n] = a ++ [n] := by
  have hna : n ∉ a := fun e => (List.nodup_append.1 h).2.2 n e n (by simp) rfl
  rw [List.filter_append, filter_self n a hna]
  simp
/-- A kid that is taken out and put in again ahead of the one that stood behind it is where it was. -/
theorem back_before {T : TR} (h : WF T) {p n x : Nat} {a b : List Nat} (hk : kidsAt T p = a ++ n :: x :: b) : beforeL (outL T n) p x n = T := by
  have hm : n ∈ kidsAt T p := by rw [hk]; simp
  have hp := kidsAt_lt hm
  unfold beforeL
  rw [out_same (out_parent h n), kids_out h n p, hk, ahead_back n a b x (by rw [← hk]; exact h.nodup p), out_at h hm, setK_twice, ← hk]
  exact setK_self T p hp
/-- Or at the end, if it was the last. -/
theorem back_append {T : TR} (h : WF T) {p n : Nat} {a : List Nat} (hk : kidsAt T p = a ++ [n]) : appendL (outL T n) p n = T := by
  have hm : n ∈ kidsAt T p := by rw [hk]; simp
  have hp := kidsAt_lt hm
  unfold appendL
  rw [out_same (out_parent h n), kids_out h n p, hk, last_back n a (by rw [← hk]; exact h.nodup p), out_at h hm, setK_twice, ← hk]
  exact setK_self T p hp
end Go.Proofs.YthopnliaikkhbaaGreatDoor.S5
