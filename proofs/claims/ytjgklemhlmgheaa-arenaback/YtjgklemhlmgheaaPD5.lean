/- The program's arena: a node more. -/
import Derived.Test.YtjgklemhlmgheaaPC5
import Derived.Deep.RegionLaw
set_option linter.unusedVariables false
set_option linter.unusedSimpArgs false
namespace Go.Proofs.Ytjgklemhlmgheaa
open Go.RowKit

theorem step_append_run {P : Program} {ops : Array Oper} {o : Oper} {a : Act} {w : World} {K : Act → World → Prop} {Q : Exit → Act → World → Prop} {E : Prop}
    (hg : o.guard = none) (d x : Operand) (dT sT : TypeId) (hop : o.op = Op.call { callee := Callee.builtin Builtin.append, args := #[d, x], argTypes := #[dT, sT] })
    (v u : Value) (hd : a.eval d = v) (hx : a.eval x = u) {v' : Value} {w' : World} (hr : (Builtin.append_ #[dT, sT] o.type #[v, u]).run P w = .ok v' w') (hK : K (a.put o.dst v') w') :
    if Region.wanted o (yielded ops a.tmps) = true then Oper.wp P o a w K Q else E := by
  have hw : Region.wanted o (yielded ops a.tmps) = true := by simp [Region.wanted, hg]
  rw [if_pos hw]
  unfold Oper.wp
  simp [execOp, hop, resolve, invoke, builtin, hd, hx, hr, Result.andThen]
  exact hK
/-- Where what is appended to lies: where it lay, or in a new block. -/
theorem append_where {P : Program} (w : World) (t tx ty e : TypeId) (i : TypeInfo) (z : Value) (size : Nat) (ht : P.underlying t = some (.slice e)) (hi : P.info? e = some i) (hz : i.zero = some z) (hsize : i.size = size)
    (v : Value) (n : Nat) (xs : List Value) (hown : w.ownsRow 0 e size v n xs) (x : Value) (m : Nat) (news : List Value) (hs : Src P size tx x m news w) (h63 : n + m ≤ maxLen) (hfit : (n + m) * i.bytes ≤ 140737488355328) (hn0 : v = .slice none 0 0 → m ≠ 0)
    (v' : Value) (w' : World) (hr : (Builtin.append_ #[t, tx] ty #[v, x]).run P w = .ok v' w') : ∀ k, v'.ownBlock = some k → v.ownBlock = some k ∨ w.heap.size ≤ k := by
  subst hsize
  intro k hk
  have h63' : ((n + m : Nat) : Int) ≤ 9223372036854775807 := by unfold maxLen at h63; omega
  rcases hown.2 with ⟨rfl, rfl⟩ | ⟨g, cap, cur, rfl, hbg, hg, hnc, hcm, hcs, htake⟩
  · have hm := hn0 rfl
    have h2 := run_append_grow_src w t tx ty e i z ht hi hz none 0 0 [] (run_firstCells_none w.drew i.size 0 0 0) x m news hs (by omega) h63' (growslice_fits (by omega) hfit)
    rw [hr] at h2
    injection h2 with h2
    subst h2
    have : w.heap.size = k := by simpa [Value.ownBlock] using hk
    exact .inr (by omega)
  · by_cases hroom : n + m ≤ cap
    · have hl : news.length = m * i.size := hs.newsLen
      have hb1 : n * i.size + m * i.size ≤ cap * i.size := by rw [← Nat.add_mul]; exact Nat.mul_le_mul_right _ hroom
      have h2 := run_append_room_src w t tx ty e i ht hi g 0 n cap x m news hs hroom (fun j hj => by
        simp only [World.cell?, hg]
        rw [hl] at hj
        have : 0 + n * i.size + j < cur.size := by rw [hcs]; omega
        rw [Nat.zero_add] at this
        simp [this]) (fun j hj => by simp [World.frozen?, hg])
      rw [hr] at h2
      injection h2 with h2
      subst h2
      exact .inl hk
    · have h2 := run_append_grow_src w t tx ty e i z ht hi hz (some ⟨g, 0, none⟩) n cap xs (run_firstCells_some w.drew i.size n ⟨g, 0, none⟩ n cap xs hown.1 (hown.cells (g := g) rfl)) x m news hs (by omega) h63' (growslice_fits (by omega) hfit)
      rw [hr] at h2
      injection h2 with h2
      subst h2
      have : w.heap.size = k := by simpa [Value.ownBlock] using hk
      exact .inr (by omega)
def andTwo (A : Nat → Prop) (av tv : Value) (n : Nat) : Nat → Prop := fun k => A k ∨ av.ownBlock = some k ∨ tv.ownBlock = some k ∨ n ≤ k
/-- A node more, of no kids, behind the others. -/
theorem PV.push {A : Nat → Prop} {w w1 : World} {pb g cap g' cap' : Nat} {rs : List RV} (h : PV A w pb g cap rs) (d : ND) (av tv : Value) (hA : IsA w av d.attrs) (hT : OwnB w tv d.text)
    (hav : ∀ k, av.ownBlock = some k → ¬ A k ∧ k < w.heap.size) (htv : ∀ k, tv.ownBlock = some k → ¬ A k ∧ k < w.heap.size) (hor : av.ownBlock = none ∨ tv.ownBlock = none)
    (hrow : w1.ownsRow 0 66 7 (.slice (some ⟨g', 0, none⟩) (rs.length + 1) cap') (rs.length + 1) (rvCells (rs ++ [⟨⟨d, -1, []⟩, .slice none 0 0, av, tv⟩]))) (hg' : g' = g ∨ w.heap.size ≤ g') (hz : w.heap.size ≤ w1.heap.size)
    (hk : ∀ k, k < w.heap.size → k ≠ g → w1.heap[k]? = w.heap[k]?) :
    PV (andTwo A av tv w.heap.size) (w1.setCell ⟨pb, 0, none⟩ (.slice (some ⟨g', 0, none⟩) (rs.length + 1) cap')) pb g' cap' (rs ++ [⟨⟨d, -1, []⟩, .slice none 0 0, av, tv⟩]) := by
  generalize hr' : (⟨⟨d, -1, []⟩, .slice none 0 0, av, tv⟩ : RV) = r' at *
  have rkv : r'.kv = .slice none 0 0 := by rw [← hr']
  have rav : r'.av = av := by rw [← hr']
  have rtv : r'.tv = tv := by rw [← hr']
  have hpb := h.lt .tree pb rfl
  have hpg : pb ≠ g := fun e => by have := h.sep .tree .row pb rfl (by rw [e]; rfl); cases this
  have hpg' : pb ≠ g' := by
    rcases hg' with e | e
    · rw [e]; exact hpg
    · omega
  have hp1 : w1.heap[pb]? = w.heap[pb]? := hk pb hpb hpg
  have hold : ∀ s, s ≠ .row → (∀ k, slotB pb g rs s = some k → (w1.setCell ⟨pb, 0, none⟩ (.slice (some ⟨g', 0, none⟩) (rs.length + 1) cap')).heap[k]? = w.heap[k]? ∨ s = .tree) := fun s hs k e => by
    by_cases ht : s = .tree
    · exact .inr ht
    · left
      have h1 : k ≠ pb := fun e2 => ht (h.sep s .tree k e (by rw [e2]; rfl))
      have h2 : k ≠ g := fun e2 => hs (h.sep s .row k e (by rw [e2]; rfl))
      rw [Below.heap_setCell _ _ _ _ h1]
      exact hk k (h.lt s k e) h2
  have hnew : ∀ k, k < w.heap.size → ¬ A k → (w1.setCell ⟨pb, 0, none⟩ (.slice (some ⟨g', 0, none⟩) (rs.length + 1) cap')).heap[k]? = w.heap[k]? := fun k hk1 hk2 => by
    have h1 : k ≠ pb := fun e2 => hk2 (e2 ▸ h.inA .tree pb rfl)
    have h2 : k ≠ g := fun e2 => hk2 (e2 ▸ h.inA .row g rfl)
    rw [Below.heap_setCell _ _ _ _ h1]
    exact hk k hk1 h2
  have hgl : ∀ i, i < rs.length → (rs ++ [r'])[i]? = rs[i]? := fun i hi => List.getElem?_append_left hi
  have hgn : (rs ++ [r'])[rs.length]? = some r' := by simp
  have hgo : ∀ i, rs.length < i → (rs ++ [r'])[i]? = none := fun i hi => List.getElem?_eq_none (by simp; omega)
  -- the slots, old ones and new ones
  have slots : ∀ s k, slotB pb g' (rs ++ [r']) s = some k → (s ≠ .row ∧ slotB pb g rs s = some k) ∨ (s = .row ∧ k = g') ∨ (s = .att rs.length ∧ av.ownBlock = some k) ∨ (s = .txt rs.length ∧ tv.ownBlock = some k) := by
    intro s k e
    cases s using Sl.ind with
    | tree => exact .inl ⟨by simp, e⟩
    | row => exact .inr (.inl ⟨rfl, by simpa [slotB] using e.symm⟩)
    | kid i =>
      rcases Nat.lt_trichotomy i rs.length with hi | hi | hi
      · left
        simp only [slotB, hgl i hi] at e ⊢
        exact ⟨by simp, e⟩
      · subst hi
        simp only [slotB, hgn, Option.bind_some, rkv] at e
        cases e
      · simp only [slotB, hgo i hi] at e
        cases e
    | att i =>
      rcases Nat.lt_trichotomy i rs.length with hi | hi | hi
      · left
        simp only [slotB, hgl i hi] at e ⊢
        exact ⟨by simp, e⟩
      · subst hi
        simp only [slotB, hgn, Option.bind_some, rav] at e
        exact .inr (.inr (.inl ⟨rfl, e⟩))
      · simp only [slotB, hgo i hi] at e
        cases e
    | txt i =>
      rcases Nat.lt_trichotomy i rs.length with hi | hi | hi
      · left
        simp only [slotB, hgl i hi] at e ⊢
        exact ⟨by simp, e⟩
      · subst hi
        simp only [slotB, hgn, Option.bind_some, rtv] at e
        exact .inr (.inr (.inr ⟨rfl, e⟩))
      · simp only [slotB, hgo i hi] at e
        cases e
  have oldA : ∀ s k, slotB pb g rs s = some k → A k := h.inA
  have rowA : ∀ k, k = g' → A k ∨ w.heap.size ≤ k := fun k e => by
    rcases hg' with e2 | e2
    · exact .inl (e ▸ e2 ▸ h.inA .row g rfl)
    · exact .inr (by omega)
  have sepN : Apart (slotB pb g' (rs ++ [r'])) := by
    intro s t k e1 e2
    have rowOld : ∀ s', s' ≠ .row → slotB pb g rs s' = some k → k = g' → False := fun s' hs e3 e4 => by
      rcases hg' with e5 | e5
      · exact hs (h.sep s' .row k e3 (by rw [e4, e5]; rfl))
      · have := h.lt s' k e3
        omega
    have fresh : ∀ (k : Nat), (¬ A k ∧ k < w.heap.size) → k ≠ g' := fun k hk e => by
      rcases rowA k e with h1 | h1
      · exact hk.1 h1
      · omega
    rcases slots s k e1 with ⟨a1, a2⟩ | ⟨a1, a2⟩ | ⟨a1, a2⟩ | ⟨a1, a2⟩ <;> rcases slots t k e2 with ⟨b1, b2⟩ | ⟨b1, b2⟩ | ⟨b1, b2⟩ | ⟨b1, b2⟩
    · exact h.sep s t k a2 b2
    · exact (rowOld s a1 a2 b2).elim
    · exact ((hav k b2).1 (oldA s k a2)).elim
    · exact ((htv k b2).1 (oldA s k a2)).elim
    · exact (rowOld t b1 b2 a2).elim
    · rw [a1, b1]
    · exact (fresh k (hav k b2) a2).elim
    · exact (fresh k (htv k b2) a2).elim
    · exact ((hav k a2).1 (oldA t k b2)).elim
    · exact (fresh k (hav k a2) b2).elim
    · rw [a1, b1]
    · rcases hor with h1 | h1
      · rw [h1] at a2; cases a2
      · rw [h1] at b2; cases b2
    · exact ((htv k a2).1 (oldA t k b2)).elim
    · exact (fresh k (htv k a2) b2).elim
    · rcases hor with h1 | h1
      · rw [h1] at b2; cases b2
      · rw [h1] at a2; cases a2
    · rw [a1, b1]
  have hlen : (rs ++ [r']).length = rs.length + 1 := by simp
  have hat : ∀ i (hi : i < (rs ++ [r']).length), (∃ hi2 : i < rs.length, (rs ++ [r'])[i] = rs[i]) ∨ (i = rs.length ∧ (rs ++ [r'])[i] = r') := fun i hi => by
    by_cases h1 : i < rs.length
    · exact .inl ⟨h1, List.getElem_append_left h1⟩
    · have h2 : i = rs.length := by omega
      subst h2
      exact .inr ⟨rfl, by simp⟩
  refine ⟨?_, ?_, ?_, fun i hi => ?_, fun i hi => ?_, fun i hi k e => ?_, fun i hi => ?_, sepN, fun s k e => ?_⟩
  · rw [hlen]
    exact World.cell?_setCell_same _ _ _ (by rw [World.cell?_of_block (a := ⟨pb, 0, none⟩) hp1, h.tree])
  · rw [World.frozen?_setCell, World.frozen?_of_block (a := ⟨pb, 0, none⟩) hp1]
    exact h.treeF
  · rw [hlen]
    refine ownsRow_keep hrow fun k e => ?_
    have : g' = k := by simpa [Value.ownBlock] using e
    exact Below.heap_setCell _ _ _ _ (by rw [← this]; exact fun e => hpg' e.symm)
  · rcases hat i hi with ⟨hi2, e1⟩ | ⟨_, e1⟩
    · rw [e1]
      exact ownsRow_keep (h.kid i hi2) fun k e => (hold (.kid i) (by simp) k (by rw [slot_kid pb g rs i hi2]; exact e)).resolve_right (by simp)
    · rw [e1, rkv, ← hr']
      exact World.ownsRow_nil _ _ _ _
  · rcases hat i hi with ⟨hi2, e1⟩ | ⟨_, e1⟩
    · rw [e1]
      exact isA_keep (h.att i hi2) fun k e => (hold (.att i) (by simp) k (by rw [slot_att pb g rs i hi2]; exact e)).resolve_right (by simp)
    · rw [e1, rav, ← hr']
      exact isA_keep hA fun k e => hnew k (hav k e).2 (hav k e).1
  · have hs : (w1.setCell ⟨pb, 0, none⟩ (.slice (some ⟨g', 0, none⟩) (rs.length + 1) cap')).heap.size = w1.heap.size := by simp [World.setCell]
    rw [hs]
    rcases hat i hi with ⟨hi2, e1⟩ | ⟨_, e1⟩
    · rw [e1] at e
      exact Nat.lt_of_lt_of_le (h.attL i hi2 k e) hz
    · rw [e1, rav] at e
      exact Nat.lt_of_lt_of_le (hav k e).2 hz
  · rcases hat i hi with ⟨hi2, e1⟩ | ⟨_, e1⟩
    · rw [e1]
      exact (h.txt i hi2).keep fun k e => (hold (.txt i) (by simp) k (by rw [slot_txt pb g rs i hi2]; exact e)).resolve_right (by simp)
    · rw [e1, rtv, ← hr']
      exact hT.keep fun k e => hnew k (htv k e).2 (htv k e).1
  · rcases slots s k e with ⟨_, a2⟩ | ⟨_, a2⟩ | ⟨_, a2⟩ | ⟨_, a2⟩
    · exact .inl (oldA s k a2)
    · rcases rowA k a2 with h1 | h1
      · exact .inl h1
      · exact .inr (.inr (.inr h1))
    · exact .inr (.inl a2)
    · exact .inr (.inr (.inl a2))
end Go.Proofs.Ytjgklemhlmgheaa
