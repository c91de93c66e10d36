/- What the program's Crash does. -/
import Derived.Test.YteacldkfdhhphaaPh14
set_option linter.unusedVariables false
set_option linter.unusedSimpArgs false
set_option maxRecDepth 4000
namespace Go.Proofs.Yteacldkfdhhphaa
open Go.RowKit

theorem KRel.undoP {w : World} {k : KD} {d : DM} (h1 : IsKD w k) (h2 : KRel k d) (hF : Fit d) : UndoP w k := by
  have e : d.l.length = 4 * k.ws.length := by rw [h2.l, pcs_len]
  exact ⟨h1, by have := hF.s; have := h2.n4; omega, h2.len, by have := hF.l; omega, h2.ok⟩
set_option maxHeartbeats 8000000 in
theorem pcrash_any (A : Nat → Prop) (v : Value) (d : DM) (kv : Value) (keep : List Bool) (w : World) (hK : IsK A w v d) (hF : Fit d) (hY : IsF w kv keep) (hO : keep ≠ [] → Off A kv) (hb : keep.length ≤ 9223372036854775807) : Calls Try.prog 22 #[v, kv] w fun e w' => e = .returned (.tuple #[]) ∧ KR IsK A w v (crashD d keep) w' := by
  obtain ⟨k, rfl, rfl, h1, h2⟩ := hK
  have hu := h2.undoP h1 hF
  have HU := hide (kundo k w hu)
  have HR : Hid (∀ x, IsKD x { k with F := undoL k.F k.ws } → ButA (fun j => j = k.g) w x → Calls Try.prog 37 #[.pointer (some ⟨k.a, 0, none⟩), kv] x fun e w' => e = .returned (.tuple #[]) ∧ ∃ i, (keep.length ≤ i ∨ 4 * k.ws.length ≤ i) ∧ IsKD w' { k with F := crashF d keep i } ∧ ButA (fun j => j = k.g) x w') := hide (fun x hx hbx => by
    refine kredo { k with F := undoL k.F k.ws } d k.F kv keep x ⟨⟨hx, hu.n, by show (undoL k.F k.ws).length = _; rw [undo_len]; exact hu.len, hu.l, hu.ok⟩, h2, hF.ok, h2.undo, ?_, ?_, hb⟩
    · by_cases h0 : keep = []
      · subst h0
        rcases hY with hY | ⟨b, o, cap, e, _⟩
        · exact .inl hY
        · exact .inl ⟨rfl, some ⟨b, o, none⟩, cap, e⟩
      · refine hY.keep fun j hj => ?_
        have hn := hO h0 j hj
        rcases hY with ⟨e, _⟩ | ⟨b, o, cap, e, hh⟩
        · exact absurd e h0
        · subst e
          cases hj
          have hl : 0 < keep.length := List.length_pos_iff.2 h0
          exact hbx.block b (cell_lt (hh 0 hl)) (fun e => hn (.inr (.inl e)))
    · intro h0 b hb e
      exact hO h0 b hb (.inr (.inl e)))
  have HE : Hid (∀ x y i, IsKD x { k with F := undoL k.F k.ws } → ButA (fun j => j = k.g) w x → (keep.length ≤ i ∨ 4 * k.ws.length ≤ i) → IsKD y { k with F := crashF d keep i } → ButA (fun j => j = k.g) x y → KR IsK (kdA k) w (.pointer (some ⟨k.a, 0, none⟩)) (crashD d keep) ((((y.setCell ⟨k.a, 1, none⟩ (.slice none 0 0)).setCell ⟨k.a, 2, none⟩ (.bool false)).setCell ⟨k.a, 3, none⟩ (.int .i64 0)).setCell ⟨k.a, 4, none⟩ (.bool false))) := hide (fun x y i hx hbx hi hy hby => by
    have q1 := heap_box_set (heap_box_set (heap_box_set (heap_box_set hy.box 1 (.slice none 0 0)) 2 (.bool false)) 3 (.int .i64 0)) 4 (.bool false)
    have b1 : ButA (kdA k) w y := (hbx.mono fun j hj => .inr (.inl hj)).trans (hby.mono fun j hj => (.inr (.inl hj) : kdA k j)) fun j _ h => h
    have b2 : ButA (kdA k) w ((((y.setCell ⟨k.a, 1, none⟩ (.slice none 0 0)).setCell ⟨k.a, 2, none⟩ (.bool false)).setCell ⟨k.a, 3, none⟩ (.int .i64 0)).setCell ⟨k.a, 4, none⟩ (.bool false)) := (((b1.setCell (.inl (.inl rfl)) _).setCell (.inl (.inl rfl)) _).setCell (.inl (.inl rfl)) _).setCell (.inl (.inl rfl)) _
    have hg : ((((y.setCell ⟨k.a, 1, none⟩ (.slice none 0 0)).setCell ⟨k.a, 2, none⟩ (.bool false)).setCell ⟨k.a, 3, none⟩ (.int .i64 0)).setCell ⟨k.a, 4, none⟩ (.bool false)).heap[k.g]? = y.heap[k.g]? := by
      have hne : k.g ≠ k.a := fun e => h1.ag e.symm
      rw [Below.heap_setCell _ _ _ _ hne, Below.heap_setCell _ _ _ _ hne, Below.heap_setCell _ _ _ _ hne, Below.heap_setCell _ _ _ _ hne]
    refine ⟨kdA { k with F := crashF d keep i, pv := .slice none 0 0, ws := [], fu := false, left := 0, off := false }, ⟨{ k with F := crashF d keep i, pv := .slice none 0 0, ws := [], fu := false, left := 0, off := false }, rfl, rfl, ⟨q1, hg.trans hy.blk, PendAt.nil _, h1.ag, fun j hj => by cases hj⟩, h2.crash hF.ok keep i hi⟩, ?_, b2⟩
    intro j hj
    rcases hj with hj | hj | hj
    · exact .inl (.inl hj)
    · exact .inl (.inr (.inl hj))
    · cases hj)
  clear h1 h2 hu hb hO
  obtain ⟨ka, kc, rfl⟩ := hY.form
  clear hY
  go_enter Try.func22, Try.ntmps22
  go_wp2_with fail
  refine HU.out.mono ?_
  rintro e w1 ⟨rfl, u1, u2⟩
  clear HU
  have HR1 := hide (HR.out w1 u1 u2)
  have HE1 := hide (fun y i a b c => HE.out w1 y i u1 u2 a b c)
  clear HR HE u1 u2
  go_wp2_with fail
  refine HR1.out.mono ?_
  rintro e w2 ⟨rfl, i, r1, r2, r3⟩
  have HF := hide (HE1.out w2 i r1 r2 r3)
  obtain ⟨x0, x1, x2, x3, x4, xf⟩ := kd_cells r2.box
  obtain ⟨pa, pc, hp⟩ := r2.pend.form
  simp only [] at x0 x1 x2 x3 x4 xf hp
  rw [hp] at x1
  clear HR1 HE1 r1 r2 r3 hp
  generalize k.ws.length = L at *
  have f1 : ∀ u : World, ∀ j v, u.frozen? ⟨k.a, j, none⟩ = false → (u.setCell ⟨k.a, 1, none⟩ v).frozen? ⟨k.a, j, none⟩ = false := fun u j v h => by rw [World.frozen?_setCell]; exact h
  have y2 : (w2.setCell ⟨k.a, 1, none⟩ (.slice none 0 0)).cell? ⟨k.a, 2, none⟩ = some (.bool k.fu) := (World.cell?_setCell_other _ _ _ _ (by intro e; injection e; omega)).trans x2
  have y3 : ((w2.setCell ⟨k.a, 1, none⟩ (.slice none 0 0)).setCell ⟨k.a, 2, none⟩ (.bool false)).cell? ⟨k.a, 3, none⟩ = some (.int .i64 k.left) := (World.cell?_setCell_other _ _ _ _ (by intro e; injection e; omega)).trans ((World.cell?_setCell_other _ _ _ _ (by intro e; injection e; omega)).trans x3)
  have y4 : (((w2.setCell ⟨k.a, 1, none⟩ (.slice none 0 0)).setCell ⟨k.a, 2, none⟩ (.bool false)).setCell ⟨k.a, 3, none⟩ (.int .i64 0)).cell? ⟨k.a, 4, none⟩ = some (.bool k.off) := (World.cell?_setCell_other _ _ _ _ (by intro e; injection e; omega)).trans ((World.cell?_setCell_other _ _ _ _ (by intro e; injection e; omega)).trans ((World.cell?_setCell_other _ _ _ _ (by intro e; injection e; omega)).trans x4))
  clear f1
  generalize k.left = left at *
  go_wp2
  go_end0
  exact ⟨rfl, HF.out⟩
end Go.Proofs.Yteacldkfdhhphaa
