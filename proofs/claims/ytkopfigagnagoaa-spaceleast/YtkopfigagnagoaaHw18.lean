/- What the program's set does: the row of what is taken is put in, and what is free is laid anew. -/
import Derived.Test.YtkopfigagnagoaaHv18
set_option linter.unusedVariables false
set_option linter.unusedSimpArgs false
set_option maxRecDepth 4000
namespace Go.Proofs.Ytkopfigagnagoaa
open Go.RowKit

theorem ButA.block_of {A : Nat → Prop} {w w' : World} (h : ButA A w w') {k : Nat} (hk : k < w.heap.size) (hn : ¬ A k) : w'.heap[k]? = w.heap[k]? := h.block k hk hn
/-- What stands while set goes on. -/
structure SetS (w wr : World) (b tg n c : Nat) (s : SL) (i : Nat) (fv : Value) (l : List Nat) : Prop where
  nums : NumS wr (.slice (some ⟨tg, 0, none⟩) n c) b fv l
  rise : Rise l s i
  row : wr.ownsRow 0 4 1 (.slice (some ⟨tg, 0, none⟩) n c) n (boolsV s)
  but : ButA (fun k => k = b) w wr
  new : ∀ k, fv.ownBlock = some k → w.heap.size ≤ k
theorem SetS.taken {w wr : World} {b tg n c : Nat} {s : SL} {i : Nat} {fv : Value} {l : List Nat} (h : SetS w wr b tg n c s i fv l) (hi : s[i]? = some true) : SetS w wr b tg n c s (i + 1) fv l :=
  ⟨h.nums, h.rise.taken hi, h.row, h.but, h.new⟩
theorem SetS.free {w wr : World} {b tg n c : Nat} {s : SL} {i : Nat} {fv : Value} {l : List Nat} (h : SetS w wr b tg n c s i fv l) (hi : s[i]? = some false) (hb : b < w.heap.size) (ht : tg < w.heap.size) (htb : tg ≠ b) (hs : s.length ≤ 4096) :
    ∃ a' c' w', (Builtin.append_ #[50, 50] 50 #[fv, .slice (some ⟨wr.heap.size, 0, none⟩) 1 1]).run Try.prog (wr.alloc (.cells #[.int .i64 (i : Int)] 3)) = .ok (.slice a' (l.length + 1) c') w' ∧
      w'.cell? ⟨b, 1, none⟩ = some fv ∧ w'.frozen? ⟨b, 1, none⟩ = false ∧ SetS w (w'.setCell ⟨b, 1, none⟩ (.slice a' (l.length + 1) c')) b tg n c s (i + 1) (.slice a' (l.length + 1) c') (l ++ [i]) := by
  have hil : i < s.length := (List.getElem?_eq_some_iff.1 hi).1
  have hll : l.length < 4096 := by
    have h1 := (h.rise.free hi).le
    rw [List.length_append, List.length_singleton] at h1
    omega
  obtain ⟨v', w', hr, ⟨a', c', rfl⟩, c1, c2, hwb, hF⟩ := append_num wr _ b fv l i h.nums hll
  obtain ⟨q1, q2, q3⟩ := hF _ (Still.refl _)
  have hsz := h.but.size
  have hnn : ∀ k, (Value.slice a' (l.length + 1) c').ownBlock = some k → w.heap.size ≤ k := fun k e => (q3 k e).elim (h.new k) (fun h5 => by omega)
  refine ⟨a', c', w', hr, c1, c2, q1, h.rise.free hi, ?_, ?_, hnn⟩
  · refine ownsRow_keep h.row fun k e => q2.block k ?_ ?_
    · have : tg = k := by injection e
      omega
    · have : tg = k := by injection e
      subst this
      rintro (h5 | h5)
      · exact htb h5
      · have := h.new _ h5
        omega
  · exact h.but.trans q2 fun j hj hb' => hb'.elim id (fun h5 => by have := h.new _ h5; omega)
set_option maxHeartbeats 8000000 in
theorem pset_any (b tg n c : Nat) (s : SL) (w : World) (x y : Value) (hx : w.cell? ⟨b, 0, none⟩ = some x) (hy : w.cell? ⟨b, 1, none⟩ = some y) (fx : w.frozen? ⟨b, 0, none⟩ = false) (fy : w.frozen? ⟨b, 1, none⟩ = false)
    (hr : w.ownsRow 0 4 1 (.slice (some ⟨tg, 0, none⟩) n c) n (boolsV s)) (hn : s.length = n) (hle : n ≤ 4096) (htb : tg ≠ b) :
    Calls Try.prog 22 #[.pointer (some ⟨b, 0, none⟩), .slice (some ⟨tg, 0, none⟩) n c] w fun e w' => e = .returned (.tuple #[]) ∧ ∃ fv l, SetS w w' b tg n c s n fv l := by
  have hb : b < w.heap.size := cell_lt hx
  have ht : tg < w.heap.size := (hr.lt tg rfl).2
  have H0 : Hid (SetS w ((w.setCell ⟨b, 0, none⟩ (.slice (some ⟨tg, 0, none⟩) n c)).setCell ⟨b, 1, none⟩ (.slice none 0 0)) b tg n c s 0 (.slice none 0 0) []) := hide (by
    have e1 : (w.setCell ⟨b, 0, none⟩ (.slice (some ⟨tg, 0, none⟩) n c)).cell? ⟨b, 1, none⟩ = some y := (World.cell?_setCell_other _ _ _ _ (by simp)).trans hy
    refine ⟨⟨by rw [World.cell?_setCell_other _ _ _ _ (by simp)]; exact World.cell?_setCell_same _ _ _ (by rw [hx]), by rw [World.frozen?_setCell, World.frozen?_setCell]; exact fx, World.cell?_setCell_same _ _ _ (by rw [e1]), by rw [World.frozen?_setCell, World.frozen?_setCell]; exact fy, World.ownsRow_nil _ _ _ _, (by intro e; cases e), Nat.zero_le _⟩, Rise.zero s, ?_, ?_, fun k e => by cases e⟩
    · refine ownsRow_keep hr fun k e => ?_
      have e2 : tg = k := by injection e
      subst e2
      rw [Below.heap_setCell _ _ _ _ htb, Below.heap_setCell _ _ _ _ htb]
    · exact ButA.setCell (a := ⟨b, 1, none⟩) (ButA.setCell (a := ⟨b, 0, none⟩) (ButA.refl (fun k => k = b) w) (.inl rfl) _) (.inl rfl) _)
  have HN := hide hn
  have e1 : (w.setCell ⟨b, 0, none⟩ (.slice (some ⟨tg, 0, none⟩) n c)).cell? ⟨b, 1, none⟩ = some y := (World.cell?_setCell_other _ _ _ _ (by simp)).trans hy
  clear hr hy hn
  go_enter Try.func22, Try.ntmps22
  go_wp2
  go_loopw [14] (fun vi wr => ∃ (i : Nat) (fv : Value) (l : List Nat), vi = .int .i64 (i : Int) ∧ i ≤ n ∧ Hid (SetS w wr b tg n c s i fv l)) (fun vi _ => n - (intOf vi).toNat)
  case atStart => exact ⟨0, _, _, rfl, Nat.zero_le _, H0⟩
  case round =>
    clear H0 e1 hx fx fy
    obtain ⟨i, fv, l, rfl, hi, HS⟩ := hrel
    by_cases hlt : i < n
    · have hlt2 : (i : Int) < n := by omega
      obtain ⟨t, hst⟩ : ∃ t, s[i]? = some t := ⟨_, List.getElem?_eq_getElem (by rw [HN.out]; exact hlt)⟩
      have hcell : wr.cell? ⟨tg, i, none⟩ = some (.bool t) := by
        have h5 := HS.out.row.cellAt i (by omega)
        rw [h5]
        obtain ⟨h6, h7⟩ := List.getElem?_eq_some_iff.1 hst
        rw [boolsV_get s i h6, h7]
      have HT := hide hst
      clear hst
      cases t
      · obtain ⟨a, c0, rfl⟩ := HS.out.nums.form
        obtain ⟨a', c', w', hr, c1, c2, hS⟩ := HS.out.free HT.out hb ht htb (by rw [HN.out]; exact hle)
        have cb := HS.out.nums.cell
        have HR := hide hr
        have HS2 := hide hS
        clear hr hS HS HT
        generalize l.length = m at *
        go_wp2_with (at_builtin; refine Lib.wpList_append_run _ rfl (.tmp 26) (.tmp 28) _ _ rfl (.slice a m c0) (.slice (some ⟨wr.heap.size, 0, none⟩) 1 1) rfl rfl _ _ HR.out ?_)
        go_roundw
        case rel => exact ⟨i + 1, _, _, by go_num, by omega, HS2⟩
        case measure => simp [intOf]; omega
      · have HS2 := hide (HS.out.taken HT.out)
        clear HS HT
        go_wp2
        go_roundw
        case rel => exact ⟨i + 1, _, _, by go_num, by omega, HS2⟩
        case measure => simp [intOf]; omega
    · have hlt2 : ¬ (i : Int) < n := by omega
      obtain rfl : i = n := by omega
      go_wp2
      go_end0
      exact ⟨rfl, fv, l, HS.out⟩
end Go.Proofs.Ytkopfigagnagoaa
