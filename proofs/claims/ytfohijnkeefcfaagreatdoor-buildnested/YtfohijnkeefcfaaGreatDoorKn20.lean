import Derived.Test.YtfohijnkeefcfaaGreatDoorKn13
import Derived.Deep.RegionHeld2
set_option linter.unusedVariables false
set_option linter.unusedSimpArgs false
set_option maxRecDepth 100000
set_option maxHeartbeats 8000000
namespace Go.Proofs.YtfohijnkeefcfaaGreatDoor.S6
open Go.RowKit
theorem two_cells (w : World) (u x : Value) (t s : TypeId) : ((w.alloc (.cells #[u] t)).alloc (.cells #[x] s)).cell? ⟨w.heap.size, 0, none⟩ = some u /\ ((w.alloc (.cells #[u] t)).alloc (.cells #[x] s)).cell? ⟨w.heap.size + 1, 0, none⟩ = some x := by
  constructor
  · rw [World.cell?_alloc_past _ _ _ (by simp)]; exact one_cell w u t
  · have := one_cell (w.alloc (.cells #[u] t)) x s
    rw [show (w.alloc (.cells #[u] t)).heap.size = w.heap.size + 1 by simp] at this
    exact this
theorem below_two (w : World) (o p : Obj) : Below w.heap.size w ((w.alloc o).alloc p) := ((Below.refl _ _).alloc (Nat.le_refl _) o).alloc (by simp) p
theorem has_any (l : List OV) (hl : l.length <= 1000000) (names : List (List UInt8)) (hn : names.length <= 1000000) (sc : Int) (v u : Value) (w : World) (hO : IsO w v l) (hW : IsW w u names) :
    Calls Tryz.prog 172 #[v, u, .int .i64 sc] w fun e w' => e = .returned (.bool (hasZ l names sc)) /\ Below w.heap.size w w' := by
  have hmf : ∀ (fn : Fn) (first cap : Array Value) (w : World), (Instr.makeFunc fn first cap).run Tryz.prog w = .ok (.func fn first cap) w := fun _ _ _ _ => rfl
  obtain ⟨t0, t1⟩ := two_cells w u (.int .i64 sc) 36 150
  have bA := below_two w (.cells #[u] 36) (.cells #[.int .i64 sc] 150)
  have H := hide (last_any 209 [.pointer (some ⟨w.heap.size, 0, none⟩), .pointer (some ⟨w.heap.size + 1, 0, none⟩)] (fun o => namedL names o || endsL o sc) l hl v ((w.alloc (.cells #[u] 36)).alloc (.cells #[.int .i64 sc] 150)) (hO.below bA) enters_has
    (fun o w1 b1 => hasC_any o names hn sc u w.heap.size (w.heap.size + 1) w1 (by rw [b1.cell (by simp; omega)]; exact t0) (by rw [b1.cell (by simp)]; exact t1) (hW.below (bA.trans (b1.mono bA.size)))))
  have HB := hide (fun (w1 : World) (b1 : Below ((w.alloc (.cells #[u] 36)).alloc (.cells #[.int .i64 sc] 150)).heap.size ((w.alloc (.cells #[u] 36)).alloc (.cells #[.int .i64 sc] 150)) w1) =>
    show Below w.heap.size w w1 /\ w1.cell? ⟨w.heap.size, 0, none⟩ = some u /\ IsO w1 v l /\ IsW w1 u names from
      ⟨bA.trans (b1.mono bA.size), by rw [b1.cell (by simp; omega)]; exact t0, hO.below (bA.trans (b1.mono bA.size)), hW.below (bA.trans (b1.mono bA.size))⟩)
  obtain ⟨hN, hS⟩ := has_last names sc l l.length (Nat.le_refl _)
  obtain ⟨a, c, rfl⟩ := isO_form hO
  obtain ⟨a2, cc, rfl⟩ := isW_form hW
  have hr := last_some (fun o => namedL names o || endsL o sc) l l.length
  unfold hasZ
  clear hO hW t0 t1 bA
  generalize hasO names sc l l.length = R at *
  cases hLO : lastO (fun o => namedL names o || endsL o sc) l l.length with
  | none =>
    obtain rfl : R = false := hN hLO
    rw [hLO] at H
    have H2 : Hid (Calls Tryz.prog 196 #[.slice a l.length c, .func (.func 209) #[] #[.pointer (some ⟨w.heap.size, 0, none⟩), .pointer (some ⟨w.heap.size + 1, 0, none⟩)]] ((w.alloc (.cells #[.slice a2 names.length cc] 36)).alloc (.cells #[.int .i64 sc] 150)) fun e w' => e = .returned (.int .i64 (-1)) /\ Below ((w.alloc (.cells #[.slice a2 names.length cc] 36)).alloc (.cells #[.int .i64 sc] 150)).heap.size ((w.alloc (.cells #[.slice a2 names.length cc] 36)).alloc (.cells #[.int .i64 sc] 150)) w') := H
    clear H hN hS hr hLO
    go_enter Tryz.func172, Tryz.ntmps172
    go_wp2_with fail
    refine H2.out.mono ?_
    rintro e w1 ⟨rfl, b1⟩
    have HB2 := hide (HB.out _ b1).1
    clear b1 HB
    go_wp2_with fail
    go_region
    all_goals (try go_wp2)
    all_goals go_ret
    all_goals exact ⟨rfl, HB2.out.drew⟩
  | some j =>
    obtain ⟨hj, -, -⟩ := hr j (Nat.le_refl _) hLO
    have hR := hS j hj hLO
    subst hR
    rw [hLO] at H
    have H2 : Hid (Calls Tryz.prog 196 #[.slice a l.length c, .func (.func 209) #[] #[.pointer (some ⟨w.heap.size, 0, none⟩), .pointer (some ⟨w.heap.size + 1, 0, none⟩)]] ((w.alloc (.cells #[.slice a2 names.length cc] 36)).alloc (.cells #[.int .i64 sc] 150)) fun e w' => e = .returned (.int .i64 (j : Int)) /\ Below ((w.alloc (.cells #[.slice a2 names.length cc] 36)).alloc (.cells #[.int .i64 sc] 150)).heap.size ((w.alloc (.cells #[.slice a2 names.length cc] 36)).alloc (.cells #[.int .i64 sc] 150)) w') := H
    clear H hN hS hr hLO
    have HQ := hide (fun w1 h => named_any l[j] names hn (.slice a2 names.length cc) w1 h)
    generalize namedL names l[j] = R at *
    have hj2 : (j : Int) < l.length := by omega
    have hd : ((j : Int) != -1) = true := by simp
    go_enter Tryz.func172, Tryz.ntmps172
    go_wp2_with fail
    refine H2.out.mono ?_
    rintro e w1 ⟨rfl, b1⟩
    obtain ⟨bb, cN, cO, cW⟩ := HB.out _ b1
    obtain ⟨b, o, rfl, c0, c1, c2⟩ := cO.get j hj
    have HB2 := hide bb
    have HW := hide cW
    generalize hE : l[j] = el at *
    obtain ⟨id, sp, nm⟩ := el
    simp only [] at c0 c1 c2 HQ
    have HS : Hid (∀ W', Below w1.heap.size w1 W' -> W'.cell? ⟨w.heap.size, 0, none⟩ = some (.slice a2 names.length cc) /\ W'.cell? ⟨b, o + j * 3, none⟩ = some (.int .i64 id) /\ W'.cell? ⟨b, o + j * 3 + 1, none⟩ = some (.int .i64 sp) /\ W'.cell? ⟨b, o + j * 3 + 2, none⟩ = some (.string nm)) :=
      hide fun W' hB => ⟨by rw [hB.cell (cell_lt cN)]; exact cN, by rw [hB.cell (cell_lt c0)]; exact c0, by rw [hB.cell (cell_lt c1)]; exact c1, by rw [hB.cell (cell_lt c2)]; exact c2⟩
    have HQ2 := hide (HQ.out w1.drew HW.out.drew)
    have HD := hide (Below.refl w1.heap.size w1).drew
    clear b1 HB cO cW bb hE HQ HW
    go_wp2_with fail
    go_region_held2 (fun W' => W'.cell? ⟨w.heap.size, 0, none⟩ = some (.slice a2 names.length cc) /\ W'.cell? ⟨b, o + j * 3, none⟩ = some (.int .i64 id) /\ W'.cell? ⟨b, o + j * 3 + 1, none⟩ = some (.int .i64 sp) /\ W'.cell? ⟨b, o + j * 3 + 2, none⟩ = some (.string nm)) (first | with_reducible exact HS.out _ HD.out | with_reducible exact HS.out _ HF.out) (first | (go_at_call 198; refine HQ2.out.mono ?_; rintro e w2 ⟨rfl, b2⟩; have HF := hide (HD.out.trans (b2.mono (Nat.le_refl _))); clear b2))
    all_goals
      go_wp2
      go_ret
      exact ⟨rfl, HB2.out.trans (HF.out.mono HB2.out.size)⟩
end Go.Proofs.YtfohijnkeefcfaaGreatDoor.S6
