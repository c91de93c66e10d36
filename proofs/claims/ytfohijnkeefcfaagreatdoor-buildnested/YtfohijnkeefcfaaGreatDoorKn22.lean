import Derived.Test.YtfohijnkeefcfaaGreatDoorKn19
import Derived.Test.YtfohijnkeefcfaaGreatDoorKn21
import Derived.Deep.RegionHeld2
set_option linter.unusedVariables false
set_option linter.unusedSimpArgs false
set_option maxRecDepth 100000
set_option maxHeartbeats 8000000
namespace Go.Proofs.YtfohijnkeefcfaaGreatDoor
open Go.RowKit
open S5 (ButA andNew PT IsA cell_lt below_alloc hide below_drewN)
variable {O : Nat -> Prop} {n : Nat} {w W : World} {bb : Nat} {s : PB}
def tabNs : List (List UInt8) := [[116, 97, 98, 108, 101], [116, 98, 111, 100, 121], [116, 102, 111, 111, 116], [116, 104, 101, 97, 100], [116, 114]]
def idAt (s : PB) (k : Nat) : Int := ((s.op[k]?).getD rootV).id
def placeP (s : PB) (o : S6.OV) : Int × Int :=
  if s.fo = false \/ isP o tabNs = false then (o.id, -1)
  else if S6.cutZ s.op [[116, 97, 98, 108, 101]] = -1 then (0, -1)
  else if S5.parentZ s.T (idAt s (S6.cutZ s.op [[116, 97, 98, 108, 101]]).toNat) = -1 then (idAt s ((S6.cutZ s.op [[116, 97, 98, 108, 101]]).toNat - 1), -1)
  else (S5.parentZ s.T (idAt s (S6.cutZ s.op [[116, 97, 98, 108, 101]]).toNat), idAt s (S6.cutZ s.op [[116, 97, 98, 108, 101]]).toNat)
abbrev plA (p : Int × Int) : Value := .agg #[.int .i64 p.1, .int .i64 p.2]
theorem two_cells (w : World) (a b : Value) (T : TypeId) {w1 : World} (h : Below (w.alloc (.cells #[a, b] T)).heap.size (w.alloc (.cells #[a, b] T)) w1) : w1.cell? ⟨w.heap.size, 0, none⟩ = some a /\ w1.cell? ⟨w.heap.size, 1, none⟩ = some b /\ w1.frozen? ⟨w.heap.size, 0, none⟩ = false /\ w1.frozen? ⟨w.heap.size, 1, none⟩ = false := by
  have h0 : (⟨w.heap.size, 0, none⟩ : Addr).block < (w.alloc (.cells #[a, b] T)).heap.size := by simp
  refine ⟨?_, ?_, ?_, ?_⟩
  · rw [h.cell (by simp)]; simp [go_sem]
  · rw [h.cell (by simp)]; simp [go_sem]
  · rw [h.frozen (p := ⟨w.heap.size, 0, none⟩) (by simp)]; exact (World.frozen?_alloc_mark w _ _ 0 0 0).trans (by simp)
  · rw [h.frozen (p := ⟨w.heap.size, 1, none⟩) (by simp)]; exact (World.frozen?_alloc_mark w _ _ 0 0 1).trans (by simp)
theorem behindAll_p (z : Int) (w : World) : Calls Tryz.prog 155 #[.int .i64 z] w fun e w' => e = .returned (plA (z, -1)) /\ Below w.heap.size w w' := by
  obtain ⟨q0, q1, f0, f1⟩ := two_cells w (.int .i64 0) (.int .i64 0) 133 (Below.refl _ _)
  go_enter Tryz.func155, Tryz.ntmps155
  go_wp2
  refine bodyPost_ret (v := plA (z, -1)) ?_ rfl ⟨rfl, below_alloc _ _⟩
  rw [S5.results_cell_one rfl]
  go_simp
theorem two_below {w x1 : World} {o : Obj} (b1 : Below (w.alloc o).heap.size (w.alloc o) x1) : Below w.heap.size w x1 := (below_alloc w o).trans (b1.mono (below_alloc w o).size)
theorem two_two {w x1 : World} {o o2 : Obj} (b1 : Below ((w.alloc o).alloc o2).heap.size ((w.alloc o).alloc o2) x1) : Below w.heap.size w x1 := two_below (two_below b1)
abbrev plW (w : World) (id sp : Int) (nm : ByteArray) : World := (w.alloc (Obj.cells #[Value.int IntKind.i64 id, Value.int IntKind.i64 sp, Value.string nm] 76)).alloc (Obj.cells #[Value.int IntKind.i64 0, Value.int IntKind.i64 0] 133)
theorem pl_box (w : World) (id sp : Int) (nm : ByteArray) {x : World} (h : Below (plW w id sp nm).heap.size (plW w id sp nm) x) : x.cell? ⟨w.heap.size, 0, none⟩ = some (.int .i64 id) /\ x.cell? ⟨w.heap.size + 1, 0, none⟩ = some (.int .i64 0) /\ x.cell? ⟨w.heap.size + 1, 1, none⟩ = some (.int .i64 0) /\ x.frozen? ⟨w.heap.size + 1, 0, none⟩ = false /\ x.frozen? ⟨w.heap.size + 1, 1, none⟩ = false /\ Below w.heap.size w x := by
  obtain ⟨q0, q1, f0, f1⟩ := two_cells (w.alloc (Obj.cells #[Value.int IntKind.i64 id, Value.int IntKind.i64 sp, Value.string nm] 76)) (.int .i64 0) (.int .i64 0) 133 h
  rw [World.size_alloc] at q0 q1 f0 f1
  refine ⟨?_, q0, q1, f0, f1, two_two h⟩
  rw [h.cell (by simp; omega), (below_alloc _ _).cell (by simp)]
  simp [go_sem]
theorem plW_size (w : World) (id sp : Int) (nm : ByteArray) : (plW w id sp nm).heap.size = w.heap.size + 1 + 1 := by simp [plW]
abbrev tabCs : Array Value := #[.string ⟨#[116, 97, 98, 108, 101]⟩, .string ⟨#[116, 98, 111, 100, 121]⟩, .string ⟨#[116, 102, 111, 111, 116]⟩, .string ⟨#[116, 104, 101, 97, 100]⟩, .string ⟨#[116, 114]⟩]
theorem tabs_is (o : S6.OV) (w : World) : Calls Tryz.prog 120 #[oA o, .slice (some ⟨w.heap.size + 1 + 1, 0, none⟩) 5 5] ((plW w o.id o.sp o.nm).alloc (.cells tabCs 9)) fun e w' => e = .returned (.bool (isP o tabNs)) /\ Below ((plW w o.id o.sp o.nm).alloc (.cells tabCs 9)).heap.size ((plW w o.id o.sp o.nm).alloc (.cells tabCs 9)) w' := by
  have hb := names_built (plW w o.id o.sp o.nm) tabNs
  rw [plW_size] at hb
  exact is_p o tabNs (by decide) _ _ hb
theorem pl_set {w x : World} (b : Below w.heap.size w x) (u v : Value) : Below w.heap.size w ((x.setCell ⟨w.heap.size + 1, 0, none⟩ u).setCell ⟨w.heap.size + 1, 1, none⟩ v) :=
  (b.setCell (p := ⟨w.heap.size + 1, 0, none⟩) (by simp only; omega) _).setCell (p := ⟨w.heap.size + 1, 1, none⟩) (by simp only; omega) _
theorem placeFor_p (h : IsB O n w bb s) {c : Nat} (hI : PInv c s) (o : S6.OV) : Calls Tryz.prog 105 #[bP bb, oA o] w fun e w' => e = .returned (plA (placeP s o)) /\ Below w.heap.size w w' := by
  have hL := hI.opL
  obtain ⟨r, hr⟩ := hI.hd
  obtain ⟨pb, og, cap, mv, A, h⟩ := h
  have HBA := hide behindAll_p
  have HIS := hide (tabs_is o w)
  have HCUT : Hid (∀ w1, Below w.heap.size w w1 -> Calls Tryz.prog 156 #[opV og s.op.length cap, .slice (some ⟨w1.heap.size, 0, none⟩) 1 1] (w1.alloc (.cells #[.string ⟨#[116, 97, 98, 108, 101]⟩] 9)) fun e w' => e = .returned (.int .i64 (S6.cutZ s.op [[116, 97, 98, 108, 101]])) /\ Below (w1.alloc (.cells #[.string ⟨#[116, 97, 98, 108, 101]⟩] 9)).heap.size (w1.alloc (.cells #[.string ⟨#[116, 97, 98, 108, 101]⟩] 9)) w') := hide (fun w1 b1 => S6.cut_any s.op (by omega) [[116, 97, 98, 108, 101]] (by decide) (opV og s.op.length cap) _ (w1.alloc (.cells (S6.cellsOf [[116, 97, 98, 108, 101]]) 9)) ((h.isO.below b1).below (below_alloc w1 _)) (names_built w1 [[116, 97, 98, 108, 101]]))
  have HPAR := hide (fun w1 (b1 : Below w.heap.size w w1) z => S5.parent_q hI.wf (by have := hI.tL; omega) z (h.tree.below b1))
  have HC : Hid (∀ w1, Below w.heap.size w w1 -> w1.cell? ⟨bb, 0, none⟩ = some (.pointer (some ⟨pb, 0, none⟩)) /\ w1.cell? ⟨bb, 1, none⟩ = some (opV og s.op.length cap) /\ ∀ k, k < s.op.length -> w1.cell? ⟨og, k * 3, none⟩ = some (.int .i64 (idAt s k))) := hide (fun w1 b1 => ⟨(h.below b1).cs 0 (by omega), (h.below b1).cs 1 (by omega), fun k hk => by
    have := ((h.below b1).opCell k hk).1
    unfold idAt
    rw [List.getElem?_eq_getElem hk]
    exact this⟩)
  have hf : w.cell? ⟨bb, 6, none⟩ = some (.bool s.fo) := h.cs 6 (by omega)
  have hbL := h.bL
  have hZ : S6.cutZ s.op [[116, 97, 98, 108, 101]] = -1 \/ ∃ k, S6.cutZ s.op [[116, 97, 98, 108, 101]] = ((k + 1 : Nat) : Int) /\ k + 1 < s.op.length := by
    unfold S6.cutZ
    cases hq : S6.lastO (S6.namedL [[116, 97, 98, 108, 101]]) s.op s.op.length with
    | none => exact .inl rfl
    | some j =>
      obtain ⟨h1, h2, _⟩ := S6.last_some _ _ _ j (Nat.le_refl _) hq
      cases j with
      | zero =>
        have := h2 h1
        simp only [hr, List.getElem_cons_zero] at this
        exact absurd this (by decide)
      | succ k => exact .inr ⟨k, rfl, h1⟩
  unfold placeP
  clear h hr
  obtain ⟨id, sp, nm⟩ := o
  simp only [] at HIS ⊢
  generalize isP ⟨id, sp, nm⟩ tabNs = IS at *
  generalize S6.cutZ s.op [[116, 97, 98, 108, 101]] = Z at *
  cases h1 : s.fo with
  | false =>
    rw [if_pos (.inl rfl)]
    rw [h1] at hf
    clear HIS HCUT HPAR HC hZ
    go_enter Tryz.func105, Tryz.ntmps105
    go_wp2_with fail
    refine (HBA.out _ _).mono ?_
    rintro e w1 ⟨rfl, b1⟩
    obtain ⟨_, q0, q1, f0, f1, B1⟩ := pl_box w id sp nm b1
    clear b1
    go_wp2
    refine bodyPost_ret (v := plA (id, -1)) ?_ rfl ⟨rfl, pl_set B1 _ _⟩
    rw [S5.results_cell_one rfl]
    go_simp
  | true =>
    rw [h1] at hf
    cases IS with
    | false =>
      rw [if_pos (.inr rfl)]
      clear HCUT HPAR HC hZ
      go_enter Tryz.func105, Tryz.ntmps105
      go_wp2_with fail
      refine HIS.out.mono ?_
      rintro e w1 ⟨rfl, b1⟩
      have b2 := two_below b1
      obtain ⟨p0, q0, q1, f0, f1, B1⟩ := pl_box w id sp nm b2
      have B2 := hide b2
      clear b1 b2 q0 q1 f0 f1 B1
      go_wp2_with fail
      refine (HBA.out _ _).mono ?_
      rintro e w3 ⟨rfl, b3⟩
      obtain ⟨_, q0, q1, f0, f1, B3⟩ := pl_box w id sp nm (B2.out.trans (b3.mono B2.out.size))
      clear b3 p0
      go_wp2
      refine bodyPost_ret (v := plA (id, -1)) ?_ rfl ⟨rfl, pl_set B3 _ _⟩
      rw [S5.results_cell_one rfl]
      go_simp
    | true =>
      rw [if_neg (by simp)]
      rcases hZ with rfl | ⟨k, rfl, hk⟩
      · rw [if_pos rfl]
        clear HPAR
        go_enter Tryz.func105, Tryz.ntmps105
        go_wp2_with fail
        refine HIS.out.mono ?_
        rintro e w1 ⟨rfl, b1⟩
        have b2 := two_below b1
        obtain ⟨_, q0, q1, f0, f1, B1⟩ := pl_box w id sp nm b2
        obtain ⟨_, d1, _⟩ := HC.out w1 B1
        have B2 := hide b2
        have BW := hide B1
        clear b1 b2 q0 q1 f0 f1 B1
        go_wp2_with fail
        refine (HCUT.out w1 BW.out).mono ?_
        rintro e w3 ⟨rfl, b3⟩
        have B3 := hide (B2.out.trans ((two_below b3).mono B2.out.size))
        clear b3 d1
        go_wp2_with fail
        refine (HBA.out _ _).mono ?_
        rintro e w4 ⟨rfl, b4⟩
        obtain ⟨_, q0, q1, f0, f1, B4⟩ := pl_box w id sp nm (B3.out.trans (b4.mono B3.out.size))
        clear b4
        go_wp2
        refine bodyPost_ret (v := plA (0, -1)) ?_ rfl ⟨rfl, pl_set B4 _ _⟩
        rw [S5.results_cell_one rfl]
        go_simp
      · rw [if_neg (by omega), Int.toNat_natCast, Nat.add_sub_cancel]
        generalize hN : s.op.length = N at *
        have hk2 : ((k + 1 : Nat) : Int) < N := by omega
        have hPP := HPAR.out
        generalize hq : idAt s (k + 1) = q at *
        generalize hq1 : idAt s k = qk at *
        generalize hp : S5.parentZ s.T q = pz at *
        have HP : Hid (∀ w1, Below w.heap.size w w1 -> Calls Tryz.prog 157 #[.pointer (some ⟨pb, 0, none⟩), .int .i64 q] w1 fun e w' => e = .returned (.int .i64 pz) /\ w' = w1) := hide (fun w1 b => by have := hPP w1 b q; rw [hp] at this; exact this)
        clear hPP HPAR hp
        by_cases hz : pz = -1
        · subst hz
          rw [if_pos rfl]
          go_enter Tryz.func105, Tryz.ntmps105
          go_wp2_with fail
          refine HIS.out.mono ?_
          rintro e w1 ⟨rfl, b1⟩
          have b2 := two_below b1
          obtain ⟨_, q0, q1, f0, f1, B1⟩ := pl_box w id sp nm b2
          obtain ⟨_, d1, _⟩ := HC.out w1 B1
          have B2 := hide b2
          have BW := hide B1
          clear b1 b2 q0 q1 f0 f1 B1
          go_wp2_with fail
          refine (HCUT.out w1 BW.out).mono ?_
          rintro e w3 ⟨rfl, b3⟩
          have B3 := hide (B2.out.trans ((two_below b3).mono B2.out.size))
          have BW3 := hide (two_two B3.out)
          clear b3 d1
          obtain ⟨d0, d1, d2⟩ := HC.out w3 BW3.out
          have d3 := d2 (k + 1) hk
          have d4 := d2 k (by omega)
          rw [hq] at d3
          rw [hq1] at d4
          clear d2
          go_wp2_with fail
          refine (HP.out w3 BW3.out).mono ?_
          rintro e w4 ⟨rfl, rfl⟩
          go_wp2_with fail
          refine (HBA.out _ _).mono ?_
          rintro e w5 ⟨rfl, b5⟩
          obtain ⟨_, q0, q1, f0, f1, B5⟩ := pl_box w id sp nm (B3.out.trans (b5.mono B3.out.size))
          clear b5
          go_wp2
          refine bodyPost_ret (v := plA (qk, -1)) ?_ rfl ⟨rfl, pl_set B5 _ _⟩
          rw [S5.results_cell_one rfl]
          go_simp
        · rw [if_neg hz]
          go_enter Tryz.func105, Tryz.ntmps105
          go_wp2_with fail
          refine HIS.out.mono ?_
          rintro e w1 ⟨rfl, b1⟩
          have b2 := two_below b1
          obtain ⟨_, q0, q1, f0, f1, B1⟩ := pl_box w id sp nm b2
          obtain ⟨_, d1, _⟩ := HC.out w1 B1
          have B2 := hide b2
          have BW := hide B1
          clear b1 b2 q0 q1 f0 f1 B1
          go_wp2_with fail
          refine (HCUT.out w1 BW.out).mono ?_
          rintro e w3 ⟨rfl, b3⟩
          have B3 := hide (B2.out.trans ((two_below b3).mono B2.out.size))
          have BW3 := hide (two_two B3.out)
          clear b3 d1
          obtain ⟨d0, d1, d2⟩ := HC.out w3 BW3.out
          have d3 := d2 (k + 1) hk
          have d4 := d2 k (by omega)
          rw [hq] at d3
          rw [hq1] at d4
          clear d2
          go_wp2_with fail
          refine (HP.out w3 BW3.out).mono ?_
          rintro e w4 ⟨rfl, rfl⟩
          obtain ⟨_, q0, q1, f0, f1, B4⟩ := pl_box w id sp nm B3.out
          go_wp2
          refine bodyPost_ret (v := plA (pz, q)) ?_ rfl ⟨rfl, pl_set B4 _ _⟩
          rw [S5.results_cell_one rfl]
          go_simp
end Go.Proofs.YtfohijnkeefcfaaGreatDoor
namespace Go.Proofs.YtfohijnkeefcfaaGreatDoor
open Go.RowKit
open S5 (ButA andNew PT IsA cell_lt below_alloc hide below_drewN)
variable {O : Nat -> Prop} {n : Nat} {w W : World} {bb : Nat} {s : PB}
def lastZ8 (l : List Nat) : Int := match l.getLast? with
  | none => -1
  | some x => (x : Int)
def aheadZ (l : List Nat) (b : Int) : List Nat := l.takeWhile fun x => !((x : Int) == b)
def neighP (s : PB) (p : Int × Int) : Int := lastZ8 (aheadZ (S5.kidsZ s.T p.1) p.2)
def putP (s : PB) (p : Int × Int) (z : Int) : PB := { s with T := if p.2 = -1 then (S5.appendZ s.T p.1 z).1 else (S5.beforeZ s.T p.2 z).1 }
theorem ahead_all (l : List Nat) : aheadZ l (-1) = l := by
  unfold aheadZ
  induction l with
  | nil => rfl
  | cons x r ih =>
    have : ((x : Int) == -1) = false := by
      rw [beq_eq_false_iff_ne]
      omega
    rw [List.takeWhile_cons, this, ih]
    rfl
theorem ahead_at : ∀ (l : List Nat) (i : Nat) (hi : i < l.length), l.Nodup -> aheadZ l (l[i] : Int) = l.take i
  | a :: r, 0, _, _ => by simp [aheadZ]
  | a :: r, i + 1, hi, hn => by
    have hi2 : i < r.length := by simpa using hi
    have hne : a ≠ r[i] := fun e => (List.nodup_cons.1 hn).1 (by rw [e]; exact List.getElem_mem hi2)
    have ih := ahead_at r i hi2 (List.nodup_cons.1 hn).2
    have hb : ((a : Int) == (r[i] : Int)) = false := by
      rw [beq_eq_false_iff_ne]
      omega
    unfold aheadZ at ih ⊢
    simp only [List.getElem_cons_succ, List.takeWhile_cons, hb, Bool.not_false, if_true, List.take_succ_cons, ih]
theorem lastZ8_at (l : List Nat) (k : Nat) (h : l.length = k + 1) : lastZ8 l = (l[k] : Int) := by
  have : l.length - 1 = k := by omega
  unfold lastZ8
  rw [List.getLast?_eq_getElem?, this, List.getElem?_eq_getElem (by omega)]
theorem kidsZ_small {T : S5.TR} (hW : S5.WF T) (z : Int) : (S5.kidsZ T z).length <= T.length := by
  unfold S5.kidsZ
  split
  · exact hW.kids_len _
  · simp
theorem kidsZ_nodup {T : S5.TR} (hW : S5.WF T) (z : Int) : (S5.kidsZ T z).Nodup := by
  unfold S5.kidsZ
  split
  · exact hW.nodup _
  · simp
theorem own_zero {w1 : World} {B n z : Nat} {e : TypeId} {v : Value} {xs : List Value} (h : w1.ownsRow B e z v n xs) : w1.ownsRow 0 e z v n xs := by
  refine ⟨h.1, ?_⟩
  rcases h.2 with h2 | ⟨g, cap, cur, e1, _, e2⟩
  · exact .inl h2
  · exact .inr ⟨g, cap, cur, e1, Nat.zero_le _, e2⟩
theorem row_int {w1 : World} {B : Nat} {l : List Nat} {v : Value} (h : w1.ownsRow B 3 1 v l.length (S5.intCells l)) (h0 : 0 < l.length) : ∃ g cap, v = .slice (some ⟨g, 0, none⟩) l.length cap /\ l.length <= cap /\ ∀ j (hj : j < l.length), w1.cell? ⟨g, j, none⟩ = some (.int .i64 (l[j] : Int)) := by
  rcases h.2 with ⟨_, h1⟩ | ⟨g, cap, cur, rfl, _, hg, hc, _⟩
  · omega
  · refine ⟨g, cap, rfl, hc, fun j hj => ?_⟩
    rw [h.cellAt j (by omega), S5.intCells_get l j hj]
theorem neighbour_p (h : IsB O n w bb s) {c : Nat} (hI : PInv c s) (p : Int × Int) (hp : p.2 = -1 \/ ∃ x, x ∈ S5.kidsZ s.T p.1 /\ p.2 = (x : Int)) : Calls Tryz.prog 107 #[bP bb, plA p] w fun e w' => e = .returned (.int .i64 (neighP s p)) /\ Below w.heap.size w w' := by
  obtain ⟨pb, og, cap, mv, A, h⟩ := h
  have hT := hI.tL
  have hK1 := kidsZ_small hI.wf p.1
  have hK2 := kidsZ_nodup hI.wf p.1
  have HK := hide (fun w1 (b1 : Below w.heap.size w w1) => S5.kids_p hI.wf (by omega) p.1 (h.tree.below b1))
  have HX := hide (fun v w1 i hi ho => S5.index_row v (S5.kidsZ s.T p.1) i hi hK2 (by omega) w1 ho)
  have c0 : w.cell? ⟨bb, 0, none⟩ = some (.pointer (some ⟨pb, 0, none⟩)) := h.cs 0 (by omega)
  have hbL := h.bL
  unfold neighP
  clear h
  obtain ⟨p1, p2⟩ := p
  simp only [] at hp HK HX hK1 hK2 ⊢
  generalize S5.kidsZ s.T p1 = l at *
  rcases hp with rfl | ⟨x, hx, rfl⟩
  · rw [ahead_all]
    cases hl : l.length with
    | zero =>
      obtain rfl := List.eq_nil_of_length_eq_zero hl
      rw [show lastZ8 [] = -1 from rfl]
      clear HX
      obtain ⟨W0, hW0⟩ : ∃ W0, W0 = w.alloc (.cells #[.int .i64 p1, .int .i64 (-1)] 133) := ⟨_, rfl⟩
      have HF : Hid (∀ x, Below W0.heap.size W0 x -> (x.cell? ⟨bb, 0, none⟩ = some (.pointer (some ⟨pb, 0, none⟩)) /\ x.cell? ⟨w.heap.size, 0, none⟩ = some (.int .i64 p1)) /\ x.cell? ⟨w.heap.size, 1, none⟩ = some (.int .i64 (-1)) /\ Below w.heap.size w x) := hide (fun x b => by
        rw [hW0] at b
        have hb := two_below b
        exact ⟨⟨by rw [hb.cell (cell_lt c0)]; exact c0, (two_cells w _ _ _ b).1⟩, (two_cells w _ _ _ b).2.1, hb⟩)
      have DD := hide (Below.refl W0.heap.size W0).drew
      go_enter Tryz.func107, Tryz.ntmps107
      go_wp2_with fail
      rw [<- hW0]
      clear hW0
      go_region_held2 (fun W' => W'.cell? ⟨bb, 0, none⟩ = some (.pointer (some ⟨pb, 0, none⟩)) /\ W'.cell? ⟨w.heap.size, 0, none⟩ = some (.int .i64 p1)) (first | with_reducible exact (HF.out _ DD.out).1 | with_reducible exact (HF.out _ B1.out).1) (first | (go_at_call 158; refine (HK.out _ (HF.out _ DD.out).2.2).mono ?_; rintro e w1 ⟨⟨v1, rfl, ho⟩, b1⟩; obtain ⟨a1, c1, rfl⟩ := S5.owns_form ho; have B1 := hide (DD.out.trans b1); obtain ⟨q1, BW⟩ := (HF.out w1 B1.out).2; clear ho b1))
      go_wp2
      go_ret
      exact ⟨rfl, BW⟩
    | succ k =>
      rw [lastZ8_at l k hl]
      generalize hq : ((l[k] : Nat) : Int) = q
      have HR : Hid (∀ w1 B v, World.ownsRow w1 B 3 1 v l.length (S5.intCells l) -> ∃ g cp, v = .slice (some ⟨g, 0, none⟩) (k + 1) cp /\ w1.cell? ⟨g, k, none⟩ = some (.int .i64 q)) := hide (fun w1 B v ho => by
        obtain ⟨g, cp, e, hc, hcs⟩ := row_int ho (by omega)
        exact ⟨g, cp, by rw [e, hl], by rw [<- hq]; exact hcs k (by omega)⟩)
      have hk : (k : Int) < 3000 := by omega
      clear HX hq
      obtain ⟨W0, hW0⟩ : ∃ W0, W0 = w.alloc (.cells #[.int .i64 p1, .int .i64 (-1)] 133) := ⟨_, rfl⟩
      have HF : Hid (∀ x, Below W0.heap.size W0 x -> (x.cell? ⟨bb, 0, none⟩ = some (.pointer (some ⟨pb, 0, none⟩)) /\ x.cell? ⟨w.heap.size, 0, none⟩ = some (.int .i64 p1)) /\ x.cell? ⟨w.heap.size, 1, none⟩ = some (.int .i64 (-1)) /\ Below w.heap.size w x) := hide (fun x b => by
        rw [hW0] at b
        have hb := two_below b
        exact ⟨⟨by rw [hb.cell (cell_lt c0)]; exact c0, (two_cells w _ _ _ b).1⟩, (two_cells w _ _ _ b).2.1, hb⟩)
      have DD := hide (Below.refl W0.heap.size W0).drew
      go_enter Tryz.func107, Tryz.ntmps107
      go_wp2_with fail
      rw [<- hW0]
      clear hW0
      go_region_held2 (fun W' => W'.cell? ⟨bb, 0, none⟩ = some (.pointer (some ⟨pb, 0, none⟩)) /\ W'.cell? ⟨w.heap.size, 0, none⟩ = some (.int .i64 p1)) (first | with_reducible exact (HF.out _ DD.out).1 | with_reducible exact (HF.out _ B1.out).1) (first | (go_at_call 158; refine (HK.out _ (HF.out _ DD.out).2.2).mono ?_; rintro e w1 ⟨⟨v1, rfl, ho⟩, b1⟩; obtain ⟨g, cp, rfl, d1⟩ := HR.out _ _ _ ho; have B1 := hide (DD.out.trans b1); obtain ⟨q1, BW⟩ := (HF.out w1 B1.out).2; clear ho b1))
      go_wp2
      go_ret
      exact ⟨rfl, BW⟩
  · obtain ⟨i, hi, rfl⟩ := List.mem_iff_getElem.1 hx
    clear hx
    rw [ahead_at l i hi hK2]
    have hlen : (l.take i).length = i := by rw [List.length_take]; omega
    have hib : (i : Int) < 3000 := by omega
    have HR : Hid (∀ w1 B v, World.ownsRow w1 B 3 1 v l.length (S5.intCells l) -> ∃ g cp, v = .slice (some ⟨g, 0, none⟩) l.length cp /\ l.length <= cp /\ (∀ j (hj : j < l.length), w1.cell? ⟨g, j, none⟩ = some (.int .i64 (l[j] : Int))) /\ Hid (Calls Tryz.prog 159 #[v, .int .i64 (l[i] : Int)] w1 fun e w' => e = .returned (.int .i64 (i : Int)) /\ w' = w1)) := hide (fun w1 B v ho => by
      obtain ⟨g, cp, e, hc, hcs⟩ := row_int ho (by omega)
      exact ⟨g, cp, e, hc, hcs, hide (HX.out v w1 i hi (own_zero ho))⟩)
    have hil : (i : Int) < l.length := by omega
    have hl3 : (l.length : Int) < 3000 := by omega
    have hbn : ((l[i] : Int) == -1) = false := by
      rw [beq_eq_false_iff_ne]
      omega
    cases i with
    | zero =>
      rw [show lastZ8 (l.take 0) = -1 by rw [List.take_zero]; rfl]
      have HR2 : Hid (∀ w1 B v, World.ownsRow w1 B 3 1 v l.length (S5.intCells l) -> ∃ g cp, v = .slice (some ⟨g, 0, none⟩) l.length cp /\ l.length <= cp /\ Hid (Calls Tryz.prog 159 #[v, .int .i64 (l[0] : Int)] w1 fun e w' => e = .returned (.int .i64 ((0 : Nat) : Int)) /\ w' = w1)) := hide (fun w1 B v ho => by
        obtain ⟨g, cp, e, hc, hcs, hx⟩ := HR.out w1 B v ho
        exact ⟨g, cp, e, hc, hx⟩)
      generalize hz : ((l[0] : Nat) : Int) = z at *
      clear hlen HX HR hz
      generalize l.length = N at *
      obtain ⟨W0, hW0⟩ : ∃ W0, W0 = w.alloc (.cells #[.int .i64 p1, .int .i64 z] 133) := ⟨_, rfl⟩
      have HF : Hid (∀ x, Below W0.heap.size W0 x -> (x.cell? ⟨bb, 0, none⟩ = some (.pointer (some ⟨pb, 0, none⟩)) /\ x.cell? ⟨w.heap.size, 0, none⟩ = some (.int .i64 p1)) /\ x.cell? ⟨w.heap.size, 1, none⟩ = some (.int .i64 z) /\ Below w.heap.size w x) := hide (fun x b => by
        rw [hW0] at b
        have hb := two_below b
        exact ⟨⟨by rw [hb.cell (cell_lt c0)]; exact c0, (two_cells w _ _ _ b).1⟩, (two_cells w _ _ _ b).2.1, hb⟩)
      have DD := hide (Below.refl W0.heap.size W0).drew
      go_enter Tryz.func107, Tryz.ntmps107
      go_wp2_with fail
      rw [<- hW0]
      clear hW0
      go_region_held2 (fun W' => W'.cell? ⟨bb, 0, none⟩ = some (.pointer (some ⟨pb, 0, none⟩)) /\ W'.cell? ⟨w.heap.size, 0, none⟩ = some (.int .i64 p1)) (first | with_reducible exact (HF.out _ DD.out).1 | with_reducible exact (HF.out _ B1.out).1) (first | (go_at_call 158; refine (HK.out _ (HF.out _ DD.out).2.2).mono ?_; rintro e w1 ⟨⟨v1, rfl, ho⟩, b1⟩; obtain ⟨g, cp, rfl, hc, HIX⟩ := HR2.out _ _ _ ho; have B1 := hide (DD.out.trans b1); obtain ⟨q1, BW⟩ := (HF.out w1 B1.out).2; clear ho b1))
      go_wp2_with fail
      refine HIX.out.mono ?_
      rintro e w2 ⟨rfl, rfl⟩
      go_wp2
      go_ret
      exact ⟨rfl, BW⟩
    | succ k =>
      rw [lastZ8_at (l.take (k + 1)) k hlen, List.getElem_take]
      have HR2 : Hid (∀ w1 B v, World.ownsRow w1 B 3 1 v l.length (S5.intCells l) -> ∃ g cp, v = .slice (some ⟨g, 0, none⟩) l.length cp /\ l.length <= cp /\ w1.cell? ⟨g, k, none⟩ = some (.int .i64 (l[k] : Int)) /\ Hid (Calls Tryz.prog 159 #[v, .int .i64 (l[k + 1] : Int)] w1 fun e w' => e = .returned (.int .i64 ((k + 1 : Nat) : Int)) /\ w' = w1)) := hide (fun w1 B v ho => by
        obtain ⟨g, cp, e, hc, hcs, hx⟩ := HR.out w1 B v ho
        exact ⟨g, cp, e, hc, hcs k (by omega), hx⟩)
      generalize hq : ((l[k] : Nat) : Int) = q at *
      generalize hz : ((l[k + 1] : Nat) : Int) = z at *
      clear hlen HX HR hz hq
      generalize l.length = N at *
      obtain ⟨W0, hW0⟩ : ∃ W0, W0 = w.alloc (.cells #[.int .i64 p1, .int .i64 z] 133) := ⟨_, rfl⟩
      have HF : Hid (∀ x, Below W0.heap.size W0 x -> (x.cell? ⟨bb, 0, none⟩ = some (.pointer (some ⟨pb, 0, none⟩)) /\ x.cell? ⟨w.heap.size, 0, none⟩ = some (.int .i64 p1)) /\ x.cell? ⟨w.heap.size, 1, none⟩ = some (.int .i64 z) /\ Below w.heap.size w x) := hide (fun x b => by
        rw [hW0] at b
        have hb := two_below b
        exact ⟨⟨by rw [hb.cell (cell_lt c0)]; exact c0, (two_cells w _ _ _ b).1⟩, (two_cells w _ _ _ b).2.1, hb⟩)
      have DD := hide (Below.refl W0.heap.size W0).drew
      go_enter Tryz.func107, Tryz.ntmps107
      go_wp2_with fail
      rw [<- hW0]
      clear hW0
      go_region_held2 (fun W' => W'.cell? ⟨bb, 0, none⟩ = some (.pointer (some ⟨pb, 0, none⟩)) /\ W'.cell? ⟨w.heap.size, 0, none⟩ = some (.int .i64 p1)) (first | with_reducible exact (HF.out _ DD.out).1 | with_reducible exact (HF.out _ B1.out).1) (first | (go_at_call 158; refine (HK.out _ (HF.out _ DD.out).2.2).mono ?_; rintro e w1 ⟨⟨v1, rfl, ho⟩, b1⟩; obtain ⟨g, cp, rfl, hc, d1, HIX⟩ := HR2.out _ _ _ ho; have B1 := hide (DD.out.trans b1); obtain ⟨q1, BW⟩ := (HF.out w1 B1.out).2; clear ho b1))
      go_wp2_with fail
      refine HIX.out.mono ?_
      rintro e w2 ⟨rfl, rfl⟩
      go_wp2
      go_ret
      exact ⟨rfl, BW⟩
end Go.Proofs.YtfohijnkeefcfaaGreatDoor
namespace Go.Proofs.YtfohijnkeefcfaaGreatDoor
open Go.RowKit
open S5 (ButA andNew PT IsA cell_lt below_alloc hide below_drewN)
variable {O : Nat -> Prop} {n : Nat} {w W : World} {bb : Nat} {s : PB} {c : Nat}
theorem PInv.up (h : PInv c s) {c' : Nat} (hc : c <= c') : PInv c' s := { h with mrL := Nat.le_trans h.mrL hc, txL := fun i => Nat.le_trans (h.txL i) hc }
theorem PInv.fail (h : PInv c s) (z : Int) : PInv c (failP s z) := by
  unfold failP
  split
  · exact { hd := h.hd, opL := h.opL, wf := h.wf, t0 := h.t0, tL := h.tL, mrL := h.mrL, aaL := h.aaL, txL := h.txL, atL := h.atL }
  · exact h
theorem PInv.made (h : PInv c s) (z : Int) : PInv c (madeP s z) := by
  unfold madeP
  split
  · exact h.fail 4
  · exact h
theorem PInv.keep (h : PInv c s) (z : Int) : PInv c (keepP s z) := by
  obtain ⟨r, hr⟩ := h.hd
  refine { hd := ?_, opL := Nat.le_trans (keepP_len s z) h.opL, wf := h.wf, t0 := h.t0, tL := h.tL, mrL := h.mrL, aaL := h.aaL, txL := h.txL, atL := h.atL }
  unfold keepP
  obtain ⟨k, hk⟩ : ∃ k, (max z 1).toNat = k + 1 := ⟨(max z 1).toNat - 1, by omega⟩
  simp only [hk, hr, List.take_succ_cons]
  exact ⟨_, rfl⟩
theorem PInv.upTo (h : PInv c s) (names : List (List UInt8)) : PInv c (upP s names) := by
  unfold upP
  split
  · exact h
  · exact h.keep _
theorem PInv.imp (h : PInv c s) (ex : ByteArray) : PInv c (impP s ex) := h.keep _
theorem PInv.closeP (h : PInv c s) : PInv c (closePP s) := by
  unfold closePP
  split
  · exact (h.imp _).upTo _
  · exact h
theorem PInv.tree (h : PInv c s) {T : S5.TR} (hw : S5.WF T) (hl : T.length = s.T.length) (hn : ∀ i, S5.nodeAt T i = S5.nodeAt s.T i) : PInv c { s with T := T } :=
  { hd := h.hd, opL := h.opL, wf := hw, t0 := by rw [hl]; exact h.t0, tL := by rw [hl]; exact h.tL, mrL := h.mrL, aaL := h.aaL, txL := fun i => by rw [hn]; exact h.txL i, atL := fun i => by rw [hn]; exact h.atL i }
theorem node_appendZ (T : S5.TR) (a b : Int) (i : Nat) : S5.nodeAt (S5.appendZ T a b).1 i = S5.nodeAt T i := by
  unfold S5.appendZ
  split
  · split
    · exact S5.node_append _ _ _ _
    · rfl
  · rfl
theorem node_beforeZ (T : S5.TR) (a b : Int) (i : Nat) : S5.nodeAt (S5.beforeZ T a b).1 i = S5.nodeAt T i := by
  unfold S5.beforeZ
  split
  · cases S5.parentN T a.toNat with
    | none => rfl
    | some p =>
      show S5.nodeAt (if _ then _ else _ : S5.TR × Int).1 i = _
      split
      · exact S5.node_before _ _ _ _ _
      · rfl
  · rfl
theorem PInv.put (h : PInv c s) (p : Int × Int) (z : Int) : PInv c (putP s p z) := by
  unfold putP
  split
  · exact h.tree (S5.appendZ_wf h.wf _ _) (S5.appendZ_len _ _ _) (node_appendZ _ _ _)
  · exact h.tree (S5.beforeZ_wf h.wf _ _) (S5.beforeZ_len _ _ _) (node_beforeZ _ _ _)
theorem node_pushP (T : S5.TR) (d : S5.ND) (i : Nat) : S5.nodeAt (S5.pushL T d) i = if i = T.length then d else S5.nodeAt T i := by
  unfold S5.pushL S5.nodeAt
  split
  · rename_i e
    subst e
    rw [List.getElem?_append_right (Nat.le_refl _), Nat.sub_self]
    rfl
  · rcases Nat.lt_or_ge i T.length with h | h
    · rw [List.getElem?_append_left h]
    · rw [List.getElem?_eq_none (by simp; omega), List.getElem?_eq_none h]
theorem node_make (T : S5.TR) (d : S5.ND) (i : Nat) : S5.nodeAt (S5.makeL T d).1 i = d \/ S5.nodeAt (S5.makeL T d).1 i = S5.nodeAt T i := by
  unfold S5.makeL
  split
  · simp only [node_pushP]
    split
    · exact .inl rfl
    · exact .inr rfl
  · exact .inr rfl
theorem PInv.make (h : PInv c s) (d : S5.ND) {c' : Nat} (hc : c <= c') (h1 : d.text.length <= c') (h2 : d.attrs.length <= 1000000) : PInv c' { s with T := (S5.makeL s.T d).1 } := by
  obtain ⟨l1, l2, l3⟩ := S5.makeL_len s.T d
  refine { hd := h.hd, opL := h.opL, wf := S5.makeL_wf h.wf d, t0 := Nat.lt_of_lt_of_le h.t0 l1, tL := l3 h.tL, mrL := Nat.le_trans h.mrL hc, aaL := h.aaL, txL := fun i => ?_, atL := fun i => ?_ }
  · rcases node_make s.T d i with e | e
    · rw [e]; exact h1
    · rw [e]; exact Nat.le_trans (h.txL i) hc
  · rcases node_make s.T d i with e | e
    · rw [e]; exact h2
    · rw [e]; exact h.atL i
theorem node_addP (T : S5.TR) (k : Nat) (t : List UInt8) (i : Nat) : ((S5.nodeAt (S5.addL T k t) i).text.length <= (S5.nodeAt T i).text.length + t.length) /\ (S5.nodeAt (S5.addL T k t) i).attrs = (S5.nodeAt T i).attrs := by
  unfold S5.addL
  rcases Nat.lt_or_ge k T.length with hn | hn
  · by_cases h : k = i
    · subst h
      have e : S5.nodeAt (T.set k ({ S5.nodeAt T k with text := (S5.nodeAt T k).text ++ t }, S5.kidsAt T k)) k = { S5.nodeAt T k with text := (S5.nodeAt T k).text ++ t } := by
        show (((T.set k (_, S5.kidsAt T k))[k]?).map (·.1)).getD {} = _
        rw [List.getElem?_set_self hn]
        rfl
      rw [e]
      exact ⟨by simp, rfl⟩
    · have e : S5.nodeAt (T.set k ({ S5.nodeAt T k with text := (S5.nodeAt T k).text ++ t }, S5.kidsAt T k)) i = S5.nodeAt T i := by
        show (((T.set k (_, S5.kidsAt T k))[i]?).map (·.1)).getD {} = _
        rw [List.getElem?_set_ne h]
        rfl
      rw [e]
      exact ⟨by omega, rfl⟩
  · rw [List.set_eq_of_length_le hn]
    exact ⟨by omega, rfl⟩
theorem PInv.add (h : PInv c s) (z : Int) (t : List UInt8) : PInv (c + t.length) { s with T := (S5.addZ s.T z t).1 } := by
  have hn : ∀ i, (S5.nodeAt (S5.addZ s.T z t).1 i).text.length <= (S5.nodeAt s.T i).text.length + t.length /\ (S5.nodeAt (S5.addZ s.T z t).1 i).attrs = (S5.nodeAt s.T i).attrs := by
    intro i
    unfold S5.addZ
    split
    · split
      · exact node_addP _ _ _ _
      · exact ⟨Nat.le_add_right _ _, rfl⟩
    · exact ⟨Nat.le_add_right _ _, rfl⟩
  have hl := S5.addZ_len s.T z t
  refine { hd := h.hd, opL := h.opL, wf := S5.addZ_wf h.wf z t, t0 := by simp only [hl]; exact h.t0, tL := by simp only [hl]; exact h.tL, mrL := by have := h.mrL; simp only; omega, aaL := h.aaL, txL := fun i => ?_, atL := fun i => ?_ }
  · have := (hn i).1
    have := h.txL i
    simp only
    omega
  · show (S5.nodeAt (S5.addZ s.T z t).1 i).attrs.length <= _
    rw [(hn i).2]
    exact h.atL i
theorem tree_does {pb og cap : Nat} {mv : Value} {A : Nat -> Prop} {x w1 : World} {T' : S5.TR} (h : BV O n x bb pb og cap mv A s) (hP : PT (andNew A x.heap.size) w1 pb T') (hb : ButA A x w1) : DoesM O n x bb w1 { s with T := T' } :=
  ⟨(h.treeD hP hb).does' (hb.mono fun k hk => (h.AO k hk).1) (World.cell?_of_block (a := ⟨bb, 0, none⟩) (hb.block bb h.bL h.bA)), World.cell?_of_block (a := ⟨bb, 2, none⟩) (hb.block bb h.bL h.bA)⟩
theorem IsB.at_ {pb : Nat} (h : IsB O n w bb s) (hc : w.cell? ⟨bb, 0, none⟩ = some (.pointer (some ⟨pb, 0, none⟩))) : ∃ og cap mv A, BV O n w bb pb og cap mv A s := by
  obtain ⟨pb', og, cap, mv, A, h⟩ := h
  have := h.cs 0 (by omega)
  rw [hc] at this
  simp only [fv, List.getElem?_cons_zero, Option.some.injEq, Value.pointer.injEq, Addr.mk.injEq, and_true] at this
  subst this
  exact ⟨og, cap, mv, A, h⟩
theorem text_tree {pb : Nat} (h : IsB O n w bb s) (hc : w.cell? ⟨bb, 0, none⟩ = some (.pointer (some ⟨pb, 0, none⟩))) (hI : PInv c s) (t : ByteArray) (ht : t.size <= 1000000000) :
    Calls Tryz.prog 110 #[.pointer (some ⟨pb, 0, none⟩), .string t] w fun e w' => e = .returned (.int .i64 (S5.makeL s.T { kind := 2, text := t.data.toList }).2) /\ Does O n w bb w' { s with T := (S5.makeL s.T { kind := 2, text := t.data.toList }).1 } := by
  obtain ⟨og, cap, mv, A, h⟩ := h.at_ hc
  exact (S5.text_p hI.wf hI.t0 hI.tL (fun k hk => (h.AO k hk).2) t ht h.tree).mono fun e w' ⟨a, b, d⟩ => ⟨a, (tree_does h b d).1⟩
theorem element_treeM {pb : Nat} (h : IsB O n w bb s) (hc : w.cell? ⟨bb, 0, none⟩ = some (.pointer (some ⟨pb, 0, none⟩))) (hI : PInv c s) (sp : Int) (t : ByteArray) (v : Value) (aa : S5.AttrL) (ha : aa.length <= 1000000) (hv : IsA w v aa) :
    Calls Tryz.prog 166 #[.pointer (some ⟨pb, 0, none⟩), .int .i64 sp, .string t, v] w fun e w' => e = .returned (.int .i64 (S5.makeL s.T { kind := 1, space := sp, name := t.data.toList, attrs := aa }).2) /\ DoesM O n w bb w' { s with T := (S5.makeL s.T { kind := 1, space := sp, name := t.data.toList, attrs := aa }).1 } := by
  obtain ⟨og, cap, mv, A, h⟩ := h.at_ hc
  exact (S5.element_p hI.wf hI.t0 hI.tL (fun k hk => (h.AO k hk).2) sp t v aa ha hv h.tree).mono fun e w' ⟨a, b, d⟩ => ⟨a, tree_does h b d⟩
theorem put_m (h : IsB O n w bb s) (hI : PInv c s) (p : Int × Int) (z : Int) : Calls Tryz.prog 108 #[bP bb, plA p, .int .i64 z] w fun e w' => e = .returned (.tuple #[]) /\ DoesM O n w bb w' (putP s p z) := by
  have hnn := h.nL
  obtain ⟨pb, og, cap, mv, A, h⟩ := h
  have hT := hI.tL
  have HA := hide (fun w1 (b1 : Below w.heap.size w w1) => S5.append_p hI.wf (by omega) p.1 z (h.below b1).tree)
  have HB := hide (fun w1 (b1 : Below w.heap.size w w1) => S5.before_p hI.wf (by omega) p.2 z (h.below b1).tree)
  have HD := hide (fun x w1 T' (b : Below w.heap.size w x) (hP : PT (andNew A x.heap.size) w1 pb T') (hb : ButA A x w1) => (tree_does (h.below b) hP hb).ahead hnn b h.bL)
  have c0 : w.cell? ⟨bb, 0, none⟩ = some (.pointer (some ⟨pb, 0, none⟩)) := h.cs 0 (by omega)
  have hbL := h.bL
  have hnA : ¬ A bb /\ ∀ k, A k -> k < w.heap.size := ⟨h.bA, fun k hk => (h.AO k hk).2⟩
  unfold putP
  clear h
  obtain ⟨p1, p2⟩ := p
  simp only [] at HA HB ⊢
  obtain ⟨W0, hW0⟩ : ∃ W0, W0 = w.alloc (.cells #[.int .i64 p1, .int .i64 p2] 133) := ⟨_, rfl⟩
  have HF : Hid (∀ x, Below W0.heap.size W0 x -> (x.cell? ⟨bb, 0, none⟩ = some (.pointer (some ⟨pb, 0, none⟩)) /\ x.cell? ⟨w.heap.size, 0, none⟩ = some (.int .i64 p1) /\ x.cell? ⟨w.heap.size, 1, none⟩ = some (.int .i64 p2)) /\ Below w.heap.size w x) := hide (fun x b => by
    rw [hW0] at b
    have hb := two_below b
    exact ⟨⟨by rw [hb.cell (cell_lt c0)]; exact c0, (two_cells w _ _ _ b).1, (two_cells w _ _ _ b).2.1⟩, hb⟩)
  have DD := hide (Below.refl W0.heap.size W0).drew
  have HKF : Hid (∀ x w1, Below W0.heap.size W0 x -> ButA A x w1 -> w1.cell? ⟨bb, 0, none⟩ = some (.pointer (some ⟨pb, 0, none⟩)) /\ w1.cell? ⟨w.heap.size, 0, none⟩ = some (.int .i64 p1) /\ w1.cell? ⟨w.heap.size, 1, none⟩ = some (.int .i64 p2)) := hide (fun x w1 b hb => by
    obtain ⟨⟨e0, e1, e2⟩, _⟩ := HF.out x b
    have k0 := hb.block bb (cell_lt e0) hnA.1
    have k1 := hb.block w.heap.size (cell_lt e1) (fun ha => by have := hnA.2 _ ha; omega)
    exact ⟨S5.cell_same k0 e0, S5.cell_same k1 e1, S5.cell_same k1 e2⟩)
  obtain ⟨⟨d0, d1, d2⟩, _⟩ := HF.out W0 (Below.refl _ _)
  by_cases hp : p2 = -1
  · subst hp
    rw [if_pos rfl]
    go_enter Tryz.func108, Tryz.ntmps108
    go_wp2_with fail
    rw [<- hW0]
    clear hW0
    go_region_held2 (fun W' => W'.cell? ⟨bb, 0, none⟩ = some (.pointer (some ⟨pb, 0, none⟩)) /\ W'.cell? ⟨w.heap.size, 0, none⟩ = some (.int .i64 p1) /\ W'.cell? ⟨w.heap.size, 1, none⟩ = some (.int .i64 (-1))) (first | with_reducible exact (HF.out _ DD.out).1 | with_reducible exact F1.out) (first | (go_at_call 160; refine (HA.out _ (HF.out _ DD.out).2).mono ?_; rintro e w1 ⟨rfl, hP, hb⟩; have F1 := hide (HKF.out _ _ DD.out hb); have D1 := hide (HD.out _ _ _ (HF.out _ DD.out).2 hP hb); clear hP hb))
    go_wp2
    go_end0
    exact ⟨rfl, D1.out⟩
  · rw [if_neg hp]
    go_enter Tryz.func108, Tryz.ntmps108
    go_wp2_with fail
    rw [<- hW0]
    clear hW0
    go_region_held2 (fun W' => W'.cell? ⟨bb, 0, none⟩ = some (.pointer (some ⟨pb, 0, none⟩)) /\ W'.cell? ⟨w.heap.size, 0, none⟩ = some (.int .i64 p1) /\ W'.cell? ⟨w.heap.size, 1, none⟩ = some (.int .i64 p2)) (first | with_reducible exact (HF.out _ DD.out).1 | with_reducible exact F1.out) (first | (go_at_call 161; refine (HB.out _ (HF.out _ DD.out).2).mono ?_; rintro e w1 ⟨rfl, hP, hb⟩; have F1 := hide (HKF.out _ _ DD.out hb); have D1 := hide (HD.out _ _ _ (HF.out _ DD.out).2 hP hb); clear hP hb))
    go_wp2
    go_end0
    exact ⟨rfl, D1.out⟩
theorem put_p (h : IsB O n w bb s) (hI : PInv c s) (p : Int × Int) (z : Int) : Calls Tryz.prog 108 #[bP bb, plA p, .int .i64 z] w fun e w' => e = .returned (.tuple #[]) /\ Does O n w bb w' (putP s p z) := (put_m h hI p z).mono fun e w' ⟨a, d⟩ => ⟨a, d.1⟩
end Go.Proofs.YtfohijnkeefcfaaGreatDoor
namespace Go.Proofs.YtfohijnkeefcfaaGreatDoor
open Go.RowKit
open S5 (ButA andNew PT IsA cell_lt below_alloc hide below_drewN)
variable {O : Nat -> Prop} {n : Nat} {w W : World} {bb : Nat} {s : PB} {c : Nat}
theorem place_okP (hI : PInv c s) (o : S6.OV) : (placeP s o).2 = -1 \/ ∃ x, x ∈ S5.kidsZ s.T (placeP s o).1 /\ (placeP s o).2 = (x : Int) := by
  unfold placeP
  split
  · exact .inl rfl
  · split
    · exact .inl rfl
    · split
      · exact .inl rfl
      · rename_i h
        right
        simp only
        generalize idAt s (S6.cutZ s.op [[116, 97, 98, 108, 101]]).toNat = z at *
        have hz : ¬ z < 0 := fun hz => h (by unfold S5.parentZ; rw [if_pos hz])
        have e : S5.parentZ s.T z = S5.parZ (S5.parentN s.T z.toNat) := by unfold S5.parentZ; rw [if_neg hz]
        cases hp : S5.parentN s.T z.toNat with
        | none => exact absurd (by rw [e, hp]; rfl) h
        | some p =>
          have hm := S5.parent_some hp
          have hl := S5.kidsAt_lt hm
          have hk : S5.kidsZ s.T (S5.parentZ s.T z) = S5.kidsAt s.T p := by
            rw [e, hp]
            show S5.kidsZ s.T (p : Int) = _
            unfold S5.kidsZ
            rw [if_pos (by omega), Int.toNat_natCast]
          exact ⟨z.toNat, by rw [hk]; exact hm, by omega⟩
def addR (s : PB) (t : List UInt8) : S5.TR × Int := S5.addZ s.T (neighP s (placeP s (curP s))) t
def newT (s : PB) (d : S5.ND) : PB := putP (madeP { s with T := (S5.makeL s.T d).1 } (S5.makeL s.T d).2) (placeP s (curP s)) (S5.makeL s.T d).2
def textP (s : PB) (t : List UInt8) : PB := if (addR s t).2 = 0 then { s with T := (addR s t).1 } else newT s { kind := 2, text := t }
theorem addZ_same {T : S5.TR} {z : Int} {t : List UInt8} (h : (S5.addZ T z t).2 ≠ 0) : (S5.addZ T z t).1 = T := by
  unfold S5.addZ at h ⊢
  split
  · split
    · rename_i h1 h2
      rw [if_pos h1, if_pos h2] at h
      exact absurd rfl h
    · rfl
  · rfl
theorem PInv.newT (hI : PInv c s) (d : S5.ND) {c' : Nat} (hc : c <= c') (h1 : d.text.length <= c') (h2 : d.attrs.length <= 1000000) : PInv c' (newT s d) := ((hI.make d hc h1 h2).made _).put _ _
theorem PInv.text (hI : PInv c s) (t : List UInt8) : PInv (c + t.length) (textP s t) := by
  unfold textP
  split
  · exact hI.add _ _
  · exact hI.newT _ (by omega) (by simp) (by simp)
theorem insertText_t (h : IsB O n w bb s) (hO : ∀ k, O k -> k < w.heap.size) (hI : PInv c s) (hc : c <= 400000000) (t : ByteArray) (ht : t.size <= 400000000) : Calls Tryz.prog 72 #[bP bb, .string t] w fun e w' => e = .returned (.tuple #[]) /\ Does O n w bb w' (textP s t.data.toList) := by
  have hnn := h.nL
  have hbb := h.bL
  have hL := hI.opL
  have hT := hI.tL
  have HC := hide (fun x (b : Below w.heap.size w x) => current_p (h.below b) hI.ne (by omega))
  have HP := hide (fun x (b : Below w.heap.size w x) => placeFor_p (h.below b) hI (curP s))
  have HN := hide (fun x (b : Below w.heap.size w x) => neighbour_p (h.below b) hI (placeP s (curP s)) (place_okP hI _))
  obtain ⟨pb, og, cap, mv, A, hv⟩ := h
  have HA := hide (fun x (b : Below w.heap.size w x) => S5.add_p hI.wf (by omega) (neighP s (placeP s (curP s))) t (by omega) (fun i => by have := hI.txL i; omega) (hv.below b).tree)
  have HD := hide (fun x w1 T' (b : Below w.heap.size w x) (hP : PT (andNew A x.heap.size) w1 pb T') (hb : ButA A x w1) => (tree_does (hv.below b) hP hb).1)
  have c0 : w.cell? ⟨bb, 0, none⟩ = some (.pointer (some ⟨pb, 0, none⟩)) := hv.cs 0 (by omega)
  clear hv
  have HT := hide (fun O1 x (h : IsB O1 n x bb s) hc => text_tree (pb := pb) h hc hI t (by omega))
  have I1 := hI.make { kind := 2, text := t.data.toList } (c' := c + t.size) (by omega) (by rw [<- S5.size_list]; simp) (by simp)
  have HM := hide (fun O1 x (h : IsB O1 n x bb { s with T := (S5.makeL s.T { kind := 2, text := t.data.toList }).1 }) => made_p h (S5.makeL s.T { kind := 2, text := t.data.toList }).2)
  have HU := hide (fun O1 x (h : IsB O1 n x bb (madeP { s with T := (S5.makeL s.T { kind := 2, text := t.data.toList }).1 } (S5.makeL s.T { kind := 2, text := t.data.toList }).2)) => put_p h (I1.made _) (placeP s (curP s)) (S5.makeL s.T { kind := 2, text := t.data.toList }).2)
  clear I1
  have hR : (addR s t.data.toList).2 ≠ 0 -> (addR s t.data.toList).1 = s.T := addZ_same
  unfold textP
  have eR : addR s t.data.toList = S5.addZ s.T (neighP s (placeP s (curP s))) t.data.toList := rfl
  rw [<- eR] at HA
  generalize addR s t.data.toList = R at *
  clear eR
  unfold newT
  generalize S5.makeL s.T { kind := 2, text := t.data.toList } = M at *
  obtain ⟨MT, MZ⟩ := M
  generalize placeP s (curP s) = P at *
  generalize curP s = C at *
  generalize neighP s P = NZ at *
  obtain ⟨RT, RZ⟩ := R
  simp only [] at hR HA ⊢
  obtain ⟨P1, P2⟩ := P
  by_cases hz : RZ = 0
  · subst hz
    rw [if_pos rfl]
    go_enter Tryz.func72, Tryz.ntmps72
    go_wp2_with fail
    refine (HC.out _ (Below.refl _ _)).mono ?_
    rintro e w1 ⟨rfl, b1⟩
    have B1 := hide b1
    clear b1
    go_wp2_with fail
    refine (HP.out _ B1.out).mono ?_
    rintro e w2 ⟨rfl, b2⟩
    have B2 := hide (B1.out.trans (b2.mono B1.out.size))
    clear b2
    go_wp2_with fail
    obtain ⟨X0, hX0⟩ : ∃ X0, X0 = w2.alloc (.cells #[.int .i64 P1, .int .i64 P2] 133) := ⟨_, rfl⟩
    rw [<- hX0]
    have KF : Hid (∀ x, Below X0.heap.size X0 x -> (x.cell? ⟨bb, 0, none⟩ = some (.pointer (some ⟨pb, 0, none⟩)) /\ x.cell? ⟨w2.heap.size, 0, none⟩ = some (.int .i64 P1) /\ x.cell? ⟨w2.heap.size, 1, none⟩ = some (.int .i64 P2)) /\ Below w.heap.size w x) := hide (fun x b => by
      rw [hX0] at b
      have hb := B2.out.trans ((two_below b).mono B2.out.size)
      exact ⟨⟨by rw [hb.cell hbb]; exact c0, (two_cells w2 _ _ _ b).1, (two_cells w2 _ _ _ b).2.1⟩, hb⟩)
    have KA : Hid (∀ x y s1, Below X0.heap.size X0 x -> Does O n x bb y s1 -> y.cell? ⟨bb, 0, none⟩ = some (.pointer (some ⟨pb, 0, none⟩)) /\ y.cell? ⟨w2.heap.size, 0, none⟩ = some (.int .i64 P1) /\ y.cell? ⟨w2.heap.size, 1, none⟩ = some (.int .i64 P2)) := hide (fun x y s1 b d => by
      obtain ⟨⟨e0, e1, e2⟩, _⟩ := KF.out x b
      have hg : ¬ O w2.heap.size := fun ho => by have := hO _ ho; have := B2.out.size; omega
      exact ⟨d.2.2.trans e0, d.kept e1 hg, d.kept e2 hg⟩)
    have DD := hide (Below.refl X0.heap.size X0).drew
    clear hX0
    go_region_held2 (fun W' => W'.cell? ⟨bb, 0, none⟩ = some (.pointer (some ⟨pb, 0, none⟩)) /\ W'.cell? ⟨w2.heap.size, 0, none⟩ = some (.int .i64 P1) /\ W'.cell? ⟨w2.heap.size, 1, none⟩ = some (.int .i64 P2)) (first | with_reducible exact (KF.out _ DD.out).1 | with_reducible exact (KF.out _ B3.out).1 | with_reducible exact KA.out _ _ _ B3.out D4.out) (first | (go_at_call 107; refine (HN.out _ (KF.out _ DD.out).2).mono ?_; rintro e x1 ⟨rfl, b3⟩; have B3 := hide (DD.out.trans b3); clear b3) | (go_at_call 106; refine (HA.out _ (KF.out _ B3.out).2).mono ?_; rintro e x2 ⟨rfl, hP, hb⟩; have D4 := hide (HD.out _ _ _ (KF.out _ B3.out).2 hP hb); clear hP hb))
    go_wp2
    go_end0
    exact ⟨rfl, D4.out.ahead hnn (KF.out _ B3.out).2 hbb⟩
  · rw [if_neg hz]
    have hRT := hR hz
    clear hR
    subst hRT
    go_enter Tryz.func72, Tryz.ntmps72
    go_wp2_with fail
    refine (HC.out _ (Below.refl _ _)).mono ?_
    rintro e w1 ⟨rfl, b1⟩
    have B1 := hide b1
    clear b1
    go_wp2_with fail
    refine (HP.out _ B1.out).mono ?_
    rintro e w2 ⟨rfl, b2⟩
    have B2 := hide (B1.out.trans (b2.mono B1.out.size))
    clear b2
    go_wp2_with fail
    obtain ⟨X0, hX0⟩ : ∃ X0, X0 = w2.alloc (.cells #[.int .i64 P1, .int .i64 P2] 133) := ⟨_, rfl⟩
    rw [<- hX0]
    have KF : Hid (∀ x, Below X0.heap.size X0 x -> (x.cell? ⟨bb, 0, none⟩ = some (.pointer (some ⟨pb, 0, none⟩)) /\ x.cell? ⟨w2.heap.size, 0, none⟩ = some (.int .i64 P1) /\ x.cell? ⟨w2.heap.size, 1, none⟩ = some (.int .i64 P2)) /\ Below w.heap.size w x) := hide (fun x b => by
      rw [hX0] at b
      have hb := B2.out.trans ((two_below b).mono B2.out.size)
      exact ⟨⟨by rw [hb.cell hbb]; exact c0, (two_cells w2 _ _ _ b).1, (two_cells w2 _ _ _ b).2.1⟩, hb⟩)
    have KA : Hid (∀ x y s1, Below X0.heap.size X0 x -> Does O n x bb y s1 -> y.cell? ⟨bb, 0, none⟩ = some (.pointer (some ⟨pb, 0, none⟩)) /\ y.cell? ⟨w2.heap.size, 0, none⟩ = some (.int .i64 P1) /\ y.cell? ⟨w2.heap.size, 1, none⟩ = some (.int .i64 P2)) := hide (fun x y s1 b d => by
      obtain ⟨⟨e0, e1, e2⟩, _⟩ := KF.out x b
      have hg : ¬ O w2.heap.size := fun ho => by have := hO _ ho; have := B2.out.size; omega
      exact ⟨d.2.2.trans e0, d.kept e1 hg, d.kept e2 hg⟩)
    have DD := hide (Below.refl X0.heap.size X0).drew
    clear hX0
    go_region_held2 (fun W' => W'.cell? ⟨bb, 0, none⟩ = some (.pointer (some ⟨pb, 0, none⟩)) /\ W'.cell? ⟨w2.heap.size, 0, none⟩ = some (.int .i64 P1) /\ W'.cell? ⟨w2.heap.size, 1, none⟩ = some (.int .i64 P2)) (first | with_reducible exact (KF.out _ DD.out).1 | with_reducible exact (KF.out _ B3.out).1 | with_reducible exact KA.out _ _ _ B3.out D4.out) (first | (go_at_call 107; refine (HN.out _ (KF.out _ DD.out).2).mono ?_; rintro e x1 ⟨rfl, b3⟩; have B3 := hide (DD.out.trans b3); clear b3) | (go_at_call 106; refine (HA.out _ (KF.out _ B3.out).2).mono ?_; rintro e x2 ⟨rfl, hP, hb⟩; have D4 := hide (HD.out _ _ _ (KF.out _ B3.out).2 hP hb); clear hP hb))
    go_wp2_with fail
    have D5 := hide (D4.out.after (Below.refl x2.heap.size x2).drew)
    go_region_held2 (fun W' => W'.cell? ⟨bb, 0, none⟩ = some (.pointer (some ⟨pb, 0, none⟩)) /\ W'.cell? ⟨w2.heap.size, 0, none⟩ = some (.int .i64 P1) /\ W'.cell? ⟨w2.heap.size, 1, none⟩ = some (.int .i64 P2)) (first | with_reducible exact KA.out _ _ _ B3.out D5.out | with_reducible exact KA.out _ _ _ B3.out D6.out | with_reducible exact KA.out _ _ _ B3.out D7.out | with_reducible exact KA.out _ _ _ B3.out D8.out) (first | (go_at_call 110; refine (HT.out _ _ D5.out.1 (KA.out _ _ _ B3.out D5.out).1).mono ?_; rintro e x3 ⟨rfl, d⟩; have D6 := hide (D5.out.trans d); clear d) | (go_at_call 109; refine (HM.out _ _ D6.out.1).mono ?_; rintro e x4 ⟨rfl, d⟩; have D7 := hide (D6.out.trans d); clear d) | (go_at_call 108; refine (HU.out _ _ D7.out.1).mono ?_; rintro e x5 ⟨rfl, d⟩; have D8 := hide (D7.out.trans d); clear d))
    go_wp2
    go_end0
    exact ⟨rfl, D8.out.ahead hnn (KF.out _ B3.out).2 hbb⟩
theorem insertText_p (h : IsB O n w bb s) (hI : PInv c s) (hc : c <= 400000000) (t : ByteArray) (ht : t.size <= 400000000) : Calls Tryz.prog 72 #[bP bb, .string t] w fun e w' => e = .returned (.tuple #[]) /\ Does O n w bb w' (textP s t.data.toList) :=
  (insertText_t h.tight (fun k hk => hk.2) hI hc t ht).mono fun e w' ⟨a, d⟩ => ⟨a, d.wide h.nL⟩
end Go.Proofs.YtfohijnkeefcfaaGreatDoor
