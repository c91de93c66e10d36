import Derived.Test.YtfohijnkeefcfaaGreatDoorKn15
import Derived.Test.YtfohijnkeefcfaaGreatDoorKn20
set_option linter.unusedVariables false
set_option linter.unusedSimpArgs false
set_option maxRecDepth 100000
set_option maxHeartbeats 8000000
namespace Go.Proofs.YtfohijnkeefcfaaGreatDoor
open Go.RowKit
open S5 (ButA andNew PT IsA cell_lt below_alloc hide below_drewN)
variable {O : Nat -> Prop} {n : Nat} {w W : World} {bb : Nat} {s : PB}
abbrev bP (bb : Nat) : Value := .pointer (some ⟨bb, 0, none⟩)
abbrev oA (o : S6.OV) : Value := .agg #[.int .i64 o.id, .int .i64 o.sp, .string o.nm]
def curP (s : PB) : S6.OV := s.op.getLast?.getD ⟨0, 0, ⟨#[]⟩⟩
def failP (s : PB) (z : Int) : PB := if s.e = 0 then { s with e := z } else s
def keepP (s : PB) (z : Int) : PB := { s with op := s.op.take (max z 1).toNat }
def madeP (s : PB) (z : Int) : PB := if z = -1 then failP s 4 else s
def isP (o : S6.OV) (names : List (List UInt8)) : Bool := S6.namedL names o
theorem foreign_p (o : S6.OV) (w : World) : Calls Tryz.prog 31 #[oA o] w fun e w' => e = .returned (.bool (o.sp != 0)) /\ Below w.heap.size w w' := by
  obtain ⟨id, sp, nm⟩ := o
  simp only []
  go_enter Tryz.func31, Tryz.ntmps31
  go_wp2
  go_ret
  exact ⟨rfl, by first | exact below_drewN _ _ | exact below_alloc _ _⟩
theorem current_p (h : IsB O n w bb s) (h0 : s.op ≠ []) (hL : s.op.length <= 1000) : Calls Tryz.prog 32 #[bP bb] w fun e w' => e = .returned (oA (curP s)) /\ Below w.heap.size w w' := by
  obtain ⟨pb, og, cap, mv, A, h⟩ := h
  have hl : 0 < s.op.length := List.length_pos_iff.2 h0
  obtain ⟨k, hk⟩ : ∃ k, s.op.length = k + 1 := ⟨s.op.length - 1, by omega⟩
  have hcur : curP s = s.op[k] := by
    have : s.op.length - 1 = k := by omega
    unfold curP
    rw [List.getLast?_eq_getElem?, this, List.getElem?_eq_getElem (by omega)]
    rfl
  obtain ⟨c0, c1, c2⟩ := h.opCell k (by omega)
  rw [<- hcur] at c0 c1 c2
  have b1 : w.cell? ⟨bb, 1, none⟩ = some (.slice (some ⟨og, 0, none⟩) (k + 1) cap) := by rw [<- hk]; exact h.cs 1 (by omega)
  have hk2 : (k : Int) < 1000 := by omega
  clear h hcur hk hl h0 hL
  go_enter Tryz.func32, Tryz.ntmps32
  go_wp2
  generalize hW0 : w.alloc (Obj.cells #[Value.int IntKind.i64 0, Value.int IntKind.i64 0, Value.string ⟨#[]⟩] 76) = W0
  have k0 : W0.cell? ⟨og, k * 3, none⟩ = some (.int .i64 (curP s).id) := by rw [<- hW0, (below_alloc w _).cell (cell_lt c0)]; exact c0
  have k1 : W0.cell? ⟨og, k * 3 + 1, none⟩ = some (.int .i64 (curP s).sp) := by rw [<- hW0, (below_alloc w _).cell (cell_lt c1)]; exact c1
  have k2 : W0.cell? ⟨og, k * 3 + 2, none⟩ = some (.string (curP s).nm) := by rw [<- hW0, (below_alloc w _).cell (cell_lt c2)]; exact c2
  have d1 : W0.cell? ⟨bb, 1, none⟩ = some (.slice (some ⟨og, 0, none⟩) (k + 1) cap) := by rw [<- hW0, (below_alloc w _).cell (cell_lt b1)]; exact b1
  obtain ⟨q0, q1, q2⟩ := S6.box_cells w 0 0 ⟨#[]⟩ (w1 := W0) (by rw [<- hW0]; exact Below.refl _ _)
  have fz : ∀ o, W0.frozen? ⟨w.heap.size, o, none⟩ = false := fun o => by rw [<- hW0]; exact (World.frozen?_alloc_mark w _ _ 0 0 o).trans (by simp)
  have f0 := fz 0
  have f1 := fz 1
  have f2 := fz 2
  have BW : Hid (Below w.heap.size w W0) := hide (by rw [<- hW0]; exact below_alloc w _)
  clear fz hW0 c0 c1 c2 b1
  go_region
  go_wp2
  refine bodyPost_ret (v := oA (curP s)) ?_ rfl ⟨rfl, (((BW.out.setCell (p := ⟨w.heap.size, 0, none⟩) (Nat.le_refl _) _).setCell (p := ⟨w.heap.size, 1, none⟩) (Nat.le_refl _) _).setCell (p := ⟨w.heap.size, 2, none⟩) (Nat.le_refl _) _).drew⟩
  rw [S5.results_cell_one rfl]
  go_simp
theorem is_p (o : S6.OV) (names : List (List UInt8)) (hl : names.length <= 1000000) (v : Value) (w : World) (hW : S6.IsW w v names) :
    Calls Tryz.prog 120 #[oA o, v] w fun e w' => e = .returned (.bool (isP o names)) /\ Below w.heap.size w w' := by
  have H1 := hide (foreign_p o)
  have H2 := hide (fun w1 (b1 : Below w.heap.size w w1) => S6.contains_any o.nm names v w1 hl (hW.below b1))
  unfold isP S6.namedL S6.htmlL
  generalize S6.amongL names o.nm.data.toList = P at *
  obtain ⟨id, sp, nm⟩ := o
  simp only [] at H1 H2 ⊢
  clear hW
  by_cases hq : sp = 0
  · have e1 : (sp != 0) = false := by simp [hq]
    have e2 : (sp == 0) = true := by simp [hq]
    rw [e1] at H1
    rw [e2]
    clear hq e1 e2
    go_enter Tryz.func120, Tryz.ntmps120
    go_wp2_with fail
    refine (H1.out _).mono ?_
    rintro e w1 ⟨rfl, b1⟩
    obtain ⟨c0, c1, c2⟩ := S6.box_cells w id sp nm b1
    have bb := S6.box_below w _ b1
    clear b1
    go_wp2_with fail
    refine (H2.out w1 bb).mono ?_
    rintro e w2 ⟨rfl, rfl⟩
    go_wp2
    go_ret
    exact ⟨by simp, bb⟩
  · have e1 : (sp != 0) = true := by simp [hq]
    have e2 : (sp == 0) = false := by simp [hq]
    rw [e1] at H1
    rw [e2]
    clear hq e1 e2
    go_enter Tryz.func120, Tryz.ntmps120
    go_wp2_with fail
    refine (H1.out _).mono ?_
    rintro e w1 ⟨rfl, b1⟩
    have bb := S6.box_below w _ b1
    clear b1
    go_wp2
    go_ret
    exact ⟨by simp, bb⟩
theorem fail_m (h : IsB O n w bb s) (z : Int) : Calls Tryz.prog 162 #[bP bb, .int .i64 z] w fun e w' => e = .returned (.tuple #[]) /\ DoesM O n w bb w' (failP s z) := by
  obtain ⟨pb, og, cap, mv, A, h⟩ := h
  have H := hide h
  have c8 : w.cell? ⟨bb, 8, none⟩ = some (.int .i64 s.e) := h.cs 8 (by omega)
  have f8 := h.fz 8
  have hn := h.nL
  have hb := h.bO
  unfold failP
  by_cases he : s.e = 0
  · have hs := hide (h.scal 8 (by omega) (by omega) (.int .i64 z) { s with e := z } rfl rfl rfl rfl)
    rw [if_pos he]
    rw [he] at c8
    clear h
    go_enter Tryz.func162, Tryz.ntmps162
    go_wp2
    go_end0
    exact ⟨rfl, ⟨hs.out.does hn ((ButA.refl _ _).setCell (.inl hb) _) (set0 _ _ _ (by decide) _), set2 _ _ _ (by decide) _⟩⟩
  · rw [if_neg he]
    clear h
    generalize s.e = q at *
    go_enter Tryz.func162, Tryz.ntmps162
    go_wp2
    go_end0
    exact ⟨rfl, DoesM.of ⟨_, _, _, _, _, H.out⟩ (Below.refl _ _)⟩
theorem made_m (h : IsB O n w bb s) (z : Int) : Calls Tryz.prog 109 #[bP bb, .int .i64 z] w fun e w' => e = .returned (.int .i64 z) /\ DoesM O n w bb w' (madeP s z) := by
  have H := hide (fun w1 (b1 : Below w.heap.size w w1) => fail_m (h.below b1) 4)
  have HH := hide h
  have hn := h.nL
  unfold madeP
  clear h
  by_cases he : z = -1
  · subst he
    rw [if_pos rfl]
    go_enter Tryz.func109, Tryz.ntmps109
    go_wp2_with fail
    refine (H.out _ (Below.refl _ _)).mono ?_
    rintro e w1 ⟨rfl, d1⟩
    go_wp2
    go_ret
    exact ⟨rfl, d1⟩
  · rw [if_neg he]
    go_enter Tryz.func109, Tryz.ntmps109
    go_wp2
    go_ret
    exact ⟨rfl, DoesM.of HH.out (Below.refl _ _)⟩
theorem made_p (h : IsB O n w bb s) (z : Int) : Calls Tryz.prog 109 #[bP bb, .int .i64 z] w fun e w' => e = .returned (.int .i64 z) /\ Does O n w bb w' (madeP s z) := (made_m h z).mono fun e w' ⟨a, d⟩ => ⟨a, d.1⟩
theorem keep_p (h : IsB O n w bb s) (z : Int) (h0 : s.op ≠ []) (hL : s.op.length <= 1000) (hz : z <= s.op.length) : Calls Tryz.prog 111 #[bP bb, .int .i64 z] w fun e w' => e = .returned (.tuple #[]) /\ Does O n w bb w' (keepP s z) := by
  obtain ⟨pb, og, cap, mv, A, h⟩ := h
  have hl : 0 < s.op.length := List.length_pos_iff.2 h0
  have b1 : w.cell? ⟨bb, 1, none⟩ = some (.slice (some ⟨og, 0, none⟩) s.op.length cap) := h.cs 1 (by omega)
  have f1 := h.fz 1
  have hc := h.capL
  obtain ⟨k, hk, hk0, hkl⟩ : ∃ k : Nat, max z 1 = (k : Int) /\ 1 <= k /\ k <= s.op.length := ⟨(max z 1).toNat, by omega, by omega, by omega⟩
  unfold keepP
  rw [hk, Int.toNat_natCast]
  have hlen : (s.op.take k).length = k := by rw [List.length_take]; omega
  have hrow : w.ownsRow 0 76 3 (opV og (s.op.take k).length cap) (s.op.take k).length (opCells (s.op.take k)) := by
    rw [hlen]
    rcases h.row.2 with ⟨e, _⟩ | ⟨g, c, cur, e, q1, q2, q3, q4, q5, q6⟩
    · cases e
    · injection e with e1 e2 e3
      injection e1 with e1
      injection e1 with e1 e4
      subst e1 e3
      refine ⟨by rw [opCells_len, hlen], .inr ⟨og, cap, cur, rfl, Nat.zero_le _, q2, by omega, q4, q5, ?_⟩⟩
      rw [<- opCells_take s.op k hkl, <- q6, List.take_take]
      congr 1
      omega
  have HB := hide (h.opens (ButA.refl _ w) hrow (.inl rfl))
  rw [hlen] at HB
  have hb := h.bO
  clear h hrow hlen
  generalize s.op.length = N at *
  go_enter Tryz.func111, Tryz.ntmps111
  go_wp2
  · go_end0
    obtain rfl : k = 1 := by omega
    exact ⟨rfl, HB.out.does' ((ButA.refl _ _).setCell (.inl hb) _) (set0 _ _ _ (by decide) _)⟩
  · go_end0
    obtain rfl : k = z.toNat := by omega
    exact ⟨rfl, HB.out.does' ((ButA.refl _ _).setCell (.inl hb) _) (set0 _ _ _ (by decide) _)⟩
end Go.Proofs.YtfohijnkeefcfaaGreatDoor
namespace Go.Proofs.YtfohijnkeefcfaaGreatDoor
open Go.RowKit
open S5 (ButA andNew PT IsA cell_lt below_alloc hide below_drewN)
variable {O : Nat -> Prop} {n : Nat} {w W : World} {bb : Nat} {s : PB}
def upP (s : PB) (names : List (List UInt8)) : PB := if S6.cutZ s.op names = -1 then s else keepP s (S6.cutZ s.op names)
def impP (s : PB) (ex : ByteArray) : PB := keepP s (S6.impliedZ s.op ex)
def closePP (s : PB) : PB := if S6.hasZ s.op [[112]] 3 then upP (impP s ⟨#[112]⟩) [[112]] else s
theorem keepP_len (s : PB) (z : Int) : (keepP s z).op.length <= s.op.length := by
  unfold keepP
  simp only [List.length_take]
  omega
theorem keepP_ne {s : PB} (z : Int) (h : s.op ≠ []) : (keepP s z).op ≠ [] := by
  have h1 : 0 < s.op.length := List.length_pos_iff.2 h
  have : 0 < (keepP s z).op.length := by
    unfold keepP
    simp only [List.length_take]
    omega
  exact List.length_pos_iff.1 this
theorem names_built (w : World) (l : List (List UInt8)) : S6.IsW (w.alloc (.cells (S6.cellsOf l) 9)) (.slice (some ⟨w.heap.size, 0, none⟩) l.length l.length) l := S6.isW_built w l
theorem inScope_p (h : IsB O n w bb s) (hL : s.op.length <= 1000) (sc : Int) (names : List (List UInt8)) (hn : names.length <= 1000) (u : Value) (hW : S6.IsW w u names) : Calls Tryz.prog 126 #[bP bb, .int .i64 sc, u] w fun e w' => e = .returned (.bool (S6.hasZ s.op names sc)) /\ Below w.heap.size w w' := by
  obtain ⟨pb, og, cap, mv, A, h⟩ := h
  have b1 : w.cell? ⟨bb, 1, none⟩ = some (.slice (some ⟨og, 0, none⟩) s.op.length cap) := h.cs 1 (by omega)
  have H := hide (S6.has_any s.op (by omega) names (by omega) sc (opV og s.op.length cap) u w h.isO hW)
  generalize S6.hasZ s.op names sc = Z at *
  generalize s.op.length = N at *
  clear h
  obtain ⟨a, c, rfl⟩ := S6.isW_form hW
  clear hW
  go_enter Tryz.func126, Tryz.ntmps126
  go_wp2_with fail
  refine H.out.mono ?_
  rintro e w1 ⟨rfl, b1⟩
  go_wp2
  go_ret
  exact ⟨rfl, b1⟩
theorem popUpTo_p (h : IsB O n w bb s) (h0 : s.op ≠ []) (hL : s.op.length <= 1000) (names : List (List UInt8)) (hn : names.length <= 1000) (u : Value) (hW : S6.IsW w u names) : Calls Tryz.prog 128 #[bP bb, u] w fun e w' => e = .returned (.tuple #[]) /\ Does O n w bb w' (upP s names) := by
  have HK := hide (fun w1 (b : Below w.heap.size w w1) => keep_p (h.below b) (S6.cutZ s.op names) h0 hL (by have := (S6.place_range (S6.namedL names) s.op).2; unfold S6.cutZ; omega))
  have HI := hide h
  have hnn := h.nL
  have hbb := h.bL
  obtain ⟨pb, og, cap, mv, A, h⟩ := h
  have b1 : w.cell? ⟨bb, 1, none⟩ = some (.slice (some ⟨og, 0, none⟩) s.op.length cap) := h.cs 1 (by omega)
  have H := hide (S6.cut_any s.op (by omega) names (by omega) (opV og s.op.length cap) u w h.isO hW)
  unfold upP
  generalize S6.cutZ s.op names = Z at *
  generalize s.op.length = N at *
  clear h
  obtain ⟨a, c, rfl⟩ := S6.isW_form hW
  clear hW
  by_cases hz : Z = -1
  · subst hz
    rw [if_pos rfl]
    go_enter Tryz.func128, Tryz.ntmps128
    go_wp2_with fail
    refine H.out.mono ?_
    rintro e w1 ⟨rfl, b1⟩
    go_wp2
    go_end0
    exact ⟨rfl, Does.of HI.out b1⟩
  · rw [if_neg hz]
    go_enter Tryz.func128, Tryz.ntmps128
    go_wp2_with fail
    refine H.out.mono ?_
    rintro e w1 ⟨rfl, b1⟩
    go_wp2_with fail
    refine (HK.out w1 b1).mono ?_
    rintro e w2 ⟨rfl, d2⟩
    go_wp2
    go_end0
    exact ⟨rfl, d2.ahead hnn b1 hbb⟩
theorem implied_range (s : PB) (ex : ByteArray) : S6.impliedZ s.op ex <= s.op.length := by
  unfold S6.impliedZ
  have : ∀ k, S6.leftO ex s.op k <= k := by
    intro k
    induction k with
    | zero => exact Nat.le_refl _
    | succ k ih => rw [S6.leftO]; split <;> omega
  have := this s.op.length
  omega
theorem endImplied_p (h : IsB O n w bb s) (h0 : s.op ≠ []) (hL : s.op.length <= 1000) (ex : ByteArray) : Calls Tryz.prog 127 #[bP bb, .string ex] w fun e w' => e = .returned (.tuple #[]) /\ Does O n w bb w' (impP s ex) := by
  have HK := hide (fun w1 (b : Below w.heap.size w w1) => keep_p (h.below b) (S6.impliedZ s.op ex) h0 hL (implied_range s ex))
  have hnn := h.nL
  have hbb := h.bL
  obtain ⟨pb, og, cap, mv, A, h⟩ := h
  have b1 : w.cell? ⟨bb, 1, none⟩ = some (.slice (some ⟨og, 0, none⟩) s.op.length cap) := h.cs 1 (by omega)
  have H := hide (S6.implied_any s.op (by omega) ex (opV og s.op.length cap) w h.isO)
  unfold impP
  generalize S6.impliedZ s.op ex = Z at *
  generalize s.op.length = N at *
  clear h
  go_enter Tryz.func127, Tryz.ntmps127
  go_wp2_with fail
  refine H.out.mono ?_
  rintro e w1 ⟨rfl, b1⟩
  go_wp2_with fail
  refine (HK.out w1 b1).mono ?_
  rintro e w2 ⟨rfl, d2⟩
  go_wp2
  go_end0
  exact ⟨rfl, d2.ahead hnn b1 hbb⟩
theorem closeP_p (h : IsB O n w bb s) (h0 : s.op ≠ []) (hL : s.op.length <= 1000) : Calls Tryz.prog 177 #[bP bb] w fun e w' => e = .returned (.tuple #[]) /\ Does O n w bb w' (closePP s) := by
  have bA := below_alloc w (.cells (S6.cellsOf [[112]]) 9)
  have H1 := hide (inScope_p (h.below bA) hL 3 [[112]] (by decide) _ (names_built w [[112]]))
  have H2 := hide (fun w1 (b : Below w.heap.size w w1) => endImplied_p (h.below b) h0 hL ⟨#[112]⟩)
  have H3 := hide (fun w1 (d : Does O n w bb w1 (impP s ⟨#[112]⟩)) => popUpTo_p (d.1.below (below_alloc w1 (.cells (S6.cellsOf [[112]]) 9))) (keepP_ne _ h0) (Nat.le_trans (keepP_len _ _) hL) [[112]] (by decide) _ (names_built w1 [[112]]))
  have HI := hide h
  have hnn := h.nL
  have hbb := h.bL
  have BA := hide bA
  unfold closePP
  generalize S6.hasZ s.op [[112]] 3 = Z at *
  clear h bA
  cases Z
  · go_enter Tryz.func177, Tryz.ntmps177
    go_wp2_with fail
    refine H1.out.mono ?_
    rintro e w1 ⟨rfl, b1⟩
    go_wp2
    go_end0
    exact ⟨rfl, Does.of HI.out (BA.out.trans (b1.mono BA.out.size))⟩
  · go_enter Tryz.func177, Tryz.ntmps177
    go_wp2_with fail
    refine H1.out.mono ?_
    rintro e w1 ⟨rfl, b1⟩
    go_wp2_with fail
    refine (H2.out w1 (BA.out.trans (b1.mono BA.out.size))).mono ?_
    rintro e w2 ⟨rfl, d2⟩
    have d3 := d2.ahead hnn (BA.out.trans (b1.mono BA.out.size)) hbb
    go_wp2_with fail
    refine (H3.out w2 d3).mono ?_
    rintro e w4 ⟨rfl, d4⟩
    go_wp2
    go_end0
    exact ⟨rfl, d3.trans (d4.ahead d3.1.nL (below_alloc w2 _) d3.1.bL)⟩
end Go.Proofs.YtfohijnkeefcfaaGreatDoor
