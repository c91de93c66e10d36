import Derived.Test.YtpppdfjdngmaoaaGreatDoorKh00
import Derived.Test.YtpppdfjdngmaoaaGreatDoorKh01
import Derived.Test.YtpppdfjdngmaoaaGreatDoorKh04
import Derived.Test.YtpppdfjdngmaoaaGreatDoorKh05
import Derived.Test.YtpppdfjdngmaoaaGreatDoorKh08
import Derived.Test.YtpppdfjdngmaoaaGreatDoorKh09
import Derived.Test.YtpppdfjdngmaoaaGreatDoorKh12
import Derived.Test.YtpppdfjdngmaoaaGreatDoorKh15
import Derived.Test.YtpppdfjdngmaoaaGreatDoorKh20
import Derived.Test.YtpppdfjdngmaoaaGreatDoorKh24
import Derived.Test.YtpppdfjdngmaoaaGreatDoorKh26
import Derived.Test.YtpppdfjdngmaoaaGreatDoorKh34
import Derived.Test.YtpppdfjdngmaoaaGreatDoorKh35
import Derived.Shelf.SlSortCmp.WholeK
import Derived.Shelf.Small.Bits
import Derived.Test.YtpppdfjdngmaoaaGreatDoorProg
import Derived.Deep.RegionHeld2
import Derived.Laws.IdiomCopy
import Derived.Deep.RegionLaw
import Derived.Lib.SliceRun
set_option linter.unusedVariables false
set_option linter.unusedSimpArgs false
set_option maxRecDepth 100000
set_option maxHeartbeats 8000000
namespace Go.Proofs.YtpppdfjdngmaoaaGreatDoor
open Go.RowKit
open S5 (ButA andNew PT IsA cell_lt below_alloc hide below_drewN)
variable {O : Nat → Prop} {n : Nat} {w W : World} {bb : Nat} {s : PB} {c : Nat}
def tvOf (t : S4.Tok) (sv : Value) : TV := ⟨(t.kind : Int), ⟨t.name.toArray⟩, t.attrs, sv, t.closed, ⟨t.text.toArray⟩⟩
def nxt (m : BS) (r : Bs) : S4.Tok × Bs := S4.nextR m.mode m.name (!((curB m).sp == 0)) r
def StepOk (Q : BS → Bs → Prop) : Prop := ∀ (m : BS) (r : Bs) (s : PB) (sv : Value) (n bb c : Nat), Q m r → m.e = 0 → Rel0 s m → s.e = 0 → s.nm.size ≤ 20000 → PInv c s → c ≤ 250000000 → r.length ≤ 20000 → (nxt m r).1.kind ≠ 0 →
  ∃ S, BC 45 n bb (tvOf (nxt m r).1 sv) s S ∧ Rel S (takeB m (nxt m r).1) ∧ PInv (c + 50000) S ∧ S.nm.size ≤ 20000 ∧ ((takeB m (nxt m r).1).e = 0 → Q (takeB m (nxt m r).1) (nxt m r).2)
def Run8 (n0 : Nat) (w0 : World) (bb : Nat) (Q : BS → Bs → Prop) (l : Bs) (M : BS) (p : Nat) (x : World) : Prop :=
  ∃ (m : BS) (s : PB) (O : Nat → Prop) (n : Nat), p ≤ l.length ∧ IsB O n x bb s ∧ (∀ k, O k → n0 ≤ k ∧ k < x.heap.size) ∧ Rel s m ∧ (m.e = 0 → Q m (l.drop p)) ∧ PInv (50000 * p) s ∧ s.nm.size ≤ 20000 ∧ runB ((l.drop p).length + 1) m (l.drop p) = M ∧ Below n0 w0 x
theorem runB_end (k : Nat) (m : BS) (r : Bs) (h : m.e ≠ 0) : runB k m r = m := by
  cases k with
  | zero => rfl
  | succ k => rw [runB, if_pos h]
theorem nxt_short (m : BS) (r : Bs) (h : (nxt m r).1.kind ≠ 0) : (nxt m r).2.length < r.length := by
  by_cases h0 : r = []
  · subst h0
    exact absurd (by unfold nxt; rw [S4.nextR_nil]) h
  · exact (S4.next_good _ _ _ r h0).short
theorem run_stepP (k : Nat) (m : BS) (r : Bs) (he : m.e = 0) : runB (k + 1) m r = if (nxt m r).1.kind = 0 then m else runB k (takeB m (nxt m r).1) (nxt m r).2 := by
  rw [runB, if_neg (by simpa using he)]
  rfl
theorem run_more : ∀ (k : Nat) (r : Bs) (m : BS), r.length < k → runB (k + 1) m r = runB k m r
  | 0, r, m, h => by omega
  | k + 1, r, m, h => by
    by_cases he : m.e = 0
    · rw [run_stepP (k + 1) m r he, run_stepP k m r he]
      split
      · rfl
      · rename_i hk
        have := nxt_short m r hk
        exact run_more k _ _ (by omega)
    · rw [runB_end _ _ _ he, runB_end _ _ _ he]
theorem run_enough (r : Bs) (m : BS) : ∀ d : Nat, runB (r.length + 1 + d) m r = runB (r.length + 1) m r
  | 0 => rfl
  | d + 1 => by
    rw [show r.length + 1 + (d + 1) = (r.length + 1 + d) + 1 by omega, run_more _ r m (by omega)]
    exact run_enough r m d
theorem IsB.raise (h : IsB O n w bb s) {n' : Nat} (h1 : n ≤ n') (h2 : n' ≤ w.heap.size) : IsB O n' w bb s := by
  obtain ⟨pb, og, cap, mv, A, h⟩ := h
  exact ⟨pb, og, cap, mv, A, { h with attL := fun m hm h0 k e => ⟨Nat.lt_of_lt_of_le (h.attL m hm h0 k e).1 h1, (h.attL m hm h0 k e).2⟩, nL := h2 }⟩
abbrev tok0W (w : World) : World := w.alloc (.cells #[.int .i64 0, .string ⟨#[]⟩, .slice none 0 0, .bool false, .string ⟨#[]⟩] 84)
theorem tok0_box (w : World) {x : World} (h : Below (tok0W w).heap.size (tok0W w) x) : (x.cell? ⟨w.heap.size, 0, none⟩ = some (.int .i64 0) ∧ x.cell? ⟨w.heap.size, 1, none⟩ = some (.string ⟨#[]⟩) ∧ x.cell? ⟨w.heap.size, 2, none⟩ = some (.slice none 0 0) ∧ x.cell? ⟨w.heap.size, 3, none⟩ = some (.bool false) ∧ x.cell? ⟨w.heap.size, 4, none⟩ = some (.string ⟨#[]⟩)) ∧ (∀ j, x.frozen? ⟨w.heap.size, j, none⟩ = false) ∧ Below w.heap.size w x := by
  refine ⟨⟨?_, ?_, ?_, ?_, ?_⟩, fun j => ?_, two_below h⟩
  · rw [h.cell (by simp)]; simp [go_sem]
  · rw [h.cell (by simp)]; simp [go_sem]
  · rw [h.cell (by simp)]; simp [go_sem]
  · rw [h.cell (by simp)]; simp [go_sem]
  · rw [h.cell (by simp)]; simp [go_sem]
  · rw [h.frozen (p := ⟨w.heap.size, j, none⟩) (by simp)]; exact (World.frozen?_alloc_mark w _ _ 0 0 j).trans (by simp)
abbrev set5W (x : World) (g : Nat) (a b c d e : Value) : World := ((((x.setCell ⟨g, 0, none⟩ a).setCell ⟨g, 1, none⟩ b).setCell ⟨g, 2, none⟩ c).setCell ⟨g, 3, none⟩ d).setCell ⟨g, 4, none⟩ e
theorem set5_other (x : World) (g : Nat) (a b c d e : Value) (k : Nat) (hk : k ≠ g) : (set5W x g a b c d e).heap[k]? = x.heap[k]? := by
  unfold set5W
  rw [Below.heap_setCell _ _ _ _ hk, Below.heap_setCell _ _ _ _ hk, Below.heap_setCell _ _ _ _ hk, Below.heap_setCell _ _ _ _ hk, Below.heap_setCell _ _ _ _ hk]
theorem set5_below {w x : World} {B g : Nat} (h : Below B w x) (hg : B ≤ g) (a b c d e : Value) : Below B w (set5W x g a b c d e) :=
  ((((h.setCell (p := ⟨g, 0, none⟩) hg _).setCell (p := ⟨g, 1, none⟩) hg _).setCell (p := ⟨g, 2, none⟩) hg _).setCell (p := ⟨g, 3, none⟩) hg _).setCell (p := ⟨g, 4, none⟩) hg _
theorem below_env {n0 : Nat} (hn : 2 ≤ n0) {w0 x : World} (hz : n0 ≤ w0.heap.size) (he : S4.Env w0) (hb : Below n0 w0 x) : S4.Env x := he.keep (hb.block 0 (by omega)) (hb.block 1 (by omega))
theorem takeAll_p (Q : BS → Bs → Prop) (hQ : StepOk Q) (T : ByteArray) (hT : T.size ≤ 4096) (n0 : Nat) (hn : 2 ≤ n0) (hz : n0 ≤ w.heap.size) (he : S4.Env w) (M : BS) (h0 : Run8 n0 w bb Q T.data.toList M 0 w) :
    Calls Tryz.prog 30 #[bP bb, .string T] w fun e w' => e = .returned (.tuple #[]) ∧ (∃ S O n, IsB O n w' bb S ∧ (∀ k, O k → n0 ≤ k ∧ k < w'.heap.size) ∧ Rel S M ∧ PInv 250000000 S) ∧ Below n0 w w' := by
  have HE := hide he
  have H0 := hide h0
  have HQ := hide hQ
  have hTl : T.size = T.data.toList.length := S5.size_list T
  clear he h0 hQ
  go_enter Tryz.func30, Tryz.ntmps30
  go_wp2
  go_loopw [4] (fun at_ wr => ∃ p : Nat, at_ = .int .i64 (p : Int) ∧ Hid (Run8 n0 w bb Q T.data.toList M p wr)) (fun at_ _ => T.size - (intOf at_).toNat)
  case atStart => exact ⟨0, rfl, H0⟩
  case round =>
    obtain ⟨p, rfl, HR⟩ := hrel
    generalize wr = wx at *
    obtain ⟨m, s, O, n, hp, hIs, hO, hRel, hQm, hI, hnm, hrun, hbel⟩ := HR.out
    have hL := hI.opL
    have hbx := hIs.bL
    have hnx := hIs.nL
    by_cases hme : m.e = 0
    · have hR0 := hRel.2 hme
      have hse : s.e = 0 := hRel.1.trans hme
      obtain ⟨r0, hr0⟩ := hI.hd
      have hmne : m.op ≠ [] := fun e => by have := hR0.op; rw [e, hr0] at this; simp [vs] at this
      have hcur := cur_rel hR0 hmne
      have eN : S4.nextZ s.mo s.nm.data.toList ((curP s).sp != 0) T.data.toList (p : Int) = nxt m (T.data.toList.drop p) := by
        rw [S4.nextZ_le _ _ _ _ _ hp, hcur]
        unfold nxt
        have e1 : ((curB m).v.sp != 0) = !((curB m).sp == 0) := rfl
        rw [e1, hR0.mo]
        by_cases h0 : m.mode = 0
        · rw [h0]; exact nextR_name _ _ _ _
        · rw [hR0.nm h0]
      have HC := hide (fun x (b : Below wx.heap.size wx x) => current_p (hIs.below b) hI.ne (by omega))
      have HF := hide (foreign_p (curP s))
      have HNx := hide (fun x (b : Below wx.heap.size wx x) => S4.pnext_any T s.nm (by omega) hnm (p : Int) s.mo ((curP s).sp != 0) x (below_env hn hz HE.out (hbel.trans (b.mono (Nat.le_trans hz hbel.size)))))
      rw [eN] at HNx
      have HCS : Hid (∀ x, Below wx.heap.size wx x → x.cell? ⟨bb, 8, none⟩ = some (.int .i64 0) ∧ x.cell? ⟨bb, 4, none⟩ = some (.int .i64 s.mo) ∧ x.cell? ⟨bb, 5, none⟩ = some (.string s.nm)) := hide (fun x b => by
        obtain ⟨pb, og, cap, mv, A, v⟩ := hIs.below b
        have g8 := v.cs 8 (by omega)
        have g4 := v.cs 4 (by omega)
        have g5 := v.cs 5 (by omega)
        simp only [fv, List.getElem?_cons_succ, List.getElem?_cons_zero, hse] at g8 g4 g5
        exact ⟨g8, g4, g5⟩)
      obtain ⟨e8, _, _⟩ := HCS.out wx (Below.refl _ _)
      generalize curP s = C at *
      generalize hfb : (C.sp != 0) = fb at *
      generalize hNN : nxt m (T.data.toList.drop p) = NN at *
      obtain ⟨X0, hX0⟩ : ∃ X0, X0 = wx.alloc (.cells #[.int .i64 0, .string ⟨#[]⟩, .slice none 0 0, .bool false, .string ⟨#[]⟩] 84) := ⟨_, rfl⟩
      have KF : Hid (∀ x, Below X0.heap.size X0 x → (x.cell? ⟨bb, 4, none⟩ = some (.int .i64 s.mo) ∧ x.cell? ⟨bb, 5, none⟩ = some (.string s.nm)) ∧ Below wx.heap.size wx x) := hide (fun x b => by
        rw [hX0] at b
        have hb := two_below b
        exact ⟨(HCS.out x hb).2, hb⟩)
      have KB : Hid (∀ x, Below X0.heap.size X0 x → (x.cell? ⟨wx.heap.size, 0, none⟩ = some (.int .i64 0) ∧ x.cell? ⟨wx.heap.size, 1, none⟩ = some (.string ⟨#[]⟩) ∧ x.cell? ⟨wx.heap.size, 2, none⟩ = some (.slice none 0 0) ∧ x.cell? ⟨wx.heap.size, 3, none⟩ = some (.bool false) ∧ x.cell? ⟨wx.heap.size, 4, none⟩ = some (.string ⟨#[]⟩)) ∧ (∀ j, x.frozen? ⟨wx.heap.size, j, none⟩ = false)) := hide (fun x b => by
        rw [hX0] at b
        exact ⟨(tok0_box wx b).1, (tok0_box wx b).2.1⟩)
      have KS : Hid (∀ x a b c d e, Below X0.heap.size X0 x → (set5W x wx.heap.size a b c d e).cell? ⟨bb, 4, none⟩ = some (.int .i64 s.mo) ∧ (set5W x wx.heap.size a b c d e).cell? ⟨bb, 5, none⟩ = some (.string s.nm)) := hide (fun x a b c d e hb => by
        obtain ⟨⟨g4, g5⟩, _⟩ := KF.out x hb
        have hk := set5_other x wx.heap.size a b c d e bb (by omega)
        exact ⟨S5.cell_same hk g4, S5.cell_same hk g5⟩)
      have DD := hide (Below.refl X0.heap.size X0).drew
      obtain ⟨⟨tk, tn, ta, tc, tt⟩, rest⟩ := NN
      have HNx2 : Hid (∀ x, Below wx.heap.size wx x → Calls Tryz.prog 42 #[.string T, .int .i64 (p : Int), .int .i64 s.mo, .string s.nm, .bool fb] x fun e x3 => ∃ sa sl sc, (IsA x3 (.slice sa sl sc) ta ∧ (∀ k, (Value.slice sa sl sc).ownBlock = some k → x.heap.size ≤ k) ∧ Below x.heap.size x x3) ∧ e = .returned (.tuple #[.agg #[.int .i64 (tk : Int), .string ⟨tn.toArray⟩, .slice sa sl sc, .bool tc, .string ⟨tt.toArray⟩], .int .i64 ((T.size - rest.length : Nat) : Int)])) := hide (fun x b => (HNx.out x b).mono (by
        rintro e x3 ⟨⟨sv, hA, hk, rfl⟩, b3⟩
        obtain ⟨sa, sc, rfl⟩ := S5.isA_form (hA : S5.IsA x3 sv ta)
        exact ⟨sa, _, sc, ⟨hA, hk, b3⟩, rfl⟩))
      clear HNx
      have hXs : wx.heap.size < X0.heap.size := by rw [hX0]; simp
      have HBL := hide hbel
      by_cases hk0 : tk = 0
      · subst hk0
        have hM : m = M := by
          rw [← hrun, run_stepP _ m _ hme, hNN]
          simp
        have HFin : Hid (∀ y, Below wx.heap.size wx y → (∃ S O n, IsB O n y bb S ∧ (∀ k, O k → n0 ≤ k ∧ k < y.heap.size) ∧ Rel S M ∧ PInv 250000000 S) ∧ Below n0 w y) := hide (fun y b => ⟨⟨s, O, n, hIs.below b, fun k hk => ⟨(hO k hk).1, Nat.lt_of_lt_of_le (hO k hk).2 b.size⟩, hM ▸ hRel, hI.up (by omega)⟩, hbel.trans (b.mono (Nat.le_trans hz hbel.size))⟩)
        clear hrun hQm HR hIs hRel hbel hNN eN hM hcur hfb hTl hr0 hse hme hmne hp
        go_wp2_with fail
        rw [← hX0]
        clear hX0
        go_region_held2 (fun W' => W'.cell? ⟨bb, 4, none⟩ = some (.int .i64 s.mo) ∧ W'.cell? ⟨bb, 5, none⟩ = some (.string s.nm)) (first | with_reducible exact (KF.out _ DD.out).1 | with_reducible exact (KF.out _ B1.out).1 | with_reducible exact (KF.out _ B2.out).1 | with_reducible exact (KF.out _ B3.out).1 | with_reducible exact KS.out _ _ _ _ _ _ B3.out) (first | (go_at_call 44; refine (HC.out _ (KF.out _ DD.out).2).mono ?_; rintro e x1 ⟨rfl, b1⟩; have B1 := hide (DD.out.trans b1); clear b1) | (go_at_call 43; refine (HF.out _).mono ?_; rintro e x2 ⟨rfl, b2⟩; have B2 := hide (B1.out.trans (b2.mono B1.out.size)); clear b2) | (go_at_call 42; refine (HNx2.out _ (KF.out _ B2.out).2).mono ?_; rintro e x3 ⟨sa, sl, sc, hh, rfl⟩; have B3 := hide (B2.out.trans (hh.2.2.mono B2.out.size)); have HH := hide hh; obtain ⟨⟨q0, q1, q2, q3, q4⟩, qf⟩ := KB.out _ B3.out; have f0 := qf 0; have f1 := qf 1; have f2 := qf 2; have f3 := qf 3; have f4 := qf 4; clear hh qf))
        go_wp2
        refine bodyPost_ret (results_none rfl _ _ _) rfl ?_
        have hY := set5_below (KF.out _ B3.out).2 (Nat.le_refl _) (.int .i64 0) (.string ⟨tn.toArray⟩) (.slice sa sl sc) (.bool tc) (.string ⟨tt.toArray⟩)
        exact ⟨rfl, HFin.out _ hY⟩
      · have hk1 : ((tk : Int) == 0) = false := by
          rw [beq_eq_false_iff_ne]
          omega
        have HTAKE : Hid (∀ x x3 sa sl sc, Below X0.heap.size X0 x → (IsA x3 (.slice sa sl sc) ta ∧ (∀ k, (Value.slice sa sl sc).ownBlock = some k → x.heap.size ≤ k) ∧ Below x.heap.size x x3) → Calls Tryz.prog 45 #[bP bb, .agg #[.int .i64 (tk : Int), .string ⟨tn.toArray⟩, .slice sa sl sc, .bool tc, .string ⟨tt.toArray⟩]] (set5W x3 wx.heap.size (.int .i64 (tk : Int)) (.string ⟨tn.toArray⟩) (.slice sa sl sc) (.bool tc) (.string ⟨tt.toArray⟩)) fun e y => e = .returned (.tuple #[]) ∧ (Run8 n0 w bb Q T.data.toList M (T.size - rest.length) y ∧ p < T.size - rest.length)) := hide (by
          intro x x3 sa sl sc bx ⟨hA, hsk, b3⟩
          have bY := set5_below (KF.out x3 (bx.trans (b3.mono bx.size))).2 (Nat.le_refl _) (.int .i64 (tk : Int)) (.string ⟨tn.toArray⟩) (.slice sa sl sc) (.bool tc) (.string ⟨tt.toArray⟩)
          have hYs : (set5W x3 wx.heap.size (.int .i64 (tk : Int)) (.string ⟨tn.toArray⟩) (.slice sa sl sc) (.bool tc) (.string ⟨tt.toArray⟩)).heap.size = x3.heap.size := by simp [set5W, World.setCell]
          have hoth := set5_other x3 wx.heap.size (.int .i64 (tk : Int)) (.string ⟨tn.toArray⟩) (.slice sa sl sc) (.bool tc) (.string ⟨tt.toArray⟩)
          generalize set5W x3 wx.heap.size (.int .i64 (tk : Int)) (.string ⟨tn.toArray⟩) (.slice sa sl sc) (.bool tc) (.string ⟨tt.toArray⟩) = Y at *
          have hsz : wx.heap.size < x.heap.size := Nat.lt_of_lt_of_le hXs bx.size
          have hne : (nxt m (T.data.toList.drop p)).1.kind ≠ 0 := by rw [hNN]; exact hk0
          have hrl : (T.data.toList.drop p).length ≤ 20000 := by rw [List.length_drop]; omega
          obtain ⟨S, hBC, hRS, hIS, hnS, hQS⟩ := HQ.out m (T.data.toList.drop p) s (.slice sa sl sc) Y.heap.size bb (50000 * p) (hQm hme) hme hR0 hse hnm hI (by omega) hrl hne
          rw [hNN] at hBC hRS hQS
          have hsh := nxt_short m _ hne
          rw [hNN] at hsh
          simp only [List.length_drop] at hsh
          have hA2 : IsA Y (.slice sa sl sc) ta := isA_keep' hA fun _ k e => hoth k (by have := hsk k e; omega)
          have hfew : ta.length ≤ 1000000 := by
            have := S4.nextR_few m.mode m.name (!((curB m).sp == 0)) (T.data.toList.drop p)
            have e : S4.nextR m.mode m.name (!((curB m).sp == 0)) (T.data.toList.drop p) = _ := hNN
            rw [e] at this
            have h2 : ta.length ≤ (T.data.toList.drop p).length := this
            omega
          have hTok : TOk O Y.heap.size Y (tvOf ⟨tk, tn, ta, tc, tt⟩ (.slice sa sl sc)) := ⟨⟨hA2, fun h0 k e => ⟨by
              rcases hA2 with ⟨_, e2⟩ | ⟨b, o, cap, e1, _, hc⟩
              · exact absurd e2 h0
              · have e' : (Value.slice sa sl sc).ownBlock = some k := e
                have : b = k := by rw [e1] at e'; simpa [Value.ownBlock] using e'
                rw [← this]
                exact cell_lt (hc 0 (List.length_pos_iff.2 h0)).1, fun ho => by have := (hO k ho).2; have := hsk k e; omega⟩⟩, hfew⟩
          refine (hBC O Y ((hIs.below bY).raise (Nat.le_trans hnx bY.size) (Nat.le_refl _)) hTok).mono ?_
          rintro e y ⟨rfl, d⟩
          have hdrop : T.data.toList.drop (T.size - rest.length) = rest := by
            have := S4.nextR_back m.mode m.name (!((curB m).sp == 0)) T p (by omega)
            have e : S4.nextR m.mode m.name (!((curB m).sp == 0)) (T.data.toList.drop p) = _ := hNN
            rw [e] at this
            exact this.1
          refine ⟨rfl, ⟨takeB m ⟨tk, tn, ta, tc, tt⟩, S, fun k => andNew O Y.heap.size k ∧ k < y.heap.size, Y.heap.size, by omega, d.1.tight, fun k hk => ⟨?_, hk.2⟩, hRS, fun he => by rw [hdrop]; exact hQS he, hIS.up (by omega), hnS, ?_, ?_⟩, by omega⟩
          · rcases hk.1 with h1 | h1
            · exact (hO k h1).1
            · have := bY.size
              have := hbel.size
              omega
          · rw [hdrop, ← hrun, run_stepP _ m _ hme, hNN, if_neg hk0]
            obtain ⟨dd, hdd⟩ : ∃ dd, (T.data.toList.drop p).length = rest.length + 1 + dd := ⟨(T.data.toList.drop p).length - (rest.length + 1), by simp only [List.length_drop]; omega⟩
            rw [hdd]
            exact (run_enough rest _ dd).symm
          · have h1 : Below n0 w Y := hbel.trans (bY.mono (Nat.le_trans hz hbel.size))
            exact h1.trans (d.2.1.below (fun k hk => (hO k hk).1) (Nat.le_trans hz h1.size)))
        clear hrun hQm HR hIs hRel hbel hNN eN HQ hR0 hI hcur hfb hTl hr0 hse hme hmne hp
        go_wp2_with fail
        rw [← hX0]
        clear hX0
        go_region_held2 (fun W' => W'.cell? ⟨bb, 4, none⟩ = some (.int .i64 s.mo) ∧ W'.cell? ⟨bb, 5, none⟩ = some (.string s.nm)) (first | with_reducible exact (KF.out _ DD.out).1 | with_reducible exact (KF.out _ B1.out).1 | with_reducible exact (KF.out _ B2.out).1 | with_reducible exact (KF.out _ B3.out).1 | with_reducible exact KS.out _ _ _ _ _ _ B3.out) (first | (go_at_call 44; refine (HC.out _ (KF.out _ DD.out).2).mono ?_; rintro e x1 ⟨rfl, b1⟩; have B1 := hide (DD.out.trans b1); clear b1) | (go_at_call 43; refine (HF.out _).mono ?_; rintro e x2 ⟨rfl, b2⟩; have B2 := hide (B1.out.trans (b2.mono B1.out.size)); clear b2) | (go_at_call 42; refine (HNx2.out _ (KF.out _ B2.out).2).mono ?_; rintro e x3 ⟨sa, sl, sc, hh, rfl⟩; have B3 := hide (B2.out.trans (hh.2.2.mono B2.out.size)); have HH := hide hh; obtain ⟨⟨q0, q1, q2, q3, q4⟩, qf⟩ := KB.out _ B3.out; have f0 := qf 0; have f1 := qf 1; have f2 := qf 2; have f3 := qf 3; have f4 := qf 4; clear hh qf))
        go_wp2_with fail
        refine (HTAKE.out _ _ _ _ _ B2.out HH.out).mono ?_
        rintro e y ⟨rfl, hRun, hlt⟩
        have HRun := hide hRun
        clear hRun
        go_wp2
        exact ⟨⟨_, rfl, HRun⟩, by simp [intOf]; omega⟩
    · have hse : ¬ s.e = 0 := fun e => hme (hRel.1.symm.trans e)
      have e8 : wx.cell? ⟨bb, 8, none⟩ = some (.int .i64 s.e) := by
        obtain ⟨pb, og, cap, mv, A, v⟩ := hIs
        exact v.cs 8 (by omega)
      have HFin : Hid (∃ S O n, IsB O n wx bb S ∧ (∀ k, O k → n0 ≤ k ∧ k < wx.heap.size) ∧ Rel S M ∧ PInv 250000000 S) := hide ⟨s, O, n, hIs, hO, by rw [runB_end _ _ _ hme] at hrun; rw [← hrun]; exact hRel, hI.up (by omega)⟩
      generalize s.e = q at *
      have BL := hide hbel
      clear hrun hQm HR hIs hRel hbel
      go_wp2
      go_end0
      exact ⟨rfl, HFin.out, BL.out⟩
end Go.Proofs.YtpppdfjdngmaoaaGreatDoor
namespace Go.Proofs.YtpppdfjdngmaoaaGreatDoor
open Go.RowKit
open S5 (ButA andNew PT IsA cell_lt below_alloc hide below_drewN)
variable {O : Nat → Prop} {n : Nat} {w W : World} {bb : Nat} {s : PB} {c : Nat}
def startP : PB := ⟨S5.newL, [rootV], [], 0, 0, ⟨#[]⟩, false, false, 0⟩
abbrev startW (w1 : World) (pb : Nat) : World := (w1.alloc (.cells #[.int .i64 0, .int .i64 0, .string ⟨#[104, 116, 109, 108]⟩] 81)).alloc (.cells #[.pointer (some ⟨pb, 0, none⟩), .slice (some ⟨w1.heap.size, 0, none⟩) 1 1, .slice none 0 0, .int .i64 0, .int .i64 0, .string ⟨#[]⟩, .bool false, .bool false, .int .i64 0] 59)
theorem start_isB {w w1 : World} {pb : Nat} (b1 : Below w.heap.size w w1) (hP : PT (fun k => w.heap.size ≤ k ∧ k < w1.heap.size) w1 pb S5.newL) : IsB (fun k => w.heap.size ≤ k ∧ k < (startW w1 pb).heap.size) w.heap.size (startW w1 pb) (w1.heap.size + 1) startP := by
  have bS : Below w1.heap.size w1 (startW w1 pb) := (below_alloc w1 _).trans ((below_alloc _ _).mono (by simp))
  have hz : (startW w1 pb).heap.size = w1.heap.size + 1 + 1 := by simp [startW]
  have h1 := b1.size
  have hrow : (startW w1 pb).ownsRow 0 81 3 (opV w1.heap.size 1 1) 1 (opCells [rootV]) := by
    have h2 := World.ownsRow_lit (base := 0) (e := 81) (size := 3) w1 #[.int .i64 0, .int .i64 0, .string ⟨#[104, 116, 109, 108]⟩] 1 (Nat.zero_le _) (by unfold maxLen; omega) rfl
    exact S5.owns_below h2 (below_alloc _ _)
  refine ⟨pb, w1.heap.size, 1, .slice none 0 0, fun k => w.heap.size ≤ k ∧ k < w1.heap.size, ?_, fun j => ?_, hP.below bS, hrow, .inl ⟨rfl, _, _, rfl⟩, fun b o l c e => (by cases e), fun m hm => absurd hm (by simp [startP]), fun m hm => absurd hm (by simp [startP]), (by omega), fun k hk => ⟨⟨hk.1, by omega⟩, by omega⟩, ⟨(by omega), (by omega)⟩, ⟨(by omega), (by omega)⟩, fun h => (by omega), fun h => (by omega), (by omega)⟩
  · intro j hj
    have hs : (w1.alloc (.cells #[.int .i64 0, .int .i64 0, .string ⟨#[104, 116, 109, 108]⟩] 81)).heap.size = w1.heap.size + 1 := by simp
    have hc := World.cell?_alloc_mark (w1.alloc (.cells #[.int .i64 0, .int .i64 0, .string ⟨#[104, 116, 109, 108]⟩] 81)) #[.pointer (some ⟨pb, 0, none⟩), .slice (some ⟨w1.heap.size, 0, none⟩) 1 1, .slice none 0 0, .int .i64 0, .int .i64 0, .string ⟨#[]⟩, .bool false, .bool false, .int .i64 0] 59 (0, 0) j
    rw [hs] at hc
    refine hc.trans ?_
    rcases (by omega : j = 0 ∨ j = 1 ∨ j = 2 ∨ j = 3 ∨ j = 4 ∨ j = 5 ∨ j = 6 ∨ j = 7 ∨ j = 8) with rfl | rfl | rfl | rfl | rfl | rfl | rfl | rfl | rfl <;> rfl
  · have hs : (w1.alloc (.cells #[.int .i64 0, .int .i64 0, .string ⟨#[104, 116, 109, 108]⟩] 81)).heap.size = w1.heap.size + 1 := by simp
    have hf := World.frozen?_alloc_mark (w1.alloc (.cells #[.int .i64 0, .int .i64 0, .string ⟨#[104, 116, 109, 108]⟩] 81)) #[.pointer (some ⟨pb, 0, none⟩), .slice (some ⟨w1.heap.size, 0, none⟩) 1 1, .slice none 0 0, .int .i64 0, .int .i64 0, .string ⟨#[]⟩, .bool false, .bool false, .int .i64 0] 59 0 0 j
    rw [hs] at hf
    exact hf.trans (by simp)
theorem newBuilder_p (w : World) : Calls Tryz.prog 29 #[] w fun e w' => (∃ bb, e = .returned (bP bb) ∧ IsB (fun k => w.heap.size ≤ k ∧ k < w'.heap.size) w.heap.size w' bb startP) ∧ Below w.heap.size w w' := by
  have HN := hide S5.pnew_p
  go_enter Tryz.func29, Tryz.ntmps29
  go_wp2_with fail
  refine (HN.out _).mono ?_
  rintro e w1 ⟨⟨pb, rfl, hP⟩, b1⟩
  have HP := hide hP
  have B1 := hide b1
  clear hP b1
  go_wp2
  go_ret
  exact ⟨⟨_, rfl, start_isB B1.out HP.out⟩, B1.out.trans (((below_alloc w1 _).trans ((below_alloc _ _).mono (by simp))).mono B1.out.size)⟩
theorem start_inv : PInv 0 startP where
  hd := ⟨[], rfl⟩
  opL := by decide
  wf := S5.WF.new
  t0 := by decide
  tL := by decide
  mrL := Nat.le_refl _
  aaL := fun m hm => absurd hm (by simp [startP])
  txL := fun i => by
    cases i with
    | zero => exact Nat.le_refl _
    | succ i => cases i <;> exact Nat.le_refl _
  atL := fun i => by
    cases i with
    | zero => exact Nat.zero_le _
    | succ i => cases i <;> exact Nat.zero_le _
theorem start_rel : Rel startP {} := ⟨rfl, fun _ => { T := rfl, op := rfl, mr := rfl, ru := rfl, mo := rfl, nm := fun h => absurd rfl h, fo := rfl, sk := rfl }⟩
theorem isK_form {B : Nat → Prop} {w : World} {k : Nat} {ks : List (S5.NT k)} {kv : Value} (h : S5.IsK B w ks kv) : ∃ a l c, kv = .slice a l c := by
  rcases h with ⟨rfl, _⟩ | ⟨b, o, cap, rfl, _⟩
  · exact ⟨_, _, _, rfl⟩
  · exact ⟨_, _, _, rfl⟩
theorem isK_mono {B C : Nat → Prop} {w : World} {k : Nat} {ks : List (S5.NT k)} {kv : Value} (hm : ∀ k, B k → C k) (h : S5.IsK B w ks kv) : S5.IsK C w ks kv := by
  rcases h with h | ⟨b, o, cap, e, h1, h2, h3⟩
  · exact .inl h
  · rcases h2 with h2 | h2
    · subst h2
      exact .inr ⟨b, o, cap, e, h1, .inl rfl, trivial⟩
    · exact .inr ⟨b, o, cap, e, h1, .inr (hm b h2), S5.IsNs.keep (fun _ _ => rfl) hm b h2 o ks h3⟩
def FragA (w : World) (l : Bs) (e : Ending) (w' : World) : Prop := ∃ a k c, e = .returned (.tuple #[.slice a k c, .int .i64 (fragErr l)]) ∧ (fragErr l ≠ 0 → k = 0) ∧ (fragErr l = 0 → S5.IsK (fun k => w.heap.size ≤ k) w' (S5.valueL (buildL l).T 0).kids (.slice a k c)) ∧ Below w.heap.size w w'
theorem fld_kids (v0 v1 v2 v3 v4 v5 : Value) (W : World) : (Instr.field 46 (.agg #[v0, v1, v2, v3, v4, v5]) 5).run Tryz.prog W = .ok v5 W := by rfl
theorem fragment_p (Q : BS → Bs → Prop) (hQ : StepOk Q) (T : ByteArray) (hT : T.size ≤ 4096) (w : World) (he : S4.Env w) (h0 : Q {} T.data.toList) : Calls Tryz.prog 18 #[.string T] w (FragA w T.data.toList) := by
  have hTl : T.size = T.data.toList.length := S5.size_list T
  have hfe : fragErr T.data.toList = (buildL T.data.toList).e := by unfold fragErr; rw [if_neg (by omega)]
  have HN := hide (newBuilder_p w)
  have h2 := he.two
  have HT : Hid (∀ w1 bb, Below w.heap.size w w1 → IsB (fun k => w.heap.size ≤ k ∧ k < w1.heap.size) w.heap.size w1 bb startP → Calls Tryz.prog 30 #[bP bb, .string T] w1 fun e w' => e = .returned (.tuple #[]) ∧ (∃ S O n, IsB O n w' bb S ∧ Rel S (buildL T.data.toList) ∧ PInv 250000000 S) ∧ Below w.heap.size w w') := hide (by
    intro w1 bb b1 hB
    refine (takeAll_p Q hQ T hT w.heap.size h2 b1.size (he.below b1) (buildL T.data.toList) ⟨{}, startP, _, _, Nat.zero_le _, hB, fun k hk => hk, start_rel, fun _ => h0, start_inv, by decide, rfl, Below.refl _ _⟩).mono ?_
    rintro e w' ⟨rfl, ⟨S, O, n, h1, _, h3, h4⟩, b⟩
    exact ⟨rfl, ⟨S, O, n, h1, h3, h4⟩, b1.trans b⟩)
  have HV : Hid (∀ w2 bb S O n, IsB O n w2 bb S → Rel S (buildL T.data.toList) → PInv 250000000 S → Below w.heap.size w w2 → ∃ pb, w2.cell? ⟨bb, 0, none⟩ = some (.pointer (some ⟨pb, 0, none⟩)) ∧ w2.cell? ⟨bb, 8, none⟩ = some (.int .i64 (buildL T.data.toList).e) ∧ ((buildL T.data.toList).e = 0 → Calls Tryz.prog 31 #[.pointer (some ⟨pb, 0, none⟩), .int .i64 0] w2 fun e w' => (∃ av kv d, e = .returned (.agg (S5.nodeC d av kv).toArray) ∧ (∃ a k c, av = .slice a k c) ∧ S5.IsK (fun k => w2.heap.size ≤ k) w' (S5.valueL (buildL T.data.toList).T 0).kids kv) ∧ Below w2.heap.size w2 w')) := hide (by
    intro w2 bb S O n hB hR hI b2
    obtain ⟨pb, og, cap, mv, A, v⟩ := hB
    refine ⟨pb, v.cs 0 (by omega), by have := v.cs 8 (by omega); rw [← hR.1]; exact this, fun he0 => ?_⟩
    have hT2 := (hR.2 he0).T
    have hlen := hI.tL
    have h00 := hI.t0
    refine (S5.valueZ_p hI.wf (by omega) hI.atL pb 0 v.tree).mono ?_
    rintro e w' ⟨⟨vs, rfl, hN⟩, b⟩
    have hv : S5.valueZ S.T 0 = S5.valueL S.T 0 := by
      unfold S5.valueZ
      rw [if_pos (by unfold S5.inT; omega)]
      rfl
    rw [hv, hT2, S5.NT.form (S5.valueL (buildL T.data.toList).T 0)] at hN
    obtain ⟨av, kv, rfl, hA, hK⟩ := (S5.isN_iff _ _ _ _ _).1 hN
    obtain ⟨a, k, c, e⟩ : ∃ a k c, av = .slice a k c := by
      obtain ⟨a, c, e⟩ := S5.isA_form hA.1
      exact ⟨a, _, c, e⟩
    exact ⟨⟨av, kv, _, rfl, ⟨a, k, c, e⟩, hK⟩, b⟩)
  have hT2 : ¬ (4096 : Int) < T.size := by omega
  unfold FragA
  rw [hfe]
  generalize buildL T.data.toList = BL at *
  clear hfe h0 hTl
  by_cases hz : BL.e = 0
  · rw [hz] at HV ⊢
    go_enter Tryz.func18, Tryz.ntmps18
    go_wp2_with fail
    refine HN.out.mono ?_
    rintro e w1 ⟨⟨bb, rfl, hB⟩, b1⟩
    have HB := hide hB
    have B1 := hide b1
    clear hB b1
    go_wp2_with fail
    refine (HT.out _ _ B1.out HB.out).mono ?_
    rintro e w2 ⟨rfl, ⟨S, O, n, h1, h3, h4⟩, b2⟩
    obtain ⟨pb, c0, c8, hV⟩ := HV.out _ _ _ _ _ h1 h3 h4 b2
    have HVV := hide (hV (by simp))
    have B2 := hide b2
    clear h1 h3 h4 b2 hV
    go_wp2_with fail
    refine HVV.out.mono ?_
    rintro e w3 ⟨⟨av, kv, d, rfl, ⟨a, k, c, rfl⟩, hK⟩, b3⟩
    obtain ⟨a2, k2, c2, rfl⟩ := isK_form hK
    have HK := hide (isK_mono (C := fun k => w.heap.size ≤ k) (fun k hk => Nat.le_trans B2.out.size hk) hK)
    have B3 := hide (B2.out.trans (b3.mono B2.out.size))
    clear hK b3
    simp only [S5.nodeC]
    have hfld := fld_kids
    go_wp2
    go_ret2
    exact ⟨a2, k2, c2, rfl, fun h => absurd rfl h, fun _ => HK.out, B3.out⟩
  · go_enter Tryz.func18, Tryz.ntmps18
    go_wp2_with fail
    refine HN.out.mono ?_
    rintro e w1 ⟨⟨bb, rfl, hB⟩, b1⟩
    have HB := hide hB
    have B1 := hide b1
    clear hB b1
    go_wp2_with fail
    refine (HT.out _ _ B1.out HB.out).mono ?_
    rintro e w2 ⟨rfl, ⟨S, O, n, h1, h3, h4⟩, b2⟩
    obtain ⟨pb, c0, c8, hV⟩ := HV.out _ _ _ _ _ h1 h3 h4 b2
    have B2 := hide b2
    clear h1 h3 h4 b2 hV
    generalize hq : BL.e = q at *
    go_wp2_with fail
    go_region
    go_wp2
    go_ret2
    subst hq
    exact ⟨none, 0, 0, rfl, fun _ => rfl, fun h => absurd h hz, B2.out.drew⟩
end Go.Proofs.YtpppdfjdngmaoaaGreatDoor
namespace Go.Proofs.YtpppdfjdngmaoaaGreatDoor
theorem flat_vf : ∀ {k : Nat} (ts : List (G5.NT k)) (D : Nat) (F : FL), VF F → D ≤ lastD F → VF (F ++ flatTs (D + 1) ts) ∧ D ≤ lastD (F ++ flatTs (D + 1) ts)
  | 0, ts, D, F, h, hD => by
    cases ts with
    | nil => simpa [flatTs] using ⟨h, hD⟩
    | cons x r => exact x.none
  | k + 1, ts, D, F, h, hD => by
    have key : ∀ (l : List (G5.NT (k + 1))) (F : FL), VF F → D ≤ lastD F → VF (F ++ flatTs (D + 1) l) ∧ D ≤ lastD (F ++ flatTs (D + 1) l) := by
      intro l
      induction l with
      | nil => intro F h hD; simpa [flatTs] using ⟨h, hD⟩
      | cons t r ih =>
        intro F h hD
        obtain ⟨a1, a2⟩ := h.app D (cvN t.nd) hD
        obtain ⟨b1, b2⟩ := flat_vf t.kids (D + 1) _ a1 (by omega)
        obtain ⟨c1, c2⟩ := ih _ b1 (by omega)
        have e : F ++ flatTs (D + 1) (t :: r) = F ++ [(D + 1, cvN t.nd)] ++ flatTs (D + 1 + 1) t.kids ++ flatTs (D + 1) r := by
          rw [flatTs_cons, flatT_mk]
          simp
        rw [e]
        exact ⟨c1, c2⟩
    exact key ts F h hD
theorem flat_len : ∀ {k : Nat} (ts : List (G5.NT k)) (D : Nat), (evTs ts).length ≤ 2 * (flatTs D ts).length ∧ (flatTs D ts).length ≤ P9.sizeTs ts
  | 0, ts, D => by
    cases ts with
    | nil => exact ⟨Nat.le_refl _, Nat.le_refl _⟩
    | cons x r => exact x.none
  | k + 1, ts, D => by
    induction ts with
    | nil => exact ⟨Nat.le_refl _, Nat.le_refl _⟩
    | cons t r ih =>
      obtain ⟨a1, a2⟩ := flat_len t.kids (D + 1)
      have e : P9.sizeTs (t :: r) = P9.sizeT t + P9.sizeTs r := by unfold P9.sizeTs; rw [List.map_cons, List.sum_cons]
      rw [evTs_cons, flatTs_cons, e, P9.sizeT_mk, evT_mk, flatT_mk]
      rw [List.length_append, List.length_append, List.length_cons]
      refine ⟨?_, by omega⟩
      split
      · simp only [List.length_cons, List.length_nil]
        omega
      · simp only [List.length_cons, List.length_append, List.length_nil]
        omega
theorem again_tree {k : Nat} (ts : List (G5.NT k)) (h : plainTs ts) (hs : P9.sizeTs ts ≤ 200) (ht : P9.tallTs ts + 1 ≤ 30) :
    goodE (evTs ts) [] ∧ (evTs ts).length < 1000 ∧ fragErr (P9.printTs false ts) = 0 ∧ G5.eqTs ts ((S5.valueL (buildL (P9.printTs false ts)).T 0).kids.map cvT) = true := by
  have hg : goodE (evTs ts) [] := by
    have := good_ev ts [] [] h (by simp; omega) (by simp [goodE]) (by simp)
    rwa [List.append_nil] at this
  obtain ⟨l1, l2⟩ := flat_len ts 1
  have hl : (evTs ts).length < 1000 := by omega
  have hb := ev_build (evTs ts) hl hg
  have hr : runE (evTs ts) [(0, {})] [] = ([(0, ({} : S5.ND))] ++ flatTs 1 ts, []) := by
    have := run_ev ts [(0, {})] [] [] h (by simp) (fun hc => by
      have := hc.1
      simp [ndF] at this)
    rw [List.append_nil] at this
    rw [this]
    rfl
  rw [hr] at hb
  rw [print_ev ts h]
  have hp := P9.printTs_len false ts
  rw [print_ev ts h] at hp
  refine ⟨hg, hl, ?_, ?_⟩
  · unfold fragErr
    rw [if_neg (by omega), hb]
    rfl
  · rw [hb]
    show G5.eqTs ts ((S5.valueL (layF ([(0, ({} : S5.ND))] ++ flatTs 1 ts)) 0).kids.map cvT) = true
    have hv := (flat_vf ts 0 [(0, {})] root_vf (Nat.zero_le _)).1
    refine flat_inj ts _ 1 ?_
    have h1 := flat_value (layF ([(0, ({} : S5.ND))] ++ flatTs 1 ts)) (layF ([(0, ({} : S5.ND))] ++ flatTs 1 ts)).length 0 0
    rw [fl_all _ hv _ (by rw [lay_len]; exact Nat.le_refl _)] at h1
    have h2 : (0, (S5.valueL (layF ([(0, ({} : S5.ND))] ++ flatTs 1 ts)) 0).nd) :: flatSs 1 (S5.valueL (layF ([(0, ({} : S5.ND))] ++ flatTs 1 ts)) 0).kids = (0, ({} : S5.ND)) :: flatTs 1 ts := h1
    injection h2 with _ h2
    exact h2.symm
theorem row_cv {α β : Type} {P : α → List Value → Prop} {Q : β → List Value → Prop} {w : World} {b : Nat} (f : α → β) (hf : ∀ x vs, P x vs → Q (f x) vs) : ∀ (o : Nat) (ks : List α), S5.RowG P w b o ks → G5.RowG Q w b o (ks.map f)
  | _, [], _ => trivial
  | o, k :: r, h => by
    obtain ⟨⟨vs, h1, h2⟩, h3⟩ := h
    exact ⟨⟨vs, h1, hf k vs h2⟩, row_cv f hf (o + 6) r h3⟩
theorem isA_cv {w : World} {v : Value} {aa : G5.AttrL} (h : S5.IsA w v aa) : G5.IsA w v aa := by
  rcases h with ⟨rfl, rfl⟩ | h
  · exact .inl ⟨⟨_, _, rfl⟩, rfl⟩
  · exact .inr h
theorem isN_cv {B : Nat → Prop} {w : World} : ∀ {k : Nat} (t : S5.NT k) (vs : List Value), S5.IsN B w t vs → G5.IsN B w (cvT t) vs
  | 0, t, vs, h => t.none
  | k + 1, t, vs, h => by
    obtain ⟨av, kv, rfl, ⟨ha, ha2⟩, hk⟩ := h
    refine ⟨av, kv, rfl, ⟨isA_cv ha, ha2⟩, ?_⟩
    show ((∃ a c, kv = .slice a 0 c) ∧ t.kids.map (fun x => cvT x) = []) ∨ ∃ b o cap, kv = .slice (some ⟨b, o, none⟩) (t.kids.map fun x => cvT x).length cap ∧ (t.kids.map fun x => cvT x).length ≤ cap ∧ (t.kids.map (fun x => cvT x) = [] ∨ B b) ∧ G5.RowG (fun x us => G5.IsN B w x us) w b o (t.kids.map fun x => cvT x)
    rcases hk with ⟨rfl, e⟩ | ⟨b, o, cap, e1, e2, e3, e4⟩
    · rw [e]; exact .inl ⟨⟨_, _, rfl⟩, rfl⟩
    · refine .inr ⟨b, o, cap, by rw [List.length_map]; exact e1, by rw [List.length_map]; exact e2, ?_, row_cv _ (fun x us hx => isN_cv x us hx) o _ e4⟩
      rcases e3 with e3 | e3
      · rw [e3]; exact .inl rfl
      · exact .inr e3
theorem isK_cv {B : Nat → Prop} {w : World} {k : Nat} {ts : List (S5.NT k)} {v : Value} (h : S5.IsK B w ts v) : G5.IsK B w (ts.map cvT) v := by
  rcases h with ⟨rfl, rfl⟩ | ⟨b, o, cap, e1, e2, e3, e4⟩
  · exact .inl ⟨⟨_, _, rfl⟩, rfl⟩
  · refine .inr ⟨b, o, cap, by rw [List.length_map]; exact e1, by rw [List.length_map]; exact e2, ?_, row_cv _ (fun x us hx => isN_cv x us hx) o _ e4⟩
    rcases e3 with rfl | e3
    · exact .inl rfl
    · exact .inr e3
theorem same_eq {d e : G5.ND} (h : d.same e = true) : d = e := by
  unfold G5.ND.same at h
  simp only [Bool.and_eq_true, beq_iff_eq] at h
  obtain ⟨⟨⟨⟨h1, h2⟩, h3⟩, h4⟩, h5⟩ := h
  cases d; cases e
  simp_all
structure Alike {k j : Nat} (ts : List (G5.NT k)) (us : List (G5.NT j)) : Prop where
  print : ∀ raw, P9.printTs raw ts = P9.printTs raw us
  size : P9.sizeTs ts = P9.sizeTs us
  ok : G5.OkTs ts → G5.OkTs us
  len : ts.length = us.length
theorem alike_of : ∀ {k : Nat} (ts : List (G5.NT k)) {j : Nat} (us : List (G5.NT j)), G5.eqTs ts us = true → Alike ts us
  | 0, ts, j, us, h => by
    cases ts with
    | cons x r => exact x.none
    | nil =>
      cases us with
      | nil => exact ⟨fun _ => rfl, rfl, fun _ x hx => (by cases hx), rfl⟩
      | cons u r => cases h
  | k + 1, ts, 0, us, h => by
    cases us with
    | cons x r => exact x.none
    | nil =>
      cases ts with
      | nil => exact ⟨fun _ => rfl, rfl, fun _ x hx => (by cases hx), rfl⟩
      | cons u r => cases h
  | k + 1, ts, j + 1, us, h => by
    induction ts generalizing us with
    | nil =>
      cases us with
      | nil => exact ⟨fun _ => rfl, rfl, fun _ x hx => (by cases hx), rfl⟩
      | cons u r => cases h
    | cons t r ih =>
      cases us with
      | nil => cases h
      | cons u s =>
        have h' : (G5.eqT t u && G5.eqTs r s) = true := h
        rw [Bool.and_eq_true] at h'
        have i := ih s h'.2
        have h2 : (t.nd.same u.nd && G5.eqTs t.kids u.kids) = true := h'.1
        rw [Bool.and_eq_true] at h2
        have hn := same_eq h2.1
        have q := alike_of t.kids u.kids h2.2
        refine ⟨fun raw => ?_, ?_, fun ho x hx => ?_, by rw [List.length_cons, List.length_cons, i.len]⟩
        · show P9.printT raw t ++ P9.printTs raw r = P9.printT raw u ++ P9.printTs raw s
          rw [i.print, P9.printT_mk, P9.printT_mk, hn, q.print]
        · have e1 : P9.sizeTs (t :: r) = P9.sizeT t + P9.sizeTs r := by unfold P9.sizeTs; rw [List.map_cons, List.sum_cons]
          have e2 : P9.sizeTs (u :: s) = P9.sizeT u + P9.sizeTs s := by unfold P9.sizeTs; rw [List.map_cons, List.sum_cons]
          rw [e1, e2, i.size, P9.sizeT_mk, P9.sizeT_mk, hn, q.size]
        · rcases List.mem_cons.1 hx with rfl | hx
          · obtain ⟨a, b, c⟩ := (ho t (by simp) : t.nd.attrs.length ≤ 9223372036854775807 ∧ t.kids.length ≤ 9223372036854775807 ∧ ∀ x ∈ t.kids, G5.OkT x)
            show x.nd.attrs.length ≤ 9223372036854775807 ∧ x.kids.length ≤ 9223372036854775807 ∧ ∀ y ∈ x.kids, G5.OkT y
            rw [← hn, ← q.len]
            exact ⟨a, b, q.ok c⟩
          · exact i.ok (fun y hy => ho y (by simp [hy])) x hx
end Go.Proofs.YtpppdfjdngmaoaaGreatDoor
namespace Go.Proofs.YtpppdfjdngmaoaaGreatDoor
open Go.RowKit
open G5 (hide)
def smallN (l : Bs) : Bool := l.all S4.smallC && decide (1 ≤ l.length)
theorem all_small9 (s : ByteArray) (k : Nat) (h : k < s.size) : (s.data.toList.drop k).all S4.smallC = (S4.smallC s[k] && (s.data.toList.drop (k + 1)).all S4.smallC) := by
  rw [S4.drop_cons s k h]
  rfl
theorem small9 (s : ByteArray) (hs : s.size ≤ 9223372036854775807) (w : World) :
    Calls Tryz.prog 34 #[.string s] w fun e w' => e = .returned (.bool (smallN s.data.toList)) ∧ w' = w := by
  unfold smallN
  rw [← S4.size_list]
  generalize hA : s.data.toList.all S4.smallC = A at *
  have HA : Hid ((s.data.toList.drop 0).all S4.smallC = A) := hide (by rw [List.drop_zero]; exact hA)
  clear hA
  go_enter Tryz.func34, Tryz.ntmps34
  go_wp2
  go_loop [3] (fun i => ∃ k : Nat, k ≤ s.size ∧ i = .int .i64 k ∧ Hid ((s.data.toList.drop k).all S4.smallC = A)) (fun i => s.size - (intOf i).toNat)
  case atStart => exact ⟨0, by omega, rfl, HA⟩
  case round =>
    obtain ⟨k, hk, rfl, HR⟩ := hrel
    by_cases hlt : k < s.size
    · have hlt2 : (k : Int) < s.size := by omega
      have hst := all_small9 s k hlt
      rw [HR.out] at hst
      by_cases h97 : s[k].toNat < 97
      · have hS : S4.smallC s[k] = false := by unfold S4.smallC; rw [show decide (97 ≤ s[k].toNat) = false by simp; omega]; rfl
        have HF : Hid (A = false) := hide (by rw [hst, hS]; rfl)
        have h97' : (s[k].toNat : Int) < 97 := by omega
        clear hst hS HR
        go_wp2
        go_ret
        exact ⟨S4.ret_bool (by rw [HF.out]; rfl), rfl⟩
      · by_cases h122 : 122 < s[k].toNat
        · have hS : S4.smallC s[k] = false := by unfold S4.smallC; rw [show decide (s[k].toNat ≤ 122) = false by simp; omega, Bool.and_false]
          have HF : Hid (A = false) := hide (by rw [hst, hS]; rfl)
          have h97' : ¬ (s[k].toNat : Int) < 97 := by omega
          have h122' : (122 : Int) < (s[k].toNat : Int) := by omega
          clear hst hS HR
          go_wp2
          go_ret
          exact ⟨S4.ret_bool (by rw [HF.out]; rfl), rfl⟩
        · have hS : S4.smallC s[k] = true := by
            unfold S4.smallC
            rw [show decide (97 ≤ s[k].toNat) = true by simp; omega, show decide (s[k].toNat ≤ 122) = true by simp; omega]
            rfl
          have HR2 : Hid ((s.data.toList.drop (k + 1)).all S4.smallC = A) := hide (by rw [hst, hS, Bool.true_and])
          have h97' : ¬ (s[k].toNat : Int) < 97 := by omega
          have h122' : ¬ (122 : Int) < (s[k].toNat : Int) := by omega
          clear hst hS HR
          go_wp2
          go_round
          case rel => exact ⟨k + 1, by omega, by go_num, HR2⟩
          case measure => simp [intOf]; omega
    · have hlt2 : ¬ (k : Int) < s.size := by omega
      have HF : Hid (A = true) := hide (by rw [← HR.out, S4.drop_end s k (by omega)]; rfl)
      clear HR
      by_cases h1 : 1 ≤ s.size
      · have h1' : (1 : Int) ≤ s.size := by omega
        go_wp2
        go_ret
        exact ⟨S4.ret_bool (by first | rfl | exact HF.out | exact HF.out.symm | simp [HF.out]), rfl⟩
      · have h1' : ¬ (1 : Int) ≤ s.size := by omega
        go_wp2
        go_ret
        exact ⟨S4.ret_bool (by first | rfl | exact HF.out | exact HF.out.symm | simp [HF.out]), rfl⟩
def goodAt {k : Nat} (ts : List (G5.NT (k + 1))) (i : Nat) : Prop := ∀ q (h : q < ts.length), q < i → nodeOk ts[q] ∧ (ts[q].nd.kind = 2 → ∀ p (hp : p < ts.length), p + 1 = q → ts[p].nd.kind ≠ 2)
theorem apart_of {k : Nat} : ∀ (no : Bool) (l : List (G5.NT (k + 1))), (no = true → ∀ h : 0 < l.length, l[0].nd.kind ≠ 2) → (∀ q (h : q < l.length), l[q].nd.kind = 2 → ∀ p (hp : p < l.length), p + 1 = q → l[p].nd.kind ≠ 2) → apart no l
  | _, [], _, _ => trivial
  | no, t :: r, h1, h2 => by
    refine ⟨fun hn => h1 hn (by simp), apart_of _ r (fun hd h0 hk => ?_) (fun q hq hk p hp e => ?_)⟩
    · have := h2 1 (by simp; omega) (by simpa using hk) 0 (by simp) rfl
      exact this (by simpa using hd)
    · have := h2 (q + 1) (by simp; omega) (by simpa using hk) (p + 1) (by simp; omega) (by omega)
      simpa using this
theorem good_end {k : Nat} (ts : List (G5.NT (k + 1))) (h : goodAt ts ts.length) : plainTs ts := by
  refine (plain_iff ts).2 ⟨apart_of false ts (fun h => by cases h) (fun q hq => (h q hq hq).2), fun t ht => ?_⟩
  obtain ⟨q, hq, rfl⟩ := List.getElem_of_mem ht
  exact (h q hq hq).1
theorem good_next {k : Nat} {ts : List (G5.NT (k + 1))} {i : Nat} (h : goodAt ts i) (hi : i < ts.length) (h1 : nodeOk ts[i]) (h2 : ts[i].nd.kind = 2 → ∀ p (hp : p < ts.length), p + 1 = i → ts[p].nd.kind ≠ 2) : goodAt ts (i + 1) := by
  intro q hq hqi
  rcases Nat.lt_or_ge q i with hlt | hge
  · exact h q hq hlt
  · obtain rfl : q = i := by omega
    exact ⟨h1, h2⟩
def attrsAt (aa : List (Bs × Bs)) (i : Nat) : Prop := S4.okA (aa.take i) ∧ (S4.namesA (aa.take i)).Nodup
theorem attrs_next {aa : List (Bs × Bs)} {i : Nat} (h : attrsAt aa i) (hi : i < aa.length) (h1 : smallN aa[i].1 = true) (h2 : ∀ p (hp : p < aa.length), p < i → aa[p].1 ≠ aa[i].1) : attrsAt aa (i + 1) := by
  unfold smallN at h1
  rw [Bool.and_eq_true] at h1
  have hl := of_decide_eq_true h1.2
  unfold attrsAt
  rw [List.take_succ_eq_append_getElem hi]
  refine ⟨fun a ha => ?_, ?_⟩
  · rcases List.mem_append.1 ha with ha | ha
    · exact h.1 a ha
    · obtain rfl : a = aa[i] := by simpa using ha
      exact ⟨fun e => by rw [e] at hl; simp at hl, h1.1⟩
  · unfold S4.namesA
    rw [List.map_append, List.nodup_append]
    refine ⟨h.2, by simp, fun x hx y hy => ?_⟩
    obtain rfl : y = aa[i].1 := by simpa using hy
    obtain ⟨a, ha, rfl⟩ := List.mem_map.1 hx
    obtain ⟨p, hp, rfl⟩ := List.getElem_of_mem ha
    rw [List.length_take] at hp
    rw [List.getElem_take]
    exact h2 p (by omega) (by omega)
theorem cells6 {Bk : Nat → Prop} {w : World} {k : Nat} {ts : List (G5.NT (k + 1))} {b o : Nat} (h : G5.IsNs Bk w b o ts) (i : Nat) (hi : i < ts.length) : w.cell? ⟨b, o + i * 6, none⟩ = some (.int .i64 ts[i].nd.kind) ∧ w.cell? ⟨b, o + i * 6 + 1, none⟩ = some (.int .i64 ts[i].nd.space) := by
  obtain ⟨vs, g, n⟩ := G5.IsNs.get o ts h i hi
  rw [ts[i].form, G5.isN_iff] at n
  obtain ⟨av, kv, rfl, hA, hK⟩ := n
  exact ⟨g 0 (by omega), g 1 (by omega)⟩
def Says (P : Prop) (e : Ending) : Prop := ∃ r : Bool, e = .returned (.bool r) ∧ (r = true → P)
theorem says_no (P : Prop) : Says P (.returned (.bool false)) := ⟨false, rfl, fun h => by cases h⟩
theorem says_yes {P : Prop} (h : P) : Says P (.returned (.bool true)) := ⟨true, rfl, fun _ => h⟩
def PlainOk {k : Nat} (ts : List (G5.NT k)) : Prop := ∀ (Bk : Nat → Prop) (va : Value) (w : World), (∀ j, Bk j → j < w.heap.size) → G5.IsK Bk w ts va → Calls Tryz.prog 22 #[va] w fun e w' => Says (plainTs ts) e ∧ Below w.heap.size w w'
theorem empty_str (l : Bs) : (⟨l.toArray⟩ : ByteArray).toList.isEmpty = l.isEmpty := by rw [Lib.toList_data, G5.str_data]
theorem plain9_step {k : Nat} (ts : List (G5.NT (k + 1))) (hl : ts.length ≤ 9223372036854775807) (hal : ∀ i (h : i < ts.length), ts[i].nd.attrs.length ≤ 9223372036854775807 ∧ ∀ a ∈ ts[i].nd.attrs, a.1.length ≤ 9223372036854775807) (ih : ∀ i (h : i < ts.length), PlainOk ts[i].kids) : PlainOk ts := by
  intro Bk va w hB hK
  have HK := hide hK
  have HB := hide hB
  have HIH := hide ih
  have HAL := hide hal
  obtain ⟨a1, c1, rfl⟩ := G5.isK_form hK
  clear hK hB ih hal
  go_enter Tryz.func22, Tryz.ntmps22
  go_wp2
  go_loopw [3] (fun vi wr => ∃ i : Nat, vi = .int .i64 (i : Int) ∧ i ≤ ts.length ∧ Hid (goodAt ts i) ∧ Hid (Below w.heap.size w wr)) (fun vi _ => ts.length - (intOf vi).toNat)
  case atStart => exact ⟨0, rfl, by omega, hide (fun q _ h => absurd h (Nat.not_lt_zero _)), hide (Below.refl _ _)⟩
  case round =>
    obtain ⟨i, rfl, hi, HQ, HBW⟩ := hrel
    by_cases hlt : i < ts.length
    · have hlt2 : (i : Int) < ts.length := by omega
      have k1 := P9.isK_keepB HB.out HK.out HBW.out
      rcases k1 with ⟨_, h0⟩ | ⟨b1, o1, cap1, e1, _, _, hn1⟩
      · rw [h0] at hlt; simp at hlt
      injection e1 with e1 _ e1c
      subst e1 e1c
      obtain ⟨u0, u1⟩ := cells6 hn1 i hlt
      obtain ⟨qa, qc, ka, kc, u2, u3, u4, u5, hA, hKd⟩ := P9.node6b hn1 i hlt
      have HP := hide (fun p (hp : p < ts.length) (o : Obj) => by
        have h := (cells6 hn1 p hp).1
        exact ((G5.below_alloc wr o).cell (G5.cell_lt h)).trans h)
      have hbox := fun o => HBW.out.trans ((G5.below_alloc wr o).mono HBW.out.size)
      have HBN := hide hbox
      clear hbox
      have HA := hide hA
      have HKD := hide hKd
      clear hn1 hA hKd
      by_cases hk2 : ts[i].nd.kind = 2
      · have hd2 : (ts[i].nd.kind == 2) = true := beq_iff_eq.2 hk2
        have HG : Hid (ts[i].nd.text ≠ [] → ts[i].nd.name = [] → ts[i].nd.space = 0 → ts[i].nd.attrs.length = 0 → ts[i].kids.length = 0 → (∀ p (hp : p < ts.length), p + 1 = i → ts[p].nd.kind ≠ 2) → goodAt ts (i + 1)) := hide (fun g1 g2 g3 g4 g5 g6 => good_next HQ.out hlt ⟨fun _ => ⟨g1, g2, g3, List.eq_nil_of_length_eq_zero g4, List.eq_nil_of_length_eq_zero g5⟩, fun h => absurd hk2 h⟩ (fun _ => g6))
        clear hk2
        by_cases ht : ts[i].nd.text = []
        · have fht : (⟨ts[i].nd.text.toArray⟩ : ByteArray).toList.isEmpty = true := by rw [empty_str]; rw [ht]; rfl
          generalize (⟨ts[i].nd.name.toArray⟩ : ByteArray) = nb at *
          generalize (⟨ts[i].nd.text.toArray⟩ : ByteArray) = tb at *
          generalize ts[i].nd.kind = kd at *
          generalize ts[i].nd.space = sp at *
          generalize ts[i].nd.attrs.length = al at *
          generalize ts[i].kids.length = kl at *
          clear HG HP
          go_wp2
          all_goals go_ret
          all_goals exact ⟨says_no _, HBN.out _⟩
        · have fht : (⟨ts[i].nd.text.toArray⟩ : ByteArray).toList.isEmpty = false := by rw [empty_str]; exact List.isEmpty_eq_false_iff.2 ht
          by_cases hn : ts[i].nd.name = []
          · have fhn : (⟨ts[i].nd.name.toArray⟩ : ByteArray).toList.isEmpty = true := by rw [empty_str]; rw [hn]; rfl
            by_cases hs : ts[i].nd.space = 0
            · have fhs : (ts[i].nd.space != 0) = false := by simp [hs]
              by_cases ha : ts[i].nd.attrs.length = 0
              · have fha : ¬ (0 : Int) < ts[i].nd.attrs.length := by omega
                by_cases hc : ts[i].kids.length = 0
                · have fhc : ¬ (0 : Int) < ts[i].kids.length := by omega
                  by_cases h0 : i = 0
                  · have fh0 : ¬ (0 : Int) < i := by omega
                    have HN := hide (HG.out ht hn hs ha hc (fun p hp e => by omega))
                    clear h0
                    clear HP HQ HG ht hn hs ha hc
                    generalize (⟨ts[i].nd.name.toArray⟩ : ByteArray) = nb at *
                    generalize (⟨ts[i].nd.text.toArray⟩ : ByteArray) = tb at *
                    generalize ts[i].nd.kind = kd at *
                    generalize ts[i].nd.space = sp at *
                    generalize ts[i].nd.attrs.length = al at *
                    generalize ts[i].kids.length = kl at *
                    go_wp2
                    go_roundw
                    case rel => exact ⟨i + 1, by go_num, by omega, HN, hide (HBN.out _)⟩
                    case measure => simp [intOf]; omega
                  · obtain ⟨p, rfl⟩ : ∃ p, i = p + 1 := ⟨i - 1, by omega⟩
                    have fh0 : (0 : Int) < ((p + 1 : Nat) : Int) := by omega
                    have ff : ((p + 1 : Nat) : Int) - 1 = p := by omega
                    have hp : p < ts.length := by omega
                    have hp2 : (p : Int) < ts.length := by omega
                    have up := HP.out p hp
                    by_cases hq : ts[p].nd.kind = 2
                    · have fq : (ts[p].nd.kind == 2) = true := beq_iff_eq.2 hq
                      generalize ts[p].nd.kind = pk at *
                      generalize (⟨ts[p + 1].nd.name.toArray⟩ : ByteArray) = nb at *
                      generalize (⟨ts[p + 1].nd.text.toArray⟩ : ByteArray) = tb at *
                      generalize ts[p + 1].nd.kind = kd at *
                      generalize ts[p + 1].nd.space = sp at *
                      generalize ts[p + 1].nd.attrs.length = al at *
                      generalize ts[p + 1].kids.length = kl at *
                      clear HG HP
                      go_wp2
                      all_goals go_ret
                      all_goals exact ⟨says_no _, HBN.out _⟩
                    · have fq : (ts[p].nd.kind == 2) = false := beq_eq_false_iff_ne.2 hq
                      have HN := hide (HG.out ht hn hs ha hc (fun r hr e => by obtain rfl : r = p := by omega
                                                                               exact hq))
                      clear HP HQ HG ht hn hs ha hc
                      generalize ts[p].nd.kind = pk at *
                      generalize (⟨ts[p + 1].nd.name.toArray⟩ : ByteArray) = nb at *
                      generalize (⟨ts[p + 1].nd.text.toArray⟩ : ByteArray) = tb at *
                      generalize ts[p + 1].nd.kind = kd at *
                      generalize ts[p + 1].nd.space = sp at *
                      generalize ts[p + 1].nd.attrs.length = al at *
                      generalize ts[p + 1].kids.length = kl at *
                      go_wp2
                      go_roundw
                      case rel => exact ⟨p + 1 + 1, by go_num, by omega, HN, hide (HBN.out _)⟩
                      case measure => simp [intOf]; omega
                · have fhc : (0 : Int) < ts[i].kids.length := by omega
                  generalize (⟨ts[i].nd.name.toArray⟩ : ByteArray) = nb at *
                  generalize (⟨ts[i].nd.text.toArray⟩ : ByteArray) = tb at *
                  generalize ts[i].nd.kind = kd at *
                  generalize ts[i].nd.space = sp at *
                  generalize ts[i].nd.attrs.length = al at *
                  generalize ts[i].kids.length = kl at *
                  clear HG HP
                  go_wp2
                  all_goals go_ret
                  all_goals exact ⟨says_no _, HBN.out _⟩
              · have fha : (0 : Int) < ts[i].nd.attrs.length := by omega
                generalize (⟨ts[i].nd.name.toArray⟩ : ByteArray) = nb at *
                generalize (⟨ts[i].nd.text.toArray⟩ : ByteArray) = tb at *
                generalize ts[i].nd.kind = kd at *
                generalize ts[i].nd.space = sp at *
                generalize ts[i].nd.attrs.length = al at *
                generalize ts[i].kids.length = kl at *
                clear HG HP
                go_wp2
                all_goals go_ret
                all_goals exact ⟨says_no _, HBN.out _⟩
            · have fhs : (ts[i].nd.space != 0) = true := by simp [hs]
              generalize (⟨ts[i].nd.name.toArray⟩ : ByteArray) = nb at *
              generalize (⟨ts[i].nd.text.toArray⟩ : ByteArray) = tb at *
              generalize ts[i].nd.kind = kd at *
              generalize ts[i].nd.space = sp at *
              generalize ts[i].nd.attrs.length = al at *
              generalize ts[i].kids.length = kl at *
              clear HG HP
              go_wp2
              all_goals go_ret
              all_goals exact ⟨says_no _, HBN.out _⟩
          · have fhn : (⟨ts[i].nd.name.toArray⟩ : ByteArray).toList.isEmpty = false := by rw [empty_str]; exact List.isEmpty_eq_false_iff.2 hn
            generalize (⟨ts[i].nd.name.toArray⟩ : ByteArray) = nb at *
            generalize (⟨ts[i].nd.text.toArray⟩ : ByteArray) = tb at *
            generalize ts[i].nd.kind = kd at *
            generalize ts[i].nd.space = sp at *
            generalize ts[i].nd.attrs.length = al at *
            generalize ts[i].kids.length = kl at *
            clear HG HP
            go_wp2
            all_goals go_ret
            all_goals exact ⟨says_no _, HBN.out _⟩
      · have hd2 : (ts[i].nd.kind == 2) = false := beq_eq_false_iff_ne.2 hk2
        have HG := hide hk2
        clear hk2
        by_cases h1 : ts[i].nd.kind = 1
        · have fh1 : (ts[i].nd.kind != 1) = false := by simp [h1]
          by_cases hs : ts[i].nd.space = 0
          · have fhs : (ts[i].nd.space != 0) = false := by simp [hs]
            by_cases ht : ts[i].nd.text = []
            · have fht : (⟨ts[i].nd.text.toArray⟩ : ByteArray).toList.isEmpty = true := by rw [empty_str]; rw [ht]; rfl
              by_cases hv : ts[i].nd.name = divN ∨ ts[i].nd.name = spanN
              · have HG2 : Hid (plainTs ts[i].kids → attrsAt ts[i].nd.attrs ts[i].nd.attrs.length → goodAt ts (i + 1)) := hide (fun g1 g2 => good_next HQ.out hlt ⟨fun h => absurd h HG.out, fun _ => ⟨h1, hs, hv, ht, g1, by have := g2.1; rw [List.take_length] at this; exact this, by have := g2.2; rw [List.take_length] at this; exact this⟩⟩ (fun h => absurd h HG.out))
                have HC : Hid (∀ (W : World), Below wr.heap.size wr W → Calls Tryz.prog 22 #[.slice ka ts[i].kids.length kc] W fun e w' => Says (plainTs ts[i].kids) e ∧ Below W.heap.size W w') := hide (fun W hb => HIH.out i hlt Bk _ W (fun j hj => Nat.lt_of_lt_of_le (Nat.lt_of_lt_of_le (HB.out j hj) HBW.out.size) hb.size) (P9.isK_keepB (fun j hj => Nat.lt_of_lt_of_le (HB.out j hj) HBW.out.size) HKD.out hb))
                obtain ⟨hal, hal2⟩ := HAL.out i hlt
                have HAZ := hide hal2
                clear hal2 HP HG HQ h1 hs ht HKD
                have hv2 : ((⟨ts[i].nd.name.toArray⟩ : ByteArray).toList == [100, 105, 118]) = true ∨ (((⟨ts[i].nd.name.toArray⟩ : ByteArray).toList == [100, 105, 118]) = false ∧ ((⟨ts[i].nd.name.toArray⟩ : ByteArray).toList == [115, 112, 97, 110]) = true) := by
                  rw [Lib.toList_data, G5.str_data]
                  rcases hv with hv | hv <;> rw [hv]
                  · exact .inl rfl
                  · exact .inr ⟨rfl, rfl⟩
                clear hv
                generalize (⟨ts[i].nd.name.toArray⟩ : ByteArray) = nb at *
                generalize (⟨ts[i].nd.text.toArray⟩ : ByteArray) = tb at *
                generalize ts[i].nd.kind = kd at *
                generalize ts[i].nd.space = sp at *
                generalize ts[i].nd.attrs = aa at *
                generalize ts[i].kids = kids at *
                generalize kids.length = kl at *
                rcases hv2 with fv | ⟨fv, fv2⟩
                all_goals
                  go_wp2_with fail
                  refine (HC.out _ (G5.below_alloc wr _)).mono ?_
                  rintro e w1 ⟨⟨r, rfl, hr⟩, bw1⟩
                  have HB1 := hide (HBN.out (.cells #[.int .i64 kd, .int .i64 sp, .string nb, .slice qa aa.length qc, .string tb, .slice ka kl kc] 46) |>.trans (bw1.mono (HBN.out _).size))
                  have v3 : w1.cell? ⟨wr.heap.size, 3, none⟩ = some (.slice qa aa.length qc) := P9.box_kept bw1 3
                  have HA1 := hide (P9.isA_keepW HA.out (P9.box_below bw1))
                  have HR := hide hr
                  clear hr bw1
                  cases r
                  · go_wp2
                    go_ret
                    exact ⟨says_no _, HB1.out⟩
                  · have HG3 := hide (HG2.out (HR.out rfl))
                    have HV3 : Hid (∀ W, Below w1.heap.size w1 W → W.cell? ⟨wr.heap.size, 3, none⟩ = some (.slice qa aa.length qc)) := hide (fun W hb => (hb.cell (G5.cell_lt v3)).trans v3)
                    have HNM : Hid (∀ W, Below w1.heap.size w1 W → ∀ p (hp : p < aa.length), ∃ b2 o2, qa = some ⟨b2, o2, none⟩ ∧ W.cell? ⟨b2, o2 + p * 2, none⟩ = some (.string ⟨aa[p].1.toArray⟩)) := hide (fun W hb p hp => by
                      rcases (P9.isA_keepW HA1.out hb).1 with ⟨_, h0⟩ | ⟨b2, o2, cap2, e2, _, hc⟩
                      · rw [h0] at hp; simp at hp
                      · injection e2 with e2 _ _
                        exact ⟨b2, o2, e2, (hc p hp).1⟩)
                    clear v3 HR HG2 HA HA1 HC u0 u1 u2 u3 u4 u5
                    have HWR := hide (rfl : wr.heap.size = wr.heap.size)
                    generalize wr.heap.size = box at *
                    clear HWR
                    go_wp2
                    go_loopw [5] (fun vk wr => ∃ q : Nat, vk = .int .i64 (q : Int) ∧ q ≤ aa.length ∧ Hid (attrsAt aa q) ∧ Hid (Below w1.heap.size w1 wr)) (fun vk _ => aa.length - (intOf vk).toNat)
                    case atStart => exact ⟨0, rfl, by omega, hide ⟨fun a ha => by simp at ha, by simp [S4.namesA]⟩, hide (Below.refl _ _)⟩
                    case round =>
                      obtain ⟨q, rfl, hq, HQA, HBQ⟩ := hrel
                      have v3 := HV3.out _ HBQ.out
                      have HBT := hide (HB1.out.trans (HBQ.out.mono HB1.out.size))
                      by_cases hqa : q < aa.length
                      · have hqa2 : (q : Int) < aa.length := by omega
                        obtain ⟨b2, o2, rfl, p0⟩ := HNM.out _ HBQ.out q hqa
                        have HS := hide (small9 ⟨aa[q].1.toArray⟩ (by rw [G5.size_list, G5.str_data]; exact HAZ.out _ (List.getElem_mem hqa)) wr)
                        rw [G5.str_data] at HS
                        have HAN := hide (fun (h1 : smallN aa[q].1 = true) h2 => attrs_next HQA.out hqa h1 h2)
                        generalize hSN : smallN aa[q].1 = SN at *
                        go_wp2_with fail
                        refine HS.out.mono ?_
                        rintro e w2 ⟨rfl, rfl⟩
                        cases SN
                        · go_wp2
                          go_ret
                          exact ⟨says_no _, HBT.out⟩
                        · have HAN2 := hide (HAN.out rfl)
                          clear HAN HS hSN
                          have HP0 : Hid (∀ W, Below w2.heap.size w2 W → W.cell? ⟨box, 3, none⟩ = some (.slice (some ⟨b2, o2, none⟩) aa.length qc) ∧ W.cell? ⟨b2, o2 + q * 2, none⟩ = some (.string ⟨aa[q].1.toArray⟩) ∧ ∀ p (hp : p < aa.length), W.cell? ⟨b2, o2 + p * 2, none⟩ = some (.string ⟨aa[p].1.toArray⟩)) := hide (fun W hb => ⟨(hb.cell (G5.cell_lt v3)).trans v3, (hb.cell (G5.cell_lt p0)).trans p0, fun p hp => by
                            obtain ⟨b3, o3, e3, h3⟩ := HNM.out _ (HBQ.out.trans (hb.mono HBQ.out.size)) p hp
                            injection e3 with e3
                            injection e3 with e4 e5 _
                            subst e4 e5
                            exact h3⟩)
                          go_wp2
                          go_loopw [6] (fun vj wr => ∃ j : Nat, vj = .int .i64 (j : Int) ∧ j ≤ q ∧ Hid (∀ p (hp : p < aa.length), p < j → aa[p].1 ≠ aa[q].1) ∧ Hid (Below w2.heap.size w2 wr)) (fun vj _ => q - (intOf vj).toNat)
                          case atStart => exact ⟨0, rfl, by omega, hide (fun _ _ h => absurd h (Nat.not_lt_zero _)), hide (Below.refl _ _)⟩
                          case round =>
                            obtain ⟨j, rfl, hj, HJ, HBJ⟩ := hrel
                            obtain ⟨x3, x0, xs⟩ := HP0.out _ HBJ.out
                            have HBJ2 := hide (HBT.out.trans (HBJ.out.mono HBT.out.size))
                            by_cases hjq : j < q
                            · have hjq2 : (j : Int) < q := by omega
                              have hja : j < aa.length := by omega
                              have hja2 : (j : Int) < aa.length := by omega
                              have xj := xs j hja
                              have hbe := S7.str_beq aa[j].1 aa[q].1
                              have HJN := hide (fun (h : aa[j].1 ≠ aa[q].1) p hp (hpj : p < j + 1) => by
                                rcases Nat.lt_or_ge p j with h1 | h1
                                · exact HJ.out p hp h1
                                · obtain rfl : p = j := by omega
                                  exact h)
                              clear xs HJ
                              by_cases hab : aa[j].1 = aa[q].1
                              · rw [beq_iff_eq.2 hab] at hbe
                                clear hab HJN
                                generalize (⟨aa[j].1.toArray⟩ : ByteArray) = X at *
                                generalize (⟨aa[q].1.toArray⟩ : ByteArray) = Y at *
                                go_wp2_with fail
                                go_region
                                all_goals (try go_wp2)
                                all_goals go_ret
                                all_goals exact ⟨says_no _, HBJ2.out.drew⟩
                              · rw [beq_eq_false_iff_ne.2 hab] at hbe
                                have HJ2 := hide (HJN.out hab)
                                clear hab HJN
                                generalize (⟨aa[j].1.toArray⟩ : ByteArray) = X at *
                                generalize (⟨aa[q].1.toArray⟩ : ByteArray) = Y at *
                                go_wp2_with fail
                                go_region
                                all_goals (try go_wp2)
                                all_goals go_roundw
                                case rel => exact ⟨j + 1, by go_num, by omega, HJ2, hide HBJ.out.drew⟩
                                case measure => simp [intOf]; omega
                            · have hjq2 : ¬ (j : Int) < q := by omega
                              have HN3 := hide (HAN2.out (fun p hp hpq => HJ.out p hp (by omega)))
                              clear xs HJ HAN2
                              have HBZ := hide (HBQ.out.trans (HBJ.out.mono HBQ.out.size))
                              go_wp2
                              go_roundw
                              case rel => exact ⟨q + 1, by go_num, by omega, HN3, HBZ⟩
                              case measure => simp [intOf]; omega
                      · have hqa2 : ¬ (q : Int) < aa.length := by omega
                        have HN4 := hide (HG3.out (by rw [show aa.length = q by omega]; exact HQA.out))
                        clear HQA HG3
                        go_wp2
                        go_roundw
                        case rel => exact ⟨i + 1, by go_num, by omega, HN4, HBT⟩
                        case measure => simp [intOf]; omega
              · have fv : ((⟨ts[i].nd.name.toArray⟩ : ByteArray).toList == [100, 105, 118]) = false := by
                  rw [Lib.toList_data, G5.str_data]
                  exact beq_eq_false_iff_ne.2 fun h => hv (.inl h)
                have fv2 : ((⟨ts[i].nd.name.toArray⟩ : ByteArray).toList == [115, 112, 97, 110]) = false := by
                  rw [Lib.toList_data, G5.str_data]
                  exact beq_eq_false_iff_ne.2 fun h => hv (.inr h)
                generalize (⟨ts[i].nd.name.toArray⟩ : ByteArray) = nb at *
                generalize (⟨ts[i].nd.text.toArray⟩ : ByteArray) = tb at *
                generalize ts[i].nd.kind = kd at *
                generalize ts[i].nd.space = sp at *
                generalize ts[i].nd.attrs.length = al at *
                generalize ts[i].kids.length = kl at *
                clear HG HP
                go_wp2
                all_goals go_ret
                all_goals exact ⟨says_no _, HBN.out _⟩
            · have fht : (⟨ts[i].nd.text.toArray⟩ : ByteArray).toList.isEmpty = false := by rw [empty_str]; exact List.isEmpty_eq_false_iff.2 ht
              generalize (⟨ts[i].nd.name.toArray⟩ : ByteArray) = nb at *
              generalize (⟨ts[i].nd.text.toArray⟩ : ByteArray) = tb at *
              generalize ts[i].nd.kind = kd at *
              generalize ts[i].nd.space = sp at *
              generalize ts[i].nd.attrs.length = al at *
              generalize ts[i].kids.length = kl at *
              clear HG HP
              go_wp2
              all_goals go_ret
              all_goals exact ⟨says_no _, HBN.out _⟩
          · have fhs : (ts[i].nd.space != 0) = true := by simp [hs]
            generalize (⟨ts[i].nd.name.toArray⟩ : ByteArray) = nb at *
            generalize (⟨ts[i].nd.text.toArray⟩ : ByteArray) = tb at *
            generalize ts[i].nd.kind = kd at *
            generalize ts[i].nd.space = sp at *
            generalize ts[i].nd.attrs.length = al at *
            generalize ts[i].kids.length = kl at *
            clear HG HP
            go_wp2
            all_goals go_ret
            all_goals exact ⟨says_no _, HBN.out _⟩
        · have fh1 : (ts[i].nd.kind != 1) = true := by simp [h1]
          generalize (⟨ts[i].nd.name.toArray⟩ : ByteArray) = nb at *
          generalize (⟨ts[i].nd.text.toArray⟩ : ByteArray) = tb at *
          generalize ts[i].nd.kind = kd at *
          generalize ts[i].nd.space = sp at *
          generalize ts[i].nd.attrs.length = al at *
          generalize ts[i].kids.length = kl at *
          clear HG HP
          go_wp2
          all_goals go_ret
          all_goals exact ⟨says_no _, HBN.out _⟩
    · have hlt2 : ¬ (i : Int) < ts.length := by omega
      have HF : Hid (plainTs ts) := hide (good_end ts (by rw [show ts.length = i by omega]; exact HQ.out))
      clear HQ
      go_wp2
      go_ret
      exact ⟨says_yes HF.out, HBW.out⟩
end Go.Proofs.YtpppdfjdngmaoaaGreatDoor
namespace Go.Proofs.YtpppdfjdngmaoaaGreatDoor
open Go.RowKit
open S5 (ButA andNew PT IsA cell_lt below_alloc hide below_drewN)
structure Smp (m : BS) : Prop where
  mo : m.mode = 0
  ru : m.rules = 0
  fo : m.fost = false
  sk : m.skip = false
  cu : (curB m).sp = 0
  idle : S7.renewL (ms m.mr) (m.op.map fun o => (o.id : Int)) = m.mr.length
  inv : Inv m
theorem Smp.renew {m : BS} (h : Smp m) : renewB m = m := by
  unfold renewB
  rw [h.idle]
  cases hl : m.mr.length with
  | zero => rfl
  | succ k =>
    rw [renewK]
    split
    · rfl
    · rw [List.getElem?_eq_none (by omega)]
theorem ids_rel {s : PB} {m : BS} (h : Rel0 s m) : idsP s = m.op.map fun o => (o.id : Int) := by
  unfold idsP
  rw [h.op]
  unfold vs
  rw [List.map_map]
  rfl
theorem Smp.renewP {s : PB} {m : BS} (h : Smp m) (hr : Rel0 s m) : renewP s = s := by
  unfold Go.Proofs.YtpppdfjdngmaoaaGreatDoor.renewP
  have hs : S7.renewL s.mr (idsP s) = s.mr.length := by
    rw [ids_rel hr, renew_sim hr.mr, h.idle]
    have := Sim.len hr.mr
    rw [this]
    simp [ms]
  rw [hs, Nat.sub_self]
  rfl
theorem Smp.take {m : BS} (h : Smp m) (t : S4.Tok) (h5 : t.kind ≠ 5) : takeB m t = bodyB m t := by
  have hs : ({ m with skip := false } : BS) = m := by rw [← h.sk]
  have ht : takeT m t = bodyB m t := by
    unfold takeT
    rw [if_neg h5, if_neg (by rw [h.mo]; decide), if_neg (by rw [h.cu]; simp)]
    unfold rulesB
    rw [show 3 * m.op.length + 20 = (3 * m.op.length + 19) + 1 from rfl, rulesK]
    have : stepB m t = (bodyB m t, none) := by
      unfold stepB
      rw [h.ru]
      simp
    rw [this]
  unfold takeB
  simp only [hs]
  split
  · rw [if_neg (by rw [h.sk]; simp)]
    exact ht
  · exact ht
theorem unsk_rel {s : PB} {m : BS} (h : Rel0 s m) (hm : Smp m) : Rel0 (unskP s) m := { T := h.T, op := h.op, mr := h.mr, ru := h.ru, mo := h.mo, nm := h.nm, fo := h.fo, sk := hm.sk.symm }
theorem PInv.unsk {c : Nat} {s : PB} (h : PInv c s) : PInv c (unskP s) := { hd := h.hd, opL := h.opL, wf := h.wf, t0 := h.t0, tL := h.tL, mrL := h.mrL, aaL := h.aaL, txL := h.txL, atL := h.atL }
theorem Smp.ne {m : BS} (h : Smp m) : m.op ≠ [] := List.ne_nil_of_length_pos (by have := h.inv.o.pos; omega)
theorem elemP_nm (s : PB) (sp : Int) (nm : ByteArray) (aa : S5.AttrL) : (elemP s sp nm aa).nm = s.nm := by
  unfold elemP
  split
  · unfold failP
    split <;> rfl
  · unfold elemR putP elemQ madeP failP
    split
    · split <;> rfl
    · rfl
theorem failP_nm (s : PB) (z : Int) : (failP s z).nm = s.nm := by
  unfold failP
  split <;> rfl
theorem madeP_nm (s : PB) (z : Int) : (madeP s z).nm = s.nm := by
  unfold madeP
  split
  · exact failP_nm s 4
  · rfl
theorem textP_nm (s : PB) (t : List UInt8) : (textP s t).nm = s.nm := by
  unfold textP
  split
  · rfl
  · unfold newT putP
    simp only
    rw [madeP_nm]
theorem take_way {n bb c : Nat} {s : PB} {m : BS} {t : TV} {S : PB} (hm : Smp m) (hr : Rel0 s m) (he : s.e = 0) (hI : PInv c s) (h5 : (t.k == 5) = false) (HS : BC 93 n bb t (unskP s) S) : BC 45 n bb t s S := by
  intro O1 y hB hT
  have hc := cur_rel hr hm.ne
  refine take_rules_p hB hI t hT h5 (hr.mo.trans hm.mo) (by rw [hc]; exact hm.cu) (hr.sk.trans hm.sk) S ?_
  intro O2 y2 hB2 hT2
  exact takeByRules_body_p hB2 hI.unsk t hT2 he (by show s.ru = 0; rw [hr.ru, hm.ru]; rfl) S HS
theorem step_text {n bb c : Nat} {s : PB} {m : BS} (sv : Value) (hm : Smp m) (hr : Rel0 s m) (he : s.e = 0) (hme : m.e = 0) (hI : PInv c s) (hc : c ≤ 250000000) (tt : Bs) (ht : tt.length ≤ 40000) :
    ∃ S, BC 45 n bb (tvOf { kind := 1, text := tt } sv) s S ∧ Rel S (takeB m { kind := 1, text := tt }) ∧ PInv (c + 50000) S ∧ S.nm = s.nm := by
  have hr2 := unsk_rel hr hm
  refine ⟨bodyTextP (unskP s) tt, take_way hm hr he hI rfl ?_, ?_, ?_, ?_⟩
  · intro O1 y hB hT
    have := body_text_p hB hI.unsk _ hT (by omega) rfl (by show (ByteArray.mk tt.toArray).size ≤ 300000000; rw [S5.size_list]; simp; omega)
    have e : (tvOf { kind := 1, text := tt } sv).tx.data.toList = tt := by simp [tvOf]
    rw [e] at this
    exact this
  · rw [hm.take _ (by simp)]
    have e : bodyB m { kind := 1, text := tt } = textB m tt := by
      unfold bodyB
      rw [if_pos rfl, hm.renew]
    rw [e]
    unfold bodyTextP
    rw [Smp.renewP hm hr2]
    exact text_rel hr2 he hme hm.inv tt
  · unfold bodyTextP
    rw [Smp.renewP hm hr2]
    exact (hI.unsk.text tt).up (by omega)
  · unfold bodyTextP
    rw [Smp.renewP hm hr2, textP_nm]
    rfl
end Go.Proofs.YtpppdfjdngmaoaaGreatDoor
namespace Go.Proofs.YtpppdfjdngmaoaaGreatDoor
open Go.RowKit
open S5 (ButA andNew PT IsA cell_lt below_alloc hide below_drewN)
theorem smp_st {F : FL} {ps : List (Nat × Bs)} (hi : Inv (stB F ps)) : Smp (stB F ps) := { mo := rfl, ru := rfl, fo := rfl, sk := rfl, cu := (cur_id F ps).2, idle := rfl, inv := hi }
theorem nxt_st (F : FL) (ps : List (Nat × Bs)) (r : Bs) : nxt (stB F ps) r = S4.nextR 0 [] false r := by
  unfold nxt
  rw [(cur_id F ps).2]
  rfl
theorem nxt_nil (m : BS) : (nxt m []).1.kind = 0 := by
  unfold nxt
  rw [S4.nextR_nil]
end Go.Proofs.YtpppdfjdngmaoaaGreatDoor
namespace Go.Proofs.YtpppdfjdngmaoaaGreatDoor.G8
open Go.RowKit
open G5 (NT IsK IsNs IsN isN_iff countTs countT maxG deepT cell_lt below_alloc hide)
theorem isK_len {B : Nat → Prop} {w : World} {k : Nat} {ks : List (NT k)} {kv : Value} (h : IsK B w ks kv) : ∃ a c, kv = .slice a ks.length c := by
  rcases h with ⟨⟨x, y, rfl⟩, rfl⟩ | ⟨b, o, cap, rfl, _⟩
  · exact ⟨_, _, rfl⟩
  · exact ⟨_, _, rfl⟩
end Go.Proofs.YtpppdfjdngmaoaaGreatDoor.G8
namespace Go.Proofs.YtpppdfjdngmaoaaGreatDoor
open Go.RowKit
open S5 (NT IsK IsNs IsN isN_iff countTs countT maxG deepT cell_lt below_alloc hide below_drewN)
theorem isK_tight {B : Nat → Prop} {w : World} {k : Nat} {ks : List (NT k)} {kv : Value} (h : IsK B w ks kv) : IsK (fun k => B k ∧ k < w.heap.size) w ks kv := by
  have := S5.IsN.tight (.mk {} ks) (S5.nodeC {} (.slice none 0 0) kv) ((isN_iff B w {} ks _).2 ⟨_, _, rfl, ⟨.inl ⟨rfl, rfl⟩, .inl rfl⟩, h⟩)
  obtain ⟨av, kv', e, _, h2⟩ := (isN_iff _ w {} ks _).1 this
  have e2 : kv = kv' := by
    simp only [S5.nodeC, List.cons.injEq] at e
    exact e.2.2.2.2.2.1
  rw [e2]
  exact h2
end Go.Proofs.YtpppdfjdngmaoaaGreatDoor
