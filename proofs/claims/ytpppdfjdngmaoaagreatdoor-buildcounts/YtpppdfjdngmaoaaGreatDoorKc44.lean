import Derived.Test.YtpppdfjdngmaoaaGreatDoorKc04
import Derived.Test.YtpppdfjdngmaoaaGreatDoorKc06
import Derived.Test.YtpppdfjdngmaoaaGreatDoorKc08
import Derived.Test.YtpppdfjdngmaoaaGreatDoorKc29
import Derived.Test.YtpppdfjdngmaoaaGreatDoorKc32
import Derived.Test.YtpppdfjdngmaoaaGreatDoorKc42
import Derived.Test.YtpppdfjdngmaoaaGreatDoorKc43
set_option linter.unusedVariables false
set_option linter.unusedSimpArgs false
set_option maxRecDepth 100000
set_option maxHeartbeats 8000000
namespace Go.Proofs.YtpppdfjdngmaoaaGreatDoor
open Go.RowKit
open S5 (ButA andNew PT IsA cell_lt below_alloc hide below_drewN)
variable {O : Nat → Prop} {n : Nat} {w W : World} {bb : Nat} {s : PB} {c : Nat}
def tvOf (t : S4.Tok) (sv : Value) : TV := ⟨(t.kind : Int), ⟨t.name.toArray⟩, t.attrs, sv, t.closed, ⟨t.text.toArray⟩⟩
def nxt (m : BS) (r : Bs) : S4.Tok × Bs := S4.nextR m.mode m.name (!((curB m).sp == 0)) r
def StepOk (Q : BS → Bs → Prop) : Prop := ∀ (m : BS) (r : Bs) (s : PB) (sv : Value) (n bb c : Nat), Q m r → m.e = 0 → Rel0 s m → s.e = 0 → s.nm.size ≤ 20000 → PInv c s → c ≤ 250000000 → r.length ≤ 20000 → (nxt m r).1.kind ≠ 0 →
  ∃ S, BC 45 n bb (tvOf (nxt m r).1 sv) s S ∧ Rel S (takeB m (nxt m r).1) ∧ PInv (c + 50000) S ∧ S.nm.size ≤ 20000 ∧ ((takeB m (nxt m r).1).e = 0 → Q (takeB m (nxt m r).1) (nxt m r).2)
def Run8 (n0 : Nat) (w0 : World) (bb : Nat) (Q : BS → Bs → Prop) (l : Bs) (M : BS) (p : Nat) (x : World) : Prop :=
  ∃ (m : BS) (s : PB) (O : Nat → Prop) (n : Nat), p ≤ l.length ∧ IsB O n x bb s ∧ (∀ k, O k → n0 ≤ k ∧ k < x.heap.size) ∧ Rel s m ∧ (m.e = 0 → Q m (l.drop p)) ∧ PInv (50000 * p) s ∧ s.nm.size ≤ 20000 ∧ runB ((l.drop p).length + 1) m (l.drop p) = M ∧ Below n0 w0 x
theorem runB_end (k : Nat) (m : BS) (r : Bs) (h : m.e ≠ 0) : runB k m r = m := by
  cases k with
  | zero => rfl
  | succ k => rw [runB, if_pos h]
theorem nxt_short (m : BS) (r : Bs) (h : (nxt m r).1.kind ≠ 0) : (nxt m r).2.length < r.length := by
  by_cases h0 : r = []
  · subst h0
    exact absurd (by unfold nxt; rw [S4.nextR_nil]) h
  · exact (S4.next_good _ _ _ r h0).short
theorem run_stepP (k : Nat) (m : BS) (r : Bs) (he : m.e = 0) : runB (k + 1) m r = if (nxt m r).1.kind = 0 then m else runB k (takeB m (nxt m r).1) (nxt m r).2 := by
  rw [runB, if_neg (by simpa using he)]
  rfl
theorem run_more : ∀ (k : Nat) (r : Bs) (m : BS), r.length < k → runB (k + 1) m r = runB k m r
  | 0, r, m, h => by omega
  | k + 1, r, m, h => by
    by_cases he : m.e = 0
    · rw [run_stepP (k + 1) m r he, run_stepP k m r he]
      split
      · rfl
      · rename_i hk
        have := nxt_short m r hk
        exact run_more k _ _ (by omega)
    · rw [runB_end _ _ _ he, runB_end _ _ _ he]
theorem run_enough (r : Bs) (m : BS) : ∀ d : Nat, runB (r.length + 1 + d) m r = runB (r.length + 1) m r
  | 0 => rfl
  | d + 1 => by
    rw [show r.length + 1 + (d + 1) = (r.length + 1 + d) + 1 by omega, run_more _ r m (by omega)]
    exact run_enough r m d
theorem IsB.raise (h : IsB O n w bb s) {n' : Nat} (h1 : n ≤ n') (h2 : n' ≤ w.heap.size) : IsB O n' w bb s := by
  obtain ⟨pb, og, cap, mv, A, h⟩ := h
  exact ⟨pb, og, cap, mv, A, { h with attL := fun m hm h0 k e => ⟨Nat.lt_of_lt_of_le (h.attL m hm h0 k e).1 h1, (h.attL m hm h0 k e).2⟩, nL := h2 }⟩
abbrev tok0W (w : World) : World := w.alloc (.cells #[.int .i64 0, .string ⟨#[]⟩, .slice none 0 0, .bool false, .string ⟨#[]⟩] 84)
theorem tok0_box (w : World) {x : World} (h : Below (tok0W w).heap.size (tok0W w) x) : (x.cell? ⟨w.heap.size, 0, none⟩ = some (.int .i64 0) ∧ x.cell? ⟨w.heap.size, 1, none⟩ = some (.string ⟨#[]⟩) ∧ x.cell? ⟨w.heap.size, 2, none⟩ = some (.slice none 0 0) ∧ x.cell? ⟨w.heap.size, 3, none⟩ = some (.bool false) ∧ x.cell? ⟨w.heap.size, 4, none⟩ = some (.string ⟨#[]⟩)) ∧ (∀ j, x.frozen? ⟨w.heap.size, j, none⟩ = false) ∧ Below w.heap.size w x := by
  refine ⟨⟨?_, ?_, ?_, ?_, ?_⟩, fun j => ?_, two_below h⟩
  · rw [h.cell (by simp)]; simp [go_sem]
  · rw [h.cell (by simp)]; simp [go_sem]
  · rw [h.cell (by simp)]; simp [go_sem]
  · rw [h.cell (by simp)]; simp [go_sem]
  · rw [h.cell (by simp)]; simp [go_sem]
  · rw [h.frozen (p := ⟨w.heap.size, j, none⟩) (by simp)]; exact (World.frozen?_alloc_mark w _ _ 0 0 j).trans (by simp)
abbrev set5W (x : World) (g : Nat) (a b c d e : Value) : World := ((((x.setCell ⟨g, 0, none⟩ a).setCell ⟨g, 1, none⟩ b).setCell ⟨g, 2, none⟩ c).setCell ⟨g, 3, none⟩ d).setCell ⟨g, 4, none⟩ e
theorem set5_other (x : World) (g : Nat) (a b c d e : Value) (k : Nat) (hk : k ≠ g) : (set5W x g a b c d e).heap[k]? = x.heap[k]? := by
  unfold set5W
  rw [Below.heap_setCell _ _ _ _ hk, Below.heap_setCell _ _ _ _ hk, Below.heap_setCell _ _ _ _ hk, Below.heap_setCell _ _ _ _ hk, Below.heap_setCell _ _ _ _ hk]
theorem set5_below {w x : World} {B g : Nat} (h : Below B w x) (hg : B ≤ g) (a b c d e : Value) : Below B w (set5W x g a b c d e) :=
  ((((h.setCell (p := ⟨g, 0, none⟩) hg _).setCell (p := ⟨g, 1, none⟩) hg _).setCell (p := ⟨g, 2, none⟩) hg _).setCell (p := ⟨g, 3, none⟩) hg _).setCell (p := ⟨g, 4, none⟩) hg _
theorem below_env {n0 : Nat} (hn : 2 ≤ n0) {w0 x : World} (hz : n0 ≤ w0.heap.size) (he : S4.Env w0) (hb : Below n0 w0 x) : S4.Env x := he.keep (hb.block 0 (by omega)) (hb.block 1 (by omega))
theorem takeAll_p (Q : BS → Bs → Prop) (hQ : StepOk Q) (T : ByteArray) (hT : T.size ≤ 4096) (n0 : Nat) (hn : 2 ≤ n0) (hz : n0 ≤ w.heap.size) (he : S4.Env w) (M : BS) (h0 : Run8 n0 w bb Q T.data.toList M 0 w) :
    Calls Tryz.prog 30 #[bP bb, .string T] w fun e w' => e = .returned (.tuple #[]) ∧ (∃ S O n, IsB O n w' bb S ∧ (∀ k, O k → n0 ≤ k ∧ k < w'.heap.size) ∧ Rel S M ∧ PInv 250000000 S) ∧ Below n0 w w' := by
  have HE := hide he
  have H0 := hide h0
  have HQ := hide hQ
  have hTl : T.size = T.data.toList.length := S5.size_list T
  clear he h0 hQ
  go_enter Tryz.func30, Tryz.ntmps30
  go_wp2
  go_loopw [4] (fun at_ wr => ∃ p : Nat, at_ = .int .i64 (p : Int) ∧ Hid (Run8 n0 w bb Q T.data.toList M p wr)) (fun at_ _ => T.size - (intOf at_).toNat)
  case atStart => exact ⟨0, rfl, H0⟩
  case round =>
    obtain ⟨p, rfl, HR⟩ := hrel
    generalize wr = wx at *
    obtain ⟨m, s, O, n, hp, hIs, hO, hRel, hQm, hI, hnm, hrun, hbel⟩ := HR.out
    have hL := hI.opL
    have hbx := hIs.bL
    have hnx := hIs.nL
    by_cases hme : m.e = 0
    · have hR0 := hRel.2 hme
      have hse : s.e = 0 := hRel.1.trans hme
      obtain ⟨r0, hr0⟩ := hI.hd
      have hmne : m.op ≠ [] := fun e => by have := hR0.op; rw [e, hr0] at this; simp [vs] at this
      have hcur := cur_rel hR0 hmne
      have eN : S4.nextZ s.mo s.nm.data.toList ((curP s).sp != 0) T.data.toList (p : Int) = nxt m (T.data.toList.drop p) := by
        rw [S4.nextZ_le _ _ _ _ _ hp, hcur]
        unfold nxt
        have e1 : ((curB m).v.sp != 0) = !((curB m).sp == 0) := rfl
        rw [e1, hR0.mo]
        by_cases h0 : m.mode = 0
        · rw [h0]; exact nextR_name _ _ _ _
        · rw [hR0.nm h0]
      have HC := hide (fun x (b : Below wx.heap.size wx x) => current_p (hIs.below b) hI.ne (by omega))
      have HF := hide (foreign_p (curP s))
      have HNx := hide (fun x (b : Below wx.heap.size wx x) => S4.pnext_any T s.nm (by omega) hnm (p : Int) s.mo ((curP s).sp != 0) x (below_env hn hz HE.out (hbel.trans (b.mono (Nat.le_trans hz hbel.size)))))
      rw [eN] at HNx
      have HCS : Hid (∀ x, Below wx.heap.size wx x → x.cell? ⟨bb, 8, none⟩ = some (.int .i64 0) ∧ x.cell? ⟨bb, 4, none⟩ = some (.int .i64 s.mo) ∧ x.cell? ⟨bb, 5, none⟩ = some (.string s.nm)) := hide (fun x b => by
        obtain ⟨pb, og, cap, mv, A, v⟩ := hIs.below b
        have g8 := v.cs 8 (by omega)
        have g4 := v.cs 4 (by omega)
        have g5 := v.cs 5 (by omega)
        simp only [fv, List.getElem?_cons_succ, List.getElem?_cons_zero, hse] at g8 g4 g5
        exact ⟨g8, g4, g5⟩)
      obtain ⟨e8, _, _⟩ := HCS.out wx (Below.refl _ _)
      generalize curP s = C at *
      generalize hfb : (C.sp != 0) = fb at *
      generalize hNN : nxt m (T.data.toList.drop p) = NN at *
      obtain ⟨X0, hX0⟩ : ∃ X0, X0 = wx.alloc (.cells #[.int .i64 0, .string ⟨#[]⟩, .slice none 0 0, .bool false, .string ⟨#[]⟩] 84) := ⟨_, rfl⟩
      have KF : Hid (∀ x, Below X0.heap.size X0 x → (x.cell? ⟨bb, 4, none⟩ = some (.int .i64 s.mo) ∧ x.cell? ⟨bb, 5, none⟩ = some (.string s.nm)) ∧ Below wx.heap.size wx x) := hide (fun x b => by
        rw [hX0] at b
        have hb := two_below b
        exact ⟨(HCS.out x hb).2, hb⟩)
      have KB : Hid (∀ x, Below X0.heap.size X0 x → (x.cell? ⟨wx.heap.size, 0, none⟩ = some (.int .i64 0) ∧ x.cell? ⟨wx.heap.size, 1, none⟩ = some (.string ⟨#[]⟩) ∧ x.cell? ⟨wx.heap.size, 2, none⟩ = some (.slice none 0 0) ∧ x.cell? ⟨wx.heap.size, 3, none⟩ = some (.bool false) ∧ x.cell? ⟨wx.heap.size, 4, none⟩ = some (.string ⟨#[]⟩)) ∧ (∀ j, x.frozen? ⟨wx.heap.size, j, none⟩ = false)) := hide (fun x b => by
        rw [hX0] at b
        exact ⟨(tok0_box wx b).1, (tok0_box wx b).2.1⟩)
      have KS : Hid (∀ x a b c d e, Below X0.heap.size X0 x → (set5W x wx.heap.size a b c d e).cell? ⟨bb, 4, none⟩ = some (.int .i64 s.mo) ∧ (set5W x wx.heap.size a b c d e).cell? ⟨bb, 5, none⟩ = some (.string s.nm)) := hide (fun x a b c d e hb => by
        obtain ⟨⟨g4, g5⟩, _⟩ := KF.out x hb
        have hk := set5_other x wx.heap.size a b c d e bb (by omega)
        exact ⟨S5.cell_same hk g4, S5.cell_same hk g5⟩)
      have DD := hide (Below.refl X0.heap.size X0).drew
      obtain ⟨⟨tk, tn, ta, tc, tt⟩, rest⟩ := NN
      have HNx2 : Hid (∀ x, Below wx.heap.size wx x → Calls Tryz.prog 42 #[.string T, .int .i64 (p : Int), .int .i64 s.mo, .string s.nm, .bool fb] x fun e x3 => ∃ sa sl sc, (IsA x3 (.slice sa sl sc) ta ∧ (∀ k, (Value.slice sa sl sc).ownBlock = some k → x.heap.size ≤ k) ∧ Below x.heap.size x x3) ∧ e = .returned (.tuple #[.agg #[.int .i64 (tk : Int), .string ⟨tn.toArray⟩, .slice sa sl sc, .bool tc, .string ⟨tt.toArray⟩], .int .i64 ((T.size - rest.length : Nat) : Int)])) := hide (fun x b => (HNx.out x b).mono (by
        rintro e x3 ⟨⟨sv, hA, hk, rfl⟩, b3⟩
        obtain ⟨sa, sc, rfl⟩ := S5.isA_form (hA : S5.IsA x3 sv ta)
        exact ⟨sa, _, sc, ⟨hA, hk, b3⟩, rfl⟩))
      clear HNx
      have hXs : wx.heap.size < X0.heap.size := by rw [hX0]; simp
      have HBL := hide hbel
      by_cases hk0 : tk = 0
      · subst hk0
        have hM : m = M := by
          rw [← hrun, run_stepP _ m _ hme, hNN]
          simp
        have HFin : Hid (∀ y, Below wx.heap.size wx y → (∃ S O n, IsB O n y bb S ∧ (∀ k, O k → n0 ≤ k ∧ k < y.heap.size) ∧ Rel S M ∧ PInv 250000000 S) ∧ Below n0 w y) := hide (fun y b => ⟨⟨s, O, n, hIs.below b, fun k hk => ⟨(hO k hk).1, Nat.lt_of_lt_of_le (hO k hk).2 b.size⟩, hM ▸ hRel, hI.up (by omega)⟩, hbel.trans (b.mono (Nat.le_trans hz hbel.size))⟩)
        clear hrun hQm HR hIs hRel hbel hNN eN hM hcur hfb hTl hr0 hse hme hmne hp
        go_wp2_with fail
        rw [← hX0]
        clear hX0
        go_region_held2 (fun W' => W'.cell? ⟨bb, 4, none⟩ = some (.int .i64 s.mo) ∧ W'.cell? ⟨bb, 5, none⟩ = some (.string s.nm)) (first | with_reducible exact (KF.out _ DD.out).1 | with_reducible exact (KF.out _ B1.out).1 | with_reducible exact (KF.out _ B2.out).1 | with_reducible exact (KF.out _ B3.out).1 | with_reducible exact KS.out _ _ _ _ _ _ B3.out) (first | (go_at_call 44; refine (HC.out _ (KF.out _ DD.out).2).mono ?_; rintro e x1 ⟨rfl, b1⟩; have B1 := hide (DD.out.trans b1); clear b1) | (go_at_call 43; refine (HF.out _).mono ?_; rintro e x2 ⟨rfl, b2⟩; have B2 := hide (B1.out.trans (b2.mono B1.out.size)); clear b2) | (go_at_call 42; refine (HNx2.out _ (KF.out _ B2.out).2).mono ?_; rintro e x3 ⟨sa, sl, sc, hh, rfl⟩; have B3 := hide (B2.out.trans (hh.2.2.mono B2.out.size)); have HH := hide hh; obtain ⟨⟨q0, q1, q2, q3, q4⟩, qf⟩ := KB.out _ B3.out; have f0 := qf 0; have f1 := qf 1; have f2 := qf 2; have f3 := qf 3; have f4 := qf 4; clear hh qf))
        go_wp2
        refine bodyPost_ret (results_none rfl _ _ _) rfl ?_
        have hY := set5_below (KF.out _ B3.out).2 (Nat.le_refl _) (.int .i64 0) (.string ⟨tn.toArray⟩) (.slice sa sl sc) (.bool tc) (.string ⟨tt.toArray⟩)
        exact ⟨rfl, HFin.out _ hY⟩
      · have hk1 : ((tk : Int) == 0) = false := by
          rw [beq_eq_false_iff_ne]
          omega
        have HTAKE : Hid (∀ x x3 sa sl sc, Below X0.heap.size X0 x → (IsA x3 (.slice sa sl sc) ta ∧ (∀ k, (Value.slice sa sl sc).ownBlock = some k → x.heap.size ≤ k) ∧ Below x.heap.size x x3) → Calls Tryz.prog 45 #[bP bb, .agg #[.int .i64 (tk : Int), .string ⟨tn.toArray⟩, .slice sa sl sc, .bool tc, .string ⟨tt.toArray⟩]] (set5W x3 wx.heap.size (.int .i64 (tk : Int)) (.string ⟨tn.toArray⟩) (.slice sa sl sc) (.bool tc) (.string ⟨tt.toArray⟩)) fun e y => e = .returned (.tuple #[]) ∧ (Run8 n0 w bb Q T.data.toList M (T.size - rest.length) y ∧ p < T.size - rest.length)) := hide (by
          intro x x3 sa sl sc bx ⟨hA, hsk, b3⟩
          have bY := set5_below (KF.out x3 (bx.trans (b3.mono bx.size))).2 (Nat.le_refl _) (.int .i64 (tk : Int)) (.string ⟨tn.toArray⟩) (.slice sa sl sc) (.bool tc) (.string ⟨tt.toArray⟩)
          have hYs : (set5W x3 wx.heap.size (.int .i64 (tk : Int)) (.string ⟨tn.toArray⟩) (.slice sa sl sc) (.bool tc) (.string ⟨tt.toArray⟩)).heap.size = x3.heap.size := by simp [set5W, World.setCell]
          have hoth := set5_other x3 wx.heap.size (.int .i64 (tk : Int)) (.string ⟨tn.toArray⟩) (.slice sa sl sc) (.bool tc) (.string ⟨tt.toArray⟩)
          generalize set5W x3 wx.heap.size (.int .i64 (tk : Int)) (.string ⟨tn.toArray⟩) (.slice sa sl sc) (.bool tc) (.string ⟨tt.toArray⟩) = Y at *
          have hsz : wx.heap.size < x.heap.size := Nat.lt_of_lt_of_le hXs bx.size
          have hne : (nxt m (T.data.toList.drop p)).1.kind ≠ 0 := by rw [hNN]; exact hk0
          have hrl : (T.data.toList.drop p).length ≤ 20000 := by rw [List.length_drop]; omega
          obtain ⟨S, hBC, hRS, hIS, hnS, hQS⟩ := HQ.out m (T.data.toList.drop p) s (.slice sa sl sc) Y.heap.size bb (50000 * p) (hQm hme) hme hR0 hse hnm hI (by omega) hrl hne
          rw [hNN] at hBC hRS hQS
          have hsh := nxt_short m _ hne
          rw [hNN] at hsh
          simp only [List.length_drop] at hsh
          have hA2 : IsA Y (.slice sa sl sc) ta := isA_keep' hA fun _ k e => hoth k (by have := hsk k e; omega)
          have hfew : ta.length ≤ 1000000 := by
            have := S4.nextR_few m.mode m.name (!((curB m).sp == 0)) (T.data.toList.drop p)
            have e : S4.nextR m.mode m.name (!((curB m).sp == 0)) (T.data.toList.drop p) = _ := hNN
            rw [e] at this
            have h2 : ta.length ≤ (T.data.toList.drop p).length := this
            omega
          have hTok : TOk O Y.heap.size Y (tvOf ⟨tk, tn, ta, tc, tt⟩ (.slice sa sl sc)) := ⟨⟨hA2, fun h0 k e => ⟨by
              rcases hA2 with ⟨_, e2⟩ | ⟨b, o, cap, e1, _, hc⟩
              · exact absurd e2 h0
              · have e' : (Value.slice sa sl sc).ownBlock = some k := e
                have : b = k := by rw [e1] at e'; simpa [Value.ownBlock] using e'
                rw [← this]
                exact cell_lt (hc 0 (List.length_pos_iff.2 h0)).1, fun ho => by have := (hO k ho).2; have := hsk k e; omega⟩⟩, hfew⟩
          refine (hBC O Y ((hIs.below bY).raise (Nat.le_trans hnx bY.size) (Nat.le_refl _)) hTok).mono ?_
          rintro e y ⟨rfl, d⟩
          have hdrop : T.data.toList.drop (T.size - rest.length) = rest := by
            have := S4.nextR_back m.mode m.name (!((curB m).sp == 0)) T p (by omega)
            have e : S4.nextR m.mode m.name (!((curB m).sp == 0)) (T.data.toList.drop p) = _ := hNN
            rw [e] at this
            exact this.1
          refine ⟨rfl, ⟨takeB m ⟨tk, tn, ta, tc, tt⟩, S, fun k => andNew O Y.heap.size k ∧ k < y.heap.size, Y.heap.size, by omega, d.1.tight, fun k hk => ⟨?_, hk.2⟩, hRS, fun he => by rw [hdrop]; exact hQS he, hIS.up (by omega), hnS, ?_, ?_⟩, by omega⟩
          · rcases hk.1 with h1 | h1
            · exact (hO k h1).1
            · have := bY.size
              have := hbel.size
              omega
          · rw [hdrop, ← hrun, run_stepP _ m _ hme, hNN, if_neg hk0]
            obtain ⟨dd, hdd⟩ : ∃ dd, (T.data.toList.drop p).length = rest.length + 1 + dd := ⟨(T.data.toList.drop p).length - (rest.length + 1), by simp only [List.length_drop]; omega⟩
            rw [hdd]
            exact (run_enough rest _ dd).symm
          · have h1 : Below n0 w Y := hbel.trans (bY.mono (Nat.le_trans hz hbel.size))
            exact h1.trans (d.2.1.below (fun k hk => (hO k hk).1) (Nat.le_trans hz h1.size)))
        clear hrun hQm HR hIs hRel hbel hNN eN HQ hR0 hI hcur hfb hTl hr0 hse hme hmne hp
        go_wp2_with fail
        rw [← hX0]
        clear hX0
        go_region_held2 (fun W' => W'.cell? ⟨bb, 4, none⟩ = some (.int .i64 s.mo) ∧ W'.cell? ⟨bb, 5, none⟩ = some (.string s.nm)) (first | with_reducible exact (KF.out _ DD.out).1 | with_reducible exact (KF.out _ B1.out).1 | with_reducible exact (KF.out _ B2.out).1 | with_reducible exact (KF.out _ B3.out).1 | with_reducible exact KS.out _ _ _ _ _ _ B3.out) (first | (go_at_call 44; refine (HC.out _ (KF.out _ DD.out).2).mono ?_; rintro e x1 ⟨rfl, b1⟩; have B1 := hide (DD.out.trans b1); clear b1) | (go_at_call 43; refine (HF.out _).mono ?_; rintro e x2 ⟨rfl, b2⟩; have B2 := hide (B1.out.trans (b2.mono B1.out.size)); clear b2) | (go_at_call 42; refine (HNx2.out _ (KF.out _ B2.out).2).mono ?_; rintro e x3 ⟨sa, sl, sc, hh, rfl⟩; have B3 := hide (B2.out.trans (hh.2.2.mono B2.out.size)); have HH := hide hh; obtain ⟨⟨q0, q1, q2, q3, q4⟩, qf⟩ := KB.out _ B3.out; have f0 := qf 0; have f1 := qf 1; have f2 := qf 2; have f3 := qf 3; have f4 := qf 4; clear hh qf))
        go_wp2_with fail
        refine (HTAKE.out _ _ _ _ _ B2.out HH.out).mono ?_
        rintro e y ⟨rfl, hRun, hlt⟩
        have HRun := hide hRun
        clear hRun
        go_wp2
        exact ⟨⟨_, rfl, HRun⟩, by simp [intOf]; omega⟩
    · have hse : ¬ s.e = 0 := fun e => hme (hRel.1.symm.trans e)
      have e8 : wx.cell? ⟨bb, 8, none⟩ = some (.int .i64 s.e) := by
        obtain ⟨pb, og, cap, mv, A, v⟩ := hIs
        exact v.cs 8 (by omega)
      have HFin : Hid (∃ S O n, IsB O n wx bb S ∧ (∀ k, O k → n0 ≤ k ∧ k < wx.heap.size) ∧ Rel S M ∧ PInv 250000000 S) := hide ⟨s, O, n, hIs, hO, by rw [runB_end _ _ _ hme] at hrun; rw [← hrun]; exact hRel, hI.up (by omega)⟩
      generalize s.e = q at *
      have BL := hide hbel
      clear hrun hQm HR hIs hRel hbel
      go_wp2
      go_end0
      exact ⟨rfl, HFin.out, BL.out⟩
end Go.Proofs.YtpppdfjdngmaoaaGreatDoor
namespace Go.Proofs.YtpppdfjdngmaoaaGreatDoor
open Go.RowKit
open S5 (ButA andNew PT IsA cell_lt below_alloc hide below_drewN)
variable {O : Nat → Prop} {n : Nat} {w W : World} {bb : Nat} {s : PB} {c : Nat}
def startP : PB := ⟨S5.newL, [rootV], [], 0, 0, ⟨#[]⟩, false, false, 0⟩
abbrev startW (w1 : World) (pb : Nat) : World := (w1.alloc (.cells #[.int .i64 0, .int .i64 0, .string ⟨#[104, 116, 109, 108]⟩] 81)).alloc (.cells #[.pointer (some ⟨pb, 0, none⟩), .slice (some ⟨w1.heap.size, 0, none⟩) 1 1, .slice none 0 0, .int .i64 0, .int .i64 0, .string ⟨#[]⟩, .bool false, .bool false, .int .i64 0] 59)
theorem start_isB {w w1 : World} {pb : Nat} (b1 : Below w.heap.size w w1) (hP : PT (fun k => w.heap.size ≤ k ∧ k < w1.heap.size) w1 pb S5.newL) : IsB (fun k => w.heap.size ≤ k ∧ k < (startW w1 pb).heap.size) w.heap.size (startW w1 pb) (w1.heap.size + 1) startP := by
  have bS : Below w1.heap.size w1 (startW w1 pb) := (below_alloc w1 _).trans ((below_alloc _ _).mono (by simp))
  have hz : (startW w1 pb).heap.size = w1.heap.size + 1 + 1 := by simp [startW]
  have h1 := b1.size
  have hrow : (startW w1 pb).ownsRow 0 81 3 (opV w1.heap.size 1 1) 1 (opCells [rootV]) := by
    have h2 := World.ownsRow_lit (base := 0) (e := 81) (size := 3) w1 #[.int .i64 0, .int .i64 0, .string ⟨#[104, 116, 109, 108]⟩] 1 (Nat.zero_le _) (by unfold maxLen; omega) rfl
    exact S5.owns_below h2 (below_alloc _ _)
  refine ⟨pb, w1.heap.size, 1, .slice none 0 0, fun k => w.heap.size ≤ k ∧ k < w1.heap.size, ?_, fun j => ?_, hP.below bS, hrow, .inl ⟨rfl, _, _, rfl⟩, fun b o l c e => (by cases e), fun m hm => absurd hm (by simp [startP]), fun m hm => absurd hm (by simp [startP]), (by omega), fun k hk => ⟨⟨hk.1, by omega⟩, by omega⟩, ⟨(by omega), (by omega)⟩, ⟨(by omega), (by omega)⟩, fun h => (by omega), fun h => (by omega), (by omega)⟩
  · intro j hj
    have hs : (w1.alloc (.cells #[.int .i64 0, .int .i64 0, .string ⟨#[104, 116, 109, 108]⟩] 81)).heap.size = w1.heap.size + 1 := by simp
    have hc := World.cell?_alloc_mark (w1.alloc (.cells #[.int .i64 0, .int .i64 0, .string ⟨#[104, 116, 109, 108]⟩] 81)) #[.pointer (some ⟨pb, 0, none⟩), .slice (some ⟨w1.heap.size, 0, none⟩) 1 1, .slice none 0 0, .int .i64 0, .int .i64 0, .string ⟨#[]⟩, .bool false, .bool false, .int .i64 0] 59 (0, 0) j
    rw [hs] at hc
    refine hc.trans ?_
    rcases (by omega : j = 0 ∨ j = 1 ∨ j = 2 ∨ j = 3 ∨ j = 4 ∨ j = 5 ∨ j = 6 ∨ j = 7 ∨ j = 8) with rfl | rfl | rfl | rfl | rfl | rfl | rfl | rfl | rfl <;> rfl
  · have hs : (w1.alloc (.cells #[.int .i64 0, .int .i64 0, .string ⟨#[104, 116, 109, 108]⟩] 81)).heap.size = w1.heap.size + 1 := by simp
    have hf := World.frozen?_alloc_mark (w1.alloc (.cells #[.int .i64 0, .int .i64 0, .string ⟨#[104, 116, 109, 108]⟩] 81)) #[.pointer (some ⟨pb, 0, none⟩), .slice (some ⟨w1.heap.size, 0, none⟩) 1 1, .slice none 0 0, .int .i64 0, .int .i64 0, .string ⟨#[]⟩, .bool false, .bool false, .int .i64 0] 59 0 0 j
    rw [hs] at hf
    exact hf.trans (by simp)
theorem newBuilder_p (w : World) : Calls Tryz.prog 29 #[] w fun e w' => (∃ bb, e = .returned (bP bb) ∧ IsB (fun k => w.heap.size ≤ k ∧ k < w'.heap.size) w.heap.size w' bb startP) ∧ Below w.heap.size w w' := by
  have HN := hide S5.pnew_p
  go_enter Tryz.func29, Tryz.ntmps29
  go_wp2_with fail
  refine (HN.out _).mono ?_
  rintro e w1 ⟨⟨pb, rfl, hP⟩, b1⟩
  have HP := hide hP
  have B1 := hide b1
  clear hP b1
  go_wp2
  go_ret
  exact ⟨⟨_, rfl, start_isB B1.out HP.out⟩, B1.out.trans (((below_alloc w1 _).trans ((below_alloc _ _).mono (by simp))).mono B1.out.size)⟩
theorem start_inv : PInv 0 startP where
  hd := ⟨[], rfl⟩
  opL := by decide
  wf := S5.WF.new
  t0 := by decide
  tL := by decide
  mrL := Nat.le_refl _
  aaL := fun m hm => absurd hm (by simp [startP])
  txL := fun i => by
    cases i with
    | zero => exact Nat.le_refl _
    | succ i => cases i <;> exact Nat.le_refl _
  atL := fun i => by
    cases i with
    | zero => exact Nat.zero_le _
    | succ i => cases i <;> exact Nat.zero_le _
theorem start_rel : Rel startP {} := ⟨rfl, fun _ => { T := rfl, op := rfl, mr := rfl, ru := rfl, mo := rfl, nm := fun h => absurd rfl h, fo := rfl, sk := rfl }⟩
theorem isK_form {B : Nat → Prop} {w : World} {k : Nat} {ks : List (S5.NT k)} {kv : Value} (h : S5.IsK B w ks kv) : ∃ a l c, kv = .slice a l c := by
  rcases h with ⟨rfl, _⟩ | ⟨b, o, cap, rfl, _⟩
  · exact ⟨_, _, _, rfl⟩
  · exact ⟨_, _, _, rfl⟩
theorem isK_mono {B C : Nat → Prop} {w : World} {k : Nat} {ks : List (S5.NT k)} {kv : Value} (hm : ∀ k, B k → C k) (h : S5.IsK B w ks kv) : S5.IsK C w ks kv := by
  rcases h with h | ⟨b, o, cap, e, h1, h2, h3⟩
  · exact .inl h
  · rcases h2 with h2 | h2
    · subst h2
      exact .inr ⟨b, o, cap, e, h1, .inl rfl, trivial⟩
    · exact .inr ⟨b, o, cap, e, h1, .inr (hm b h2), S5.IsNs.keep (fun _ _ => rfl) hm b h2 o ks h3⟩
def FragA (w : World) (l : Bs) (e : Ending) (w' : World) : Prop := ∃ a k c, e = .returned (.tuple #[.slice a k c, .int .i64 (fragErr l)]) ∧ (fragErr l ≠ 0 → k = 0) ∧ (fragErr l = 0 → S5.IsK (fun k => w.heap.size ≤ k) w' (S5.valueL (buildL l).T 0).kids (.slice a k c)) ∧ Below w.heap.size w w'
theorem fld_kids (v0 v1 v2 v3 v4 v5 : Value) (W : World) : (Instr.field 46 (.agg #[v0, v1, v2, v3, v4, v5]) 5).run Tryz.prog W = .ok v5 W := by rfl
theorem fragment_p (Q : BS → Bs → Prop) (hQ : StepOk Q) (T : ByteArray) (hT : T.size ≤ 4096) (w : World) (he : S4.Env w) (h0 : Q {} T.data.toList) : Calls Tryz.prog 18 #[.string T] w (FragA w T.data.toList) := by
  have hTl : T.size = T.data.toList.length := S5.size_list T
  have hfe : fragErr T.data.toList = (buildL T.data.toList).e := by unfold fragErr; rw [if_neg (by omega)]
  have HN := hide (newBuilder_p w)
  have h2 := he.two
  have HT : Hid (∀ w1 bb, Below w.heap.size w w1 → IsB (fun k => w.heap.size ≤ k ∧ k < w1.heap.size) w.heap.size w1 bb startP → Calls Tryz.prog 30 #[bP bb, .string T] w1 fun e w' => e = .returned (.tuple #[]) ∧ (∃ S O n, IsB O n w' bb S ∧ Rel S (buildL T.data.toList) ∧ PInv 250000000 S) ∧ Below w.heap.size w w') := hide (by
    intro w1 bb b1 hB
    refine (takeAll_p Q hQ T hT w.heap.size h2 b1.size (he.below b1) (buildL T.data.toList) ⟨{}, startP, _, _, Nat.zero_le _, hB, fun k hk => hk, start_rel, fun _ => h0, start_inv, by decide, rfl, Below.refl _ _⟩).mono ?_
    rintro e w' ⟨rfl, ⟨S, O, n, h1, _, h3, h4⟩, b⟩
    exact ⟨rfl, ⟨S, O, n, h1, h3, h4⟩, b1.trans b⟩)
  have HV : Hid (∀ w2 bb S O n, IsB O n w2 bb S → Rel S (buildL T.data.toList) → PInv 250000000 S → Below w.heap.size w w2 → ∃ pb, w2.cell? ⟨bb, 0, none⟩ = some (.pointer (some ⟨pb, 0, none⟩)) ∧ w2.cell? ⟨bb, 8, none⟩ = some (.int .i64 (buildL T.data.toList).e) ∧ ((buildL T.data.toList).e = 0 → Calls Tryz.prog 31 #[.pointer (some ⟨pb, 0, none⟩), .int .i64 0] w2 fun e w' => (∃ av kv d, e = .returned (.agg (S5.nodeC d av kv).toArray) ∧ (∃ a k c, av = .slice a k c) ∧ S5.IsK (fun k => w2.heap.size ≤ k) w' (S5.valueL (buildL T.data.toList).T 0).kids kv) ∧ Below w2.heap.size w2 w')) := hide (by
    intro w2 bb S O n hB hR hI b2
    obtain ⟨pb, og, cap, mv, A, v⟩ := hB
    refine ⟨pb, v.cs 0 (by omega), by have := v.cs 8 (by omega); rw [← hR.1]; exact this, fun he0 => ?_⟩
    have hT2 := (hR.2 he0).T
    have hlen := hI.tL
    have h00 := hI.t0
    refine (S5.valueZ_p hI.wf (by omega) hI.atL pb 0 v.tree).mono ?_
    rintro e w' ⟨⟨vs, rfl, hN⟩, b⟩
    have hv : S5.valueZ S.T 0 = S5.valueL S.T 0 := by
      unfold S5.valueZ
      rw [if_pos (by unfold S5.inT; omega)]
      rfl
    rw [hv, hT2, S5.NT.form (S5.valueL (buildL T.data.toList).T 0)] at hN
    obtain ⟨av, kv, rfl, hA, hK⟩ := (S5.isN_iff _ _ _ _ _).1 hN
    obtain ⟨a, k, c, e⟩ : ∃ a k c, av = .slice a k c := by
      obtain ⟨a, c, e⟩ := S5.isA_form hA.1
      exact ⟨a, _, c, e⟩
    exact ⟨⟨av, kv, _, rfl, ⟨a, k, c, e⟩, hK⟩, b⟩)
  have hT2 : ¬ (4096 : Int) < T.size := by omega
  unfold FragA
  rw [hfe]
  generalize buildL T.data.toList = BL at *
  clear hfe h0 hTl
  by_cases hz : BL.e = 0
  · rw [hz] at HV ⊢
    go_enter Tryz.func18, Tryz.ntmps18
    go_wp2_with fail
    refine HN.out.mono ?_
    rintro e w1 ⟨⟨bb, rfl, hB⟩, b1⟩
    have HB := hide hB
    have B1 := hide b1
    clear hB b1
    go_wp2_with fail
    refine (HT.out _ _ B1.out HB.out).mono ?_
    rintro e w2 ⟨rfl, ⟨S, O, n, h1, h3, h4⟩, b2⟩
    obtain ⟨pb, c0, c8, hV⟩ := HV.out _ _ _ _ _ h1 h3 h4 b2
    have HVV := hide (hV (by simp))
    have B2 := hide b2
    clear h1 h3 h4 b2 hV
    go_wp2_with fail
    refine HVV.out.mono ?_
    rintro e w3 ⟨⟨av, kv, d, rfl, ⟨a, k, c, rfl⟩, hK⟩, b3⟩
    obtain ⟨a2, k2, c2, rfl⟩ := isK_form hK
    have HK := hide (isK_mono (C := fun k => w.heap.size ≤ k) (fun k hk => Nat.le_trans B2.out.size hk) hK)
    have B3 := hide (B2.out.trans (b3.mono B2.out.size))
    clear hK b3
    simp only [S5.nodeC]
    have hfld := fld_kids
    go_wp2
    go_ret2
    exact ⟨a2, k2, c2, rfl, fun h => absurd rfl h, fun _ => HK.out, B3.out⟩
  · go_enter Tryz.func18, Tryz.ntmps18
    go_wp2_with fail
    refine HN.out.mono ?_
    rintro e w1 ⟨⟨bb, rfl, hB⟩, b1⟩
    have HB := hide hB
    have B1 := hide b1
    clear hB b1
    go_wp2_with fail
    refine (HT.out _ _ B1.out HB.out).mono ?_
    rintro e w2 ⟨rfl, ⟨S, O, n, h1, h3, h4⟩, b2⟩
    obtain ⟨pb, c0, c8, hV⟩ := HV.out _ _ _ _ _ h1 h3 h4 b2
    have B2 := hide b2
    clear h1 h3 h4 b2 hV
    generalize hq : BL.e = q at *
    go_wp2_with fail
    go_region
    go_wp2
    go_ret2
    subst hq
    exact ⟨none, 0, 0, rfl, fun _ => rfl, fun h => absurd h hz, B2.out.drew⟩
end Go.Proofs.YtpppdfjdngmaoaaGreatDoor
namespace Go.Proofs.YtpppdfjdngmaoaaGreatDoor.G8
open Go.RowKit
open G5 (NT IsK IsNs IsN isN_iff countTs countT maxG deepT cell_lt below_alloc hide)
theorem manyTs_app {k : Nat} (a b : List (NT k)) : countTs (a ++ b) = countTs a + countTs b := by
  unfold countTs
  rw [List.map_append, List.sum_append]
theorem manyTs_take {k : Nat} (ks : List (NT (k + 1))) (i : Nat) (h : i < ks.length) : countTs (ks.take (i + 1)) = countTs (ks.take i) + 1 + countTs ks[i].kids := by
  rw [List.take_succ_eq_append_getElem h, manyTs_app, Nat.add_assoc]
  congr 1
theorem manyTs_le {k : Nat} (ks : List (NT k)) (i : Nat) : countTs (ks.take i) ≤ countTs ks := by
  have := manyTs_app (ks.take i) (ks.drop i)
  rw [List.take_append_drop] at this
  omega
theorem manyTs_len {k : Nat} : ∀ (ks : List (NT (k + 1))), ks.length ≤ countTs ks
  | [] => Nat.zero_le _
  | x :: r => by
    have h := manyTs_len r
    have : countTs (x :: r) = 1 + countTs x.kids + countTs r := rfl
    rw [List.length_cons, this]
    omega
theorem kid_cells {B : Nat → Prop} {w : World} {k : Nat} {ts : List (NT (k + 1))} {b o : Nat} (h : IsNs B w b o ts) (i : Nat) (hi : i < ts.length) : ∃ (a1 : Option Addr) (l1 c1 : Nat) (a : Option Addr) (c : Nat), w.cell? ⟨b, o + i * 6, none⟩ = some (.int .i64 ts[i].nd.kind) ∧ w.cell? ⟨b, o + i * 6 + 1, none⟩ = some (.int .i64 ts[i].nd.space) ∧ w.cell? ⟨b, o + i * 6 + 2, none⟩ = some (.string ⟨ts[i].nd.name.toArray⟩) ∧ w.cell? ⟨b, o + i * 6 + 3, none⟩ = some (.slice a1 l1 c1) ∧ w.cell? ⟨b, o + i * 6 + 4, none⟩ = some (.string ⟨ts[i].nd.text.toArray⟩) ∧ w.cell? ⟨b, o + i * 6 + 5, none⟩ = some (.slice a ts[i].kids.length c) ∧ G5.IsA w (.slice a1 l1 c1) ts[i].nd.attrs ∧ IsK B w ts[i].kids (.slice a ts[i].kids.length c) := by
  obtain ⟨vs, g, n⟩ := G5.IsNs.get o ts h i hi
  rw [ts[i].form, isN_iff] at n
  obtain ⟨av, kv, rfl, hA, hK⟩ := n
  obtain ⟨a1, c1, rfl⟩ := G5.isA_form hA.1
  obtain ⟨a, c, rfl⟩ : ∃ a c, kv = .slice a ts[i].kids.length c := by
    rcases hK with ⟨⟨x, y, e⟩, h0⟩ | ⟨b, o, cap, e, _⟩
    · have h0 : ts[i].kids = [] := h0
      rw [h0]
      exact ⟨_, _, e⟩
    · exact ⟨_, _, e⟩
  exact ⟨a1, _, c1, a, c, g 0 (by omega), g 1 (by omega), g 2 (by omega), g 3 (by omega), g 4 (by omega), g 5 (by omega), hA.1, hK⟩
theorem isK_len {B : Nat → Prop} {w : World} {k : Nat} {ks : List (NT k)} {kv : Value} (h : IsK B w ks kv) : ∃ a c, kv = .slice a ks.length c := by
  rcases h with ⟨⟨x, y, rfl⟩, rfl⟩ | ⟨b, o, cap, rfl, _⟩
  · exact ⟨_, _, rfl⟩
  · exact ⟨_, _, rfl⟩
def ManyP {k : Nat} (ts : List (NT k)) : Prop := ∀ (B : Nat → Prop) (va : Value) (w : World), (∀ k, B k → k < w.heap.size) → IsK B w ts va → Calls Tryz.prog 13 #[va] w fun e w' => e = .returned (.int .i64 (countTs ts : Int)) ∧ Below w.heap.size w w'
theorem manyP_step {k : Nat} (ts : List (NT (k + 1))) (hct : countTs ts ≤ 1000000) (ih : ∀ i (h : i < ts.length), ManyP ts[i].kids) : ManyP ts := by
  intro B va w hB h1
  have H1 := hide h1
  obtain ⟨a1, c1, rfl⟩ := isK_len h1
  have HBB := hide hB
  have HIH := hide ih
  have HTA := hide (manyTs_take ts)
  have HLE := hide (manyTs_le ts)
  have hln : ts.length ≤ 1000000 := Nat.le_trans (manyTs_len ts) hct
  clear h1 ih hB
  go_enter Tryz.func13, Tryz.ntmps13
  go_wp2
  go_loopw [3, 10] (fun v3 v4 wr => ∃ i m : Nat, v4 = .int .i64 (i : Int) ∧ i ≤ ts.length ∧ v3 = .int .i64 (m : Int) ∧ Hid (m + i = ts.length + countTs (ts.take i)) ∧ Hid (Below w.heap.size w wr)) (fun _ v4 _ => ts.length - (intOf v4).toNat)
  case atStart => exact ⟨0, ts.length, rfl, by omega, rfl, hide rfl, hide (Below.refl _ _)⟩
  case round =>
    obtain ⟨i, m, rfl, hi, rfl, HM, HBW⟩ := hrel
    have hle := HLE.out i
    have hm1 := HM.out
    by_cases hlt : i < ts.length
    · have hlt2 : (i : Int) < ts.length := by omega
      have k1 := H1.out.below HBB.out HBW.out
      rcases k1 with ⟨_, h0⟩ | ⟨b1, o1, cap1, e1, _, _, hn1⟩
      · rw [h0] at hlt; simp at hlt
      injection e1 with e1 _ e1c
      subst e1 e1c
      obtain ⟨xa, xl, xc, ka, kc, u0, u1, u2, u3, u4, u5, _, hk⟩ := kid_cells hn1 i hlt
      have hta := HTA.out i hlt
      have hle2 := HLE.out (i + 1)
      have hba := below_alloc wr (.cells #[.int .i64 ts[i].nd.kind, .int .i64 ts[i].nd.space, .string ⟨ts[i].nd.name.toArray⟩, .slice xa xl xc, .string ⟨ts[i].nd.text.toArray⟩, .slice ka ts[i].kids.length kc] 46)
      have hBr : ∀ j, B j → j < wr.heap.size := fun j hj => Nat.lt_of_lt_of_le (HBB.out j hj) HBW.out.size
      have HC := hide (HIH.out i hlt B _ (wr.alloc (.cells #[.int .i64 ts[i].nd.kind, .int .i64 ts[i].nd.space, .string ⟨ts[i].nd.name.toArray⟩, .slice xa xl xc, .string ⟨ts[i].nd.text.toArray⟩, .slice ka ts[i].kids.length kc] 46)) (fun j hj => Nat.lt_of_lt_of_le (hBr j hj) hba.size) (hk.below hBr hba))
      have HTT : Hid (m + countTs ts[i].kids + (i + 1) = ts.length + countTs (ts.take (i + 1))) := hide (by omega)
      have hb1 : m ≤ 2000000 := by omega
      have hb2 : countTs ts[i].kids ≤ 1000000 := by omega
      clear hn1 hta hle hle2 hk hm1 hba hBr HM
      generalize countTs ts[i].kids = ci at *
      generalize ts[i].kids.length = kl at *
      generalize ts[i].nd.kind = n0 at *
      generalize ts[i].nd.space = n1 at *
      generalize ts[i].nd.name.toArray = n2 at *
      generalize ts[i].nd.text.toArray = n3 at *
      go_wp2_with fail
      refine HC.out.mono ?_
      rintro e x1 ⟨rfl, b1⟩
      have HBN := hide (HBW.out.trans ((two_below b1).mono HBW.out.size))
      clear b1 u0 u1 u2 u3 u4 u5
      go_wp2
      exact ⟨⟨i + 1, m + ci, by go_num, by omega, by go_num, HTT, HBN⟩, by simp [intOf]; omega⟩
    · have hlt2 : ¬ (i : Int) < ts.length := by omega
      have hke : ts.take i = ts := List.take_of_length_le (by omega)
      have HF : Hid ((m : Int) = countTs ts) := hide (by rw [hke] at hm1; omega)
      clear hle hke hm1 HM
      go_wp2
      go_ret
      exact ⟨G5.ret_int HF.out, HBW.out⟩
theorem isK_zero {B : Nat → Prop} {w : World} {ts : List (NT 0)} {va : Value} (h : IsK B w ts va) : ts = [] ∧ IsK B w ([] : List (NT 1)) va := by
  have h0 : ts = [] := by
    cases ts with
    | nil => rfl
    | cons x r => exact x.none
  subst h0
  refine ⟨rfl, ?_⟩
  rcases h with ⟨h1, _⟩ | ⟨b, o, cap, e1, e2, _, _⟩
  · exact .inl ⟨h1, rfl⟩
  · exact .inr ⟨b, o, cap, e1, e2, .inl rfl, trivial⟩
theorem manyP_any : ∀ {k : Nat} (ts : List (NT k)), countTs ts ≤ 1000000 → ManyP ts
  | 0, ts, _ => by
    intro B va w hB h
    obtain ⟨rfl, h2⟩ := isK_zero h
    exact manyP_step ([] : List (NT 1)) (Nat.zero_le _) (fun i hi => by simp at hi) B va w hB h2
  | k + 1, ts, h => manyP_step ts h fun i hi => manyP_any _ (by
    have h1 := manyTs_take ts i hi
    have h2 := manyTs_le ts (i + 1)
    omega)
def deepTs {k : Nat} (ts : List (NT k)) : Nat := maxG (fun x => deepT x) ts
theorem deepTs_take {k : Nat} (ts : List (NT (k + 1))) (i : Nat) (h : i < ts.length) : deepTs (ts.take (i + 1)) = max (deepTs (ts.take i)) (deepTs ts[i].kids + (if ts[i].nd.kind = 1 then 1 else 0)) := G5.maxG_take _ ts i h
theorem deepTs_le {k : Nat} : ∀ (ts : List (NT k)), deepTs ts ≤ k
  | [] => Nat.zero_le _
  | x :: r => by
    have h1 := deepTs_le r
    have h2 := G5.deep_le x
    show max (deepT x) (deepTs r) ≤ k
    omega
theorem deepT_count : ∀ {k : Nat} (t : NT k), deepT t ≤ countT t
  | 0, t => t.none
  | k + 1, t => by
    have key : ∀ l : List (NT k), maxG (fun x => deepT x) l ≤ countTs l := by
      intro l
      induction l with
      | nil => exact Nat.zero_le _
      | cons x r ih =>
        have h1 := deepT_count x
        have h2 : countTs (x :: r) = countT x + countTs r := by unfold countTs; rw [List.map_cons, List.sum_cons]
        show max (deepT x) (maxG (fun x => deepT x) r) ≤ _
        omega
    have h1 := key t.kids
    have h2 : countT t = 1 + countTs t.kids := rfl
    have h3 : deepT t = maxG (fun x => deepT x) t.kids + (if t.nd.kind = 1 then 1 else 0) := rfl
    rw [h2, h3]
    split <;> omega
theorem deepTs_count {k : Nat} : ∀ (ts : List (NT k)), deepTs ts ≤ countTs ts
  | [] => Nat.zero_le _
  | x :: r => by
    have h1 := deepTs_count r
    have h2 := deepT_count x
    have h3 : countTs (x :: r) = countT x + countTs r := by unfold countTs; rw [List.map_cons, List.sum_cons]
    show max (deepT x) (deepTs r) ≤ _
    omega
def DeepP {k : Nat} (ts : List (NT k)) : Prop := ∀ (B : Nat → Prop) (va : Value) (w : World), (∀ k, B k → k < w.heap.size) → IsK B w ts va → Calls Tryz.prog 15 #[va] w fun e w' => e = .returned (.int .i64 (deepTs ts : Int)) ∧ Below w.heap.size w w'
theorem deepP_step {k : Nat} (ts : List (NT (k + 1))) (hl : ts.length ≤ 1000000) (hct : countTs ts ≤ 1000000) (ih : ∀ i (h : i < ts.length), DeepP ts[i].kids) : DeepP ts := by
  intro B va w hB h1
  have H1 := hide h1
  obtain ⟨a1, c1, rfl⟩ := isK_len h1
  have HBB := hide hB
  have HIH := hide ih
  have HTA := hide (deepTs_take ts)
  have HLE : Hid (∀ i, deepTs (ts.take i) ≤ 1000000) := hide fun i => Nat.le_trans (deepTs_count _) (Nat.le_trans (manyTs_le ts i) hct)
  have HLK : Hid (∀ i (h : i < ts.length), deepTs ts[i].kids ≤ 999999) := hide fun i h => by
    have h1 := manyTs_take ts i h
    have h2 := manyTs_le ts (i + 1)
    have h3 := deepTs_count ts[i].kids
    omega
  clear hct
  clear h1 ih hB
  go_enter Tryz.func15, Tryz.ntmps15
  go_wp2
  go_loopw [3, 9] (fun v3 v4 wr => ∃ i : Nat, v4 = .int .i64 (i : Int) ∧ i ≤ ts.length ∧ v3 = .int .i64 (deepTs (ts.take i) : Int) ∧ Hid (Below w.heap.size w wr)) (fun _ v4 _ => ts.length - (intOf v4).toNat)
  case atStart => exact ⟨0, rfl, by omega, rfl, hide (Below.refl _ _)⟩
  case round =>
    obtain ⟨i, rfl, hi, rfl, HBW⟩ := hrel
    have hle := HLE.out i
    by_cases hlt : i < ts.length
    · have hlt2 : (i : Int) < ts.length := by omega
      have k1 := H1.out.below HBB.out HBW.out
      rcases k1 with ⟨_, h0⟩ | ⟨b1, o1, cap1, e1, _, _, hn1⟩
      · rw [h0] at hlt; simp at hlt
      injection e1 with e1 _ e1c
      subst e1 e1c
      obtain ⟨xa, xl, xc, ka, kc, u0, u1, u2, u3, u4, u5, _, hk⟩ := kid_cells hn1 i hlt
      have hta := HTA.out i hlt
      have hlk := HLK.out i hlt
      have hba := below_alloc wr (.cells #[.int .i64 ts[i].nd.kind, .int .i64 ts[i].nd.space, .string ⟨ts[i].nd.name.toArray⟩, .slice xa xl xc, .string ⟨ts[i].nd.text.toArray⟩, .slice ka ts[i].kids.length kc] 46)
      have hBr : ∀ j, B j → j < wr.heap.size := fun j hj => Nat.lt_of_lt_of_le (HBB.out j hj) HBW.out.size
      have HC := hide (HIH.out i hlt B _ (wr.alloc (.cells #[.int .i64 ts[i].nd.kind, .int .i64 ts[i].nd.space, .string ⟨ts[i].nd.name.toArray⟩, .slice xa xl xc, .string ⟨ts[i].nd.text.toArray⟩, .slice ka ts[i].kids.length kc] 46)) (fun j hj => Nat.lt_of_lt_of_le (hBr j hj) hba.size) (hk.below hBr hba))
      have HBX : Hid (∀ x, Below (wr.alloc (.cells #[.int .i64 ts[i].nd.kind, .int .i64 ts[i].nd.space, .string ⟨ts[i].nd.name.toArray⟩, .slice xa xl xc, .string ⟨ts[i].nd.text.toArray⟩, .slice ka ts[i].kids.length kc] 46)).heap.size (wr.alloc (.cells #[.int .i64 ts[i].nd.kind, .int .i64 ts[i].nd.space, .string ⟨ts[i].nd.name.toArray⟩, .slice xa xl xc, .string ⟨ts[i].nd.text.toArray⟩, .slice ka ts[i].kids.length kc] 46)) x → x.cell? ⟨wr.heap.size, 0, none⟩ = some (.int .i64 ts[i].nd.kind)) := hide (fun x b => by
        rw [b.cell (by simp)]
        simp [go_sem])
      clear hn1 hk hba hBr
      generalize deepTs ts[i].kids = ci at *
      generalize ts[i].kids.length = kl at *
      generalize hkd : ts[i].nd.kind = n0 at *
      generalize ts[i].nd.space = n1 at *
      generalize ts[i].nd.name.toArray = n2 at *
      generalize ts[i].nd.text.toArray = n3 at *
      have HTA2 := hide hta
      generalize hds : deepTs (ts.take i) = ds at *
      clear hta hkd
      by_cases hk1 : n0 = 1
      · subst hk1
        have HTT : Hid (deepTs (ts.take (i + 1)) = max ds (ci + 1)) := hide (by rw [HTA2.out, if_pos rfl])
        clear HTA2
        go_wp2_with fail
        refine HC.out.mono ?_
        rintro e x1 ⟨rfl, b1⟩
        have q0 := HBX.out _ b1
        have HBN := hide (HBW.out.trans ((two_below b1).mono HBW.out.size))
        clear b1 u0 u1 u2 u3 u4 u5
        go_wp2
        all_goals exact ⟨⟨i + 1, by go_num, by omega, by rw [HTT.out]; congr 1; omega, HBN⟩, by simp [intOf]; omega⟩
      · have HTT : Hid (deepTs (ts.take (i + 1)) = max ds ci) := hide (by rw [HTA2.out, if_neg hk1, Nat.add_zero])
        clear HTA2
        go_wp2_with fail
        refine HC.out.mono ?_
        rintro e x1 ⟨rfl, b1⟩
        have q0 := HBX.out _ b1
        have HBN := hide (HBW.out.trans ((two_below b1).mono HBW.out.size))
        clear b1 u0 u1 u2 u3 u4 u5
        go_wp2
        all_goals exact ⟨⟨i + 1, by go_num, by omega, by rw [HTT.out]; congr 1; omega, HBN⟩, by simp [intOf]; omega⟩
    · have hlt2 : ¬ (i : Int) < ts.length := by omega
      have hke : ts.take i = ts := List.take_of_length_le (by omega)
      rw [hke]
      clear hle hke
      go_wp2
      go_ret
      exact ⟨rfl, HBW.out⟩
theorem deepP_any : ∀ {k : Nat} (ts : List (NT k)), countTs ts ≤ 1000000 → DeepP ts
  | 0, ts, _ => by
    intro B va w hB h
    obtain ⟨rfl, h2⟩ := isK_zero h
    exact deepP_step ([] : List (NT 1)) (Nat.zero_le _) (Nat.zero_le _) (fun i hi => by simp at hi) B va w hB h2
  | k + 1, ts, h => deepP_step ts (Nat.le_trans (manyTs_len ts) h) h fun i hi => deepP_any _ (by
    have h1 := manyTs_take ts i hi
    have h2 := manyTs_le ts (i + 1)
    omega)
end Go.Proofs.YtpppdfjdngmaoaaGreatDoor.G8
namespace Go.Proofs.YtpppdfjdngmaoaaGreatDoor.G8
open Go.RowKit
open G5 (NT ND IsK IsNs IsN isN_iff eqT eqTs eqG cell_lt below_alloc hide)
theorem isQ_of {w : World} {v : Value} {aa : G5.AttrL} (h : G5.IsA w v aa) : S7.IsQ w v aa := by
  rcases h with ⟨h1, h2⟩ | ⟨b, o, cap, h1, h2, h3⟩
  · exact .inl ⟨h2, h1⟩
  · exact .inr ⟨b, o, cap, h1, h3⟩
theorem enters_same (a b : Value) (w : World) : (callFunc 26 #[a, b]).run Tryz.prog w = .ok (.enter 26 #[a, b]) w := by simp [go_sem]
def SameS2 {k j : Nat} (ts : List (NT k)) (us : List (NT j)) : Prop := ∀ (B : Nat → Prop) (va vb : Value) (w : World), (∀ k, B k → k < w.heap.size) → IsK B w ts va → IsK B w us vb → Calls Tryz.prog 11 #[va, vb] w fun e w' => e = .returned (.bool (eqTs ts us)) ∧ Below w.heap.size w w'
theorem str_eq (a b : ByteArray) : (a.toList == b.toList) = (a.data.toList == b.data.toList) := by rw [Lib.toList_data, Lib.toList_data]
def sameV (kd ke sp se : Int) (nm ne tx te : ByteArray) (A K : Bool) : Bool := kd == ke && sp == se && nm.toList == ne.toList && A && tx.toList == te.toList && K
theorem sameNode_two {k j : Nat} (ks : List (NT k)) (js : List (NT j)) (ih : SameS2 ks js) (kd ke sp se : Int) (nm ne tx te : ByteArray) (av bv kv jv : Value) (aa bb : G5.AttrL) (haa : aa.length ≤ 9223372036854775807) (hbb : bb.length ≤ 9223372036854775807) (B : Nat → Prop) (w : World) (hB : ∀ k, B k → k < w.heap.size) (hA : G5.IsA w av aa) (hA2 : G5.IsA w bv bb) (hK : IsK B w ks kv) (hK2 : IsK B w js jv) :
    Calls Tryz.prog 26 #[.agg #[.int .i64 kd, .int .i64 sp, .string nm, av, .string tx, kv], .agg #[.int .i64 ke, .int .i64 se, .string ne, bv, .string te, jv]] w fun e w' => e = .returned (.bool (sameV kd ke sp se nm ne tx te (decide (aa = bb)) (eqTs ks js))) ∧ Below w.heap.size w w' := by
  have HE := hide (fun x (b : Below w.heap.size w x) => S7.equal_g av bv aa bb haa hbb x (isQ_of (hA.below b)) (isQ_of (hA2.below b)))
  have HS := hide (fun x (b : Below w.heap.size w x) => ih B kv jv x (fun j hj => Nat.lt_of_lt_of_le (hB j hj) b.size) (hK.below hB b) (hK2.below hB b))
  obtain ⟨a1, c1, rfl⟩ := G5.isA_form hA
  obtain ⟨b1, d1, rfl⟩ := G5.isA_form hA2
  obtain ⟨a2, c2, rfl⟩ := isK_len hK
  obtain ⟨b2, d2, rfl⟩ := isK_len hK2
  clear hA hA2 hK hK2 ih hB
  generalize aa.length = al at *
  generalize bb.length = bl at *
  generalize decide (aa = bb) = AB at *
  generalize eqTs ks js = KB at *
  generalize ks.length = kl at *
  generalize js.length = jl at *
  have H0 : Hid (Below w.heap.size w ((w.alloc (.cells #[.int .i64 kd, .int .i64 sp, .string nm, .slice a1 al c1, .string tx, .slice a2 kl c2] 46)).alloc (.cells #[.int .i64 ke, .int .i64 se, .string ne, .slice b1 bl d1, .string te, .slice b2 jl d2] 46))) := hide (two_two (Below.refl _ _))
  have HB : Hid (∀ x, Below ((w.alloc (.cells #[.int .i64 kd, .int .i64 sp, .string nm, .slice a1 al c1, .string tx, .slice a2 kl c2] 46)).alloc (.cells #[.int .i64 ke, .int .i64 se, .string ne, .slice b1 bl d1, .string te, .slice b2 jl d2] 46)).heap.size ((w.alloc (.cells #[.int .i64 kd, .int .i64 sp, .string nm, .slice a1 al c1, .string tx, .slice a2 kl c2] 46)).alloc (.cells #[.int .i64 ke, .int .i64 se, .string ne, .slice b1 bl d1, .string te, .slice b2 jl d2] 46)) x → x.cell? ⟨w.heap.size, 5, none⟩ = some (.slice a2 kl c2) ∧ x.cell? ⟨w.heap.size + 1, 5, none⟩ = some (.slice b2 jl d2) ∧ Below w.heap.size w x) := hide (fun x b => by
    refine ⟨?_, ?_, two_two b⟩
    · rw [b.cell (by simp; omega), (below_alloc _ _).cell (by simp)]
      simp [go_sem]
    · rw [b.cell (by simp)]
      have := World.cell?_alloc_mark (w.alloc (.cells #[.int .i64 kd, .int .i64 sp, .string nm, .slice a1 al c1, .string tx, .slice a2 kl c2] 46)) #[.int .i64 ke, .int .i64 se, .string ne, .slice b1 bl d1, .string te, .slice b2 jl d2] 46 (0, 0) 5
      rw [World.size_alloc] at this
      exact this)
  unfold sameV
  cases e1 : (kd == ke)
  · go_enter Tryz.func26, Tryz.ntmps26
    go_wp2
    go_ret
    exact ⟨by simp [e1], H0.out⟩
  · skip
    cases e2 : (sp == se)
    · go_enter Tryz.func26, Tryz.ntmps26
      go_wp2
      go_ret
      exact ⟨by simp [e1, e2], H0.out⟩
    · skip
      cases e3 : (nm.toList == ne.toList)
      · go_enter Tryz.func26, Tryz.ntmps26
        go_wp2
        go_ret
        exact ⟨by simp [e1, e2, e3], H0.out⟩
      · skip
        cases e4 : (tx.toList == te.toList)
        · go_enter Tryz.func26, Tryz.ntmps26
          go_wp2
          go_ret
          exact ⟨by simp [e1, e2, e3, e4], H0.out⟩
        · skip
          cases AB
          · go_enter Tryz.func26, Tryz.ntmps26
            go_wp2_with fail
            refine (HE.out _ H0.out).mono ?_
            rintro e x1 ⟨rfl, b1⟩
            have BB1 := hide (two_two b1)
            clear b1
            go_wp2
            go_ret
            exact ⟨by simp [e1, e2, e3, e4], BB1.out⟩
          · go_enter Tryz.func26, Tryz.ntmps26
            go_wp2_with fail
            refine (HE.out _ H0.out).mono ?_
            rintro e x1 ⟨rfl, b1⟩
            obtain ⟨q1, q2, B1⟩ := HB.out _ b1
            have BB1 := hide B1
            clear b1 B1
            go_wp2_with fail
            refine (HS.out _ BB1.out).mono ?_
            rintro e x2 ⟨rfl, b2⟩
            have BB2 := hide (BB1.out.trans (b2.mono BB1.out.size))
            clear b2
            go_wp2
            go_ret
            exact ⟨by simp [e1, e2, e3, e4], BB2.out⟩
theorem same_nd (d e : ND) (A : Bool) (hA : A = decide (d.attrs = e.attrs)) (K : Bool) : sameV d.kind e.kind d.space e.space ⟨d.name.toArray⟩ ⟨e.name.toArray⟩ ⟨d.text.toArray⟩ ⟨e.text.toArray⟩ A K = (d.same e && K) := by
  subst hA
  unfold sameV G5.ND.same
  rw [str_eq, str_eq, G5.str_data, G5.str_data, G5.str_data, G5.str_data]
  have : decide (d.attrs = e.attrs) = (d.attrs == e.attrs) := by
    by_cases h : d.attrs = e.attrs
    · simp [h]
    · simp [h]
  rw [this]
theorem equalFunc_two {k j : Nat} (ts : List (NT (k + 1))) (us : List (NT (j + 1))) (hl : ts.length ≤ 9223372036854775807) (ha : ∀ t ∈ ts, t.nd.attrs.length ≤ 9223372036854775807) (ha2 : ∀ t ∈ us, t.nd.attrs.length ≤ 9223372036854775807) (ih : ∀ i (h : i < ts.length) (h2 : i < us.length), SameS2 ts[i].kids us[i].kids) (B : Nat → Prop) (va vb : Value) (w : World) (hB : ∀ k, B k → k < w.heap.size) (h1 : IsK B w ts va) (h2 : IsK B w us vb) (hlen : us.length = ts.length) :
    Calls Tryz.prog 25 #[va, vb, .func (.func 26) #[] #[]] w fun e w' => e = .returned (.bool (eqTs ts us)) ∧ Below w.heap.size w w' := by
  have H1 := hide h1
  have H2 := hide h2
  obtain ⟨a1, c1, rfl⟩ := isK_len h1
  obtain ⟨a2, c2, rfl⟩ := isK_len h2
  have HBB := hide hB
  have HIH := hide ih
  have HAL := hide ha
  have HAL2 := hide ha2
  have hent := enters_same
  have HR : Hid (eqG (fun x y => eqT x y) (ts.drop 0) (us.drop 0) = eqTs ts us) := hide rfl
  have HST := hide (fun i (h1 : i < ts.length) (h2 : i < us.length) => G5.eqG_drop (fun (x : NT (k + 1)) (y : NT (j + 1)) => eqT x y) ts us i h1 h2)
  generalize eqTs ts us = R at *
  rw [hlen] at H2 ⊢
  have HLEN := hide hlen
  clear h1 h2 ih hB ha ha2 hlen
  go_enter Tryz.func25, Tryz.ntmps25
  go_wp2
  go_loopw [17] (fun v4 wr => ∃ i : Nat, v4 = .int .i64 (i : Int) ∧ i ≤ ts.length ∧ Hid (eqG (fun x y => eqT x y) (ts.drop i) (us.drop i) = R) ∧ Hid (Below w.heap.size w wr)) (fun v4 _ => ts.length - (intOf v4).toNat)
  case atStart => exact ⟨0, rfl, by omega, HR, hide (Below.refl _ _)⟩
  case round =>
    obtain ⟨i, rfl, hi, HQ, HBW⟩ := hrel
    clear HR
    by_cases hlt : i < ts.length
    · have hlt2 : (i : Int) < ts.length := by omega
      have hlu : i < us.length := by rw [HLEN.out]; exact hlt
      have k1 := H1.out.below HBB.out HBW.out
      rcases k1 with ⟨_, h0⟩ | ⟨b1, o1, cap1, e1, _, _, hn1⟩
      · rw [h0] at hlt; simp at hlt
      have k2 := H2.out.below HBB.out HBW.out
      rcases k2 with ⟨_, h0⟩ | ⟨b2, o2, cap2, e2, _, _, hn2⟩
      · rw [h0] at hlu; simp at hlu
      injection e1 with e1 _ e1c
      subst e1 e1c
      injection e2 with e2 e2l e2c
      subst e2 e2c
      clear e2l
      obtain ⟨xa, xl, xc, ka, kc, u0, u1, u2, u3, u4, u5, hA, hk⟩ := kid_cells hn1 i hlt
      obtain ⟨ya, yl, yc, ja, jc, v0, v1, v2, v3, v4, v5, hA2, hk2⟩ := kid_cells hn2 i hlu
      have hBr : ∀ j, B j → j < wr.heap.size := fun j hj => Nat.lt_of_lt_of_le (HBB.out j hj) HBW.out.size
      have HC := hide (fun x (b : Below wr.heap.size wr x) => sameNode_two ts[i].kids us[i].kids (HIH.out i hlt hlu) ts[i].nd.kind us[i].nd.kind ts[i].nd.space us[i].nd.space ⟨ts[i].nd.name.toArray⟩ ⟨us[i].nd.name.toArray⟩ ⟨ts[i].nd.text.toArray⟩ ⟨us[i].nd.text.toArray⟩ (.slice xa xl xc) (.slice ya yl yc) (.slice ka ts[i].kids.length kc) (.slice ja us[i].kids.length jc) ts[i].nd.attrs us[i].nd.attrs (HAL.out _ (List.getElem_mem hlt)) (HAL2.out _ (List.getElem_mem hlu)) B x (fun j hj => Nat.lt_of_lt_of_le (hBr j hj) b.size) (hA.below b) (hA2.below b) (hk.below hBr b) (hk2.below hBr b))
      have HV : Hid (sameV ts[i].nd.kind us[i].nd.kind ts[i].nd.space us[i].nd.space ⟨ts[i].nd.name.toArray⟩ ⟨us[i].nd.name.toArray⟩ ⟨ts[i].nd.text.toArray⟩ ⟨us[i].nd.text.toArray⟩ (decide (ts[i].nd.attrs = us[i].nd.attrs)) (eqTs ts[i].kids us[i].kids) = eqT ts[i] us[i]) := hide (same_nd _ _ _ rfl _)
      rw [HV.out] at HC
      have HST2 := hide (HST.out i hlt hlu)
      clear hn1 hk hA hn2 hk2 hA2 hBr HV
      generalize eqT ts[i] us[i] = V at *
      generalize ts[i].kids.length = kl at *
      generalize ts[i].nd.kind = n0 at *
      generalize ts[i].nd.space = n1 at *
      generalize ts[i].nd.name.toArray = n2 at *
      generalize ts[i].nd.text.toArray = n3 at *
      generalize us[i].kids.length = jl at *
      generalize us[i].nd.kind = p0 at *
      generalize us[i].nd.space = p1 at *
      generalize us[i].nd.name.toArray = p2 at *
      generalize us[i].nd.text.toArray = p3 at *
      have hbl : b1 < wr.heap.size := cell_lt u0
      have hbl2 : b2 < wr.heap.size := cell_lt v0
      cases V
      · have HF : Hid (R = false) := hide (by rw [← HQ.out, HST2.out]; rfl)
        clear HQ HST2
        go_wp2_with fail
        refine (HC.out _ (two_two (Below.refl _ _))).mono ?_
        rintro e x1 ⟨rfl, b1⟩
        have HBN := hide (HBW.out.trans ((two_two b1).mono HBW.out.size))
        clear b1 u0 u1 u2 u3 u4 u5 v0 v1 v2 v3 v4 v5
        go_wp2
        go_ret
        exact ⟨by rw [HF.out]; rfl, HBN.out⟩
      · have HN : Hid (eqG (fun x y => eqT x y) (ts.drop (i + 1)) (us.drop (i + 1)) = R) := hide (by rw [← HQ.out, HST2.out, Bool.true_and])
        clear HQ HST2
        go_wp2_with fail
        refine (HC.out _ (two_two (Below.refl _ _))).mono ?_
        rintro e x1 ⟨rfl, b1⟩
        have HBN := hide (HBW.out.trans ((two_two b1).mono HBW.out.size))
        clear b1 u0 u1 u2 u3 u4 u5 v0 v1 v2 v3 v4 v5
        go_wp2
        go_roundw
        case rel => exact ⟨i + 1, by go_num, by omega, HN, HBN⟩
        case measure => simp [intOf]; omega
    · have hlt2 : ¬ (i : Int) < ts.length := by omega
      have HF : Hid (R = true) := hide (by
        rw [← HQ.out, List.drop_of_length_le (by omega), List.drop_of_length_le (by rw [HLEN.out]; omega)]
        rfl)
      clear HQ
      go_wp2
      go_ret
      exact ⟨by rw [HF.out]; rfl, HBW.out⟩
theorem equalFunc_len {k j : Nat} (ts : List (NT k)) (us : List (NT j)) (hl : ts.length ≤ 9223372036854775807) (hl2 : us.length ≤ 9223372036854775807) (B : Nat → Prop) (va vb : Value) (w : World) (h1 : IsK B w ts va) (h2 : IsK B w us vb) (hlen : ts.length ≠ us.length) :
    Calls Tryz.prog 25 #[va, vb, .func (.func 26) #[] #[]] w fun e w' => e = .returned (.bool (eqTs ts us)) ∧ Below w.heap.size w w' := by
  obtain ⟨a1, c1, rfl⟩ := isK_len h1
  obtain ⟨a2, c2, rfl⟩ := isK_len h2
  have hf : eqTs ts us = false := G5.eqG_len _ _ _ hlen
  rw [hf]
  have e1 : ((ts.length : Int) != (us.length : Int)) = true := bne_iff_ne.2 (by omega)
  have e2 : ((ts.length : Int) == (us.length : Int)) = false := beq_eq_false_iff_ne.2 (by omega)
  have e3 : ¬ (ts.length : Int) = us.length := by omega
  clear h1 h2 hf
  go_enter Tryz.func25, Tryz.ntmps25
  go_wp2
  go_ret
  exact ⟨rfl, Below.refl _ _⟩
theorem same_of {k j : Nat} (ts : List (NT k)) (us : List (NT j)) (H0 : ∀ (B : Nat → Prop) (va vb : Value) (w : World), (∀ k, B k → k < w.heap.size) → IsK B w ts va → IsK B w us vb → Calls Tryz.prog 25 #[va, vb, .func (.func 26) #[] #[]] w fun e w' => e = .returned (.bool (eqTs ts us)) ∧ Below w.heap.size w w') : SameS2 ts us := by
  intro B va vb w hB h1 h2
  have H := hide (H0 B va vb w hB h1 h2)
  obtain ⟨a1, c1, rfl⟩ := isK_len h1
  obtain ⟨a2, c2, rfl⟩ := isK_len h2
  generalize eqTs ts us = R at *
  clear h1 h2 hB H0
  have hmf : ∀ (fn : Fn) (first cap : Array Value) (w : World), (Instr.makeFunc fn first cap).run Tryz.prog w = .ok (.func fn first cap) w := fun _ _ _ _ => rfl
  go_enter Tryz.func11, Tryz.ntmps11
  go_wp2_with fail
  refine H.out.mono ?_
  rintro e x1 ⟨rfl, b1⟩
  go_wp2
  go_ret
  exact ⟨rfl, b1⟩
theorem same_all : ∀ {k : Nat} (ts : List (NT k)) {j : Nat} (us : List (NT j)), ts.length ≤ 9223372036854775807 → us.length ≤ 9223372036854775807 → G5.OkTs ts → G5.OkTs us → SameS2 ts us
  | 0, ts, 0, us, _, _, _, _ => by
    refine same_of ts us fun B va vb w hB h1 h2 => ?_
    obtain ⟨rfl, h1'⟩ := isK_zero h1
    obtain ⟨rfl, h2'⟩ := isK_zero h2
    exact equalFunc_two ([] : List (NT 1)) ([] : List (NT 1)) (Nat.zero_le _) (fun t ht => by simp at ht) (fun t ht => by simp at ht) (fun i hi => by simp at hi) B va vb w hB h1' h2' rfl
  | 0, ts, j + 1, us, hl, hl2, _, ho => by
    refine same_of ts us fun B va vb w hB h1 h2 => ?_
    by_cases hlen : ts.length = us.length
    · obtain ⟨rfl, h1'⟩ := isK_zero h1
      obtain rfl : us = [] := List.eq_nil_of_length_eq_zero (by simpa using hlen.symm)
      exact equalFunc_two ([] : List (NT 1)) ([] : List (NT (j + 1))) (Nat.zero_le _) (fun t ht => by simp at ht) (fun t ht => by simp at ht) (fun i hi => by simp at hi) B va vb w hB h1' h2 rfl
    · exact equalFunc_len ts us hl hl2 B va vb w h1 h2 hlen
  | k + 1, ts, 0, us, hl, hl2, ho, _ => by
    refine same_of ts us fun B va vb w hB h1 h2 => ?_
    by_cases hlen : ts.length = us.length
    · obtain ⟨rfl, h2'⟩ := isK_zero h2
      obtain rfl : ts = [] := List.eq_nil_of_length_eq_zero (by simpa using hlen)
      exact equalFunc_two ([] : List (NT (k + 1))) ([] : List (NT 1)) (Nat.zero_le _) (fun t ht => by simp at ht) (fun t ht => by simp at ht) (fun i hi => by simp at hi) B va vb w hB h1 h2' rfl
    · exact equalFunc_len ts us hl hl2 B va vb w h1 h2 hlen
  | k + 1, ts, j + 1, us, hl, hl2, ho, ho2 => by
    refine same_of ts us fun B va vb w hB h1 h2 => ?_
    by_cases hlen : ts.length = us.length
    · exact equalFunc_two ts us hl (fun t ht => (ho t ht).1) (fun t ht => (ho2 t ht).1) (fun i h h2 => same_all _ _ (ho _ (List.getElem_mem h)).2.1 (ho2 _ (List.getElem_mem h2)).2.1 (ho _ (List.getElem_mem h)).2.2 (ho2 _ (List.getElem_mem h2)).2.2) B va vb w hB h1 h2 hlen.symm
    · exact equalFunc_len ts us hl hl2 B va vb w h1 h2 hlen
end Go.Proofs.YtpppdfjdngmaoaaGreatDoor.G8
