import Derived.Test.YteccmjngdibeoaaGreatDoorKp05
import Derived.Test.YteccmjngdibeoaaGreatDoorKp18
import Derived.Test.YteccmjngdibeoaaGreatDoorKp19
import Derived.Test.YteccmjngdibeoaaGreatDoorKp29
import Derived.Test.YteccmjngdibeoaaGreatDoorKp30
import Derived.Test.YteccmjngdibeoaaGreatDoorKp31
import Derived.Test.YteccmjngdibeoaaGreatDoorKp34
import Derived.Test.YteccmjngdibeoaaGreatDoorKp43
import Derived.Test.YteccmjngdibeoaaGreatDoorKp44
set_option linter.unusedVariables false
set_option linter.unusedSimpArgs false
set_option maxRecDepth 4000
namespace Go.Proofs.YteccmjngdibeoaaGreatDoor
open Go.RowKit
open S5 (ButA andNew PT IsA cell_lt below_alloc hide below_drewN)
variable {O : Nat → Prop} {n : Nat} {w W : World} {bb : Nat} {s : PB} {c : Nat}
def tvOf (t : S4.Tok) (sv : Value) : TV := ⟨(t.kind : Int), ⟨t.name.toArray⟩, t.attrs, sv, t.closed, ⟨t.text.toArray⟩⟩
def nxt (m : BS) (r : Bs) : S4.Tok × Bs := S4.nextR m.mode m.name (!((curB m).sp == 0)) r
def StepOk (Q : BS → Bs → Prop) : Prop := ∀ (m : BS) (r : Bs) (s : PB) (sv : Value) (n bb c : Nat), Q m r → m.e = 0 → Rel0 s m → s.e = 0 → s.nm.size ≤ 20000 → PInv c s → c ≤ 250000000 → r.length ≤ 20000 → (nxt m r).1.kind ≠ 0 →
  ∃ S, BC 43 n bb (tvOf (nxt m r).1 sv) s S ∧ Rel S (takeB m (nxt m r).1) ∧ PInv (c + 50000) S ∧ S.nm.size ≤ 20000 ∧ ((takeB m (nxt m r).1).e = 0 → Q (takeB m (nxt m r).1) (nxt m r).2)
def Run8 (n0 : Nat) (w0 : World) (bb : Nat) (Q : BS → Bs → Prop) (l : Bs) (M : BS) (p : Nat) (x : World) : Prop :=
  ∃ (m : BS) (s : PB) (O : Nat → Prop) (n : Nat), p ≤ l.length ∧ IsB O n x bb s ∧ (∀ k, O k → n0 ≤ k ∧ k < x.heap.size) ∧ Rel s m ∧ (m.e = 0 → Q m (l.drop p)) ∧ PInv (50000 * p) s ∧ s.nm.size ≤ 20000 ∧ runB ((l.drop p).length + 1) m (l.drop p) = M ∧ Below n0 w0 x
theorem runB_end (k : Nat) (m : BS) (r : Bs) (h : m.e ≠ 0) : runB k m r = m := by
  cases k with
  | zero => rfl
  | succ k => rw [runB, if_pos h]
theorem nxt_short (m : BS) (r : Bs) (h : (nxt m r).1.kind ≠ 0) : (nxt m r).2.length < r.length := by
  by_cases h0 : r = []
  · subst h0
    exact absurd (by unfold nxt; rw [S4.nextR_nil]) h
  · exact (S4.next_good _ _ _ r h0).short
theorem run_stepP (k : Nat) (m : BS) (r : Bs) (he : m.e = 0) : runB (k + 1) m r = if (nxt m r).1.kind = 0 then m else runB k (takeB m (nxt m r).1) (nxt m r).2 := by
  rw [runB, if_neg (by simpa using he)]
  rfl
theorem run_more : ∀ (k : Nat) (r : Bs) (m : BS), r.length < k → runB (k + 1) m r = runB k m r
  | 0, r, m, h => by omega
  | k + 1, r, m, h => by
    by_cases he : m.e = 0
    · rw [run_stepP (k + 1) m r he, run_stepP k m r he]
      split
      · rfl
      · rename_i hk
        have := nxt_short m r hk
        exact run_more k _ _ (by omega)
    · rw [runB_end _ _ _ he, runB_end _ _ _ he]
theorem run_enough (r : Bs) (m : BS) : ∀ d : Nat, runB (r.length + 1 + d) m r = runB (r.length + 1) m r
  | 0 => rfl
  | d + 1 => by
    rw [show r.length + 1 + (d + 1) = (r.length + 1 + d) + 1 by omega, run_more _ r m (by omega)]
    exact run_enough r m d
theorem IsB.raise (h : IsB O n w bb s) {n' : Nat} (h1 : n ≤ n') (h2 : n' ≤ w.heap.size) : IsB O n' w bb s := by
  obtain ⟨pb, og, cap, mv, A, h⟩ := h
  exact ⟨pb, og, cap, mv, A, { h with attL := fun m hm h0 k e => ⟨Nat.lt_of_lt_of_le (h.attL m hm h0 k e).1 h1, (h.attL m hm h0 k e).2⟩, nL := h2 }⟩
abbrev tok0W (w : World) : World := w.alloc (.cells #[.int .i64 0, .string ⟨#[]⟩, .slice none 0 0, .bool false, .string ⟨#[]⟩] 64)
theorem tok0_box (w : World) {x : World} (h : Below (tok0W w).heap.size (tok0W w) x) : (x.cell? ⟨w.heap.size, 0, none⟩ = some (.int .i64 0) ∧ x.cell? ⟨w.heap.size, 1, none⟩ = some (.string ⟨#[]⟩) ∧ x.cell? ⟨w.heap.size, 2, none⟩ = some (.slice none 0 0) ∧ x.cell? ⟨w.heap.size, 3, none⟩ = some (.bool false) ∧ x.cell? ⟨w.heap.size, 4, none⟩ = some (.string ⟨#[]⟩)) ∧ (∀ j, x.frozen? ⟨w.heap.size, j, none⟩ = false) ∧ Below w.heap.size w x := by
  refine ⟨⟨?_, ?_, ?_, ?_, ?_⟩, fun j => ?_, two_below h⟩
  · rw [h.cell (by simp)]; simp [go_sem]
  · rw [h.cell (by simp)]; simp [go_sem]
  · rw [h.cell (by simp)]; simp [go_sem]
  · rw [h.cell (by simp)]; simp [go_sem]
  · rw [h.cell (by simp)]; simp [go_sem]
  · rw [h.frozen (p := ⟨w.heap.size, j, none⟩) (by simp)]; exact (World.frozen?_alloc_mark w _ _ 0 0 j).trans (by simp)
abbrev set5W (x : World) (g : Nat) (a b c d e : Value) : World := ((((x.setCell ⟨g, 0, none⟩ a).setCell ⟨g, 1, none⟩ b).setCell ⟨g, 2, none⟩ c).setCell ⟨g, 3, none⟩ d).setCell ⟨g, 4, none⟩ e
theorem set5_other (x : World) (g : Nat) (a b c d e : Value) (k : Nat) (hk : k ≠ g) : (set5W x g a b c d e).heap[k]? = x.heap[k]? := by
  unfold set5W
  rw [Below.heap_setCell _ _ _ _ hk, Below.heap_setCell _ _ _ _ hk, Below.heap_setCell _ _ _ _ hk, Below.heap_setCell _ _ _ _ hk, Below.heap_setCell _ _ _ _ hk]
theorem set5_below {w x : World} {B g : Nat} (h : Below B w x) (hg : B ≤ g) (a b c d e : Value) : Below B w (set5W x g a b c d e) :=
  ((((h.setCell (p := ⟨g, 0, none⟩) hg _).setCell (p := ⟨g, 1, none⟩) hg _).setCell (p := ⟨g, 2, none⟩) hg _).setCell (p := ⟨g, 3, none⟩) hg _).setCell (p := ⟨g, 4, none⟩) hg _
theorem below_env {n0 : Nat} (hn : 2 ≤ n0) {w0 x : World} (hz : n0 ≤ w0.heap.size) (he : S4.Env w0) (hb : Below n0 w0 x) : S4.Env x := he.keep (hb.block 0 (by omega)) (hb.block 1 (by omega))
set_option maxRecDepth 50000 in
set_option maxHeartbeats 8000000 in
theorem takeAll_p (Q : BS → Bs → Prop) (hQ : StepOk Q) (T : ByteArray) (hT : T.size ≤ 4096) (n0 : Nat) (hn : 2 ≤ n0) (hz : n0 ≤ w.heap.size) (he : S4.Env w) (M : BS) (h0 : Run8 n0 w bb Q T.data.toList M 0 w) :
    Calls Tryz.prog 23 #[bP bb, .string T] w fun e w' => e = .returned (.tuple #[]) ∧ (∃ S O n, IsB O n w' bb S ∧ (∀ k, O k → n0 ≤ k ∧ k < w'.heap.size) ∧ Rel S M ∧ PInv 250000000 S) ∧ Below n0 w w' := by
  have HE := hide he
  have H0 := hide h0
  have HQ := hide hQ
  have hTl : T.size = T.data.toList.length := S5.size_list T
  clear he h0 hQ
  go_enter Tryz.func23, Tryz.ntmps23
  go_wp2
  go_loopw [4] (fun at_ wr => ∃ p : Nat, at_ = .int .i64 (p : Int) ∧ Hid (Run8 n0 w bb Q T.data.toList M p wr)) (fun at_ _ => T.size - (intOf at_).toNat)
  case atStart => exact ⟨0, rfl, H0⟩
  case round =>
    obtain ⟨p, rfl, HR⟩ := hrel
    generalize wr = wx at *
    obtain ⟨m, s, O, n, hp, hIs, hO, hRel, hQm, hI, hnm, hrun, hbel⟩ := HR.out
    have hL := hI.opL
    have hbx := hIs.bL
    have hnx := hIs.nL
    by_cases hme : m.e = 0
    · have hR0 := hRel.2 hme
      have hse : s.e = 0 := hRel.1.trans hme
      obtain ⟨r0, hr0⟩ := hI.hd
      have hmne : m.op ≠ [] := fun e => by have := hR0.op; rw [e, hr0] at this; simp [vs] at this
      have hcur := cur_rel hR0 hmne
      have eN : S4.nextZ s.mo s.nm.data.toList ((curP s).sp != 0) T.data.toList (p : Int) = nxt m (T.data.toList.drop p) := by
        rw [S4.nextZ_le _ _ _ _ _ hp, hcur]
        unfold nxt
        have e1 : ((curB m).v.sp != 0) = !((curB m).sp == 0) := rfl
        rw [e1, hR0.mo]
        by_cases h0 : m.mode = 0
        · rw [h0]; exact nextR_name _ _ _ _
        · rw [hR0.nm h0]
      have HC := hide (fun x (b : Below wx.heap.size wx x) => current_p (hIs.below b) hI.ne (by omega))
      have HF := hide (foreign_p (curP s))
      have HNx := hide (fun x (b : Below wx.heap.size wx x) => S4.pnext_any T s.nm (by omega) hnm (p : Int) s.mo ((curP s).sp != 0) x (below_env hn hz HE.out (hbel.trans (b.mono (Nat.le_trans hz hbel.size)))))
      rw [eN] at HNx
      have HCS : Hid (∀ x, Below wx.heap.size wx x → x.cell? ⟨bb, 8, none⟩ = some (.int .i64 0) ∧ x.cell? ⟨bb, 4, none⟩ = some (.int .i64 s.mo) ∧ x.cell? ⟨bb, 5, none⟩ = some (.string s.nm)) := hide (fun x b => by
        obtain ⟨pb, og, cap, mv, A, v⟩ := hIs.below b
        have g8 := v.cs 8 (by omega)
        have g4 := v.cs 4 (by omega)
        have g5 := v.cs 5 (by omega)
        simp only [fv, List.getElem?_cons_succ, List.getElem?_cons_zero, hse] at g8 g4 g5
        exact ⟨g8, g4, g5⟩)
      obtain ⟨e8, _, _⟩ := HCS.out wx (Below.refl _ _)
      generalize curP s = C at *
      generalize hfb : (C.sp != 0) = fb at *
      generalize hNN : nxt m (T.data.toList.drop p) = NN at *
      obtain ⟨X0, hX0⟩ : ∃ X0, X0 = wx.alloc (.cells #[.int .i64 0, .string ⟨#[]⟩, .slice none 0 0, .bool false, .string ⟨#[]⟩] 64) := ⟨_, rfl⟩
      have KF : Hid (∀ x, Below X0.heap.size X0 x → (x.cell? ⟨bb, 4, none⟩ = some (.int .i64 s.mo) ∧ x.cell? ⟨bb, 5, none⟩ = some (.string s.nm)) ∧ Below wx.heap.size wx x) := hide (fun x b => by
        rw [hX0] at b
        have hb := two_below b
        exact ⟨(HCS.out x hb).2, hb⟩)
      have KB : Hid (∀ x, Below X0.heap.size X0 x → (x.cell? ⟨wx.heap.size, 0, none⟩ = some (.int .i64 0) ∧ x.cell? ⟨wx.heap.size, 1, none⟩ = some (.string ⟨#[]⟩) ∧ x.cell? ⟨wx.heap.size, 2, none⟩ = some (.slice none 0 0) ∧ x.cell? ⟨wx.heap.size, 3, none⟩ = some (.bool false) ∧ x.cell? ⟨wx.heap.size, 4, none⟩ = some (.string ⟨#[]⟩)) ∧ (∀ j, x.frozen? ⟨wx.heap.size, j, none⟩ = false)) := hide (fun x b => by
        rw [hX0] at b
        exact ⟨(tok0_box wx b).1, (tok0_box wx b).2.1⟩)
      have KS : Hid (∀ x a b c d e, Below X0.heap.size X0 x → (set5W x wx.heap.size a b c d e).cell? ⟨bb, 4, none⟩ = some (.int .i64 s.mo) ∧ (set5W x wx.heap.size a b c d e).cell? ⟨bb, 5, none⟩ = some (.string s.nm)) := hide (fun x a b c d e hb => by
        obtain ⟨⟨g4, g5⟩, _⟩ := KF.out x hb
        have hk := set5_other x wx.heap.size a b c d e bb (by omega)
        exact ⟨S5.cell_same hk g4, S5.cell_same hk g5⟩)
      have DD := hide (Below.refl X0.heap.size X0).drew
      obtain ⟨⟨tk, tn, ta, tc, tt⟩, rest⟩ := NN
      have HNx2 : Hid (∀ x, Below wx.heap.size wx x → Calls Tryz.prog 40 #[.string T, .int .i64 (p : Int), .int .i64 s.mo, .string s.nm, .bool fb] x fun e x3 => ∃ sa sl sc, (IsA x3 (.slice sa sl sc) ta ∧ (∀ k, (Value.slice sa sl sc).ownBlock = some k → x.heap.size ≤ k) ∧ Below x.heap.size x x3) ∧ e = .returned (.tuple #[.agg #[.int .i64 (tk : Int), .string ⟨tn.toArray⟩, .slice sa sl sc, .bool tc, .string ⟨tt.toArray⟩], .int .i64 ((T.size - rest.length : Nat) : Int)])) := hide (fun x b => (HNx.out x b).mono (by
        rintro e x3 ⟨⟨sv, hA, hk, rfl⟩, b3⟩
        obtain ⟨sa, sc, rfl⟩ := S5.isA_form (hA : S5.IsA x3 sv ta)
        exact ⟨sa, _, sc, ⟨hA, hk, b3⟩, rfl⟩))
      clear HNx
      have hXs : wx.heap.size < X0.heap.size := by rw [hX0]; simp
      have HBL := hide hbel
      by_cases hk0 : tk = 0
      · subst hk0
        have hM : m = M := by
          rw [← hrun, run_stepP _ m _ hme, hNN]
          simp
        have HFin : Hid (∀ y, Below wx.heap.size wx y → (∃ S O n, IsB O n y bb S ∧ (∀ k, O k → n0 ≤ k ∧ k < y.heap.size) ∧ Rel S M ∧ PInv 250000000 S) ∧ Below n0 w y) := hide (fun y b => ⟨⟨s, O, n, hIs.below b, fun k hk => ⟨(hO k hk).1, Nat.lt_of_lt_of_le (hO k hk).2 b.size⟩, hM ▸ hRel, hI.up (by omega)⟩, hbel.trans (b.mono (Nat.le_trans hz hbel.size))⟩)
        clear hrun hQm HR hIs hRel hbel hNN eN hM hcur hfb hTl hr0 hse hme hmne hp
        go_wp2_with fail
        rw [← hX0]
        clear hX0
        go_region_held2 (fun W' => W'.cell? ⟨bb, 4, none⟩ = some (.int .i64 s.mo) ∧ W'.cell? ⟨bb, 5, none⟩ = some (.string s.nm)) (first | with_reducible exact (KF.out _ DD.out).1 | with_reducible exact (KF.out _ B1.out).1 | with_reducible exact (KF.out _ B2.out).1 | with_reducible exact (KF.out _ B3.out).1 | with_reducible exact KS.out _ _ _ _ _ _ B3.out) (first | (go_at_call 42; refine (HC.out _ (KF.out _ DD.out).2).mono ?_; rintro e x1 ⟨rfl, b1⟩; have B1 := hide (DD.out.trans b1); clear b1) | (go_at_call 41; refine (HF.out _).mono ?_; rintro e x2 ⟨rfl, b2⟩; have B2 := hide (B1.out.trans (b2.mono B1.out.size)); clear b2) | (go_at_call 40; refine (HNx2.out _ (KF.out _ B2.out).2).mono ?_; rintro e x3 ⟨sa, sl, sc, hh, rfl⟩; have B3 := hide (B2.out.trans (hh.2.2.mono B2.out.size)); have HH := hide hh; obtain ⟨⟨q0, q1, q2, q3, q4⟩, qf⟩ := KB.out _ B3.out; have f0 := qf 0; have f1 := qf 1; have f2 := qf 2; have f3 := qf 3; have f4 := qf 4; clear hh qf))
        go_wp2
        refine bodyPost_ret (results_none rfl _ _ _) rfl ?_
        have hY := set5_below (KF.out _ B3.out).2 (Nat.le_refl _) (.int .i64 0) (.string ⟨tn.toArray⟩) (.slice sa sl sc) (.bool tc) (.string ⟨tt.toArray⟩)
        exact ⟨rfl, HFin.out _ hY⟩
      · have hk1 : ((tk : Int) == 0) = false := by
          rw [beq_eq_false_iff_ne]
          omega
        have HTAKE : Hid (∀ x x3 sa sl sc, Below X0.heap.size X0 x → (IsA x3 (.slice sa sl sc) ta ∧ (∀ k, (Value.slice sa sl sc).ownBlock = some k → x.heap.size ≤ k) ∧ Below x.heap.size x x3) → Calls Tryz.prog 43 #[bP bb, .agg #[.int .i64 (tk : Int), .string ⟨tn.toArray⟩, .slice sa sl sc, .bool tc, .string ⟨tt.toArray⟩]] (set5W x3 wx.heap.size (.int .i64 (tk : Int)) (.string ⟨tn.toArray⟩) (.slice sa sl sc) (.bool tc) (.string ⟨tt.toArray⟩)) fun e y => e = .returned (.tuple #[]) ∧ (Run8 n0 w bb Q T.data.toList M (T.size - rest.length) y ∧ p < T.size - rest.length)) := hide (by
          intro x x3 sa sl sc bx ⟨hA, hsk, b3⟩
          have bY := set5_below (KF.out x3 (bx.trans (b3.mono bx.size))).2 (Nat.le_refl _) (.int .i64 (tk : Int)) (.string ⟨tn.toArray⟩) (.slice sa sl sc) (.bool tc) (.string ⟨tt.toArray⟩)
          have hYs : (set5W x3 wx.heap.size (.int .i64 (tk : Int)) (.string ⟨tn.toArray⟩) (.slice sa sl sc) (.bool tc) (.string ⟨tt.toArray⟩)).heap.size = x3.heap.size := by simp [set5W, World.setCell]
          have hoth := set5_other x3 wx.heap.size (.int .i64 (tk : Int)) (.string ⟨tn.toArray⟩) (.slice sa sl sc) (.bool tc) (.string ⟨tt.toArray⟩)
          generalize set5W x3 wx.heap.size (.int .i64 (tk : Int)) (.string ⟨tn.toArray⟩) (.slice sa sl sc) (.bool tc) (.string ⟨tt.toArray⟩) = Y at *
          have hsz : wx.heap.size < x.heap.size := Nat.lt_of_lt_of_le hXs bx.size
          have hne : (nxt m (T.data.toList.drop p)).1.kind ≠ 0 := by rw [hNN]; exact hk0
          have hrl : (T.data.toList.drop p).length ≤ 20000 := by rw [List.length_drop]; omega
          obtain ⟨S, hBC, hRS, hIS, hnS, hQS⟩ := HQ.out m (T.data.toList.drop p) s (.slice sa sl sc) Y.heap.size bb (50000 * p) (hQm hme) hme hR0 hse hnm hI (by omega) hrl hne
          rw [hNN] at hBC hRS hQS
          have hsh := nxt_short m _ hne
          rw [hNN] at hsh
          simp only [List.length_drop] at hsh
          have hA2 : IsA Y (.slice sa sl sc) ta := isA_keep' hA fun _ k e => hoth k (by have := hsk k e; omega)
          have hfew : ta.length ≤ 1000000 := by
            have := S4.nextR_few m.mode m.name (!((curB m).sp == 0)) (T.data.toList.drop p)
            have e : S4.nextR m.mode m.name (!((curB m).sp == 0)) (T.data.toList.drop p) = _ := hNN
            rw [e] at this
            have h2 : ta.length ≤ (T.data.toList.drop p).length := this
            omega
          have hTok : TOk O Y.heap.size Y (tvOf ⟨tk, tn, ta, tc, tt⟩ (.slice sa sl sc)) := ⟨⟨hA2, fun h0 k e => ⟨by
              rcases hA2 with ⟨_, e2⟩ | ⟨b, o, cap, e1, _, hc⟩
              · exact absurd e2 h0
              · have e' : (Value.slice sa sl sc).ownBlock = some k := e
                have : b = k := by rw [e1] at e'; simpa [Value.ownBlock] using e'
                rw [← this]
                exact cell_lt (hc 0 (List.length_pos_iff.2 h0)).1, fun ho => by have := (hO k ho).2; have := hsk k e; omega⟩⟩, hfew⟩
          refine (hBC O Y ((hIs.below bY).raise (Nat.le_trans hnx bY.size) (Nat.le_refl _)) hTok).mono ?_
          rintro e y ⟨rfl, d⟩
          have hdrop : T.data.toList.drop (T.size - rest.length) = rest := by
            have := S4.nextR_back m.mode m.name (!((curB m).sp == 0)) T p (by omega)
            have e : S4.nextR m.mode m.name (!((curB m).sp == 0)) (T.data.toList.drop p) = _ := hNN
            rw [e] at this
            exact this.1
          refine ⟨rfl, ⟨takeB m ⟨tk, tn, ta, tc, tt⟩, S, fun k => andNew O Y.heap.size k ∧ k < y.heap.size, Y.heap.size, by omega, d.1.tight, fun k hk => ⟨?_, hk.2⟩, hRS, fun he => by rw [hdrop]; exact hQS he, hIS.up (by omega), hnS, ?_, ?_⟩, by omega⟩
          · rcases hk.1 with h1 | h1
            · exact (hO k h1).1
            · have := bY.size
              have := hbel.size
              omega
          · rw [hdrop, ← hrun, run_stepP _ m _ hme, hNN, if_neg hk0]
            obtain ⟨dd, hdd⟩ : ∃ dd, (T.data.toList.drop p).length = rest.length + 1 + dd := ⟨(T.data.toList.drop p).length - (rest.length + 1), by simp only [List.length_drop]; omega⟩
            rw [hdd]
            exact (run_enough rest _ dd).symm
          · have h1 : Below n0 w Y := hbel.trans (bY.mono (Nat.le_trans hz hbel.size))
            exact h1.trans (d.2.1.below (fun k hk => (hO k hk).1) (Nat.le_trans hz h1.size)))
        clear hrun hQm HR hIs hRel hbel hNN eN HQ hR0 hI hcur hfb hTl hr0 hse hme hmne hp
        go_wp2_with fail
        rw [← hX0]
        clear hX0
        go_region_held2 (fun W' => W'.cell? ⟨bb, 4, none⟩ = some (.int .i64 s.mo) ∧ W'.cell? ⟨bb, 5, none⟩ = some (.string s.nm)) (first | with_reducible exact (KF.out _ DD.out).1 | with_reducible exact (KF.out _ B1.out).1 | with_reducible exact (KF.out _ B2.out).1 | with_reducible exact (KF.out _ B3.out).1 | with_reducible exact KS.out _ _ _ _ _ _ B3.out) (first | (go_at_call 42; refine (HC.out _ (KF.out _ DD.out).2).mono ?_; rintro e x1 ⟨rfl, b1⟩; have B1 := hide (DD.out.trans b1); clear b1) | (go_at_call 41; refine (HF.out _).mono ?_; rintro e x2 ⟨rfl, b2⟩; have B2 := hide (B1.out.trans (b2.mono B1.out.size)); clear b2) | (go_at_call 40; refine (HNx2.out _ (KF.out _ B2.out).2).mono ?_; rintro e x3 ⟨sa, sl, sc, hh, rfl⟩; have B3 := hide (B2.out.trans (hh.2.2.mono B2.out.size)); have HH := hide hh; obtain ⟨⟨q0, q1, q2, q3, q4⟩, qf⟩ := KB.out _ B3.out; have f0 := qf 0; have f1 := qf 1; have f2 := qf 2; have f3 := qf 3; have f4 := qf 4; clear hh qf))
        go_wp2_with fail
        refine (HTAKE.out _ _ _ _ _ B2.out HH.out).mono ?_
        rintro e y ⟨rfl, hRun, hlt⟩
        have HRun := hide hRun
        clear hRun
        go_wp2
        exact ⟨⟨_, rfl, HRun⟩, by simp [intOf]; omega⟩
    · have hse : ¬ s.e = 0 := fun e => hme (hRel.1.symm.trans e)
      have e8 : wx.cell? ⟨bb, 8, none⟩ = some (.int .i64 s.e) := by
        obtain ⟨pb, og, cap, mv, A, v⟩ := hIs
        exact v.cs 8 (by omega)
      have HFin : Hid (∃ S O n, IsB O n wx bb S ∧ (∀ k, O k → n0 ≤ k ∧ k < wx.heap.size) ∧ Rel S M ∧ PInv 250000000 S) := hide ⟨s, O, n, hIs, hO, by rw [runB_end _ _ _ hme] at hrun; rw [← hrun]; exact hRel, hI.up (by omega)⟩
      generalize s.e = q at *
      have BL := hide hbel
      clear hrun hQm HR hIs hRel hbel
      go_wp2
      go_end0
      exact ⟨rfl, HFin.out, BL.out⟩
end Go.Proofs.YteccmjngdibeoaaGreatDoor
set_option linter.unusedVariables false
set_option linter.unusedSimpArgs false
set_option maxRecDepth 4000
namespace Go.Proofs.YteccmjngdibeoaaGreatDoor
open Go.RowKit
open S5 (ButA andNew PT IsA cell_lt below_alloc hide below_drewN)
variable {O : Nat → Prop} {n : Nat} {w W : World} {bb : Nat} {s : PB} {c : Nat}
def startP : PB := ⟨S5.newL, [rootV], [], 0, 0, ⟨#[]⟩, false, false, 0⟩
abbrev startW (w1 : World) (pb : Nat) : World := (w1.alloc (.cells #[.int .i64 0, .int .i64 0, .string ⟨#[104, 116, 109, 108]⟩] 59)).alloc (.cells #[.pointer (some ⟨pb, 0, none⟩), .slice (some ⟨w1.heap.size, 0, none⟩) 1 1, .slice none 0 0, .int .i64 0, .int .i64 0, .string ⟨#[]⟩, .bool false, .bool false, .int .i64 0] 52)
theorem start_isB {w w1 : World} {pb : Nat} (b1 : Below w.heap.size w w1) (hP : PT (fun k => w.heap.size ≤ k ∧ k < w1.heap.size) w1 pb S5.newL) : IsB (fun k => w.heap.size ≤ k ∧ k < (startW w1 pb).heap.size) w.heap.size (startW w1 pb) (w1.heap.size + 1) startP := by
  have bS : Below w1.heap.size w1 (startW w1 pb) := (below_alloc w1 _).trans ((below_alloc _ _).mono (by simp))
  have hz : (startW w1 pb).heap.size = w1.heap.size + 1 + 1 := by simp [startW]
  have h1 := b1.size
  have hrow : (startW w1 pb).ownsRow 0 59 3 (opV w1.heap.size 1 1) 1 (opCells [rootV]) := by
    have h2 := World.ownsRow_lit (base := 0) (e := 59) (size := 3) w1 #[.int .i64 0, .int .i64 0, .string ⟨#[104, 116, 109, 108]⟩] 1 (Nat.zero_le _) (by unfold maxLen; omega) rfl
    exact S5.owns_below h2 (below_alloc _ _)
  refine ⟨pb, w1.heap.size, 1, .slice none 0 0, fun k => w.heap.size ≤ k ∧ k < w1.heap.size, ?_, fun j => ?_, hP.below bS, hrow, .inl ⟨rfl, _, _, rfl⟩, fun b o l c e => (by cases e), fun m hm => absurd hm (by simp [startP]), fun m hm => absurd hm (by simp [startP]), (by omega), fun k hk => ⟨⟨hk.1, by omega⟩, by omega⟩, ⟨(by omega), (by omega)⟩, ⟨(by omega), (by omega)⟩, fun h => (by omega), fun h => (by omega), (by omega)⟩
  · intro j hj
    have hs : (w1.alloc (.cells #[.int .i64 0, .int .i64 0, .string ⟨#[104, 116, 109, 108]⟩] 59)).heap.size = w1.heap.size + 1 := by simp
    have hc := World.cell?_alloc_mark (w1.alloc (.cells #[.int .i64 0, .int .i64 0, .string ⟨#[104, 116, 109, 108]⟩] 59)) #[.pointer (some ⟨pb, 0, none⟩), .slice (some ⟨w1.heap.size, 0, none⟩) 1 1, .slice none 0 0, .int .i64 0, .int .i64 0, .string ⟨#[]⟩, .bool false, .bool false, .int .i64 0] 52 (0, 0) j
    rw [hs] at hc
    refine hc.trans ?_
    rcases (by omega : j = 0 ∨ j = 1 ∨ j = 2 ∨ j = 3 ∨ j = 4 ∨ j = 5 ∨ j = 6 ∨ j = 7 ∨ j = 8) with rfl | rfl | rfl | rfl | rfl | rfl | rfl | rfl | rfl <;> rfl
  · have hs : (w1.alloc (.cells #[.int .i64 0, .int .i64 0, .string ⟨#[104, 116, 109, 108]⟩] 59)).heap.size = w1.heap.size + 1 := by simp
    have hf := World.frozen?_alloc_mark (w1.alloc (.cells #[.int .i64 0, .int .i64 0, .string ⟨#[104, 116, 109, 108]⟩] 59)) #[.pointer (some ⟨pb, 0, none⟩), .slice (some ⟨w1.heap.size, 0, none⟩) 1 1, .slice none 0 0, .int .i64 0, .int .i64 0, .string ⟨#[]⟩, .bool false, .bool false, .int .i64 0] 52 0 0 j
    rw [hs] at hf
    exact hf.trans (by simp)
set_option maxRecDepth 50000 in
set_option maxHeartbeats 4000000 in
theorem newBuilder_p (w : World) : Calls Tryz.prog 22 #[] w fun e w' => (∃ bb, e = .returned (bP bb) ∧ IsB (fun k => w.heap.size ≤ k ∧ k < w'.heap.size) w.heap.size w' bb startP) ∧ Below w.heap.size w w' := by
  have HN := hide S5.pnew_p
  go_enter Tryz.func22, Tryz.ntmps22
  go_wp2_with fail
  refine (HN.out _).mono ?_
  rintro e w1 ⟨⟨pb, rfl, hP⟩, b1⟩
  have HP := hide hP
  have B1 := hide b1
  clear hP b1
  go_wp2
  go_ret
  exact ⟨⟨_, rfl, start_isB B1.out HP.out⟩, B1.out.trans (((below_alloc w1 _).trans ((below_alloc _ _).mono (by simp))).mono B1.out.size)⟩
theorem start_inv : PInv 0 startP where
  hd := ⟨[], rfl⟩
  opL := by decide
  wf := S5.WF.new
  t0 := by decide
  tL := by decide
  mrL := Nat.le_refl _
  aaL := fun m hm => absurd hm (by simp [startP])
  txL := fun i => by
    cases i with
    | zero => exact Nat.le_refl _
    | succ i => cases i <;> exact Nat.le_refl _
  atL := fun i => by
    cases i with
    | zero => exact Nat.zero_le _
    | succ i => cases i <;> exact Nat.zero_le _
theorem start_rel : Rel startP {} := ⟨rfl, fun _ => { T := rfl, op := rfl, mr := rfl, ru := rfl, mo := rfl, nm := fun h => absurd rfl h, fo := rfl, sk := rfl }⟩
theorem isK_form {B : Nat → Prop} {w : World} {k : Nat} {ks : List (S5.NT k)} {kv : Value} (h : S5.IsK B w ks kv) : ∃ a l c, kv = .slice a l c := by
  rcases h with ⟨rfl, _⟩ | ⟨b, o, cap, rfl, _⟩
  · exact ⟨_, _, _, rfl⟩
  · exact ⟨_, _, _, rfl⟩
theorem isK_mono {B C : Nat → Prop} {w : World} {k : Nat} {ks : List (S5.NT k)} {kv : Value} (hm : ∀ k, B k → C k) (h : S5.IsK B w ks kv) : S5.IsK C w ks kv := by
  rcases h with h | ⟨b, o, cap, e, h1, h2, h3⟩
  · exact .inl h
  · rcases h2 with h2 | h2
    · subst h2
      exact .inr ⟨b, o, cap, e, h1, .inl rfl, trivial⟩
    · exact .inr ⟨b, o, cap, e, h1, .inr (hm b h2), S5.IsNs.keep (fun _ _ => rfl) hm b h2 o ks h3⟩
def FragA (w : World) (l : Bs) (e : Ending) (w' : World) : Prop := ∃ a k c, e = .returned (.tuple #[.slice a k c, .int .i64 (fragErr l)]) ∧ (fragErr l ≠ 0 → k = 0) ∧ (fragErr l = 0 → S5.IsK (fun k => w.heap.size ≤ k) w' (S5.valueL (buildL l).T 0).kids (.slice a k c)) ∧ Below w.heap.size w w'
theorem fld_kids (v0 v1 v2 v3 v4 v5 : Value) (W : World) : (Instr.field 36 (.agg #[v0, v1, v2, v3, v4, v5]) 5).run Tryz.prog W = .ok v5 W := by rfl
set_option maxRecDepth 50000 in
set_option maxHeartbeats 8000000 in
theorem fragment_p (Q : BS → Bs → Prop) (hQ : StepOk Q) (T : ByteArray) (hT : T.size ≤ 4096) (w : World) (he : S4.Env w) (h0 : Q {} T.data.toList) : Calls Tryz.prog 10 #[.string T] w (FragA w T.data.toList) := by
  have hTl : T.size = T.data.toList.length := S5.size_list T
  have hfe : fragErr T.data.toList = (buildL T.data.toList).e := by unfold fragErr; rw [if_neg (by omega)]
  have HN := hide (newBuilder_p w)
  have h2 := he.two
  have HT : Hid (∀ w1 bb, Below w.heap.size w w1 → IsB (fun k => w.heap.size ≤ k ∧ k < w1.heap.size) w.heap.size w1 bb startP → Calls Tryz.prog 23 #[bP bb, .string T] w1 fun e w' => e = .returned (.tuple #[]) ∧ (∃ S O n, IsB O n w' bb S ∧ Rel S (buildL T.data.toList) ∧ PInv 250000000 S) ∧ Below w.heap.size w w') := hide (by
    intro w1 bb b1 hB
    refine (takeAll_p Q hQ T hT w.heap.size h2 b1.size (he.below b1) (buildL T.data.toList) ⟨{}, startP, _, _, Nat.zero_le _, hB, fun k hk => hk, start_rel, fun _ => h0, start_inv, by decide, rfl, Below.refl _ _⟩).mono ?_
    rintro e w' ⟨rfl, ⟨S, O, n, h1, _, h3, h4⟩, b⟩
    exact ⟨rfl, ⟨S, O, n, h1, h3, h4⟩, b1.trans b⟩)
  have HV : Hid (∀ w2 bb S O n, IsB O n w2 bb S → Rel S (buildL T.data.toList) → PInv 250000000 S → Below w.heap.size w w2 → ∃ pb, w2.cell? ⟨bb, 0, none⟩ = some (.pointer (some ⟨pb, 0, none⟩)) ∧ w2.cell? ⟨bb, 8, none⟩ = some (.int .i64 (buildL T.data.toList).e) ∧ ((buildL T.data.toList).e = 0 → Calls Tryz.prog 24 #[.pointer (some ⟨pb, 0, none⟩), .int .i64 0] w2 fun e w' => (∃ av kv d, e = .returned (.agg (S5.nodeC d av kv).toArray) ∧ (∃ a k c, av = .slice a k c) ∧ S5.IsK (fun k => w2.heap.size ≤ k) w' (S5.valueL (buildL T.data.toList).T 0).kids kv) ∧ Below w2.heap.size w2 w')) := hide (by
    intro w2 bb S O n hB hR hI b2
    obtain ⟨pb, og, cap, mv, A, v⟩ := hB
    refine ⟨pb, v.cs 0 (by omega), by have := v.cs 8 (by omega); rw [← hR.1]; exact this, fun he0 => ?_⟩
    have hT2 := (hR.2 he0).T
    have hlen := hI.tL
    have h00 := hI.t0
    refine (S5.valueZ_p hI.wf (by omega) hI.atL pb 0 v.tree).mono ?_
    rintro e w' ⟨⟨vs, rfl, hN⟩, b⟩
    have hv : S5.valueZ S.T 0 = S5.valueL S.T 0 := by
      unfold S5.valueZ
      rw [if_pos (by unfold S5.inT; omega)]
      rfl
    rw [hv, hT2, S5.NT.form (S5.valueL (buildL T.data.toList).T 0)] at hN
    obtain ⟨av, kv, rfl, hA, hK⟩ := (S5.isN_iff _ _ _ _ _).1 hN
    obtain ⟨a, k, c, e⟩ : ∃ a k c, av = .slice a k c := by
      obtain ⟨a, c, e⟩ := S5.isA_form hA.1
      exact ⟨a, _, c, e⟩
    exact ⟨⟨av, kv, _, rfl, ⟨a, k, c, e⟩, hK⟩, b⟩)
  have hT2 : ¬ (4096 : Int) < T.size := by omega
  unfold FragA
  rw [hfe]
  generalize buildL T.data.toList = BL at *
  clear hfe h0 hTl
  by_cases hz : BL.e = 0
  · rw [hz] at HV ⊢
    go_enter Tryz.func10, Tryz.ntmps10
    go_wp2_with fail
    refine HN.out.mono ?_
    rintro e w1 ⟨⟨bb, rfl, hB⟩, b1⟩
    have HB := hide hB
    have B1 := hide b1
    clear hB b1
    go_wp2_with fail
    refine (HT.out _ _ B1.out HB.out).mono ?_
    rintro e w2 ⟨rfl, ⟨S, O, n, h1, h3, h4⟩, b2⟩
    obtain ⟨pb, c0, c8, hV⟩ := HV.out _ _ _ _ _ h1 h3 h4 b2
    have HVV := hide (hV (by simp))
    have B2 := hide b2
    clear h1 h3 h4 b2 hV
    go_wp2_with fail
    refine HVV.out.mono ?_
    rintro e w3 ⟨⟨av, kv, d, rfl, ⟨a, k, c, rfl⟩, hK⟩, b3⟩
    obtain ⟨a2, k2, c2, rfl⟩ := isK_form hK
    have HK := hide (isK_mono (C := fun k => w.heap.size ≤ k) (fun k hk => Nat.le_trans B2.out.size hk) hK)
    have B3 := hide (B2.out.trans (b3.mono B2.out.size))
    clear hK b3
    simp only [S5.nodeC]
    have hfld := fld_kids
    go_wp2
    go_ret2
    exact ⟨a2, k2, c2, rfl, fun h => absurd rfl h, fun _ => HK.out, B3.out⟩
  · go_enter Tryz.func10, Tryz.ntmps10
    go_wp2_with fail
    refine HN.out.mono ?_
    rintro e w1 ⟨⟨bb, rfl, hB⟩, b1⟩
    have HB := hide hB
    have B1 := hide b1
    clear hB b1
    go_wp2_with fail
    refine (HT.out _ _ B1.out HB.out).mono ?_
    rintro e w2 ⟨rfl, ⟨S, O, n, h1, h3, h4⟩, b2⟩
    obtain ⟨pb, c0, c8, hV⟩ := HV.out _ _ _ _ _ h1 h3 h4 b2
    have B2 := hide b2
    clear h1 h3 h4 b2 hV
    generalize hq : BL.e = q at *
    go_wp2_with fail
    go_region
    go_wp2
    go_ret2
    subst hq
    exact ⟨none, 0, 0, rfl, fun _ => rfl, fun h => absurd h hz, B2.out.drew⟩
end Go.Proofs.YteccmjngdibeoaaGreatDoor
set_option linter.unusedVariables false
set_option linter.unusedSimpArgs false
set_option maxRecDepth 4000
namespace Go.Proofs.YteccmjngdibeoaaGreatDoor
open Go.RowKit
open S5 (ButA andNew PT IsA cell_lt below_alloc hide below_drewN)
structure Smp (m : BS) : Prop where
  mo : m.mode = 0
  ru : m.rules = 0
  fo : m.fost = false
  sk : m.skip = false
  cu : (curB m).sp = 0
  idle : S7.renewL (ms m.mr) (m.op.map fun o => (o.id : Int)) = m.mr.length
  inv : Inv m
theorem Smp.renew {m : BS} (h : Smp m) : renewB m = m := by
  unfold renewB
  rw [h.idle]
  cases hl : m.mr.length with
  | zero => rfl
  | succ k =>
    rw [renewK]
    split
    · rfl
    · rw [List.getElem?_eq_none (by omega)]
theorem ids_rel {s : PB} {m : BS} (h : Rel0 s m) : idsP s = m.op.map fun o => (o.id : Int) := by
  unfold idsP
  rw [h.op]
  unfold vs
  rw [List.map_map]
  rfl
theorem Smp.renewP {s : PB} {m : BS} (h : Smp m) (hr : Rel0 s m) : renewP s = s := by
  unfold Go.Proofs.YteccmjngdibeoaaGreatDoor.renewP
  have hs : S7.renewL s.mr (idsP s) = s.mr.length := by
    rw [ids_rel hr, renew_sim hr.mr, h.idle]
    have := Sim.len hr.mr
    rw [this]
    simp [ms]
  rw [hs, Nat.sub_self]
  rfl
theorem Smp.take {m : BS} (h : Smp m) (t : S4.Tok) (h5 : t.kind ≠ 5) : takeB m t = bodyB m t := by
  have hs : ({ m with skip := false } : BS) = m := by rw [← h.sk]
  have ht : takeT m t = bodyB m t := by
    unfold takeT
    rw [if_neg h5, if_neg (by rw [h.mo]; decide), if_neg (by rw [h.cu]; simp)]
    unfold rulesB
    rw [show 3 * m.op.length + 20 = (3 * m.op.length + 19) + 1 from rfl, rulesK]
    have : stepB m t = (bodyB m t, none) := by
      unfold stepB
      rw [h.ru]
      simp
    rw [this]
  unfold takeB
  simp only [hs]
  split
  · rw [if_neg (by rw [h.sk]; simp)]
    exact ht
  · exact ht
theorem unsk_rel {s : PB} {m : BS} (h : Rel0 s m) (hm : Smp m) : Rel0 (unskP s) m := { T := h.T, op := h.op, mr := h.mr, ru := h.ru, mo := h.mo, nm := h.nm, fo := h.fo, sk := hm.sk.symm }
theorem PInv.unsk {c : Nat} {s : PB} (h : PInv c s) : PInv c (unskP s) := { hd := h.hd, opL := h.opL, wf := h.wf, t0 := h.t0, tL := h.tL, mrL := h.mrL, aaL := h.aaL, txL := h.txL, atL := h.atL }
theorem Smp.ne {m : BS} (h : Smp m) : m.op ≠ [] := List.ne_nil_of_length_pos (by have := h.inv.o.pos; omega)
theorem elemP_nm (s : PB) (sp : Int) (nm : ByteArray) (aa : S5.AttrL) : (elemP s sp nm aa).nm = s.nm := by
  unfold elemP
  split
  · unfold failP
    split <;> rfl
  · unfold elemR putP elemQ madeP failP
    split
    · split <;> rfl
    · rfl
theorem failP_nm (s : PB) (z : Int) : (failP s z).nm = s.nm := by
  unfold failP
  split <;> rfl
theorem madeP_nm (s : PB) (z : Int) : (madeP s z).nm = s.nm := by
  unfold madeP
  split
  · exact failP_nm s 4
  · rfl
theorem textP_nm (s : PB) (t : List UInt8) : (textP s t).nm = s.nm := by
  unfold textP
  split
  · rfl
  · unfold newT putP
    simp only
    rw [madeP_nm]
theorem take_way {n bb c : Nat} {s : PB} {m : BS} {t : TV} {S : PB} (hm : Smp m) (hr : Rel0 s m) (he : s.e = 0) (hI : PInv c s) (h5 : (t.k == 5) = false) (HS : BC 127 n bb t (unskP s) S) : BC 43 n bb t s S := by
  intro O1 y hB hT
  have hc := cur_rel hr hm.ne
  refine take_rules_p hB hI t hT h5 (hr.mo.trans hm.mo) (by rw [hc]; exact hm.cu) (hr.sk.trans hm.sk) S ?_
  intro O2 y2 hB2 hT2
  exact takeByRules_body_p hB2 hI.unsk t hT2 he (by show s.ru = 0; rw [hr.ru, hm.ru]; rfl) S HS
theorem step_text {n bb c : Nat} {s : PB} {m : BS} (sv : Value) (hm : Smp m) (hr : Rel0 s m) (he : s.e = 0) (hme : m.e = 0) (hI : PInv c s) (hc : c ≤ 250000000) (tt : Bs) (ht : tt.length ≤ 40000) :
    ∃ S, BC 43 n bb (tvOf { kind := 1, text := tt } sv) s S ∧ Rel S (takeB m { kind := 1, text := tt }) ∧ PInv (c + 50000) S ∧ S.nm = s.nm := by
  have hr2 := unsk_rel hr hm
  refine ⟨bodyTextP (unskP s) tt, take_way hm hr he hI rfl ?_, ?_, ?_, ?_⟩
  · intro O1 y hB hT
    have := body_text_p hB hI.unsk _ hT (by omega) rfl (by show (ByteArray.mk tt.toArray).size ≤ 300000000; rw [S5.size_list]; simp; omega)
    have e : (tvOf { kind := 1, text := tt } sv).tx.data.toList = tt := by simp [tvOf]
    rw [e] at this
    exact this
  · rw [hm.take _ (by simp)]
    have e : bodyB m { kind := 1, text := tt } = textB m tt := by
      unfold bodyB
      rw [if_pos rfl, hm.renew]
    rw [e]
    unfold bodyTextP
    rw [Smp.renewP hm hr2]
    exact text_rel hr2 he hme hm.inv tt
  · unfold bodyTextP
    rw [Smp.renewP hm hr2]
    exact (hI.unsk.text tt).up (by omega)
  · unfold bodyTextP
    rw [Smp.renewP hm hr2, textP_nm]
    rfl
def bN : Bs := [98]
theorem b_to (b : BS) (hr : renewB b = b) : bodyB b (startOf bN) = markedB b (startOf bN) := by
  have hset : ∀ k v, (setOf k bN = v) → setOf k (startOf bN).name = v := fun _ _ h => h
  have hcl : closesT (startOf bN) = false := by decide +kernel
  have hs : ∀ names : List Bs, S6.amongL names bN = false → startT (startOf bN) names = false := fun names h => by
    unfold startT startOf
    rw [h, Bool.and_false]
  unfold bodyB
  rw [if_neg (by simp [startOf]), if_neg (by simp [startOf]), if_pos (by simp [startOf])]
  unfold bodyStart
  rw [hset 12 false (by decide +kernel), hs _ (by decide +kernel), hs _ (by decide +kernel), hs _ (by decide +kernel), hs _ (by decide +kernel), hs _ (by decide +kernel), hs _ (by decide +kernel), hs _ (by decide +kernel), hs _ (by decide +kernel), hs _ (by decide +kernel), hcl]
  simp only [Bool.false_eq_true, if_false]
  have hpa : phraseA b (startOf bN) = b := by
    unfold phraseA
    rw [hs _ (by decide +kernel), hs _ (by decide +kernel), hs _ (by decide +kernel), hs _ (by decide +kernel)]
    simp
  unfold phraseB
  simp only [hpa, hr]
  rw [hset 5 true (by decide +kernel)]
  simp
theorem step_b {n bb c : Nat} {s : PB} {m : BS} (sv : Value) (hm : Smp m) (hr : Rel0 s m) (he : s.e = 0) (hme : m.e = 0) (hI : PInv c s) (hc : c ≤ 250000000) :
    ∃ S, BC 43 n bb (tvOf (startOf bN) sv) s S ∧ Rel S (takeB m (startOf bN)) ∧ PInv (c + 50000) S ∧ S.nm = s.nm := by
  have hr2 := unsk_rel hr hm
  have hrn := Smp.renewP hm hr2
  have hnm : (⟨bN.toArray⟩ : ByteArray).data.toList = bN := by simp
  refine ⟨markedP (unskP s) (tvOf (startOf bN) sv), take_way hm hr he hI rfl ?_, ?_, ?_, ?_⟩
  · intro O1 y hB hT
    refine body_start_p hB hI.unsk _ hT rfl _ ?_
    intro O2 y2 hB2 hT2
    refine bodyStart_format_p hB2 hI.unsk _ hT2 (show S6.isL 12 bN = false by decide +kernel) (show S6.isL 6 bN = false by decide +kernel) (show S6.isL 7 bN = false by decide +kernel) (show S6.isL 5 bN = true by decide +kernel) _ ?_
    intro O3 y3 hB3 hT3
    have := startFormat_o_p hB3 hI.unsk _ hT3 (by omega) (by rw [Lib.toList_data]; show (bN == [97]) = false; decide) (by rw [Lib.toList_data]; show (bN == [110, 111, 98, 114]) = false; decide)
    unfold fmtP at this
    rw [hrn] at this
    exact this
  · rw [hm.take _ (by simp [startOf]), b_to m hm.renew]
    obtain ⟨h1, h2, h3⟩ := elem_rel hr2 he hme hm.inv 0 ⟨bN.toArray⟩ []
    rw [hnm] at h1 h2 h3
    unfold markedB tagB
    show Rel (markedP (unskP s) (tvOf (startOf bN) sv)) (match insertB m 0 bN [] with
      | (b', some n) => { b' with mr := pushM b'.mr ⟨n, bN, []⟩ }
      | (b', none) => b')
    cases hq : insertB m 0 bN [] with
    | mk b' k =>
      rw [hq] at h1 h2 h3
      cases k with
      | none => exact Rel.err h1.1 (h3 rfl)
      | some k =>
        refine ⟨h1.1, fun h0 => ?_⟩
        have r := h1.2 h0
        exact { T := r.T, op := r.op, mr := isM_push r.mr _ ⟨k, bN, []⟩ (by
          show (elemZ (unskP s) 0 ⟨bN.toArray⟩ [], (⟨bN.toArray⟩ : ByteArray), ([] : S5.AttrL)) = _
          rw [h2 k rfl]
          rfl), ru := r.ru, mo := r.mo, nm := r.nm, fo := r.fo, sk := r.sk }
  · exact (hI.unsk.marked _ (by simp [tvOf, startOf])).up (by omega)
  · show (elemP (unskP s) 0 _ _).nm = s.nm
    rw [elemP_nm]
    rfl
end Go.Proofs.YteccmjngdibeoaaGreatDoor
set_option linter.unusedVariables false
set_option linter.unusedSimpArgs false
set_option maxRecDepth 4000
namespace Go.Proofs.YteccmjngdibeoaaGreatDoor
open Go.RowKit
open S5 (ButA andNew PT IsA cell_lt below_alloc hide below_drewN)
theorem smp_st {F : FL} {ps : List (Nat × Bs)} (hi : Inv (stB F ps)) : Smp (stB F ps) := { mo := rfl, ru := rfl, fo := rfl, sk := rfl, cu := (cur_id F ps).2, idle := rfl, inv := hi }
theorem nxt_st (F : FL) (ps : List (Nat × Bs)) (r : Bs) : nxt (stB F ps) r = S4.nextR 0 [] false r := by
  unfold nxt
  rw [(cur_id F ps).2]
  rfl
theorem nxt_nil (m : BS) : (nxt m []).1.kind = 0 := by
  unfold nxt
  rw [S4.nextR_nil]
theorem start_mi : MI {} := by
  intro h
  rcases h with h | h <;> exact absurd h (by decide)
def QPlain (m : BS) (r : Bs) : Prop := (m = {} ∧ (∀ c ∈ r, c ≠ 60) ∧ r.length ≤ 10000) ∨ r = []
theorem plain_step : StepOk QPlain := by
  intro m r s sv n bb c hQ hme hr he hnm hI hc hrl hk
  rcases hQ with ⟨rfl, h60, hlen⟩ | rfl
  · by_cases h0 : r = []
    · subst h0
      exact absurd (nxt_nil _) hk
    · have hn : nxt {} r = ({ kind := 1, text := S4.decL false r }, []) := by
        have := next_text r [] h0 h60 (.inl rfl)
        rw [List.append_nil] at this
        rw [start_eq, nxt_st]
        exact this
      rw [hn]
      have hm : Smp {} := smp_st (F := [(0, {})]) (ps := []) SI.start.inv
      have hdl := S4.decL_len false r
      obtain ⟨S, h1, h2, h3, h4⟩ := step_text (n := n) (bb := bb) sv hm hr he hme hI hc (S4.decL false r) (by omega)
      exact ⟨S, h1, h2, h3, by rw [h4]; exact hnm, fun _ => .inr rfl⟩
  · exact absurd (nxt_nil _) hk
theorem fragment_plain (T : ByteArray) (hT : T.size ≤ 4096) (h60 : ∀ c ∈ T.data.toList, c ≠ 60) (w : World) (he : S4.Env w) : Calls Tryz.prog 10 #[.string T] w (FragA w T.data.toList) :=
  fragment_p QPlain plain_step T hT w he (.inl ⟨rfl, h60, by rw [← S5.size_list]; omega⟩)
def liveL : Bs := [97, 60, 98, 62, 99]
def tok1 : S4.Tok := { kind := 1, text := [97] }
def tok3 : S4.Tok := { kind := 1, text := [99] }
def live1 : BS := takeB {} tok1
def live2 : BS := takeB live1 (startOf bN)
def QLive (m : BS) (r : Bs) : Prop := (m = {} ∧ r = [97, 60, 98, 62, 99]) ∨ (m = live1 ∧ r = [60, 98, 62, 99]) ∨ (m = live2 ∧ r = [99]) ∨ r = []
theorem live_n0 : nxt {} [97, 60, 98, 62, 99] = (tok1, [60, 98, 62, 99]) := by kernel_rfl
theorem live_n1 : nxt live1 [60, 98, 62, 99] = (startOf bN, [99]) := by kernel_rfl
theorem live_n2 : nxt live2 [99] = (tok3, []) := by kernel_rfl
theorem live_e1 : live1.e = 0 := by kernel_rfl
theorem live_e2 : live2.e = 0 := by kernel_rfl
theorem tok_b : TokOk (startOf bN) := by
  have := tok_next 0 [] false [60, 98, 62, 99]
  have e : (S4.nextR 0 [] false [60, 98, 62, 99]).1 = startOf bN := by kernel_rfl
  rw [e] at this
  exact this
theorem tok_1 : TokOk tok1 := by
  have := tok_next 0 [] false [97, 60, 98, 62, 99]
  have e : (S4.nextR 0 [] false [97, 60, 98, 62, 99]).1 = tok1 := by kernel_rfl
  rw [e] at this
  exact this
theorem live_s1 : SI live1 ∧ MI live1 := SI.takeB SI.start rfl start_mi tok_1 live_e1
theorem live_s2 : SI live2 ∧ MI live2 := SI.takeB live_s1.1 live_e1 live_s1.2 tok_b live_e2
theorem live_m1 : Smp live1 := { mo := by kernel_rfl, ru := by kernel_rfl, fo := by kernel_rfl, sk := by kernel_rfl, cu := by kernel_rfl, idle := by kernel_rfl, inv := live_s1.1.inv }
theorem live_m2 : Smp live2 := { mo := by kernel_rfl, ru := by kernel_rfl, fo := by kernel_rfl, sk := by kernel_rfl, cu := by kernel_rfl, idle := by kernel_rfl, inv := live_s2.1.inv }
theorem live_step : StepOk QLive := by
  intro m r s sv n bb c hQ hme hr he hnm hI hc hrl hk
  rcases hQ with ⟨rfl, rfl⟩ | ⟨rfl, rfl⟩ | ⟨rfl, rfl⟩ | rfl
  · rw [live_n0]
    have hm : Smp {} := smp_st (F := [(0, {})]) (ps := []) SI.start.inv
    obtain ⟨S, h1, h2, h3, h4⟩ := step_text (n := n) (bb := bb) sv hm hr he hme hI hc [97] (by decide)
    exact ⟨S, h1, h2, h3, by rw [h4]; exact hnm, fun _ => .inr (.inl ⟨rfl, rfl⟩)⟩
  · rw [live_n1]
    obtain ⟨S, h1, h2, h3, h4⟩ := step_b (n := n) (bb := bb) sv live_m1 hr he hme hI hc
    exact ⟨S, h1, h2, h3, by rw [h4]; exact hnm, fun _ => .inr (.inr (.inl ⟨rfl, rfl⟩))⟩
  · rw [live_n2]
    obtain ⟨S, h1, h2, h3, h4⟩ := step_text (n := n) (bb := bb) sv live_m2 hr he hme hI hc [99] (by decide)
    exact ⟨S, h1, h2, h3, by rw [h4]; exact hnm, fun _ => .inr (.inr (.inr rfl))⟩
  · exact absurd (nxt_nil _) hk
theorem fragment_live (w : World) (he : S4.Env w) : Calls Tryz.prog 10 #[.string ⟨#[97, 60, 98, 62, 99]⟩] w (FragA w liveL) :=
  fragment_p QLive live_step ⟨#[97, 60, 98, 62, 99]⟩ (by decide) w he (.inl ⟨rfl, rfl⟩)
theorem live_err : fragErr liveL = 0 := by kernel_rfl
end Go.Proofs.YteccmjngdibeoaaGreatDoor
set_option linter.unusedVariables false
set_option linter.unusedSimpArgs false
set_option maxRecDepth 4000
namespace Go.Proofs.YteccmjngdibeoaaGreatDoor
open Go.RowKit
open S5 (NT IsK IsNs IsN isN_iff countTs countT maxG deepT cell_lt below_alloc hide below_drewN)
theorem manyTs_app {k : Nat} (a b : List (NT k)) : countTs (a ++ b) = countTs a + countTs b := by
  unfold countTs
  rw [List.map_append, List.sum_append]
theorem manyTs_take {k : Nat} (ks : List (NT (k + 1))) (i : Nat) (h : i < ks.length) : countTs (ks.take (i + 1)) = countTs (ks.take i) + 1 + countTs ks[i].kids := by
  rw [List.take_succ_eq_append_getElem h, manyTs_app, Nat.add_assoc]
  congr 1
theorem manyTs_le {k : Nat} (ks : List (NT k)) (i : Nat) : countTs (ks.take i) ≤ countTs ks := by
  have := manyTs_app (ks.take i) (ks.drop i)
  rw [List.take_append_drop] at this
  omega
theorem manyTs_len {k : Nat} : ∀ (ks : List (NT (k + 1))), ks.length ≤ countTs ks
  | [] => Nat.zero_le _
  | x :: r => by
    have h := manyTs_len r
    have : countTs (x :: r) = 1 + countTs x.kids + countTs r := rfl
    rw [List.length_cons, this]
    omega
theorem kid_cells {B : Nat → Prop} {w : World} {k : Nat} {ts : List (NT (k + 1))} {b o : Nat} (h : IsNs B w b o ts) (i : Nat) (hi : i < ts.length) : ∃ (a1 : Option Addr) (l1 c1 : Nat) (a : Option Addr) (c : Nat), w.cell? ⟨b, o + i * 6, none⟩ = some (.int .i64 ts[i].nd.kind) ∧ w.cell? ⟨b, o + i * 6 + 1, none⟩ = some (.int .i64 ts[i].nd.space) ∧ w.cell? ⟨b, o + i * 6 + 2, none⟩ = some (.string ⟨ts[i].nd.name.toArray⟩) ∧ w.cell? ⟨b, o + i * 6 + 3, none⟩ = some (.slice a1 l1 c1) ∧ w.cell? ⟨b, o + i * 6 + 4, none⟩ = some (.string ⟨ts[i].nd.text.toArray⟩) ∧ w.cell? ⟨b, o + i * 6 + 5, none⟩ = some (.slice a ts[i].kids.length c) ∧ S5.IsA w (.slice a1 l1 c1) ts[i].nd.attrs ∧ IsK B w ts[i].kids (.slice a ts[i].kids.length c) := by
  obtain ⟨vs, g, n⟩ := S5.IsNs.get o ts h i hi
  rw [ts[i].form, isN_iff] at n
  obtain ⟨av, kv, rfl, hA, hK⟩ := n
  obtain ⟨a1, c1, rfl⟩ := S5.isA_form hA.1
  obtain ⟨a, c, rfl⟩ : ∃ a c, kv = .slice a ts[i].kids.length c := by
    rcases hK with ⟨e, h0⟩ | ⟨b, o, cap, e, _⟩
    · have h0 : ts[i].kids = [] := h0
      rw [h0]
      exact ⟨_, _, e⟩
    · exact ⟨_, _, e⟩
  exact ⟨a1, _, c1, a, c, g 0 (by omega), g 1 (by omega), g 2 (by omega), g 3 (by omega), g 4 (by omega), g 5 (by omega), hA.1, hK⟩
theorem isK_len {B : Nat → Prop} {w : World} {k : Nat} {ks : List (NT k)} {kv : Value} (h : IsK B w ks kv) : ∃ a c, kv = .slice a ks.length c := by
  rcases h with ⟨rfl, rfl⟩ | ⟨b, o, cap, rfl, _⟩
  · exact ⟨_, _, rfl⟩
  · exact ⟨_, _, rfl⟩
def ManyP {k : Nat} (ts : List (NT k)) : Prop := ∀ (B : Nat → Prop) (va : Value) (w : World), (∀ k, B k → k < w.heap.size) → IsK B w ts va → Calls Tryz.prog 15 #[va] w fun e w' => e = .returned (.int .i64 (countTs ts : Int)) ∧ Below w.heap.size w w'
set_option maxRecDepth 10000 in
set_option maxHeartbeats 4000000 in
theorem manyP_step {k : Nat} (ts : List (NT (k + 1))) (hct : countTs ts ≤ 1000000) (ih : ∀ i (h : i < ts.length), ManyP ts[i].kids) : ManyP ts := by
  intro B va w hB h1
  have H1 := hide h1
  obtain ⟨a1, c1, rfl⟩ := isK_len h1
  have HBB := hide hB
  have HIH := hide ih
  have HTA := hide (manyTs_take ts)
  have HLE := hide (manyTs_le ts)
  have hln : ts.length ≤ 1000000 := Nat.le_trans (manyTs_len ts) hct
  clear h1 ih hB
  go_enter Tryz.func15, Tryz.ntmps15
  go_wp2
  go_loopw [3, 10] (fun v3 v4 wr => ∃ i m : Nat, v4 = .int .i64 (i : Int) ∧ i ≤ ts.length ∧ v3 = .int .i64 (m : Int) ∧ Hid (m + i = ts.length + countTs (ts.take i)) ∧ Hid (Below w.heap.size w wr)) (fun _ v4 _ => ts.length - (intOf v4).toNat)
  case atStart => exact ⟨0, ts.length, rfl, by omega, rfl, hide rfl, hide (Below.refl _ _)⟩
  case round =>
    obtain ⟨i, m, rfl, hi, rfl, HM, HBW⟩ := hrel
    have hle := HLE.out i
    have hm1 := HM.out
    by_cases hlt : i < ts.length
    · have hlt2 : (i : Int) < ts.length := by omega
      have k1 := H1.out.below HBB.out HBW.out
      rcases k1 with ⟨_, h0⟩ | ⟨b1, o1, cap1, e1, _, _, hn1⟩
      · rw [h0] at hlt; simp at hlt
      injection e1 with e1 _ e1c
      subst e1 e1c
      obtain ⟨xa, xl, xc, ka, kc, u0, u1, u2, u3, u4, u5, _, hk⟩ := kid_cells hn1 i hlt
      have hta := HTA.out i hlt
      have hle2 := HLE.out (i + 1)
      have hba := below_alloc wr (.cells #[.int .i64 ts[i].nd.kind, .int .i64 ts[i].nd.space, .string ⟨ts[i].nd.name.toArray⟩, .slice xa xl xc, .string ⟨ts[i].nd.text.toArray⟩, .slice ka ts[i].kids.length kc] 36)
      have hBr : ∀ j, B j → j < wr.heap.size := fun j hj => Nat.lt_of_lt_of_le (HBB.out j hj) HBW.out.size
      have HC := hide (HIH.out i hlt B _ (wr.alloc (.cells #[.int .i64 ts[i].nd.kind, .int .i64 ts[i].nd.space, .string ⟨ts[i].nd.name.toArray⟩, .slice xa xl xc, .string ⟨ts[i].nd.text.toArray⟩, .slice ka ts[i].kids.length kc] 36)) (fun j hj => Nat.lt_of_lt_of_le (hBr j hj) hba.size) (hk.below hBr hba))
      have HTT : Hid (m + countTs ts[i].kids + (i + 1) = ts.length + countTs (ts.take (i + 1))) := hide (by omega)
      have hb1 : m ≤ 2000000 := by omega
      have hb2 : countTs ts[i].kids ≤ 1000000 := by omega
      clear hn1 hta hle hle2 hk hm1 hba hBr HM
      generalize countTs ts[i].kids = ci at *
      generalize ts[i].kids.length = kl at *
      generalize ts[i].nd.kind = n0 at *
      generalize ts[i].nd.space = n1 at *
      generalize ts[i].nd.name.toArray = n2 at *
      generalize ts[i].nd.text.toArray = n3 at *
      go_wp2_with fail
      refine HC.out.mono ?_
      rintro e x1 ⟨rfl, b1⟩
      have HBN := hide (HBW.out.trans ((two_below b1).mono HBW.out.size))
      clear b1 u0 u1 u2 u3 u4 u5
      go_wp2
      exact ⟨⟨i + 1, m + ci, by go_num, by omega, by go_num, HTT, HBN⟩, by simp [intOf]; omega⟩
    · have hlt2 : ¬ (i : Int) < ts.length := by omega
      have hke : ts.take i = ts := List.take_of_length_le (by omega)
      have HF : Hid ((m : Int) = countTs ts) := hide (by rw [hke] at hm1; omega)
      clear hle hke hm1 HM
      go_wp2
      go_ret
      exact ⟨S5.ret_int HF.out, HBW.out⟩
theorem isK_zero {B : Nat → Prop} {w : World} {ts : List (NT 0)} {va : Value} (h : IsK B w ts va) : ts = [] ∧ IsK B w ([] : List (NT 1)) va := by
  have h0 : ts = [] := by
    cases ts with
    | nil => rfl
    | cons x r => exact x.none
  subst h0
  refine ⟨rfl, ?_⟩
  rcases h with ⟨h1, _⟩ | ⟨b, o, cap, e1, e2, _, _⟩
  · exact .inl ⟨h1, rfl⟩
  · exact .inr ⟨b, o, cap, e1, e2, .inl rfl, trivial⟩
theorem manyP_any : ∀ {k : Nat} (ts : List (NT k)), countTs ts ≤ 1000000 → ManyP ts
  | 0, ts, _ => by
    intro B va w hB h
    obtain ⟨rfl, h2⟩ := isK_zero h
    exact manyP_step ([] : List (NT 1)) (Nat.zero_le _) (fun i hi => by simp at hi) B va w hB h2
  | k + 1, ts, h => manyP_step ts h fun i hi => manyP_any _ (by
    have h1 := manyTs_take ts i hi
    have h2 := manyTs_le ts (i + 1)
    omega)
def deepTs {k : Nat} (ts : List (NT k)) : Nat := maxG (fun x => deepT x) ts
theorem deepTs_take {k : Nat} (ts : List (NT (k + 1))) (i : Nat) (h : i < ts.length) : deepTs (ts.take (i + 1)) = max (deepTs (ts.take i)) (deepTs ts[i].kids + (if ts[i].nd.kind = 1 then 1 else 0)) := S5.maxG_take _ ts i h
theorem deepTs_le {k : Nat} : ∀ (ts : List (NT k)), deepTs ts ≤ k
  | [] => Nat.zero_le _
  | x :: r => by
    have h1 := deepTs_le r
    have h2 := S5.deep_le x
    show max (deepT x) (deepTs r) ≤ k
    omega
def DeepP {k : Nat} (ts : List (NT k)) : Prop := ∀ (B : Nat → Prop) (va : Value) (w : World), (∀ k, B k → k < w.heap.size) → IsK B w ts va → Calls Tryz.prog 17 #[va] w fun e w' => e = .returned (.int .i64 (deepTs ts : Int)) ∧ Below w.heap.size w w'
set_option maxRecDepth 10000 in
set_option maxHeartbeats 4000000 in
theorem deepP_step {k : Nat} (ts : List (NT (k + 1))) (hl : ts.length ≤ 1000000) (hkk : k ≤ 1000000) (ih : ∀ i (h : i < ts.length), DeepP ts[i].kids) : DeepP ts := by
  intro B va w hB h1
  have H1 := hide h1
  obtain ⟨a1, c1, rfl⟩ := isK_len h1
  have HBB := hide hB
  have HIH := hide ih
  have HTA := hide (deepTs_take ts)
  have HLE : Hid (∀ i, deepTs (ts.take i) ≤ k + 1) := hide fun i => deepTs_le _
  have HLK : Hid (∀ i (h : i < ts.length), deepTs ts[i].kids ≤ k) := hide fun i h => deepTs_le _
  clear h1 ih hB
  go_enter Tryz.func17, Tryz.ntmps17
  go_wp2
  go_loopw [3, 9] (fun v3 v4 wr => ∃ i : Nat, v4 = .int .i64 (i : Int) ∧ i ≤ ts.length ∧ v3 = .int .i64 (deepTs (ts.take i) : Int) ∧ Hid (Below w.heap.size w wr)) (fun _ v4 _ => ts.length - (intOf v4).toNat)
  case atStart => exact ⟨0, rfl, by omega, rfl, hide (Below.refl _ _)⟩
  case round =>
    obtain ⟨i, rfl, hi, rfl, HBW⟩ := hrel
    have hle := HLE.out i
    by_cases hlt : i < ts.length
    · have hlt2 : (i : Int) < ts.length := by omega
      have k1 := H1.out.below HBB.out HBW.out
      rcases k1 with ⟨_, h0⟩ | ⟨b1, o1, cap1, e1, _, _, hn1⟩
      · rw [h0] at hlt; simp at hlt
      injection e1 with e1 _ e1c
      subst e1 e1c
      obtain ⟨xa, xl, xc, ka, kc, u0, u1, u2, u3, u4, u5, _, hk⟩ := kid_cells hn1 i hlt
      have hta := HTA.out i hlt
      have hlk := HLK.out i hlt
      have hba := below_alloc wr (.cells #[.int .i64 ts[i].nd.kind, .int .i64 ts[i].nd.space, .string ⟨ts[i].nd.name.toArray⟩, .slice xa xl xc, .string ⟨ts[i].nd.text.toArray⟩, .slice ka ts[i].kids.length kc] 36)
      have hBr : ∀ j, B j → j < wr.heap.size := fun j hj => Nat.lt_of_lt_of_le (HBB.out j hj) HBW.out.size
      have HC := hide (HIH.out i hlt B _ (wr.alloc (.cells #[.int .i64 ts[i].nd.kind, .int .i64 ts[i].nd.space, .string ⟨ts[i].nd.name.toArray⟩, .slice xa xl xc, .string ⟨ts[i].nd.text.toArray⟩, .slice ka ts[i].kids.length kc] 36)) (fun j hj => Nat.lt_of_lt_of_le (hBr j hj) hba.size) (hk.below hBr hba))
      have HBX : Hid (∀ x, Below (wr.alloc (.cells #[.int .i64 ts[i].nd.kind, .int .i64 ts[i].nd.space, .string ⟨ts[i].nd.name.toArray⟩, .slice xa xl xc, .string ⟨ts[i].nd.text.toArray⟩, .slice ka ts[i].kids.length kc] 36)).heap.size (wr.alloc (.cells #[.int .i64 ts[i].nd.kind, .int .i64 ts[i].nd.space, .string ⟨ts[i].nd.name.toArray⟩, .slice xa xl xc, .string ⟨ts[i].nd.text.toArray⟩, .slice ka ts[i].kids.length kc] 36)) x → x.cell? ⟨wr.heap.size, 0, none⟩ = some (.int .i64 ts[i].nd.kind)) := hide (fun x b => by
        rw [b.cell (by simp)]
        simp [go_sem])
      clear hn1 hk hba hBr
      generalize deepTs ts[i].kids = ci at *
      generalize ts[i].kids.length = kl at *
      generalize hkd : ts[i].nd.kind = n0 at *
      generalize ts[i].nd.space = n1 at *
      generalize ts[i].nd.name.toArray = n2 at *
      generalize ts[i].nd.text.toArray = n3 at *
      have HTA2 := hide hta
      generalize hds : deepTs (ts.take i) = ds at *
      clear hta hkd
      by_cases hk1 : n0 = 1
      · subst hk1
        have HTT : Hid (deepTs (ts.take (i + 1)) = max ds (ci + 1)) := hide (by rw [HTA2.out, if_pos rfl])
        clear HTA2
        go_wp2_with fail
        refine HC.out.mono ?_
        rintro e x1 ⟨rfl, b1⟩
        have q0 := HBX.out _ b1
        have HBN := hide (HBW.out.trans ((two_below b1).mono HBW.out.size))
        clear b1 u0 u1 u2 u3 u4 u5
        go_wp2
        all_goals exact ⟨⟨i + 1, by go_num, by omega, by rw [HTT.out]; congr 1; omega, HBN⟩, by simp [intOf]; omega⟩
      · have HTT : Hid (deepTs (ts.take (i + 1)) = max ds ci) := hide (by rw [HTA2.out, if_neg hk1, Nat.add_zero])
        clear HTA2
        go_wp2_with fail
        refine HC.out.mono ?_
        rintro e x1 ⟨rfl, b1⟩
        have q0 := HBX.out _ b1
        have HBN := hide (HBW.out.trans ((two_below b1).mono HBW.out.size))
        clear b1 u0 u1 u2 u3 u4 u5
        go_wp2
        all_goals exact ⟨⟨i + 1, by go_num, by omega, by rw [HTT.out]; congr 1; omega, HBN⟩, by simp [intOf]; omega⟩
    · have hlt2 : ¬ (i : Int) < ts.length := by omega
      have hke : ts.take i = ts := List.take_of_length_le (by omega)
      rw [hke]
      clear hle hke
      go_wp2
      go_ret
      exact ⟨rfl, HBW.out⟩
theorem deepP_any : ∀ {k : Nat} (ts : List (NT k)), countTs ts ≤ 1000000 → k ≤ 1000000 → DeepP ts
  | 0, ts, _, _ => by
    intro B va w hB h
    obtain ⟨rfl, h2⟩ := isK_zero h
    exact deepP_step ([] : List (NT 1)) (Nat.zero_le _) (Nat.zero_le _) (fun i hi => by simp at hi) B va w hB h2
  | k + 1, ts, h, hk => deepP_step ts (Nat.le_trans (manyTs_len ts) h) (by omega) fun i hi => deepP_any _ (by
    have h1 := manyTs_take ts i hi
    have h2 := manyTs_le ts (i + 1)
    omega) (by omega)
end Go.Proofs.YteccmjngdibeoaaGreatDoor
