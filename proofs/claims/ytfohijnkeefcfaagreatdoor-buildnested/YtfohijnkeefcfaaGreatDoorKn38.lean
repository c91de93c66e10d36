import Derived.Test.YtfohijnkeefcfaaGreatDoorKn05
import Derived.Test.YtfohijnkeefcfaaGreatDoorKn08
import Derived.Test.YtfohijnkeefcfaaGreatDoorKn09
import Derived.Test.YtfohijnkeefcfaaGreatDoorKn10
import Derived.Test.YtfohijnkeefcfaaGreatDoorKn19
import Derived.Test.YtfohijnkeefcfaaGreatDoorKn23
import Derived.Test.YtfohijnkeefcfaaGreatDoorKn29
import Derived.Test.YtfohijnkeefcfaaGreatDoorKn36
import Derived.Test.YtfohijnkeefcfaaGreatDoorKn37
set_option linter.unusedVariables false
set_option linter.unusedSimpArgs false
set_option maxRecDepth 100000
set_option maxHeartbeats 8000000
namespace Go.Proofs.YtfohijnkeefcfaaGreatDoor
open Go.RowKit
open S5 (ButA andNew PT IsA cell_lt below_alloc hide below_drewN)
variable {O : Nat -> Prop} {n : Nat} {w W : World} {bb : Nat} {s : PB} {c : Nat}
def tvOf (t : S4.Tok) (sv : Value) : TV := ⟨(t.kind : Int), ⟨t.name.toArray⟩, t.attrs, sv, t.closed, ⟨t.text.toArray⟩⟩
def nxt (m : BS) (r : Bs) : S4.Tok × Bs := S4.nextR m.mode m.name (!((curB m).sp == 0)) r
def StepOk (Q : BS -> Bs -> Prop) : Prop := ∀ (m : BS) (r : Bs) (s : PB) (sv : Value) (n bb c : Nat), Q m r -> m.e = 0 -> Rel0 s m -> s.e = 0 -> s.nm.size <= 20000 -> PInv c s -> c <= 250000000 -> r.length <= 20000 -> (nxt m r).1.kind ≠ 0 ->
  ∃ S, BC 33 n bb (tvOf (nxt m r).1 sv) s S /\ Rel S (takeB m (nxt m r).1) /\ PInv (c + 50000) S /\ S.nm.size <= 20000 /\ ((takeB m (nxt m r).1).e = 0 -> Q (takeB m (nxt m r).1) (nxt m r).2)
def Run8 (n0 : Nat) (w0 : World) (bb : Nat) (Q : BS -> Bs -> Prop) (l : Bs) (M : BS) (p : Nat) (x : World) : Prop :=
  ∃ (m : BS) (s : PB) (O : Nat -> Prop) (n : Nat), p <= l.length /\ IsB O n x bb s /\ (∀ k, O k -> n0 <= k /\ k < x.heap.size) /\ Rel s m /\ (m.e = 0 -> Q m (l.drop p)) /\ PInv (50000 * p) s /\ s.nm.size <= 20000 /\ runB ((l.drop p).length + 1) m (l.drop p) = M /\ Below n0 w0 x
theorem runB_end (k : Nat) (m : BS) (r : Bs) (h : m.e ≠ 0) : runB k m r = m := by
  cases k with
  | zero => rfl
  | succ k => rw [runB, if_pos h]
theorem nxt_short (m : BS) (r : Bs) (h : (nxt m r).1.kind ≠ 0) : (nxt m r).2.length < r.length := by
  by_cases h0 : r = []
  · subst h0
    exact absurd (by unfold nxt; rw [S4.nextR_nil]) h
  · exact (S4.next_good _ _ _ r h0).short
theorem run_stepP (k : Nat) (m : BS) (r : Bs) (he : m.e = 0) : runB (k + 1) m r = if (nxt m r).1.kind = 0 then m else runB k (takeB m (nxt m r).1) (nxt m r).2 := by
  rw [runB, if_neg (by simpa using he)]
  rfl
theorem run_more : ∀ (k : Nat) (r : Bs) (m : BS), r.length < k -> runB (k + 1) m r = runB k m r
  | 0, r, m, h => by omega
  | k + 1, r, m, h => by
    by_cases he : m.e = 0
    · rw [run_stepP (k + 1) m r he, run_stepP k m r he]
      split
      · rfl
      · rename_i hk
        have := nxt_short m r hk
        exact run_more k _ _ (by omega)
    · rw [runB_end _ _ _ he, runB_end _ _ _ he]
theorem run_enough (r : Bs) (m : BS) : ∀ d : Nat, runB (r.length + 1 + d) m r = runB (r.length + 1) m r
  | 0 => rfl
  | d + 1 => by
    rw [show r.length + 1 + (d + 1) = (r.length + 1 + d) + 1 by omega, run_more _ r m (by omega)]
    exact run_enough r m d
theorem IsB.raise (h : IsB O n w bb s) {n' : Nat} (h1 : n <= n') (h2 : n' <= w.heap.size) : IsB O n' w bb s := by
  obtain ⟨pb, og, cap, mv, A, h⟩ := h
  exact ⟨pb, og, cap, mv, A, { h with attL := fun m hm h0 k e => ⟨Nat.lt_of_lt_of_le (h.attL m hm h0 k e).1 h1, (h.attL m hm h0 k e).2⟩, nL := h2 }⟩
abbrev tok0W (w : World) : World := w.alloc (.cells #[.int .i64 0, .string ⟨#[]⟩, .slice none 0 0, .bool false, .string ⟨#[]⟩] 79)
theorem tok0_box (w : World) {x : World} (h : Below (tok0W w).heap.size (tok0W w) x) : (x.cell? ⟨w.heap.size, 0, none⟩ = some (.int .i64 0) /\ x.cell? ⟨w.heap.size, 1, none⟩ = some (.string ⟨#[]⟩) /\ x.cell? ⟨w.heap.size, 2, none⟩ = some (.slice none 0 0) /\ x.cell? ⟨w.heap.size, 3, none⟩ = some (.bool false) /\ x.cell? ⟨w.heap.size, 4, none⟩ = some (.string ⟨#[]⟩)) /\ (∀ j, x.frozen? ⟨w.heap.size, j, none⟩ = false) /\ Below w.heap.size w x := by
  refine ⟨⟨?_, ?_, ?_, ?_, ?_⟩, fun j => ?_, two_below h⟩
  · rw [h.cell (by simp)]; simp [go_sem]
  · rw [h.cell (by simp)]; simp [go_sem]
  · rw [h.cell (by simp)]; simp [go_sem]
  · rw [h.cell (by simp)]; simp [go_sem]
  · rw [h.cell (by simp)]; simp [go_sem]
  · rw [h.frozen (p := ⟨w.heap.size, j, none⟩) (by simp)]; exact (World.frozen?_alloc_mark w _ _ 0 0 j).trans (by simp)
abbrev set5W (x : World) (g : Nat) (a b c d e : Value) : World := ((((x.setCell ⟨g, 0, none⟩ a).setCell ⟨g, 1, none⟩ b).setCell ⟨g, 2, none⟩ c).setCell ⟨g, 3, none⟩ d).setCell ⟨g, 4, none⟩ e
theorem set5_other (x : World) (g : Nat) (a b c d e : Value) (k : Nat) (hk : k ≠ g) : (set5W x g a b c d e).heap[k]? = x.heap[k]? := by
  unfold set5W
  rw [Below.heap_setCell _ _ _ _ hk, Below.heap_setCell _ _ _ _ hk, Below.heap_setCell _ _ _ _ hk, Below.heap_setCell _ _ _ _ hk, Below.heap_setCell _ _ _ _ hk]
theorem set5_below {w x : World} {B g : Nat} (h : Below B w x) (hg : B <= g) (a b c d e : Value) : Below B w (set5W x g a b c d e) :=
  ((((h.setCell (p := ⟨g, 0, none⟩) hg _).setCell (p := ⟨g, 1, none⟩) hg _).setCell (p := ⟨g, 2, none⟩) hg _).setCell (p := ⟨g, 3, none⟩) hg _).setCell (p := ⟨g, 4, none⟩) hg _
theorem below_env {n0 : Nat} (hn : 2 <= n0) {w0 x : World} (hz : n0 <= w0.heap.size) (he : S4.Env w0) (hb : Below n0 w0 x) : S4.Env x := he.keep (hb.block 0 (by omega)) (hb.block 1 (by omega))
theorem takeAll_p (Q : BS -> Bs -> Prop) (hQ : StepOk Q) (T : ByteArray) (hT : T.size <= 4096) (n0 : Nat) (hn : 2 <= n0) (hz : n0 <= w.heap.size) (he : S4.Env w) (M : BS) (h0 : Run8 n0 w bb Q T.data.toList M 0 w) :
    Calls Tryz.prog 18 #[bP bb, .string T] w fun e w' => e = .returned (.tuple #[]) /\ (∃ S O n, IsB O n w' bb S /\ (∀ k, O k -> n0 <= k /\ k < w'.heap.size) /\ Rel S M /\ PInv 250000000 S) /\ Below n0 w w' := by
  have HE := hide he
  have H0 := hide h0
  have HQ := hide hQ
  have hTl : T.size = T.data.toList.length := S5.size_list T
  clear he h0 hQ
  go_enter Tryz.func18, Tryz.ntmps18
  go_wp2
  go_loopw [4] (fun at_ wr => ∃ p : Nat, at_ = .int .i64 (p : Int) /\ Hid (Run8 n0 w bb Q T.data.toList M p wr)) (fun at_ _ => T.size - (intOf at_).toNat)
  case atStart => exact ⟨0, rfl, H0⟩
  case round =>
    obtain ⟨p, rfl, HR⟩ := hrel
    generalize wr = wx at *
    obtain ⟨m, s, O, n, hp, hIs, hO, hRel, hQm, hI, hnm, hrun, hbel⟩ := HR.out
    have hL := hI.opL
    have hbx := hIs.bL
    have hnx := hIs.nL
    by_cases hme : m.e = 0
    · have hR0 := hRel.2 hme
      have hse : s.e = 0 := hRel.1.trans hme
      obtain ⟨r0, hr0⟩ := hI.hd
      have hmne : m.op ≠ [] := fun e => by have := hR0.op; rw [e, hr0] at this; simp [vs] at this
      have hcur := cur_rel hR0 hmne
      have eN : S4.nextZ s.mo s.nm.data.toList ((curP s).sp != 0) T.data.toList (p : Int) = nxt m (T.data.toList.drop p) := by
        rw [S4.nextZ_le _ _ _ _ _ hp, hcur]
        unfold nxt
        have e1 : ((curB m).v.sp != 0) = !((curB m).sp == 0) := rfl
        rw [e1, hR0.mo]
        by_cases h0 : m.mode = 0
        · rw [h0]; exact nextR_name _ _ _ _
        · rw [hR0.nm h0]
      have HC := hide (fun x (b : Below wx.heap.size wx x) => current_p (hIs.below b) hI.ne (by omega))
      have HF := hide (foreign_p (curP s))
      have HNx := hide (fun x (b : Below wx.heap.size wx x) => S4.pnext_any T s.nm (by omega) hnm (p : Int) s.mo ((curP s).sp != 0) x (below_env hn hz HE.out (hbel.trans (b.mono (Nat.le_trans hz hbel.size)))))
      rw [eN] at HNx
      have HCS : Hid (∀ x, Below wx.heap.size wx x -> x.cell? ⟨bb, 8, none⟩ = some (.int .i64 0) /\ x.cell? ⟨bb, 4, none⟩ = some (.int .i64 s.mo) /\ x.cell? ⟨bb, 5, none⟩ = some (.string s.nm)) := hide (fun x b => by
        obtain ⟨pb, og, cap, mv, A, v⟩ := hIs.below b
        have g8 := v.cs 8 (by omega)
        have g4 := v.cs 4 (by omega)
        have g5 := v.cs 5 (by omega)
        simp only [fv, List.getElem?_cons_succ, List.getElem?_cons_zero, hse] at g8 g4 g5
        exact ⟨g8, g4, g5⟩)
      obtain ⟨e8, _, _⟩ := HCS.out wx (Below.refl _ _)
      generalize curP s = C at *
      generalize hfb : (C.sp != 0) = fb at *
      generalize hNN : nxt m (T.data.toList.drop p) = NN at *
      obtain ⟨X0, hX0⟩ : ∃ X0, X0 = wx.alloc (.cells #[.int .i64 0, .string ⟨#[]⟩, .slice none 0 0, .bool false, .string ⟨#[]⟩] 79) := ⟨_, rfl⟩
      have KF : Hid (∀ x, Below X0.heap.size X0 x -> (x.cell? ⟨bb, 4, none⟩ = some (.int .i64 s.mo) /\ x.cell? ⟨bb, 5, none⟩ = some (.string s.nm)) /\ Below wx.heap.size wx x) := hide (fun x b => by
        rw [hX0] at b
        have hb := two_below b
        exact ⟨(HCS.out x hb).2, hb⟩)
      have KB : Hid (∀ x, Below X0.heap.size X0 x -> (x.cell? ⟨wx.heap.size, 0, none⟩ = some (.int .i64 0) /\ x.cell? ⟨wx.heap.size, 1, none⟩ = some (.string ⟨#[]⟩) /\ x.cell? ⟨wx.heap.size, 2, none⟩ = some (.slice none 0 0) /\ x.cell? ⟨wx.heap.size, 3, none⟩ = some (.bool false) /\ x.cell? ⟨wx.heap.size, 4, none⟩ = some (.string ⟨#[]⟩)) /\ (∀ j, x.frozen? ⟨wx.heap.size, j, none⟩ = false)) := hide (fun x b => by
        rw [hX0] at b
        exact ⟨(tok0_box wx b).1, (tok0_box wx b).2.1⟩)
      have KS : Hid (∀ x a b c d e, Below X0.heap.size X0 x -> (set5W x wx.heap.size a b c d e).cell? ⟨bb, 4, none⟩ = some (.int .i64 s.mo) /\ (set5W x wx.heap.size a b c d e).cell? ⟨bb, 5, none⟩ = some (.string s.nm)) := hide (fun x a b c d e hb => by
        obtain ⟨⟨g4, g5⟩, _⟩ := KF.out x hb
        have hk := set5_other x wx.heap.size a b c d e bb (by omega)
        exact ⟨S5.cell_same hk g4, S5.cell_same hk g5⟩)
      have DD := hide (Below.refl X0.heap.size X0).drew
      obtain ⟨⟨tk, tn, ta, tc, tt⟩, rest⟩ := NN
      have HNx2 : Hid (∀ x, Below wx.heap.size wx x -> Calls Tryz.prog 30 #[.string T, .int .i64 (p : Int), .int .i64 s.mo, .string s.nm, .bool fb] x fun e x3 => ∃ sa sl sc, (IsA x3 (.slice sa sl sc) ta /\ (∀ k, (Value.slice sa sl sc).ownBlock = some k -> x.heap.size <= k) /\ Below x.heap.size x x3) /\ e = .returned (.tuple #[.agg #[.int .i64 (tk : Int), .string ⟨tn.toArray⟩, .slice sa sl sc, .bool tc, .string ⟨tt.toArray⟩], .int .i64 ((T.size - rest.length : Nat) : Int)])) := hide (fun x b => (HNx.out x b).mono (by
        rintro e x3 ⟨⟨sv, hA, hk, rfl⟩, b3⟩
        obtain ⟨sa, sc, rfl⟩ := S5.isA_form (hA : S5.IsA x3 sv ta)
        exact ⟨sa, _, sc, ⟨hA, hk, b3⟩, rfl⟩))
      clear HNx
      have hXs : wx.heap.size < X0.heap.size := by rw [hX0]; simp
      have HBL := hide hbel
      by_cases hk0 : tk = 0
      · subst hk0
        have hM : m = M := by
          rw [<- hrun, run_stepP _ m _ hme, hNN]
          simp
        have HFin : Hid (∀ y, Below wx.heap.size wx y -> (∃ S O n, IsB O n y bb S /\ (∀ k, O k -> n0 <= k /\ k < y.heap.size) /\ Rel S M /\ PInv 250000000 S) /\ Below n0 w y) := hide (fun y b => ⟨⟨s, O, n, hIs.below b, fun k hk => ⟨(hO k hk).1, Nat.lt_of_lt_of_le (hO k hk).2 b.size⟩, hM ▸ hRel, hI.up (by omega)⟩, hbel.trans (b.mono (Nat.le_trans hz hbel.size))⟩)
        clear hrun hQm HR hIs hRel hbel hNN eN hM hcur hfb hTl hr0 hse hme hmne hp
        go_wp2_with fail
        rw [<- hX0]
        clear hX0
        go_region_held2 (fun W' => W'.cell? ⟨bb, 4, none⟩ = some (.int .i64 s.mo) /\ W'.cell? ⟨bb, 5, none⟩ = some (.string s.nm)) (first | with_reducible exact (KF.out _ DD.out).1 | with_reducible exact (KF.out _ B1.out).1 | with_reducible exact (KF.out _ B2.out).1 | with_reducible exact (KF.out _ B3.out).1 | with_reducible exact KS.out _ _ _ _ _ _ B3.out) (first | (go_at_call 32; refine (HC.out _ (KF.out _ DD.out).2).mono ?_; rintro e x1 ⟨rfl, b1⟩; have B1 := hide (DD.out.trans b1); clear b1) | (go_at_call 31; refine (HF.out _).mono ?_; rintro e x2 ⟨rfl, b2⟩; have B2 := hide (B1.out.trans (b2.mono B1.out.size)); clear b2) | (go_at_call 30; refine (HNx2.out _ (KF.out _ B2.out).2).mono ?_; rintro e x3 ⟨sa, sl, sc, hh, rfl⟩; have B3 := hide (B2.out.trans (hh.2.2.mono B2.out.size)); have HH := hide hh; obtain ⟨⟨q0, q1, q2, q3, q4⟩, qf⟩ := KB.out _ B3.out; have f0 := qf 0; have f1 := qf 1; have f2 := qf 2; have f3 := qf 3; have f4 := qf 4; clear hh qf))
        go_wp2
        refine bodyPost_ret (results_none rfl _ _ _) rfl ?_
        have hY := set5_below (KF.out _ B3.out).2 (Nat.le_refl _) (.int .i64 0) (.string ⟨tn.toArray⟩) (.slice sa sl sc) (.bool tc) (.string ⟨tt.toArray⟩)
        exact ⟨rfl, HFin.out _ hY⟩
      · have hk1 : ((tk : Int) == 0) = false := by
          rw [beq_eq_false_iff_ne]
          omega
        have HTAKE : Hid (∀ x x3 sa sl sc, Below X0.heap.size X0 x -> (IsA x3 (.slice sa sl sc) ta /\ (∀ k, (Value.slice sa sl sc).ownBlock = some k -> x.heap.size <= k) /\ Below x.heap.size x x3) -> Calls Tryz.prog 33 #[bP bb, .agg #[.int .i64 (tk : Int), .string ⟨tn.toArray⟩, .slice sa sl sc, .bool tc, .string ⟨tt.toArray⟩]] (set5W x3 wx.heap.size (.int .i64 (tk : Int)) (.string ⟨tn.toArray⟩) (.slice sa sl sc) (.bool tc) (.string ⟨tt.toArray⟩)) fun e y => e = .returned (.tuple #[]) /\ (Run8 n0 w bb Q T.data.toList M (T.size - rest.length) y /\ p < T.size - rest.length)) := hide (by
          intro x x3 sa sl sc bx ⟨hA, hsk, b3⟩
          have bY := set5_below (KF.out x3 (bx.trans (b3.mono bx.size))).2 (Nat.le_refl _) (.int .i64 (tk : Int)) (.string ⟨tn.toArray⟩) (.slice sa sl sc) (.bool tc) (.string ⟨tt.toArray⟩)
          have hYs : (set5W x3 wx.heap.size (.int .i64 (tk : Int)) (.string ⟨tn.toArray⟩) (.slice sa sl sc) (.bool tc) (.string ⟨tt.toArray⟩)).heap.size = x3.heap.size := by simp [set5W, World.setCell]
          have hoth := set5_other x3 wx.heap.size (.int .i64 (tk : Int)) (.string ⟨tn.toArray⟩) (.slice sa sl sc) (.bool tc) (.string ⟨tt.toArray⟩)
          generalize set5W x3 wx.heap.size (.int .i64 (tk : Int)) (.string ⟨tn.toArray⟩) (.slice sa sl sc) (.bool tc) (.string ⟨tt.toArray⟩) = Y at *
          have hsz : wx.heap.size < x.heap.size := Nat.lt_of_lt_of_le hXs bx.size
          have hne : (nxt m (T.data.toList.drop p)).1.kind ≠ 0 := by rw [hNN]; exact hk0
          have hrl : (T.data.toList.drop p).length <= 20000 := by rw [List.length_drop]; omega
          obtain ⟨S, hBC, hRS, hIS, hnS, hQS⟩ := HQ.out m (T.data.toList.drop p) s (.slice sa sl sc) Y.heap.size bb (50000 * p) (hQm hme) hme hR0 hse hnm hI (by omega) hrl hne
          rw [hNN] at hBC hRS hQS
          have hsh := nxt_short m _ hne
          rw [hNN] at hsh
          simp only [List.length_drop] at hsh
          have hA2 : IsA Y (.slice sa sl sc) ta := isA_keep' hA fun _ k e => hoth k (by have := hsk k e; omega)
          have hfew : ta.length <= 1000000 := by
            have := S4.nextR_few m.mode m.name (!((curB m).sp == 0)) (T.data.toList.drop p)
            have e : S4.nextR m.mode m.name (!((curB m).sp == 0)) (T.data.toList.drop p) = _ := hNN
            rw [e] at this
            have h2 : ta.length <= (T.data.toList.drop p).length := this
            omega
          have hTok : TOk O Y.heap.size Y (tvOf ⟨tk, tn, ta, tc, tt⟩ (.slice sa sl sc)) := ⟨⟨hA2, fun h0 k e => ⟨by
              rcases hA2 with ⟨_, e2⟩ | ⟨b, o, cap, e1, _, hc⟩
              · exact absurd e2 h0
              · have e' : (Value.slice sa sl sc).ownBlock = some k := e
                have : b = k := by rw [e1] at e'; simpa [Value.ownBlock] using e'
                rw [<- this]
                exact cell_lt (hc 0 (List.length_pos_iff.2 h0)).1, fun ho => by have := (hO k ho).2; have := hsk k e; omega⟩⟩, hfew⟩
          refine (hBC O Y ((hIs.below bY).raise (Nat.le_trans hnx bY.size) (Nat.le_refl _)) hTok).mono ?_
          rintro e y ⟨rfl, d⟩
          have hdrop : T.data.toList.drop (T.size - rest.length) = rest := by
            have := S4.nextR_back m.mode m.name (!((curB m).sp == 0)) T p (by omega)
            have e : S4.nextR m.mode m.name (!((curB m).sp == 0)) (T.data.toList.drop p) = _ := hNN
            rw [e] at this
            exact this.1
          refine ⟨rfl, ⟨takeB m ⟨tk, tn, ta, tc, tt⟩, S, fun k => andNew O Y.heap.size k /\ k < y.heap.size, Y.heap.size, by omega, d.1.tight, fun k hk => ⟨?_, hk.2⟩, hRS, fun he => by rw [hdrop]; exact hQS he, hIS.up (by omega), hnS, ?_, ?_⟩, by omega⟩
          · rcases hk.1 with h1 | h1
            · exact (hO k h1).1
            · have := bY.size
              have := hbel.size
              omega
          · rw [hdrop, <- hrun, run_stepP _ m _ hme, hNN, if_neg hk0]
            obtain ⟨dd, hdd⟩ : ∃ dd, (T.data.toList.drop p).length = rest.length + 1 + dd := ⟨(T.data.toList.drop p).length - (rest.length + 1), by simp only [List.length_drop]; omega⟩
            rw [hdd]
            exact (run_enough rest _ dd).symm
          · have h1 : Below n0 w Y := hbel.trans (bY.mono (Nat.le_trans hz hbel.size))
            exact h1.trans (d.2.1.below (fun k hk => (hO k hk).1) (Nat.le_trans hz h1.size)))
        clear hrun hQm HR hIs hRel hbel hNN eN HQ hR0 hI hcur hfb hTl hr0 hse hme hmne hp
        go_wp2_with fail
        rw [<- hX0]
        clear hX0
        go_region_held2 (fun W' => W'.cell? ⟨bb, 4, none⟩ = some (.int .i64 s.mo) /\ W'.cell? ⟨bb, 5, none⟩ = some (.string s.nm)) (first | with_reducible exact (KF.out _ DD.out).1 | with_reducible exact (KF.out _ B1.out).1 | with_reducible exact (KF.out _ B2.out).1 | with_reducible exact (KF.out _ B3.out).1 | with_reducible exact KS.out _ _ _ _ _ _ B3.out) (first | (go_at_call 32; refine (HC.out _ (KF.out _ DD.out).2).mono ?_; rintro e x1 ⟨rfl, b1⟩; have B1 := hide (DD.out.trans b1); clear b1) | (go_at_call 31; refine (HF.out _).mono ?_; rintro e x2 ⟨rfl, b2⟩; have B2 := hide (B1.out.trans (b2.mono B1.out.size)); clear b2) | (go_at_call 30; refine (HNx2.out _ (KF.out _ B2.out).2).mono ?_; rintro e x3 ⟨sa, sl, sc, hh, rfl⟩; have B3 := hide (B2.out.trans (hh.2.2.mono B2.out.size)); have HH := hide hh; obtain ⟨⟨q0, q1, q2, q3, q4⟩, qf⟩ := KB.out _ B3.out; have f0 := qf 0; have f1 := qf 1; have f2 := qf 2; have f3 := qf 3; have f4 := qf 4; clear hh qf))
        go_wp2_with fail
        refine (HTAKE.out _ _ _ _ _ B2.out HH.out).mono ?_
        rintro e y ⟨rfl, hRun, hlt⟩
        have HRun := hide hRun
        clear hRun
        go_wp2
        exact ⟨⟨_, rfl, HRun⟩, by simp [intOf]; omega⟩
    · have hse : ¬ s.e = 0 := fun e => hme (hRel.1.symm.trans e)
      have e8 : wx.cell? ⟨bb, 8, none⟩ = some (.int .i64 s.e) := by
        obtain ⟨pb, og, cap, mv, A, v⟩ := hIs
        exact v.cs 8 (by omega)
      have HFin : Hid (∃ S O n, IsB O n wx bb S /\ (∀ k, O k -> n0 <= k /\ k < wx.heap.size) /\ Rel S M /\ PInv 250000000 S) := hide ⟨s, O, n, hIs, hO, by rw [runB_end _ _ _ hme] at hrun; rw [<- hrun]; exact hRel, hI.up (by omega)⟩
      generalize s.e = q at *
      have BL := hide hbel
      clear hrun hQm HR hIs hRel hbel
      go_wp2
      go_end0
      exact ⟨rfl, HFin.out, BL.out⟩
end Go.Proofs.YtfohijnkeefcfaaGreatDoor
namespace Go.Proofs.YtfohijnkeefcfaaGreatDoor
open Go.RowKit
open S5 (ButA andNew PT IsA cell_lt below_alloc hide below_drewN)
variable {O : Nat -> Prop} {n : Nat} {w W : World} {bb : Nat} {s : PB} {c : Nat}
def startP : PB := ⟨S5.newL, [rootV], [], 0, 0, ⟨#[]⟩, false, false, 0⟩
abbrev startW (w1 : World) (pb : Nat) : World := (w1.alloc (.cells #[.int .i64 0, .int .i64 0, .string ⟨#[104, 116, 109, 108]⟩] 76)).alloc (.cells #[.pointer (some ⟨pb, 0, none⟩), .slice (some ⟨w1.heap.size, 0, none⟩) 1 1, .slice none 0 0, .int .i64 0, .int .i64 0, .string ⟨#[]⟩, .bool false, .bool false, .int .i64 0] 55)
theorem start_isB {w w1 : World} {pb : Nat} (b1 : Below w.heap.size w w1) (hP : PT (fun k => w.heap.size <= k /\ k < w1.heap.size) w1 pb S5.newL) : IsB (fun k => w.heap.size <= k /\ k < (startW w1 pb).heap.size) w.heap.size (startW w1 pb) (w1.heap.size + 1) startP := by
  have bS : Below w1.heap.size w1 (startW w1 pb) := (below_alloc w1 _).trans ((below_alloc _ _).mono (by simp))
  have hz : (startW w1 pb).heap.size = w1.heap.size + 1 + 1 := by simp [startW]
  have h1 := b1.size
  have hrow : (startW w1 pb).ownsRow 0 76 3 (opV w1.heap.size 1 1) 1 (opCells [rootV]) := by
    have h2 := World.ownsRow_lit (base := 0) (e := 76) (size := 3) w1 #[.int .i64 0, .int .i64 0, .string ⟨#[104, 116, 109, 108]⟩] 1 (Nat.zero_le _) (by unfold maxLen; omega) rfl
    exact S5.owns_below h2 (below_alloc _ _)
  refine ⟨pb, w1.heap.size, 1, .slice none 0 0, fun k => w.heap.size <= k /\ k < w1.heap.size, ?_, fun j => ?_, hP.below bS, hrow, .inl ⟨rfl, _, _, rfl⟩, fun b o l c e => (by cases e), fun m hm => absurd hm (by simp [startP]), fun m hm => absurd hm (by simp [startP]), (by omega), fun k hk => ⟨⟨hk.1, by omega⟩, by omega⟩, ⟨(by omega), (by omega)⟩, ⟨(by omega), (by omega)⟩, fun h => (by omega), fun h => (by omega), (by omega)⟩
  · intro j hj
    have hs : (w1.alloc (.cells #[.int .i64 0, .int .i64 0, .string ⟨#[104, 116, 109, 108]⟩] 76)).heap.size = w1.heap.size + 1 := by simp
    have hc := World.cell?_alloc_mark (w1.alloc (.cells #[.int .i64 0, .int .i64 0, .string ⟨#[104, 116, 109, 108]⟩] 76)) #[.pointer (some ⟨pb, 0, none⟩), .slice (some ⟨w1.heap.size, 0, none⟩) 1 1, .slice none 0 0, .int .i64 0, .int .i64 0, .string ⟨#[]⟩, .bool false, .bool false, .int .i64 0] 55 (0, 0) j
    rw [hs] at hc
    refine hc.trans ?_
    rcases (by omega : j = 0 \/ j = 1 \/ j = 2 \/ j = 3 \/ j = 4 \/ j = 5 \/ j = 6 \/ j = 7 \/ j = 8) with rfl | rfl | rfl | rfl | rfl | rfl | rfl | rfl | rfl <;> rfl
  · have hs : (w1.alloc (.cells #[.int .i64 0, .int .i64 0, .string ⟨#[104, 116, 109, 108]⟩] 76)).heap.size = w1.heap.size + 1 := by simp
    have hf := World.frozen?_alloc_mark (w1.alloc (.cells #[.int .i64 0, .int .i64 0, .string ⟨#[104, 116, 109, 108]⟩] 76)) #[.pointer (some ⟨pb, 0, none⟩), .slice (some ⟨w1.heap.size, 0, none⟩) 1 1, .slice none 0 0, .int .i64 0, .int .i64 0, .string ⟨#[]⟩, .bool false, .bool false, .int .i64 0] 55 0 0 j
    rw [hs] at hf
    exact hf.trans (by simp)
theorem newBuilder_p (w : World) : Calls Tryz.prog 17 #[] w fun e w' => (∃ bb, e = .returned (bP bb) /\ IsB (fun k => w.heap.size <= k /\ k < w'.heap.size) w.heap.size w' bb startP) /\ Below w.heap.size w w' := by
  have HN := hide S5.pnew_p
  go_enter Tryz.func17, Tryz.ntmps17
  go_wp2_with fail
  refine (HN.out _).mono ?_
  rintro e w1 ⟨⟨pb, rfl, hP⟩, b1⟩
  have HP := hide hP
  have B1 := hide b1
  clear hP b1
  go_wp2
  go_ret
  exact ⟨⟨_, rfl, start_isB B1.out HP.out⟩, B1.out.trans (((below_alloc w1 _).trans ((below_alloc _ _).mono (by simp))).mono B1.out.size)⟩
theorem start_inv : PInv 0 startP where
  hd := ⟨[], rfl⟩
  opL := by decide
  wf := S5.WF.new
  t0 := by decide
  tL := by decide
  mrL := Nat.le_refl _
  aaL := fun m hm => absurd hm (by simp [startP])
  txL := fun i => by
    cases i with
    | zero => exact Nat.le_refl _
    | succ i => cases i <;> exact Nat.le_refl _
  atL := fun i => by
    cases i with
    | zero => exact Nat.zero_le _
    | succ i => cases i <;> exact Nat.zero_le _
theorem start_rel : Rel startP {} := ⟨rfl, fun _ => { T := rfl, op := rfl, mr := rfl, ru := rfl, mo := rfl, nm := fun h => absurd rfl h, fo := rfl, sk := rfl }⟩
theorem isK_form {B : Nat -> Prop} {w : World} {k : Nat} {ks : List (S5.NT k)} {kv : Value} (h : S5.IsK B w ks kv) : ∃ a l c, kv = .slice a l c := by
  rcases h with ⟨rfl, _⟩ | ⟨b, o, cap, rfl, _⟩
  · exact ⟨_, _, _, rfl⟩
  · exact ⟨_, _, _, rfl⟩
theorem isK_mono {B C : Nat -> Prop} {w : World} {k : Nat} {ks : List (S5.NT k)} {kv : Value} (hm : ∀ k, B k -> C k) (h : S5.IsK B w ks kv) : S5.IsK C w ks kv := by
  rcases h with h | ⟨b, o, cap, e, h1, h2, h3⟩
  · exact .inl h
  · rcases h2 with h2 | h2
    · subst h2
      exact .inr ⟨b, o, cap, e, h1, .inl rfl, trivial⟩
    · exact .inr ⟨b, o, cap, e, h1, .inr (hm b h2), S5.IsNs.keep (fun _ _ => rfl) hm b h2 o ks h3⟩
def FragA (w : World) (l : Bs) (e : Ending) (w' : World) : Prop := ∃ a k c, e = .returned (.tuple #[.slice a k c, .int .i64 (fragErr l)]) /\ (fragErr l ≠ 0 -> k = 0) /\ (fragErr l = 0 -> S5.IsK (fun k => w.heap.size <= k) w' (S5.valueL (buildL l).T 0).kids (.slice a k c)) /\ Below w.heap.size w w'
theorem fld_kids (v0 v1 v2 v3 v4 v5 : Value) (W : World) : (Instr.field 45 (.agg #[v0, v1, v2, v3, v4, v5]) 5).run Tryz.prog W = .ok v5 W := by rfl
theorem fragment_p (Q : BS -> Bs -> Prop) (hQ : StepOk Q) (T : ByteArray) (hT : T.size <= 4096) (w : World) (he : S4.Env w) (h0 : Q {} T.data.toList) : Calls Tryz.prog 8 #[.string T] w (FragA w T.data.toList) := by
  have hTl : T.size = T.data.toList.length := S5.size_list T
  have hfe : fragErr T.data.toList = (buildL T.data.toList).e := by unfold fragErr; rw [if_neg (by omega)]
  have HN := hide (newBuilder_p w)
  have h2 := he.two
  have HT : Hid (∀ w1 bb, Below w.heap.size w w1 -> IsB (fun k => w.heap.size <= k /\ k < w1.heap.size) w.heap.size w1 bb startP -> Calls Tryz.prog 18 #[bP bb, .string T] w1 fun e w' => e = .returned (.tuple #[]) /\ (∃ S O n, IsB O n w' bb S /\ Rel S (buildL T.data.toList) /\ PInv 250000000 S) /\ Below w.heap.size w w') := hide (by
    intro w1 bb b1 hB
    refine (takeAll_p Q hQ T hT w.heap.size h2 b1.size (he.below b1) (buildL T.data.toList) ⟨{}, startP, _, _, Nat.zero_le _, hB, fun k hk => hk, start_rel, fun _ => h0, start_inv, by decide, rfl, Below.refl _ _⟩).mono ?_
    rintro e w' ⟨rfl, ⟨S, O, n, h1, _, h3, h4⟩, b⟩
    exact ⟨rfl, ⟨S, O, n, h1, h3, h4⟩, b1.trans b⟩)
  have HV : Hid (∀ w2 bb S O n, IsB O n w2 bb S -> Rel S (buildL T.data.toList) -> PInv 250000000 S -> Below w.heap.size w w2 -> ∃ pb, w2.cell? ⟨bb, 0, none⟩ = some (.pointer (some ⟨pb, 0, none⟩)) /\ w2.cell? ⟨bb, 8, none⟩ = some (.int .i64 (buildL T.data.toList).e) /\ ((buildL T.data.toList).e = 0 -> Calls Tryz.prog 19 #[.pointer (some ⟨pb, 0, none⟩), .int .i64 0] w2 fun e w' => (∃ av kv d, e = .returned (.agg (S5.nodeC d av kv).toArray) /\ (∃ a k c, av = .slice a k c) /\ S5.IsK (fun k => w2.heap.size <= k) w' (S5.valueL (buildL T.data.toList).T 0).kids kv) /\ Below w2.heap.size w2 w')) := hide (by
    intro w2 bb S O n hB hR hI b2
    obtain ⟨pb, og, cap, mv, A, v⟩ := hB
    refine ⟨pb, v.cs 0 (by omega), by have := v.cs 8 (by omega); rw [<- hR.1]; exact this, fun he0 => ?_⟩
    have hT2 := (hR.2 he0).T
    have hlen := hI.tL
    have h00 := hI.t0
    refine (S5.valueZ_p hI.wf (by omega) hI.atL pb 0 v.tree).mono ?_
    rintro e w' ⟨⟨vs, rfl, hN⟩, b⟩
    have hv : S5.valueZ S.T 0 = S5.valueL S.T 0 := by
      unfold S5.valueZ
      rw [if_pos (by unfold S5.inT; omega)]
      rfl
    rw [hv, hT2, S5.NT.form (S5.valueL (buildL T.data.toList).T 0)] at hN
    obtain ⟨av, kv, rfl, hA, hK⟩ := (S5.isN_iff _ _ _ _ _).1 hN
    obtain ⟨a, k, c, e⟩ : ∃ a k c, av = .slice a k c := by
      obtain ⟨a, c, e⟩ := S5.isA_form hA.1
      exact ⟨a, _, c, e⟩
    exact ⟨⟨av, kv, _, rfl, ⟨a, k, c, e⟩, hK⟩, b⟩)
  have hT2 : ¬ (4096 : Int) < T.size := by omega
  unfold FragA
  rw [hfe]
  generalize buildL T.data.toList = BL at *
  clear hfe h0 hTl
  by_cases hz : BL.e = 0
  · rw [hz] at HV ⊢
    go_enter Tryz.func8, Tryz.ntmps8
    go_wp2_with fail
    refine HN.out.mono ?_
    rintro e w1 ⟨⟨bb, rfl, hB⟩, b1⟩
    have HB := hide hB
    have B1 := hide b1
    clear hB b1
    go_wp2_with fail
    refine (HT.out _ _ B1.out HB.out).mono ?_
    rintro e w2 ⟨rfl, ⟨S, O, n, h1, h3, h4⟩, b2⟩
    obtain ⟨pb, c0, c8, hV⟩ := HV.out _ _ _ _ _ h1 h3 h4 b2
    have HVV := hide (hV (by simp))
    have B2 := hide b2
    clear h1 h3 h4 b2 hV
    go_wp2_with fail
    refine HVV.out.mono ?_
    rintro e w3 ⟨⟨av, kv, d, rfl, ⟨a, k, c, rfl⟩, hK⟩, b3⟩
    obtain ⟨a2, k2, c2, rfl⟩ := isK_form hK
    have HK := hide (isK_mono (C := fun k => w.heap.size <= k) (fun k hk => Nat.le_trans B2.out.size hk) hK)
    have B3 := hide (B2.out.trans (b3.mono B2.out.size))
    clear hK b3
    simp only [S5.nodeC]
    have hfld := fld_kids
    go_wp2
    go_ret2
    exact ⟨a2, k2, c2, rfl, fun h => absurd rfl h, fun _ => HK.out, B3.out⟩
  · go_enter Tryz.func8, Tryz.ntmps8
    go_wp2_with fail
    refine HN.out.mono ?_
    rintro e w1 ⟨⟨bb, rfl, hB⟩, b1⟩
    have HB := hide hB
    have B1 := hide b1
    clear hB b1
    go_wp2_with fail
    refine (HT.out _ _ B1.out HB.out).mono ?_
    rintro e w2 ⟨rfl, ⟨S, O, n, h1, h3, h4⟩, b2⟩
    obtain ⟨pb, c0, c8, hV⟩ := HV.out _ _ _ _ _ h1 h3 h4 b2
    have B2 := hide b2
    clear h1 h3 h4 b2 hV
    generalize hq : BL.e = q at *
    go_wp2_with fail
    go_region
    go_wp2
    go_ret2
    subst hq
    exact ⟨none, 0, 0, rfl, fun _ => rfl, fun h => absurd h hz, B2.out.drew⟩
end Go.Proofs.YtfohijnkeefcfaaGreatDoor
namespace Go.Proofs.YtfohijnkeefcfaaGreatDoor
theorem flat_vf : ∀ {k : Nat} (ts : List (G5.NT k)) (D : Nat) (F : FL), VF F -> D <= lastD F -> VF (F ++ flatTs (D + 1) ts) /\ D <= lastD (F ++ flatTs (D + 1) ts)
  | 0, ts, D, F, h, hD => by
    cases ts with
    | nil => simpa [flatTs] using ⟨h, hD⟩
    | cons x r => exact x.none
  | k + 1, ts, D, F, h, hD => by
    have key : ∀ (l : List (G5.NT (k + 1))) (F : FL), VF F -> D <= lastD F -> VF (F ++ flatTs (D + 1) l) /\ D <= lastD (F ++ flatTs (D + 1) l) := by
      intro l
      induction l with
      | nil => intro F h hD; simpa [flatTs] using ⟨h, hD⟩
      | cons t r ih =>
        intro F h hD
        obtain ⟨a1, a2⟩ := h.app D (cvN t.nd) hD
        obtain ⟨b1, b2⟩ := flat_vf t.kids (D + 1) _ a1 (by omega)
        obtain ⟨c1, c2⟩ := ih _ b1 (by omega)
        have e : F ++ flatTs (D + 1) (t :: r) = F ++ [(D + 1, cvN t.nd)] ++ flatTs (D + 1 + 1) t.kids ++ flatTs (D + 1) r := by
          rw [flatTs_cons, flatT_mk]
          simp
        rw [e]
        exact ⟨c1, c2⟩
    exact key ts F h hD
theorem flat_len : ∀ {k : Nat} (ts : List (G5.NT k)) (D : Nat), (evTs ts).length <= 2 * (flatTs D ts).length /\ (flatTs D ts).length <= P9.sizeTs ts
  | 0, ts, D => by
    cases ts with
    | nil => exact ⟨Nat.le_refl _, Nat.le_refl _⟩
    | cons x r => exact x.none
  | k + 1, ts, D => by
    induction ts with
    | nil => exact ⟨Nat.le_refl _, Nat.le_refl _⟩
    | cons t r ih =>
      obtain ⟨a1, a2⟩ := flat_len t.kids (D + 1)
      have e : P9.sizeTs (t :: r) = P9.sizeT t + P9.sizeTs r := by unfold P9.sizeTs; rw [List.map_cons, List.sum_cons]
      rw [evTs_cons, flatTs_cons, e, P9.sizeT_mk, evT_mk, flatT_mk]
      rw [List.length_append, List.length_append, List.length_cons]
      refine ⟨?_, by omega⟩
      split
      · simp only [List.length_cons, List.length_nil]
        omega
      · simp only [List.length_cons, List.length_append, List.length_nil]
        omega
theorem again_tree {k : Nat} (ts : List (G5.NT k)) (h : plainTs ts) (hs : P9.sizeTs ts <= 499) (ht : P9.tallTs ts <= 60) :
    goodE (evTs ts) [] /\ (evTs ts).length < 1000 /\ fragErr (P9.printTs false ts) = 0 /\ G5.eqTs ts ((S5.valueL (buildL (P9.printTs false ts)).T 0).kids.map cvT) = true := by
  have hg : goodE (evTs ts) [] := by
    have := good_ev ts [] [] h (by simp; omega) (by simp [goodE]) (by simp)
    rwa [List.append_nil] at this
  obtain ⟨l1, l2⟩ := flat_len ts 1
  have hl : (evTs ts).length < 1000 := by omega
  have hb := ev_build (evTs ts) hl hg
  have hr : runE (evTs ts) [(0, {})] [] = ([(0, ({} : S5.ND))] ++ flatTs 1 ts, []) := by
    have := run_ev ts [(0, {})] [] [] h (by simp) (fun hc => by
      have := hc.1
      simp [ndF] at this)
    rw [List.append_nil] at this
    rw [this]
    rfl
  rw [hr] at hb
  rw [print_ev ts h]
  have hp := P9.printTs_len false ts
  rw [print_ev ts h] at hp
  refine ⟨hg, hl, ?_, ?_⟩
  · unfold fragErr
    rw [if_neg (by omega), hb]
    rfl
  · rw [hb]
    show G5.eqTs ts ((S5.valueL (layF ([(0, ({} : S5.ND))] ++ flatTs 1 ts)) 0).kids.map cvT) = true
    have hv := (flat_vf ts 0 [(0, {})] root_vf (Nat.zero_le _)).1
    refine flat_inj ts _ 1 ?_
    have h1 := flat_value (layF ([(0, ({} : S5.ND))] ++ flatTs 1 ts)) (layF ([(0, ({} : S5.ND))] ++ flatTs 1 ts)).length 0 0
    rw [fl_all _ hv _ (by rw [lay_len]; exact Nat.le_refl _)] at h1
    have h2 : (0, (S5.valueL (layF ([(0, ({} : S5.ND))] ++ flatTs 1 ts)) 0).nd) :: flatSs 1 (S5.valueL (layF ([(0, ({} : S5.ND))] ++ flatTs 1 ts)) 0).kids = (0, ({} : S5.ND)) :: flatTs 1 ts := h1
    injection h2 with _ h2
    exact h2.symm
theorem row_cv {α β : Type} {P : α -> List Value -> Prop} {Q : β -> List Value -> Prop} {w : World} {b : Nat} (f : α -> β) (hf : ∀ x vs, P x vs -> Q (f x) vs) : ∀ (o : Nat) (ks : List α), S5.RowG P w b o ks -> G5.RowG Q w b o (ks.map f)
  | _, [], _ => trivial
  | o, k :: r, h => by
    obtain ⟨⟨vs, h1, h2⟩, h3⟩ := h
    exact ⟨⟨vs, h1, hf k vs h2⟩, row_cv f hf (o + 6) r h3⟩
theorem isA_cv {w : World} {v : Value} {aa : G5.AttrL} (h : S5.IsA w v aa) : G5.IsA w v aa := by
  rcases h with ⟨rfl, rfl⟩ | h
  · exact .inl ⟨⟨_, _, rfl⟩, rfl⟩
  · exact .inr h
theorem isN_cv {B : Nat -> Prop} {w : World} : ∀ {k : Nat} (t : S5.NT k) (vs : List Value), S5.IsN B w t vs -> G5.IsN B w (cvT t) vs
  | 0, t, vs, h => t.none
  | k + 1, t, vs, h => by
    obtain ⟨av, kv, rfl, ⟨ha, ha2⟩, hk⟩ := h
    refine ⟨av, kv, rfl, ⟨isA_cv ha, ha2⟩, ?_⟩
    show ((∃ a c, kv = .slice a 0 c) /\ t.kids.map (fun x => cvT x) = []) \/ ∃ b o cap, kv = .slice (some ⟨b, o, none⟩) (t.kids.map fun x => cvT x).length cap /\ (t.kids.map fun x => cvT x).length <= cap /\ (t.kids.map (fun x => cvT x) = [] \/ B b) /\ G5.RowG (fun x us => G5.IsN B w x us) w b o (t.kids.map fun x => cvT x)
    rcases hk with ⟨rfl, e⟩ | ⟨b, o, cap, e1, e2, e3, e4⟩
    · rw [e]; exact .inl ⟨⟨_, _, rfl⟩, rfl⟩
    · refine .inr ⟨b, o, cap, by rw [List.length_map]; exact e1, by rw [List.length_map]; exact e2, ?_, row_cv _ (fun x us hx => isN_cv x us hx) o _ e4⟩
      rcases e3 with e3 | e3
      · rw [e3]; exact .inl rfl
      · exact .inr e3
theorem isK_cv {B : Nat -> Prop} {w : World} {k : Nat} {ts : List (S5.NT k)} {v : Value} (h : S5.IsK B w ts v) : G5.IsK B w (ts.map cvT) v := by
  rcases h with ⟨rfl, rfl⟩ | ⟨b, o, cap, e1, e2, e3, e4⟩
  · exact .inl ⟨⟨_, _, rfl⟩, rfl⟩
  · refine .inr ⟨b, o, cap, by rw [List.length_map]; exact e1, by rw [List.length_map]; exact e2, ?_, row_cv _ (fun x us hx => isN_cv x us hx) o _ e4⟩
    rcases e3 with rfl | e3
    · exact .inl rfl
    · exact .inr e3
theorem same_eq {d e : G5.ND} (h : d.same e = true) : d = e := by
  unfold G5.ND.same at h
  simp only [Bool.and_eq_true, beq_iff_eq] at h
  obtain ⟨⟨⟨⟨h1, h2⟩, h3⟩, h4⟩, h5⟩ := h
  cases d; cases e
  simp_all
structure Alike {k j : Nat} (ts : List (G5.NT k)) (us : List (G5.NT j)) : Prop where
  print : ∀ raw, P9.printTs raw ts = P9.printTs raw us
  size : P9.sizeTs ts = P9.sizeTs us
  ok : G5.OkTs ts -> G5.OkTs us
  len : ts.length = us.length
theorem alike_of : ∀ {k : Nat} (ts : List (G5.NT k)) {j : Nat} (us : List (G5.NT j)), G5.eqTs ts us = true -> Alike ts us
  | 0, ts, j, us, h => by
    cases ts with
    | cons x r => exact x.none
    | nil =>
      cases us with
      | nil => exact ⟨fun _ => rfl, rfl, fun _ x hx => (by cases hx), rfl⟩
      | cons u r => cases h
  | k + 1, ts, 0, us, h => by
    cases us with
    | cons x r => exact x.none
    | nil =>
      cases ts with
      | nil => exact ⟨fun _ => rfl, rfl, fun _ x hx => (by cases hx), rfl⟩
      | cons u r => cases h
  | k + 1, ts, j + 1, us, h => by
    induction ts generalizing us with
    | nil =>
      cases us with
      | nil => exact ⟨fun _ => rfl, rfl, fun _ x hx => (by cases hx), rfl⟩
      | cons u r => cases h
    | cons t r ih =>
      cases us with
      | nil => cases h
      | cons u s =>
        have h' : (G5.eqT t u && G5.eqTs r s) = true := h
        rw [Bool.and_eq_true] at h'
        have i := ih s h'.2
        have h2 : (t.nd.same u.nd && G5.eqTs t.kids u.kids) = true := h'.1
        rw [Bool.and_eq_true] at h2
        have hn := same_eq h2.1
        have q := alike_of t.kids u.kids h2.2
        refine ⟨fun raw => ?_, ?_, fun ho x hx => ?_, by rw [List.length_cons, List.length_cons, i.len]⟩
        · show P9.printT raw t ++ P9.printTs raw r = P9.printT raw u ++ P9.printTs raw s
          rw [i.print, P9.printT_mk, P9.printT_mk, hn, q.print]
        · have e1 : P9.sizeTs (t :: r) = P9.sizeT t + P9.sizeTs r := by unfold P9.sizeTs; rw [List.map_cons, List.sum_cons]
          have e2 : P9.sizeTs (u :: s) = P9.sizeT u + P9.sizeTs s := by unfold P9.sizeTs; rw [List.map_cons, List.sum_cons]
          rw [e1, e2, i.size, P9.sizeT_mk, P9.sizeT_mk, hn, q.size]
        · rcases List.mem_cons.1 hx with rfl | hx
          · obtain ⟨a, b, c⟩ := (ho t (by simp) : t.nd.attrs.length <= 9223372036854775807 /\ t.kids.length <= 9223372036854775807 /\ ∀ x ∈ t.kids, G5.OkT x)
            show x.nd.attrs.length <= 9223372036854775807 /\ x.kids.length <= 9223372036854775807 /\ ∀ y ∈ x.kids, G5.OkT y
            rw [<- hn, <- q.len]
            exact ⟨a, b, q.ok c⟩
          · exact i.ok (fun y hy => ho y (by simp [hy])) x hx
end Go.Proofs.YtfohijnkeefcfaaGreatDoor
namespace Go.Proofs.YtfohijnkeefcfaaGreatDoor
open Go.RowKit
open G5 (hide)
def xNode {k : Nat} : G5.NT (k + 1) := .mk { kind := 2, text := [120] } []
def eNode {k : Nat} (nm : Bs) (ks : List (G5.NT k)) : G5.NT (k + 1) := .mk { kind := 1, name := nm } ks
theorem esc_x : ∀ m : Nat, P9.escL false (List.replicate m 120) = List.replicate m 120
  | 0 => rfl
  | m + 1 => by
    rw [List.replicate_succ]
    show P9.escG false false (120 :: List.replicate m 120) = _
    rw [P9.escG, if_neg (fun h => absurd h.1 (by decide))]
    have := esc_x m
    unfold P9.escL at this
    rw [this]
    rfl
structure Shp {k : Nat} (S : ByteArray) (ts : List (G5.NT (k + 1))) (c : Nat) : Prop where
  pr : S.data.toList = P9.printTs false ts
  ap : apart false ts
  ok : ∀ t ∈ ts, nodeOk t
  sz : P9.sizeTs ts <= 6 * c
  xs : ∀ t ∈ ts, t.nd.kind = 2 -> ∃ m, t.nd.text = List.replicate m 120
theorem Shp.none {k : Nat} : Shp ⟨#[]⟩ ([] : List (G5.NT (k + 1))) 0 := ⟨rfl, trivial, fun t h => (by cases h), Nat.le_refl _, fun t h => (by cases h)⟩
theorem Shp.up {k : Nat} {S : ByteArray} {ts : List (G5.NT (k + 1))} {c d : Nat} (h : Shp S ts c) (hc : c <= d) : Shp S ts d := { h with sz := Nat.le_trans h.sz (by omega) }
theorem Shp.size {k : Nat} {S : ByteArray} {ts : List (G5.NT (k + 1))} {c : Nat} (h : Shp S ts c) : S.size <= 42 * c := by
  rw [G5.size_list, h.pr]
  have := P9.printTs_len false ts
  have := h.sz
  omega
theorem Shp.len {k : Nat} {S : ByteArray} {ts : List (G5.NT (k + 1))} {c : Nat} (h : Shp S ts c) : ts.length <= 6 * c := by
  have h1 : ∀ l : List (G5.NT (k + 1)), l.length <= P9.sizeTs l := by
    intro l
    induction l with
    | nil => exact Nat.le_refl _
    | cons t r ih =>
      have e : P9.sizeTs (t :: r) = P9.sizeT t + P9.sizeTs r := by unfold P9.sizeTs; rw [List.map_cons, List.sum_cons]
      rw [e, P9.sizeT_mk, List.length_cons]
      omega
  have := h1 ts
  have := h.sz
  omega
theorem apart_app {k : Nat} (no : Bool) : ∀ (l : List (G5.NT (k + 1))) (t : G5.NT (k + 1)), apart no l -> (∀ u, l.getLast? = some u -> u.nd.kind = 2 -> t.nd.kind ≠ 2) -> (l = [] -> no = true -> t.nd.kind ≠ 2) -> apart no (l ++ [t])
  | [], t, _, _, h => ⟨h rfl, trivial⟩
  | x :: r, t, ha, hl, h => by
    refine ⟨ha.1, apart_app _ r t ha.2 (fun u hu => ?_) (fun hr hx => ?_)⟩
    · refine hl u ?_
      cases r with
      | nil => cases hu
      | cons y s => rw [List.getLast?_cons_cons]; exact hu
    · subst hr
      exact hl x rfl (by simpa using hx)
theorem apart_kinds {k : Nat} : ∀ (no : Bool) (l m : List (G5.NT (k + 1))), l.map (fun t => t.nd.kind) = m.map (fun t => t.nd.kind) -> apart no l -> apart no m
  | _, [], [], _, _ => trivial
  | _, [], y :: s, h, _ => by cases h
  | _, x :: r, [], h, _ => by cases h
  | no, x :: r, y :: s, h, ha => by
    simp only [List.map_cons, List.cons.injEq] at h
    refine ⟨fun hn => by rw [<- h.1]; exact ha.1 hn, ?_⟩
    rw [<- h.1]
    exact apart_kinds _ r s h.2 ha.2
theorem printTs_one {k : Nat} (t : G5.NT (k + 1)) (ts : List (G5.NT (k + 1))) : P9.printTs false (ts ++ [t]) = P9.printTs false ts ++ P9.printT false t := by
  rw [P9.printTs_app]
  have e : P9.printTs false [t] = P9.printT false t ++ [] := rfl
  rw [e, List.append_nil]
theorem sizeTs_one {k : Nat} (t : G5.NT (k + 1)) (ts : List (G5.NT (k + 1))) : P9.sizeTs (ts ++ [t]) = P9.sizeTs ts + P9.sizeT t := by
  rw [P9.sizeTs_app]
  have e : P9.sizeTs [t] = P9.sizeT t + 0 := rfl
  rw [e]
  rfl
theorem print_x {k : Nat} : P9.printT false (xNode : G5.NT (k + 1)) = [120] := by
  rw [P9.printT_mk]
  show (if (2 : Int) = 2 then P9.textW false [120] else _) = _
  rw [if_pos rfl]
  exact esc_x 1
theorem x_ok {k : Nat} : nodeOk (xNode : G5.NT (k + 1)) := by
  refine ⟨fun _ => ⟨by show [120] ≠ []; decide, rfl, rfl, rfl, rfl⟩, fun h => absurd rfl h⟩
theorem Shp.text {k : Nat} {S : ByteArray} {ts : List (G5.NT (k + 1))} {c : Nat} (h : Shp S ts c) (hl : ∀ u, ts.getLast? = some u -> u.nd.kind ≠ 2) : Shp (S ++ ⟨#[120]⟩) (ts ++ [xNode]) (c + 1) where
  pr := by
    rw [ByteArray.data_append, Array.toList_append, h.pr, printTs_one, print_x]
  ap := apart_app false ts _ h.ap (fun u hu hk => absurd hk (hl u hu)) (fun _ hn => by cases hn)
  ok := fun t ht => by
    rcases List.mem_append.1 ht with ht | ht
    · exact h.ok t ht
    · obtain rfl := List.mem_singleton.1 ht
      exact x_ok
  sz := by
    rw [sizeTs_one, P9.sizeT_mk]
    have := h.sz
    show _ + (1 + 0 + 1 + 0 + 0) <= _
    omega
  xs := fun t ht hk => by
    rcases List.mem_append.1 ht with ht | ht
    · exact h.xs t ht hk
    · obtain rfl := List.mem_singleton.1 ht
      exact ⟨1, rfl⟩
theorem set_last {α : Type} (l : List α) (n : Nat) (hn : l.length = n + 1) (x : α) : l.set n x = l.take n ++ [x] := by
  apply List.ext_getElem
  · simp; omega
  · intro i h1 h2
    rw [List.length_set] at h1
    by_cases e : i = n
    · subst e
      rw [List.getElem_set_self, List.getElem_append_right (by rw [List.length_take]; omega)]
      simp
    · rw [List.getElem_set_ne (fun h => e h.symm), List.getElem_append_left (by simp; omega), List.getElem_take]
theorem take_last {α : Type} (l : List α) (n : Nat) (hn : l.length = n + 1) : l = l.take n ++ [l[n]] := by
  have h := set_last l n hn l[n]
  rw [List.set_getElem_self] at h
  exact h
theorem Shp.join {k : Nat} {S : ByteArray} {ts : List (G5.NT (k + 1))} {c : Nat} (h : Shp S ts c) (n : Nat) (hn : ts.length = n + 1) (h2 : ts[n].nd.kind = 2) : Shp (S ++ ⟨#[120]⟩) (ts.set n (withT ts[n] (ts[n].nd.text ++ [120]))) (c + 1) := by
  have hmem : ts[n] ∈ ts := List.getElem_mem _
  obtain ⟨m, hm⟩ := h.xs _ hmem h2
  have hk : (withT ts[n] (ts[n].nd.text ++ [120])).nd.kind = 2 := h2
  have hx : ts[n].nd.text ++ [120] = List.replicate (m + 1) 120 := by rw [hm, List.replicate_succ']
  have hts := take_last ts n hn
  have e1 : P9.printT false ts[n] = List.replicate m 120 := by
    rw [P9.printT_mk, if_pos h2, hm]
    exact esc_x m
  have e2 : P9.printT false (withT ts[n] (ts[n].nd.text ++ [120])) = List.replicate m 120 ++ [120] := by
    rw [P9.printT_mk, if_pos hk]
    show P9.escL false (ts[n].nd.text ++ [120]) = _
    rw [hx, esc_x, List.replicate_succ']
  have e3 : P9.sizeT (withT ts[n] (ts[n].nd.text ++ [120])) = P9.sizeT ts[n] + 1 := by
    rw [P9.sizeT_mk, P9.sizeT_mk]
    show 1 + ts[n].nd.name.length + (ts[n].nd.text ++ [120]).length + P9.sizeAs ts[n].nd.attrs + P9.sizeTs ts[n].kids = _
    rw [List.length_append]
    simp only [List.length_cons, List.length_nil]
    omega
  refine ⟨?_, ?_, ?_, ?_, ?_⟩
  · rw [ByteArray.data_append, Array.toList_append, h.pr, set_last ts n hn, printTs_one, e2]
    conv => lhs; rw [hts, printTs_one, e1]
    rw [List.append_assoc]
  · refine apart_kinds false ts _ ?_ h.ap
    rw [List.map_set]
    apply List.ext_getElem
    · simp
    · intro i g1 g2
      by_cases e : i = n
      · subst e
        simp [h2, hk]
      · rw [List.getElem_set_ne (fun h => e h.symm)]
  · intro t ht
    rcases List.mem_or_eq_of_mem_set ht with ht | rfl
    · exact h.ok t ht
    · obtain ⟨g1, g2⟩ := h.ok _ hmem
      obtain ⟨q1, q2, q3, q4, q5⟩ := g1 h2
      exact ⟨fun _ => ⟨by show ts[n].nd.text ++ [120] ≠ []; simp, q2, q3, q4, q5⟩, fun hne => absurd hk hne⟩
  · rw [set_last ts n hn, sizeTs_one, e3]
    have h1 := h.sz
    rw [hts, sizeTs_one] at h1
    have e4 : (List.take n ts ++ [ts[n]])[n]? = some ts[n] := by rw [<- hts, List.getElem?_eq_getElem]
    omega
  · intro t ht hk2
    rcases List.mem_or_eq_of_mem_set ht with ht | rfl
    · exact h.xs t ht hk2
    · exact ⟨m + 1, hx⟩
theorem print_e {k : Nat} (nm : Bs) (hn : nm = divN \/ nm = spanN) (ks : List (G5.NT k)) : P9.printT false (eNode nm ks) = (60 :: (nm ++ [62])) ++ (P9.printTs false ks ++ (60 :: 47 :: (nm ++ [62]))) := by
  obtain ⟨r1, r2, r3⟩ := none_raw nm hn
  rw [P9.printT_mk]
  show (if (1 : Int) = 2 then _ else if (1 : Int) = 3 then _ else if (1 : Int) = 1 then (if P9.voidE (eNode nm ks).nd then P9.headE (eNode nm ks).nd else P9.headE (eNode nm ks).nd ++ (P9.printTs (P9.rawE (eNode nm ks).nd) ks ++ P9.footE (eNode nm ks).nd)) else []) = _
  have hv : P9.voidE (eNode nm ks).nd = false := by
    unfold P9.voidE
    show (_ && S6.isL 1 nm) = false
    rw [r1, Bool.and_false]
  have hr : P9.rawE (eNode nm ks).nd = false := by
    unfold P9.rawE
    show (_ && (S6.isL 2 nm || nm == P9.plainT)) = false
    rw [r2, r3]
    simp
  rw [if_neg (by decide), if_neg (by decide), if_pos rfl, hv, hr, if_neg Bool.false_ne_true]
  rfl
theorem Shp.elem {k : Nat} {S T : ByteArray} {ts : List (G5.NT (k + 1 + 1))} {us : List (G5.NT (k + 1))} {c d : Nat} (h : Shp S ts c) (g : Shp T us d) (nm : Bs) (hn : nm = divN \/ nm = spanN) (X : ByteArray) (hX : X.data.toList = S.data.toList ++ ((60 :: (nm ++ [62])) ++ (T.data.toList ++ (60 :: 47 :: (nm ++ [62]))))) : Shp X (ts ++ [eNode nm us]) (c + 1 + d) where
  pr := by rw [hX, printTs_one, h.pr, g.pr, print_e nm hn]
  ap := apart_app false ts _ h.ap (fun u hu hk => by show (1 : Int) ≠ 2; decide) (fun _ hn => by cases hn)
  ok := fun t ht => by
    rcases List.mem_append.1 ht with ht | ht
    · exact h.ok t ht
    · obtain rfl := List.mem_singleton.1 ht
      exact ⟨fun hk => absurd (show (1 : Int) = 2 from hk) (by decide), fun _ => ⟨rfl, rfl, hn, rfl, (plain_iff us).2 ⟨g.ap, g.ok⟩, (by intro a ha; cases ha), List.nodup_nil⟩⟩
  sz := by
    rw [sizeTs_one, P9.sizeT_mk]
    have h1 := h.sz
    have h2 := g.sz
    have h3 : nm.length <= 4 := by rcases hn with rfl | rfl <;> decide
    show _ + (1 + nm.length + 0 + 0 + P9.sizeTs us) <= _
    omega
  xs := fun t ht hk => by
    rcases List.mem_append.1 ht with ht | ht
    · exact h.xs t ht hk
    · obtain rfl := List.mem_singleton.1 ht
      exact absurd (show (1 : Int) = 2 from hk) (by decide)
theorem tall_le : ∀ {k : Nat} (ts : List (G5.NT k)), P9.tallTs ts <= k
  | 0, ts => by
    cases ts with
    | nil => exact Nat.le_refl _
    | cons x r => exact x.none
  | k + 1, ts => by
    induction ts with
    | nil => exact Nat.zero_le _
    | cons t r ih =>
      have h1 := tall_le t.kids
      show max (1 + P9.tallTs t.kids) (P9.tallTs r) <= k + 1
      omega
theorem x_in (B : Nat -> Prop) (w : World) {k : Nat} : G5.IsN B w (xNode : G5.NT (k + 1)) (boxN 2 0 ⟨#[]⟩ none 0 0 ⟨#[120]⟩ none 0 0) :=
  ⟨.slice none 0 0, .slice none 0 0, rfl, ⟨.inl ⟨⟨_, _, rfl⟩, rfl⟩, .inl rfl⟩, .inl ⟨⟨_, _, rfl⟩, rfl⟩⟩
theorem e_in {B : Nat -> Prop} {w : World} {k : Nat} (nm : ByteArray) {ks : List (G5.NT k)} {a : Option Addr} {c : Nat} (h : G5.IsK B w ks (.slice a ks.length c)) : G5.IsN B w (eNode nm.data.toList ks) (boxN 1 0 nm none 0 0 ⟨#[]⟩ a ks.length c) := by
  refine ⟨.slice none 0 0, .slice a ks.length c, ?_, ⟨.inl ⟨⟨_, _, rfl⟩, rfl⟩, .inl rfl⟩, h⟩
  have e : (⟨nm.data.toList.toArray⟩ : ByteArray) = nm := by cases nm; simp
  show boxN 1 0 nm none 0 0 ⟨#[]⟩ a ks.length c = [_, _, .string ⟨nm.data.toList.toArray⟩, _, _, _]
  rw [e]
  rfl
theorem push_x {k : Nat} {S : ByteArray} {ts : List (G5.NT (k + 1))} {c : Nat} (h : Shp S ts c) (hc : c <= 80) (v : Value) (w : World) (hK : G5.IsK (fun k => k < w.heap.size) w ts v) :
    Calls Tryz.prog 16 #[v, .agg #[.int .i64 2, .int .i64 0, .string ⟨#[]⟩, .slice none 0 0, .string ⟨#[120]⟩, .slice none 0 0]] w fun e w' => (∃ (v' : Value) (ts' : List (G5.NT (k + 1))), e = .returned v' /\ G5.IsK (fun k => k < w'.heap.size) w' ts' v' /\ Shp (S ++ ⟨#[120]⟩) ts' (c + 1)) /\ Below w.heap.size w w' := by
  have hlen := h.len
  rcases Nat.eq_zero_or_pos ts.length with h0 | h0
  · obtain rfl : ts = [] := List.eq_nil_of_length_eq_zero h0
    refine (push_none xNode v 2 0 ⟨#[]⟩ none 0 0 ⟨#[120]⟩ none 0 0 w hK (x_in _ w)).mono ?_
    rintro e w' ⟨⟨v', h1, h2⟩, b⟩
    exact ⟨⟨v', _, h1, h2, h.text (fun u hu => by cases hu)⟩, b⟩
  · obtain ⟨n, hn⟩ : ∃ n, ts.length = n + 1 := ⟨ts.length - 1, by omega⟩
    have hlast : ts.getLast? = some ts[n] := by
      rw [List.getLast?_eq_getElem?]
      have e : ts.length - 1 = n := by omega
      simp only [e]
      exact List.getElem?_eq_getElem (by omega)
    by_cases h2 : ts[n].nd.kind = 2
    · have hx : ts[n].nd.text.length + (⟨#[120]⟩ : ByteArray).size <= 1000000 := by
        have h3 := P9.sizeTs_mem ts n (by omega)
        rw [P9.sizeT_mk] at h3
        have := h.sz
        show _ + 1 <= _
        omega
      refine (push_join v 0 ⟨#[]⟩ none 0 0 ⟨#[120]⟩ none 0 0 w ts n hn (by omega) h2 hx hK).mono ?_
      rintro e w' ⟨⟨v', h1, h3⟩, b⟩
      exact ⟨⟨v', _, h1, h3, h.join n hn h2⟩, b⟩
    · refine (push_more xNode v 2 0 ⟨#[]⟩ none 0 0 ⟨#[120]⟩ none 0 0 w ts n hn (by omega) (by rw [beq_eq_false_iff_ne]; exact h2) hK (x_in _ w)).mono ?_
      rintro e w' ⟨⟨v', h1, h3⟩, b⟩
      refine ⟨⟨v', _, h1, h3, h.text (fun u hu => ?_)⟩, b⟩
      rw [hlast] at hu
      injection hu with hu
      rw [<- hu]
      exact h2
theorem push_e {k : Nat} {ts : List (G5.NT (k + 1))} (hlen : ts.length <= 1000) (nm : ByteArray) {us : List (G5.NT k)} {a2 : Option Addr} {c2 : Nat} (v : Value) (w : World) (hK : G5.IsK (fun k => k < w.heap.size) w ts v) (hU : G5.IsK (fun k => k < w.heap.size) w us (.slice a2 us.length c2)) :
    Calls Tryz.prog 16 #[v, .agg #[.int .i64 1, .int .i64 0, .string nm, .slice none 0 0, .string ⟨#[]⟩, .slice a2 us.length c2]] w fun e w' => (∃ v' : Value, e = .returned v' /\ G5.IsK (fun k => k < w'.heap.size) w' (ts ++ [eNode nm.data.toList us]) v') /\ Below w.heap.size w w' := by
  rcases Nat.eq_zero_or_pos ts.length with h0 | h0
  · obtain rfl : ts = [] := List.eq_nil_of_length_eq_zero h0
    exact push_none (eNode nm.data.toList us) v 1 0 nm none 0 0 ⟨#[]⟩ a2 us.length c2 w hK (e_in nm hU)
  · obtain ⟨n, hn⟩ : ∃ n, ts.length = n + 1 := ⟨ts.length - 1, by omega⟩
    by_cases h2 : ts[n].nd.kind = 2
    · exact push_apart (eNode nm.data.toList us) v 1 0 nm none 0 0 ⟨#[]⟩ a2 us.length c2 w ts n hn (by omega) (by rw [h2]; rfl) rfl hK (e_in nm hU)
    · exact push_more (eNode nm.data.toList us) v 1 0 nm none 0 0 ⟨#[]⟩ a2 us.length c2 w ts n hn (by omega) (by rw [beq_eq_false_iff_ne]; exact h2) hK (e_in nm hU)
end Go.Proofs.YtfohijnkeefcfaaGreatDoor
namespace Go.Proofs.YtfohijnkeefcfaaGreatDoor
open Go.RowKit
open G5 (hide)
theorem mask3 (x : Int) : ∃ K : Nat, K <= 3 /\ IntKind.i64.wrap ((BitVec.ofInt IntKind.i64.bits x &&& BitVec.ofInt IntKind.i64.bits 3).toNat : Int) = (K : Int) := by
  have h1 : (BitVec.ofInt IntKind.i64.bits x &&& BitVec.ofInt IntKind.i64.bits 3).toNat <= 3 := by
    rw [BitVec.toNat_and]
    have h : (BitVec.ofInt IntKind.i64.bits 3).toNat = 3 := by decide
    rw [h]
    exact Nat.and_le_right
  refine ⟨_, h1, ?_⟩
  rw [IntKind.wrap_i64]
  omega
theorem bits3 (x : Int) : ∃ K : Nat, K <= 3 /\ bits BinOp.and IntKind.i64 x 3 = (K : Int) := mask3 x
def ShAns (w : World) (p j : Nat) (e : Ending) (w' : World) : Prop := (∃ (S : ByteArray) (kv : Value) (q : Nat) (ts : List (G5.NT (j + 1))), e = .returned (.tuple #[.string S, kv, .int .i64 (q : Int)]) /\ p <= q /\ q <= 80 /\ G5.IsK (fun k => k < w'.heap.size) w' ts kv /\ Shp S ts (q - p)) /\ Below w.heap.size w w'
def ShapeOk (j : Nat) : Prop := ∀ (v : Value) (zs : List Int) (p d : Nat) (w : World), S7.IsZ w v zs -> p <= 80 -> d + j = 30 -> zs.length <= 9223372036854775807 ->
  Calls Tryz.prog 7 #[v, .int .i64 (p : Int), .int .i64 (d : Int)] w (ShAns w p j)
theorem cat_div {S T : ByteArray} : (S ++ (⟨#[60]⟩ : ByteArray) ++ (⟨#[100, 105, 118]⟩ : ByteArray) ++ (⟨#[62]⟩ : ByteArray) ++ T ++ (⟨#[60, 47]⟩ : ByteArray) ++ (⟨#[100, 105, 118]⟩ : ByteArray) ++ (⟨#[62]⟩ : ByteArray)).data.toList = S.data.toList ++ ((60 :: (divN ++ [62])) ++ (T.data.toList ++ (60 :: 47 :: (divN ++ [62])))) := by
  simp [ByteArray.data_append, divN]
theorem cat_span {S T : ByteArray} : (S ++ (⟨#[60]⟩ : ByteArray) ++ (⟨#[115, 112, 97, 110]⟩ : ByteArray) ++ (⟨#[62]⟩ : ByteArray) ++ T ++ (⟨#[60, 47]⟩ : ByteArray) ++ (⟨#[115, 112, 97, 110]⟩ : ByteArray) ++ (⟨#[62]⟩ : ByteArray)).data.toList = S.data.toList ++ ((60 :: (spanN ++ [62])) ++ (T.data.toList ++ (60 :: 47 :: (spanN ++ [62])))) := by
  simp [ByteArray.data_append, spanN]
theorem isK_down {w W : World} {k : Nat} {ts : List (G5.NT k)} {v : Value} (h : G5.IsK (fun k => k < w.heap.size) w ts v) (hb : Below w.heap.size w W) : G5.IsK (fun k => k < W.heap.size) W ts v := isK_wide (isK_keepB (fun _ h => h) h hb) fun _ hk => Nat.lt_of_lt_of_le hk hb.size
theorem shape_zero : ShapeOk 0 := by
  intro v zs p d w hZ hp hj hl
  have HZ : Hid (∀ W, Below w.heap.size w W -> S7.IsZ W v zs) := hide fun W hb => hZ.below hb
  obtain ⟨a, c, rfl⟩ : ∃ a c, v = .slice a zs.length c := by
    rcases hZ with ⟨rfl, a, c, rfl⟩ | ⟨b, o, cap, rfl, _⟩
    · exact ⟨_, _, rfl⟩
    · exact ⟨_, _, rfl⟩
  have HC : Hid (∀ q (hq : q < zs.length) W, Below w.heap.size w W -> ∃ b o, a = some ⟨b, o, none⟩ /\ W.cell? ⟨b, o + q, none⟩ = some (.int .i64 zs[q])) := hide (fun q hq W hb => by
    rcases HZ.out W hb with ⟨h0, _⟩ | ⟨b, o, cap, e, hc⟩
    · rw [h0] at hq; simp at hq
    · injection e with e1
      exact ⟨b, o, e1, hc q hq⟩)
  clear hZ
  have hl2 : (zs.length : Int) <= 9223372036854775807 := by omega
  go_enter Tryz.func7, Tryz.ntmps7
  go_wp2
  go_loopw [1, 9, 10] (fun ta tS tl wr => ∃ (q : Nat) (S : ByteArray) (ts : List (G5.NT (0 + 1))), p <= q /\ q <= 80 /\ ta = .int .i64 (q : Int) /\ tS = .string S /\ Hid (G5.IsK (fun k => k < wr.heap.size) wr ts tl) /\ Hid (Shp S ts (q - p)) /\ Below w.heap.size w wr) (fun ta _ _ _ => 80 - (intOf ta).toNat)
  case atStart => exact ⟨p, ⟨#[]⟩, [], Nat.le_refl _, hp, rfl, rfl, hide (.inl ⟨⟨_, _, rfl⟩, rfl⟩), hide (Shp.none.up (Nat.zero_le _)), Below.refl _ w⟩
  case round =>
    obtain ⟨q, S, ts, hpq, hq8, rfl, rfl, HK, HSH, bw⟩ := hrel
    have hSz := HSH.out.size
    have hSl := HSH.out.len
    by_cases hq : q < zs.length /\ q < 80
    · obtain ⟨b, o, rfl, hcell⟩ := HC.out q hq.1 wr bw
      have hq1 : (q : Int) < zs.length := by omega
      have hq2 : (q : Int) < 80 := by omega
      obtain ⟨K, hK3, hbits⟩ := bits3 zs[q]
      have PX := hide (fun hc => push_x HSH.out hc u10 wr HK.out)
      generalize zs[q] = Z at *
      have hSz2 : S.size <= 3360 := by omega
      clear hq HC hSz
      have hd30 : ((d : Int) == 30) = true := by rw [beq_iff_eq]; omega
      have hd2 : (0 : Int) < d := by omega
      rcases (by omega : K = 0 \/ K = 1 \/ K = 2 \/ K = 3) with rfl | rfl | rfl | rfl
      · go_wp2
        go_ret3
        exact ⟨⟨S, u10, q + 1, ts, by first | rfl | (congr 1; congr 1; simp), by omega, by omega, HK.out, HSH.out.up (by omega)⟩, bw⟩
      · go_wp2_with fail
        refine (PX.out (by omega)).mono ?_
        rintro e w1 ⟨⟨v1, ts1, rfl, hk1, hs1⟩, b1⟩
        have HK1 := hide hk1
        have HS1 := hide (hs1.up (show q - p + 1 <= q + 1 - p by omega))
        have bw1 := bw.trans (b1.mono bw.size)
        clear hk1 hs1 b1 PX HSH HK
        go_wp2
        go_roundw
        case rel => exact ⟨q + 1, _, ts1, by omega, by omega, by go_num, rfl, HK1, HS1, bw1⟩
        case measure => simp [intOf]; omega
      · go_wp2_with fail
        refine (PX.out (by omega)).mono ?_
        rintro e w1 ⟨⟨v1, ts1, rfl, hk1, hs1⟩, b1⟩
        have HK1 := hide hk1
        have HS1 := hide (hs1.up (show q - p + 1 <= q + 1 - p by omega))
        have bw1 := bw.trans (b1.mono bw.size)
        clear hk1 hs1 b1 PX HSH HK
        go_wp2
        go_roundw
        case rel => exact ⟨q + 1, _, ts1, by omega, by omega, by go_num, rfl, HK1, HS1, bw1⟩
        case measure => simp [intOf]; omega
      · go_wp2_with fail
        refine (PX.out (by omega)).mono ?_
        rintro e w1 ⟨⟨v1, ts1, rfl, hk1, hs1⟩, b1⟩
        have HK1 := hide hk1
        have HS1 := hide (hs1.up (show q - p + 1 <= q + 1 - p by omega))
        have bw1 := bw.trans (b1.mono bw.size)
        clear hk1 hs1 b1 PX HSH HK
        go_wp2
        go_roundw
        case rel => exact ⟨q + 1, _, ts1, by omega, by omega, by go_num, rfl, HK1, HS1, bw1⟩
        case measure => simp [intOf]; omega
    · rcases (by omega : ¬ q < zs.length \/ (q < zs.length /\ ¬ q < 80)) with hq | hq
      · have hq1 : ¬ (q : Int) < zs.length := by omega
        clear hq
        go_wp2
        go_ret3
        exact ⟨⟨S, u10, q, ts, by first | rfl | (congr 1; congr 1; simp), by omega, by omega, HK.out, HSH.out.up (by omega)⟩, bw⟩
      · have hq1 : (q : Int) < zs.length := by omega
        have hq2 : ¬ (q : Int) < 80 := by omega
        clear hq
        go_wp2
        go_ret3
        exact ⟨⟨S, u10, q, ts, by first | rfl | (congr 1; congr 1; simp), by omega, by omega, HK.out, HSH.out.up (by omega)⟩, bw⟩
theorem shape_step {j : Nat} (ih : ShapeOk j) : ShapeOk (j + 1) := by
  intro v zs p d w hZ hp hj hl
  have HZ : Hid (∀ W, Below w.heap.size w W -> S7.IsZ W v zs) := hide fun W hb => hZ.below hb
  obtain ⟨a, c, rfl⟩ : ∃ a c, v = .slice a zs.length c := by
    rcases hZ with ⟨rfl, a, c, rfl⟩ | ⟨b, o, cap, rfl, _⟩
    · exact ⟨_, _, rfl⟩
    · exact ⟨_, _, rfl⟩
  have HC : Hid (∀ q (hq : q < zs.length) W, Below w.heap.size w W -> ∃ b o, a = some ⟨b, o, none⟩ /\ W.cell? ⟨b, o + q, none⟩ = some (.int .i64 zs[q])) := hide (fun q hq W hb => by
    rcases HZ.out W hb with ⟨h0, _⟩ | ⟨b, o, cap, e, hc⟩
    · rw [h0] at hq; simp at hq
    · injection e with e1
      exact ⟨b, o, e1, hc q hq⟩)
  clear hZ
  have hl2 : (zs.length : Int) <= 9223372036854775807 := by omega
  have IH := hide (fun p' (hp' : p' <= 80) W (hb : Below w.heap.size w W) => ih _ zs p' (d + 1) W (HZ.out W hb) hp' (by omega) hl)
  go_enter Tryz.func7, Tryz.ntmps7
  go_wp2
  go_loopw [1, 9, 10] (fun ta tS tl wr => ∃ (q : Nat) (S : ByteArray) (ts : List (G5.NT (j + 1 + 1))), p <= q /\ q <= 80 /\ ta = .int .i64 (q : Int) /\ tS = .string S /\ Hid (G5.IsK (fun k => k < wr.heap.size) wr ts tl) /\ Hid (Shp S ts (q - p)) /\ Below w.heap.size w wr) (fun ta _ _ _ => 80 - (intOf ta).toNat)
  case atStart => exact ⟨p, ⟨#[]⟩, [], Nat.le_refl _, hp, rfl, rfl, hide (.inl ⟨⟨_, _, rfl⟩, rfl⟩), hide (Shp.none.up (Nat.zero_le _)), Below.refl _ w⟩
  case round =>
    obtain ⟨q, S, ts, hpq, hq8, rfl, rfl, HK, HSH, bw⟩ := hrel
    have hSz := HSH.out.size
    have hSl := HSH.out.len
    by_cases hq : q < zs.length /\ q < 80
    · obtain ⟨b, o, rfl, hcell⟩ := HC.out q hq.1 wr bw
      have hq1 : (q : Int) < zs.length := by omega
      have hq2 : (q : Int) < 80 := by omega
      obtain ⟨K, hK3, hbits⟩ := bits3 zs[q]
      have PX := hide (fun hc => push_x HSH.out hc u10 wr HK.out)
      generalize zs[q] = Z at *
      have hSz2 : S.size <= 3360 := by omega
      clear hq HC hSz
      have hd30 : ((d : Int) == 30) = false := by rw [beq_eq_false_iff_ne]; omega
      have hd1 : (d : Int) <= 29 := by omega
      rcases (by omega : (K = 0 /\ 0 < d) \/ (K = 0 /\ d = 0) \/ K = 1 \/ K = 2 \/ K = 3) with ⟨rfl, hd0⟩ | ⟨rfl, hd0⟩ | rfl | rfl | rfl
      · have hd2 : (0 : Int) < d := by omega
        clear hd0
        go_wp2
        go_ret3
        exact ⟨⟨S, u10, q + 1, ts, by first | rfl | (congr 1; congr 1; simp), by omega, by omega, HK.out, HSH.out.up (by omega)⟩, bw⟩
      · have hd2 : ¬ (0 : Int) < d := by omega
        clear hd0
        go_wp2_with fail
        refine (IH.out (q + 1) (by omega) wr bw).mono ?_
        rintro e w1 ⟨⟨T, kv, r, us, rfl, hqr, hr8, hk1, hs1⟩, b1⟩
        obtain ⟨ka, kc, rfl⟩ := G5.isK_form hk1
        have hTz := hs1.size
        have hul := hs1.len
        have HK1 := hide (isK_down HK.out b1)
        have HKU := hide hk1
        have bw1 := bw.trans (b1.mono bw.size)
        have HS2 := hide ((HSH.out.elem hs1 divN (by first | exact .inl rfl | exact .inr rfl) _ cat_div).up (show q - p + 1 + (r - (q + 1)) <= r - p by omega))
        have PE := hide (push_e (ts := ts) (by omega) ⟨divN.toArray⟩ u10 w1 HK1.out HKU.out)
        clear hk1 hs1 b1 HSH HK
        generalize us.length = ul at *
        go_wp2_with fail
        refine PE.out.mono ?_
        rintro e w2 ⟨⟨v2, rfl, hk2⟩, b2⟩
        have HK2 := hide hk2
        have bw2 := bw1.trans (b2.mono bw1.size)
        clear hk2 b2 PE
        go_wp2
        go_roundw
        case rel => exact ⟨r, _, _, by omega, by omega, rfl, rfl, HK2, HS2, bw2⟩
        case measure => simp [intOf]; omega
      · go_wp2_with fail
        refine (IH.out (q + 1) (by omega) wr bw).mono ?_
        rintro e w1 ⟨⟨T, kv, r, us, rfl, hqr, hr8, hk1, hs1⟩, b1⟩
        obtain ⟨ka, kc, rfl⟩ := G5.isK_form hk1
        have hTz := hs1.size
        have hul := hs1.len
        have HK1 := hide (isK_down HK.out b1)
        have HKU := hide hk1
        have bw1 := bw.trans (b1.mono bw.size)
        have HS2 := hide ((HSH.out.elem hs1 divN (by first | exact .inl rfl | exact .inr rfl) _ cat_div).up (show q - p + 1 + (r - (q + 1)) <= r - p by omega))
        have PE := hide (push_e (ts := ts) (by omega) ⟨divN.toArray⟩ u10 w1 HK1.out HKU.out)
        clear hk1 hs1 b1 HSH HK
        generalize us.length = ul at *
        go_wp2_with fail
        refine PE.out.mono ?_
        rintro e w2 ⟨⟨v2, rfl, hk2⟩, b2⟩
        have HK2 := hide hk2
        have bw2 := bw1.trans (b2.mono bw1.size)
        clear hk2 b2 PE
        go_wp2
        go_roundw
        case rel => exact ⟨r, _, _, by omega, by omega, rfl, rfl, HK2, HS2, bw2⟩
        case measure => simp [intOf]; omega
      · go_wp2_with fail
        refine (IH.out (q + 1) (by omega) wr bw).mono ?_
        rintro e w1 ⟨⟨T, kv, r, us, rfl, hqr, hr8, hk1, hs1⟩, b1⟩
        obtain ⟨ka, kc, rfl⟩ := G5.isK_form hk1
        have hTz := hs1.size
        have hul := hs1.len
        have HK1 := hide (isK_down HK.out b1)
        have HKU := hide hk1
        have bw1 := bw.trans (b1.mono bw.size)
        have HS2 := hide ((HSH.out.elem hs1 spanN (by first | exact .inl rfl | exact .inr rfl) _ cat_span).up (show q - p + 1 + (r - (q + 1)) <= r - p by omega))
        have PE := hide (push_e (ts := ts) (by omega) ⟨spanN.toArray⟩ u10 w1 HK1.out HKU.out)
        clear hk1 hs1 b1 HSH HK
        generalize us.length = ul at *
        go_wp2_with fail
        refine PE.out.mono ?_
        rintro e w2 ⟨⟨v2, rfl, hk2⟩, b2⟩
        have HK2 := hide hk2
        have bw2 := bw1.trans (b2.mono bw1.size)
        clear hk2 b2 PE
        go_wp2
        go_roundw
        case rel => exact ⟨r, _, _, by omega, by omega, rfl, rfl, HK2, HS2, bw2⟩
        case measure => simp [intOf]; omega
      · go_wp2_with fail
        refine (PX.out (by omega)).mono ?_
        rintro e w1 ⟨⟨v1, ts1, rfl, hk1, hs1⟩, b1⟩
        have HK1 := hide hk1
        have HS1 := hide (hs1.up (show q - p + 1 <= q + 1 - p by omega))
        have bw1 := bw.trans (b1.mono bw.size)
        clear hk1 hs1 b1 PX HSH HK
        go_wp2
        go_roundw
        case rel => exact ⟨q + 1, _, ts1, by omega, by omega, by go_num, rfl, HK1, HS1, bw1⟩
        case measure => simp [intOf]; omega
    · rcases (by omega : ¬ q < zs.length \/ (q < zs.length /\ ¬ q < 80)) with hq | hq
      · have hq1 : ¬ (q : Int) < zs.length := by omega
        clear hq
        go_wp2
        go_ret3
        exact ⟨⟨S, u10, q, ts, by first | rfl | (congr 1; congr 1; simp), by omega, by omega, HK.out, HSH.out.up (by omega)⟩, bw⟩
      · have hq1 : (q : Int) < zs.length := by omega
        have hq2 : ¬ (q : Int) < 80 := by omega
        clear hq
        go_wp2
        go_ret3
        exact ⟨⟨S, u10, q, ts, by first | rfl | (congr 1; congr 1; simp), by omega, by omega, HK.out, HSH.out.up (by omega)⟩, bw⟩
end Go.Proofs.YtfohijnkeefcfaaGreatDoor
namespace Go.Proofs.YtfohijnkeefcfaaGreatDoor
open Go.RowKit
open S5 (ButA andNew PT IsA cell_lt below_alloc hide below_drewN)
structure Smp (m : BS) : Prop where
  mo : m.mode = 0
  ru : m.rules = 0
  fo : m.fost = false
  sk : m.skip = false
  cu : (curB m).sp = 0
  idle : S7.renewL (ms m.mr) (m.op.map fun o => (o.id : Int)) = m.mr.length
  inv : Inv m
theorem Smp.renew {m : BS} (h : Smp m) : renewB m = m := by
  unfold renewB
  rw [h.idle]
  cases hl : m.mr.length with
  | zero => rfl
  | succ k =>
    rw [renewK]
    split
    · rfl
    · rw [List.getElem?_eq_none (by omega)]
theorem ids_rel {s : PB} {m : BS} (h : Rel0 s m) : idsP s = m.op.map fun o => (o.id : Int) := by
  unfold idsP
  rw [h.op]
  unfold vs
  rw [List.map_map]
  rfl
theorem Smp.renewP {s : PB} {m : BS} (h : Smp m) (hr : Rel0 s m) : renewP s = s := by
  unfold Go.Proofs.YtfohijnkeefcfaaGreatDoor.renewP
  have hs : S7.renewL s.mr (idsP s) = s.mr.length := by
    rw [ids_rel hr, renew_sim hr.mr, h.idle]
    have := Sim.len hr.mr
    rw [this]
    simp [ms]
  rw [hs, Nat.sub_self]
  rfl
theorem Smp.take {m : BS} (h : Smp m) (t : S4.Tok) (h5 : t.kind ≠ 5) : takeB m t = bodyB m t := by
  have hs : ({ m with skip := false } : BS) = m := by rw [<- h.sk]
  have ht : takeT m t = bodyB m t := by
    unfold takeT
    rw [if_neg h5, if_neg (by rw [h.mo]; decide), if_neg (by rw [h.cu]; simp)]
    unfold rulesB
    rw [show 3 * m.op.length + 20 = (3 * m.op.length + 19) + 1 from rfl, rulesK]
    have : stepB m t = (bodyB m t, none) := by
      unfold stepB
      rw [h.ru]
      simp
    rw [this]
  unfold takeB
  simp only [hs]
  split
  · rw [if_neg (by rw [h.sk]; simp)]
    exact ht
  · exact ht
theorem unsk_rel {s : PB} {m : BS} (h : Rel0 s m) (hm : Smp m) : Rel0 (unskP s) m := { T := h.T, op := h.op, mr := h.mr, ru := h.ru, mo := h.mo, nm := h.nm, fo := h.fo, sk := hm.sk.symm }
theorem PInv.unsk {c : Nat} {s : PB} (h : PInv c s) : PInv c (unskP s) := { hd := h.hd, opL := h.opL, wf := h.wf, t0 := h.t0, tL := h.tL, mrL := h.mrL, aaL := h.aaL, txL := h.txL, atL := h.atL }
theorem Smp.ne {m : BS} (h : Smp m) : m.op ≠ [] := List.ne_nil_of_length_pos (by have := h.inv.o.pos; omega)
theorem elemP_nm (s : PB) (sp : Int) (nm : ByteArray) (aa : S5.AttrL) : (elemP s sp nm aa).nm = s.nm := by
  unfold elemP
  split
  · unfold failP
    split <;> rfl
  · unfold elemR putP elemQ madeP failP
    split
    · split <;> rfl
    · rfl
theorem failP_nm (s : PB) (z : Int) : (failP s z).nm = s.nm := by
  unfold failP
  split <;> rfl
theorem madeP_nm (s : PB) (z : Int) : (madeP s z).nm = s.nm := by
  unfold madeP
  split
  · exact failP_nm s 4
  · rfl
theorem textP_nm (s : PB) (t : List UInt8) : (textP s t).nm = s.nm := by
  unfold textP
  split
  · rfl
  · unfold newT putP
    simp only
    rw [madeP_nm]
theorem take_way {n bb c : Nat} {s : PB} {m : BS} {t : TV} {S : PB} (hm : Smp m) (hr : Rel0 s m) (he : s.e = 0) (hI : PInv c s) (h5 : (t.k == 5) = false) (HS : BC 85 n bb t (unskP s) S) : BC 33 n bb t s S := by
  intro O1 y hB hT
  have hc := cur_rel hr hm.ne
  refine take_rules_p hB hI t hT h5 (hr.mo.trans hm.mo) (by rw [hc]; exact hm.cu) (hr.sk.trans hm.sk) S ?_
  intro O2 y2 hB2 hT2
  exact takeByRules_body_p hB2 hI.unsk t hT2 he (by show s.ru = 0; rw [hr.ru, hm.ru]; rfl) S HS
theorem step_text {n bb c : Nat} {s : PB} {m : BS} (sv : Value) (hm : Smp m) (hr : Rel0 s m) (he : s.e = 0) (hme : m.e = 0) (hI : PInv c s) (hc : c <= 250000000) (tt : Bs) (ht : tt.length <= 40000) :
    ∃ S, BC 33 n bb (tvOf { kind := 1, text := tt } sv) s S /\ Rel S (takeB m { kind := 1, text := tt }) /\ PInv (c + 50000) S /\ S.nm = s.nm := by
  have hr2 := unsk_rel hr hm
  refine ⟨bodyTextP (unskP s) tt, take_way hm hr he hI rfl ?_, ?_, ?_, ?_⟩
  · intro O1 y hB hT
    have := body_text_p hB hI.unsk _ hT (by omega) rfl (by show (ByteArray.mk tt.toArray).size <= 300000000; rw [S5.size_list]; simp; omega)
    have e : (tvOf { kind := 1, text := tt } sv).tx.data.toList = tt := by simp [tvOf]
    rw [e] at this
    exact this
  · rw [hm.take _ (by simp)]
    have e : bodyB m { kind := 1, text := tt } = textB m tt := by
      unfold bodyB
      rw [if_pos rfl, hm.renew]
    rw [e]
    unfold bodyTextP
    rw [Smp.renewP hm hr2]
    exact text_rel hr2 he hme hm.inv tt
  · unfold bodyTextP
    rw [Smp.renewP hm hr2]
    exact (hI.unsk.text tt).up (by omega)
  · unfold bodyTextP
    rw [Smp.renewP hm hr2, textP_nm]
    rfl
def bN : Bs := [98]
theorem b_to (b : BS) (hr : renewB b = b) : bodyB b (startOf bN) = markedB b (startOf bN) := by
  have hset : ∀ k v, (setOf k bN = v) -> setOf k (startOf bN).name = v := fun _ _ h => h
  have hcl : closesT (startOf bN) = false := by decide +kernel
  have hs : ∀ names : List Bs, S6.amongL names bN = false -> startT (startOf bN) names = false := fun names h => by
    unfold startT startOf
    rw [h, Bool.and_false]
  unfold bodyB
  rw [if_neg (by simp [startOf]), if_neg (by simp [startOf]), if_pos (by simp [startOf])]
  unfold bodyStart
  rw [hset 12 false (by decide +kernel), hs _ (by decide +kernel), hs _ (by decide +kernel), hs _ (by decide +kernel), hs _ (by decide +kernel), hs _ (by decide +kernel), hs _ (by decide +kernel), hs _ (by decide +kernel), hs _ (by decide +kernel), hs _ (by decide +kernel), hcl]
  simp only [Bool.false_eq_true, if_false]
  have hpa : phraseA b (startOf bN) = b := by
    unfold phraseA
    rw [hs _ (by decide +kernel), hs _ (by decide +kernel), hs _ (by decide +kernel), hs _ (by decide +kernel)]
    simp
  unfold phraseB
  simp only [hpa, hr]
  rw [hset 5 true (by decide +kernel)]
  simp
theorem step_b {n bb c : Nat} {s : PB} {m : BS} (sv : Value) (hm : Smp m) (hr : Rel0 s m) (he : s.e = 0) (hme : m.e = 0) (hI : PInv c s) (hc : c <= 250000000) :
    ∃ S, BC 33 n bb (tvOf (startOf bN) sv) s S /\ Rel S (takeB m (startOf bN)) /\ PInv (c + 50000) S /\ S.nm = s.nm := by
  have hr2 := unsk_rel hr hm
  have hrn := Smp.renewP hm hr2
  have hnm : (⟨bN.toArray⟩ : ByteArray).data.toList = bN := by simp
  refine ⟨markedP (unskP s) (tvOf (startOf bN) sv), take_way hm hr he hI rfl ?_, ?_, ?_, ?_⟩
  · intro O1 y hB hT
    refine body_start_p hB hI.unsk _ hT rfl _ ?_
    intro O2 y2 hB2 hT2
    refine bodyStart_format_p hB2 hI.unsk _ hT2 (show S6.isL 12 bN = false by decide +kernel) (show S6.isL 6 bN = false by decide +kernel) (show S6.isL 7 bN = false by decide +kernel) (show S6.isL 5 bN = true by decide +kernel) _ ?_
    intro O3 y3 hB3 hT3
    have := startFormat_o_p hB3 hI.unsk _ hT3 (by omega) (by rw [Lib.toList_data]; show (bN == [97]) = false; decide) (by rw [Lib.toList_data]; show (bN == [110, 111, 98, 114]) = false; decide)
    unfold fmtP at this
    rw [hrn] at this
    exact this
  · rw [hm.take _ (by simp [startOf]), b_to m hm.renew]
    obtain ⟨h1, h2, h3⟩ := elem_rel hr2 he hme hm.inv 0 ⟨bN.toArray⟩ []
    rw [hnm] at h1 h2 h3
    unfold markedB tagB
    show Rel (markedP (unskP s) (tvOf (startOf bN) sv)) (match insertB m 0 bN [] with
      | (b', some n) => { b' with mr := pushM b'.mr ⟨n, bN, []⟩ }
      | (b', none) => b')
    cases hq : insertB m 0 bN [] with
    | mk b' k =>
      rw [hq] at h1 h2 h3
      cases k with
      | none => exact Rel.err h1.1 (h3 rfl)
      | some k =>
        refine ⟨h1.1, fun h0 => ?_⟩
        have r := h1.2 h0
        exact { T := r.T, op := r.op, mr := isM_push r.mr _ ⟨k, bN, []⟩ (by
          show (elemZ (unskP s) 0 ⟨bN.toArray⟩ [], (⟨bN.toArray⟩ : ByteArray), ([] : S5.AttrL)) = _
          rw [h2 k rfl]
          rfl), ru := r.ru, mo := r.mo, nm := r.nm, fo := r.fo, sk := r.sk }
  · exact (hI.unsk.marked _ (by simp [tvOf, startOf])).up (by omega)
  · show (elemP (unskP s) 0 _ _).nm = s.nm
    rw [elemP_nm]
    rfl
end Go.Proofs.YtfohijnkeefcfaaGreatDoor
namespace Go.Proofs.YtfohijnkeefcfaaGreatDoor
open Go.RowKit
open S5 (ButA andNew PT IsA cell_lt below_alloc hide below_drewN)
theorem smp_st {F : FL} {ps : List (Nat × Bs)} (hi : Inv (stB F ps)) : Smp (stB F ps) := { mo := rfl, ru := rfl, fo := rfl, sk := rfl, cu := (cur_id F ps).2, idle := rfl, inv := hi }
theorem nxt_st (F : FL) (ps : List (Nat × Bs)) (r : Bs) : nxt (stB F ps) r = S4.nextR 0 [] false r := by
  unfold nxt
  rw [(cur_id F ps).2]
  rfl
theorem nxt_nil (m : BS) : (nxt m []).1.kind = 0 := by
  unfold nxt
  rw [S4.nextR_nil]
def liveL : Bs := [97, 60, 98, 62, 99]
def tok1 : S4.Tok := { kind := 1, text := [97] }
def tok3 : S4.Tok := { kind := 1, text := [99] }
def live1 : BS := takeB {} tok1
def live2 : BS := takeB live1 (startOf bN)
def QLive (m : BS) (r : Bs) : Prop := (m = {} /\ r = [97, 60, 98, 62, 99]) \/ (m = live1 /\ r = [60, 98, 62, 99]) \/ (m = live2 /\ r = [99]) \/ r = []
theorem live_n0 : nxt {} [97, 60, 98, 62, 99] = (tok1, [60, 98, 62, 99]) := by kernel_rfl
theorem live_n1 : nxt live1 [60, 98, 62, 99] = (startOf bN, [99]) := by kernel_rfl
theorem live_n2 : nxt live2 [99] = (tok3, []) := by kernel_rfl
theorem inv_zero : Inv {} := inv_st (F := [(0, {})]) (ps := []) start_ok xf_start (by decide)
def liveF1 : FL := [(0, {}), (1, { kind := 2, text := [97] })]
def liveF2 : FL := [(0, {}), (1, { kind := 2, text := [97] }), (1, { kind := 1, name := [98] })]
theorem live_T1 : live1.T = layF liveF1 := by kernel_rfl
theorem live_T2 : live2.T = layF liveF2 := by kernel_rfl
theorem live_o1 : live1.op = [rootO] := by kernel_rfl
theorem live_o2 : live2.op = [rootO, ⟨2, 0, [98]⟩] := by kernel_rfl
theorem live_r1 : live1.mr = [] := by kernel_rfl
theorem live_r2 : live2.mr = [⟨2, [98], []⟩] := by kernel_rfl
theorem live_nd1 : S5.nodeAt (layF liveF2) 1 = { kind := 2, text := [97] } := by kernel_rfl
theorem live_nd2 : S5.nodeAt (layF liveF2) 2 = { kind := 1, name := [98] } := by kernel_rfl
theorem live_nd3 : S5.nodeAt (layF liveF1) 1 = { kind := 2, text := [97] } := by kernel_rfl
theorem live_i1 : Inv live1 where
  t := by
    rw [live_T1]
    exact {
      wf := lay_wf _
      pos := by rw [lay_len]; decide
      max := by rw [lay_len]; decide
      root := by kernel_rfl
      node := fun i h1 h2 => by
        rw [lay_len] at h2
        have h2 : i < 2 := h2
        obtain rfl : i = 1 := by omega
        rw [live_nd3]
        exact .inr (.inl ⟨rfl, by decide, rfl, rfl⟩)
      edge := fun p c hc => by
        rw [kids_lay] at hc
        obtain ⟨c1, c2⟩ := kidsF_lt hc
        have c2 : c < 2 := c2
        obtain rfl : p = 0 := by omega
        obtain rfl : c = 1 := by omega
        exact ⟨.inl ⟨rfl, rfl, rfl⟩, fun hk => absurd hk (by rw [live_nd3]; decide)⟩ }
  o := by
    rw [live_o1]
    exact ⟨rfl, fun i o ho => by simp at ho, fun i a b _ hb => by simp at hb⟩
  m := by
    rw [live_r1]
    exact fun m hm => by cases hm
theorem live_i2 : Inv live2 where
  t := by
    rw [live_T2]
    exact {
      wf := lay_wf _
      pos := by rw [lay_len]; decide
      max := by rw [lay_len]; decide
      root := by kernel_rfl
      node := fun i h1 h2 => by
        rw [lay_len] at h2
        have h2 : i < 3 := h2
        rcases (by omega : i = 1 \/ i = 2) with rfl | rfl
        · rw [live_nd1]
          exact .inr (.inl ⟨rfl, by decide, rfl, rfl⟩)
        · rw [live_nd2]
          exact .inl ⟨rfl, by decide, rfl⟩
      edge := fun p c hc => by
        rw [kids_lay] at hc
        obtain ⟨c1, c2⟩ := kidsF_lt hc
        have c2 : c < 3 := c2
        rcases (by omega : (p = 0 /\ c = 1) \/ (p = 0 /\ c = 2) \/ (p = 1 /\ c = 2)) with ⟨rfl, rfl⟩ | ⟨rfl, rfl⟩ | ⟨rfl, rfl⟩
        · exact ⟨.inl ⟨rfl, rfl, rfl⟩, fun hk => absurd hk (by rw [live_nd1]; decide)⟩
        · exact ⟨.inl ⟨rfl, rfl, rfl⟩, fun _ _ => by kernel_rfl⟩
        · exact absurd hc (by decide +kernel) }
  o := by
    rw [live_o2, live_T2]
    refine ⟨rfl, fun i o ho => ?_, fun i a b ha hb => ?_⟩
    · cases i with
      | zero =>
        have ho : (⟨2, 0, [98]⟩ : OM) = o := by simpa using ho
        subst ho
        show 1 <= 2 /\ 2 < (layF liveF2).length /\ (S5.nodeAt (layF liveF2) 2).kind = 1 /\ (S5.nodeAt (layF liveF2) 2).space = 0 /\ (S5.nodeAt (layF liveF2) 2).name = [98] /\ ((0 : Int) = 0 -> S6.isL 1 [98] = false)
        rw [live_nd2, lay_len]
        exact ⟨by decide, by decide, rfl, rfl, rfl, fun _ => by decide +kernel⟩
      | succ i => simp at ho
    · cases i with
      | zero =>
        have ha : rootO = a := by simpa using ha
        have hb : (⟨2, 0, [98]⟩ : OM) = b := by simpa using hb
        subst ha hb
        exact fun _ => by kernel_rfl
      | succ i => simp at hb
  m := by
    rw [live_r2, live_T2]
    intro m hm
    obtain rfl := List.mem_singleton.1 hm
    refine .inr ?_
    show 1 <= 2 /\ 2 < (layF liveF2).length /\ (S5.nodeAt (layF liveF2) 2).kind = 1 /\ (S5.nodeAt (layF liveF2) 2).space = 0 /\ (S5.nodeAt (layF liveF2) 2).name = [98] /\ S6.amongL S6.formatN [98] = true
    rw [live_nd2, lay_len]
    exact ⟨by decide, by decide, rfl, rfl, rfl, by decide +kernel⟩
theorem live_m1 : Smp live1 := { mo := by kernel_rfl, ru := by kernel_rfl, fo := by kernel_rfl, sk := by kernel_rfl, cu := by kernel_rfl, idle := by kernel_rfl, inv := live_i1 }
theorem live_m2 : Smp live2 := { mo := by kernel_rfl, ru := by kernel_rfl, fo := by kernel_rfl, sk := by kernel_rfl, cu := by kernel_rfl, idle := by kernel_rfl, inv := live_i2 }
theorem live_step : StepOk QLive := by
  intro m r s sv n bb c hQ hme hr he hnm hI hc hrl hk
  rcases hQ with ⟨rfl, rfl⟩ | ⟨rfl, rfl⟩ | ⟨rfl, rfl⟩ | rfl
  · rw [live_n0]
    have hm : Smp {} := smp_st (F := [(0, {})]) (ps := []) inv_zero
    obtain ⟨S, h1, h2, h3, h4⟩ := step_text (n := n) (bb := bb) sv hm hr he hme hI hc [97] (by decide)
    exact ⟨S, h1, h2, h3, by rw [h4]; exact hnm, fun _ => .inr (.inl ⟨rfl, rfl⟩)⟩
  · rw [live_n1]
    obtain ⟨S, h1, h2, h3, h4⟩ := step_b (n := n) (bb := bb) sv live_m1 hr he hme hI hc
    exact ⟨S, h1, h2, h3, by rw [h4]; exact hnm, fun _ => .inr (.inr (.inl ⟨rfl, rfl⟩))⟩
  · rw [live_n2]
    obtain ⟨S, h1, h2, h3, h4⟩ := step_text (n := n) (bb := bb) sv live_m2 hr he hme hI hc [99] (by decide)
    exact ⟨S, h1, h2, h3, by rw [h4]; exact hnm, fun _ => .inr (.inr (.inr rfl))⟩
  · exact absurd (nxt_nil _) hk
theorem fragment_live (w : World) (he : S4.Env w) : Calls Tryz.prog 8 #[.string ⟨#[97, 60, 98, 62, 99]⟩] w (FragA w liveL) :=
  fragment_p QLive live_step ⟨#[97, 60, 98, 62, 99]⟩ (by decide) w he (.inl ⟨rfl, rfl⟩)
theorem live_err : fragErr liveL = 0 := by kernel_rfl
end Go.Proofs.YtfohijnkeefcfaaGreatDoor
