/- MarksTurns's walk. -/
import Derived.Test.YtihpjalbdkiecaaLC7
set_option linter.unusedVariables false
set_option linter.unusedSimpArgs false
namespace Go.Proofs.Ytihpjalbdkiecaa
open Go.RowKit

/-- From block C on nothing was written. -/
def Up (C : Nat) (w w' : World) : Prop := ∀ k o, C ≤ k → w'.cell? ⟨k, o, none⟩ = w.cell? ⟨k, o, none⟩ ∧ w'.frozen? ⟨k, o, none⟩ = w.frozen? ⟨k, o, none⟩
theorem Up.refl (C : Nat) (w : World) : Up C w w := fun _ _ _ => ⟨rfl, rfl⟩
theorem Up.set {C : Nat} {w w' : World} (h : Up C w w') (b o : Nat) (hb : b < C) (x : Value) : Up C w (w'.setCell ⟨b, o, none⟩ x) := fun k o' hk => by
  obtain ⟨h1, h2⟩ := h k o' hk
  exact ⟨by rw [World.cell?_setCell_other _ _ _ _ (by intro he; injection he with he _ _; omega)]; exact h1, by rw [World.frozen?_setCell]; exact h2⟩
theorem NewM.up {C : Nat} {w w' : World} {v : Value} {l : List MV} (h : NewM C w v l) (u : Up C w w') : NewM C w' v l := by
  rcases h with h | ⟨b, o, cap, rfl, hk, hB, hc, hf⟩
  · exact .inl h
  · refine .inr ⟨b, o, cap, rfl, hk, hB, fun j hj => ?_, fun j hj => ?_⟩
    · obtain ⟨h0, h1, h2⟩ := hc j hj
      exact ⟨by rw [(u b _ hB).1]; exact h0, by rw [(u b _ hB).1]; exact h1, by rw [(u b _ hB).1]; exact h2⟩
    · rw [(u b _ hB).2]; exact hf j hj
theorem rowM_lt {w : World} {a : Option Addr} {n c : Nat} {l : List MV} (h : RowM w (.slice a n c) l) (hn : 0 < l.length) : ∀ b o, a = some ⟨b, o, none⟩ → b < w.heap.size := by
  intro b o e
  obtain ⟨b', o', e', h0, -, -⟩ := h.get 0 hn
  rw [e] at e'
  simp only [Option.some.injEq, Addr.mk.injEq, and_true] at e'
  obtain ⟨rfl, rfl⟩ := e'
  exact cell_lt h0

set_option maxHeartbeats 1000000 in
theorem spoil_mid (B : Nat) (v : Value) (l : List MV) (hl : l.length ≤ 100000) (w x : World) (hM : NewM B w v l) (hx : RowM x v l) :
    Calls Try.prog 23 #[v] w fun e w' => e = .returned (.tuple #[]) ∧ Below B w w' ∧ Up x.heap.size w w' := by
  obtain ⟨a, c, rfl⟩ := new_form hM
  have HM := hide (new_open hM)
  have HLT := hide (rowM_lt hx)
  clear hM hx
  obtain ⟨N, hN⟩ : ∃ N, N = l.length := ⟨_, rfl⟩
  rw [← hN] at HM HLT hl ⊢
  clear hN
  go_enter Try.func23, Try.ntmps23
  go_wp2
  go_loopw [2] (fun i wr => ∃ k : Nat, k ≤ N ∧ i = .int .i64 k ∧ Hid (Below B w wr) ∧ Hid (Up x.heap.size w wr) ∧ Hid (0 < N → ∃ b o, a = some ⟨b, o, none⟩ ∧ OpenM B wr b o N)) (fun i _ => N - (intOf i).toNat)
  case atStart => exact ⟨0, Nat.zero_le _, rfl, hide (Below.refl _ _), hide (Up.refl _ _), HM⟩
  case round =>
    obtain ⟨k, hk, rfl, BW, UW, HO⟩ := hrel
    by_cases hltN : k < N
    · have hlt2 : (k : Int) < N := by omega
      obtain ⟨b, o, rfl, hop⟩ := HO.out (by omega)
      obtain ⟨⟨y, hx⟩, hf⟩ := hop.2 k hltN
      have HO2 := hide (hop.set k (.string ⟨#[115, 112, 111, 105, 108, 116]⟩))
      have HB2 := hide (BW.out.setCell (p := ⟨b, o + k * 3 + 1, none⟩) hop.1 (.string ⟨#[115, 112, 111, 105, 108, 116]⟩))
      have HU2 := hide (UW.out.set b (o + k * 3 + 1) (HLT.out (by omega) b o rfl) (.string ⟨#[115, 112, 111, 105, 108, 116]⟩))
      clear hop HO hltN
      go_wp2
      go_roundw
      case rel => exact ⟨k + 1, by omega, by go_num, HB2, HU2, hide fun _ => ⟨b, o, rfl, HO2.out⟩⟩
      case measure => simp [intOf]; omega
    · have hlt2 : ¬ (k : Int) < N := by omega
      clear hltN
      go_wp2
      go_end0
      exact ⟨rfl, BW.out, UW.out⟩

set_option maxHeartbeats 4000000 in
theorem marksTurns_walk (v : Value) (l : List MV) (z : Int) (m : MV) (w : World) (hM : RowM w v l) (hOk : OkM w l) (hm : IsQ w m.av m.aa) :
    Calls Try.prog 5 #[v, .int .i64 z, .agg #[.int .i64 m.id, .string m.nm, m.av]] w fun e w' => e = .returned (.bool true) ∧ Below w.heap.size w w' := by
  have H1 := hide alive_any
  have bA : Below w.heap.size w (boxM w m.id m.nm m.av) := below_alloc w _
  have HSM := hide (small_any v l (boxM w m.id m.nm m.av) (hM.below bA) (hOk.below bA))
  by_cases hs : smallL l = true
  · by_cases h6 : m.aa.length ≤ 6
    · rw [hs] at HSM
      have hS := small_of l hs
      have hl40 := ((small_iff l).1 hs).1
      have HCP := hide (copied_any v l (by omega) (boxM w m.id m.nm m.av) (hM.below bA) (hOk.below bA))
      have HBX := hide (fun w1 (b : Below (w.heap.size + 1) (boxM w m.id m.nm m.av) w1) => And.intro (boxM_below w _ _ _ b) (boxM_cells w m.id m.nm m.av b))
      have HC := hide (fun own x (b : Below w.heap.size w x) (h : RowM x own l) => clear_p own l hS x h (hOk.below b))
      have HD := hide (fun own x (b : Below w.heap.size w x) (h : RowM x own l) => drop_p own l hS z x h (hOk.below b))
      have HI := hide (fun own x (b : Below w.heap.size w x) (h : RowM x own l) => insert_p own l hS z m (by omega) x h (hOk.below b) (hm.below b))
      have HRC := hide (fun x (b : Below w.heap.size w x) => rclear_any v l (by omega) x (hM.below b) (hOk.below b))
      have HRD := hide (fun x (b : Below w.heap.size w x) => rdrop_any v l (by omega) z x (hM.below b) (hOk.below b))
      have HRI := hide (fun x (b : Below w.heap.size w x) => rinsert_any v l (by omega) z m x (hM.below b) (hOk.below b) (hm.below b))
      have hSC := small_clear hS
      have hSD := small_drop z hS
      have hSI := small_insert (m := m) z hS (by omega) (by omega)
      have kC : OkM w (clearL l) := fun x hx => hOk x (clear_mem l x hx)
      have kD : OkM w (dropL l z) := fun x hx => hOk x (drop_mem l z x hx)
      have kI : OkM w (insertL l z m) := okM_insert z hOk hm
      have HSC := hide (fun va vb x (b : Below w.heap.size w x) (ha : RowM x va (clearL l)) (hb : RowM x vb (clearL l)) => same_one va vb _ _ (by have := hSC.1; omega) (fun y hy => by have := hSC.2 y hy; omega) rfl x ha hb (kC.below b) (kC.below b))
      have HSD := hide (fun va vb x (b : Below w.heap.size w x) (ha : RowM x va (dropL l z)) (hb : RowM x vb (dropL l z)) => same_one va vb _ _ (by have := hSD.1; omega) (fun y hy => by have := hSD.2 y hy; omega) rfl x ha hb (kD.below b) (kD.below b))
      have HSI := hide (fun va vb x (b : Below w.heap.size w x) (ha : RowM x va (insertL l z m)) (hb : RowM x vb (insertL l z m)) => same_one va vb _ _ (by have := hSI.1; omega) (fun y hy => by have := hSI.2 y hy; omega) rfl x ha hb (kI.below b) (kI.below b))
      have HSO := hide (fun own x (b : Below w.heap.size w x) (ha : RowM x own l) => same_one own v l l (by omega) (fun y hy => by have := hS.2 y hy; omega) rfl x ha (hM.below b) (hOk.below b) (hOk.below b))
      have HPA := hide (fun B va x y (h : NewM B x va (clearL l)) (h2 : RowM y va (clearL l)) => spoil_mid B va _ (by have := hSC.1; omega) x y h h2)
      have HPB := hide (fun B va x y (h : NewM B x va (dropL l z)) (h2 : RowM y va (dropL l z)) => spoil_mid B va _ (by have := hSD.1; omega) x y h h2)
      have HPC := hide (fun B va x y (h : NewM B x va (insertL l z m)) (h2 : RowM y va (insertL l z m)) => spoil_mid B va _ (by have := hSI.1; omega) x y h h2)
      obtain ⟨a, c, rfl⟩ := rowM_form hM
      obtain ⟨ma, mc, hmv⟩ := isQ_form hm
      rw [hmv] at HSM HCP HI HRI HBX ⊢
      have h6' : ¬ ((6 : Int) < m.aa.length) := by omega
      generalize m.id = id at *
      generalize m.nm = nm at *
      generalize m.aa.length = ml at *
      generalize clearL l = CL at *
      generalize dropL l z = DL at *
      generalize insertL l z m = IL at *
      rw [boxM_size] at HCP
      clear hM hOk hm hmv hs h6 hS hSC hSD hSI bA kC kD kI
      obtain ⟨d0, d1, d2⟩ := (HBX.out _ (Below.refl _ _)).2
      go_enter Try.func5, Try.ntmps5
      go_wp2_with fail
      refine HSM.out.mono ?_
      rintro e x0 ⟨rfl, rfl⟩
      go_wp2_with fail
      refine HCP.out.mono ?_
      rintro e x1 ⟨⟨v1, rfl, hN1⟩, b1⟩
      obtain ⟨a1, c1, rfl⟩ := new_form hN1
      have HW1 := hide hN1.row
      have BB1 := hide (HBX.out _ b1).1
      have BX1 := hide b1
      have HZ1 : Hid (w.heap.size + 1 ≤ x1.heap.size) := hide (by have := b1.size; rw [boxM_size] at this; exact this)
      clear b1 hN1 d0 d1 d2 HCP HSM
      go_wp2_with fail
      refine (HC.out _ _ BB1.out HW1.out).mono ?_
      rintro e x2 ⟨⟨v2, rfl, hN2⟩, b2⟩
      obtain ⟨a2, c2, rfl⟩ := new_form hN2
      have B12 := hide b2
      have HN2 := hide hN2
      have HW12 := hide (HW1.out.below b2)
      have BB2 := hide (BB1.out.trans (b2.mono BB1.out.size))
      clear b2 hN2 HC
      go_wp2_with fail
      refine (HD.out _ _ BB2.out HW12.out).mono ?_
      rintro e x3 ⟨⟨v3, rfl, hN3⟩, b3⟩
      obtain ⟨a3, c3, rfl⟩ := new_form hN3
      have B23 := hide b3
      have B13 := hide (B12.out.trans (b3.mono B12.out.size))
      have HN3 := hide hN3
      have HW13 := hide (HW12.out.below b3)
      have BB3 := hide (BB2.out.trans (b3.mono BB2.out.size))
      obtain ⟨p0, p1, p2⟩ := (HBX.out _ (BX1.out.trans (B13.out.mono HZ1.out))).2
      clear b3 hN3 HD HW12
      go_wp2_with fail
      refine (HI.out _ _ BB3.out HW13.out).mono ?_
      rintro e x4 ⟨⟨v4, rfl, hN4⟩, b4⟩
      obtain ⟨a4, c4, rfl⟩ := new_form hN4
      have B34 := hide b4
      have B24 := hide (B23.out.trans (b4.mono B23.out.size))
      have B14 := hide (B13.out.trans (b4.mono B13.out.size))
      have HN4 := hide hN4
      have BB4 := hide (BB3.out.trans (b4.mono BB3.out.size))
      clear b4 hN4 HI HW13 p0 p1 p2
      go_wp2_with fail
      refine (HRC.out _ BB4.out).mono ?_
      rintro e x5 ⟨⟨v5, rfl, hN5⟩, b5⟩
      obtain ⟨a5, c5, rfl⟩ := new_form hN5
      have HW5 := hide hN5.row
      have B45 := hide b5
      have BB5 := hide (BB4.out.trans (b5.mono BB4.out.size))
      have B25 := hide (B24.out.trans (b5.mono B24.out.size))
      clear b5 hN5 HRC
      go_wp2_with fail
      refine (HSC.out _ _ _ BB5.out (HN2.out.row.below B25.out) HW5.out).mono ?_
      rintro e x6 ⟨rfl, b6⟩
      have B46 := hide (B45.out.trans (b6.mono B45.out.size))
      have BB6 := hide (BB5.out.trans (b6.mono BB5.out.size))
      clear b6 HW5 HSC B25
      go_wp2_with fail
      refine (HRD.out _ BB6.out).mono ?_
      rintro e x7 ⟨⟨v7, rfl, hN7⟩, b7⟩
      obtain ⟨a7, c7, rfl⟩ := new_form hN7
      have HW7 := hide hN7.row
      have B47 := hide (B46.out.trans (b7.mono B46.out.size))
      have BB7 := hide (BB6.out.trans (b7.mono BB6.out.size))
      have B37 := hide (B34.out.trans (B47.out.mono B34.out.size))
      clear b7 hN7 HRD B45 B46
      go_wp2_with fail
      refine (HSD.out _ _ _ BB7.out (HN3.out.row.below B37.out) HW7.out).mono ?_
      rintro e x8 ⟨rfl, b8⟩
      have B48 := hide (B47.out.trans (b8.mono B47.out.size))
      have BB8 := hide (BB7.out.trans (b8.mono BB7.out.size))
      have B18 := hide (B14.out.trans (B48.out.mono B14.out.size))
      obtain ⟨p0, p1, p2⟩ := (HBX.out _ (BX1.out.trans (B18.out.mono HZ1.out))).2
      clear b8 HW7 HSD B47 B37
      go_wp2_with fail
      refine (HRI.out _ BB8.out).mono ?_
      rintro e x9 ⟨⟨v9, rfl, hN9⟩, b9⟩
      obtain ⟨a9, c9, rfl⟩ := new_form hN9
      have HW9 := hide hN9.row
      have B49 := hide (B48.out.trans (b9.mono B48.out.size))
      have BB9 := hide (BB8.out.trans (b9.mono BB8.out.size))
      clear b9 hN9 HRI B48 p0 p1 p2 B18
      go_wp2_with fail
      refine (HSI.out _ _ _ BB9.out (HN4.out.row.below B49.out) HW9.out).mono ?_
      rintro e x10 ⟨rfl, b10⟩
      have B4t := hide (B49.out.trans (b10.mono B49.out.size))
      have BBt := hide (BB9.out.trans (b10.mono BB9.out.size))
      have B1t := hide (B14.out.trans (B4t.out.mono B14.out.size))
      have NA := hide (HN2.out.below (B24.out.trans (B4t.out.mono B24.out.size)))
      have NB := hide (HN3.out.below (B34.out.trans (B4t.out.mono B34.out.size)))
      have NC := hide (HN4.out.below B4t.out)
      clear b10 HW9 HSI B49 B4t B24 B34 B14
      go_wp2_with fail
      refine (HPA.out _ _ _ _ NA.out HN2.out.row).mono ?_
      rintro e y1 ⟨rfl, e1, u1⟩
      have F1 := hide (B1t.out.trans e1)
      have G1 := hide (BBt.out.trans (e1.mono BB1.out.size))
      have NB1 := hide (NB.out.up u1)
      have NC1 := hide (NC.out.up (fun k o hk => u1 k o (Nat.le_trans B23.out.size hk)))
      clear e1 u1 NA HPA NB NC B1t BBt
      go_wp2_with fail
      refine (HPB.out _ _ _ _ NB1.out HN3.out.row).mono ?_
      rintro e y2 ⟨rfl, e2, u2⟩
      have F2 := hide (F1.out.trans (e2.mono B12.out.size))
      have G2 := hide (G1.out.trans (e2.mono BB2.out.size))
      have NC2 := hide (NC1.out.up u2)
      clear e2 u2 NB1 HPB NC1 F1 G1
      go_wp2_with fail
      refine (HPC.out _ _ _ _ NC2.out HN4.out.row).mono ?_
      rintro e y3 ⟨rfl, e3, u3⟩
      have F3 := hide (F2.out.trans (e3.mono B13.out.size))
      have G3 := hide (G2.out.trans (e3.mono BB3.out.size))
      clear e3 u3 NC2 HPC F2 G2
      go_wp2_with fail
      refine (H1.out _).mono ?_
      rintro e y4 ⟨rfl, e4⟩
      have F4 := hide (F3.out.trans (e4.mono F3.out.size))
      have G4 := hide (G3.out.trans (e4.mono G3.out.size))
      clear e4 F3 G3
      go_wp2_with fail
      refine (HSO.out _ _ G4.out (HW1.out.below F4.out)).mono ?_
      rintro e y5 ⟨rfl, e5⟩
      go_wp2
      go_ret
      exact ⟨rfl, G4.out.trans (e5.mono G4.out.size)⟩
    · rw [hs] at HSM
      have HBX := hide (boxM_cells w m.id m.nm m.av (Below.refl _ _))
      obtain ⟨a, c, rfl⟩ := rowM_form hM
      obtain ⟨ma, mc, hmv⟩ := isQ_form hm
      have h6' : (6 : Int) < m.aa.length := by omega
      rw [hmv] at HSM HBX bA ⊢
      generalize m.id = id at *
      generalize m.nm = nm at *
      generalize m.aa.length = ml at *
      have BA := hide bA
      obtain ⟨d0, d1, d2⟩ := HBX.out
      clear hM hOk hm hmv hs h6 bA
      go_enter Try.func5, Try.ntmps5
      go_wp2_with fail
      refine HSM.out.mono ?_
      rintro e x0 ⟨rfl, rfl⟩
      go_wp2_with fail
      refine (H1.out _).mono ?_
      rintro e w1 ⟨rfl, b1⟩
      go_wp2
      go_ret
      exact ⟨rfl, BA.out.trans (b1.mono BA.out.size)⟩
  · rw [Bool.eq_false_iff.2 hs] at HSM
    obtain ⟨a, c, rfl⟩ := rowM_form hM
    obtain ⟨ma, mc, hmv⟩ := isQ_form hm
    rw [hmv] at HSM bA ⊢
    generalize m.id = id at *
    generalize m.nm = nm at *
    generalize m.aa.length = ml at *
    have BA := hide bA
    clear hM hOk hm hmv hs bA
    go_enter Try.func5, Try.ntmps5
    go_wp2_with fail
    refine HSM.out.mono ?_
    rintro e x0 ⟨rfl, rfl⟩
    go_wp2_with fail
    refine (H1.out _).mono ?_
    rintro e w1 ⟨rfl, b1⟩
    go_wp2
    go_ret
    exact ⟨rfl, BA.out.trans (b1.mono BA.out.size)⟩
end Go.Proofs.Ytihpjalbdkiecaa
