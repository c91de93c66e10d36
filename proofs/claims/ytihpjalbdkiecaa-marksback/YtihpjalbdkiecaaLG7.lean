/- MarksBack's walk. -/
import Derived.Test.YtihpjalbdkiecaaLC7
import Derived.Deep.RegionHeld2
set_option linter.unusedVariables false
set_option linter.unusedSimpArgs false
namespace Go.Proofs.Ytihpjalbdkiecaa
open Go.RowKit

theorem isZ_none (w : World) : IsZ w (.slice none 0 0) [] := .inl ⟨rfl, _, _, rfl⟩
theorem km_eq : kM = ⟨0, ⟨#[]⟩, [], .slice none 0 0⟩ := rfl
/-- The place, as the statement reckons it. -/
def placeAt (z : Int) (N : Nat) : Int := if z < 0 then 0 else if (N : Int) < z then (N : Int) else z
theorem place_at (l : List MV) (z : Int) : (atN l z : Int) = placeAt z l.length := by
  unfold atN placeAt
  split
  · rw [show z.toNat = 0 by omega]; simp
  · split
    · omega
    · omega

set_option maxRecDepth 10000 in
set_option maxHeartbeats 4000000 in
theorem back_ok (v : Value) (l : List MV) (hs : smallL l = true) (z : Int) (m : MV) (h6 : m.aa.length ≤ 6) (h0 : m.id ≠ 0) (w : World) (hM : RowM w v l) (hOk : OkM w l) (hm : IsQ w m.av m.aa) :
    Calls Try.prog 8 #[v, .int .i64 z, .agg #[.int .i64 m.id, .string m.nm, m.av]] w fun e w' => e = .returned (.bool true) ∧ Below w.heap.size w w' := by
  have H1 := hide alive_any
  have bA : Below w.heap.size w (boxM w m.id m.nm m.av) := below_alloc w _
  have HSM := hide (small_any v l (boxM w m.id m.nm m.av) (hM.below bA) (hOk.below bA))
  rw [hs] at HSM
  have hS := small_of l hs
  have hl40 := ((small_iff l).1 hs).1
  have HBX := hide (fun w1 (b : Below (w.heap.size + 1) (boxM w m.id m.nm m.av) w1) => And.intro (boxM_below w _ _ _ b) (boxM_cells w m.id m.nm m.av b))
  have HI := hide (fun x (b : Below w.heap.size w x) => insert_p v l hS z m (by omega) x (hM.below b) (hOk.below b) (hm.below b))
  have hSI := small_insert (m := m) z hS (by omega) (by omega)
  have kI : OkM w (insertL l z m) := okM_insert z hOk hm
  have hil := insert_length l z m
  have HD := hide (fun (hne : ∀ x ∈ l, x.id ≠ m.id) vi x (b : Below w.heap.size w x) (h : RowM x vi (insertL l z m)) => by
    have := drop_p vi (insertL l z m) hSI m.id x h (kI.below b)
    rw [drop_insert l z m hne] at this
    exact this)
  have HF := hide (fun (hne : ∀ x ∈ l, x.id ≠ m.id) vi x (b : Below w.heap.size w x) (h : RowM x vi (insertL l z m)) => by
    have := find_p vi (insertL l z m) hSI m.id x h (kI.below b)
    rw [find_insert l z m hne, place_at] at this
    exact this)
  have hSK : SmallM (l ++ [kM]) := ⟨by simp; omega, fun x hx => by
    rcases List.mem_append.1 hx with h | h
    · exact hS.2 x h
    · obtain rfl : x = kM := by simpa using h
      decide⟩
  have kK : ∀ x, Below w.heap.size w x → OkM x (l ++ [kM]) := fun x b y hy => by
    rcases List.mem_append.1 hy with h | h
    · exact (hOk y h).below b
    · obtain rfl : y = kM := by simpa using h
      exact isQ_nil x
  have HPK := hide (fun x (b : Below w.heap.size w x) => by
    have := push_p v l hS kM (by decide) x (hM.below b) (hOk.below b) (isQ_nil x)
    rw [push_keep l kM (.inl rfl)] at this
    exact this)
  have hww := with_eq l kM m rfl h0
  rw [push_keep l kM (.inl rfl)] at hww
  have HPM := hide (fun vk x (b : Below w.heap.size w x) (h : RowM x vk (l ++ [kM])) => by
    have := push_p vk (l ++ [kM]) hSK m (by omega) x h (kK x b) (hm.below b)
    rw [hww] at this
    exact this)
  have hSW : SmallM (l ++ [kM] ++ [m]) := ⟨by simp; omega, fun x hx => by
    rcases List.mem_append.1 hx with h | h
    · exact hSK.2 x h
    · obtain rfl : x = m := by simpa using h
      omega⟩
  have kW : ∀ x, Below w.heap.size w x → OkM x (l ++ [kM] ++ [m]) := fun x b y hy => by
    rcases List.mem_append.1 hy with h | h
    · exact kK x b y h
    · obtain rfl : y = m := by simpa using h
      exact hm.below b
  have HCL := hide (fun vw x (b : Below w.heap.size w x) (h : RowM x vw (l ++ [kM] ++ [m])) => by
    have := clear_p vw (l ++ [kM] ++ [m]) hSW x h (kW x b)
    rw [clear_with l kM m rfl h0] at this
    exact this)
  have HRN := hide (fun vw x (b : Below w.heap.size w x) (h : RowM x vw (l ++ [kM] ++ [m])) => by
    have := renew_p vw (.slice none 0 0) (l ++ [kM] ++ [m]) hSW [] (by decide) x h (kW x b) (isZ_none x)
    rw [renew_with l kM m rfl h0] at this
    exact this)
  have HSO := hide (fun vo x (b : Below w.heap.size w x) (ha : RowM x vo l) => same_one vo v l l (by omega) (fun y hy => by have := hS.2 y hy; omega) rfl x ha (hM.below b) (hOk.below b) (hOk.below b))
  obtain ⟨a, c, rfl⟩ := rowM_form hM
  obtain ⟨ma, mc, hmv⟩ := isQ_form hm
  have HM := hide hM
  rw [hmv] at HSM HBX HI HPM ⊢
  have h6' : ¬ ((6 : Int) < m.aa.length) := by omega
  have h0' := ne_int m.id 0 h0
  generalize insertL l z m = IL at *
  generalize l ++ [kM] ++ [m] = WL at *
  generalize l ++ [kM] = KL at *
  obtain ⟨N, hN⟩ : ∃ N, N = l.length := ⟨_, rfl⟩
  rw [← hN] at HM HSM HI HF HPK HRN HSO hil ⊢
  have HNL := hide hN
  have HIL := hide hil
  generalize m.id = id at *
  generalize m.nm = nm at *
  generalize m.aa.length = ml at *
  have hN40 : N ≤ 40 := by omega
  clear hM hOk hm hmv hs h6 hS hSI hSK hSW kK kW kI bA hN hil hww h0 hl40
  obtain ⟨d0, d1, d2⟩ := (HBX.out _ (Below.refl _ _)).2
  go_enter Try.func8, Try.ntmps8
  go_wp2_with fail
  refine HSM.out.mono ?_
  rintro e x0 ⟨rfl, rfl⟩
  go_wp2_with fail
  clear d0 d1 d2
  go_loopw [7] (fun i wr => ∃ k : Nat, k ≤ N ∧ i = .int .i64 (k : Int) ∧ Hid (Below (w.heap.size + 1) (boxM w id nm (.slice ma ml mc)) wr) ∧ Hid (∀ j (h : j < l.length), j < k → l[j].id ≠ id)) (fun i _ => N - (intOf i).toNat)
  case atStart => exact ⟨0, Nat.zero_le _, rfl, hide (Below.refl _ _), hide fun j _ h => by omega⟩
  case round =>
    obtain ⟨k, hk, rfl, BW, HNE⟩ := hrel
    generalize wr = wq at *
    obtain ⟨bb, d0, d1, d2⟩ := HBX.out _ BW.out
    have BB := hide bb
    by_cases hltN : k < N
    · have hlt : k < l.length := by rw [← HNL.out]; exact hltN
      have hlt2 : (k : Int) < N := by omega
      obtain ⟨b, o, rfl, c0, -, -⟩ := (HM.out.below bb).get k hlt
      by_cases he : l[k].id = id
      · rw [he] at c0
        clear hlt he hltN bb d1 d2
        go_wp2_with fail
        go_region
        all_goals (try go_wp2_with fail)
        all_goals
          refine (H1.out _).mono ?_
          rintro e w1 ⟨rfl, b1⟩
          go_wp2
          go_ret
          exact ⟨rfl, BB.out.drew.trans (b1.mono BB.out.drew.size)⟩
      · have hne := ne_int l[k].id id he
        have HNE2 : Hid (∀ j (h : j < l.length), j < k + 1 → l[j].id ≠ id) := hide fun j h hj => by
          by_cases e : j = k
          · subst e; exact he
          · exact HNE.out j h (by omega)
        generalize l[k].id = idk at *
        clear hlt he hltN bb d1 d2
        go_wp2_with fail
        go_region
        all_goals (try go_wp2)
        all_goals go_roundw
        case rel => exact ⟨k + 1, by omega, by go_num, hide BW.out.drew, HNE2⟩
        case measure => simp [intOf]; omega
    · obtain rfl : k = N := by omega
      have hlt2 : ¬ (k : Int) < k := by omega
      have HNX : Hid (∀ x ∈ l, x.id ≠ id) := hide fun x hx => by
        obtain ⟨j, hj, rfl⟩ := List.mem_iff_getElem.1 hx
        exact HNE.out j hj (by rw [HNL.out]; exact hj)
      have G1 := hide (HD.out HNX.out)
      have G2 := hide (HF.out HNX.out)
      clear hltN HNE HNX HD HF bb
      go_wp2_with fail
      refine (HI.out _ BB.out).mono ?_
      rintro e x1 ⟨⟨v1, rfl, hN1⟩, b1⟩
      obtain ⟨a1, c1, rfl⟩ := new_form hN1
      rw [HIL.out]
      rw [HIL.out] at hN1
      have HZ : Hid (w.heap.size + 1 ≤ wq.heap.size) := hide (by have := BW.out.size; rw [boxM_size] at this; exact this)
      have BX1 := hide (BW.out.trans (b1.mono HZ.out))
      have HR1 := hide hN1.row
      have BB1 := hide (HBX.out _ BX1.out).1
      obtain ⟨p0, p1, p2⟩ := (HBX.out _ BX1.out).2
      have HSC : Hid (∀ W', Below (w.heap.size + 1) (boxM w id nm (.slice ma ml mc)) W' → W'.cell? ⟨w.heap.size, 0, none⟩ = some (.int .i64 id) ∧ W'.cell? ⟨w.heap.size, 1, none⟩ = some (.string nm) ∧ W'.cell? ⟨w.heap.size, 2, none⟩ = some (.slice ma ml mc)) := hide fun W' h => (HBX.out W' h).2
      clear b1 hN1 HI d0 d1 d2
      rcases (by omega : z < 0 ∨ (¬ z < 0 ∧ (k : Int) < z) ∨ (¬ z < 0 ∧ ¬ (k : Int) < z)) with hz | ⟨hz, hz2⟩ | ⟨hz, hz2⟩
      case inl =>
        have hp : placeAt z k = 0 := if_pos hz
        rw [hp] at G2
        clear hp
        have hk0 : ¬ ((k : Int) < 0) := by omega
        go_wp2_with fail
        refine (G1.out _ _ BB1.out HR1.out).mono ?_
        rintro e x2 ⟨⟨v2, rfl, hN2⟩, b2⟩
        obtain ⟨a2, c2, rfl⟩ := new_form hN2
        rw [← HNL.out]
        rw [← HNL.out] at hN2
        have HR2 := hide hN2.row
        have B12 := hide b2
        have HZ1 : Hid (w.heap.size + 1 ≤ x1.heap.size) := hide (by have := BX1.out.size; rw [boxM_size] at this; exact this)
        have X2 := hide (BX1.out.trans (b2.mono HZ1.out)).drew
        have B22 := hide (Below.refl x2.heap.size x2).drew
        have HPK2 := hide (HPK.out _ (HBX.out _ X2.out).1)
        clear b2 hN2 p0 p1 p2 G1 HPK
        go_wp2_with fail
        go_region_held2 (fun W' => W'.cell? ⟨w.heap.size, 0, none⟩ = some (.int .i64 id) ∧ W'.cell? ⟨w.heap.size, 1, none⟩ = some (.string nm) ∧ W'.cell? ⟨w.heap.size, 2, none⟩ = some (.slice ma ml mc)) (first | with_reducible exact HSC.out _ X2.out | with_reducible exact HSC.out _ X3.out | with_reducible exact HSC.out _ X4.out) (first | (go_at_call 14; refine (HPM.out _ _ (HBX.out _ X3.out).1 HR3.out).mono ?_; rintro e x4 ⟨⟨v4, rfl, hN4⟩, b4⟩; obtain ⟨a4, c4, rfl⟩ := new_form hN4; have HR4 := hide hN4.row; have B24 := hide (B23.out.trans (b4.mono B23.out.size)); have X4 := hide (X3.out.trans (b4.mono (by have := X3.out.size; rw [boxM_size] at this; exact this))); clear b4 hN4) | (go_at_call 14; refine HPK2.out.mono ?_; rintro e x3 ⟨⟨v3, rfl, hN3⟩, b3⟩; obtain ⟨a3, c3, rfl⟩ := new_form hN3; have HR3 := hide hN3.row; have B23 := hide (B22.out.trans (b3.mono B22.out.size)); have X3 := hide (X2.out.trans (b3.mono (by have := X2.out.size; rw [boxM_size] at this; exact this))); clear b3 hN3))
        have BB4 := hide (HBX.out _ X4.out).1
        have B14 := hide (B12.out.trans (B24.out.mono B12.out.size))
        go_wp2_with fail
        refine (H1.out _).mono ?_
        rintro e x5 ⟨rfl, b5⟩
        have BB5 := hide (BB4.out.trans (b5.mono BB4.out.size))
        have B45 := hide b5
        have B15 := hide (B14.out.trans (b5.mono B14.out.size))
        have X5 := hide (X4.out.trans (b5.mono (by have := X4.out.size; rw [boxM_size] at this; exact this)))
        obtain ⟨p0, p1, p2⟩ := HSC.out _ X5.out
        clear b5
        go_wp2_with fail
        refine (G2.out _ _ BB5.out (HR1.out.below B15.out)).mono ?_
        rintro e x6 ⟨rfl, b6⟩
        have BB6 := hide (BB5.out.trans (b6.mono BB5.out.size))
        have B46 := hide (B45.out.trans (b6.mono B45.out.size))
        have B26 := hide (B24.out.trans (B46.out.mono B24.out.size))
        clear b6 p0 p1 p2
        go_wp2_with fail
        refine (HSO.out _ _ BB6.out (HR2.out.below B26.out)).mono ?_
        rintro e x7 ⟨rfl, b7⟩
        have BB7 := hide (BB6.out.trans (b7.mono BB6.out.size))
        have B47 := hide (B46.out.trans (b7.mono B46.out.size))
        clear b7
        go_wp2_with fail
        refine (HCL.out _ _ BB7.out (HR4.out.below B47.out)).mono ?_
        rintro e x8 ⟨⟨v8, rfl, hN8⟩, b8⟩
        obtain ⟨a8, c8, rfl⟩ := new_form hN8
        rw [← HNL.out]
        rw [← HNL.out] at hN8
        have HR8 := hide hN8.row
        have BB8 := hide (BB7.out.trans (b8.mono BB7.out.size))
        have B48 := hide (B47.out.trans (b8.mono B47.out.size))
        clear b8 hN8
        go_wp2_with fail
        refine (HSO.out _ _ BB8.out HR8.out).mono ?_
        rintro e x9 ⟨rfl, b9⟩
        have BB9 := hide (BB8.out.trans (b9.mono BB8.out.size))
        have B49 := hide (B48.out.trans (b9.mono B48.out.size))
        clear b9
        go_wp2_with fail
        refine (HRN.out _ _ BB9.out (HR4.out.below B49.out)).mono ?_
        rintro e x10 ⟨rfl, b10⟩
        go_wp2
        go_ret
        exact ⟨by simp, BB9.out.trans (b10.mono BB9.out.size)⟩
      case inr.inl =>
        have hp : placeAt z k = (k : Int) := by unfold placeAt; rw [if_neg hz, if_pos hz2]
        rw [hp] at G2
        clear hp
        go_wp2_with fail
        refine (G1.out _ _ BB1.out HR1.out).mono ?_
        rintro e x2 ⟨⟨v2, rfl, hN2⟩, b2⟩
        obtain ⟨a2, c2, rfl⟩ := new_form hN2
        rw [← HNL.out]
        rw [← HNL.out] at hN2
        have HR2 := hide hN2.row
        have B12 := hide b2
        have HZ1 : Hid (w.heap.size + 1 ≤ x1.heap.size) := hide (by have := BX1.out.size; rw [boxM_size] at this; exact this)
        have X2 := hide (BX1.out.trans (b2.mono HZ1.out)).drew
        have B22 := hide (Below.refl x2.heap.size x2).drew
        have HPK2 := hide (HPK.out _ (HBX.out _ X2.out).1)
        clear b2 hN2 p0 p1 p2 G1 HPK
        go_wp2_with fail
        go_region_held2 (fun W' => W'.cell? ⟨w.heap.size, 0, none⟩ = some (.int .i64 id) ∧ W'.cell? ⟨w.heap.size, 1, none⟩ = some (.string nm) ∧ W'.cell? ⟨w.heap.size, 2, none⟩ = some (.slice ma ml mc)) (first | with_reducible exact HSC.out _ X2.out | with_reducible exact HSC.out _ X3.out | with_reducible exact HSC.out _ X4.out) (first | (go_at_call 14; refine (HPM.out _ _ (HBX.out _ X3.out).1 HR3.out).mono ?_; rintro e x4 ⟨⟨v4, rfl, hN4⟩, b4⟩; obtain ⟨a4, c4, rfl⟩ := new_form hN4; have HR4 := hide hN4.row; have B24 := hide (B23.out.trans (b4.mono B23.out.size)); have X4 := hide (X3.out.trans (b4.mono (by have := X3.out.size; rw [boxM_size] at this; exact this))); clear b4 hN4) | (go_at_call 14; refine HPK2.out.mono ?_; rintro e x3 ⟨⟨v3, rfl, hN3⟩, b3⟩; obtain ⟨a3, c3, rfl⟩ := new_form hN3; have HR3 := hide hN3.row; have B23 := hide (B22.out.trans (b3.mono B22.out.size)); have X3 := hide (X2.out.trans (b3.mono (by have := X2.out.size; rw [boxM_size] at this; exact this))); clear b3 hN3))
        have BB4 := hide (HBX.out _ X4.out).1
        have B14 := hide (B12.out.trans (B24.out.mono B12.out.size))
        go_wp2_with fail
        refine (H1.out _).mono ?_
        rintro e x5 ⟨rfl, b5⟩
        have BB5 := hide (BB4.out.trans (b5.mono BB4.out.size))
        have B45 := hide b5
        have B15 := hide (B14.out.trans (b5.mono B14.out.size))
        have X5 := hide (X4.out.trans (b5.mono (by have := X4.out.size; rw [boxM_size] at this; exact this)))
        obtain ⟨p0, p1, p2⟩ := HSC.out _ X5.out
        clear b5
        go_wp2_with fail
        refine (G2.out _ _ BB5.out (HR1.out.below B15.out)).mono ?_
        rintro e x6 ⟨rfl, b6⟩
        have BB6 := hide (BB5.out.trans (b6.mono BB5.out.size))
        have B46 := hide (B45.out.trans (b6.mono B45.out.size))
        have B26 := hide (B24.out.trans (B46.out.mono B24.out.size))
        clear b6 p0 p1 p2
        go_wp2_with fail
        refine (HSO.out _ _ BB6.out (HR2.out.below B26.out)).mono ?_
        rintro e x7 ⟨rfl, b7⟩
        have BB7 := hide (BB6.out.trans (b7.mono BB6.out.size))
        have B47 := hide (B46.out.trans (b7.mono B46.out.size))
        clear b7
        go_wp2_with fail
        refine (HCL.out _ _ BB7.out (HR4.out.below B47.out)).mono ?_
        rintro e x8 ⟨⟨v8, rfl, hN8⟩, b8⟩
        obtain ⟨a8, c8, rfl⟩ := new_form hN8
        rw [← HNL.out]
        rw [← HNL.out] at hN8
        have HR8 := hide hN8.row
        have BB8 := hide (BB7.out.trans (b8.mono BB7.out.size))
        have B48 := hide (B47.out.trans (b8.mono B47.out.size))
        clear b8 hN8
        go_wp2_with fail
        refine (HSO.out _ _ BB8.out HR8.out).mono ?_
        rintro e x9 ⟨rfl, b9⟩
        have BB9 := hide (BB8.out.trans (b9.mono BB8.out.size))
        have B49 := hide (B48.out.trans (b9.mono B48.out.size))
        clear b9
        go_wp2_with fail
        refine (HRN.out _ _ BB9.out (HR4.out.below B49.out)).mono ?_
        rintro e x10 ⟨rfl, b10⟩
        go_wp2
        go_ret
        exact ⟨by simp, BB9.out.trans (b10.mono BB9.out.size)⟩
      case inr.inr =>
        have hp : placeAt z k = z := by unfold placeAt; rw [if_neg hz, if_neg hz2]
        rw [hp] at G2
        clear hp
        go_wp2_with fail
        refine (G1.out _ _ BB1.out HR1.out).mono ?_
        rintro e x2 ⟨⟨v2, rfl, hN2⟩, b2⟩
        obtain ⟨a2, c2, rfl⟩ := new_form hN2
        rw [← HNL.out]
        rw [← HNL.out] at hN2
        have HR2 := hide hN2.row
        have B12 := hide b2
        have HZ1 : Hid (w.heap.size + 1 ≤ x1.heap.size) := hide (by have := BX1.out.size; rw [boxM_size] at this; exact this)
        have X2 := hide (BX1.out.trans (b2.mono HZ1.out)).drew
        have B22 := hide (Below.refl x2.heap.size x2).drew
        have HPK2 := hide (HPK.out _ (HBX.out _ X2.out).1)
        clear b2 hN2 p0 p1 p2 G1 HPK
        go_wp2_with fail
        go_region_held2 (fun W' => W'.cell? ⟨w.heap.size, 0, none⟩ = some (.int .i64 id) ∧ W'.cell? ⟨w.heap.size, 1, none⟩ = some (.string nm) ∧ W'.cell? ⟨w.heap.size, 2, none⟩ = some (.slice ma ml mc)) (first | with_reducible exact HSC.out _ X2.out | with_reducible exact HSC.out _ X3.out | with_reducible exact HSC.out _ X4.out) (first | (go_at_call 14; refine (HPM.out _ _ (HBX.out _ X3.out).1 HR3.out).mono ?_; rintro e x4 ⟨⟨v4, rfl, hN4⟩, b4⟩; obtain ⟨a4, c4, rfl⟩ := new_form hN4; have HR4 := hide hN4.row; have B24 := hide (B23.out.trans (b4.mono B23.out.size)); have X4 := hide (X3.out.trans (b4.mono (by have := X3.out.size; rw [boxM_size] at this; exact this))); clear b4 hN4) | (go_at_call 14; refine HPK2.out.mono ?_; rintro e x3 ⟨⟨v3, rfl, hN3⟩, b3⟩; obtain ⟨a3, c3, rfl⟩ := new_form hN3; have HR3 := hide hN3.row; have B23 := hide (B22.out.trans (b3.mono B22.out.size)); have X3 := hide (X2.out.trans (b3.mono (by have := X2.out.size; rw [boxM_size] at this; exact this))); clear b3 hN3))
        have BB4 := hide (HBX.out _ X4.out).1
        have B14 := hide (B12.out.trans (B24.out.mono B12.out.size))
        go_wp2_with fail
        refine (H1.out _).mono ?_
        rintro e x5 ⟨rfl, b5⟩
        have BB5 := hide (BB4.out.trans (b5.mono BB4.out.size))
        have B45 := hide b5
        have B15 := hide (B14.out.trans (b5.mono B14.out.size))
        have X5 := hide (X4.out.trans (b5.mono (by have := X4.out.size; rw [boxM_size] at this; exact this)))
        obtain ⟨p0, p1, p2⟩ := HSC.out _ X5.out
        clear b5
        go_wp2_with fail
        refine (G2.out _ _ BB5.out (HR1.out.below B15.out)).mono ?_
        rintro e x6 ⟨rfl, b6⟩
        have BB6 := hide (BB5.out.trans (b6.mono BB5.out.size))
        have B46 := hide (B45.out.trans (b6.mono B45.out.size))
        have B26 := hide (B24.out.trans (B46.out.mono B24.out.size))
        clear b6 p0 p1 p2
        go_wp2_with fail
        refine (HSO.out _ _ BB6.out (HR2.out.below B26.out)).mono ?_
        rintro e x7 ⟨rfl, b7⟩
        have BB7 := hide (BB6.out.trans (b7.mono BB6.out.size))
        have B47 := hide (B46.out.trans (b7.mono B46.out.size))
        clear b7
        go_wp2_with fail
        refine (HCL.out _ _ BB7.out (HR4.out.below B47.out)).mono ?_
        rintro e x8 ⟨⟨v8, rfl, hN8⟩, b8⟩
        obtain ⟨a8, c8, rfl⟩ := new_form hN8
        rw [← HNL.out]
        rw [← HNL.out] at hN8
        have HR8 := hide hN8.row
        have BB8 := hide (BB7.out.trans (b8.mono BB7.out.size))
        have B48 := hide (B47.out.trans (b8.mono B47.out.size))
        clear b8 hN8
        go_wp2_with fail
        refine (HSO.out _ _ BB8.out HR8.out).mono ?_
        rintro e x9 ⟨rfl, b9⟩
        have BB9 := hide (BB8.out.trans (b9.mono BB8.out.size))
        have B49 := hide (B48.out.trans (b9.mono B48.out.size))
        clear b9
        go_wp2_with fail
        refine (HRN.out _ _ BB9.out (HR4.out.below B49.out)).mono ?_
        rintro e x10 ⟨rfl, b10⟩
        go_wp2
        go_ret
        exact ⟨by simp, BB9.out.trans (b10.mono BB9.out.size)⟩
set_option maxHeartbeats 1000000 in
theorem marksBack_walk (v : Value) (l : List MV) (z : Int) (m : MV) (w : World) (hM : RowM w v l) (hOk : OkM w l) (hm : IsQ w m.av m.aa) :
    Calls Try.prog 8 #[v, .int .i64 z, .agg #[.int .i64 m.id, .string m.nm, m.av]] w fun e w' => e = .returned (.bool true) ∧ Below w.heap.size w w' := by
  have H1 := hide alive_any
  have bA : Below w.heap.size w (boxM w m.id m.nm m.av) := below_alloc w _
  have HSM := hide (small_any v l (boxM w m.id m.nm m.av) (hM.below bA) (hOk.below bA))
  have HBX := hide (boxM_cells w m.id m.nm m.av (Below.refl _ _))
  by_cases hs : smallL l = true
  · rw [hs] at HSM
    by_cases h6 : m.aa.length ≤ 6
    · by_cases h0 : m.id = 0
      · obtain ⟨a, c, rfl⟩ := rowM_form hM
        obtain ⟨ma, mc, hmv⟩ := isQ_form hm
        have h6' : ¬ ((6 : Int) < m.aa.length) := by omega
        rw [hmv, h0] at HSM HBX bA ⊢
        generalize m.nm = nm at *
        generalize m.aa.length = ml at *
        have BA := hide bA
        obtain ⟨d0, d1, d2⟩ := HBX.out
        clear hM hOk hm hmv hs h6 bA h0
        go_enter Try.func8, Try.ntmps8
        go_wp2_with fail
        refine HSM.out.mono ?_
        rintro e x0 ⟨rfl, rfl⟩
        go_wp2_with fail
        refine (H1.out _).mono ?_
        rintro e w1 ⟨rfl, b1⟩
        go_wp2
        go_ret
        exact ⟨rfl, BA.out.trans (b1.mono BA.out.size)⟩
      · exact back_ok v l hs z m h6 h0 w hM hOk hm
    · obtain ⟨a, c, rfl⟩ := rowM_form hM
      obtain ⟨ma, mc, hmv⟩ := isQ_form hm
      have h6' : (6 : Int) < m.aa.length := by omega
      rw [hmv] at HSM HBX bA ⊢
      generalize m.id = id at *
      generalize m.nm = nm at *
      generalize m.aa.length = ml at *
      have BA := hide bA
      obtain ⟨d0, d1, d2⟩ := HBX.out
      clear hM hOk hm hmv hs h6 bA
      go_enter Try.func8, Try.ntmps8
      go_wp2_with fail
      refine HSM.out.mono ?_
      rintro e x0 ⟨rfl, rfl⟩
      go_wp2_with fail
      refine (H1.out _).mono ?_
      rintro e w1 ⟨rfl, b1⟩
      go_wp2
      go_ret
      exact ⟨rfl, BA.out.trans (b1.mono BA.out.size)⟩
  · rw [Bool.eq_false_iff.2 hs] at HSM
    obtain ⟨a, c, rfl⟩ := rowM_form hM
    obtain ⟨ma, mc, hmv⟩ := isQ_form hm
    rw [hmv] at HSM bA ⊢
    generalize m.id = id at *
    generalize m.nm = nm at *
    generalize m.aa.length = ml at *
    have BA := hide bA
    clear hM hOk hm hmv hs bA
    go_enter Try.func8, Try.ntmps8
    go_wp2_with fail
    refine HSM.out.mono ?_
    rintro e x0 ⟨rfl, rfl⟩
    go_wp2_with fail
    refine (H1.out _).mono ?_
    rintro e w1 ⟨rfl, b1⟩
    go_wp2
    go_ret
    exact ⟨rfl, BA.out.trans (b1.mono BA.out.size)⟩
end Go.Proofs.Ytihpjalbdkiecaa
