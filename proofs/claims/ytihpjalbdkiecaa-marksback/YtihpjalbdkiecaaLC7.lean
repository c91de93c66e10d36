/- MarksPush's walk. -/
import Derived.Test.YtihpjalbdkiecaaLB7
set_option linter.unusedVariables false
set_option linter.unusedSimpArgs false
namespace Go.Proofs.Ytihpjalbdkiecaa
open Go.RowKit

theorem without_mem (l : List MV) (z : Int) (x : MV) (h : x ∈ withoutZ l z) : x ∈ l := by
  unfold withoutZ at h
  split at h
  · exact h
  · exact List.mem_of_mem_eraseIdx h
theorem push_mem (l : List MV) (m x : MV) (h : x ∈ pushL l m) : x ∈ l ∨ x = m := by
  unfold pushL at h
  rcases List.mem_append.1 h with h | h
  · exact .inl (without_mem l _ x h)
  · exact .inr (by simpa using h)
theorem drop_mem (l : List MV) (z : Int) (x : MV) (h : x ∈ dropL l z) : x ∈ l := without_mem l _ x h
theorem clear_mem (l : List MV) (x : MV) (h : x ∈ clearL l) : x ∈ l := List.mem_of_mem_take h
theorem insert_mem (l : List MV) (z : Int) (m x : MV) (h : x ∈ insertL l z m) : x ∈ l ∨ x = m := by
  unfold insertL at h
  rcases List.mem_append.1 h with h | h
  · exact .inl (List.mem_of_mem_take h)
  · rcases List.mem_cons.1 h with h | h
    · exact .inr h
    · exact .inl (List.mem_of_mem_drop h)
theorem without_length (l : List MV) (z : Int) : (withoutZ l z).length ≤ l.length := by
  unfold withoutZ
  split
  · exact Nat.le_refl _
  · exact List.length_eraseIdx_le l _
theorem push_length (l : List MV) (m : MV) : (pushL l m).length ≤ l.length + 1 := by
  unfold pushL
  rw [List.length_append]
  have := without_length l (placeZ (goneO l m))
  simp; omega
theorem clear_length (l : List MV) : (clearL l).length ≤ l.length := by
  unfold clearL
  rw [List.length_take]; omega
theorem okM_push {w : World} {l : List MV} {m : MV} (h : OkM w l) (hm : IsQ w m.av m.aa) : OkM w (pushL l m) := fun x hx => by
  rcases push_mem l m x hx with h1 | rfl
  · exact h x h1
  · exact hm
theorem okM_insert {w : World} {l : List MV} {m : MV} (z : Int) (h : OkM w l) (hm : IsQ w m.av m.aa) : OkM w (insertL l z m) := fun x hx => by
  rcases insert_mem l z m x hx with h1 | rfl
  · exact h x h1
  · exact hm
theorem small_of (l : List MV) (h : smallL l = true) : SmallM l := by
  obtain ⟨h1, h2⟩ := (small_iff l).1 h
  exact ⟨by omega, fun x hx => by have := h2 x hx; omega⟩
theorem small_push {l : List MV} {m : MV} (h : SmallM l) (hl : l.length ≤ 900) (hm : m.aa.length ≤ 1000) : SmallM (pushL l m) :=
  ⟨by have := push_length l m; omega, fun x hx => by
    rcases push_mem l m x hx with h1 | rfl
    · exact h.2 x h1
    · exact hm⟩
theorem small_insert {l : List MV} {m : MV} (z : Int) (h : SmallM l) (hl : l.length ≤ 900) (hm : m.aa.length ≤ 1000) : SmallM (insertL l z m) :=
  ⟨by have := insert_length l z m; omega, fun x hx => by
    rcases insert_mem l z m x hx with h1 | rfl
    · exact h.2 x h1
    · exact hm⟩
theorem small_drop {l : List MV} (z : Int) (h : SmallM l) : SmallM (dropL l z) := ⟨by have := without_length l (findZ l z); have := h.1; unfold dropL; omega, fun x hx => h.2 x (drop_mem l z x hx)⟩
theorem small_clear {l : List MV} (h : SmallM l) : SmallM (clearL l) := ⟨by have := clear_length l; have := h.1; omega, fun x hx => h.2 x (clear_mem l x hx)⟩
theorem rowM_on {w w1 w2 : World} {v : Value} {l : List MV} {B : Nat} (h : RowM w1 v l) (hB : w1.heap.size ≤ B) (b : Below B w1 w2) : RowM w2 v l := h.below (b.mono hB)

set_option maxHeartbeats 2000000 in
theorem marksPush_walk (v : Value) (l : List MV) (m : MV) (w : World) (hM : RowM w v l) (hOk : OkM w l) (hm : IsQ w m.av m.aa) :
    Calls Try.prog 4 #[v, .agg #[.int .i64 m.id, .string m.nm, m.av]] w fun e w' => e = .returned (.bool true) ∧ Below w.heap.size w w' := by
  have H1 := hide alive_any
  have bA : Below w.heap.size w (boxM w m.id m.nm m.av) := below_alloc w _
  have HSM := hide (small_any v l (boxM w m.id m.nm m.av) (hM.below bA) (hOk.below bA))
  by_cases hs : smallL l = true
  · by_cases h6 : m.aa.length ≤ 6
    · rw [hs] at HSM
      have hS := small_of l hs
      have hl40 := ((small_iff l).1 hs).1
      have HCP := hide (copied_any v l (by omega) (boxM w m.id m.nm m.av) (hM.below bA) (hOk.below bA))
      have HPU := hide (fun own x (b : Below w.heap.size w x) (h : RowM x own l) => push_p own l hS m (by omega) x h (hOk.below b) (hm.below b))
      have HRP := hide (fun x (b : Below w.heap.size w x) => rpush_any v l (by omega) (fun y hy => by have := hS.2 y hy; omega) m (by omega) x (hM.below b) (hOk.below b) (hm.below b))
      have hSP := small_push (m := m) hS (by omega) (by omega)
      have HSA := hide (fun va vb x (b : Below w.heap.size w x) (ha : RowM x va (pushL l m)) (hb : RowM x vb (pushL l m)) => same_one va vb (pushL l m) (pushL l m) (by have := hSP.1; omega) (fun y hy => by have := hSP.2 y hy; omega) rfl x ha hb ((okM_push hOk hm).below b) ((okM_push hOk hm).below b))
      have HSO := hide (fun own x (b : Below w.heap.size w x) (ha : RowM x own l) => same_one own v l l (by omega) (fun y hy => by have := hS.2 y hy; omega) rfl x ha (hM.below b) (hOk.below b) (hOk.below b))
      have HBX := hide (fun w1 (b : Below (w.heap.size + 1) (boxM w m.id m.nm m.av) w1) => And.intro (boxM_below w _ _ _ b) (boxM_cells w m.id m.nm m.av b))
      have hpl : (pushL l m).length ≤ 1000 := hSP.1
      obtain ⟨a, c, rfl⟩ := rowM_form hM
      obtain ⟨ma, mc, hmv⟩ := isQ_form hm
      rw [hmv] at HSM HCP HPU HRP HBX ⊢
      have h6' : ¬ ((6 : Int) < m.aa.length) := by omega
      generalize m.id = id at *
      generalize m.nm = nm at *
      generalize m.aa.length = ml at *
      generalize pushL l m = PL at *
      rw [boxM_size] at HCP
      clear hM hOk hm hmv hs h6 hS hSP bA
      obtain ⟨d0, d1, d2⟩ := (HBX.out _ (Below.refl _ _)).2
      go_enter Try.func4, Try.ntmps4
      go_wp2_with fail
      refine HSM.out.mono ?_
      rintro e x0 ⟨rfl, rfl⟩
      go_wp2_with fail
      refine HCP.out.mono ?_
      rintro e x1 ⟨⟨v1, rfl, hN1⟩, b1⟩
      obtain ⟨a1, c1, rfl⟩ := new_form hN1
      obtain ⟨bb1, p0, p1, p2⟩ := HBX.out _ b1
      have HW1 := hide hN1.row
      have BB1 := hide bb1
      have BX1 := hide b1
      clear b1 bb1 hN1 d0 d1 d2 HCP HSM
      go_wp2_with fail
      refine (HPU.out _ _ BB1.out HW1.out).mono ?_
      rintro e x2 ⟨⟨v2, rfl, hN2⟩, b2⟩
      obtain ⟨a2, c2, rfl⟩ := new_form hN2
      have B2 := hide b2
      have HN2 := hide hN2
      have hz1 : w.heap.size + 1 ≤ x1.heap.size := by have := BX1.out.size; rw [boxM_size] at this; exact this
      obtain ⟨bb2, q0, q1, q2⟩ := HBX.out _ (BX1.out.trans (b2.mono hz1))
      have BB2 := hide bb2
      clear b2 hN2 bb2 p0 p1 p2 HPU
      go_wp2_with fail
      refine (HRP.out _ BB2.out).mono ?_
      rintro e x3 ⟨⟨v3, rfl, hN3⟩, b3⟩
      obtain ⟨a3, c3, rfl⟩ := new_form hN3
      have HW3 := hide hN3.row
      have HN2' := hide (HN2.out.below b3)
      have B3 := hide (B2.out.trans (b3.mono B2.out.size))
      have BB3 := hide (BB2.out.trans (b3.mono BB2.out.size))
      clear b3 hN3 q0 q1 q2 HRP HN2 B2 BB2
      go_wp2_with fail
      refine (HSA.out _ _ _ BB3.out HN2'.out.row HW3.out).mono ?_
      rintro e x4 ⟨rfl, b4⟩
      have HN4 := hide (HN2'.out.below b4)
      have B4 := hide (B3.out.trans (b4.mono B3.out.size))
      have BB4 := hide (BB3.out.trans (b4.mono BB3.out.size))
      have HOP := hide (new_open HN4.out)
      clear b4 HN2' B3 BB3 HW3 HSA HN4
      obtain ⟨NP, hNP⟩ : ∃ NP, NP = PL.length := ⟨_, rfl⟩
      rw [← hNP] at HOP hpl ⊢
      clear hNP
      go_wp2_with fail
      go_loopw [8] (fun i wr => ∃ k : Nat, k ≤ NP ∧ i = .int .i64 k ∧ Hid (Below x1.heap.size x1 wr) ∧ Hid (Below w.heap.size w wr) ∧ Hid (0 < NP → ∃ b o, a2 = some ⟨b, o, none⟩ ∧ OpenM x1.heap.size wr b o NP)) (fun i _ => NP - (intOf i).toNat)
      case atStart => exact ⟨0, Nat.zero_le _, rfl, B4, BB4, HOP⟩
      case round =>
        obtain ⟨k, hk, rfl, BW, BB, HO⟩ := hrel
        by_cases hltN : k < NP
        · have hlt2 : (k : Int) < NP := by omega
          obtain ⟨b, o, rfl, hop⟩ := HO.out (by omega)
          obtain ⟨⟨y, hx⟩, hf⟩ := hop.2 k hltN
          have HO2 := hide (hop.set k (.string ⟨#[115, 112, 111, 105, 108, 116]⟩))
          have HB2 := hide (BW.out.setCell (p := ⟨b, o + k * 3 + 1, none⟩) hop.1 (.string ⟨#[115, 112, 111, 105, 108, 116]⟩))
          have HB3 := hide (BB.out.setCell (p := ⟨b, o + k * 3 + 1, none⟩) (Nat.le_trans BB1.out.size hop.1) (.string ⟨#[115, 112, 111, 105, 108, 116]⟩))
          clear hop HO hltN
          go_wp2
          go_roundw
          case rel => exact ⟨k + 1, by omega, by go_num, HB2, HB3, hide fun _ => ⟨b, o, rfl, HO2.out⟩⟩
          case measure => simp [intOf]; omega
        · have hlt2 : ¬ (k : Int) < NP := by omega
          clear hltN HO
          go_wp2_with fail
          refine (H1.out _).mono ?_
          rintro e x6 ⟨rfl, b6⟩
          have B6 := hide (BW.out.trans (b6.mono BW.out.size))
          have BB6 := hide (BB.out.trans (b6.mono BB.out.size))
          clear b6
          go_wp2_with fail
          refine (HSO.out _ _ BB6.out (HW1.out.below B6.out)).mono ?_
          rintro e x7 ⟨rfl, b7⟩
          go_wp2
          go_ret
          exact ⟨rfl, BB6.out.trans (b7.mono BB6.out.size)⟩
    · rw [hs] at HSM
      have HBX := hide (boxM_cells w m.id m.nm m.av (Below.refl _ _))
      obtain ⟨a, c, rfl⟩ := rowM_form hM
      obtain ⟨ma, mc, hmv⟩ := isQ_form hm
      have h6' : (6 : Int) < m.aa.length := by omega
      rw [hmv] at HSM HBX bA ⊢
      generalize m.id = id at *
      generalize m.nm = nm at *
      generalize m.aa.length = ml at *
      have BA := hide bA
      obtain ⟨d0, d1, d2⟩ := HBX.out
      clear hM hOk hm hmv hs h6 bA
      go_enter Try.func4, Try.ntmps4
      go_wp2_with fail
      refine HSM.out.mono ?_
      rintro e x0 ⟨rfl, rfl⟩
      go_wp2_with fail
      refine (H1.out _).mono ?_
      rintro e w1 ⟨rfl, b1⟩
      go_wp2
      go_ret
      exact ⟨rfl, BA.out.trans (b1.mono BA.out.size)⟩
  · rw [Bool.eq_false_iff.2 hs] at HSM
    obtain ⟨a, c, rfl⟩ := rowM_form hM
    obtain ⟨ma, mc, hmv⟩ := isQ_form hm
    rw [hmv] at HSM bA ⊢
    generalize m.id = id at *
    generalize m.nm = nm at *
    generalize m.aa.length = ml at *
    have BA := hide bA
    clear hM hOk hm hmv hs bA
    go_enter Try.func4, Try.ntmps4
    go_wp2_with fail
    refine HSM.out.mono ?_
    rintro e x0 ⟨rfl, rfl⟩
    go_wp2_with fail
    refine (H1.out _).mono ?_
    rintro e w1 ⟨rfl, b1⟩
    go_wp2
    go_ret
    exact ⟨rfl, BA.out.trans (b1.mono BA.out.size)⟩
end Go.Proofs.Ytihpjalbdkiecaa
