/- Proved: for every policy, every list of nodes (without a ring) and every number PolicyPart answers true: of a list that the program allows each beginning is allowed, and so are the kids of each of its elements; nothing at all is allowed just if the policy may be, of lists of at most 60 names of 60 bytes, and of nodes whose weight, as the document counts it, is below 1000, less than 60 deep; others ask nothing; the document's own answer has no part in it, and the live question is answered as fixed. Conditions: those of the given card: the listed variables of Go's library start as their text lays them (the given tie); no walk reads one of them. -/
import Derived.Test.YthopnliaikkhbaaGreatDoorBunO
import Derived.Test.YthopnliaikkhbaaGreatDoorBunA
import Derived.Deep.RegionHeld2
import Derived.Test.YthopnliaikkhbaaGreatDoorS5Kn9
import Derived.Deep.SlicePairs
import Derived.Deep.Slices
import Derived.Lib.SmallJoins
import Derived.ProofKit
import Derived.Test.YthopnliaikkhbaaGreatDoorCards
import Derived.Test.YthopnliaikkhbaaGreatDoorTie
import Derived.WalkKit
import Derived.OpenShut
import Derived.ShutString
import Derived.ChangeOld
import Derived.Below
import Derived.Lay
import Derived.LaidMore
import Derived.SevenTiedAt
import Derived.Deep.DeepHandedRow
/- PolicyPart's walk. -/
set_option linter.unusedVariables false
set_option linter.unusedSimpArgs false
set_option maxRecDepth 40000
namespace Go.Proofs.YthopnliaikkhbaaGreatDoor
open Go.RowKit

/-! Over lists: what is allowed in part. -/
theorem seq_take {α : Type} (f x : α → Bool) : ∀ (b : Bool) (ts : List α) (n : Nat), seqOk f x b ts = true → seqOk f x b (ts.take n) = true
  | b, [], n, _ => by rw [List.take_nil]; rfl
  | b, t :: r, 0, _ => rfl
  | b, t :: r, n + 1, h => by
    simp only [seqOk, Bool.and_eq_true, List.take_succ_cons] at h ⊢
    exact ⟨h.1, h.2.1, seq_take f x _ r n h.2.2⟩
theorem seq_mem {α : Type} (f x : α → Bool) : ∀ (b : Bool) (ts : List α), seqOk f x b ts = true → ∀ t ∈ ts, f t = true
  | b, t :: r, h, y, hy => by
    simp only [seqOk, Bool.and_eq_true] at h
    rcases List.mem_cons.1 hy with rfl | hy
    · exact h.1
    · exact seq_mem f x _ r h.2.2 y hy
theorem seq_mono {α : Type} (f g x : α → Bool) (hfg : ∀ t, f t = true → g t = true) : ∀ (b : Bool) (ts : List α), seqOk f x b ts = true → seqOk g x b ts = true
  | b, [], _ => rfl
  | b, t :: r, h => by
    simp only [seqOk, Bool.and_eq_true] at h ⊢
    exact ⟨hfg t h.1, h.2.1, seq_mono f g x hfg _ r h.2.2⟩
theorem allow_mono (p : PO) : ∀ {k : Nat} (d e : Int) (t : S5.NT k), e ≤ d → allowT p d t = true → allowT p e t = true
  | 0, _, _, t, _, _ => t.none
  | k + 1, d, e, t, hde, h => by
    rw [allowT_mk] at h ⊢
    split
    · rw [if_pos (by assumption)] at h
      exact h
    · rw [if_neg (by assumption)] at h
      split
      · rw [if_pos (by assumption)] at h
        simp only [Bool.and_eq_true, decide_eq_true_eq] at h ⊢
        exact ⟨by omega, h.2.1, seq_mono _ _ _ (fun x hx => allow_mono p (d + 1) (e + 1) x (by omega) hx) _ _ h.2.2⟩
      · rw [if_neg (by assumption)] at h
        exact h
theorem allow_take (p : PO) {k : Nat} (ts : List (S5.NT k)) (n : Nat) (h : allowP p ts = true) : allowP p (ts.take n) = true := by
  unfold allowP at h ⊢
  simp only [Bool.and_eq_true] at h ⊢
  exact ⟨h.1, seq_take _ _ _ _ _ h.2⟩
theorem allow_kids (p : PO) {k : Nat} (ts : List (S5.NT (k + 1))) (n : Nat) (hn : n < ts.length) (h : allowP p ts = true) : allowP p ts[n].kids = true := by
  unfold allowP at h ⊢
  simp only [Bool.and_eq_true] at h ⊢
  refine ⟨h.1, ?_⟩
  have h1 := seq_mem _ _ _ _ h.2 _ (List.getElem_mem hn)
  try simp only [] at h1
  rw [allowT_mk] at h1
  split at h1
  · unfold textOk at h1
    simp only [Bool.and_eq_true, beq_iff_eq] at h1
    rw [List.eq_nil_of_length_eq_zero h1.2.2.2.2]
    rfl
  · split at h1
    · simp only [Bool.and_eq_true] at h1
      exact seq_mono _ _ _ (fun x hx => allow_mono p (1 + 1) 1 x (by omega) hx) _ _ h1.2.2
    · cases h1
theorem rowG_take {α : Type} {P : α → List Value → Prop} {w : World} {b : Nat} : ∀ (o : Nat) (ks : List α) (n : Nat), S5.RowG P w b o ks → S5.RowG P w b o (ks.take n)
  | _, [], n, _ => by rw [List.take_nil]; trivial
  | _, k :: r, 0, _ => trivial
  | o, k :: r, n + 1, h => ⟨h.1, rowG_take (o + 6) r n h.2⟩
theorem size_take {k : Nat} (ts : List (S5.NT k)) (n : Nat) : sizeTs (ts.take n) ≤ sizeTs ts := by
  have h := sizeTs_app (ts.take n) (ts.drop n)
  rw [List.take_append_drop] at h
  omega
set_option maxHeartbeats 8000000 in
theorem policyPart_walk (p : PV) {m : Nat} (ts : List (S5.NT m)) (va : Value) (n : Int) (w : World) (hP : InP w p) (hl : ts.length ≤ 9223372036854775807) (hok : S5.OkTs ts) (hK : S5.IsK (fun k => k < w.heap.size) w ts va) :
    Calls Tryz.prog 5 #[poA p, va, .int .i64 n] w fun e w' => e = .returned (.bool true) ∧ Below w.heap.size w w' := by
  have HAL := hide alive_any
  have HSM := hide (fun x (b : Below w.heap.size w x) => rsmall_any p hP.len x (hP.i.below b))
  have HCP := hide (small_cap hP)
  have HW := hide (fun x (b : Below w.heap.size w x) => weight_any 60 (by decide) ts hl hok (fun k => k < w.heap.size) va x 1000 (by decide) (fun j hj => Nat.lt_of_lt_of_le hj b.size) (isK_keepB (fun _ h => h) hK b))
  have HA0 := hide (fun hp (hs : sizeTs ts ≤ 1000000) x (b : Below w.heap.size w x) => allowed_any p hp ts hl hok hs (fun k => k < w.heap.size) va x (fun j hj => Nat.lt_of_lt_of_le hj b.size) (hP.i.below b) (isK_keepB (fun _ h => h) hK b))
  have HN0 := hide (fun hp x (b : Below w.heap.size w x) => allowed_none p hp none 0 x (hP.i.below b))
  have HC0 := hide (fun hp x (b : Below w.heap.size w x) => check_any p hp x (hP.i.below b))
  have HPT : Hid (∀ nn, nn < ts.length → n = (nn : Int) → CapP p → sizeTs ts ≤ 1000000 → allowP p.po ts = true → ∃ (b1 o1 tc : Nat) (ka : Option Addr) (kl kc : Nat), va = .slice (some ⟨b1, o1, none⟩) ts.length tc ∧ nn ≤ tc ∧ (∀ W, Below w.heap.size w W → W.cell? ⟨b1, o1 + nn * 6 + 5, none⟩ = some (.slice ka kl kc)) ∧ (∀ x, Below w.heap.size w x → Calls Tryz.prog 12 #[poA p, .slice (some ⟨b1, o1, none⟩) nn tc] x fun e w' => e = .returned (.bool true) ∧ Below x.heap.size x w') ∧ (∀ x, Below w.heap.size w x → Calls Tryz.prog 12 #[poA p, .slice ka kl kc] x fun e w' => e = .returned (.bool true) ∧ Below x.heap.size x w')) := hide (fun nn hnn hn hp hs hV => by
    cases m with
    | zero =>
      obtain ⟨rfl, _⟩ := S5.isK_up hK
      simp at hnn
    | succ m =>
      rcases hK with ⟨_, h0⟩ | ⟨b1, o1, tc, e1, hcap, hblk, hn1⟩
      · rw [h0] at hnn; simp at hnn
      · obtain ⟨qa, qc, ka, kc, _, _, _, _, _, u5, _, hKd⟩ := node6c hn1 nn hnn
        have hb1 : b1 < w.heap.size := cell_lt u5
        have hlt : (ts.take nn).length = nn := by rw [List.length_take]; omega
        have hKt : S5.IsK (fun k => k < w.heap.size) w (ts.take nn) (.slice (some ⟨b1, o1, none⟩) nn tc) := .inr ⟨b1, o1, tc, by rw [hlt], by omega, .inr hb1, rowG_take o1 ts nn hn1⟩
        refine ⟨b1, o1, tc, ka, ts[nn].kids.length, kc, e1, by omega, fun W b => (b.cell (cell_lt u5)).trans u5, fun x b => ?_, fun x b => ?_⟩
        · have h := allowed_any p hp (ts.take nn) (by omega) (fun t ht => hok t (List.mem_of_mem_take ht)) (Nat.le_trans (size_take ts nn) hs) (fun k => k < w.heap.size) _ x (fun j hj => Nat.lt_of_lt_of_le hj b.size) (hP.i.below b) (isK_keepB (fun _ h => h) hKt b)
          rw [allow_take p.po ts nn hV] at h
          exact h
        · have h := allowed_any p hp ts[nn].kids (hok _ (List.getElem_mem hnn)).2.1 (hok _ (List.getElem_mem hnn)).2.2 (kids_size hs nn hnn) (fun k => k < w.heap.size) _ x (fun j hj => Nat.lt_of_lt_of_le hj b.size) (hP.i.below b) (isK_keepB (fun _ h => h) hKd b)
          rw [allow_kids p.po ts nn hnn hV] at h
          exact h)
  have hI := hP.i
  clear hP hok hl
  generalize allowP p.po ts = V at *
  generalize smallP p.po = SM at *
  generalize checkP p.po = c at *
  obtain ⟨ta, tc, rfl⟩ := S5.isK_form hK
  clear hK
  have HB := hide (fun x (b : Below (poW w p).heap.size (poW w p) x) => po_box w p b)
  obtain ⟨rs, li, sc, dr, de, rv, lv, sv, dv⟩ := p
  simp only [] at *
  have gr : IsR w rv rs := hI.r
  have gl : IsW w lv li := hI.l
  have gs : IsW w sv sc := hI.s
  have gd : IsW w dv dr := hI.d
  obtain ⟨ra, rc, rfl⟩ := gr.form
  obtain ⟨la, lc, rfl⟩ := gl.form
  obtain ⟨sa, sc', rfl⟩ := gs.form
  obtain ⟨da, dc, rfl⟩ := gd.form
  clear gl gs gd gr
  have B0 := hide (Below.refl (poW w ⟨rs, li, sc, dr, de, .slice ra rs.length rc, .slice la li.length lc, .slice sa sc.length sc', .slice da dr.length dc⟩).heap.size (poW w ⟨rs, li, sc, dr, de, .slice ra rs.length rc, .slice la li.length lc, .slice sa sc.length sc', .slice da dr.length dc⟩))
  obtain ⟨c0, c1, c2, c3, c4, bb⟩ := HB.out _ B0.out
  have BB := hide bb
  clear bb hI
  cases SM with
  | false =>
    clear HCP HA0 HN0 HC0 HPT HW
    go_enter Tryz.func5, Tryz.ntmps5
    go_wp2_with fail
    refine (HSM.out _ BB.out).mono ?_
    rintro e w1 ⟨rfl, b1⟩
    have BC := hide (BB.out.trans (b1.mono BB.out.size))
    clear b1
    go_wp2_with fail
    refine (HAL.out _).mono ?_
    rintro e w2 ⟨rfl, b2⟩
    have BD := hide (BC.out.trans (b2.mono BC.out.size))
    clear b2
    go_wp2
    go_ret
    exact ⟨rfl, BD.out⟩
  | true =>
    have HA1 := hide (HA0.out (HCP.out rfl))
    have HNN := hide (HN0.out (HCP.out rfl))
    have HCC := hide (HC0.out (HCP.out rfl))
    have hcp := HCP.out rfl
    clear HCP HA0 HN0 HC0
    go_enter Tryz.func5, Tryz.ntmps5
    go_wp2_with fail
    refine (HSM.out _ BB.out).mono ?_
    rintro e w1 ⟨rfl, b1⟩
    have BC := hide (BB.out.trans (b1.mono BB.out.size))
    have B1 := hide (B0.out.trans (b1.mono B0.out.size))
    clear b1 c0 c1 c2 c3 c4
    go_wp2_with fail
    refine (HW.out _ BC.out).mono ?_
    rintro e w2 ⟨⟨W, rfl, hW⟩, b2⟩
    have BE := hide (BC.out.trans (b2.mono BC.out.size))
    have HY := hide (B1.out.trans (b2.mono B1.out.size)).drew
    clear b2
    by_cases hlt : W < 1000 ∧ 0 ≤ n ∧ n < ts.length
    · obtain ⟨hlt, hn0, hn1⟩ := hlt
      obtain ⟨nn, rfl⟩ : ∃ nn : Nat, n = nn := ⟨n.toNat, by omega⟩
      have hnn : nn < ts.length := by omega
      have hlt2 : ¬ (1000 : Int) ≤ W := by omega
      have hn2 : ¬ (nn : Int) < 0 := by omega
      have hn3 : ¬ (ts.length : Int) ≤ nn := by omega
      have hsz : sizeTs ts ≤ 1000000 := by have := (hW.2 hlt).1; omega
      have HA := hide (HA1.out hsz)
      have HPQ := hide (fun hV => HPT.out nn hnn rfl hcp hsz hV)
      clear HA1 HPT hcp hsz hW hlt HW hn0
      go_wp2_with fail
      refine wp_region_held_drew (S := fun W' => Below (poW w ⟨rs, li, sc, dr, de, .slice ra rs.length rc, .slice la li.length lc, .slice sa sc.length sc', .slice da dr.length dc⟩).heap.size (poW w ⟨rs, li, sc, dr, de, .slice ra rs.length rc, .slice la li.length lc, .slice sa sc.length sc', .slice da dr.length dc⟩) W') (by kernel_rfl) HY.out (fun hHeld => ?_)
      refine wpAnyH_take (i := 0) (v := ?_) rfl (by kernel_rfl) (by kernel_rfl) (by kernel_rfl) (fun _ _ _ h => h) (Or.inl ⟨by kernel_rfl, ?_⟩) hHeld ?_
      rotate_left
      · intro W hSw
        obtain ⟨c0, c1, c2, c3, c4, _⟩ := HB.out _ hSw
        clear hSw
        go_simp <;> with_reducible rfl
      simp only [Act.put, List.getElem_toArray, List.getElem_cons_zero, List.getElem_cons_succ, List.setIfInBounds_toArray, List.set_cons_zero, List.set_cons_succ]
      refine wpAnyH_take (i := 2) (v := ?_) rfl (by kernel_rfl) (by kernel_rfl) (by kernel_rfl) (fun _ _ _ h => h) (Or.inl ⟨by kernel_rfl, ?_⟩) hHeld ?_
      rotate_left
      · intro W hSw
        obtain ⟨c0, c1, c2, c3, c4, _⟩ := HB.out _ hSw
        clear hSw
        go_simp <;> with_reducible rfl
      simp only [Act.put, List.getElem_toArray, List.getElem_cons_zero, List.getElem_cons_succ, List.setIfInBounds_toArray, List.set_cons_zero, List.set_cons_succ]
      have BD := hide (HB.out _ hHeld).2.2.2.2.2
      refine wpAnyH_ready (rs := [1]) (by kernel_rfl) (by simp) ?_
      refine AllReadyH.cons rfl (fun K hK => ?_) AllReadyH.nil
      go_simp
      go_wp2_with (first | (go_at_call 12; refine (HNN.out _ BD.out).mono ?_; rintro e x1 ⟨rfl, b9⟩))
      refine hK.out _ _ ?_ (fun hHeld => ?_)
      · exact Below.trans hHeld (b9.mono hHeld.size)
      clear hK K
      try simp only [Act.put, List.getElem_toArray, List.getElem_cons_zero, List.getElem_cons_succ, List.setIfInBounds_toArray, List.set_cons_zero, List.set_cons_succ]
      clear b9 BD
      have BD := hide (HB.out _ hHeld).2.2.2.2.2
      refine wpAnyH_ready (rs := [3]) (by kernel_rfl) (by simp) ?_
      refine AllReadyH.cons rfl (fun K hK => ?_) AllReadyH.nil
      go_simp
      go_wp2_with (first | (go_at_call 14; refine (HCC.out _ BD.out).mono ?_; rintro e x2 ⟨rfl, b9⟩))
      refine hK.out _ _ ?_ (fun hHeld => ?_)
      · exact Below.trans hHeld (b9.mono hHeld.size)
      clear hK K
      try simp only [Act.put, List.getElem_toArray, List.getElem_cons_zero, List.getElem_cons_succ, List.setIfInBounds_toArray, List.set_cons_zero, List.set_cons_succ]
      clear b9 BD
      have hcc : (c == 0) = decide (c = 0) := by by_cases h : c = 0 <;> simp [h]
      refine wpAnyH_take (i := 4) (v := .bool (decide (c = 0))) rfl (by kernel_rfl) (by kernel_rfl) (by kernel_rfl) (fun _ _ _ h => h) (Or.inl ⟨by kernel_rfl, fun _ _ => by go_simp⟩) hHeld ?_
      simp only [Act.put, List.getElem_toArray, List.getElem_cons_zero, List.getElem_cons_succ, List.setIfInBounds_toArray, List.set_cons_zero, List.set_cons_succ]
      refine wpAnyH_take (i := 5) (v := .bool false) rfl (by kernel_rfl) (by kernel_rfl) (by kernel_rfl) (fun _ _ _ h => h) (Or.inl ⟨by kernel_rfl, fun _ _ => by go_simp⟩) hHeld ?_
      simp only [Act.put, List.getElem_toArray, List.getElem_cons_zero, List.getElem_cons_succ, List.setIfInBounds_toArray, List.set_cons_zero, List.set_cons_succ]
      refine wpAnyH_done (by kernel_rfl) ?_ _
      have HZ := hide hHeld
      clear hHeld
      obtain ⟨c0, c1, c2, c3, c4, bb⟩ := HB.out _ HZ.out
      have BZ := hide bb
      clear bb HY hcc
      go_wp2_with fail
      refine (HA.out _ BZ.out).mono ?_
      rintro e w3 ⟨rfl, b3⟩
      have HY := hide (HZ.out.trans (b3.mono HZ.out.size)).drew
      clear b3 c0 c1 c2 c3 c4
      cases V
      · go_wp2_with fail
        refine wp_region_held_drew (S := fun W' => Below (poW w ⟨rs, li, sc, dr, de, .slice ra rs.length rc, .slice la li.length lc, .slice sa sc.length sc', .slice da dr.length dc⟩).heap.size (poW w ⟨rs, li, sc, dr, de, .slice ra rs.length rc, .slice la li.length lc, .slice sa sc.length sc', .slice da dr.length dc⟩) W') (by kernel_rfl) HY.out (fun hHeld => ?_)
        refine wpAnyH_ready (rs := [0]) (by kernel_rfl) (by simp) ?_
        refine AllReadyH.cons rfl (fun K hK => ?_) AllReadyH.nil
        go_simp
        go_wp2_with (first | (go_at_call 6; refine (HAL.out _).mono ?_; rintro e x5 ⟨rfl, b9⟩))
        refine hK.out _ _ ?_ (fun hHeld => ?_)
        · exact Below.trans hHeld (b9.mono hHeld.size)
        clear hK K
        try simp only [Act.put, List.getElem_toArray, List.getElem_cons_zero, List.getElem_cons_succ, List.setIfInBounds_toArray, List.set_cons_zero, List.set_cons_succ]
        clear b9
        refine wpAnyH_take (i := 1) (v := .bool true) rfl (by kernel_rfl) (by kernel_rfl) (by kernel_rfl) (fun _ _ _ h => h) (Or.inl ⟨by kernel_rfl, fun _ _ => by go_simp⟩) hHeld ?_
        simp only [Act.put, List.getElem_toArray, List.getElem_cons_zero, List.getElem_cons_succ, List.setIfInBounds_toArray, List.set_cons_zero, List.set_cons_succ]
        refine wpAnyH_take (i := 2) (v := .bool false) rfl (by kernel_rfl) (by kernel_rfl) (by kernel_rfl) (fun _ _ _ h => h) (Or.inl ⟨by kernel_rfl, fun _ _ => by go_simp⟩) hHeld ?_
        simp only [Act.put, List.getElem_toArray, List.getElem_cons_zero, List.getElem_cons_succ, List.setIfInBounds_toArray, List.set_cons_zero, List.set_cons_succ]
        refine wpAnyH_take (i := 3) (v := .bool true) rfl (by kernel_rfl) (by kernel_rfl) (by kernel_rfl) (fun _ _ _ h => h) (Or.inl ⟨by kernel_rfl, fun _ _ => by go_simp⟩) hHeld ?_
        simp only [Act.put, List.getElem_toArray, List.getElem_cons_zero, List.getElem_cons_succ, List.setIfInBounds_toArray, List.set_cons_zero, List.set_cons_succ]
        refine wpAnyH_take (i := 4) (v := .bool true) rfl (by kernel_rfl) (by kernel_rfl) (by kernel_rfl) (fun _ _ _ h => h) (Or.inl ⟨by kernel_rfl, fun _ _ => by go_simp⟩) hHeld ?_
        simp only [Act.put, List.getElem_toArray, List.getElem_cons_zero, List.getElem_cons_succ, List.setIfInBounds_toArray, List.set_cons_zero, List.set_cons_succ]
        refine wpAnyH_take (i := 5) (v := undef) rfl (by kernel_rfl) (by kernel_rfl) (by kernel_rfl) (fun _ _ _ h => h) (Or.inr ⟨by kernel_rfl, rfl⟩) hHeld ?_
        simp only [Act.put, List.getElem_toArray, List.getElem_cons_zero, List.getElem_cons_succ, List.setIfInBounds_toArray, List.set_cons_zero, List.set_cons_succ]
        refine wpAnyH_take (i := 6) (v := undef) rfl (by kernel_rfl) (by kernel_rfl) (by kernel_rfl) (fun _ _ _ h => h) (Or.inr ⟨by kernel_rfl, rfl⟩) hHeld ?_
        simp only [Act.put, List.getElem_toArray, List.getElem_cons_zero, List.getElem_cons_succ, List.setIfInBounds_toArray, List.set_cons_zero, List.set_cons_succ]
        refine wpAnyH_take (i := 7) (v := undef) rfl (by kernel_rfl) (by kernel_rfl) (by kernel_rfl) (fun _ _ _ h => h) (Or.inr ⟨by kernel_rfl, rfl⟩) hHeld ?_
        simp only [Act.put, List.getElem_toArray, List.getElem_cons_zero, List.getElem_cons_succ, List.setIfInBounds_toArray, List.set_cons_zero, List.set_cons_succ]
        refine wpAnyH_take (i := 8) (v := undef) rfl (by kernel_rfl) (by kernel_rfl) (by kernel_rfl) (fun _ _ _ h => h) (Or.inr ⟨by kernel_rfl, rfl⟩) hHeld ?_
        simp only [Act.put, List.getElem_toArray, List.getElem_cons_zero, List.getElem_cons_succ, List.setIfInBounds_toArray, List.set_cons_zero, List.set_cons_succ]
        refine wpAnyH_take (i := 9) (v := undef) rfl (by kernel_rfl) (by kernel_rfl) (by kernel_rfl) (fun _ _ _ h => h) (Or.inr ⟨by kernel_rfl, rfl⟩) hHeld ?_
        simp only [Act.put, List.getElem_toArray, List.getElem_cons_zero, List.getElem_cons_succ, List.setIfInBounds_toArray, List.set_cons_zero, List.set_cons_succ]
        refine wpAnyH_take (i := 10) (v := undef) rfl (by kernel_rfl) (by kernel_rfl) (by kernel_rfl) (fun _ _ _ h => h) (Or.inr ⟨by kernel_rfl, rfl⟩) hHeld ?_
        simp only [Act.put, List.getElem_toArray, List.getElem_cons_zero, List.getElem_cons_succ, List.setIfInBounds_toArray, List.set_cons_zero, List.set_cons_succ]
        refine wpAnyH_take (i := 11) (v := undef) rfl (by kernel_rfl) (by kernel_rfl) (by kernel_rfl) (fun _ _ _ h => h) (Or.inr ⟨by kernel_rfl, rfl⟩) hHeld ?_
        simp only [Act.put, List.getElem_toArray, List.getElem_cons_zero, List.getElem_cons_succ, List.setIfInBounds_toArray, List.set_cons_zero, List.set_cons_succ]
        refine wpAnyH_take (i := 12) (v := undef) rfl (by kernel_rfl) (by kernel_rfl) (by kernel_rfl) (fun _ _ _ h => h) (Or.inr ⟨by kernel_rfl, rfl⟩) hHeld ?_
        simp only [Act.put, List.getElem_toArray, List.getElem_cons_zero, List.getElem_cons_succ, List.setIfInBounds_toArray, List.set_cons_zero, List.set_cons_succ]
        refine wpAnyH_take (i := 13) (v := undef) rfl (by kernel_rfl) (by kernel_rfl) (by kernel_rfl) (fun _ _ _ h => h) (Or.inr ⟨by kernel_rfl, rfl⟩) hHeld ?_
        simp only [Act.put, List.getElem_toArray, List.getElem_cons_zero, List.getElem_cons_succ, List.setIfInBounds_toArray, List.set_cons_zero, List.set_cons_succ]
        refine wpAnyH_take (i := 14) (v := undef) rfl (by kernel_rfl) (by kernel_rfl) (by kernel_rfl) (fun _ _ _ h => h) (Or.inr ⟨by kernel_rfl, rfl⟩) hHeld ?_
        simp only [Act.put, List.getElem_toArray, List.getElem_cons_zero, List.getElem_cons_succ, List.setIfInBounds_toArray, List.set_cons_zero, List.set_cons_succ]
        refine wpAnyH_take (i := 15) (v := undef) rfl (by kernel_rfl) (by kernel_rfl) (by kernel_rfl) (fun _ _ _ h => h) (Or.inr ⟨by kernel_rfl, rfl⟩) hHeld ?_
        simp only [Act.put, List.getElem_toArray, List.getElem_cons_zero, List.getElem_cons_succ, List.setIfInBounds_toArray, List.set_cons_zero, List.set_cons_succ]
        refine wpAnyH_take (i := 16) (v := undef) rfl (by kernel_rfl) (by kernel_rfl) (by kernel_rfl) (fun _ _ _ h => h) (Or.inr ⟨by kernel_rfl, rfl⟩) hHeld ?_
        simp only [Act.put, List.getElem_toArray, List.getElem_cons_zero, List.getElem_cons_succ, List.setIfInBounds_toArray, List.set_cons_zero, List.set_cons_succ]
        refine wpAnyH_take (i := 17) (v := undef) rfl (by kernel_rfl) (by kernel_rfl) (by kernel_rfl) (fun _ _ _ h => h) (Or.inr ⟨by kernel_rfl, rfl⟩) hHeld ?_
        simp only [Act.put, List.getElem_toArray, List.getElem_cons_zero, List.getElem_cons_succ, List.setIfInBounds_toArray, List.set_cons_zero, List.set_cons_succ]
        refine wpAnyH_take (i := 18) (v := undef) rfl (by kernel_rfl) (by kernel_rfl) (by kernel_rfl) (fun _ _ _ h => h) (Or.inr ⟨by kernel_rfl, rfl⟩) hHeld ?_
        simp only [Act.put, List.getElem_toArray, List.getElem_cons_zero, List.getElem_cons_succ, List.setIfInBounds_toArray, List.set_cons_zero, List.set_cons_succ]
        refine wpAnyH_take (i := 19) (v := .bool true) rfl (by kernel_rfl) (by kernel_rfl) (by kernel_rfl) (fun _ _ _ h => h) (Or.inl ⟨by kernel_rfl, fun _ _ => by go_simp⟩) hHeld ?_
        simp only [Act.put, List.getElem_toArray, List.getElem_cons_zero, List.getElem_cons_succ, List.setIfInBounds_toArray, List.set_cons_zero, List.set_cons_succ]
        refine wpAnyH_take (i := 20) (v := .bool true) rfl (by kernel_rfl) (by kernel_rfl) (by kernel_rfl) (fun _ _ _ h => h) (Or.inl ⟨by kernel_rfl, fun _ _ => by go_simp⟩) hHeld ?_
        simp only [Act.put, List.getElem_toArray, List.getElem_cons_zero, List.getElem_cons_succ, List.setIfInBounds_toArray, List.set_cons_zero, List.set_cons_succ]
        refine wpAnyH_take (i := 21) (v := .bool true) rfl (by kernel_rfl) (by kernel_rfl) (by kernel_rfl) (fun _ _ _ h => h) (Or.inl ⟨by kernel_rfl, fun _ _ => by go_simp⟩) hHeld ?_
        simp only [Act.put, List.getElem_toArray, List.getElem_cons_zero, List.getElem_cons_succ, List.setIfInBounds_toArray, List.set_cons_zero, List.set_cons_succ]
        refine wpAnyH_done (by kernel_rfl) ?_ _
        have HZ2 := hide (HB.out _ hHeld).2.2.2.2.2
        clear hHeld
        go_wp2
        go_ret
        exact ⟨rfl, HZ2.out⟩
      · obtain ⟨b1, o1, tc2, ka, kl, kc, e1, hnc, hcell, hct, hck⟩ := HPQ.out rfl
        injection e1 with e1 _ e1c
        subst e1 e1c
        have HCT := hide hct
        have HCK := hide hck
        have HCL := hide hcell
        have hnc2 : (nn : Int) ≤ tc := by omega
        have hnn2 : (nn : Int) < ts.length := by omega
        clear hct hck hcell HPQ
        generalize ts.length = tn at *
        go_wp2_with fail
        refine wp_region_held_drew (S := fun W' => Below (poW w ⟨rs, li, sc, dr, de, .slice ra rs.length rc, .slice la li.length lc, .slice sa sc.length sc', .slice da dr.length dc⟩).heap.size (poW w ⟨rs, li, sc, dr, de, .slice ra rs.length rc, .slice la li.length lc, .slice sa sc.length sc', .slice da dr.length dc⟩) W') (by kernel_rfl) HY.out (fun hHeld => ?_)
        refine wpAnyH_ready (rs := [0]) (by kernel_rfl) (by simp) ?_
        refine AllReadyH.cons rfl (fun K hK => ?_) AllReadyH.nil
        go_simp
        go_wp2_with (first | (go_at_call 6; refine (HAL.out _).mono ?_; rintro e x5 ⟨rfl, b9⟩))
        refine hK.out _ _ ?_ (fun hHeld => ?_)
        · exact Below.trans hHeld (b9.mono hHeld.size)
        clear hK K
        try simp only [Act.put, List.getElem_toArray, List.getElem_cons_zero, List.getElem_cons_succ, List.setIfInBounds_toArray, List.set_cons_zero, List.set_cons_succ]
        clear b9
        refine wpAnyH_take (i := 1) (v := .bool true) rfl (by kernel_rfl) (by kernel_rfl) (by kernel_rfl) (fun _ _ _ h => h) (Or.inl ⟨by kernel_rfl, fun _ _ => by go_simp⟩) hHeld ?_
        simp only [Act.put, List.getElem_toArray, List.getElem_cons_zero, List.getElem_cons_succ, List.setIfInBounds_toArray, List.set_cons_zero, List.set_cons_succ]
        refine wpAnyH_take (i := 2) (v := .bool true) rfl (by kernel_rfl) (by kernel_rfl) (by kernel_rfl) (fun _ _ _ h => h) (Or.inl ⟨by kernel_rfl, fun _ _ => by go_simp⟩) hHeld ?_
        simp only [Act.put, List.getElem_toArray, List.getElem_cons_zero, List.getElem_cons_succ, List.setIfInBounds_toArray, List.set_cons_zero, List.set_cons_succ]
        refine wpAnyH_take (i := 3) (v := .bool false) rfl (by kernel_rfl) (by kernel_rfl) (by kernel_rfl) (fun _ _ _ h => h) (Or.inl ⟨by kernel_rfl, fun _ _ => by go_simp⟩) hHeld ?_
        simp only [Act.put, List.getElem_toArray, List.getElem_cons_zero, List.getElem_cons_succ, List.setIfInBounds_toArray, List.set_cons_zero, List.set_cons_succ]
        refine wpAnyH_take (i := 4) (v := .bool false) rfl (by kernel_rfl) (by kernel_rfl) (by kernel_rfl) (fun _ _ _ h => h) (Or.inl ⟨by kernel_rfl, fun _ _ => by go_simp⟩) hHeld ?_
        simp only [Act.put, List.getElem_toArray, List.getElem_cons_zero, List.getElem_cons_succ, List.setIfInBounds_toArray, List.set_cons_zero, List.set_cons_succ]
        refine wpAnyH_take (i := 5) (v := ?_) rfl (by kernel_rfl) (by kernel_rfl) (by kernel_rfl) (fun _ _ _ h => h) (Or.inl ⟨by kernel_rfl, ?_⟩) hHeld ?_
        rotate_left
        · intro W hSw
          obtain ⟨c0, c1, c2, c3, c4, _⟩ := HB.out _ hSw
          clear hSw
          go_simp <;> with_reducible rfl
        simp only [Act.put, List.getElem_toArray, List.getElem_cons_zero, List.getElem_cons_succ, List.setIfInBounds_toArray, List.set_cons_zero, List.set_cons_succ]
        refine wpAnyH_take (i := 6) (v := ?_) rfl (by kernel_rfl) (by kernel_rfl) (by kernel_rfl) (fun _ _ _ h => h) (Or.inl ⟨by kernel_rfl, ?_⟩) hHeld ?_
        rotate_left
        · intro W hSw
          obtain ⟨c0, c1, c2, c3, c4, _⟩ := HB.out _ hSw
          clear hSw
          go_simp <;> with_reducible rfl
        simp only [Act.put, List.getElem_toArray, List.getElem_cons_zero, List.getElem_cons_succ, List.setIfInBounds_toArray, List.set_cons_zero, List.set_cons_succ]
        refine wpAnyH_take (i := 7) (v := ?_) rfl (by kernel_rfl) (by kernel_rfl) (by kernel_rfl) (fun _ _ _ h => h) (Or.inl ⟨by kernel_rfl, ?_⟩) hHeld ?_
        rotate_left
        · intro W hSw
          obtain ⟨c0, c1, c2, c3, c4, _⟩ := HB.out _ hSw
          clear hSw
          go_simp <;> with_reducible rfl
        simp only [Act.put, List.getElem_toArray, List.getElem_cons_zero, List.getElem_cons_succ, List.setIfInBounds_toArray, List.set_cons_zero, List.set_cons_succ]
        refine wpAnyH_take (i := 8) (v := ?_) rfl (by kernel_rfl) (by kernel_rfl) (by kernel_rfl) (fun _ _ _ h => h) (Or.inl ⟨by kernel_rfl, ?_⟩) hHeld ?_
        rotate_left
        · intro W hSw
          obtain ⟨c0, c1, c2, c3, c4, _⟩ := HB.out _ hSw
          clear hSw
          go_simp <;> with_reducible rfl
        simp only [Act.put, List.getElem_toArray, List.getElem_cons_zero, List.getElem_cons_succ, List.setIfInBounds_toArray, List.set_cons_zero, List.set_cons_succ]
        have BD := hide (HB.out _ hHeld).2.2.2.2.2
        refine wpAnyH_ready (rs := [9]) (by kernel_rfl) (by simp) ?_
        refine AllReadyH.cons rfl (fun K hK => ?_) AllReadyH.nil
        go_simp
        go_wp2_with (first | (go_at_call 12; refine (HCT.out _ BD.out).mono ?_; rintro e x6 ⟨rfl, b9⟩))
        refine hK.out _ _ ?_ (fun hHeld => ?_)
        · exact Below.trans hHeld (b9.mono hHeld.size)
        clear hK K
        try simp only [Act.put, List.getElem_toArray, List.getElem_cons_zero, List.getElem_cons_succ, List.setIfInBounds_toArray, List.set_cons_zero, List.set_cons_succ]
        clear b9 BD
        refine wpAnyH_take (i := 10) (v := .bool true) rfl (by kernel_rfl) (by kernel_rfl) (by kernel_rfl) (fun _ _ _ h => h) (Or.inl ⟨by kernel_rfl, fun _ _ => by go_simp⟩) hHeld ?_
        simp only [Act.put, List.getElem_toArray, List.getElem_cons_zero, List.getElem_cons_succ, List.setIfInBounds_toArray, List.set_cons_zero, List.set_cons_succ]
        refine wpAnyH_take (i := 11) (v := ?_) rfl (by kernel_rfl) (by kernel_rfl) (by kernel_rfl) (fun _ _ _ h => h) (Or.inl ⟨by kernel_rfl, ?_⟩) hHeld ?_
        rotate_left
        · intro W hSw
          obtain ⟨c0, c1, c2, c3, c4, _⟩ := HB.out _ hSw
          clear hSw
          go_simp <;> with_reducible rfl
        simp only [Act.put, List.getElem_toArray, List.getElem_cons_zero, List.getElem_cons_succ, List.setIfInBounds_toArray, List.set_cons_zero, List.set_cons_succ]
        refine wpAnyH_take (i := 12) (v := ?_) rfl (by kernel_rfl) (by kernel_rfl) (by kernel_rfl) (fun _ _ _ h => h) (Or.inl ⟨by kernel_rfl, ?_⟩) hHeld ?_
        rotate_left
        · intro W hSw
          obtain ⟨c0, c1, c2, c3, c4, _⟩ := HB.out _ hSw
          clear hSw
          go_simp <;> with_reducible rfl
        simp only [Act.put, List.getElem_toArray, List.getElem_cons_zero, List.getElem_cons_succ, List.setIfInBounds_toArray, List.set_cons_zero, List.set_cons_succ]
        refine wpAnyH_take (i := 13) (v := ?_) rfl (by kernel_rfl) (by kernel_rfl) (by kernel_rfl) (fun _ _ _ h => h) (Or.inl ⟨by kernel_rfl, ?_⟩) hHeld ?_
        rotate_left
        · intro W hSw
          obtain ⟨c0, c1, c2, c3, c4, _⟩ := HB.out _ hSw
          clear hSw
          go_simp <;> with_reducible rfl
        simp only [Act.put, List.getElem_toArray, List.getElem_cons_zero, List.getElem_cons_succ, List.setIfInBounds_toArray, List.set_cons_zero, List.set_cons_succ]
        refine wpAnyH_take (i := 14) (v := ?_) rfl (by kernel_rfl) (by kernel_rfl) (by kernel_rfl) (fun _ _ _ h => h) (Or.inl ⟨by kernel_rfl, ?_⟩) hHeld ?_
        rotate_left
        · intro W hSw
          obtain ⟨c0, c1, c2, c3, c4, _⟩ := HB.out _ hSw
          clear hSw
          go_simp <;> with_reducible rfl
        simp only [Act.put, List.getElem_toArray, List.getElem_cons_zero, List.getElem_cons_succ, List.setIfInBounds_toArray, List.set_cons_zero, List.set_cons_succ]
        refine wpAnyH_take (i := 15) (v := ?_) rfl (by kernel_rfl) (by kernel_rfl) (by kernel_rfl) (fun _ _ _ h => h) (Or.inl ⟨by kernel_rfl, ?_⟩) hHeld ?_
        rotate_left
        · intro W hSw
          obtain ⟨c0, c1, c2, c3, c4, _⟩ := HB.out _ hSw
          clear hSw
          go_simp <;> with_reducible rfl
        simp only [Act.put, List.getElem_toArray, List.getElem_cons_zero, List.getElem_cons_succ, List.setIfInBounds_toArray, List.set_cons_zero, List.set_cons_succ]
        refine wpAnyH_take (i := 16) (v := ?_) rfl (by kernel_rfl) (by kernel_rfl) (by kernel_rfl) (fun _ _ _ h => h) (Or.inl ⟨by kernel_rfl, ?_⟩) hHeld ?_
        rotate_left
        · intro W hSw
          obtain ⟨c0, c1, c2, c3, c4, bw⟩ := HB.out _ hSw
          have ck := HCL.out _ bw
          clear hSw bw
          go_simp <;> with_reducible rfl
        simp only [Act.put, List.getElem_toArray, List.getElem_cons_zero, List.getElem_cons_succ, List.setIfInBounds_toArray, List.set_cons_zero, List.set_cons_succ]
        have BD := hide (HB.out _ hHeld).2.2.2.2.2
        refine wpAnyH_ready (rs := [17]) (by kernel_rfl) (by simp) ?_
        refine AllReadyH.cons rfl (fun K hK => ?_) AllReadyH.nil
        go_simp
        go_wp2_with (first | (go_at_call 12; refine (HCK.out _ BD.out).mono ?_; rintro e x7 ⟨rfl, b9⟩))
        refine hK.out _ _ ?_ (fun hHeld => ?_)
        · exact Below.trans hHeld (b9.mono hHeld.size)
        clear hK K
        try simp only [Act.put, List.getElem_toArray, List.getElem_cons_zero, List.getElem_cons_succ, List.setIfInBounds_toArray, List.set_cons_zero, List.set_cons_succ]
        clear b9 BD
        refine wpAnyH_take (i := 18) (v := .bool true) rfl (by kernel_rfl) (by kernel_rfl) (by kernel_rfl) (fun _ _ _ h => h) (Or.inl ⟨by kernel_rfl, fun _ _ => by go_simp⟩) hHeld ?_
        simp only [Act.put, List.getElem_toArray, List.getElem_cons_zero, List.getElem_cons_succ, List.setIfInBounds_toArray, List.set_cons_zero, List.set_cons_succ]
        refine wpAnyH_take (i := 19) (v := .bool true) rfl (by kernel_rfl) (by kernel_rfl) (by kernel_rfl) (fun _ _ _ h => h) (Or.inl ⟨by kernel_rfl, fun _ _ => by go_simp⟩) hHeld ?_
        simp only [Act.put, List.getElem_toArray, List.getElem_cons_zero, List.getElem_cons_succ, List.setIfInBounds_toArray, List.set_cons_zero, List.set_cons_succ]
        refine wpAnyH_take (i := 20) (v := .bool true) rfl (by kernel_rfl) (by kernel_rfl) (by kernel_rfl) (fun _ _ _ h => h) (Or.inl ⟨by kernel_rfl, fun _ _ => by go_simp⟩) hHeld ?_
        simp only [Act.put, List.getElem_toArray, List.getElem_cons_zero, List.getElem_cons_succ, List.setIfInBounds_toArray, List.set_cons_zero, List.set_cons_succ]
        refine wpAnyH_take (i := 21) (v := .bool true) rfl (by kernel_rfl) (by kernel_rfl) (by kernel_rfl) (fun _ _ _ h => h) (Or.inl ⟨by kernel_rfl, fun _ _ => by go_simp⟩) hHeld ?_
        simp only [Act.put, List.getElem_toArray, List.getElem_cons_zero, List.getElem_cons_succ, List.setIfInBounds_toArray, List.set_cons_zero, List.set_cons_succ]
        refine wpAnyH_done (by kernel_rfl) ?_ _
        have HZ2 := hide (HB.out _ hHeld).2.2.2.2.2
        clear hHeld
        go_wp2
        go_ret
        exact ⟨rfl, HZ2.out⟩
    · have HLV : Hid (∀ x, Below w.heap.size w x → Calls Tryz.prog 6 #[] x fun e w' => e = .returned (.bool true) ∧ Below x.heap.size x w') := hide (fun x _ => HAL.out x)
      clear HA1 HPT HNN HCC hcp HY HW
      by_cases h1 : W < 1000
      · have h1i : ¬ (1000 : Int) ≤ W := by omega
        by_cases h2 : n < 0
        · clear hlt hW
          go_wp2_with fail
          refine (HLV.out _ BE.out).mono ?_
          rintro e w3 ⟨rfl, b3⟩
          have BF := hide (BE.out.trans (b3.mono BE.out.size))
          clear b3
          go_wp2
          go_ret
          exact ⟨rfl, BF.out⟩
        · have h3 : (ts.length : Int) ≤ n := by omega
          clear hlt hW
          go_wp2_with fail
          refine (HLV.out _ BE.out).mono ?_
          rintro e w3 ⟨rfl, b3⟩
          have BF := hide (BE.out.trans (b3.mono BE.out.size))
          clear b3
          go_wp2
          go_ret
          exact ⟨rfl, BF.out⟩
      · have h1i : (1000 : Int) ≤ W := by omega
        clear hlt hW
        go_wp2_with fail
        refine (HLV.out _ BE.out).mono ?_
        rintro e w3 ⟨rfl, b3⟩
        have BF := hide (BE.out.trans (b3.mono BE.out.size))
        clear b3
        go_wp2
        go_ret
        exact ⟨rfl, BF.out⟩
end Go.Proofs.YthopnliaikkhbaaGreatDoor
/- Lists of nodes that came in, opened: from the row's reading to what the walks ask. -/
set_option linter.unusedVariables false
set_option linter.unusedSimpArgs false
namespace Go.Proofs.YthopnliaikkhbaaGreatDoor.S5
open Go.RowKit Go.ChangeShapes Go.WideShapes Go.Deep

theorem str_selfV (s : ByteArray) : (⟨s.data.toList.toArray⟩ : ByteArray) = s := (str_of s _ rfl).symm
theorem addr_add8 (b o j : Nat) : (⟨b, o, none⟩ : Addr).add j = ⟨b, o + j, none⟩ := by
  unfold Addr.add
  split
  · next h => simp_all
  · rfl
theorem spot_none {W : World} {b o : Nat} {sp : Option Nat} {v : Value} (h : W.cell? ⟨b, o, sp⟩ = some v) (hv : v.oneCell' = true) : sp = none := by
  cases sp with
  | none => rfl
  | some z =>
    exfalso
    unfold World.cell? at h
    split at h <;> simp at h
theorem attrs_in {H : Type} {enc : TypeId × Value → H} {W : World} {fuel : Nat} {v : Value} {x : DataW H × List MemPlace} (h : DataW.trod enc Tryz.prog W 0 (fun _ => true) true fuel 39 [v] = some x) :
    ∃ aa : AttrL, IsAB (fun k => k < W.heap.size) W v aa ∧ aa.length ≤ 9223372036854775807 := by
  rcases Deep.open_slice_pairs Tryz.underlying39 Tryz.underlying46 (by kernel_rfl) rfl rfl (by kernel_rfl) (by kernel_rfl) h with ⟨hcs, _⟩ | ⟨a, len, cap, m, n, V0, V1, D0, D1, P0, P1, hcs, _, hl, hm, hmm, _, hc⟩
  · obtain rfl : v = .slice none 0 0 := by simpa using hcs
    exact ⟨[], ⟨.inl ⟨⟨_, _, rfl⟩, rfl⟩, .inl rfl⟩, Nat.zero_le _⟩
  · obtain rfl : v = .slice (some a) len cap := by simpa using hcs
    by_cases h0 : len = 0
    · subst h0
      exact ⟨[], ⟨.inl ⟨⟨_, _, rfl⟩, rfl⟩, .inl rfl⟩, Nat.zero_le _⟩
    · have hm2 : m = cap := by rw [hmm]; rfl
      have each : ∀ i, i < len → ∃ p : List UInt8 × List UInt8, W.cell? (a.add (i * 2)) = some (.string ⟨p.1.toArray⟩) ∧ W.cell? (a.add (i * 2 + 1)) = some (.string ⟨p.2.toArray⟩) := by
        intro i hi
        obtain ⟨c0, c1, t0, t1⟩ := hc i (by omega)
        obtain ⟨s0, e0, _⟩ := DataW.trod_string Tryz.underlying9 t0
        obtain ⟨s1, e1, _⟩ := DataW.trod_string Tryz.underlying9 t1
        have e0' : V0 i = .string s0 := by simpa using e0
        have e1' : V1 i = .string s1 := by simpa using e1
        exact ⟨(s0.data.toList, s1.data.toList), by rw [c0, e0', str_selfV], by rw [c1, e1', str_selfV]⟩
      obtain ⟨f, hf⟩ := Deep.choose_lt each
      obtain ⟨b, o, sp⟩ := a
      have hsp : sp = none := spot_none (by simpa [Addr.add] using (hf 0 (by omega)).1) rfl
      subst hsp
      have hcell : ∀ j (hj : j < ((List.range len).map f).length), W.cell? ⟨b, o + j * 2, none⟩ = some (.string ⟨((List.range len).map f)[j].1.toArray⟩) ∧ W.cell? ⟨b, o + j * 2 + 1, none⟩ = some (.string ⟨((List.range len).map f)[j].2.toArray⟩) := by
        intro j hj
        have hj2 : j < len := by simpa using hj
        obtain ⟨h1, h2⟩ := hf j hj2
        rw [addr_add8] at h1 h2
        simp only [List.getElem_map, List.getElem_range]
        exact ⟨h1, by rw [Nat.add_assoc]; exact h2⟩
      refine ⟨(List.range len).map f, ⟨.inr ⟨b, o, cap, by simp, by simpa using hl, hcell⟩, .inr fun k e => ?_⟩, ?_⟩
      · have : b = k := by simpa [Value.ownBlock] using e
        rw [← this]
        exact cell_lt (hcell 0 (by simp; omega)).1
      · rw [List.length_map, List.length_range]
        unfold maxLen at hm
        omega
set_option maxRecDepth 100000 in
set_option maxHeartbeats 1000000 in
theorem nodes_in {H : Type} {enc : TypeId × Value → H} {W : World} : ∀ (m fuel : Nat) {v : Value} {x : DataW H × List MemPlace}, fuel ≤ 2 * m + 1 → DataW.trod enc Tryz.prog W 0 (fun _ => true) true fuel 32 [v] = some x →
    ∃ ts : List (NT m), IsK (fun k => k < W.heap.size) W ts v ∧ ts.length ≤ 9223372036854775807 ∧ OkTs ts := by
  intro m
  induction m with
  | zero =>
    intro fuel v x hfu h
    rcases DataW.trod_slice Tryz.underlying32 h with ⟨hcs, _⟩ | ⟨a, len, cap, elems, rest, n, hn, hcs, _, _, hl, hm, hlen, hel, _, _⟩
    · obtain rfl : v = .slice none 0 0 := by simpa using hcs
      exact ⟨[], .inl ⟨⟨_, _, rfl⟩, rfl⟩, Nat.zero_le _, fun x hx => absurd hx List.not_mem_nil⟩
    · obtain rfl : v = .slice (some a) len cap := by simpa using hcs
      by_cases h0 : len = 0
      · subst h0
        exact ⟨[], .inl ⟨⟨_, _, rfl⟩, rfl⟩, Nat.zero_le _, fun x hx => absurd hx List.not_mem_nil⟩
      · exfalso
        have h1 := hel 0 (by omega)
        rw [List.getElem?_eq_getElem (by omega)] at h1
        obtain ⟨cs', _, h2⟩ := Option.bind_eq_some_iff.1 h1
        obtain ⟨xs, k, hk, _⟩ := DataW.trod_struct Tryz.underlying41 h2
        omega
  | succ m ih =>
    intro fuel v x hfu h
    rcases DataW.trod_slice Tryz.underlying32 h with ⟨hcs, _⟩ | ⟨a, len, cap, elems, rest, n, hn, hcs, _, _, hl, hm, hlen, hel, _, _⟩
    · obtain rfl : v = .slice none 0 0 := by simpa using hcs
      exact ⟨[], .inl ⟨⟨_, _, rfl⟩, rfl⟩, Nat.zero_le _, fun x hx => absurd hx List.not_mem_nil⟩
    · obtain rfl : v = .slice (some a) len cap := by simpa using hcs
      by_cases h0 : len = 0
      · subst h0
        exact ⟨[], .inl ⟨⟨_, _, rfl⟩, rfl⟩, Nat.zero_le _, fun x hx => absurd hx List.not_mem_nil⟩
      · have each : ∀ i, i < len → ∃ y : NT (m + 1), (∃ vs : List Value, (∀ q, q < 6 → W.cell? (a.add (i * 6 + q)) = vs[q]?) ∧ IsN (fun k => k < W.heap.size) W y vs) ∧ OkT y := by
          intro i hi
          have h1 := hel i hi
          rw [List.getElem?_eq_getElem (by omega)] at h1
          obtain ⟨cs', h1, h2⟩ := Option.bind_eq_some_iff.1 h1
          rw [show Tryz.prog.cellsOf 41 = 6 by kernel_rfl] at h1
          obtain ⟨_, hlen2, hcell⟩ := World.cells?_some h1
          obtain ⟨xs, k, hk, hxy, _, hxl, hf⟩ := DataW.trod_struct Tryz.underlying41 h2
          match cs', hlen2 with
          | [v0, v1, v2, v3, v4, v5], _ =>
            have g0 := hf 0 _ rfl
            have g1 := hf 1 _ rfl
            have g2 := hf 2 _ rfl
            have g3 := hf 3 _ rfl
            have g4 := hf 4 _ rfl
            have g5 := hf 5 _ rfl
            have cK : Tryz.prog.cellsOf 37 = 1 := by kernel_rfl
            have cS : Tryz.prog.cellsOf 38 = 1 := by kernel_rfl
            have cA : Tryz.prog.cellsOf 39 = 1 := by kernel_rfl
            have cT : Tryz.prog.cellsOf 9 = 1 := by kernel_rfl
            have cN : Tryz.prog.cellsOf 32 = 1 := by kernel_rfl
            match xs, hxl with
            | [y0, y1, y2, y3, y4, y5], _ =>
              have g0' : DataW.trod enc Tryz.prog W 0 (fun _ => true) true k 37 [v0] = some y0 := by simpa [cK, cS, cA, cT, cN] using g0
              have g1' : DataW.trod enc Tryz.prog W 0 (fun _ => true) true k 38 [v1] = some y1 := by simpa [cK, cS, cA, cT, cN] using g1
              have g2' : DataW.trod enc Tryz.prog W 0 (fun _ => true) true k 9 [v2] = some y2 := by simpa [cK, cS, cA, cT, cN] using g2
              have g3' : DataW.trod enc Tryz.prog W 0 (fun _ => true) true k 39 [v3] = some y3 := by simpa [cK, cS, cA, cT, cN] using g3
              have g4' : DataW.trod enc Tryz.prog W 0 (fun _ => true) true k 9 [v4] = some y4 := by simpa [cK, cS, cA, cT, cN] using g4
              have g5' : DataW.trod enc Tryz.prog W 0 (fun _ => true) true k 32 [v5] = some y5 := by simpa [cK, cS, cA, cT, cN] using g5
              obtain ⟨z0, e0, _⟩ := DataW.trod_int Tryz.underlying37 g0'
              obtain ⟨z1, e1, _⟩ := DataW.trod_int Tryz.underlying38 g1'
              obtain ⟨z2, e2, _⟩ := DataW.trod_string Tryz.underlying9 g2'
              obtain ⟨aa, hV, hVl⟩ := attrs_in g3'
              obtain ⟨z4, e4, _⟩ := DataW.trod_string Tryz.underlying9 g4'
              obtain ⟨ks, hK, hKl, hKo⟩ := ih k (by omega) g5'
              simp only [List.cons.injEq, and_true] at e0 e1 e2 e4
              subst e0 e1 e2 e4
              refine ⟨.mk ⟨z0, z1, z2.data.toList, aa, z4.data.toList⟩ ks, ⟨[.int .i64 z0, .int .i64 z1, .string z2, v3, .string z4, v5], fun q hq => ?_, ?_⟩, ⟨hVl, hKl, hKo⟩⟩
              · have f := hcell q (by omega)
                rw [add_add] at f
                exact f
              · rw [isN_iff]
                refine ⟨v3, v5, ?_, hV, hK⟩
                unfold nodeC
                simp only [str_selfV]
        obtain ⟨f, hf⟩ := @Deep.choose_lt (NT (m + 1)) ⟨.mk {} []⟩ _ _ each
        obtain ⟨b, o, sp⟩ := a
        obtain ⟨vs0, c0, n0⟩ := (hf 0 (by omega)).1
        obtain ⟨q1, q2, q3, q4, q5, q6, q7, q8, q9, q10, rfl⟩ := n0.form
        have hc0 := c0 0 (by omega)
        have hsp : sp = none := spot_none (v := .int .i64 q1) (by simpa [Addr.add] using hc0) rfl
        subst hsp
        have hb : b < W.heap.size := by
          rw [addr_add8] at hc0
          exact cell_lt (v := .int .i64 q1) hc0
        refine ⟨(List.range len).map f, .inr ⟨b, o, cap, by simp, by simpa using hl, .inr hb, IsNs.of o _ fun j hj => ?_⟩, ?_, fun x hx => ?_⟩
        · have hj2 : j < len := by simpa using hj
          obtain ⟨vs, h1, h2⟩ := (hf j hj2).1
          refine ⟨vs, fun i hi => ?_, by simpa using h2⟩
          have := h1 i hi
          rw [addr_add8] at this
          rw [Nat.add_assoc]
          exact this
        · rw [List.length_map, List.length_range]
          unfold maxLen at hm
          omega
        · obtain ⟨j, hj, rfl⟩ := List.mem_map.1 hx
          exact (hf j (List.mem_range.1 hj)).2
end Go.Proofs.YthopnliaikkhbaaGreatDoor.S5
set_option linter.unusedVariables false
namespace Go.Proofs.YthopnliaikkhbaaGreatDoor
open Go.ChangeShapes Go.WideShapes Go.ChangeAt Go.RowKit
open Go.ChangeMaps (open_string shut_string)

theorem ownL : ownKnob Tryz.prog.godebug = none := by kernel_rfl
theorem laidOutD : laidOutB Tryz.prog = true := by kernel_rfl
theorem policyPart_walk2 (c0 c1 c2 c3 c4 : Value) (pp : PV) (e : #[c0, c1, c2, c3, c4] = poC pp) {m : Nat} (va : Value) (ts : List (S5.NT m)) (n : Int) (hn : (Lit.int .i64 n).wf = true) (w : World) (hP : InP w pp) (hK : S5.IsK (fun k => k < w.heap.size) w ts va) (hl : ts.length ≤ 9223372036854775807) (hok : S5.OkTs ts) : Calls Tryz.prog 5 #[(.agg #[c0, c1, c2, c3, c4]), va, .int .i64 n] w fun e w' => e = .returned (.bool true) ∧ Below w.heap.size w w' := by
  rw [e]
  exact policyPart_walk pp ts va n w hP hl hok hK

set_option maxRecDepth 100000 in
theorem policyPart_lifted (os : Os) (started : os.Started) (H : Type) (enc : TypeId × Value → H) :
    ReturnsInHanded {} Tryz.checked os 5 .any (fun w args => (Rows.policyPartSpec.pre enc Tryz.prog Tryz.f5 [] false w args ∧ laidMetH Tryz.prog Rows.policyPartRow.laid w) ∧ sizedMet enc Tryz.prog Tryz.f5 (OpenSpec.ofChange Rows.policyPartSpec) false w args)
      (Rows.policyPartSpec.post enc Tryz.prog Tryz.f5 false true false false) := by
  refine returnsInHanded_of_row (C := Tryz.checked) (s := OpenSpec.ofChange Rows.policyPartSpec) (F := fun _ _ _ => 0) (conds := []) (laid := Rows.policyPartRow.laid) ownL started (by kernel_rfl) Tryz.func5
    (ChangeSpec.witness_shaped (enc := enc) (C := Tryz.checked) (os := os) (X := fun w _ => laidMetH Tryz.prog Rows.policyPartRow.laid w) false (World.laidAll Tryz.prog os Rows.policyPartRow.laid) #[.agg #[.slice none 0 0, .slice none 0 0, .slice none 0 0, .slice none 0 0, .int .i64 0], .slice none 0 0, .int .i64 0] 8 (World.laidAll_os _ _ _)
      (World.shaped_of_ZipB (by kernel_rfl) (by kernel_rfl)) (by kernel_rfl) (by kernel_rfl) (by kernel_rfl)
      (by rw [MakeChecks.laidMetH_plain _ _ _ (by kernel_rfl)]; exact laidMet_laidAll _ (by kernel_rfl) (by kernel_rfl))) ?_
  intro W base args ds gs before hval0 hW _ _ _ hL hsh _
  have hval : ∀ (j : Nat) t v, Tryz.f5.params[j]? = some t → args[j]? = some v → Value.okWide Tryz.prog W .any base t v := hval0
  have hW' := hW
  obtain ⟨p, q, hA0, hV, rfl, hfz, hnd⟩ := hW
  have hA : DataW.TrodAll enc Tryz.prog W 0 (fun _ => true) true Tryz.f5.params.toList args.toList ds p := hA0
  rw [Tryz.params5] at hA hval
  obtain ⟨v0, vs0, d0, ds0, p0, q0, hargs, rfl, rfl, h0, r0⟩ := trodAll_cons hA
  obtain ⟨v1, vs1, d1, ds1, p1, q1, rfl, rfl, rfl, h1, r1⟩ := trodAll_cons r0
  obtain ⟨v2, vs2, d2, ds2, p2, q2, rfl, rfl, rfl, h2, r2⟩ := trodAll_cons r1
  obtain ⟨rfl, rfl, rfl⟩ := trodAll_nil r2
  obtain rfl : args = #[v0, v1, v2] := by cases args; simp_all
  obtain ⟨rfl, rfl⟩ := trodVars_none hV
  have k0 := h0
  have lt0 : ∀ x ∈ p0, x.block < W.heap.size := by obtain ⟨m, hm⟩ := k0; exact DataW.trod_lt m _ _ _ hm
  obtain ⟨c00, c01, c02, c03, c04, y00, y01, y02, y03, y04, m0, rfl, rfl, rfl, g00, g01, g02, g03, g04⟩ := open_agg5 Tryz.underlying26 (by kernel_rfl) (by kernel_rfl) (hval 0 26 v0 rfl rfl) h0
  obtain ⟨pp0, epp0, hb0⟩ := policy_in g00 g01 g02 g03 g04
  have k1 := h1
  have lt1 : ∀ x ∈ p1, x.block < W.heap.size := by obtain ⟨m, hm⟩ := k1; exact DataW.trod_lt m _ _ _ hm
  obtain ⟨a1, len1, cap1, rfl⟩ := okWide_slice Tryz.underlying32 (hval 1 32 v1 rfl rfl)
  obtain ⟨m1, aa1, hb1, hc1, hd1⟩ : ∃ (m : Nat) (ts : List (S5.NT m)), S5.IsK (fun k => k < W.heap.size) W ts (.slice a1 len1 cap1) ∧ ts.length ≤ 9223372036854775807 ∧ S5.OkTs ts := by
    obtain ⟨fuel, hf⟩ := h1
    obtain ⟨ts, h1, h2, h3⟩ := S5.nodes_in fuel fuel (by omega) hf
    exact ⟨fuel, ts, h1, h2, h3⟩
  obtain ⟨a2, rfl, rfl, rfl, w2⟩ := open_int Tryz.underlying3 (hval 2 3 v2 rfl rfl) h2
  clear hA0 hval0
  refine (policyPart_walk2 c00 c01 c02 c03 c04 pp0 epp0 _ aa1 a2 w2 W   hb0 hb1 hc1 hd1).mono fun e W' ⟨he, bel⟩ => ?_
  subst he
  exact ⟨_, rfl, _, _, _, [], _, [], hW', trodAll_mk1 (shut_bool Tryz.underlying4 _), (trodAll_cons_mk (Below.trod laidOutD (by kernel_rfl) (of_decide_eq_true (by kernel_rfl)) k0 bel lt0) (trodAll_cons_mk (Below.trod laidOutD (by kernel_rfl) (of_decide_eq_true (by kernel_rfl)) k1 bel lt1) (trodAll_cons_mk (shut_int Tryz.underlying3 w2) trodAll_mk0))), rfl, bel.frame _, fun h => by cases h⟩

theorem policyPart_holds : Rows.PolicyPartSaid :=
  OpenClaim.holds_of_wide 5 Tryz.f5 rfl rfl rfl rfl rfl rfl rfl ⟨rfl, rfl, rfl, rfl, rfl⟩ rfl rfl rfl rfl rfl (by kernel_rfl) Tryz.func5 (by kernel_rfl)
    (of_decide_eq_true (by kernel_rfl)) (by unfold Func.isWrapper; first | (rw [if_pos (by decide +kernel)]; kernel_rfl) | (rw [if_neg (by decide +kernel)]; exact ⟨rfl, rfl⟩))
    (fun os started H enc _ => policyPart_lifted os started H enc)

theorem policyPart_card : Rows.PolicyPartCardSaid :=
  Claim7.holds_tied_plain_at .later [] _ _ _ _ policyPart_holds (fun _ h => by cases h) (by kernel_rfl) (fun _ h => by cases h) policyPart_row_tie rfl ⟨rfl, rfl⟩ (by kernel_rfl) rfl
    (fun f fn hf hfn => by
      obtain rfl : f = 5 := Option.some.inj ((show Tryz.prog.funcNamed Rows.policyPartRow.func = some 5 by kernel_rfl).symm.trans hf) |>.symm
      obtain rfl : fn = Tryz.f5 := (Option.some.inj (Tryz.func5.symm.trans hfn)).symm
      exact ⟨by kernel_rfl, fun j t ht => by
        rw [Tryz.params5] at ht
        have hm : t ∈ [26, 32, 3] := by simpa using Array.mem_of_getElem? ht
        have hall : ([26, 32, 3].all fun u => !Tryz.prog.wantsStandIn u) = true := by kernel_rfl
        exact (show Tryz.prog.wantsStandIn t = false by simpa using List.all_eq_true.1 hall t hm)⟩)
    (by kernel_rfl)
end Go.Proofs.YthopnliaikkhbaaGreatDoor
