/- What the document's own Push answers; nothing that was there is written. -/
import Derived.Test.YtihpjalbdkiecaaRE7
set_option linter.unusedVariables false
set_option linter.unusedSimpArgs false
namespace Go.Proofs.Ytihpjalbdkiecaa
open Go.RowKit

/-- Where the first stands, so far. -/
def fstK (p : MV → Bool) (l : List MV) (k : Nat) : Int := placeZ ((firstO p (l.drop k)).map (· + k))
def cntK (p : MV → Bool) (l : List MV) (k : Nat) : Nat := (l.drop k).countP p
theorem fst_hit (p : MV → Bool) (l : List MV) (k : Nat) (h : k < l.length) (hp : p l[k] = true) : fstK p l k = (k : Int) := by
  unfold fstK; rw [first_hit p l k h hp]; simp [placeZ]
theorem fst_miss (p : MV → Bool) (l : List MV) (k : Nat) (h : k < l.length) (hp : p l[k] = false) : fstK p l k = fstK p l (k + 1) := by
  unfold fstK
  rw [first_miss p l k h hp, ← findZ_first l 0 k]
theorem cnt_hit (p : MV → Bool) (l : List MV) (k : Nat) (h : k < l.length) (hp : p l[k] = true) : cntK p l k = cntK p l (k + 1) + 1 := by
  unfold cntK; rw [List.drop_eq_getElem_cons h, List.countP_cons_of_pos hp]
theorem cnt_miss (p : MV → Bool) (l : List MV) (k : Nat) (h : k < l.length) (hp : p l[k] = false) : cntK p l k = cntK p l (k + 1) := by
  unfold cntK; rw [List.drop_eq_getElem_cons h, List.countP_cons_of_neg (by rw [hp]; exact Bool.false_ne_true)]
theorem cnt_le (p : MV → Bool) (l : List MV) (k : Nat) : cntK p l k ≤ l.length := by
  unfold cntK
  have := List.countP_le_length (p := p) (l := l.drop k)
  rw [List.length_drop] at this
  omega
theorem fst_end (p : MV → Bool) (l : List MV) : fstK p l l.length = -1 := by unfold fstK; rw [first_end p l _ (Nat.le_refl _)]; rfl
theorem cnt_end (p : MV → Bool) (l : List MV) : cntK p l l.length = 0 := by unfold cntK; rw [List.drop_length]; rfl
theorem gone_few (l : List MV) (m : MV) (h : cntK (likeM m) l (behindL l) < 3) : placeZ (goneO l m) = -1 := by
  rw [gone_none l m (.inr h)]; rfl
theorem gone_zero (l : List MV) (m : MV) (h : m.id = 0) : placeZ (goneO l m) = -1 := by
  rw [gone_none l m (.inl h)]; rfl
theorem gone_many (l : List MV) (m : MV) (h0 : m.id ≠ 0) (h : ¬ cntK (likeM m) l (behindL l) < 3) : placeZ (goneO l m) = fstK (likeM m) l (behindL l) := by
  unfold goneO
  rw [if_neg (by intro h'; rcases h' with h' | h'; exact h0 h'; exact h h')]
  rfl

set_option maxHeartbeats 2000000 in
theorem rpush_any (v : Value) (l : List MV) (hl : l.length ≤ 100000) (ha : ∀ x ∈ l, x.aa.length ≤ 1000000) (m : MV) (hma : m.aa.length ≤ 1000000) (w : World) (hM : RowM w v l) (hOk : OkM w l) (hm : IsQ w m.av m.aa) :
    Calls Try.prog 16 #[v, .agg #[.int .i64 m.id, .string m.nm, m.av]] w fun e w' => (∃ v', e = .returned v' ∧ NewM w.heap.size w' v' (pushL l m)) ∧ Below w.heap.size w w' := by
  have H1 := hide (fun w1 (b : Below w.heap.size w w1) => rbehind_any v l (by omega) w1 (hM.below b))
  have H2 := hide (fun (x : MV) (hx : x ∈ l) w1 (b : Below w.heap.size w w1) => ralike_any x.av m.av x.aa m.aa (ha x hx) hma w1 ((hOk x hx).below b) (hm.below b))
  have H3 := hide (fun (z : Int) w1 (b : Below w.heap.size w w1) => rwithout_any v l (by omega) z w1 (hM.below b) (hOk.below b))
  obtain ⟨a, c, rfl⟩ := rowM_form hM
  obtain ⟨ma, mc, hmv⟩ := isQ_form hm
  have HM := hide hM
  have HOK := hide hOk
  clear hM hOk hm
  have hbl := behind_len l
  have HBX := hide (fun w1 (b : Below (w.heap.size + 1) (boxM w m.id m.nm m.av) w1) => And.intro (boxM_below w _ _ _ b) (boxM_cells w m.id m.nm m.av b))
  have HAPm := hide (fun W B n v l' h1 h2 h3 => append_mark W B n v l' m ma mc hmv h1 h2 h3)
  have BA : Hid (Below (w.heap.size + 1) (boxM w m.id m.nm m.av) (boxM w m.id m.nm m.av)) := hide (Below.refl _ _)
  have HLIKE : Hid (∀ x, likeM m x = (x.nm.data.toList == m.nm.data.toList && alikeL x.aa m.aa)) := hide fun x => rfl
  have HPU : Hid (∀ Z, placeZ (goneO l m) = Z → withoutZ l Z ++ [m] = pushL l m) := hide fun Z h => by rw [← h]; rfl
  have HWL : Hid (∀ Z, (withoutZ l Z).length ≤ l.length) := hide fun Z => by
    unfold withoutZ
    split
    · exact Nat.le_refl _
    · exact List.length_eraseIdx_le l _
  have HG0 := hide (gone_zero l m)
  have HGF := hide (gone_few l m)
  have HGM := hide (gone_many l m)
  have HE1 := hide (fst_end (likeM m) l)
  have HE2 := hide (cnt_end (likeM m) l)
  have HFH := hide (fst_hit (likeM m) l)
  have HFM := hide (fst_miss (likeM m) l)
  have HCH := hide (cnt_hit (likeM m) l)
  have HCM := hide (cnt_miss (likeM m) l)
  have HCL := hide (cnt_le (likeM m) l)
  obtain ⟨N, hNl⟩ : ∃ N, N = l.length := ⟨_, rfl⟩
  rw [← hNl] at HM H1 H3 HE1 HE2 HCL hl hbl HWL ⊢
  have HNL := hide hNl
  clear hNl
  have HEQ : Hid (∀ x : ByteArray, (x.toList == m.nm.toList) = (x.data.toList == m.nm.data.toList)) := hide fun x => by rw [Lib.toList_data, Lib.toList_data]
  rw [hmv] at BA HBX HAPm H2 ⊢
  generalize hid : m.id = id at *
  generalize m.nm = nm at *
  generalize m.aa.length = ml at *
  generalize placeZ (goneO l m) = GZ at *
  generalize fstK (likeM m) l = FK at *
  generalize cntK (likeM m) l = CK at *
  generalize behindL l = B at *
  generalize pushL l m = PL at *
  clear hmv ha
  have HEND : Hid (∀ (Z : Int) (x : World), GZ = Z → Below (w.heap.size + 1) (boxM w id nm (.slice ma ml mc)) x → Calls Try.prog 38 #[.slice a N c, .int .i64 Z] x fun e w' => ∃ (a' : Option Addr) (c' n : Nat), e = .returned (.slice a' n c') ∧ Below (w.heap.size + 1) (boxM w id nm (.slice ma ml mc)) w' ∧ ∃ (a2 : Option Addr) (c2 : Nat) (w2 : World), (Builtin.append_ #[25, 25] 25 #[.slice a' n c', .slice (some ⟨w'.heap.size, 0, none⟩) 1 1]).run Try.prog (w'.alloc (.cells #[.int .i64 id, .string nm, .slice ma ml mc] 27)) = .ok (.slice a2 (n + 1) c2) w2 ∧ NewM w.heap.size w2 (.slice a2 (n + 1) c2) PL ∧ Below w.heap.size w w2) := hide (by
    intro Z x hZ hb
    have hsz : w.heap.size + 1 ≤ x.heap.size := by have := hb.size; rw [boxM_size] at this; exact this
    refine (H3.out Z x (HBX.out _ hb).1).mono ?_
    rintro e w' ⟨⟨v', n, rfl, ho⟩, b'⟩
    obtain ⟨a', c', rfl⟩ := owns_form ho
    have hn : n ≤ N := by
      have h1 := ho.1
      rw [markCells_len] at h1
      have h2 := HWL.out Z
      omega
    obtain ⟨v2, w2, hr, ho2, hb2⟩ := HAPm.out w' x.heap.size n _ _ ho (by omega) b'.size
    rw [HPU.out Z hZ] at ho2
    obtain ⟨a2, c2, rfl⟩ := owns_form ho2
    have b3 := hb.trans (b'.mono hsz)
    exact ⟨a', c', n, rfl, b3, a2, c2, w2, hr, (owns_new ho2).mono (by omega), (HBX.out _ (b3.trans (hb2.mono hsz))).1⟩)
  clear H3 HAPm HPU HWL
  have hbl2 : (0 : Int) ≤ (B : Int) := by omega
  by_cases h0 : id = 0
  · subst h0
    have HGZ := hide (HG0.out rfl)
    clear hid HG0 HGF HGM HFH HFM HCH HCM HCL HE1 HE2 H2 HLIKE HEQ
    go_enter Try.func16, Try.ntmps16
    go_wp2_with fail
    go_loop [5, 6, 7] (fun f n i => f = .int .i64 (-1) ∧ n = .int .i64 0 ∧ i = .int .i64 ((N : Int) - 1)) (fun _ _ _ => 0)
    case atStart => exact ⟨rfl, rfl, by go_num⟩
    case round =>
      obtain ⟨rfl, rfl, rfl⟩ := hrel
      go_wp2_with fail
      refine (H1.out _ (HBX.out _ BA.out).1).mono ?_
      rintro e x1 ⟨rfl, rfl⟩
      by_cases hNB : (B : Int) ≤ (N : Int) - 1
      all_goals
        go_wp2_with fail
        refine (HEND.out (-1) _ HGZ.out BA.out).mono ?_
        rintro e w1 ⟨a', c', n', rfl, b3, a2, c2, w2, hr, hN, hbf⟩
        obtain ⟨-, d0, d1, d2⟩ := HBX.out _ b3
        have HRUN := hide hr
        have HNN := hide hN
        have HBF := hide hbf
        clear hr hN hbf b3
        go_wp2_with (with_reducible refine wpList_append_run rfl _ _ 25 rfl (.slice a' n' c') (.slice (some ⟨w1.heap.size, 0, none⟩) 1 1) _ w2 rfl rfl HRUN.out ?_)
        go_ret
        exact ⟨⟨_, rfl, HNN.out⟩, HBF.out⟩
  · have h0' := ne_int id 0 h0
    clear HG0
    go_enter Try.func16, Try.ntmps16
    go_wp2_with fail
    go_loopw [5, 6, 7] (fun f n i wr => ∃ k : Nat, B ≤ k ∧ k ≤ N ∧ f = .int .i64 (FK k) ∧ n = .int .i64 (CK k : Int) ∧ i = .int .i64 ((k : Int) - 1) ∧ Hid (Below (w.heap.size + 1) (boxM w id nm (.slice ma ml mc)) wr)) (fun _ _ i _ => (intOf i + 1).toNat)
    case atStart => exact ⟨N, hbl, Nat.le_refl _, by rw [HE1.out], by rw [HE2.out]; rfl, by go_num, BA⟩
    case round =>
      obtain ⟨k, hBk, hkN, rfl, rfl, rfl, BW⟩ := hrel
      obtain ⟨bb, d0, d1, d2⟩ := HBX.out _ BW.out
      by_cases hB : B = k
      · subst hB
        have hlt : ¬ ((B : Int) ≤ (B : Int) - 1) := by omega
        by_cases h3 : CK B < 3
        · have h3' : (CK B : Int) < 3 := by omega
          have HGZ := hide (HGF.out h3)
          clear h3
          go_wp2_with fail
          refine (H1.out _ bb).mono ?_
          rintro e x1 ⟨rfl, rfl⟩
          go_wp2_with fail
          refine (HEND.out (-1) _ HGZ.out BW.out).mono ?_
          rintro e w1 ⟨a', c', n', rfl, b3, a2, c2, w2, hr, hN, hbf⟩
          obtain ⟨-, d0, d1, d2⟩ := HBX.out _ b3
          have HRUN := hide hr
          have HNN := hide hN
          have HBF := hide hbf
          clear hr hN hbf b3
          go_wp2_with (with_reducible refine wpList_append_run rfl _ _ 25 rfl (.slice a' n' c') (.slice (some ⟨w1.heap.size, 0, none⟩) 1 1) _ w2 rfl rfl HRUN.out ?_)
          go_ret
          exact ⟨⟨_, rfl, HNN.out⟩, HBF.out⟩
        · have h3' : ¬ ((CK B : Int) < 3) := by omega
          have HGZ := hide (HGM.out h0 h3)
          clear h3
          go_wp2_with fail
          refine (H1.out _ bb).mono ?_
          rintro e x1 ⟨rfl, rfl⟩
          go_wp2_with fail
          refine (HEND.out (FK B) _ HGZ.out BW.out).mono ?_
          rintro e w1 ⟨a', c', n', rfl, b3, a2, c2, w2, hr, hN, hbf⟩
          obtain ⟨-, d0, d1, d2⟩ := HBX.out _ b3
          have HRUN := hide hr
          have HNN := hide hN
          have HBF := hide hbf
          clear hr hN hbf b3
          go_wp2_with (with_reducible refine wpList_append_run rfl _ _ 25 rfl (.slice a' n' c') (.slice (some ⟨w1.heap.size, 0, none⟩) 1 1) _ w2 rfl rfl HRUN.out ?_)
          go_ret
          exact ⟨⟨_, rfl, HNN.out⟩, HBF.out⟩
      · obtain ⟨j, rfl⟩ : ∃ j, k = j + 1 := ⟨k - 1, by omega⟩
        have hj : j < l.length := by rw [← HNL.out]; omega
        have hjN : (j : Int) < N := by omega
        have hge : (B : Int) ≤ (j : Int) := by omega
        have e1 : ((j + 1 : Nat) : Int) - 1 = (j : Int) := by omega
        rw [e1]
        clear e1
        obtain ⟨b, o, rfl, c0, c1, c2⟩ := (HM.out.below bb).get j hj
        have HAL := hide (H2.out l[j] (List.getElem_mem hj))
        have HSC0 : Hid (∀ W', Below (w.heap.size + 1) (boxM w id nm (.slice ma ml mc)) W' → W'.cell? ⟨b, o + j * 3 + 1, none⟩ = some (.string l[j].nm) ∧ W'.cell? ⟨b, o + j * 3 + 2, none⟩ = some l[j].av ∧ W'.cell? ⟨w.heap.size, 1, none⟩ = some (.string nm) ∧ W'.cell? ⟨w.heap.size, 2, none⟩ = some (.slice ma ml mc)) := hide fun W' h => by
          obtain ⟨bw', -, p1, p2⟩ := HBX.out W' h
          obtain ⟨b', o', e, -, h1, h2⟩ := (HM.out.below bw').get j hj
          simp only [Option.some.injEq, Addr.mk.injEq, and_true] at e
          obtain ⟨rfl, rfl⟩ := e
          exact ⟨h1, h2, p1, p2⟩
        have hlk := HLIKE.out l[j]
        rw [← HEQ.out l[j].nm] at hlk
        have f1 := HFH.out j hj
        have f2 := HFM.out j hj
        have g1 := HCH.out j hj
        have g2 := HCM.out j hj
        have gl := HCL.out (j + 1)
        rw [hlk] at f1 f2 g1 g2
        obtain ⟨qa, qc, hqa⟩ := isQ_form (HOK.out.at_ j hj)
        rw [hqa] at c2 HAL HSC0
        generalize alikeL l[j].aa m.aa = AL at *
        generalize l[j].nm = X at *
        generalize l[j].id = idj at *
        generalize l[j].aa.length = ql at *
        have F1 := hide f1
        have F2 := hide f2
        have G1 := hide g1
        have G2 := hide g2
        clear f1 f2 g1 g2 hlk hqa hj
        cases hX : (X.toList == nm.toList) with
        | false =>
          have HF : Hid (FK (j + 1) = FK j ∧ (CK (j + 1) : Int) = (CK j : Int)) := hide ⟨(F2.out (by rw [hX, Bool.false_and])).symm, by rw [G2.out (by rw [hX, Bool.false_and])]⟩
          clear F1 F2 G1 G2
          go_wp2_with fail
          refine (H1.out _ bb).mono ?_
          rintro e x1 ⟨rfl, rfl⟩
          go_wp2_with fail
          go_region
          all_goals (try go_wp2)
          all_goals go_roundw
          case rel => exact ⟨j, by omega, by omega, by rw [HF.out.1], by rw [HF.out.2], by go_num, hide BW.out.drew⟩
          case measure => simp [intOf]
        | true =>
          obtain rfl : X = nm := by
            have h := beq_iff_eq.1 hX
            rw [Lib.toList_data, Lib.toList_data] at h
            cases X
            cases nm
            simpa [Array.toList_inj] using h
          have HAL2 := hide (HAL.out wr.drew bb.drew)
          have DD := hide BW.out.drew
          have HSZ : Hid (w.heap.size + 1 ≤ wr.drew.heap.size) := hide (by have := DD.out.size; rw [boxM_size] at this; exact this)
          clear c0 c1 c2 d1 d2
          cases AL with
          | false =>
            have HF : Hid (FK (j + 1) = FK j ∧ (CK (j + 1) : Int) = (CK j : Int)) := hide ⟨(F2.out (by rw [hX]; rfl)).symm, by rw [G2.out (by rw [hX]; rfl)]⟩
            clear F1 F2 G1 G2
            go_wp2_with fail
            refine (H1.out _ bb).mono ?_
            rintro e x1 ⟨rfl, rfl⟩
            go_wp2_with fail
            go_region_held2 (fun W' => W'.cell? ⟨b, o + j * 3 + 1, none⟩ = some (.string X) ∧ W'.cell? ⟨b, o + j * 3 + 2, none⟩ = some (.slice qa ql qc) ∧ W'.cell? ⟨w.heap.size, 1, none⟩ = some (.string X) ∧ W'.cell? ⟨w.heap.size, 2, none⟩ = some (.slice ma ml mc)) (first | with_reducible exact HSC0.out _ DD.out | with_reducible exact HSC0.out _ B3.out) (first | (go_at_call 11; refine HAL2.out.mono ?_; rintro e w3 ⟨rfl, b3⟩; have B3 := hide (DD.out.trans (b3.mono HSZ.out)); clear b3))
            go_wp2
            go_roundw
            case rel => exact ⟨j, by omega, by omega, by rw [HF.out.1], by rw [HF.out.2], by go_num, B3⟩
            case measure => simp [intOf]
          | true =>
            have HF : Hid ((j : Int) = FK j ∧ (CK j : Int) = (CK (j + 1) : Int) + 1) := hide ⟨(F1.out (by rw [hX]; rfl)).symm, by rw [G1.out (by rw [hX]; rfl)]; omega⟩
            clear F1 F2 G1 G2
            go_wp2_with fail
            refine (H1.out _ bb).mono ?_
            rintro e x1 ⟨rfl, rfl⟩
            go_wp2_with fail
            go_region_held2 (fun W' => W'.cell? ⟨b, o + j * 3 + 1, none⟩ = some (.string X) ∧ W'.cell? ⟨b, o + j * 3 + 2, none⟩ = some (.slice qa ql qc) ∧ W'.cell? ⟨w.heap.size, 1, none⟩ = some (.string X) ∧ W'.cell? ⟨w.heap.size, 2, none⟩ = some (.slice ma ml mc)) (first | with_reducible exact HSC0.out _ DD.out | with_reducible exact HSC0.out _ B3.out) (first | (go_at_call 11; refine HAL2.out.mono ?_; rintro e w3 ⟨rfl, b3⟩; have B3 := hide (DD.out.trans (b3.mono HSZ.out)); clear b3))
            go_wp2
            go_roundw
            case rel => exact ⟨j, by omega, by omega, by rw [← HF.out.1], by rw [HF.out.2], by go_num, B3⟩
            case measure => simp [intOf]
end Go.Proofs.Ytihpjalbdkiecaa
