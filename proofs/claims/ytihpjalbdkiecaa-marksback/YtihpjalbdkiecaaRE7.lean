/- What the document's own Insert answers; nothing that was there is written. -/
import Derived.Test.YtihpjalbdkiecaaRD7
set_option linter.unusedVariables false
set_option linter.unusedSimpArgs false
namespace Go.Proofs.Ytihpjalbdkiecaa
open Go.RowKit

/-- The world with a mark's box. -/
abbrev boxM (w : World) (id : Int) (nm : ByteArray) (av : Value) : World := w.alloc (.cells #[.int .i64 id, .string nm, av] 27)
theorem boxM_size (w : World) (id : Int) (nm : ByteArray) (av : Value) : (boxM w id nm av).heap.size = w.heap.size + 1 := by simp
theorem boxM_cells (w : World) (id : Int) (nm : ByteArray) (av : Value) {w1 : World} (b1 : Below (w.heap.size + 1) (boxM w id nm av) w1) :
    w1.cell? ⟨w.heap.size, 0, none⟩ = some (.int .i64 id) ∧ w1.cell? ⟨w.heap.size, 1, none⟩ = some (.string nm) ∧ w1.cell? ⟨w.heap.size, 2, none⟩ = some av := by
  refine ⟨?_, ?_, ?_⟩
  all_goals
    rw [b1.cell (by simp)]
    simp [go_sem]
theorem boxM_below (w : World) (id : Int) (nm : ByteArray) (av : Value) {w1 : World} (b1 : Below (w.heap.size + 1) (boxM w id nm av) w1) : Below w.heap.size w w1 := (below_alloc w _).trans (b1.mono (Nat.le_succ _))

set_option maxHeartbeats 2000000 in
theorem rinsert_pos (v : Value) (l : List MV) (hl : l.length ≤ 100000) (z z0 : Int) (hz : z = if z0 < 0 then 0 else z0) (m : MV) (w : World) (hM : RowM w v l) (hOk : OkM w l) (hm : IsQ w m.av m.aa) :
    Calls Try.prog 22 #[v, .int .i64 z0, .agg #[.int .i64 m.id, .string m.nm, m.av]] w fun e w' => (∃ v', e = .returned v' ∧ NewM w.heap.size w' v' (insertL l z m)) ∧ Below w.heap.size w w' := by
  obtain ⟨a, c, rfl⟩ := rowM_form hM
  obtain ⟨ma, mc, hma⟩ := isQ_form hm
  have HM := hide hM
  have HOK := hide hOk
  clear hM hOk hm
  have HO := hide (owns_empty (boxM w m.id m.nm m.av))
  have BA : Hid (Below (w.heap.size + 1) (boxM w m.id m.nm m.av) ((boxM w m.id m.nm m.av).alloc (.cells #[] 27))) := hide (by
    have := below_alloc (boxM w m.id m.nm m.av) (.cells #[] 27)
    rw [boxM_size] at this
    exact this)
  rw [boxM_size] at HO
  have HBX := hide (fun w1 (b : Below (w.heap.size + 1) (boxM w m.id m.nm m.av) w1) => And.intro (boxM_below w _ _ _ b) (boxM_cells w m.id m.nm m.av b))
  have HAPm := hide (fun W n v l' h1 h2 h3 => append_mark W (w.heap.size + 1) n v l' m ma mc hma h1 h2 h3)
  have HPH := hide (fun k hk h => putK_here l z m k hk h)
  have HPO := hide (fun k hk h => putK_other l z m k hk h)
  have HPE := hide (putK_end l z m)
  have HPM := hide (putK_mid l z m)
  have HP0 : Hid (putK l z m 0 = []) := hide rfl
  have hz0 : 0 ≤ z := by rw [hz]; split <;> omega
  rw [hma] at HO BA HBX HAPm ⊢
  generalize m.id = id at *
  generalize m.nm = nm at *
  generalize m.aa.length = ml at *
  generalize putK l z m = PK at *
  generalize insertL l z m = IL at *
  clear hma
  have hz1 : z0 < 0 ∧ z = 0 ∨ ¬ (z0 < 0) ∧ z = z0 := by
    rw [hz]
    by_cases h : z0 < 0
    · exact .inl ⟨h, if_pos h⟩
    · exact .inr ⟨h, if_neg h⟩
  clear hz
  obtain ⟨N, hNl⟩ : ∃ N, N = l.length := ⟨_, rfl⟩
  rw [← hNl] at HM HPE HPM hl ⊢
  have HNL := hide hNl
  clear hNl
  go_enter Try.func22, Try.ntmps22
  rcases hz1 with ⟨hz1, hz2⟩ | ⟨hz1, hz2⟩
  · subst hz2
    go_wp2
    go_loopw [7, 8] (fun x i wr => ∃ (k n : Nat) (a3 : Option Addr) (c3 : Nat), k ≤ N ∧ x = .slice a3 n c3 ∧ i = .int .i64 (k : Int) ∧ Hid (n ≤ 2 * k) ∧ Hid (wr.ownsRow (w.heap.size + 1) 27 3 (.slice a3 n c3) n (markCells (PK k))) ∧ Hid (Below (w.heap.size + 1) (boxM w id nm (.slice ma ml mc)) wr)) (fun _ i _ => N - (intOf i).toNat)
    case atStart => exact ⟨0, 0, _, _, Nat.zero_le _, rfl, rfl, hide (by omega), hide (by rw [HP0.out]; exact HO.out), BA⟩
    case round =>
      obtain ⟨k, n, a3, c3, hk, rfl, rfl, HN, HR, BW⟩ := hrel
      have hsz : w.heap.size + 1 ≤ wr.heap.size := by have := BW.out.size; rw [boxM_size] at this; exact this
      obtain ⟨bb, d0, d1, d2⟩ := HBX.out _ BW.out
      by_cases hltN : k < N
      · have hlt : k < l.length := by rw [← HNL.out]; exact hltN
        have hlt2 : (k : Int) < N := by omega
        obtain ⟨qa, qc, hqa⟩ := isQ_form (HOK.out.at_ k hlt)
        by_cases hkz : (k : Int) = 0
        · have hkz2 : ((k : Int) == 0) = true := beq_iff_eq.2 hkz
          obtain ⟨v1, w1, hr1, ho1, hb1⟩ := HAPm.out wr n (.slice a3 n c3) (PK k) HR.out (by have := HN.out; omega) hsz
          obtain ⟨a4, c4, rfl⟩ := owns_form ho1
          have B1 := hide (BW.out.trans hb1)
          have hsz1 : w.heap.size + 1 ≤ w1.heap.size := Nat.le_trans hsz hb1.size
          obtain ⟨b, o, rfl, c0, c1, c2⟩ := (HM.out.below (HBX.out _ B1.out).1).get k hlt
          obtain ⟨v2, w2, hr2, ho2, hb2⟩ := append_mark w1 (w.heap.size + 1) (n + 1) (.slice a4 (n + 1) c4) (PK k ++ [m]) l[k] qa qc hqa ho1 (by have := HN.out; omega) hsz1
          obtain ⟨a5, c5, rfl⟩ := owns_form ho2
          rw [← HPH.out k hlt hkz] at ho2
          rw [hqa] at c2 hr2
          generalize l[k].id = id' at *
          generalize l[k].nm = nm' at *
          generalize l[k].aa.length = ql at *
          have HRUN1 := hide hr1
          have HRUN2 := hide hr2
          have HO2 := hide ho2
          have B2 := hide (B1.out.trans hb2)
          clear hr1 hr2 ho1 ho2 hb1 hb2 HR hlt hltN hqa bb hkz hsz hsz1
          go_wp2_with (first | with_reducible refine wpList_append_run rfl _ _ 25 rfl (.slice a3 n c3) (.slice (some ⟨wr.heap.size, 0, none⟩) 1 1) _ w1 rfl rfl HRUN1.out ?_ | with_reducible refine wpList_append_run rfl _ _ 25 rfl (.slice a4 (n + 1) c4) (.slice (some ⟨w1.heap.size, 0, none⟩) 1 1) _ w2 rfl rfl HRUN2.out ?_)
          go_roundw
          case rel => exact ⟨k + 1, n + 1 + 1, a5, c5, by omega, rfl, by go_num, hide (by have := HN.out; omega), HO2, B2⟩
          case measure => simp [intOf]; omega
        · have hkz2 := ne_int (k : Int) 0 hkz
          obtain ⟨b, o, rfl, c0, c1, c2⟩ := (HM.out.below bb).get k hlt
          obtain ⟨v2, w2, hr2, ho2, hb2⟩ := append_mark wr (w.heap.size + 1) n (.slice a3 n c3) (PK k) l[k] qa qc hqa HR.out (by have := HN.out; omega) hsz
          obtain ⟨a5, c5, rfl⟩ := owns_form ho2
          rw [← HPO.out k hlt hkz] at ho2
          rw [hqa] at c2 hr2
          generalize l[k].id = id' at *
          generalize l[k].nm = nm' at *
          generalize l[k].aa.length = ql at *
          have HRUN2 := hide hr2
          have HO2 := hide ho2
          have B2 := hide (BW.out.trans hb2)
          clear hr2 ho2 hb2 HR hlt hltN hqa bb hkz hsz
          go_wp2_with (with_reducible refine wpList_append_run rfl _ _ 25 rfl (.slice a3 n c3) (.slice (some ⟨wr.heap.size, 0, none⟩) 1 1) _ w2 rfl rfl HRUN2.out ?_)
          go_roundw
          case rel => exact ⟨k + 1, n + 1, a5, c5, by omega, rfl, by go_num, hide (by have := HN.out; omega), HO2, B2⟩
          case measure => simp [intOf]; omega
      · obtain rfl : k = N := by omega
        have hlt2 : ¬ (k : Int) < k := by omega
        by_cases hend : (k : Int) ≤ 0
        · obtain ⟨v1, w1, hr1, ho1, hb1⟩ := HAPm.out wr n (.slice a3 n c3) (PK k) HR.out (by have := HN.out; omega) hsz
          obtain ⟨a4, c4, rfl⟩ := owns_form ho1
          rw [HPE.out hend] at ho1
          have B1 := hide (BW.out.trans hb1)
          have HRUN1 := hide hr1
          have HN2 := hide ((owns_new ho1).mono (Nat.le_succ _))
          clear hr1 ho1 hb1 HR bb hsz hltN
          go_wp2_with (with_reducible refine wpList_append_run rfl _ _ 25 rfl (.slice a3 n c3) (.slice (some ⟨wr.heap.size, 0, none⟩) 1 1) _ w1 rfl rfl HRUN1.out ?_)
          go_ret
          exact ⟨⟨_, rfl, HN2.out⟩, (HBX.out _ B1.out).1⟩
        · have HN2 := hide ((owns_new HR.out).mono (Nat.le_succ _))
          rw [HPM.out hz0 (by omega)] at HN2
          clear HR hsz hltN
          go_wp2
          go_ret
          exact ⟨⟨_, rfl, HN2.out⟩, bb⟩
  · subst hz2
    go_wp2
    go_loopw [7, 8] (fun x i wr => ∃ (k n : Nat) (a3 : Option Addr) (c3 : Nat), k ≤ N ∧ x = .slice a3 n c3 ∧ i = .int .i64 (k : Int) ∧ Hid (n ≤ 2 * k) ∧ Hid (wr.ownsRow (w.heap.size + 1) 27 3 (.slice a3 n c3) n (markCells (PK k))) ∧ Hid (Below (w.heap.size + 1) (boxM w id nm (.slice ma ml mc)) wr)) (fun _ i _ => N - (intOf i).toNat)
    case atStart => exact ⟨0, 0, _, _, Nat.zero_le _, rfl, rfl, hide (by omega), hide (by rw [HP0.out]; exact HO.out), BA⟩
    case round =>
      obtain ⟨k, n, a3, c3, hk, rfl, rfl, HN, HR, BW⟩ := hrel
      have hsz : w.heap.size + 1 ≤ wr.heap.size := by have := BW.out.size; rw [boxM_size] at this; exact this
      obtain ⟨bb, d0, d1, d2⟩ := HBX.out _ BW.out
      by_cases hltN : k < N
      · have hlt : k < l.length := by rw [← HNL.out]; exact hltN
        have hlt2 : (k : Int) < N := by omega
        obtain ⟨qa, qc, hqa⟩ := isQ_form (HOK.out.at_ k hlt)
        by_cases hkz : (k : Int) = z
        · have hkz2 : ((k : Int) == z) = true := beq_iff_eq.2 hkz
          obtain ⟨v1, w1, hr1, ho1, hb1⟩ := HAPm.out wr n (.slice a3 n c3) (PK k) HR.out (by have := HN.out; omega) hsz
          obtain ⟨a4, c4, rfl⟩ := owns_form ho1
          have B1 := hide (BW.out.trans hb1)
          have hsz1 : w.heap.size + 1 ≤ w1.heap.size := Nat.le_trans hsz hb1.size
          obtain ⟨b, o, rfl, c0, c1, c2⟩ := (HM.out.below (HBX.out _ B1.out).1).get k hlt
          obtain ⟨v2, w2, hr2, ho2, hb2⟩ := append_mark w1 (w.heap.size + 1) (n + 1) (.slice a4 (n + 1) c4) (PK k ++ [m]) l[k] qa qc hqa ho1 (by have := HN.out; omega) hsz1
          obtain ⟨a5, c5, rfl⟩ := owns_form ho2
          rw [← HPH.out k hlt hkz] at ho2
          rw [hqa] at c2 hr2
          generalize l[k].id = id' at *
          generalize l[k].nm = nm' at *
          generalize l[k].aa.length = ql at *
          have HRUN1 := hide hr1
          have HRUN2 := hide hr2
          have HO2 := hide ho2
          have B2 := hide (B1.out.trans hb2)
          clear hr1 hr2 ho1 ho2 hb1 hb2 HR hlt hltN hqa bb hkz hsz hsz1
          go_wp2_with (first | with_reducible refine wpList_append_run rfl _ _ 25 rfl (.slice a3 n c3) (.slice (some ⟨wr.heap.size, 0, none⟩) 1 1) _ w1 rfl rfl HRUN1.out ?_ | with_reducible refine wpList_append_run rfl _ _ 25 rfl (.slice a4 (n + 1) c4) (.slice (some ⟨w1.heap.size, 0, none⟩) 1 1) _ w2 rfl rfl HRUN2.out ?_)
          go_roundw
          case rel => exact ⟨k + 1, n + 1 + 1, a5, c5, by omega, rfl, by go_num, hide (by have := HN.out; omega), HO2, B2⟩
          case measure => simp [intOf]; omega
        · have hkz2 := ne_int (k : Int) z hkz
          obtain ⟨b, o, rfl, c0, c1, c2⟩ := (HM.out.below bb).get k hlt
          obtain ⟨v2, w2, hr2, ho2, hb2⟩ := append_mark wr (w.heap.size + 1) n (.slice a3 n c3) (PK k) l[k] qa qc hqa HR.out (by have := HN.out; omega) hsz
          obtain ⟨a5, c5, rfl⟩ := owns_form ho2
          rw [← HPO.out k hlt hkz] at ho2
          rw [hqa] at c2 hr2
          generalize l[k].id = id' at *
          generalize l[k].nm = nm' at *
          generalize l[k].aa.length = ql at *
          have HRUN2 := hide hr2
          have HO2 := hide ho2
          have B2 := hide (BW.out.trans hb2)
          clear hr2 ho2 hb2 HR hlt hltN hqa bb hkz hsz
          go_wp2_with (with_reducible refine wpList_append_run rfl _ _ 25 rfl (.slice a3 n c3) (.slice (some ⟨wr.heap.size, 0, none⟩) 1 1) _ w2 rfl rfl HRUN2.out ?_)
          go_roundw
          case rel => exact ⟨k + 1, n + 1, a5, c5, by omega, rfl, by go_num, hide (by have := HN.out; omega), HO2, B2⟩
          case measure => simp [intOf]; omega
      · obtain rfl : k = N := by omega
        have hlt2 : ¬ (k : Int) < k := by omega
        by_cases hend : (k : Int) ≤ z
        · obtain ⟨v1, w1, hr1, ho1, hb1⟩ := HAPm.out wr n (.slice a3 n c3) (PK k) HR.out (by have := HN.out; omega) hsz
          obtain ⟨a4, c4, rfl⟩ := owns_form ho1
          rw [HPE.out hend] at ho1
          have B1 := hide (BW.out.trans hb1)
          have HRUN1 := hide hr1
          have HN2 := hide ((owns_new ho1).mono (Nat.le_succ _))
          clear hr1 ho1 hb1 HR bb hsz hltN
          go_wp2_with (with_reducible refine wpList_append_run rfl _ _ 25 rfl (.slice a3 n c3) (.slice (some ⟨wr.heap.size, 0, none⟩) 1 1) _ w1 rfl rfl HRUN1.out ?_)
          go_ret
          exact ⟨⟨_, rfl, HN2.out⟩, (HBX.out _ B1.out).1⟩
        · have HN2 := hide ((owns_new HR.out).mono (Nat.le_succ _))
          rw [HPM.out hz0 (by omega)] at HN2
          clear HR hsz hltN
          go_wp2
          go_ret
          exact ⟨⟨_, rfl, HN2.out⟩, bb⟩

theorem rinsert_any (v : Value) (l : List MV) (hl : l.length ≤ 100000) (z : Int) (m : MV) (w : World) (hM : RowM w v l) (hOk : OkM w l) (hm : IsQ w m.av m.aa) :
    Calls Try.prog 22 #[v, .int .i64 z, .agg #[.int .i64 m.id, .string m.nm, m.av]] w fun e w' => (∃ v', e = .returned v' ∧ NewM w.heap.size w' v' (insertL l z m)) ∧ Below w.heap.size w w' := by
  have h := rinsert_pos v l hl (if z < 0 then 0 else z) z rfl m w hM hOk hm
  have e : insertL l (if z < 0 then 0 else z) m = insertL l z m := by
    split
    · rename_i h; exact (insert_neg l z m h).symm
    · rfl
  rw [e] at h
  exact h
end Go.Proofs.Ytihpjalbdkiecaa
