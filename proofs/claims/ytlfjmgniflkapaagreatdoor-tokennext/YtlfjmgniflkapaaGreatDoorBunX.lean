import Derived.Test.YtlfjmgniflkapaaGreatDoorBunW
import Derived.Test.YtlfjmgniflkapaaGreatDoorTokD
import Derived.BigQuiet
import Derived.Deep.QuietTactic
import Derived.Maps.AppendAt
import Derived.Test.YtlfjmgniflkapaaGreatDoorAllL
/- What the document's own Next answers; nothing that was there is written. -/
set_option linter.unusedVariables false
set_option linter.unusedSimpArgs false
namespace Go.Proofs.YtlfjmgniflkapaaGreatDoor
open Go.RowKit

set_option maxHeartbeats 1000000 in
theorem next_out (s n : ByteArray) (z mode : Int) (f : Bool) (hz : z < 0 ∨ (s.size : Int) ≤ z) (w : World) :
    Calls Tryz.prog 7 #[.string s, .int .i64 z, .int .i64 mode, .string n, .bool f] w fun e w' => TokAt w w' e s ({ kind := 0 }, []) ∧ Below w.heap.size w w' := by
  by_cases h0 : z < 0
  · clear hz
    go_enter Tryz.func7, Tryz.ntmps7
    go_wp2
    refine bodyPost_ret (v := .tuple #[tokV { kind := 0 } (.slice none 0 0), .int .i64 (s.size : Int)]) ?_ rfl ⟨TokAt.plain rfl rfl, below_alloc w _⟩
    rw [results_cell_tmp rfl]
    go_simp
    rfl
  · have h1 : (s.size : Int) ≤ z := hz.resolve_left h0
    clear hz
    go_enter Tryz.func7, Tryz.ntmps7
    go_wp2
    refine bodyPost_ret (v := .tuple #[tokV { kind := 0 } (.slice none 0 0), .int .i64 (s.size : Int)]) ?_ rfl ⟨TokAt.plain rfl rfl, below_alloc w _⟩
    rw [results_cell_tmp rfl]
    go_simp
    rfl
set_option maxHeartbeats 1000000 in
theorem next_plain (s n : ByteArray) (hs : s.size ≤ 100000) (p : Nat) (hp : p < s.size) (f : Bool) (w : World) :
    Calls Tryz.prog 7 #[.string s, .int .i64 (p : Int), .int .i64 3, .string n, .bool f] w fun e w' => TokAt w w' e s ({ kind := 1, text := s.data.toList.drop p }, []) ∧ Below w.heap.size w w' := by
  have d0 : ¬ (p : Int) < 0 := by omega
  have d1 : ¬ (s.size : Int) ≤ p := by omega
  have hx : s.extract p s.size = ⟨(s.data.toList.drop p).toArray⟩ := str_of _ _ (by rw [Lib.extract_data, List.take_of_length_le (by rw [List.length_drop, ← size_list]; omega)])
  generalize s.data.toList.drop p = T at *
  have HX := hide hx
  clear hx
  go_enter Tryz.func7, Tryz.ntmps7
  go_wp2
  refine bodyPost_ret (v := .tuple #[tokV { kind := 1, text := T } (.slice none 0 0), .int .i64 (s.size : Int)]) ?_ rfl ⟨TokAt.plain rfl rfl, below_alloc w _⟩
  rw [results_cell_tmp rfl]
  go_simp
  rw [HX.out]
  rfl
set_option maxHeartbeats 1000000 in
theorem next_data (s n : ByteArray) (hs : s.size ≤ 100000) (p : Nat) (hp : p < s.size) (mode : Int) (h3 : mode ≠ 3) (h2 : mode ≠ 2) (h1 : mode ≠ 1) (f : Bool) (w : World) :
    Calls Tryz.prog 7 #[.string s, .int .i64 (p : Int), .int .i64 mode, .string n, .bool f] w fun e w' => TokAt w w' e s (dataL f (s.data.toList.drop p)) ∧ Below w.heap.size w w' := by
  have d0 : ¬ (p : Int) < 0 := by omega
  have d1 : ¬ (s.size : Int) ≤ p := by omega
  have e3 : (mode == 3) = false := beq_eq_false_iff_ne.2 h3
  have e2 : (mode == 2) = false := beq_eq_false_iff_ne.2 h2
  have e1 : (mode == 1) = false := beq_eq_false_iff_ne.2 h1
  have n2 : (mode != 2) = true := by simpa using h2
  have n1 : (mode != 1) = true := by simpa using h1
  have HL := hide (data_any s hs p (by omega) f)
  generalize dataL f (s.data.toList.drop p) = RR at *
  go_enter Tryz.func7, Tryz.ntmps7
  go_wp2_with fail
  refine (HL.out _).mono ?_
  rintro e w1 ⟨⟨sv, hA, hob, rfl⟩, b1⟩
  have bb := b1
  obtain ⟨hcell, hfz⟩ := bcell bb
  have hz : w.heap.size < w1.heap.size := by have := bb.size; simp at this; omega
  have HBB := hide bb
  have HA := hide hA
  have hob2 : ∀ k, sv.ownBlock = some k → w.heap.size + 1 ≤ k := fun k hk => by have := hob k hk; simp at this; omega
  have HOB := hide hob2
  obtain ⟨sa, sn, sc, rfl⟩ : ∃ a n c, sv = .slice a n c := by
    rcases hA with ⟨h, _⟩ | ⟨b, o, cap, h, _⟩
    · exact ⟨_, _, _, h⟩
    · exact ⟨_, _, _, h⟩
  clear b1 hA hob hob2 bb
  unfold tokV
  go_wp2_with fail
  all_goals (try simp only [Exit.inBlock, Exit.then])
  refine bodyPost_ret (v := .tuple #[tokV RR.1 (.slice sa sn sc), .int .i64 (s.size - RR.2.length : Nat)]) ?_ rfl ⟨⟨.slice sa sn sc, ?_, (fun k hk => by have := HOB.out k hk; omega), rfl⟩, ?_⟩
  · rw [results_cell_tmp rfl]
    go_simp
    rfl
  · have hn : ∀ k, (Value.slice sa sn sc).ownBlock = some k → k ≠ w.heap.size := fun k hk => by have := HOB.out k hk; omega
    exact ((((HA.out.set _ _ hn).set _ _ hn).set _ _ hn).set _ _ hn).set _ _ hn
  · exact below_set5 _ HBB.out _ _ _ _ _


set_option maxHeartbeats 2000000 in
theorem next_raw2 (s n : ByteArray) (hs : s.size ≤ 100000) (hn : n.size ≤ 100000) (p : Nat) (hp : p < s.size) (f : Bool) (w : World) :
    Calls Tryz.prog 7 #[.string s, .int .i64 (p : Int), .int .i64 2, .string n, .bool f] w fun e w' => TokAt w w' e s (if stopB n.data.toList (s.data.toList.drop p) then endedL (s.data.toList.drop (p + 2)) true else ({ kind := 1, text := (spanS n.data.toList (s.data.toList.drop p)).1 }, (spanS n.data.toList (s.data.toList.drop p)).2)) ∧ Below w.heap.size w w' := by
  have d0 : ¬ (p : Int) < 0 := by omega
  have d1 : ¬ (s.size : Int) ≤ p := by omega
  have HS := hide (fun k (hk : k ≤ s.size) => stop_any s n hs hn k hk)
  cases hB : stopB n.data.toList (s.data.toList.drop p) with
  | true =>
    rw [if_pos rfl]
    have hp2 : p + 2 ≤ s.size := by
      by_cases h : p + 2 + n.size < s.size
      · omega
      · rw [stop_out s n p h] at hB
        exact absurd hB (by decide)
    have Q := hide (HS.out p (by omega))
    rw [hB] at Q
    have HL := hide (stopped4 s hs (p + 2) hp2)
    generalize endedL (s.data.toList.drop (p + 2)) true = RR at *
    clear hB HS
    go_enter Tryz.func7, Tryz.ntmps7
    go_wp2_with fail
    refine (Q.out _).mono ?_
    rintro e wr ⟨rfl, b0⟩
    have HBW := hide b0
    clear b0
    go_wp2_with fail
    refine (HL.out _).mono ?_
    rintro e w1 ⟨⟨sv, hA, hob, rfl⟩, b1⟩
    have hsz := HBW.out.size
    have bb := HBW.out.trans (b1.mono hsz)
    obtain ⟨hcell, hfz⟩ := bcell bb
    have hz : w.heap.size < w1.heap.size := by have := bb.size; simp at this; omega
    have HBB := hide bb
    have HA := hide hA
    have hob2 : ∀ k, sv.ownBlock = some k → w.heap.size + 1 ≤ k := fun k hk => by have := hob k hk; simp at hsz; omega
    have HOB := hide hob2
    obtain ⟨sa, sn, sc, rfl⟩ : ∃ a n c, sv = .slice a n c := by
      rcases hA with ⟨h, _⟩ | ⟨b, o, cap, h, _⟩
      · exact ⟨_, _, _, h⟩
      · exact ⟨_, _, _, h⟩
    clear b1 hA hob hob2 bb hsz
    unfold tokV
    go_wp2_with fail
    all_goals (try simp only [Exit.inBlock, Exit.then])
    refine bodyPost_ret (v := .tuple #[tokV RR.1 (.slice sa sn sc), .int .i64 (s.size - RR.2.length : Nat)]) ?_ rfl ⟨⟨.slice sa sn sc, ?_, (fun k hk => by have := HOB.out k hk; omega), rfl⟩, ?_⟩
    · rw [results_cell_tmp rfl]
      go_simp
      rfl
    · have hn : ∀ k, (Value.slice sa sn sc).ownBlock = some k → k ≠ w.heap.size := fun k hk => by have := HOB.out k hk; omega
      exact ((((HA.out.set _ _ hn).set _ _ hn).set _ _ hn).set _ _ hn).set _ _ hn
    · exact below_set5 _ HBB.out _ _ _ _ _
  | false =>
  rw [if_neg (by decide)]
  have Q := hide (HS.out p (by omega))
  rw [hB] at Q
  clear hB
  have hap := spanS_app n.data.toList (s.data.toList.drop p)
  have hcut := cut_at s p (by omega) _ _ hap
  have HSTEP := hide (spanS_step n.data.toList s)
  have HLEN : Hid (∀ k, k ≤ s.size → (s.data.toList.drop k).length = s.size - k) := hide (fun k _ => by rw [List.length_drop, ← size_list])
  generalize hV : (spanS n.data.toList (s.data.toList.drop p)).2 = V at *
  have HV := hide hV
  generalize (spanS n.data.toList (s.data.toList.drop p)).1 = T at *
  have HC0 := hide hcut
  clear hV hap hcut
  go_enter Tryz.func7, Tryz.ntmps7
  go_wp2_with fail
  refine (Q.out _).mono ?_
  rintro e w0 ⟨rfl, b0⟩
  have HB0 := hide b0
  clear b0
  go_wp2
  go_loopw [12] (fun te wk => ∃ k : Nat, p ≤ k ∧ k ≤ s.size ∧ te = .int .i64 (k : Int) ∧ Below (w.alloc (.cells #[.int .i64 0, .string ⟨#[]⟩, .slice none 0 0, .bool false, .string ⟨#[]⟩] 29)).heap.size (w.alloc (.cells #[.int .i64 0, .string ⟨#[]⟩, .slice none 0 0, .bool false, .string ⟨#[]⟩] 29)) wk ∧ Hid ((spanS n.data.toList (s.data.toList.drop k)).2 = V)) (fun te _ => s.size - (intOf te).toNat)
  case atStart => exact ⟨p, Nat.le_refl _, by omega, rfl, HB0.out, HV⟩
  case round =>
    obtain ⟨k, hpk, hk, rfl, bk, HR⟩ := hrel
    have HBK0 := hide bk
    clear bk
    by_cases hlt : k < s.size
    · have hst := HSTEP.out k hlt
      rw [HR.out] at hst
      have hlt2 : (k : Int) < s.size := by omega
      have HQ := hide (HS.out k hk)
      have HST := hide hst
      clear hst HR
      generalize stopB n.data.toList (s.data.toList.drop k) = B at *
      go_wp2_with fail
      refine (HQ.out _).mono ?_
      rintro e wk ⟨rfl, b1⟩
      have HBK := hide (HBK0.out.trans (b1.mono HBK0.out.size))
      clear b1
      cases B
      · have HR2 : Hid ((spanS n.data.toList (s.data.toList.drop (k + 1))).2 = V) := hide (by rw [HST.out]; rfl)
        clear HST
        go_wp2
        go_roundw
        case rel => exact ⟨k + 1, by omega, by omega, by go_num, HBK.out, HR2⟩
        case measure => simp [intOf]; omega
      · have hNN : s.size - V.length = k := by
          have := HST.out
          rw [if_pos rfl] at this
          rw [this, HLEN.out k hk]
          omega
        have HNN := hide hNN
        have HC := HC0
        rw [hNN] at HC
        clear HST hNN HC0 HSTEP HLEN HV
        obtain ⟨hcell, hfz⟩ := bcell HBK.out
        have hz : w.heap.size < wk.heap.size := by have := HBK.out.size; simp at this; omega
        go_wp2
        all_goals (try simp only [Exit.inBlock, Exit.then])
        refine bodyPost_ret (v := .tuple #[tokV { kind := 1, text := T } (.slice none 0 0), .int .i64 (k : Int)]) ?_ rfl ⟨TokAt.plain rfl (by rw [HNN.out]), below_set5 _ HBK.out _ _ _ _ _⟩
        rw [results_cell_tmp rfl]
        go_simp
        rw [HC.out.1]
        rfl
    · have hNN : s.size - V.length = k := by
        have := HR.out
        rw [drop_end s k (by omega)] at this
        rw [← this]
        simp only [spanS, List.length_nil]
        omega
      have hlt2 : ¬ (k : Int) < s.size := by omega
      have HNN := hide hNN
      have HC := HC0
      rw [hNN] at HC
      have HBK := HBK0
      clear HR hNN HC0 HSTEP HLEN HV
      obtain ⟨hcell, hfz⟩ := bcell HBK.out
      have hz : w.heap.size < wr.heap.size := by have := HBK.out.size; simp at this; omega
      go_wp2
      all_goals (try simp only [Exit.inBlock, Exit.then])
      refine bodyPost_ret (v := .tuple #[tokV { kind := 1, text := T } (.slice none 0 0), .int .i64 (k : Int)]) ?_ rfl ⟨TokAt.plain rfl (by rw [HNN.out]), below_set5 _ HBK.out _ _ _ _ _⟩
      rw [results_cell_tmp rfl]
      go_simp
      rw [HC.out.1]
      rfl

set_option maxHeartbeats 2000000 in
theorem next_raw1 (s n : ByteArray) (hs : s.size ≤ 100000) (hn : n.size ≤ 100000) (p : Nat) (hp : p < s.size) (f : Bool) (w : World) :
    Calls Tryz.prog 7 #[.string s, .int .i64 (p : Int), .int .i64 1, .string n, .bool f] w fun e w' => TokAt w w' e s (if stopB n.data.toList (s.data.toList.drop p) then endedL (s.data.toList.drop (p + 2)) true else ({ kind := 1, text := decL false (spanS n.data.toList (s.data.toList.drop p)).1 }, (spanS n.data.toList (s.data.toList.drop p)).2)) ∧ Below w.heap.size w w' := by
  have d0 : ¬ (p : Int) < 0 := by omega
  have d1 : ¬ (s.size : Int) ≤ p := by omega
  have HS := hide (fun k (hk : k ≤ s.size) => stop_any s n hs hn k hk)
  cases hB : stopB n.data.toList (s.data.toList.drop p) with
  | true =>
    rw [if_pos rfl]
    have hp2 : p + 2 ≤ s.size := by
      by_cases h : p + 2 + n.size < s.size
      · omega
      · rw [stop_out s n p h] at hB
        exact absurd hB (by decide)
    have Q := hide (HS.out p (by omega))
    rw [hB] at Q
    have HL := hide (stopped4 s hs (p + 2) hp2)
    generalize endedL (s.data.toList.drop (p + 2)) true = RR at *
    clear hB HS
    go_enter Tryz.func7, Tryz.ntmps7
    go_wp2_with fail
    refine (Q.out _).mono ?_
    rintro e wr ⟨rfl, b0⟩
    have HBW := hide b0
    clear b0
    go_wp2_with fail
    refine (HL.out _).mono ?_
    rintro e w1 ⟨⟨sv, hA, hob, rfl⟩, b1⟩
    have hsz := HBW.out.size
    have bb := HBW.out.trans (b1.mono hsz)
    obtain ⟨hcell, hfz⟩ := bcell bb
    have hz : w.heap.size < w1.heap.size := by have := bb.size; simp at this; omega
    have HBB := hide bb
    have HA := hide hA
    have hob2 : ∀ k, sv.ownBlock = some k → w.heap.size + 1 ≤ k := fun k hk => by have := hob k hk; simp at hsz; omega
    have HOB := hide hob2
    obtain ⟨sa, sn, sc, rfl⟩ : ∃ a n c, sv = .slice a n c := by
      rcases hA with ⟨h, _⟩ | ⟨b, o, cap, h, _⟩
      · exact ⟨_, _, _, h⟩
      · exact ⟨_, _, _, h⟩
    clear b1 hA hob hob2 bb hsz
    unfold tokV
    go_wp2_with fail
    all_goals (try simp only [Exit.inBlock, Exit.then])
    refine bodyPost_ret (v := .tuple #[tokV RR.1 (.slice sa sn sc), .int .i64 (s.size - RR.2.length : Nat)]) ?_ rfl ⟨⟨.slice sa sn sc, ?_, (fun k hk => by have := HOB.out k hk; omega), rfl⟩, ?_⟩
    · rw [results_cell_tmp rfl]
      go_simp
      rfl
    · have hn : ∀ k, (Value.slice sa sn sc).ownBlock = some k → k ≠ w.heap.size := fun k hk => by have := HOB.out k hk; omega
      exact ((((HA.out.set _ _ hn).set _ _ hn).set _ _ hn).set _ _ hn).set _ _ hn
    · exact below_set5 _ HBB.out _ _ _ _ _
  | false =>
  rw [if_neg (by decide)]
  have Q := hide (HS.out p (by omega))
  rw [hB] at Q
  clear hB
  have hap := spanS_app n.data.toList (s.data.toList.drop p)
  have hcut := cut_at s p (by omega) _ _ hap
  have hd := rdecode_any ⟨((spanS n.data.toList (s.data.toList.drop p)).1).toArray⟩ (by
    have hl := congrArg List.length hap
    rw [List.length_append, List.length_drop, ← size_list] at hl
    rw [size_list, str_data]
    omega) false
  have hd2 : ∀ w, Calls Tryz.prog 17 #[.string (s.extract p (s.size - (spanS n.data.toList (s.data.toList.drop p)).2.length)), .bool false] w fun e w' => e = .returned (.string ⟨(decL false (spanS n.data.toList (s.data.toList.drop p)).1).toArray⟩) ∧ Below w.heap.size w w' := by
    intro w
    rw [hcut.1]
    exact hd w
  have HSTEP := hide (spanS_step n.data.toList s)
  have HLEN : Hid (∀ k, k ≤ s.size → (s.data.toList.drop k).length = s.size - k) := hide (fun k _ => by rw [List.length_drop, ← size_list])
  generalize hV : (spanS n.data.toList (s.data.toList.drop p)).2 = V at *
  have HV := hide hV
  generalize (spanS n.data.toList (s.data.toList.drop p)).1 = T at *
  have HC0 := hide hcut
  clear hV hap hcut
  have HD0 := hide hd2
  clear hd hd2
  generalize decL false T = X at *
  go_enter Tryz.func7, Tryz.ntmps7
  go_wp2_with fail
  refine (Q.out _).mono ?_
  rintro e w0 ⟨rfl, b0⟩
  have HB0 := hide b0
  clear b0
  go_wp2
  go_loopw [12] (fun te wk => ∃ k : Nat, p ≤ k ∧ k ≤ s.size ∧ te = .int .i64 (k : Int) ∧ Below (w.alloc (.cells #[.int .i64 0, .string ⟨#[]⟩, .slice none 0 0, .bool false, .string ⟨#[]⟩] 29)).heap.size (w.alloc (.cells #[.int .i64 0, .string ⟨#[]⟩, .slice none 0 0, .bool false, .string ⟨#[]⟩] 29)) wk ∧ Hid ((spanS n.data.toList (s.data.toList.drop k)).2 = V)) (fun te _ => s.size - (intOf te).toNat)
  case atStart => exact ⟨p, Nat.le_refl _, by omega, rfl, HB0.out, HV⟩
  case round =>
    obtain ⟨k, hpk, hk, rfl, bk, HR⟩ := hrel
    have HBK0 := hide bk
    clear bk
    by_cases hlt : k < s.size
    · have hst := HSTEP.out k hlt
      rw [HR.out] at hst
      have hlt2 : (k : Int) < s.size := by omega
      have HQ := hide (HS.out k hk)
      have HST := hide hst
      clear hst HR
      generalize stopB n.data.toList (s.data.toList.drop k) = B at *
      go_wp2_with fail
      refine (HQ.out _).mono ?_
      rintro e wk ⟨rfl, b1⟩
      have HBK := hide (HBK0.out.trans (b1.mono HBK0.out.size))
      clear b1
      cases B
      · have HR2 : Hid ((spanS n.data.toList (s.data.toList.drop (k + 1))).2 = V) := hide (by rw [HST.out]; rfl)
        clear HST
        go_wp2
        go_roundw
        case rel => exact ⟨k + 1, by omega, by omega, by go_num, HBK.out, HR2⟩
        case measure => simp [intOf]; omega
      · have hNN : s.size - V.length = k := by
          have := HST.out
          rw [if_pos rfl] at this
          rw [this, HLEN.out k hk]
          omega
        have HNN := hide hNN
        have HC := HC0
        rw [hNN] at HC
        have HD := HD0
        rw [hNN] at HD
        clear HD0
        clear HST hNN HC0 HSTEP HLEN HV
        go_wp2_with fail
        refine (HD.out _).mono ?_
        rintro e wd ⟨rfl, bd⟩
        have bb := HBK.out.trans (bd.mono HBK.out.size)
        obtain ⟨hcell, hfz⟩ := bcell bb
        have hz : w.heap.size < wd.heap.size := by have := bb.size; simp at this; omega
        have HBB := hide bb
        clear bb bd
        go_wp2
        all_goals (try simp only [Exit.inBlock, Exit.then])
        refine bodyPost_ret (v := .tuple #[tokV { kind := 1, text := X } (.slice none 0 0), .int .i64 (k : Int)]) ?_ rfl ⟨TokAt.plain rfl (by rw [HNN.out]), below_set5 _ HBB.out _ _ _ _ _⟩
        rw [results_cell_tmp rfl]
        go_simp
        rfl
    · have hNN : s.size - V.length = k := by
        have := HR.out
        rw [drop_end s k (by omega)] at this
        rw [← this]
        simp only [spanS, List.length_nil]
        omega
      have hlt2 : ¬ (k : Int) < s.size := by omega
      have HNN := hide hNN
      have HC := HC0
      rw [hNN] at HC
      have HD := HD0
      rw [hNN] at HD
      clear HD0
      have HBK := HBK0
      clear HR hNN HC0 HSTEP HLEN HV
      go_wp2_with fail
      refine (HD.out _).mono ?_
      rintro e wd ⟨rfl, bd⟩
      have bb := HBK.out.trans (bd.mono HBK.out.size)
      obtain ⟨hcell, hfz⟩ := bcell bb
      have hz : w.heap.size < wd.heap.size := by have := bb.size; simp at this; omega
      have HBB := hide bb
      clear bb bd
      go_wp2
      all_goals (try simp only [Exit.inBlock, Exit.then])
      refine bodyPost_ret (v := .tuple #[tokV { kind := 1, text := X } (.slice none 0 0), .int .i64 (k : Int)]) ?_ rfl ⟨TokAt.plain rfl (by rw [HNN.out]), below_set5 _ HBB.out _ _ _ _ _⟩
      rw [results_cell_tmp rfl]
      go_simp
      rfl

theorem next_any (s n : ByteArray) (hs : s.size ≤ 100000) (hn : n.size ≤ 100000) (z mode : Int) (f : Bool) (w : World) :
    Calls Tryz.prog 7 #[.string s, .int .i64 z, .int .i64 mode, .string n, .bool f] w fun e w' => TokAt w w' e s (nextZ mode n.data.toList f s.data.toList z) ∧ Below w.heap.size w w' := by
  have hl := size_list s
  by_cases hz : z < 0 ∨ (s.size : Int) ≤ z
  · rw [nextZ_out _ _ _ _ _ (by omega)]
    exact next_out s n z mode f hz w
  · obtain ⟨p, rfl⟩ : ∃ p : Nat, z = (p : Int) := ⟨z.toNat, by omega⟩
    have hp : p < s.size := by omega
    have hne : s.data.toList.drop p ≠ [] := by rw [drop_cons s p hp]; simp
    rw [nextZ_in _ _ _ _ _ (by omega)]
    unfold nextR
    rw [if_neg hne]
    by_cases h3 : mode = 3
    · subst h3
      rw [if_pos rfl]
      exact next_plain s n hs p hp f w
    rw [if_neg h3]
    by_cases h2 : mode = 2
    · subst h2
      rw [if_neg (by omega), List.drop_drop]
      exact next_raw2 s n hs hn p hp f w
    by_cases h1 : mode = 1
    · subst h1
      rw [if_neg (by omega), List.drop_drop]
      exact next_raw1 s n hs hn p hp f w
    rw [if_pos ⟨h2, h1⟩]
    exact next_data s n hs p hp mode h3 h2 h1 f w
end Go.Proofs.YtlfjmgniflkapaaGreatDoor
/- What the document's own Attrs and Same answer; nothing that was there is written. -/
set_option linter.unusedVariables false
set_option linter.unusedSimpArgs false
namespace Go.Proofs.YtlfjmgniflkapaaGreatDoor
open Go.RowKit

set_option maxHeartbeats 1000000 in
theorem attrs_any (va vb : Value) (aa bb : AttrL) (ha : aa.length ≤ 1000000) (hb : bb.length ≤ 1000000) (w : World) (hA : IsA w va aa) (hB : IsA w vb bb) :
    Calls Tryz.prog 18 #[va, vb] w fun e w' => e = .returned (.bool (aa == bb)) ∧ Below w.heap.size w w' := by
  by_cases hl : aa.length = bb.length
  · by_cases h0 : aa = []
    · subst h0
      have hbb : bb = [] := List.eq_nil_of_length_eq_zero hl.symm
      subst hbb
      obtain ⟨a1, c1, rfl⟩ := isA_form hA
      obtain ⟨a2, c2, rfl⟩ := isA_form hB
      simp only [List.length_nil]
      clear hA hB
      go_enter Tryz.func18, Tryz.ntmps18
      go_wp2
      go_loop [5] (fun ti => ti = .int .i64 0) (fun _ => 0)
      case atStart => rfl
      case round =>
        subst hrel
        go_wp2
        go_ret
        exact ⟨rfl, Below.refl _ _⟩
    · have hpos : 0 < aa.length := by
        cases aa with
        | nil => exact absurd rfl h0
        | cons x y => simp
      rcases hA with ⟨_, rfl⟩ | ⟨b1, o1, cap1, rfl, hcap1, hcs1⟩
      · exact absurd rfl h0
      rcases hB with ⟨_, rfl⟩ | ⟨b2, o2, cap2, rfl, hcap2, hcs2⟩
      · exact absurd (List.eq_nil_of_length_eq_zero hl) h0
      have HC1 := hide hcs1
      have HC2 := hide hcs2
      clear hcs1 hcs2
      generalize hR : (aa == bb) = R
      have HR := hide hR
      clear hR
      have hleq : ((aa.length : Int) == (bb.length : Int)) = true := beq_iff_eq.2 (by omega)
      go_enter Tryz.func18, Tryz.ntmps18
      go_wp2
      go_loopw [5] (fun ti wr => ∃ k : Nat, k ≤ aa.length ∧ ti = .int .i64 (k : Int) ∧ Below w.heap.size w wr ∧ Hid (aa.take k = bb.take k)) (fun ti _ => aa.length - (intOf ti).toNat)
      case atStart => exact ⟨0, by omega, rfl, Below.refl _ _, hide rfl⟩
      case round =>
        obtain ⟨k, hk, rfl, bw, HT⟩ := hrel
        have HBW := hide bw
        by_cases hlt : k < aa.length
        · have hlt2 : (k : Int) < aa.length := by omega
          have hlb : k < bb.length := by omega
          have hlb2 : (k : Int) < bb.length := by omega
          obtain ⟨x1, y1⟩ := HC1.out k hlt
          obtain ⟨x2, y2⟩ := HC2.out k hlb
          have r1 := bw.cell (cell_lt x1)
          have r2 := bw.cell (cell_lt y1)
          have r3 := bw.cell (cell_lt x2)
          have r4 := bw.cell (cell_lt y2)
          rw [x1] at r1
          rw [y1] at r2
          rw [x2] at r3
          rw [y2] at r4
          clear x1 y1 x2 y2 bw
          by_cases h1 : aa[k].1 = bb[k].1
          · have g1 : (⟨aa[k].1.toArray⟩ : ByteArray).toList = (⟨bb[k].1.toArray⟩ : ByteArray).toList := by rw [h1]
            by_cases h2 : aa[k].2 = bb[k].2
            · have g2 : (⟨aa[k].2.toArray⟩ : ByteArray).toList = (⟨bb[k].2.toArray⟩ : ByteArray).toList := by rw [h2]
              have HT2 : Hid (aa.take (k + 1) = bb.take (k + 1)) := hide (by
                rw [List.take_succ_eq_append_getElem hlt, List.take_succ_eq_append_getElem hlb, HT.out]
                have : aa[k] = bb[k] := Prod.ext h1 h2
                rw [this])
              clear h1 h2 HT
              generalize (⟨aa[k].1.toArray⟩ : ByteArray) = s1 at *
              generalize (⟨aa[k].2.toArray⟩ : ByteArray) = s2 at *
              generalize (⟨bb[k].1.toArray⟩ : ByteArray) = s3 at *
              generalize (⟨bb[k].2.toArray⟩ : ByteArray) = s4 at *
              go_wp2_with fail
              go_region
              all_goals go_wp2
              all_goals go_roundw
              case rel => exact ⟨k + 1, by omega, by go_num, by first | exact HBW.out.drew | exact HBW.out | exact HBW.out.drew.drew, HT2⟩
              case measure => simp [intOf]; omega
            · have g2 : ¬ (⟨aa[k].2.toArray⟩ : ByteArray).toList = (⟨bb[k].2.toArray⟩ : ByteArray).toList := fun h => h2 (by rw [Lib.toList_data, Lib.toList_data, str_data, str_data] at h; exact h)
              have hx : ¬ aa[k] = bb[k] := fun h => h2 (by rw [h])
              have HF : Hid (R = false) := hide (by
                rw [← HR.out]
                refine beq_eq_false_iff_ne.2 (fun h => hx ?_)
                subst h
                rfl)
              clear h1 h2 hx
              generalize (⟨aa[k].1.toArray⟩ : ByteArray) = s1 at *
              generalize (⟨aa[k].2.toArray⟩ : ByteArray) = s2 at *
              generalize (⟨bb[k].1.toArray⟩ : ByteArray) = s3 at *
              generalize (⟨bb[k].2.toArray⟩ : ByteArray) = s4 at *
              go_wp2_with fail
              go_region
              all_goals go_wp2
              all_goals go_ret
              all_goals exact ⟨ret_bool HF.out.symm, by first | exact HBW.out.drew | exact HBW.out | exact HBW.out.drew.drew⟩
          · have g1 : ¬ (⟨aa[k].1.toArray⟩ : ByteArray).toList = (⟨bb[k].1.toArray⟩ : ByteArray).toList := fun h => h1 (by rw [Lib.toList_data, Lib.toList_data, str_data, str_data] at h; exact h)
            have hx : ¬ aa[k] = bb[k] := fun h => h1 (by rw [h])
            have HF : Hid (R = false) := hide (by
              rw [← HR.out]
              refine beq_eq_false_iff_ne.2 (fun h => hx ?_)
              subst h
              rfl)
            clear h1 hx
            generalize (⟨aa[k].1.toArray⟩ : ByteArray) = s1 at *
            generalize (⟨aa[k].2.toArray⟩ : ByteArray) = s2 at *
            generalize (⟨bb[k].1.toArray⟩ : ByteArray) = s3 at *
            generalize (⟨bb[k].2.toArray⟩ : ByteArray) = s4 at *
            go_wp2_with fail
            go_region
            all_goals go_wp2
            all_goals go_ret
            all_goals exact ⟨ret_bool HF.out.symm, by first | exact HBW.out.drew | exact HBW.out | exact HBW.out.drew.drew⟩
        · have hlt2 : ¬ (k : Int) < aa.length := by omega
          have HF : Hid (R = true) := hide (by
            rw [← HR.out]
            have h := HT.out
            rw [List.take_of_length_le (by omega), List.take_of_length_le (by omega)] at h
            rw [h]
            simp)
          clear HT
          go_wp2
          go_ret
          exact ⟨ret_bool HF.out.symm, HBW.out⟩
  · have hne : (aa == bb) = false := beq_eq_false_iff_ne.2 (fun h => hl (by rw [h]))
    rw [hne]
    obtain ⟨a1, c1, rfl⟩ := isA_form hA
    obtain ⟨a2, c2, rfl⟩ := isA_form hB
    have hleq : ((aa.length : Int) == (bb.length : Int)) = false := beq_eq_false_iff_ne.2 (by omega)
    clear hA hB hne
    go_enter Tryz.func18, Tryz.ntmps18
    go_wp2
    go_ret
    exact ⟨rfl, Below.refl _ _⟩
end Go.Proofs.YtlfjmgniflkapaaGreatDoor
/- What the document's own Same answers of a token and itself: true; nothing that was there is written. -/
set_option linter.unusedVariables false
set_option linter.unusedSimpArgs false
namespace Go.Proofs.YtlfjmgniflkapaaGreatDoor
open Go.RowKit

set_option maxHeartbeats 1000000 in
theorem same_self (t : Tok) (va vb : Value) (ha : t.attrs.length ≤ 1000000) (w : World) (hA : IsA w va t.attrs) (hB : IsA w vb t.attrs) :
    Calls Tryz.prog 8 #[tokV t va, tokV t vb] w fun e w' => e = .returned (.bool true) ∧ Below w.heap.size w w' := by
  have HAT := hide (fun W (hb0 : Below w.heap.size w W) => attrs_any va vb t.attrs t.attrs ha ha W (hA.below hb0) (hB.below hb0))
  obtain ⟨a1, c1, rfl⟩ := isA_form hA
  obtain ⟨a2, c2, rfl⟩ := isA_form hB
  clear hA hB
  unfold tokV
  generalize (⟨t.name.toArray⟩ : ByteArray) = x1 at *
  generalize (⟨t.text.toArray⟩ : ByteArray) = x2 at *
  generalize t.closed = cl at *
  generalize t.kind = kd at *
  go_enter Tryz.func8, Tryz.ntmps8
  go_wp2_with fail
  refine (HAT.out _ ((below_alloc w _).alloc (below_alloc w _).size _)).mono ?_
  rintro e w1 ⟨rfl, b1⟩
  rw [show (t.attrs == t.attrs) = true from by simp]
  obtain ⟨hcell, hfz⟩ := bcell b1
  have hcA := fun o => hcell w.heap.size o (by simp; omega)
  have hcB := fun o => hcell (w.heap.size + 1) o (by simp)
  have HB1 := hide b1
  clear b1 hcell hfz
  go_wp2_with fail
  go_ret
  exact ⟨rfl, ((below_alloc w _).alloc (below_alloc w _).size _).trans (HB1.out.mono (by simp; omega))⟩
end Go.Proofs.YtlfjmgniflkapaaGreatDoor
/- Rows of tokens that the call makes: their cells, and an append to one. -/
set_option linter.unusedVariables false
set_option linter.unusedSimpArgs false
namespace Go.Proofs.YtlfjmgniflkapaaGreatDoor
open Go.RowKit

end Go.Proofs.YtlfjmgniflkapaaGreatDoor
/- What the document's own All answers; nothing that was there is written. -/
set_option linter.unusedVariables false
set_option linter.unusedSimpArgs false
namespace Go.Proofs.YtlfjmgniflkapaaGreatDoor
open Go.RowKit

set_option maxHeartbeats 2000000 in
set_option maxRecDepth 50000 in
theorem all_any (s : ByteArray) (hs : s.size ≤ 100000) (w : World) :
    Calls Tryz.prog 10 #[.string s] w fun e w' => ∃ lv ts, e = .returned lv ∧ ts.map (·.1) = allL s.data.toList ∧ w'.ownsRow w.heap.size 29 5 lv ts.length (tokCells ts) ∧ (∀ p ∈ ts, IsA w' p.2 p.1.attrs) ∧ Below w.heap.size w w' := by
  have hN : ∀ (k : Nat), k ≤ s.size → ∀ w, Calls Tryz.prog 7 #[.string s, .int .i64 (k : Int), .int .i64 0, .string ⟨#[]⟩, .bool false] w fun e w' => TokAt w w' e s (nextR 0 [] false (s.data.toList.drop k)) ∧ Below w.heap.size w w' := by
    intro k hk w
    have h := next_any s ⟨#[]⟩ hs (by decide) (k : Int) 0 false w
    rw [nextZ_le _ _ _ _ _ (by rw [← size_list]; exact hk)] at h
    exact h
  have HN := hide hN
  have HN0 : Hid (∀ w, Calls Tryz.prog 7 #[.string s, .int .i64 0, .int .i64 0, .string ⟨#[]⟩, .bool false] w fun e w' => TokAt w w' e s (nextR 0 [] false s.data.toList) ∧ Below w.heap.size w w') := hide (hN 0 (by omega))
  clear hN
  have hst := allL_step s.data.toList
  have hbk := nextR_back 0 [] false s 0 (by omega)
  have hsh := next_short s.data.toList
  rw [List.drop_zero] at hbk
  rw [← size_list] at hsh
  generalize allL s.data.toList = AL at *
  generalize hRR : nextR 0 [] false s.data.toList = RR at *
  have HST := hide hst
  have HBK := hide hbk
  have HSH := hide hsh
  clear hst hbk hsh hRR
  go_enter Tryz.func10, Tryz.ntmps10
  go_wp2_with fail
  refine (HN0.out _).mono ?_
  rintro e w1 ⟨⟨sv, hA, hob, rfl⟩, b1⟩
  have HA := hide hA
  have HOB := hide hob
  have HB1 := hide b1
  obtain ⟨sa, sn, sc, rfl⟩ : ∃ a n c, sv = .slice a n c := by
    rcases hA with ⟨h, _⟩ | ⟨b, o, cap, h, _⟩
    · exact ⟨_, _, _, h⟩
    · exact ⟨_, _, _, h⟩
  clear hA hob b1
  have hGs : w.heap.size + 1 ≤ w1.heap.size := by have := HB1.out.size; simp at this; omega
  have HS0 : Hid (AllS w (w1.alloc (.cells #[.int .i64 (RR.1.kind : Int), .string ⟨RR.1.name.toArray⟩, .slice sa sn sc, .bool RR.1.closed, .string ⟨RR.1.text.toArray⟩] 29)) w1.heap.size (.slice (some ⟨w.heap.size, 0, none⟩) 0 0) [] RR.1 (.slice sa sn sc)) := by
    refine hide ?_
    have hbel : Below w.heap.size w w1 := (below_alloc w _).trans (HB1.out.mono (by simp))
    refine { bel := hbel.alloc hbel.size _, lt := hbel.size, lt2 := by simp, cs := fun o => ?_, cf := fun o => by simp, own := ?_, lvG := ?_, att := fun p hp => (by cases hp), att1 := ⟨rfl, HA.out.alloc _, ?_⟩ }
    · rw [World.cell?_alloc_mark]
      simp [tokC]
    · exact owns_below (owns_below (World.ownsRow_made (base := w.heap.size) (size := 5) (e := 29) w #[] 0 (Nat.le_refl _) (by unfold maxLen; omega) rfl) HB1.out) (below_alloc w1 _)
    · intro h
      have : w.heap.size = w1.heap.size := Option.some.inj h
      omega
    · rcases att_new HA.out HOB.out with h | h
      · exact .inl h
      · refine .inr fun b hb => ?_
        obtain ⟨x1, x2⟩ := h b hb
        simp at x2
        refine ⟨by simp; omega, by omega, fun e => ?_⟩
        have : w.heap.size = b := Option.some.inj e
        omega
  unfold tokV
  go_wp2_with fail
  generalize hG : w1.heap.size = G at *
  have hk0 := HBK.out.2
  have hkk : RR.1.kind ≠ 0 → 1 ≤ s.size - RR.2.length := fun h => by have := HSH.out h; omega
  have HREL : Hid (AL = ([] : RowL).map (·.1) ++ (if RR.1.kind = 0 then [] else RR.1 :: allL (s.data.toList.drop (s.size - RR.2.length)))) := hide (by rw [HST.out, HBK.out.1]; rfl)
  have HKK := hide hkk
  clear hkk HST HBK HSH HN0 HA HOB HB1
  go_loopw [3, 5] (fun tl ta wr => ∃ (k : Nat) (ts : RowL) (t : Tok) (sv : Value), ta = .int .i64 (k : Int) ∧ k ≤ s.size ∧ ts.length ≤ k ∧ (t.kind ≠ 0 → ts.length + 1 ≤ k) ∧ AllS w wr G tl ts t sv ∧ Hid (AL = ts.map (·.1) ++ (if t.kind = 0 then [] else t :: allL (s.data.toList.drop k)))) (fun _ ta wr => 2 * (s.size - (intOf ta).toNat) + kindF wr G)
  case atStart => exact ⟨s.size - RR.2.length, [], RR.1, _, rfl, hk0, by simp, fun h => HKK.out h, HS0.out, HREL⟩
  case round =>
    obtain ⟨k, ts, t, sv, rfl, hk, htk, htk2, hS, HL⟩ := hrel
    have HS := hide hS
    have f0 : wr.cell? ⟨G, 0, none⟩ = some (.int .i64 (t.kind : Int)) := hS.cs 0
    by_cases hk0' : t.kind = 0
    · have f00 : wr.cell? ⟨G, 0, none⟩ = some (.int .i64 0) := by rw [f0, hk0']; rfl
      have hAL : AL = ts.map (·.1) := by rw [HL.out, if_pos hk0', List.append_nil]
      have HAL := hide hAL
      clear hS f0 htk2 hAL HL
      go_wp2_with fail
      go_ret
      exact ⟨_, ts, rfl, HAL.out.symm, HS.out.own, fun p hp => (HS.out.att p hp).2.1, HS.out.bel⟩
    · have e0 : ¬ ((t.kind : Int) = 0) := by omega
      have e1 := ne_lit t.kind 0 (by omega)
      obtain ⟨v', w', hr, ho, hb, hkp, hbk⟩ := append_tok wr w.heap.size ts.length u3 ts (t, sv) hS.att1.1 (fun q hq => (hS.att q hq).1) hS.own (by omega) hS.bel.size
      have hr' : (Builtin.append_ #[34, 34] 34 #[u3, .slice (some ⟨wr.heap.size, 0, none⟩) 1 1]).run Tryz.prog (wr.alloc (.cells #[.int .i64 (t.kind : Int), .string ⟨t.name.toArray⟩, sv, .bool t.closed, .string ⟨t.text.toArray⟩] 29)) = .ok v' w' := hr
      have hS2 := hS.push hb (by rw [List.length_append]; exact ho) hkp hbk
      have f1 : wr.cell? ⟨G, 1, none⟩ = some (.string ⟨t.name.toArray⟩) := hS.cs 1
      have f2 : wr.cell? ⟨G, 2, none⟩ = some sv := hS.cs 2
      have f3 : wr.cell? ⟨G, 3, none⟩ = some (.bool t.closed) := hS.cs 3
      have f4 : wr.cell? ⟨G, 4, none⟩ = some (.string ⟨t.text.toArray⟩) := hS.cs 4
      have HR := hide hr'
      have HS2 := hide hS2
      have hkl := htk2 hk0'
      have hAL : AL = (ts ++ [(t, sv)]).map (·.1) ++ allL (s.data.toList.drop k) := by rw [HL.out, if_neg hk0', List.map_append, List.append_assoc]; rfl
      have hst2 := allL_step (s.data.toList.drop k)
      have hbk2 := nextR_back 0 [] false s k hk
      have hsh2 := next_short (s.data.toList.drop k)
      have hsf2 := (nextR_sfx 0 [] false (s.data.toList.drop k)).length_le
      rw [List.length_drop, ← size_list] at hsh2 hsf2
      have HNk := hide (HN.out k hk)
      rw [hst2] at hAL
      generalize nextR 0 [] false (s.data.toList.drop k) = R2 at *
      rw [← hbk2.1] at hAL
      have HAL := hide hAL
      have HSH2 := hide hsh2
      have hk2 := hbk2.2
      clear hr hr' ho hb hkp hbk hS2 hS HL hAL hst2 hbk2 hsh2 htk2
      go_wp2_with (with_reducible refine wpList_append_run rfl _ _ 34 rfl u3 (.slice (some ⟨wr.heap.size, 0, none⟩) 1 1) _ w' rfl rfl HR.out ?_)
      refine (HNk.out _).mono ?_
      rintro e w2 ⟨⟨sv2, hA2, hob2, rfl⟩, b2⟩
      have hS3 := HS2.out.call b2
      have hoc : sv2.oneCell' = true ∧ ∃ a n c, sv2 = .slice a n c := by
        rcases hA2 with ⟨h, _⟩ | ⟨b, o, cap, h, _⟩
        · rw [h]; exact ⟨rfl, _, _, _, rfl⟩
        · rw [h]; exact ⟨rfl, _, _, _, rfl⟩
      have hS4 := hS3.put5 R2.1 sv2 ⟨hoc.1, hA2, by
        rcases att_new hA2 hob2 with h | h
        · exact .inl h
        · refine .inr fun b hb => ?_
          obtain ⟨x1, x2⟩ := h b hb
          have := HS2.out.lt2
          refine ⟨x1, by omega, fun e => ?_⟩
          have := (HS2.out.own.lt b e).2
          omega⟩
      have g0 : w2.cell? ⟨G, 0, none⟩ = some (.int .i64 (t.kind : Int)) := hS3.cs 0
      have g1 : w2.cell? ⟨G, 1, none⟩ = some (.string ⟨t.name.toArray⟩) := hS3.cs 1
      have g2 : w2.cell? ⟨G, 2, none⟩ = some sv := hS3.cs 2
      have g3 : w2.cell? ⟨G, 3, none⟩ = some (.bool t.closed) := hS3.cs 3
      have g4 : w2.cell? ⟨G, 4, none⟩ = some (.string ⟨t.text.toArray⟩) := hS3.cs 4
      have gf := hS3.cf
      have HS4 := hide hS4
      have HF1 : Hid (kindF wr G = 1) := hide (by rw [kindF_of HS.out, if_neg hk0'])
      obtain ⟨_, sa2, sn2, sc2, rfl⟩ := hoc
      clear hS3 hS4 hA2 hob2 b2 f0 f1 f2 f3 f4
      unfold tokV
      go_wp2_with fail
      go_roundw
      case rel => exact ⟨s.size - R2.2.length, ts ++ [(t, sv)], R2.1, _, rfl, hk2, by rw [List.length_append]; simp; omega, fun h => by have := HSH2.out h; rw [List.length_append]; simp; omega, HS4.out, HAL⟩
      case measure =>
        have hf := kindF_of HS4.out
        unfold put5 at hf
        rw [hf, HF1.out]
        simp only [intOf, Int.toNat_natCast]
        by_cases hz : R2.1.kind = 0
        · rw [if_pos hz]
          omega
        · rw [if_neg hz]
          have := HSH2.out hz
          omega
end Go.Proofs.YtlfjmgniflkapaaGreatDoor
/- A tag has no more attributes than there are bytes. No program in it. -/
set_option linter.unusedVariables false
set_option linter.unusedSimpArgs false
namespace Go.Proofs.YtlfjmgniflkapaaGreatDoor

theorem addA_few (bs : List (List UInt8 × List UInt8)) (a : List UInt8 × List UInt8) : (addA bs a).length ≤ bs.length + 1 := by
  unfold addA
  split
  · omega
  · simp
theorem loopT_few (k : Nat) : ∀ bs r x, loopT k bs r = some x → x.1.length ≤ bs.length + r.length := by
  induction k with
  | zero => intro bs r x h; simp [loopT] at h
  | succ k ih =>
    intro bs r x h
    simp only [loopT] at h
    have h0 := dw_le passB r
    cases hd : r.dropWhile passB with
    | nil => rw [hd] at h; simp at h
    | cons c r2 =>
      rw [hd] at h h0
      simp only [List.length_cons] at h0
      simp only at h
      split at h
      · cases h
        simp only
        omega
      · have h1 := dw_le isSp (r2.dropWhile attrB)
        have h2 := dw_le attrB r2
        cases hr : (r2.dropWhile attrB).dropWhile isSp with
        | nil =>
          rw [hr] at h
          have h3 := ih _ _ _ h
          have h4 := addA_few bs (lowerL (c :: r2.takeWhile attrB), [])
          simp only [List.length_nil] at h3
          omega
        | cons d r4 =>
          rw [hr] at h h1
          simp only [List.length_cons] at h1
          simp only at h
          split at h
          · have h3 := ih _ _ _ h
            have h4 := valueL_le (r4.dropWhile isSp)
            have h5 := dw_le isSp r4
            have h6 := addA_few bs (lowerL (c :: r2.takeWhile attrB), (valueL (r4.dropWhile isSp)).1)
            omega
          · have h3 := ih _ _ _ h
            have h6 := addA_few bs (lowerL (c :: r2.takeWhile attrB), [])
            simp only [List.length_cons] at h3
            omega
theorem endedL_few (r : List UInt8) (stop : Bool) : (endedL r stop).1.attrs.length ≤ r.length := by
  unfold endedL tagL
  cases hl : loopT (r.length + 1) [] (r.dropWhile nameB) with
  | none => simp
  | some x =>
    have h := loopT_few _ _ _ _ hl
    have h2 := dw_le nameB r
    cases stop
    · simp only [Option.map_some, Bool.false_eq_true, if_false]
      simp only [List.length_nil] at h
      omega
    · simp
theorem commentL_few (r : List UInt8) : (commentL r).1.attrs = [] := by
  unfold commentL
  split
  · rfl
  · split
    · rfl
    · split <;> rfl
theorem dataK_few (f : Bool) (k : Nat) : ∀ r, (dataK f k r).1.attrs.length ≤ r.length := by
  induction k with
  | zero => intro r; simp [dataK]
  | succ k ih =>
    intro r
    have hE : ∀ j b, (endedL (r.drop j) b).1.attrs.length ≤ r.length := fun j b => by
      have := endedL_few (r.drop j) b
      rw [List.length_drop] at this
      omega
    have hI : ∀ j, (dataK f k (r.drop j)).1.attrs.length ≤ r.length := fun j => by
      have := ih (r.drop j)
      rw [List.length_drop] at this
      omega
    have hF : (dataK f k ((findR [93, 93, 62] (r.drop 9)).2.drop 3)).1.attrs.length ≤ r.length := by
      have h1 := ih ((findR [93, 93, 62] (r.drop 9)).2.drop 3)
      have h2 := findR_le [93, 93, 62] (r.drop 9)
      rw [List.length_drop] at h1 h2
      omega
    simp only [dataK]
    split
    · simp
    split
    · simp
    split
    · exact hI 3
    split
    · split
      · exact hE 2 true
      · simp [otherL]
    split
    · rw [commentL_few]; simp
    split
    · split
      · exact hF
      · simp
    split
    · split
      · simp
      · simp [otherL]
    split
    · simp [otherL]
    · exact hE 1 false
theorem nextR_few (m : Int) (n : List UInt8) (f : Bool) (r : List UInt8) : (nextR m n f r).1.attrs.length ≤ r.length := by
  unfold nextR
  split
  · simp
  split
  · simp
  split
  · exact dataK_few f r.length r
  split
  · have := endedL_few (r.drop 2) true
    rw [List.length_drop] at this
    omega
  · simp
end Go.Proofs.YtlfjmgniflkapaaGreatDoor
