/- What the program's All answers; nothing that was there is written. -/
import Derived.Test.YtlfjmgniflkapaaDoorRdQ
set_option linter.unusedVariables false
set_option linter.unusedSimpArgs false
namespace Go.Proofs.YtlfjmgniflkapaaDoor
open Go.RowKit

set_option maxHeartbeats 2000000 in
set_option maxRecDepth 50000 in
theorem pall_any (s : ByteArray) (hs : s.size ≤ 20000) (w : World) (he : Env w) :
    Calls Tryd.prog 15 #[.string s] w fun e w' => ∃ lv ts, e = .returned lv ∧ ts.map (·.1) = allL s.data.toList ∧ w'.ownsRow w.heap.size 32 5 lv ts.length (tokCells ts) ∧ (∀ p ∈ ts, IsA w' p.2 p.1.attrs) ∧ Below w.heap.size w w' := by
  have hN : ∀ (k : Nat), k ≤ s.size → ∀ w, Env w → Calls Tryd.prog 10 #[.string s, .int .i64 (k : Int), .int .i64 0, .string ⟨#[]⟩, .bool false] w fun e w' => TokAt w w' e s (nextR 0 [] false (s.data.toList.drop k)) ∧ Below w.heap.size w w' := by
    intro k hk w he
    have h := pnext_any s ⟨#[]⟩ hs (by decide) (k : Int) 0 false w he
    rw [nextZ_le _ _ _ _ _ (by rw [← size_list]; exact hk)] at h
    exact h
  have HN := hide hN
  have HN0 : Hid (∀ w, Env w → Calls Tryd.prog 10 #[.string s, .int .i64 0, .int .i64 0, .string ⟨#[]⟩, .bool false] w fun e w' => TokAt w w' e s (nextR 0 [] false s.data.toList) ∧ Below w.heap.size w w') := hide (hN 0 (by omega))
  have HE := hide he
  clear hN he
  have hst := allL_step s.data.toList
  have hbk := nextR_back 0 [] false s 0 (by omega)
  have hsh := next_short s.data.toList
  rw [List.drop_zero] at hbk
  rw [← size_list] at hsh
  generalize allL s.data.toList = AL at *
  generalize hRR : nextR 0 [] false s.data.toList = RR at *
  have HST := hide hst
  have HBK := hide hbk
  have HSH := hide hsh
  clear hst hbk hsh hRR
  go_enter Tryd.func15, Tryd.ntmps15
  go_wp2_with fail
  refine (HN0.out _ HE.out).mono ?_
  rintro e w1 ⟨⟨sv, hA, hob, rfl⟩, b1⟩
  have HA := hide hA
  have HOB := hide hob
  have HB1 := hide b1
  obtain ⟨sa, sn, sc, rfl⟩ : ∃ a n c, sv = .slice a n c := by
    rcases hA with ⟨h, _⟩ | ⟨b, o, cap, h, _⟩
    · exact ⟨_, _, _, h⟩
    · exact ⟨_, _, _, h⟩
  clear hA hob b1
  have HS0 : Hid (AllS w (w1.alloc (.cells #[.int .i64 (RR.1.kind : Int), .string ⟨RR.1.name.toArray⟩, .slice sa sn sc, .bool RR.1.closed, .string ⟨RR.1.text.toArray⟩] 32)) w1.heap.size (.slice none 0 0) [] RR.1 (.slice sa sn sc)) := by
    refine hide ?_
    have hbel : Below w.heap.size w w1 := HB1.out
    refine { bel := hbel.alloc hbel.size _, lt := hbel.size, lt2 := by simp, cs := fun o => ?_, cf := fun o => by simp, own := ?_, lvG := ?_, att := fun p hp => (by cases hp), att1 := ⟨rfl, HA.out.alloc _, ?_⟩ }
    · rw [World.cell?_alloc_mark]
      simp [tokC]
    · exact World.ownsRow_nil _ _ _ _
    · intro h
      cases h
    · rcases att_new HA.out HOB.out with h | h
      · exact .inl h
      · refine .inr fun b hb => ?_
        obtain ⟨x1, x2⟩ := h b hb
        refine ⟨by simp; omega, by omega, fun e => ?_⟩
        cases e
  unfold tokV
  go_wp2_with fail
  generalize hG : w1.heap.size = G at *
  have hk0 := HBK.out.2
  have hkk : RR.1.kind ≠ 0 → 1 ≤ s.size - RR.2.length := fun h => by have := HSH.out h; omega
  have HREL : Hid (AL = ([] : RowL).map (·.1) ++ (if RR.1.kind = 0 then [] else RR.1 :: allL (s.data.toList.drop (s.size - RR.2.length)))) := hide (by rw [HST.out, HBK.out.1]; rfl)
  have HKK := hide hkk
  clear hkk HST HBK HSH HN0 HA HOB HB1
  go_loopw [3, 5] (fun tl ta wr => ∃ (k : Nat) (ts : RowL) (t : Tok) (sv : Value), ta = .int .i64 (k : Int) ∧ k ≤ s.size ∧ ts.length ≤ k ∧ (t.kind ≠ 0 → ts.length + 1 ≤ k) ∧ AllS w wr G tl ts t sv ∧ Hid (AL = ts.map (·.1) ++ (if t.kind = 0 then [] else t :: allL (s.data.toList.drop k)))) (fun _ ta wr => 2 * (s.size - (intOf ta).toNat) + kindF wr G)
  case atStart => exact ⟨s.size - RR.2.length, [], RR.1, _, rfl, hk0, by simp, fun h => HKK.out h, HS0.out, HREL⟩
  case round =>
    obtain ⟨k, ts, t, sv, rfl, hk, htk, htk2, hS, HL⟩ := hrel
    have HS := hide hS
    have f0 : wr.cell? ⟨G, 0, none⟩ = some (.int .i64 (t.kind : Int)) := hS.cs 0
    by_cases hk0' : t.kind = 0
    · have f00 : wr.cell? ⟨G, 0, none⟩ = some (.int .i64 0) := by rw [f0, hk0']; rfl
      have hAL : AL = ts.map (·.1) := by rw [HL.out, if_pos hk0', List.append_nil]
      have HAL := hide hAL
      clear hS f0 htk2 hAL HL
      go_wp2_with fail
      go_ret
      exact ⟨_, ts, rfl, HAL.out.symm, HS.out.own, fun p hp => (HS.out.att p hp).2.1, HS.out.bel⟩
    · have e0 : ¬ ((t.kind : Int) = 0) := by omega
      have e1 := ne_lit t.kind 0 (by omega)
      obtain ⟨v', w', hr, ho, hb, hkp, hbk⟩ := append_tok wr w.heap.size ts.length u3 ts (t, sv) hS.att1.1 (fun q hq => (hS.att q hq).1) hS.own (by omega) hS.bel.size
      have hr' : (Builtin.append_ #[43, 43] 43 #[u3, .slice (some ⟨wr.heap.size, 0, none⟩) 1 1]).run Tryd.prog (wr.alloc (.cells #[.int .i64 (t.kind : Int), .string ⟨t.name.toArray⟩, sv, .bool t.closed, .string ⟨t.text.toArray⟩] 32)) = .ok v' w' := hr
      have hS2 := hS.push hb (by rw [List.length_append]; exact ho) hkp hbk
      have f1 : wr.cell? ⟨G, 1, none⟩ = some (.string ⟨t.name.toArray⟩) := hS.cs 1
      have f2 : wr.cell? ⟨G, 2, none⟩ = some sv := hS.cs 2
      have f3 : wr.cell? ⟨G, 3, none⟩ = some (.bool t.closed) := hS.cs 3
      have f4 : wr.cell? ⟨G, 4, none⟩ = some (.string ⟨t.text.toArray⟩) := hS.cs 4
      have HR := hide hr'
      have HS2 := hide hS2
      have hkl := htk2 hk0'
      have hAL : AL = (ts ++ [(t, sv)]).map (·.1) ++ allL (s.data.toList.drop k) := by rw [HL.out, if_neg hk0', List.map_append, List.append_assoc]; rfl
      have hst2 := allL_step (s.data.toList.drop k)
      have hbk2 := nextR_back 0 [] false s k hk
      have hsh2 := next_short (s.data.toList.drop k)
      have hsf2 := (nextR_sfx 0 [] false (s.data.toList.drop k)).length_le
      rw [List.length_drop, ← size_list] at hsh2 hsf2
      have HNk := hide (fun W (hb : Below w.heap.size w W) => HN.out k hk W (HE.out.below hb))
      rw [hst2] at hAL
      generalize nextR 0 [] false (s.data.toList.drop k) = R2 at *
      rw [← hbk2.1] at hAL
      have HAL := hide hAL
      have HSH2 := hide hsh2
      have hk2 := hbk2.2
      clear hr hr' ho hb hkp hbk hS2 hS HL hAL hst2 hbk2 hsh2 htk2
      go_wp2_with (with_reducible refine wpList_append_run rfl _ _ 43 rfl u3 (.slice (some ⟨wr.heap.size, 0, none⟩) 1 1) _ w' rfl rfl HR.out ?_)
      refine (HNk.out _ HS2.out.bel).mono ?_
      rintro e w2 ⟨⟨sv2, hA2, hob2, rfl⟩, b2⟩
      have hS3 := HS2.out.call b2
      have hoc : sv2.oneCell' = true ∧ ∃ a n c, sv2 = .slice a n c := by
        rcases hA2 with ⟨h, _⟩ | ⟨b, o, cap, h, _⟩
        · rw [h]; exact ⟨rfl, _, _, _, rfl⟩
        · rw [h]; exact ⟨rfl, _, _, _, rfl⟩
      have hS4 := hS3.put5 R2.1 sv2 ⟨hoc.1, hA2, by
        rcases att_new hA2 hob2 with h | h
        · exact .inl h
        · refine .inr fun b hb => ?_
          obtain ⟨x1, x2⟩ := h b hb
          have := HS2.out.lt2
          refine ⟨x1, by omega, fun e => ?_⟩
          have := (HS2.out.own.lt b e).2
          omega⟩
      have g0 : w2.cell? ⟨G, 0, none⟩ = some (.int .i64 (t.kind : Int)) := hS3.cs 0
      have g1 : w2.cell? ⟨G, 1, none⟩ = some (.string ⟨t.name.toArray⟩) := hS3.cs 1
      have g2 : w2.cell? ⟨G, 2, none⟩ = some sv := hS3.cs 2
      have g3 : w2.cell? ⟨G, 3, none⟩ = some (.bool t.closed) := hS3.cs 3
      have g4 : w2.cell? ⟨G, 4, none⟩ = some (.string ⟨t.text.toArray⟩) := hS3.cs 4
      have gf := hS3.cf
      have HS4 := hide hS4
      have HF1 : Hid (kindF wr G = 1) := hide (by rw [kindF_of HS.out, if_neg hk0'])
      obtain ⟨_, sa2, sn2, sc2, rfl⟩ := hoc
      clear hS3 hS4 hA2 hob2 b2 f0 f1 f2 f3 f4
      unfold tokV
      go_wp2_with fail
      go_roundw
      case rel => exact ⟨s.size - R2.2.length, ts ++ [(t, sv)], R2.1, _, rfl, hk2, by rw [List.length_append]; simp; omega, fun h => by have := HSH2.out h; rw [List.length_append]; simp; omega, HS4.out, HAL⟩
      case measure =>
        have hf := kindF_of HS4.out
        unfold put5 at hf
        rw [hf, HF1.out]
        simp only [intOf, Int.toNat_natCast]
        by_cases hz : R2.1.kind = 0
        · rw [if_pos hz]
          omega
        · rw [if_neg hz]
          have := HSH2.out hz
          omega
end Go.Proofs.YtlfjmgniflkapaaDoor
