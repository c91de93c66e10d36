/- What the document's own value answers; nothing that was there is written. -/
import Derived.Test.YtlfjmgniflkapaaGreatDoorWalkD4
set_option linter.unusedVariables false
set_option linter.unusedSimpArgs false
namespace Go.Proofs.YtlfjmgniflkapaaGreatDoor
open Go.RowKit

theorem upto_val : uptoB [62] = valB := by
  funext c
  unfold uptoB valB
  cases h : (c == 62) <;> simp [List.contains, List.elem, h]
theorem upto_name : uptoB [47, 62] = nameB := by
  funext c
  unfold uptoB nameB
  cases h : (c == 62) <;> cases h2 : (c == 47) <;> simp [List.contains, List.elem, h, h2]
theorem upto_attr : uptoB [47, 62, 61] = attrB := by
  funext c
  unfold uptoB attrB
  cases h : (c == 62) <;> cases h2 : (c == 47) <;> cases h3 : (c == 61) <;> simp [List.contains, List.elem, h, h2, h3]
set_option maxHeartbeats 1000000 in
theorem value_any (s : ByteArray) (hs : s.size ≤ 100000) (p : Nat) (hp : p ≤ s.size) (w : World) :
    Calls Tryz.prog 57 #[.string s, .int .i64 (p : Int)] w fun e w' => e = .returned (.tuple #[.string ⟨(valueL (s.data.toList.drop p)).1.toArray⟩, .int .i64 (s.size - (valueL (s.data.toList.drop p)).2.length : Nat)]) ∧ Below w.heap.size w w' := by
  by_cases hlt : p < s.size
  · have hdc := drop_cons s p hlt
    have hlen : (s.data.toList.drop p).length = s.size - p := by rw [List.length_drop, ← size_list]
    have hlt2 : ¬ (s.size : Int) ≤ p := by omega
    have hix : ∀ w, (Instr.index 9 (.string s) (.int .i64 (p : Int))).run Tryz.prog w = .ok (.int .u8 (s[p].toNat : Int)) w := fun w => by simp [Instr.index, asIntOf, run_underlying Tryz.underlying9, hlt]
    by_cases h62 : (s[p]).toNat = 62
    · have hv : valueL (s.data.toList.drop p) = ([], s.data.toList.drop p) := by
        rw [hdc]
        unfold valueL
        simp only
        rw [if_pos (UInt8.toNat_inj.1 h62)]
      rw [hv]
      simp only [hlen]
      rw [show s.size - (s.size - p) = p by omega]
      rw [h62] at hix
      clear hv hdc hlen h62
      go_enter Tryz.func57, Tryz.ntmps57
      go_wp2
      go_ret2
      exact ⟨rfl, Below.refl _ _⟩
    · have hU := upTo_any s ⟨#[62]⟩ (by omega) (by decide) p hp
      rw [show (⟨#[62]⟩ : ByteArray).data.toList = [62] from rfl, upto_val] at hU
      have HU := hide hU
      clear hU
      have e62 := ne_lit _ 62 (by omega : ((s[p]).toNat : Int) ≠ 62)
      have e62b : ¬ ((s[p]).toNat : Int) = 62 := by omega
      by_cases hq : (s[p]).toNat = 34 ∨ (s[p]).toNat = 39
      · have hv : valueL (s.data.toList.drop p) = (decL true (findR [s[p]] (s.data.toList.drop (p + 1))).1, (findR [s[p]] (s.data.toList.drop (p + 1))).2.drop 1) := by
          rw [hdc]
          unfold valueL
          simp only
          rw [if_neg (fun e => h62 (by rw [e]; rfl)), if_pos (hq.imp (fun h => UInt8.toNat_inj.1 h) (fun h => UInt8.toNat_inj.1 h))]
        rw [hv]
        clear hv
        have hx : (s.extract p (p + 1)).data.toList = [s[p]] := one_byte s p hlt
        have hf := find_any s (s.extract p (p + 1)) (by omega) (by rw [size_list, hx]; exact Nat.le_refl 1) (by rw [size_list, hx]; exact (by decide : 1 ≤ 1000000)) (p + 1) (by omega)
        rw [hx] at hf
        have hap := findR_app [s[p]] (s.data.toList.drop (p + 1))
        have hcut := cut_at s (p + 1) (by omega) _ _ hap
        have hl2 := congrArg List.length hap
        rw [List.length_append, List.length_drop, ← size_list] at hl2
        generalize (findR [s[p]] (s.data.toList.drop (p + 1))).1 = T at *
        generalize (findR [s[p]] (s.data.toList.drop (p + 1))).2 = V at *
        have hd := rdecode_any ⟨T.toArray⟩ (by rw [size_list, str_data]; omega) true
        rw [str_data, ← hcut.1] at hd
        have HD := hide hd
        have HF := hide hf
        have hN : ((s.size - (V.drop 1).length : Nat) : Int) = min (((s.size - V.length : Nat) : Int) + 1) s.size := by rw [List.length_drop]; omega
        have hE1 : p + 1 ≤ s.size - V.length := hcut.2
        have hE2 : s.size - V.length ≤ s.size := by omega
        generalize decL true T = X at *
        generalize s.size - (V.drop 1).length = N at *
        generalize s.size - V.length = E at *
        have HN := hide hN
        clear hN hf hd hcut hap hl2 hx hdc hlen
        have hE3 : ((p + 1 : Nat) : Int) = (p : Int) + 1 := by omega
        rcases hq with h34 | h39
        · rw [h34] at hix
          clear h34 h62 e62 e62b
          go_enter Tryz.func57, Tryz.ntmps57
          go_wp2_with fail
          refine (HU.out _).mono ?_
          rintro e w1 ⟨rfl, b1⟩
          go_wp2_with fail
          refine (HF.out _).mono ?_
          rintro e w2 ⟨rfl, rfl⟩
          go_wp2_with fail
          refine (HD.out _).mono ?_
          rintro e w3 ⟨rfl, b3⟩
          go_wp2
          all_goals go_ret2
          all_goals refine ⟨ret_si ?_, b1.trans (b3.mono b1.size)⟩
          all_goals (have hn := HN.out; omega)
        · rw [h39] at hix
          clear h39 h62 e62 e62b
          go_enter Tryz.func57, Tryz.ntmps57
          go_wp2_with fail
          refine (HU.out _).mono ?_
          rintro e w1 ⟨rfl, b1⟩
          go_wp2_with fail
          refine (HF.out _).mono ?_
          rintro e w2 ⟨rfl, rfl⟩
          go_wp2_with fail
          refine (HD.out _).mono ?_
          rintro e w3 ⟨rfl, b3⟩
          go_wp2
          all_goals go_ret2
          all_goals refine ⟨ret_si ?_, b1.trans (b3.mono b1.size)⟩
          all_goals (have hn := HN.out; omega)
      · have hv : valueL (s.data.toList.drop p) = (decL true ((s.data.toList.drop p).takeWhile valB), (s.data.toList.drop p).dropWhile valB) := by
          rw [hdc]
          unfold valueL
          simp only
          rw [if_neg (fun e => h62 (by rw [e]; rfl)), if_neg (fun h => hq (h.imp (fun h => by rw [h]; rfl) (fun h => by rw [h]; rfl)))]
        rw [hv]
        clear hv
        have hap := List.takeWhile_append_dropWhile (p := valB) (l := s.data.toList.drop p)
        have hcut := cut_at s p hp _ _ hap
        have hl2 := congrArg List.length hap
        rw [List.length_append, hlen] at hl2
        generalize (s.data.toList.drop p).takeWhile valB = T at *
        generalize (s.data.toList.drop p).dropWhile valB = V at *
        have hd := rdecode_any ⟨T.toArray⟩ (by rw [size_list, str_data]; omega) true
        rw [str_data, ← hcut.1] at hd
        have HD := hide hd
        have hE1 : p ≤ s.size - V.length := hcut.2
        have hE2 : s.size - V.length ≤ s.size := by omega
        generalize decL true T = X at *
        generalize s.size - V.length = E at *
        clear hd hcut hap hl2 hdc hlen
        have e34 : ¬ ((s[p]).toNat : Int) = 34 := by omega
        have e39 : ¬ ((s[p]).toNat : Int) = 39 := by omega
        have f34 := ne_lit _ 34 e34
        have f39 := ne_lit _ 39 e39
        generalize (s[p]).toNat = cc at *
        clear hq h62
        go_enter Tryz.func57, Tryz.ntmps57
        go_wp2_with fail
        refine (HU.out _).mono ?_
        rintro e w1 ⟨rfl, b1⟩
        go_wp2_with fail
        refine (HD.out _).mono ?_
        rintro e w3 ⟨rfl, b3⟩
        go_wp2
        go_ret2
        exact ⟨by first | rfl | (rw [show min (E : Int) (s.size : Int) = E by omega]), b1.trans (b3.mono b1.size)⟩
  · have hv : valueL (s.data.toList.drop p) = ([], []) := by rw [drop_end s p (by omega)]; rfl
    rw [hv]
    simp only [List.length_nil, Nat.sub_zero]
    have hpe : p = s.size := by omega
    subst hpe
    clear hv hlt hp
    go_enter Tryz.func57, Tryz.ntmps57
    go_wp2
    go_ret2
    exact ⟨rfl, Below.refl _ _⟩
end Go.Proofs.YtlfjmgniflkapaaGreatDoor
