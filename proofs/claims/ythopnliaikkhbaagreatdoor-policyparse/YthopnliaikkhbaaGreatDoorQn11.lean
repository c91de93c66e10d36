/- Lists of texts appended; what the document's words answers (of Qb11, Qc11, Qj11 what a seat without Print wants). -/
import Derived.Test.YthopnliaikkhbaaGreatDoorSz11
import Derived.Test.YthopnliaikkhbaaGreatDoorRk11
import Derived.Test.YthopnliaikkhbaaGreatDoorQk11
import Derived.Lib.AppendZeros
set_option linter.unusedVariables false
set_option linter.unusedSimpArgs false
set_option maxRecDepth 4000
namespace Go.Proofs.YthopnliaikkhbaaGreatDoor
open Go.RowKit

theorem append_nothing (W : World) (g n cap : Nat) (a : Option Addr) (c : Nat) (h : n ≤ cap) (hm : cap ≤ maxLen) :
    (Builtin.append_ #[24, 24] 24 #[.slice (some ⟨g, 0, none⟩) n cap, .slice a 0 c]).run Tryz.prog W = .ok (.slice (some ⟨g, 0, none⟩) n cap) W := by
  simp [Builtin.append_, go_sem]
  rw [if_pos h]
  cases a <;> simp [go_sem, storeCells]
theorem append_isW (W : World) (B n : Nat) (v : Value) (xs : List Value) (u : Value) (l : List Bs) (hown : W.ownsRow B 9 1 v n xs) (hv : v ≠ .slice none 0 0) (hU : IsW W u l) (h1 : n ≤ 100000) (h2 : l.length ≤ 100000) (hB : B ≤ W.heap.size) :
    ∃ v' w', (Builtin.append_ #[24, 24] 24 #[v, u]).run Tryz.prog W = .ok v' w' ∧ w'.ownsRow B 9 1 v' (n + l.length) (xs ++ textsV l) ∧ Below B W w' := by
  rcases hU with ⟨rfl, a, c, rfl⟩ | ⟨b, o, cap, rfl, hc⟩
  · have h0 := hown
    rcases h0.2 with ⟨rfl, _⟩ | ⟨g, cap, cur, rfl, h3, h4, h5, h6, h7, h8⟩
    · exact absurd rfl hv
    · refine ⟨_, _, append_nothing W g n cap a c h5 h6, ?_, Below.refl _ _⟩
      simpa [textsV] using hown
  · obtain ⟨v', w', hr, ho, hg, _⟩ := append_texts W B n v xs b o cap l hown (fun j x hj => by
      obtain ⟨hlt, rfl⟩ := List.getElem?_eq_some_iff.1 hj
      exact hc j hlt) (by omega) (by omega) hB
    exact ⟨v', w', hr, ho, (Below.refl B W).grown hg hB (owns_blk hown)⟩
def midW (s : Bs) (f k : Nat) : Bs := (s.drop f).take (k - f)
theorem midW_self (s : Bs) (k : Nat) : midW s k k = [] := by unfold midW; simp
theorem midW_step (s : Bs) (f k : Nat) (h : f ≤ k) (hk : k < s.length) : midW s f (k + 1) = midW s f k ++ [s[k]] := by
  unfold midW
  rw [show k + 1 - f = (k - f) + 1 by omega, List.take_succ_eq_append_getElem (by rw [List.length_drop]; omega)]
  congr 2
  rw [List.getElem_drop]
  congr 1
  omega
theorem midW_ne (s : Bs) (f k : Nat) (h : f < k) (hk : k ≤ s.length) : midW s f k ≠ [] := by
  intro e
  have := congrArg List.length e
  unfold midW at this
  rw [List.length_take, List.length_drop] at this
  simp at this
  omega
theorem words_stop (s : Bs) (f k : Nat) (hf : f ≤ k) (hk : k < s.length) (h : s[k] = 32) : wordsK (midW s f k) (s.drop k) = (if f = k then [] else [midW s f k]) ++ wordsK [] (s.drop (k + 1)) := by
  rw [List.drop_eq_getElem_cons hk, wordsK, if_pos h]
  by_cases e : f = k
  · subst e
    rw [if_pos rfl, if_pos (midW_self _ _)]; rfl
  · rw [if_neg e, if_neg (midW_ne s f k (by omega) (by omega))]; rfl
theorem words_on (s : Bs) (f k : Nat) (hf : f ≤ k) (hk : k < s.length) (h : s[k] ≠ 32) : wordsK (midW s f k) (s.drop k) = wordsK (midW s f (k + 1)) (s.drop (k + 1)) := by
  rw [List.drop_eq_getElem_cons hk, wordsK, if_neg h, midW_step s f k hf hk]
theorem words_end (s : Bs) (f : Nat) (hf : f ≤ s.length) : wordsK (midW s f s.length) (s.drop s.length) = (if f = s.length then [] else [midW s f s.length]) := by
  rw [List.drop_length, wordsK]
  by_cases e : f = s.length
  · subst e
    rw [if_pos rfl, if_pos (midW_self _ _)]
  · rw [if_neg e, if_neg (midW_ne s f _ (by omega) (by omega))]
theorem midW_is (s : ByteArray) (f k : Nat) : (s.extract f k).data.toList = midW s.data.toList f k := by
  rw [Lib.extract_data]; rfl
set_option maxHeartbeats 4000000 in
theorem rwords_any (s : ByteArray) (hs : s.size ≤ 100000) (w : World) :
    Calls Tryz.prog 31 #[.string s] w fun e w' => ∃ v, e = .returned v ∧ w'.ownsRow w.heap.size 9 1 v (wordsL s.data.toList).length (textsV (wordsL s.data.toList)) ∧ Below w.heap.size w w' := by
  have hL : s.data.toList.length = s.size := (size_list s).symm
  generalize hV : wordsL s.data.toList = V
  have HV : Hid (wordsK [] s.data.toList = V) := hide hV
  clear hV
  have O0 : Hid ((w.alloc (.cells #[] 9)).ownsRow w.heap.size 9 1 (.slice (some ⟨w.heap.size, 0, none⟩) 0 0) 0 (textsV [])) := hide ⟨rfl, .inr ⟨w.heap.size, 0, #[], rfl, Nat.le_refl _, by show (Array.push w.heap _)[w.heap.size]? = _; simp, Nat.le_refl _, by decide, rfl, rfl⟩⟩
  have B0 := hide (below_alloc w (.cells #[] 9))
  go_enter Tryz.func31, Tryz.ntmps31
  go_wp2
  go_loopw [3, 4, 5] (fun v fv iv wr => ∃ (k f : Nat) (l : List Bs), k ≤ s.size + 1 ∧ f ≤ k ∧ fv = .int .i64 f ∧ iv = .int .i64 k ∧ l.length ≤ k ∧ Hid (k ≤ s.size → l ++ wordsK (midW s.data.toList f k) (s.data.toList.drop k) = V) ∧ Hid (k = s.size + 1 → l = V) ∧ Hid (wr.ownsRow w.heap.size 9 1 v l.length (textsV l)) ∧ Hid (Below w.heap.size w wr)) (fun _ _ iv _ => s.size + 1 - (intOf iv).toNat)
  case atStart => exact ⟨0, 0, [], by omega, Nat.le_refl _, rfl, rfl, Nat.le_refl _, hide (fun _ => by rw [midW_self, List.drop_zero]; exact HV.out), hide (fun h => by omega), O0, B0⟩
  case round =>
    clear O0 B0
    obtain ⟨k, f, l, hk, hfk, rfl, rfl, hlk, HK, HE, HO, HB⟩ := hrel
    obtain ⟨va, vc, rfl⟩ := owns_formG HO.out
    by_cases hle : k ≤ s.size
    · have hle2 : (k : Int) ≤ s.size := by omega
      have hnow := HK.out hle
      by_cases hat : k = s.size ∨ ∃ h : k < s.size, s[k].toNat = 32
      · have hstep : ∃ ws : Bool, (ws = decide (f < k)) ∧ ∀ l', l' = (if f = k then l else l ++ [midW s.data.toList f k]) → (k + 1 ≤ s.size → l' ++ wordsK (midW s.data.toList (k + 1) (k + 1)) (s.data.toList.drop (k + 1)) = V) ∧ (k + 1 = s.size + 1 → l' = V) := by
          refine ⟨_, rfl, fun l' hl' => ?_⟩
          rcases hat with h | ⟨h, h32⟩
          · refine ⟨fun h2 => by omega, fun _ => ?_⟩
            rw [h, ← hL, words_end _ _ (by omega)] at hnow
            rw [hl', ← hnow, h, ← hL]
            by_cases e : f = s.data.toList.length
            · rw [if_pos e, if_pos e, List.append_nil]
            · rw [if_neg e, if_neg e]
          · refine ⟨fun h2 => ?_, fun h2 => by omega⟩
            have hg : s.data.toList[k]'(by omega) = 32 := by
              have : s.data.toList[k]'(by omega) = s[k] := by simp; rfl
              rw [this]
              exact UInt8.toNat_inj.1 h32
            rw [words_stop _ f k hfk (by omega) hg] at hnow
            rw [hl', midW_self, ← hnow]
            by_cases e : f = k
            · rw [if_pos e, if_pos e, List.nil_append]
            · rw [if_neg e, if_neg e, List.append_assoc]
        obtain ⟨_, _, hstep⟩ := hstep
        rcases hat with h | ⟨h, h32⟩
        · have q1 : ((k : Int) == s.size) = true := by rw [beq_iff_eq]; omega
          clear h
          by_cases hf : f < k
          · have hf2 : (f : Int) < k := by omega
            have hf3 : (f : Int) ≤ k := by omega
            obtain ⟨s1, s2⟩ := hstep (l ++ [midW s.data.toList f k]) (by rw [if_neg (by omega)])
            obtain ⟨v', w', hr, ho, hb⟩ := append_text wr w.heap.size l.length (.slice va l.length vc) (textsV l) (s.extract f k) wr.heap.size rfl HO.out (by omega) HB.out.size
            have hxs : (⟨(midW s.data.toList f k).toArray⟩ : ByteArray) = s.extract f k := congrArg (fun l : Bs => (⟨l.toArray⟩ : ByteArray)) (midW_is s f k).symm
            have HO2 : Hid (w'.ownsRow w.heap.size 9 1 v' (l ++ [midW s.data.toList f k]).length (textsV (l ++ [midW s.data.toList f k]))) := hide (by
              rw [textsV_app, List.length_append, show textsV [midW s.data.toList f k] = [.string ⟨(midW s.data.toList f k).toArray⟩] from rfl, hxs]
              exact ho)
            have HB2 := hide (HB.out.trans hb)
            have HS := hide s1
            have HS2 := hide s2
            have hll : (l ++ [midW s.data.toList f k]).length ≤ k + 1 := by rw [List.length_append]; simp; exact hlk
            obtain ⟨va2, vn2, vc2, rfl⟩ : ∃ a n c, v' = .slice a n c := by
              obtain ⟨q1, q2, q3⟩ := owns_formG ho
              exact ⟨_, _, _, q3⟩
            clear hstep hnow HK HE ho hb hxs s1 s2 HO HB
            generalize l ++ [midW s.data.toList f k] = l2 at *
            go_wp2_with (at_builtin; refine Lib.wpList_append_run _ rfl _ _ _ _ rfl _ _ rfl rfl _ _ hr ?_)
            go_roundw
            case rel => exact ⟨k + 1, k + 1, l2, by omega, Nat.le_refl _, by go_num, by go_num, hll, HS, HS2, HO2, HB2⟩
            case measure => simp [intOf]; omega
          · obtain rfl : f = k := by omega
            obtain ⟨s1, s2⟩ := hstep l (by rw [if_pos rfl])
            have HS := hide s1
            have HS2 := hide s2
            clear hstep hnow HK HE s1 s2
            go_wp2
            go_roundw
            case rel => exact ⟨f + 1, f + 1, l, by omega, Nat.le_refl _, by go_num, by go_num, by omega, HS, HS2, HO, HB⟩
            case measure => simp [intOf]; omega
        · have q1 : ((k : Int) == s.size) = false := by rw [beq_eq_false_iff_ne]; omega
          have q2 : ((s[k].toNat : Int) == 32) = true := by rw [h32]; rfl
          have hlt2 : (k : Int) < s.size := by omega
          by_cases hf : f < k
          · have hf2 : (f : Int) < k := by omega
            have hf3 : (f : Int) ≤ k := by omega
            obtain ⟨s1, s2⟩ := hstep (l ++ [midW s.data.toList f k]) (by rw [if_neg (by omega)])
            obtain ⟨v', w', hr, ho, hb⟩ := append_text wr w.heap.size l.length (.slice va l.length vc) (textsV l) (s.extract f k) wr.heap.size rfl HO.out (by omega) HB.out.size
            have hxs : (⟨(midW s.data.toList f k).toArray⟩ : ByteArray) = s.extract f k := congrArg (fun l : Bs => (⟨l.toArray⟩ : ByteArray)) (midW_is s f k).symm
            have HO2 : Hid (w'.ownsRow w.heap.size 9 1 v' (l ++ [midW s.data.toList f k]).length (textsV (l ++ [midW s.data.toList f k]))) := hide (by
              rw [textsV_app, List.length_append, show textsV [midW s.data.toList f k] = [.string ⟨(midW s.data.toList f k).toArray⟩] from rfl, hxs]
              exact ho)
            have HB2 := hide (HB.out.trans hb)
            have HS := hide s1
            have HS2 := hide s2
            have hll : (l ++ [midW s.data.toList f k]).length ≤ k + 1 := by rw [List.length_append]; simp; exact hlk
            obtain ⟨va2, vn2, vc2, rfl⟩ : ∃ a n c, v' = .slice a n c := by
              obtain ⟨q1, q2, q3⟩ := owns_formG ho
              exact ⟨_, _, _, q3⟩
            clear hstep hnow HK HE ho hb hxs s1 s2 HO HB
            generalize l ++ [midW s.data.toList f k] = l2 at *
            go_wp2_with (at_builtin; refine Lib.wpList_append_run _ rfl _ _ _ _ rfl _ _ rfl rfl _ _ hr ?_)
            go_roundw
            case rel => exact ⟨k + 1, k + 1, l2, by omega, Nat.le_refl _, by go_num, by go_num, hll, HS, HS2, HO2, HB2⟩
            case measure => simp [intOf]; omega
          · obtain rfl : f = k := by omega
            obtain ⟨s1, s2⟩ := hstep l (by rw [if_pos rfl])
            have HS := hide s1
            have HS2 := hide s2
            clear hstep hnow HK HE s1 s2
            go_wp2
            go_roundw
            case rel => exact ⟨f + 1, f + 1, l, by omega, Nat.le_refl _, by go_num, by go_num, by omega, HS, HS2, HO, HB⟩
            case measure => simp [intOf]; omega
      · have hlt : k < s.size := by
          rcases Nat.lt_or_ge k s.size with h | h
          · exact h
          · exact absurd (.inl (by omega)) hat
        have h32 : s[k].toNat ≠ 32 := fun h => hat (.inr ⟨hlt, h⟩)
        have q1 : ((k : Int) == s.size) = false := by rw [beq_eq_false_iff_ne]; omega
        have q2 : ((s[k].toNat : Int) == 32) = false := by rw [beq_eq_false_iff_ne]; omega
        have hlt2 : (k : Int) < s.size := by omega
        have hg : s.data.toList[k]'(by omega) ≠ 32 := by
          have e : s.data.toList[k]'(by omega) = s[k] := by simp; rfl
          rw [e]
          intro e2
          exact h32 (by rw [e2]; rfl)
        rw [words_on _ f k hfk (by omega) hg] at hnow
        have HS : Hid (k + 1 ≤ s.size → l ++ wordsK (midW s.data.toList f (k + 1)) (s.data.toList.drop (k + 1)) = V) := hide (fun _ => hnow)
        have HS2 : Hid (k + 1 = s.size + 1 → l = V) := hide (fun h => by omega)
        clear hnow HK HE hg h32 hat
        go_wp2
        go_roundw
        case rel => exact ⟨k + 1, f, l, by omega, by omega, rfl, by go_num, by omega, HS, HS2, HO, HB⟩
        case measure => simp [intOf]; omega
    · have hle2 : ¬ (k : Int) ≤ s.size := by omega
      have he := HE.out (by omega)
      subst he
      go_wp2
      go_ret
      exact ⟨_, rfl, HO.out, HB.out⟩
end Go.Proofs.YthopnliaikkhbaaGreatDoor
