/- What SchemeLetters answers: true; nothing that was there is written. -/
import Derived.Test.YtiieoejnpjdbeaaLd10
import Derived.Deep.RegionHeld2
set_option linter.unusedVariables false
set_option linter.unusedSimpArgs false
namespace Go.Proofs.Ytiieoejnpjdbeaa
open Go.RowKit

theorem of_short (l a : List UInt8) (h : ofL l = some a) : a.length ≤ l.length := by
  unfold ofL schL at h
  cases hk : colonL 0 (tidyL l) with
  | none => rw [hk] at h; cases h
  | some k =>
    rw [hk] at h
    injection h with h
    rw [← h, lower_length, List.length_take]
    have := tidy_short l
    omega
theorem isW_one (w : World) (x : ByteArray) : IsW (w.alloc (.cells #[.string x] 9)) (.slice (some ⟨w.heap.size, 0, none⟩) 1 1) [x.data.toList] :=
  .inr ⟨_, _, _, rfl, fun j hj => by
    obtain rfl : j = 0 := by simpa using hj
    simp [go_sem]⟩
theorem safe_one (s : ByteArray) (hs : s.size ≤ 200) (x : ByteArray) (w : World) :
    Calls Try.prog 11 #[.string s, .slice (some ⟨w.heap.size, 0, none⟩) 1 1] (w.alloc (.cells #[.string x] 9)) fun e w' => e = .returned (.bool (safeL s.data.toList [x.data.toList])) ∧ Below w.heap.size w w' :=
  (safe_any s (by omega) [x.data.toList] (by simp) _ _ (isW_one w x)).mono fun e w' ⟨h1, h2⟩ => ⟨h1, (below_alloc w _).trans (h2.mono (below_alloc w _).size)⟩
set_option maxHeartbeats 4000000 in
theorem schemeLetters_walk (s r : ByteArray) (w : World) :
    Calls Try.prog 6 #[.string s, .string r] w fun e w' => e = .returned (.bool true) ∧ Below w.heap.size w w' := by
  have H1 := hide alive_any
  by_cases hs : 200 < s.size
  · have hs2 : (200 : Int) < s.size := by omega
    clear hs
    go_enter Try.func6, Try.ntmps6
    go_wp2_with fail
    refine (H1.out _).mono ?_
    rintro e w1 ⟨rfl, b1⟩
    go_wp2
    go_ret
    exact ⟨rfl, b1⟩
  have hs2 : ¬ (200 : Int) < s.size := by omega
  by_cases hr : 200 < r.size
  · have hr2 : (200 : Int) < r.size := by omega
    clear hs hr
    go_enter Try.func6, Try.ntmps6
    go_wp2_with fail
    refine (H1.out _).mono ?_
    rintro e w1 ⟨rfl, b1⟩
    go_wp2
    go_ret
    exact ⟨rfl, b1⟩
  have hr2 : ¬ (200 : Int) < r.size := by omega
  have h2 := of_any s (by omega)
  cases ho : ofL s.data.toList with
  | none =>
    rw [ho] at h2
    have H2 : Hid (∀ w, Calls Try.prog 9 #[.string s] w fun e w' => e = .returned (.tuple #[.string ⟨#[]⟩, .bool false]) ∧ Below w.heap.size w w') := hide h2
    clear ho h2 hs hr
    go_enter Try.func6, Try.ntmps6
    go_wp2_with fail
    refine (H2.out _).mono ?_
    rintro e w1 ⟨rfl, b1⟩
    go_wp2_with fail
    refine (H1.out _).mono ?_
    rintro e w2 ⟨rfl, b2⟩
    go_wp2
    go_ret
    exact ⟨rfl, b1.trans (b2.mono b1.size)⟩
  | some a =>
    rw [ho] at h2
    have hT := of_told _ _ ho
    have hlen := of_short _ _ ho
    have ha : (⟨a.toArray⟩ : ByteArray).data.toList = a := str_data a
    have H2 : Hid (∀ w, Calls Try.prog 9 #[.string s] w fun e w' => e = .returned (.tuple #[.string ⟨a.toArray⟩, .bool true]) ∧ Below w.heap.size w w') := hide h2
    clear h2
    generalize (⟨a.toArray⟩ : ByteArray) = x at *
    subst ha
    have hxz : x.size = x.data.toList.length := size_list x
    have hx200 : x.size ≤ 200 := by rw [hxz]; rw [← size_list s] at hlen; omega
    have e3 : (x ++ (⟨#[58]⟩ : ByteArray) ++ r).data.toList = x.data.toList ++ 58 :: r.data.toList := by
      rw [str_app _ _ _ _ (str_app x ⟨#[58]⟩ _ _ rfl rfl) (rfl : r.data.toList = _), List.append_assoc]
      rfl
    have h3 := of_any (x ++ (⟨#[58]⟩ : ByteArray) ++ r) (by rw [ByteArray.size_append, ByteArray.size_append, show (⟨#[58]⟩ : ByteArray).size = 1 from rfl]; omega)
    rw [e3, hT.again] at h3
    have H3 : Hid (∀ w, Calls Try.prog 9 #[.string (x ++ (⟨#[58]⟩ : ByteArray) ++ r)] w fun e w' => e = .returned (.tuple #[.string x, .bool true]) ∧ Below w.heap.size w w') := hide (by
      intro w
      have := h3 w
      rw [show ansO (some x.data.toList) = .tuple #[.string x, .bool true] by
        unfold ansO
        congr] at this
      exact this)
    have hs4 : safeL s.data.toList [x.data.toList] = true := by unfold safeL; rw [ho]; simp [amongL]
    have e5 : (x ++ (⟨#[120]⟩ : ByteArray)).data.toList = x.data.toList ++ [120] := str_app x ⟨#[120]⟩ _ _ rfl rfl
    have hs5 : safeL s.data.toList [(x ++ (⟨#[120]⟩ : ByteArray)).data.toList] = false := by
      unfold safeL; rw [ho, e5]; simp [amongL]
    have h4 := safe_one s (by omega) x
    have h5 := safe_one s (by omega) (x ++ (⟨#[120]⟩ : ByteArray))
    rw [hs4] at h4
    rw [hs5] at h5
    have H4 := hide h4
    have H5 := hide h5
    have HE := hide hT.each
    have hpos : 0 < x.size := by rw [hxz]; exact hT.pos
    have he := empty_eq x
    rw [decide_eq_false (by omega)] at he
    have HXZ := hide hxz
    have hbd : ¬9223372036854775807 < x.size + 1 := by omega
    have hbd2 : ¬9223372036854775807 < x.size + 1 + r.size := by omega
    clear h3 h4 h5 hs4 hs5 e3 e5 hT hlen ho hs hr hxz
    go_enter Try.func6, Try.ntmps6
    go_wp2_with fail
    refine (H2.out _).mono ?_
    rintro e w1 ⟨rfl, b1⟩
    go_wp2
    go_loop [7] (fun i => ∃ k : Nat, k ≤ x.size ∧ i = .int .i64 k) (fun i => x.size - (intOf i).toNat)
    case atStart => exact ⟨0, Nat.zero_le _, rfl⟩
    case round =>
      obtain ⟨k, hk, rfl⟩ := hrel
      by_cases hlt : k < x.size
      · have hlt2 : (k : Int) < x.size := by omega
        have ht := HE.out k (by rw [← HXZ.out]; exact hlt)
        rw [show x.data.toList[k] = x[k] from rfl] at ht
        cases hm : smallN x[k].toNat
        · simp only [toldN, hm, Bool.false_or, Bool.and_eq_true, decide_eq_true_eq] at ht
          obtain ⟨hk0, ht⟩ := ht
          have hk0i : ((k : Int) == 0) = false := by rw [beq_eq_false_iff_ne]; omega
          cases hf : figureN x[k].toNat
          · rw [hf, Bool.false_or] at ht
            simp [markN] at ht
            clear hm hf
            rcases ht with (ht | ht) | ht
            · have g1 : ¬ (97 : Int) ≤ x[k].toNat := by omega
              have g2 : (x[k].toNat : Int) < 48 := by omega
              have e43 : ((x[k].toNat : Int) != 43) = false := by rw [ht]; rfl
              clear ht
              go_wp2
              go_round
              case rel => exact ⟨k + 1, by omega, by go_num⟩
              case measure => simp [intOf]; omega
            · have g1 : ¬ (97 : Int) ≤ x[k].toNat := by omega
              have g2 : (x[k].toNat : Int) < 48 := by omega
              have e43 : ((x[k].toNat : Int) != 43) = true := by rw [ht]; rfl
              have e45 : ((x[k].toNat : Int) != 45) = false := by rw [ht]; rfl
              clear ht
              go_wp2
              go_round
              case rel => exact ⟨k + 1, by omega, by go_num⟩
              case measure => simp [intOf]; omega
            · have g1 : ¬ (97 : Int) ≤ x[k].toNat := by omega
              have g2 : (x[k].toNat : Int) < 48 := by omega
              have e43 : ((x[k].toNat : Int) != 43) = true := by rw [ht]; rfl
              have e45 : ((x[k].toNat : Int) != 45) = true := by rw [ht]; rfl
              have e46 : ((x[k].toNat : Int) != 46) = false := by rw [ht]; rfl
              clear ht
              go_wp2
              go_round
              case rel => exact ⟨k + 1, by omega, by go_num⟩
              case measure => simp [intOf]; omega
          · simp [figureN] at hf
            have g1 : ¬ (97 : Int) ≤ x[k].toNat := by omega
            have g2 : ¬ (x[k].toNat : Int) < 48 := by omega
            have g3 : ¬ (57 : Int) < x[k].toNat := by omega
            clear ht hm hf
            go_wp2
            go_round
            case rel => exact ⟨k + 1, by omega, by go_num⟩
            case measure => simp [intOf]; omega
        · simp [smallN] at hm
          have g1 : (97 : Int) ≤ x[k].toNat := by omega
          have g2 : (x[k].toNat : Int) ≤ 122 := by omega
          clear ht hm
          go_wp2
          go_round
          case rel => exact ⟨k + 1, by omega, by go_num⟩
          case measure => simp [intOf]; omega
      · have hlt2 : ¬ (k : Int) < x.size := by omega
        clear hlt
        go_wp2_with fail
        refine (H3.out _).mono ?_
        rintro e w2 ⟨rfl, b2⟩
        have c2 := b1.trans (b2.mono b1.size)
        go_wp2_with fail
        refine (H1.out _).mono ?_
        rintro e w3 ⟨rfl, b3⟩
        have c3 := c2.trans (b3.mono c2.size)
        go_wp2_with fail
        refine (H4.out _).mono ?_
        rintro e w4 ⟨rfl, b4⟩
        have c4 := c3.trans (b4.mono c3.size)
        go_wp2_with fail
        refine (H5.out _).mono ?_
        rintro e w5 ⟨rfl, b5⟩
        have c5 := c4.trans (b5.mono c4.size)
        go_wp2
        go_ret
        exact ⟨by simp, c5⟩
end Go.Proofs.Ytiieoejnpjdbeaa
