/- What TokenComment answers: true; nothing that was there is written. -/
import Derived.Test.YtlfjmgniflkapaaDoorLawH
import Derived.Test.YtlfjmgniflkapaaDoorWalkP4
set_option linter.unusedVariables false
set_option linter.unusedSimpArgs false
namespace Go.Proofs.YtlfjmgniflkapaaDoor
open Go.RowKit

theorem str_self (s : ByteArray) : (⟨s.data.toList.toArray⟩ : ByteArray) = s := (str_of s _ rfl).symm
/-- A token's cells, written out, of texts. -/
def tokA (k : Int) (n : ByteArray) (sv : Value) (c : Bool) (t : ByteArray) : Value := .agg #[.int .i64 k, .string n, sv, .bool c, .string t]
theorem same_plain (k : Nat) (n t : ByteArray) (c : Bool) (va vb : Value) (w : World) (hA : IsA w va []) (hB : IsA w vb []) :
    Calls Tryd.prog 13 #[.agg #[.int .i64 (k : Int), .string n, va, .bool c, .string t], .agg #[.int .i64 (k : Int), .string n, vb, .bool c, .string t]] w fun e w' => e = .returned (.bool true) ∧ Below w.heap.size w w' := by
  have h := same_self { kind := k, name := n.data.toList, closed := c, text := t.data.toList } va vb (by simp) w hA hB
  unfold tokV at h
  simp only [str_self] at h
  exact h

set_option maxHeartbeats 2000000 in
theorem comment_main (x r : ByteArray) (hx : x.size ≤ 200) (hr : r.size ≤ 200) (w : World) (he : Env w) (h1 : hasL [45, 45, 62] x.data.toList = false) (h2 : hasL [45, 45, 33, 62] x.data.toList = false) (h3 : x.data.toList.head? ≠ some 62) (h4 : x.data.toList.take 2 ≠ [45, 62]) :
    Calls Tryd.prog 10 #[.string (((⟨#[60, 33, 45, 45]⟩ : ByteArray) ++ x) ++ ⟨#[45, 45, 62]⟩ ++ r), .int .i64 0, .int .i64 0, .string ⟨#[]⟩, .bool false] w fun e w' => (∃ sv, IsA w' sv [] ∧ e = .returned (.tuple #[.agg #[.int .i64 4, .string ⟨#[]⟩, sv, .bool false, .string x], .int .i64 ((x.size : Int) + 7)])) ∧ Below w.heap.size w w' := by
  have hd : (((⟨#[60, 33, 45, 45]⟩ : ByteArray) ++ x) ++ ⟨#[45, 45, 62]⟩ ++ r).data.toList = 60 :: 33 :: 45 :: 45 :: (x.data.toList ++ 45 :: 45 :: 62 :: r.data.toList) := by
    rw [str_app _ _ _ _ (str_app _ _ _ _ (str_app _ _ [60, 33, 45, 45] x.data.toList rfl rfl) (rfl : (⟨#[45, 45, 62]⟩ : ByteArray).data.toList = [45, 45, 62])) rfl]
    simp
  have hz : (((⟨#[60, 33, 45, 45]⟩ : ByteArray) ++ x) ++ ⟨#[45, 45, 62]⟩ ++ r).size = x.size + 7 + r.size := by
    rw [size_list, hd, size_list x, size_list r]
    simp
    omega
  have h := pnext_any _ ⟨#[]⟩ (by rw [hz]; omega) (by decide) 0 0 false w he
  rw [hd, show (⟨#[]⟩ : ByteArray).data.toList = [] from rfl, show (0 : Int) = ((0 : Nat) : Int) from rfl, nextZ_in _ _ _ _ 0 (by simp), List.drop_zero] at h
  have hb := comment_back x.data.toList r.data.toList h1 h2 h3 h4
  rw [show ((0 : Nat) : Int) = 0 from rfl, hb] at h
  refine h.mono ?_
  rintro e w1 ⟨⟨sv, hA, _, rfl⟩, b1⟩
  refine ⟨⟨sv, hA, ?_⟩, b1⟩
  rw [hz, ← size_list r, show x.size + 7 + r.size - r.size = x.size + 7 by omega]
  unfold tokV
  simp only [str_self]
  rfl
theorem two_take (x : ByteArray) (h : 2 ≤ x.size) : (x.extract 0 2).data.toList = x.data.toList.take 2 := by rw [Lib.extract_data]; simp

set_option maxHeartbeats 2000000 in
theorem comment_walk (x r : ByteArray) (w : World) (he : Env w) :
    Calls Tryd.prog 6 #[.string x, .string r] w fun e w' => e = .returned (.bool true) ∧ Below w.heap.size w w' := by
  have H1 := hide (alive_any)
  have HE := hide he
  clear he
  by_cases hx : 200 < x.size
  · have hx2 : (200 : Int) < x.size := by omega
    go_enter Tryd.func6, Tryd.ntmps6
    go_wp2_with fail
    refine (H1.out _ HE.out).mono ?_
    rintro e w1 ⟨rfl, b1⟩
    go_wp2
    go_ret
    exact ⟨rfl, b1⟩
  have hx2 : ¬ (200 : Int) < x.size := by omega
  by_cases hr : 200 < r.size
  · have hr2 : (200 : Int) < r.size := by omega
    go_enter Tryd.func6, Tryd.ntmps6
    go_wp2_with fail
    refine (H1.out _ HE.out).mono ?_
    rintro e w1 ⟨rfl, b1⟩
    go_wp2
    go_ret
    exact ⟨rfl, b1⟩
  have hr2 : ¬ (200 : Int) < r.size := by omega
  have HH1 := hide (lhas_any x ⟨#[45, 45, 62]⟩ (by omega) (by decide) (by decide))
  have HH2 := hide (lhas_any x ⟨#[45, 45, 33, 62]⟩ (by omega) (by decide) (by decide))
  rw [show (⟨#[45, 45, 62]⟩ : ByteArray).data.toList = [45, 45, 62] from rfl] at HH1
  rw [show (⟨#[45, 45, 33, 62]⟩ : ByteArray).data.toList = [45, 45, 33, 62] from rfl] at HH2
  cases hB1 : hasL [45, 45, 62] x.data.toList with
  | true =>
    rw [hB1] at HH1
    clear hB1 HH2
    go_enter Tryd.func6, Tryd.ntmps6
    go_wp2_with fail
    refine (HH1.out _).mono ?_
    rintro e w1 ⟨rfl, rfl⟩
    go_wp2_with fail
    refine (H1.out _ HE.out).mono ?_
    rintro e w1 ⟨rfl, b1⟩
    go_wp2
    go_ret
    exact ⟨rfl, b1⟩
  | false =>
    rw [hB1] at HH1
    cases hB2 : hasL [45, 45, 33, 62] x.data.toList with
    | true =>
      rw [hB2] at HH2
      clear hB1 hB2
      go_enter Tryd.func6, Tryd.ntmps6
      go_wp2_with fail
      refine (HH1.out _).mono ?_
      rintro e w1 ⟨rfl, rfl⟩
      go_wp2_with fail
      refine (HH2.out _).mono ?_
      rintro e w1 ⟨rfl, rfl⟩
      go_wp2_with fail
      refine (H1.out _ HE.out).mono ?_
      rintro e w1 ⟨rfl, b1⟩
      go_wp2
      go_ret
      exact ⟨rfl, b1⟩
    | false =>
      rw [hB2] at HH2
      have hM := comment_main x r (by omega) (by omega) w HE.out hB1 hB2
      by_cases h0 : x.size = 0
      · have hnil : x.data.toList = [] := List.eq_nil_of_length_eq_zero (by rw [← size_list]; exact h0)
        have HM := hide (hM (by rw [hnil]; simp) (by rw [hnil]; simp))
        have hg0 : ¬ (0 : Int) < x.size := by omega
        have hg1 : ¬ (1 : Int) < x.size := by omega
        clear hM hB1 hB2 hnil h0
        go_enter Tryd.func6, Tryd.ntmps6
        go_wp2_with fail
        refine (HH1.out _).mono ?_
        rintro e w1 ⟨rfl, rfl⟩
        go_wp2_with fail
        refine (HH2.out _).mono ?_
        rintro e w1 ⟨rfl, rfl⟩
        go_wp2_with fail
        refine HM.out.mono ?_
        rintro e w2 ⟨⟨sv, hA, rfl⟩, b2⟩
        obtain ⟨sa, sc, rfl⟩ := isA_form hA
        have bA := below_alloc w2 (.cells #[.int .i64 4, .string ⟨#[]⟩, .slice sa ([] : AttrL).length sc, .bool false, .string x] 32)
        have KT := hide (Kept.new w2 [.int .i64 4, .string ⟨#[]⟩, .slice sa ([] : AttrL).length sc, .bool false, .string x] 32)
        have B2 := hide (b2.trans (bA.mono b2.size))
        have HA := hide (hA.below bA)
        clear hA b2 bA
        go_wp2_with fail
        refine (H1.out _ (HE.out.below B2.out)).mono ?_
        rintro e w3 ⟨rfl, b3⟩
        have KT3 := hide (KT.out.below b3)
        have B3 := hide (B2.out.trans (b3.mono B2.out.size))
        have HA3 := hide (HA.out.below b3)
        clear b3 KT B2 HA
        generalize w2.heap.size = G at *
        have g0 : w3.cell? ⟨G, 0, none⟩ = some (.int .i64 4) := KT3.out.1 0
        have g1 : w3.cell? ⟨G, 1, none⟩ = some (.string ⟨#[]⟩) := KT3.out.1 1
        have g2 : w3.cell? ⟨G, 2, none⟩ = some (.slice sa 0 sc) := KT3.out.1 2
        have g3 : w3.cell? ⟨G, 3, none⟩ = some (.bool false) := KT3.out.1 3
        have g4 : w3.cell? ⟨G, 4, none⟩ = some (.string x) := KT3.out.1 4
        go_wp2_with fail
        refine (same_plain 4 ⟨#[]⟩ x false (.slice sa 0 sc) (.slice none 0 0) w3 HA3.out (.inl ⟨rfl, rfl⟩)).mono ?_
        rintro e w4 ⟨rfl, b4⟩
        have B4 := hide (B3.out.trans (b4.mono B3.out.size))
        clear b4 B3 g0 g1 g2 g3 g4
        go_wp2
        go_ret
        exact ⟨rfl, B4.out⟩
      · have hg0 : (0 : Int) < x.size := by omega
        have hix := run_index_at x 0 0 rfl (by omega)
        have hhd : x.data.toList.head? = some x[0] := by
          have := drop_cons x 0 (by omega)
          rw [List.drop_zero] at this
          rw [this]; rfl
        by_cases h62 : x[0].toNat = 62
        · rw [h62] at hix
          clear hM hB1 hB2 h62 hhd h0
          go_enter Tryd.func6, Tryd.ntmps6
          go_wp2_with fail
          refine (HH1.out _).mono ?_
          rintro e w1 ⟨rfl, rfl⟩
          go_wp2_with fail
          refine (HH2.out _).mono ?_
          rintro e w1 ⟨rfl, rfl⟩
          go_wp2_with fail
          refine (H1.out _ HE.out).mono ?_
          rintro e w1 ⟨rfl, b1⟩
          go_wp2
          go_ret
          exact ⟨rfl, b1⟩
        · have e62 := ne_lit x[0].toNat 62 (by omega)
          have hne : x.data.toList.head? ≠ some 62 := by
            rw [hhd]
            intro e
            exact h62 (by rw [Option.some.inj e]; rfl)
          by_cases h1 : x.size = 1
          · have hg1 : ¬ (1 : Int) < x.size := by omega
            have HM := hide (hM hne (fun e => by
              have := congrArg List.length e
              rw [List.length_take, ← size_list, h1] at this
              simp at this))
            clear hM hB1 hB2 hne hhd h62 h1
            generalize x[0].toNat = c0 at *
            go_enter Tryd.func6, Tryd.ntmps6
            go_wp2_with fail
            refine (HH1.out _).mono ?_
            rintro e w1 ⟨rfl, rfl⟩
            go_wp2_with fail
            refine (HH2.out _).mono ?_
            rintro e w1 ⟨rfl, rfl⟩
            go_wp2_with fail
            refine HM.out.mono ?_
            rintro e w2 ⟨⟨sv, hA, rfl⟩, b2⟩
            obtain ⟨sa, sc, rfl⟩ := isA_form hA
            have bA := below_alloc w2 (.cells #[.int .i64 4, .string ⟨#[]⟩, .slice sa ([] : AttrL).length sc, .bool false, .string x] 32)
            have KT := hide (Kept.new w2 [.int .i64 4, .string ⟨#[]⟩, .slice sa ([] : AttrL).length sc, .bool false, .string x] 32)
            have B2 := hide (b2.trans (bA.mono b2.size))
            have HA := hide (hA.below bA)
            clear hA b2 bA
            go_wp2_with fail
            refine (H1.out _ (HE.out.below B2.out)).mono ?_
            rintro e w3 ⟨rfl, b3⟩
            have KT3 := hide (KT.out.below b3)
            have B3 := hide (B2.out.trans (b3.mono B2.out.size))
            have HA3 := hide (HA.out.below b3)
            clear b3 KT B2 HA
            generalize w2.heap.size = G at *
            have g0 : w3.cell? ⟨G, 0, none⟩ = some (.int .i64 4) := KT3.out.1 0
            have g1 : w3.cell? ⟨G, 1, none⟩ = some (.string ⟨#[]⟩) := KT3.out.1 1
            have g2 : w3.cell? ⟨G, 2, none⟩ = some (.slice sa 0 sc) := KT3.out.1 2
            have g3 : w3.cell? ⟨G, 3, none⟩ = some (.bool false) := KT3.out.1 3
            have g4 : w3.cell? ⟨G, 4, none⟩ = some (.string x) := KT3.out.1 4
            go_wp2_with fail
            refine (same_plain 4 ⟨#[]⟩ x false (.slice sa 0 sc) (.slice none 0 0) w3 HA3.out (.inl ⟨rfl, rfl⟩)).mono ?_
            rintro e w4 ⟨rfl, b4⟩
            have B4 := hide (B3.out.trans (b4.mono B3.out.size))
            clear b4 B3 g0 g1 g2 g3 g4
            go_wp2
            go_ret
            exact ⟨rfl, B4.out⟩
          · have hg1 : (1 : Int) < x.size := by omega
            have hsz2 : (2 : Int) ≤ x.size := by omega
            have heq : ((x.extract 0 2).toList == [45, 62]) = (x.data.toList.take 2 == [45, 62]) := by rw [Lib.toList_data, two_take x (by omega)]
            cases hB : (x.data.toList.take 2 == [45, 62]) with
            | true =>
              rw [hB] at heq
              clear hM hB1 hB2 hne hhd h62 h1 hB
              generalize x[0].toNat = c0 at *
              go_enter Tryd.func6, Tryd.ntmps6
              go_wp2_with fail
              refine (HH1.out _).mono ?_
              rintro e w1 ⟨rfl, rfl⟩
              go_wp2_with fail
              refine (HH2.out _).mono ?_
              rintro e w1 ⟨rfl, rfl⟩
              go_wp2_with fail
              refine (H1.out _ HE.out).mono ?_
              rintro e w1 ⟨rfl, b1⟩
              go_wp2
              go_ret
              exact ⟨rfl, b1⟩
            | false =>
              rw [hB] at heq
              have HM := hide (hM hne (fun e => by rw [e] at hB; exact absurd hB (by decide)))
              clear hM hB1 hB2 hne hhd h62 h1 hB
              generalize x[0].toNat = c0 at *
              go_enter Tryd.func6, Tryd.ntmps6
              go_wp2_with fail
              refine (HH1.out _).mono ?_
              rintro e w1 ⟨rfl, rfl⟩
              go_wp2_with fail
              refine (HH2.out _).mono ?_
              rintro e w1 ⟨rfl, rfl⟩
              go_wp2_with fail
              refine HM.out.mono ?_
              rintro e w2 ⟨⟨sv, hA, rfl⟩, b2⟩
              obtain ⟨sa, sc, rfl⟩ := isA_form hA
              have bA := below_alloc w2 (.cells #[.int .i64 4, .string ⟨#[]⟩, .slice sa ([] : AttrL).length sc, .bool false, .string x] 32)
              have KT := hide (Kept.new w2 [.int .i64 4, .string ⟨#[]⟩, .slice sa ([] : AttrL).length sc, .bool false, .string x] 32)
              have B2 := hide (b2.trans (bA.mono b2.size))
              have HA := hide (hA.below bA)
              clear hA b2 bA
              go_wp2_with fail
              refine (H1.out _ (HE.out.below B2.out)).mono ?_
              rintro e w3 ⟨rfl, b3⟩
              have KT3 := hide (KT.out.below b3)
              have B3 := hide (B2.out.trans (b3.mono B2.out.size))
              have HA3 := hide (HA.out.below b3)
              clear b3 KT B2 HA
              generalize w2.heap.size = G at *
              have g0 : w3.cell? ⟨G, 0, none⟩ = some (.int .i64 4) := KT3.out.1 0
              have g1 : w3.cell? ⟨G, 1, none⟩ = some (.string ⟨#[]⟩) := KT3.out.1 1
              have g2 : w3.cell? ⟨G, 2, none⟩ = some (.slice sa 0 sc) := KT3.out.1 2
              have g3 : w3.cell? ⟨G, 3, none⟩ = some (.bool false) := KT3.out.1 3
              have g4 : w3.cell? ⟨G, 4, none⟩ = some (.string x) := KT3.out.1 4
              go_wp2_with fail
              refine (same_plain 4 ⟨#[]⟩ x false (.slice sa 0 sc) (.slice none 0 0) w3 HA3.out (.inl ⟨rfl, rfl⟩)).mono ?_
              rintro e w4 ⟨rfl, b4⟩
              have B4 := hide (B3.out.trans (b4.mono B3.out.size))
              clear b4 B3 g0 g1 g2 g3 g4
              go_wp2
              go_ret
              exact ⟨rfl, B4.out⟩
end Go.Proofs.YtlfjmgniflkapaaDoor
