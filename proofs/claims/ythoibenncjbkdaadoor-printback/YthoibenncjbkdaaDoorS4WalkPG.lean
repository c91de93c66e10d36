/- What the program's At answers, at whatever place of whatever text, where the table stands as it was laid; the world stays as it was. -/
import Derived.Test.YthoibenncjbkdaaDoorS4WalkPE
import Derived.Test.YthoibenncjbkdaaDoorS4WalkPF
set_option linter.unusedVariables false
set_option linter.unusedSimpArgs false
set_option maxRecDepth 4000
namespace Go.Proofs.YthoibenncjbkdaaDoor.S4
open Go.RowKit

theorem atL_num (attr : Bool) (r : List UInt8) (h : Lib.hasPrefix (38 :: r) [38, 35] = true) : atL attr (38 :: r) = if (numL ((38 :: r).drop 2)).2 = 0 then ([38], 1) else numL ((38 :: r).drop 2) := by
  cases r with
  | nil => exact absurd h (by decide)
  | cons c q =>
    have hc : c = 35 := by
      simp [Lib.hasPrefix, List.isPrefixOf] at h
      exact h.symm
    subst hc
    simp only [atL, if_true]
    unfold refL
    rw [if_pos (show (35 :: q : List UInt8).head? = some 35 from rfl)]
    rfl
theorem atL_name (attr : Bool) (r : List UInt8) (h : Lib.hasPrefix (38 :: r) [38, 35] = false) : atL attr (38 :: r) = if (nameL attr ((38 :: r).drop 1)).2 = 0 then ([38], 1) else nameL attr ((38 :: r).drop 1) := by
  have hh : ¬ r.head? = some 35 := by
    cases r with
    | nil => simp
    | cons c q =>
      intro hc
      simp only [List.head?_cons, Option.some.injEq] at hc
      subst hc
      simp [Lib.hasPrefix, List.isPrefixOf] at h
  simp only [atL, if_true, List.drop_succ_cons, List.drop_zero]
  unfold refL nameL
  rw [if_neg hh]
  cases longL r with
  | none => rfl
  | some p =>
    obtain ⟨c, n⟩ := p
    simp only
    split
    · rfl
    · rw [if_neg (by simp)]
theorem two_le (t : ByteArray) (h : Lib.hasPrefix t.data.toList [38, 35] = true) : 2 ≤ t.size := by
  have h1 := List.isPrefixOf_iff_prefix.1 (show List.isPrefixOf [38, 35] t.data.toList = true from h)
  have := h1.length_le
  rw [size_list]
  simpa using this

set_option maxHeartbeats 1500000 in
theorem at_in (s : ByteArray) (hs : s.size ≤ 1000000) (p : Nat) (hp : p < s.size) (h38 : (s[p]).toNat = 38) (attr : Bool) (w : World) (ho : OldOk w) :
    Calls Tryd.prog 11 #[.string s, .int .i64 (p : Int), .bool attr] w fun e w' => e = .returned (.tuple #[.string ⟨((atL attr (s.data.toList.drop p)).1).toArray⟩, .int .i64 ((atL attr (s.data.toList.drop p)).2 : Nat)]) ∧ w' = w := by
  have hx : (s.extract p s.size).data.toList = s.data.toList.drop p := by
    rw [Lib.extract_data, List.take_of_length_le (by rw [List.length_drop, ← size_list]; omega)]
  have hsz : (s.extract p s.size).size = s.size - p := by rw [ByteArray.size_extract]; omega
  have hdc := drop_cons s p hp
  rw [UInt8.toNat_inj.1 (show (s[p]).toNat = (38 : UInt8).toNat from h38)] at hdc
  have HH : Hid (∀ w, Calls Tryd.prog 15 #[.string (s.extract p s.size), .string ⟨#[38, 35]⟩] w fun e w' => e = .returned (.bool (Lib.hasPrefix (s.data.toList.drop p) [38, 35])) ∧ w' = w) := by
    refine hide fun w => ?_
    have := Tryd.strings_HasPrefix (s.extract p s.size) ⟨#[38, 35]⟩ w
    rw [hx] at this
    exact this
  have h38b := eq_lit _ 38 (by omega : ((s[p]).toNat : Int) = 38)
  have hix := run_index_at s p (p : Int) rfl hp
  rw [h38] at hix
  have d0 : ¬ (p : Int) < 0 := by omega
  have d1 : ¬ (s.size : Int) ≤ p := by omega
  have hp2 : (p : Int) < s.size := by omega
  cases hb : Lib.hasPrefix (s.data.toList.drop p) [38, 35] with
  | true =>
    have hn := num_any (s.extract p s.size) (by omega) (two_le _ (by rw [hx]; exact hb)) w ho
    rw [hx] at hn
    have hR := hdc ▸ atL_num attr (s.data.toList.drop (p + 1)) (hdc ▸ hb)
    rw [hb] at HH
    rw [hR]
    have HN := hide hn
    clear hn hR hb ho h38 hdc hx h38b
    generalize numL (List.drop 2 (s.data.toList.drop p)) = R at *
    obtain ⟨T, n⟩ := R
    by_cases hn0 : n = 0
    · subst hn0
      have HN' : Hid (Calls Tryd.prog 17 #[.string (s.extract p s.size)] w fun e w' => e = .returned (.tuple #[.string ⟨T.toArray⟩, .int .i64 0]) ∧ w' = w) := HN
      clear HN
      rw [if_pos rfl]
      go_enter Tryd.func11, Tryd.ntmps11
      go_wp2_with fail
      refine (HH.out _).mono ?_
      rintro e w1 ⟨rfl, rfl⟩
      go_wp2_with fail
      refine HN'.out.mono ?_
      rintro e w1 ⟨rfl, rfl⟩
      go_wp2
      go_ret2
      exact ⟨rfl, rfl⟩
    · have HN' : Hid (Calls Tryd.prog 17 #[.string (s.extract p s.size)] w fun e w' => e = .returned (.tuple #[.string ⟨T.toArray⟩, .int .i64 (n : Int)]) ∧ w' = w) := HN
      clear HN
      rw [if_neg hn0]
      have e1 := ne_lit n 0 (by omega)
      clear hn0
      go_enter Tryd.func11, Tryd.ntmps11
      go_wp2_with fail
      refine (HH.out _).mono ?_
      rintro e w1 ⟨rfl, rfl⟩
      go_wp2_with fail
      refine HN'.out.mono ?_
      rintro e w1 ⟨rfl, rfl⟩
      go_wp2
      go_ret2
      exact ⟨rfl, rfl⟩
  | false =>
    have hn := name_any (s.extract p s.size) (by omega) (by omega) attr w
    rw [hx] at hn
    have hR := hdc ▸ atL_name attr (s.data.toList.drop (p + 1)) (hdc ▸ hb)
    rw [hb] at HH
    rw [hR]
    have HN := hide hn
    clear hn hR hb ho h38 hdc hx h38b
    generalize nameL attr (List.drop 1 (s.data.toList.drop p)) = R at *
    obtain ⟨T, n⟩ := R
    by_cases hn0 : n = 0
    · subst hn0
      have HN' : Hid (Calls Tryd.prog 18 #[.string (s.extract p s.size), .bool attr] w fun e w' => e = .returned (.tuple #[.string ⟨T.toArray⟩, .int .i64 0]) ∧ w' = w) := HN
      clear HN
      rw [if_pos rfl]
      go_enter Tryd.func11, Tryd.ntmps11
      go_wp2_with fail
      refine (HH.out _).mono ?_
      rintro e w1 ⟨rfl, rfl⟩
      go_wp2_with fail
      refine HN'.out.mono ?_
      rintro e w1 ⟨rfl, rfl⟩
      go_wp2
      go_ret2
      exact ⟨rfl, rfl⟩
    · have HN' : Hid (Calls Tryd.prog 18 #[.string (s.extract p s.size), .bool attr] w fun e w' => e = .returned (.tuple #[.string ⟨T.toArray⟩, .int .i64 (n : Int)]) ∧ w' = w) := HN
      clear HN
      rw [if_neg hn0]
      have e1 := ne_lit n 0 (by omega)
      clear hn0
      go_enter Tryd.func11, Tryd.ntmps11
      go_wp2_with fail
      refine (HH.out _).mono ?_
      rintro e w1 ⟨rfl, rfl⟩
      go_wp2_with fail
      refine HN'.out.mono ?_
      rintro e w1 ⟨rfl, rfl⟩
      go_wp2
      go_ret2
      exact ⟨rfl, rfl⟩

set_option maxHeartbeats 1500000 in
theorem at_same (s : ByteArray) (hs : s.size ≤ 1000000) (z : Int) (attr : Bool) (w : World) (ho : OldOk w) :
    Calls Tryd.prog 11 #[.string s, .int .i64 z, .bool attr] w fun e w' => e = .returned (.tuple #[.string ⟨((atZ attr s.data.toList z).1).toArray⟩, .int .i64 ((atZ attr s.data.toList z).2 : Nat)]) ∧ w' = w := by
  have hl := size_list s
  by_cases h0 : z < 0
  · rw [atZ_out attr _ z (.inl h0)]
    clear ho hl
    go_enter Tryd.func11, Tryd.ntmps11
    go_wp2
    go_ret2
    exact ⟨rfl, rfl⟩
  · by_cases h1 : (s.size : Int) ≤ z
    · rw [atZ_out attr _ z (.inr (by omega))]
      clear ho hl
      go_enter Tryd.func11, Tryd.ntmps11
      go_wp2
      go_ret2
      exact ⟨rfl, rfl⟩
    · obtain ⟨p, rfl⟩ : ∃ p : Nat, z = (p : Int) := ⟨z.toNat, by omega⟩
      have hp : p < s.size := by omega
      rw [atZ_in attr _ p (by omega)]
      by_cases hc : (s[p]).toNat = 38
      · exact at_in s hs p hp hc attr w ho
      · rw [at_other attr s p hp hc]
        have hix := run_index_at s p (p : Int) rfl hp
        have e1 := ne_lit _ 38 (by omega : ((s[p]).toNat : Int) ≠ 38)
        have e2 : ¬ ((s[p]).toNat : Int) = 38 := by omega
        generalize (s[p]).toNat = cc at *
        clear ho hl hc
        go_enter Tryd.func11, Tryd.ntmps11
        go_wp2
        go_ret2
        exact ⟨rfl, rfl⟩
theorem at_any (s : ByteArray) (hs : s.size ≤ 1000000) (z : Int) (hz : (Lit.int .i64 z).wf = true) (attr : Bool) (w : World) (ho : OldOk w) :
    Calls Tryd.prog 11 #[.string s, .int .i64 z, .bool attr] w fun e w' => e = .returned (.tuple #[.string ⟨((atZ attr s.data.toList z).1).toArray⟩, .int .i64 ((atZ attr s.data.toList z).2 : Nat)]) ∧ Below w.heap.size w w' :=
  (at_same s hs z attr w ho).mono fun e w' ⟨h1, h2⟩ => ⟨h1, by rw [h2]; exact Below.refl _ _⟩
end Go.Proofs.YthoibenncjbkdaaDoor.S4
