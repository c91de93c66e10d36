/- What the program's escapeFirst and Escape answer, of whatever text; nothing that was there is written. -/
import Derived.Test.YthoibenncjbkdaaDoorSc9
set_option linter.unusedVariables false
set_option linter.unusedSimpArgs false
set_option maxRecDepth 4000
namespace Go.Proofs.YthoibenncjbkdaaDoor
open Go.RowKit

theorem has_two (s : ByteArray) (c : UInt8) (r : List UInt8) (hs : s.data.toList = c :: r) : (s.data.toList.take 2 == [194, 160]) = (decide (c = 194 ∧ r.head? = some 160)) := by
  rw [hs]
  cases r with
  | nil => simp
  | cons d t =>
    simp only [List.take_succ_cons, List.take_zero, List.head?_cons, Option.some.injEq]
    by_cases h1 : c = 194
    · by_cases h2 : d = 160
      · simp [h1, h2]
      · simp [h1, h2]
    · simp [h1]
set_option maxHeartbeats 1000000 in
theorem slprefix_two (s : ByteArray) (hs : s.size ≤ 100000000) (w : World) :
    Calls Tryd.prog 21 #[.string s, .string ⟨#[194, 160]⟩] w fun e w' => e = .returned (.bool (s.data.toList.take 2 == [194, 160])) ∧ w' = w := by
  have hz := S5.size_list s
  by_cases h2 : 2 ≤ s.size
  · have h2' : (2 : Int) ≤ s.size := by omega
    have hx : (s.extract 0 2).toList = s.data.toList.take 2 := by
      rw [Lib.toList_data, Lib.extract_data]
      simp
    have hy : (⟨#[194, 160]⟩ : ByteArray).toList = [194, 160] := by
      rw [Lib.toList_data]
    rw [← hx]
    clear hx hy hz
    go_enter Tryd.func21, Tryd.ntmps21
    go_wp2
    go_ret
    exact ⟨rfl, rfl⟩
  · have h2' : ¬ (2 : Int) ≤ s.size := by omega
    have hx : (s.data.toList.take 2 == [194, 160]) = false := by
      rw [beq_eq_false_iff_ne]
      intro h
      have := congrArg List.length h
      simp at this
      rw [Array.length_toList] at hz
      have h3 : s.data.size = s.size := rfl
      omega
    rw [hx]
    clear hx hz
    go_enter Tryd.func21, Tryd.ntmps21
    go_wp2
    go_ret
    exact ⟨rfl, rfl⟩
set_option maxHeartbeats 1000000 in
theorem prefix_two (s : ByteArray) (hs : s.size ≤ 100000000) (w : World) :
    Calls Tryd.prog 15 #[.string s, .string ⟨#[194, 160]⟩] w fun e w' => e = .returned (.bool (s.data.toList.take 2 == [194, 160])) ∧ w' = w := by
  have H := hide (slprefix_two s hs)
  generalize (s.data.toList.take 2 == [194, 160]) = V at *
  clear hs
  go_enter Tryd.func15, Tryd.ntmps15
  go_wp2_with fail
  refine (H.out _).mono ?_
  rintro e w1 ⟨rfl, rfl⟩
  go_wp2
  go_ret
  exact ⟨rfl, rfl⟩
theorem ne_lit9 (n : Nat) (k : Int) (h : (n : Int) ≠ k) : ((n : Int) == k) = false := beq_eq_false_iff_ne.2 h
theorem list_head (s : ByteArray) (h : 0 < s.size) : s.data.toList = s[0] :: s.data.toList.drop 1 := by
  have h2 : 0 < s.data.toList.length := by rw [← S5.size_list]; exact h
  have := List.drop_eq_getElem_cons h2
  rw [List.drop_zero] at this
  exact this
theorem head_one (s : ByteArray) (h : 0 < s.size) : (s.extract 0 1) = ⟨#[s[0]]⟩ := by
  refine S5.str_of _ [s[0]] ?_
  rw [Lib.extract_data, List.drop_zero]
  have := list_head s h
  rw [this]
  simp
theorem nat_u8 {c : UInt8} {n : Nat} (d : UInt8) (hd : d.toNat = n) (h : c ≠ d) : ((c.toNat : Int) == (n : Int)) = false := by
  refine beq_eq_false_iff_ne.2 fun e => h ?_
  exact UInt8.toNat_inj.1 (by rw [hd]; omega)
def escP (attr : Bool) (s : ByteArray) (T : List UInt8) (n : Nat) : Prop := ∀ w : World, Calls Tryd.prog 8 #[.string s, .bool attr] w fun e w' => e = .returned (.tuple #[.string ⟨T.toArray⟩, .int .i64 (n : Int)]) ∧ w' = w
set_option maxHeartbeats 2000000 in
theorem first_any (s : ByteArray) (h : 0 < s.size) (hs : s.size ≤ 100000000) (attr : Bool) : escP attr s (escF attr s[0] (s.data.toList.drop 1)).1 (escF attr s[0] (s.data.toList.drop 1)).2 := by
  intro w
  have hp : (0 : Int) < s.size := by omega
  have HP := hide (prefix_two s hs)
  have ht := has_two s s[0] _ (list_head s h)
  have h1 := head_one s h
  unfold escF oneB
  generalize (s.data.toList.drop 1) = r at *
  generalize s.data.toList.take 2 = t2 at *
  generalize hc : s[0] = c at *
  by_cases c1 : c = 38
  · subst c1
    rw [if_neg (by simp), if_pos rfl]
    clear HP ht h1
    go_enter Tryd.func8, Tryd.ntmps8
    go_wp2
    go_ret2
    exact ⟨rfl, rfl⟩
  · have e1 := nat_u8 (c := c) (n := 38) 38 rfl c1
    by_cases c2 : c = 60
    · subst c2
      rw [if_neg (by simp), if_neg (by simp), if_pos rfl]
      clear HP ht h1
      go_enter Tryd.func8, Tryd.ntmps8
      go_wp2
      go_ret2
      exact ⟨rfl, rfl⟩
    · have e2 := nat_u8 (c := c) (n := 60) 60 rfl c2
      by_cases c3 : c = 62
      · subst c3
        rw [if_neg (by simp), if_neg (by simp), if_neg (by simp), if_pos rfl]
        clear HP ht h1
        go_enter Tryd.func8, Tryd.ntmps8
        go_wp2
        go_ret2
        exact ⟨rfl, rfl⟩
      · have e3 := nat_u8 (c := c) (n := 62) 62 rfl c3
        by_cases c4 : c = 34 ∧ attr = true
        · obtain ⟨rfl, rfl⟩ := c4
          rw [if_neg (by simp), if_neg (by simp), if_neg (by simp), if_neg (by simp), if_pos ⟨rfl, rfl⟩]
          clear HP ht h1
          go_enter Tryd.func8, Tryd.ntmps8
          go_wp2
          go_ret2
          exact ⟨rfl, rfl⟩
        · rw [if_neg c1, if_neg c2, if_neg c3, if_neg c4]
          by_cases c5 : c = 194 ∧ r.head? = some 160
          · obtain ⟨rfl, c6⟩ := c5
            rw [if_pos ⟨rfl, c6⟩]
            rw [show (t2 == [194, 160]) = true by rw [ht]; simp [c6]] at HP
            clear ht h1 c4
            go_enter Tryd.func8, Tryd.ntmps8
            go_wp2_with fail
            refine (HP.out _).mono ?_
            rintro e w1 ⟨rfl, rfl⟩
            go_wp2
            go_ret2
            exact ⟨rfl, rfl⟩
          · rw [if_neg c5]
            rw [show (t2 == [194, 160]) = false by rw [ht]; simp only [decide_eq_false_iff_not]; exact c5] at HP
            clear ht
            by_cases c7 : c = 34
            · subst c7
              obtain rfl : attr = false := by
                cases attr
                · rfl
                · exact absurd ⟨rfl, rfl⟩ c4
              clear c4 c5
              go_enter Tryd.func8, Tryd.ntmps8
              go_wp2_with fail
              refine (HP.out _).mono ?_
              rintro e w1 ⟨rfl, rfl⟩
              go_wp2
              go_ret2
              exact ⟨rfl, rfl⟩
            · have e4 := nat_u8 (c := c) (n := 34) 34 rfl c7
              have e5 : ¬ (c.toNat : Int) = 34 := fun e => c7 (UInt8.toNat_inj.1 (by show c.toNat = 34; omega))
              have e6 : ¬ c.toNat = 34 := fun e => e5 (by omega)
              clear c4 c5
              go_enter Tryd.func8, Tryd.ntmps8
              go_wp2_with fail
              refine (HP.out _).mono ?_
              rintro e w1 ⟨rfl, rfl⟩
              go_wp2
              go_ret2
              exact ⟨rfl, rfl⟩
end Go.Proofs.YthoibenncjbkdaaDoor
