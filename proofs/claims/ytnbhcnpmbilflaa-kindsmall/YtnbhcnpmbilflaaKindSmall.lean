/- Proved: for every set, name and byte KindSmall answers true: a name of at most 300 bytes that Lower changes is in no set; Lower done twice is done once and changes no length; a space is no letter, a letter no figure; two of a byte are white where the byte is a space; and the live question is answered as fixed; the document's own answer has no part in it. Conditions: none beyond the given row's. -/
import Derived.Test.YtnbhcnpmbilflaaRows
import Derived.Test.YtnbhcnpmbilflaaWalkJ
import Derived.WalkKit
import Derived.ProofKit
import Derived.OpenShut
import Derived.ShutString
import Derived.ChangeOld
import Derived.Below
set_option linter.unusedVariables false
namespace Go.Proofs.Ytnbhcnpmbilflaa
open Go.ChangeShapes Go.WideShapes Go.ChangeAt Go.RowKit
open Go.ChangeMaps (open_string shut_string)

theorem ownL : ownKnob Try.prog.godebug = none := by kernel_rfl

theorem conv_two (c : UInt8) (W : World) : (convert 28 9 (.slice (some ⟨W.heap.size, 0, none⟩) 2 2)).run Try.prog (W.alloc (.cells #[.int .u8 (c.toNat : Int), .int .u8 (c.toNat : Int)] 5)) = .ok (.string ⟨#[c, c]⟩) (W.alloc (.cells #[.int .u8 (c.toNat : Int), .int .u8 (c.toNat : Int)] 5)) := by
  refine conv_bytes _ ⟨W.heap.size, 0, none⟩ 2 [c, c] ?_
  intro j hj
  have : j = 0 ∨ j = 1 := by simp at hj; omega
  rcases this with rfl | rfl <;> simp [Addr.add, go_sem]
theorem lower_facts (s : ByteArray) (k : Int) : ∃ x : ByteArray, (⟨(lowerL s.data.toList).toArray⟩ : ByteArray) = x ∧ (⟨(lowerL x.data.toList).toArray⟩ : ByteArray) = x ∧ x.size = s.size ∧ ((x.toList == s.toList) = false → isL k s.data.toList = false) := by
  refine ⟨_, rfl, ?_, ?_, ?_⟩
  · rw [str_data, lower_lower]
  · rw [size_list, size_list, str_data, lower_length]
  · intro h
    cases hb : isL k s.data.toList
    · rfl
    · rw [Lib.toList_data, Lib.toList_data, str_data, is_small k _ hb] at h
      simp at h
theorem ne_self (n : Nat) : ((n : Int) != (n : Int)) = false := by simp

set_option maxHeartbeats 1000000 in
theorem small_same_letter (k : Int) (s x : ByteArray) (c : UInt8) (hs : ¬ (300 : Int) < s.size) (hx : (x.toList == s.toList) = true) (hz : x.size = s.size) 
    (HL : Hid (∀ w, Calls Try.prog 17 #[.string s] w fun e w' => e = .returned (.string x) ∧ Below w.heap.size w w')) (HL2 : Hid (∀ w, Calls Try.prog 17 #[.string x] w fun e w' => e = .returned (.string x) ∧ Below w.heap.size w w'))
    (HI : Hid (∀ w, Calls Try.prog 19 #[.int .i64 k, .string s] w fun e w' => e = .returned (.bool (isL k s.data.toList)) ∧ Below w.heap.size w w')) (HA : Hid (∀ w, Calls Try.prog 8 #[] w fun e w' => e = .returned (.bool true) ∧ Below w.heap.size w w'))
    (HT : Hid (∀ w, Calls Try.prog 11 #[.int .u8 (c.toNat : Int)] w fun e w' => e = .returned (.bool true) ∧ w' = w)) (HS : Hid (∀ w, Calls Try.prog 9 #[.int .u8 (c.toNat : Int)] w fun e w' => e = .returned (.bool false) ∧ w' = w))
    (HF : Hid (∀ w, Calls Try.prog 13 #[.int .u8 (c.toNat : Int)] w fun e w' => e = .returned (.bool false) ∧ w' = w)) (HW : Hid (∀ w, Calls Try.prog 15 #[.string ⟨#[c, c]⟩] w fun e w' => e = .returned (.bool false) ∧ w' = w)) (w : World) :
    Calls Try.prog 7 #[.int .i64 k, .string s, .int .u8 (c.toNat : Int)] w fun e w' => e = .returned (.bool true) ∧ Below w.heap.size w w' := by
  have hcv := conv_two c
  have hnn := ne_self s.size
  go_enter Try.func7, Try.ntmps7
  go_wp2_with fail
  refine (HL.out _).mono ?_
  rintro e w1 ⟨rfl, b1⟩
  go_wp2_with fail
  refine (HL2.out _).mono ?_
  rintro e w2 ⟨rfl, b2⟩
  go_wp2_with fail
  refine (HT.out _).mono ?_
  rintro e w3 ⟨rfl, rfl⟩
  go_wp2_with fail
  refine (HA.out _).mono ?_
  rintro e w4 ⟨rfl, b4⟩
  go_wp2_with fail
  refine (HS.out _).mono ?_
  rintro e w5 ⟨rfl, rfl⟩
  go_wp2_with fail
  refine (HF.out _).mono ?_
  rintro e w6 ⟨rfl, rfl⟩
  go_wp2_with fail
  refine (HW.out _).mono ?_
  rintro e w7 ⟨rfl, rfl⟩
  go_wp2_with fail
  refine (HS.out _).mono ?_
  rintro e w8 ⟨rfl, rfl⟩
  go_wp2
  go_ret
  have c2 := b1.trans (b2.mono b1.size)
  have c4 := c2.trans (b4.mono c2.size)
  exact ⟨by simp, c4.alloc c4.size _⟩

set_option maxHeartbeats 1000000 in
theorem small_same_none (k : Int) (s x : ByteArray) (c : UInt8) (hs : ¬ (300 : Int) < s.size) (hx : (x.toList == s.toList) = true) (hz : x.size = s.size) (S : Bool) 
    (HL : Hid (∀ w, Calls Try.prog 17 #[.string s] w fun e w' => e = .returned (.string x) ∧ Below w.heap.size w w')) (HL2 : Hid (∀ w, Calls Try.prog 17 #[.string x] w fun e w' => e = .returned (.string x) ∧ Below w.heap.size w w'))
    (HI : Hid (∀ w, Calls Try.prog 19 #[.int .i64 k, .string s] w fun e w' => e = .returned (.bool (isL k s.data.toList)) ∧ Below w.heap.size w w')) (HA : Hid (∀ w, Calls Try.prog 8 #[] w fun e w' => e = .returned (.bool true) ∧ Below w.heap.size w w'))
    (HT : Hid (∀ w, Calls Try.prog 11 #[.int .u8 (c.toNat : Int)] w fun e w' => e = .returned (.bool false) ∧ w' = w)) (HS : Hid (∀ w, Calls Try.prog 9 #[.int .u8 (c.toNat : Int)] w fun e w' => e = .returned (.bool S) ∧ w' = w))
    (HF : Hid (∀ w, Calls Try.prog 13 #[.int .u8 (c.toNat : Int)] w fun e w' => e = .returned (.bool (figureN c.toNat)) ∧ w' = w)) (HW : Hid (∀ w, Calls Try.prog 15 #[.string ⟨#[c, c]⟩] w fun e w' => e = .returned (.bool S) ∧ w' = w)) (w : World) :
    Calls Try.prog 7 #[.int .i64 k, .string s, .int .u8 (c.toNat : Int)] w fun e w' => e = .returned (.bool true) ∧ Below w.heap.size w w' := by
  have hcv := conv_two c
  have hnn := ne_self s.size
  go_enter Try.func7, Try.ntmps7
  go_wp2_with fail
  refine (HL.out _).mono ?_
  rintro e w1 ⟨rfl, b1⟩
  go_wp2_with fail
  refine (HL2.out _).mono ?_
  rintro e w2 ⟨rfl, b2⟩
  go_wp2_with fail
  refine (HT.out _).mono ?_
  rintro e w3 ⟨rfl, rfl⟩
  go_wp2_with fail
  refine (HA.out _).mono ?_
  rintro e w4 ⟨rfl, b4⟩
  go_wp2_with fail
  refine (HW.out _).mono ?_
  rintro e w5 ⟨rfl, rfl⟩
  go_wp2_with fail
  refine (HS.out _).mono ?_
  rintro e w6 ⟨rfl, rfl⟩
  go_wp2
  go_ret
  have c2 := b1.trans (b2.mono b1.size)
  have c4 := c2.trans (b4.mono c2.size)
  exact ⟨by simp, c4.alloc c4.size _⟩

set_option maxHeartbeats 1000000 in
theorem small_other_letter (k : Int) (s x : ByteArray) (c : UInt8) (hs : ¬ (300 : Int) < s.size) (hx : (x.toList == s.toList) = false) (hz : x.size = s.size) 
    (HL : Hid (∀ w, Calls Try.prog 17 #[.string s] w fun e w' => e = .returned (.string x) ∧ Below w.heap.size w w')) (HL2 : Hid (∀ w, Calls Try.prog 17 #[.string x] w fun e w' => e = .returned (.string x) ∧ Below w.heap.size w w'))
    (HI : Hid (∀ w, Calls Try.prog 19 #[.int .i64 k, .string s] w fun e w' => e = .returned (.bool false) ∧ Below w.heap.size w w')) (HA : Hid (∀ w, Calls Try.prog 8 #[] w fun e w' => e = .returned (.bool true) ∧ Below w.heap.size w w'))
    (HT : Hid (∀ w, Calls Try.prog 11 #[.int .u8 (c.toNat : Int)] w fun e w' => e = .returned (.bool true) ∧ w' = w)) (HS : Hid (∀ w, Calls Try.prog 9 #[.int .u8 (c.toNat : Int)] w fun e w' => e = .returned (.bool false) ∧ w' = w))
    (HF : Hid (∀ w, Calls Try.prog 13 #[.int .u8 (c.toNat : Int)] w fun e w' => e = .returned (.bool false) ∧ w' = w)) (HW : Hid (∀ w, Calls Try.prog 15 #[.string ⟨#[c, c]⟩] w fun e w' => e = .returned (.bool false) ∧ w' = w)) (w : World) :
    Calls Try.prog 7 #[.int .i64 k, .string s, .int .u8 (c.toNat : Int)] w fun e w' => e = .returned (.bool true) ∧ Below w.heap.size w w' := by
  have hcv := conv_two c
  have hnn := ne_self s.size
  go_enter Try.func7, Try.ntmps7
  go_wp2_with fail
  refine (HL.out _).mono ?_
  rintro e w1 ⟨rfl, b1⟩
  go_wp2_with fail
  refine (HI.out _).mono ?_
  rintro e w2 ⟨rfl, b2⟩
  go_wp2_with fail
  refine (HL2.out _).mono ?_
  rintro e w3 ⟨rfl, b3⟩
  go_wp2_with fail
  refine (HT.out _).mono ?_
  rintro e w4 ⟨rfl, rfl⟩
  go_wp2_with fail
  refine (HA.out _).mono ?_
  rintro e w5 ⟨rfl, b5⟩
  go_wp2_with fail
  refine (HS.out _).mono ?_
  rintro e w6 ⟨rfl, rfl⟩
  go_wp2_with fail
  refine (HF.out _).mono ?_
  rintro e w7 ⟨rfl, rfl⟩
  go_wp2_with fail
  refine (HW.out _).mono ?_
  rintro e w8 ⟨rfl, rfl⟩
  go_wp2_with fail
  refine (HS.out _).mono ?_
  rintro e w9 ⟨rfl, rfl⟩
  go_wp2
  go_ret
  have c2 := b1.trans (b2.mono b1.size)
  have c3 := c2.trans (b3.mono c2.size)
  have c5 := c3.trans (b5.mono c3.size)
  exact ⟨by simp, c5.alloc c5.size _⟩

set_option maxHeartbeats 1000000 in
theorem small_other_none (k : Int) (s x : ByteArray) (c : UInt8) (hs : ¬ (300 : Int) < s.size) (hx : (x.toList == s.toList) = false) (hz : x.size = s.size) (S : Bool) 
    (HL : Hid (∀ w, Calls Try.prog 17 #[.string s] w fun e w' => e = .returned (.string x) ∧ Below w.heap.size w w')) (HL2 : Hid (∀ w, Calls Try.prog 17 #[.string x] w fun e w' => e = .returned (.string x) ∧ Below w.heap.size w w'))
    (HI : Hid (∀ w, Calls Try.prog 19 #[.int .i64 k, .string s] w fun e w' => e = .returned (.bool false) ∧ Below w.heap.size w w')) (HA : Hid (∀ w, Calls Try.prog 8 #[] w fun e w' => e = .returned (.bool true) ∧ Below w.heap.size w w'))
    (HT : Hid (∀ w, Calls Try.prog 11 #[.int .u8 (c.toNat : Int)] w fun e w' => e = .returned (.bool false) ∧ w' = w)) (HS : Hid (∀ w, Calls Try.prog 9 #[.int .u8 (c.toNat : Int)] w fun e w' => e = .returned (.bool S) ∧ w' = w))
    (HF : Hid (∀ w, Calls Try.prog 13 #[.int .u8 (c.toNat : Int)] w fun e w' => e = .returned (.bool (figureN c.toNat)) ∧ w' = w)) (HW : Hid (∀ w, Calls Try.prog 15 #[.string ⟨#[c, c]⟩] w fun e w' => e = .returned (.bool S) ∧ w' = w)) (w : World) :
    Calls Try.prog 7 #[.int .i64 k, .string s, .int .u8 (c.toNat : Int)] w fun e w' => e = .returned (.bool true) ∧ Below w.heap.size w w' := by
  have hcv := conv_two c
  have hnn := ne_self s.size
  go_enter Try.func7, Try.ntmps7
  go_wp2_with fail
  refine (HL.out _).mono ?_
  rintro e w1 ⟨rfl, b1⟩
  go_wp2_with fail
  refine (HI.out _).mono ?_
  rintro e w2 ⟨rfl, b2⟩
  go_wp2_with fail
  refine (HL2.out _).mono ?_
  rintro e w3 ⟨rfl, b3⟩
  go_wp2_with fail
  refine (HT.out _).mono ?_
  rintro e w4 ⟨rfl, rfl⟩
  go_wp2_with fail
  refine (HA.out _).mono ?_
  rintro e w5 ⟨rfl, b5⟩
  go_wp2_with fail
  refine (HW.out _).mono ?_
  rintro e w6 ⟨rfl, rfl⟩
  go_wp2_with fail
  refine (HS.out _).mono ?_
  rintro e w7 ⟨rfl, rfl⟩
  go_wp2
  go_ret
  have c2 := b1.trans (b2.mono b1.size)
  have c3 := c2.trans (b3.mono c2.size)
  have c5 := c3.trans (b5.mono c3.size)
  exact ⟨by simp, c5.alloc c5.size _⟩

set_option maxHeartbeats 1000000 in
theorem kindSmall_walk (k : Int) (hk : (Lit.int .i64 k).wf = true) (s : ByteArray) (a : Int) (ha : (Lit.int .u8 a).wf = true) (w : World) :
    Calls Try.prog 7 #[.int .i64 k, .string s, .int .u8 a] w fun e w' => e = .returned (.bool true) ∧ Below w.heap.size w w' := by
  obtain ⟨c, rfl⟩ := byte_of a ha
  clear ha hk
  have H1 := hide alive_any
  by_cases hs : 300 < s.size
  · have hs2 : (300 : Int) < s.size := by omega
    clear hs
    go_enter Try.func7, Try.ntmps7
    go_wp2_with fail
    refine (H1.out _).mono ?_
    rintro e w1 ⟨rfl, b1⟩
    go_wp2
    go_ret
    exact ⟨rfl, b1⟩
  · have hs2 : ¬ (300 : Int) < s.size := by omega
    obtain ⟨x, x1, x2, x3, x4⟩ := lower_facts s k
    have HL := lower_any s (by omega)
    rw [x1] at HL
    have HL2 := lower_any x (by omega)
    rw [x2] at HL2
    have HI : ∀ w, Calls Try.prog 19 #[.int .i64 k, .string s] w fun e w' => e = .returned (.bool (isL k s.data.toList)) ∧ Below w.heap.size w w' := is_any k s
    have HT := letter_any c.toNat
    have HS := space_any c.toNat
    have HF := figure_any c.toNat
    have HW := white_any ⟨#[c, c]⟩ (by show 2 ≤ 1000000; omega)
    rw [show whiteL (⟨#[c, c]⟩ : ByteArray).data.toList = spaceN c.toNat from white_two c] at HW
    have ls := letter_space c
    have lf := letter_figure c
    unfold isLetter isSpace at ls
    unfold isLetter isFigure at lf
    cases ht : letterN c.toNat
    · rw [ht] at HT
      cases hx : x.toList == s.toList
      · rw [x4 hx] at HI
        exact small_other_none k s x c hs2 hx x3 (spaceN c.toNat) HL HL2 HI H1 HT HS HF HW w
      · exact small_same_none k s x c hs2 hx x3 (spaceN c.toNat) HL HL2 HI H1 HT HS HF HW w
    · rw [ht] at HT
      rw [ls ht] at HS HW
      rw [lf ht] at HF
      cases hx : x.toList == s.toList
      · rw [x4 hx] at HI
        exact small_other_letter k s x c hs2 hx x3 HL HL2 HI H1 HT HS HF HW w
      · exact small_same_letter k s x c hs2 hx x3 HL HL2 HI H1 HT HS HF HW w

set_option maxRecDepth 100000 in
theorem kindSmall_lifted (os : Os) (started : os.Started) (H : Type) (enc : TypeId × Value → H) :
    ReturnsInHanded {} Try.checked os 7 .any (Rows.kindSmallSpec.pre6 enc Try.prog Try.f7 Rows.kindSmallRow.domain false) (Rows.kindSmallSpec.post enc Try.prog Try.f7 false true false false) := by
  refine returnsInHanded_of_change (C := Try.checked) ownL started (by kernel_rfl) Try.func7
    (ChangeSpec.witness6 (enc := enc) (C := Try.checked) false ⟨#[], #[.int .i64 0, .string ByteArray.empty, .int .u8 0], []⟩ 8 (by kernel_rfl) (by kernel_rfl) (by kernel_rfl) (by kernel_rfl)) ?_
  intro W base args ds gs before hval0 hW hcnd _
  have hval : ∀ (j : Nat) t v, Try.f7.params[j]? = some t → args[j]? = some v → Value.okWide Try.prog W .any base t v := hval0
  have hW' := hW
  obtain ⟨p, q, hA0, hV, rfl, hfz, hnd⟩ := hW
  have hA : DataW.TrodAll enc Try.prog W 0 (fun _ => true) true Try.f7.params.toList args.toList ds p := hA0
  rw [Try.params7] at hA hval
  obtain ⟨v0, vs0, d0, ds0, p0, q0, hargs, rfl, rfl, h0, r0⟩ := trodAll_cons hA
  obtain ⟨v1, vs1, d1, ds1, p1, q1, rfl, rfl, rfl, h1, r1⟩ := trodAll_cons r0
  obtain ⟨v2, vs2, d2, ds2, p2, q2, rfl, rfl, rfl, h2, r2⟩ := trodAll_cons r1
  obtain ⟨rfl, rfl, rfl⟩ := trodAll_nil r2
  obtain rfl : args = #[v0, v1, v2] := by cases args; simp_all
  obtain ⟨rfl, rfl⟩ := trodVars_none hV
  obtain ⟨a0, rfl, rfl, rfl, w0⟩ := open_int Try.underlying26 (hval 0 26 v0 rfl rfl) h0
  obtain ⟨a1, rfl, rfl, rfl, w1⟩ := open_string Try.underlying9 (hval 1 9 v1 rfl rfl) h1
  obtain ⟨a2, rfl, rfl, rfl, w2⟩ := open_int Try.underlying5 (hval 2 5 v2 rfl rfl) h2
  clear hA0 hval0
  refine (kindSmall_walk a0 w0 a1 a2 w2 W  ).mono fun e W' ⟨he, bel⟩ => ?_
  subst he
  exact ⟨_, rfl, _, _, _, [], _, [], hW', trodAll_mk1 (shut_bool Try.underlying4 _), (trodAll_cons_mk (shut_int Try.underlying26 w0) (trodAll_cons_mk (shut_string Try.underlying9 w1) (trodAll_cons_mk (shut_int Try.underlying5 w2) trodAll_mk0))), rfl, bel.frame _, fun h => by cases h⟩

theorem kindSmall_holds : Rows.KindSmallSaid :=
  OpenClaim.holds_of_wide 7 Try.f7 rfl rfl rfl rfl rfl rfl rfl ⟨rfl, rfl, rfl, rfl, rfl⟩ rfl rfl rfl rfl rfl (by kernel_rfl) Try.func7 (by kernel_rfl)
    (of_decide_eq_true (by kernel_rfl)) (by unfold Func.isWrapper; first | (rw [if_pos (by decide +kernel)]; kernel_rfl) | (rw [if_neg (by decide +kernel)]; exact ⟨rfl, rfl⟩))
    (fun os started H enc _ => kindSmall_lifted os started H enc)
end Go.Proofs.Ytnbhcnpmbilflaa
