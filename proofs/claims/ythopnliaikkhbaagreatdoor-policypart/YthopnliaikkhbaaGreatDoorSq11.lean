/- What wordsOf, strings.Split, numberMayBe and depth answer; nothing that was there is written. -/
import Derived.Test.YthopnliaikkhbaaGreatDoorSp11
import Derived.Test.YthopnliaikkhbaaGreatDoorPc11
import Derived.Test.YthopnliaikkhbaaGreatDoorShelf
import Derived.Shelf.Strings.SplitCore
import Derived.Shelf.Strings.Split
set_option linter.unusedVariables false
set_option linter.unusedSimpArgs false
set_option maxRecDepth 4000
namespace Go.Proofs.YthopnliaikkhbaaGreatDoor
open Go.RowKit

theorem blank_any (x : Nat) (w : World) :
    Calls Tryz.prog 74 #[.int .i32 (x : Int)] w fun e w' => e = .returned (.bool (blankR x)) ∧ w' = w := by
  unfold blankR
  by_cases h : x = 32
  · subst h
    go_enter Tryz.func74, Tryz.ntmps74
    go_wp2
    go_ret
    exact ⟨rfl, rfl⟩
  · have h1 : ((x : Int) == 32) = false := ne_lit x 32 (by omega)
    have h2 : (x == 32) = false := by simpa using h
    rw [h2]
    clear h h2
    go_enter Tryz.func74, Tryz.ntmps74
    go_wp2
    go_ret
    exact ⟨rfl, rfl⟩
theorem blank_pred (w : World) : PredAt Tryz.prog 74 #[] encR blankR w := fun W x _ => (blank_any x W).mono fun e w' ⟨h1, h2⟩ => ⟨h1, 0, h2⟩
theorem map_texts (l : List ByteArray) : l.map Value.string = textsV (l.map (·.data.toList)) := by
  unfold textsV
  rw [List.map_map]
  apply List.map_congr_left
  intro x _
  show _ = Value.string ⟨x.data.toList.toArray⟩
  rw [str_self]
set_option maxHeartbeats 1000000 in
theorem wordsOf_any (s : ByteArray) (hs : s.size ≤ 1000000) (w : World) :
    Calls Tryz.prog 54 #[.string s] w fun e w' => ∃ g n, e = .returned (.slice (some ⟨g, 0, none⟩) n n) ∧ w'.ownsRow w.heap.size 9 1 (.slice (some ⟨g, 0, none⟩) n n) n (textsV (wordsL s.data.toList)) ∧ Below w.heap.size w w' := by
  have H := hide (Tryz.strings_FieldsFunc 74 #[] (by intro args w; simp [go_sem]) blankR s w (by omega) (blank_pred w))
  rw [map_texts, fields_is] at H
  generalize textsV (wordsL s.data.toList) = T at *
  generalize (Lib.goFieldsP blankR s).length = n at *
  go_enter Tryz.func54, Tryz.ntmps54
  go_wp2_with fail
  refine H.out.mono ?_
  rintro e w1 ⟨g, rfl, hg, ho, b1⟩
  have HO := hide ho
  have B1 := hide b1
  clear ho b1 H
  go_wp2
  go_ret
  exact ⟨_, _, rfl, HO.out, B1.out⟩
theorem count_ten (s : ByteArray) : Lib.countB s ⟨#[10]⟩ = Lib.countByte s.data.toList 10 := Lib.count_one 10 s.data.toList
theorem index_ten (s : ByteArray) : Lib.indexB s ⟨#[10]⟩ = Lib.indexByte s.data.toList 10 := Lib.index_one s.data.toList 10
set_option maxHeartbeats 1000000 in
theorem split_any (s : ByteArray) (hs : s.size ≤ 1000000) (w : World) :
    Calls Tryz.prog 29 #[.string s, .string ⟨#[10]⟩] w fun e w' => e = .returned (.slice (some ⟨w.heap.size, 0, none⟩) (linesL s.data.toList).length (linesL s.data.toList).length) ∧ w' = w.alloc (.cells (textsV (linesL s.data.toList)).toArray 9) := by
  have hsep : (1 : Nat) ≤ (⟨#[10]⟩ : ByteArray).size := Nat.le_refl _
  have hle := Lib.countB_le ⟨#[10]⟩ hsep s.size s (Nat.le_refl _)
  have hlen := Lib.splitB_all ⟨#[10]⟩ hsep 0 _ s rfl
  have c := Any.strings_genSplit_core Tryz.lays221 (by kernel_rfl) s ⟨#[10]⟩ 0 (-1) (Lib.countB s ⟨#[10]⟩ + 1) w (by omega) hsep (Nat.zero_le _)
    (fun x c hx => (Tryz.strings_Index_one x 10 _).mono fun e w' ⟨h1, h2⟩ => ⟨by rw [h1, index_ten], h2⟩)
    ((Tryz.strings_Count_one s 10 w).mono fun e w' ⟨h1, h2⟩ => ⟨by rw [h1, count_ten], h2⟩) (by decide) (by decide) (by rw [if_pos (by decide)]; omega)
  rw [Nat.add_sub_cancel, hlen] at c
  have e2 : Lib.cellsOf (Lib.splitB ⟨#[10]⟩ 0 (Lib.countB s ⟨#[10]⟩) s) (Lib.countB s ⟨#[10]⟩ + 1) = ((Lib.splitB ⟨#[10]⟩ 0 (Lib.countB s ⟨#[10]⟩) s).map Value.string).toArray := by rw [← hlen]; exact Lib.cellsOf_full _
  rw [e2, map_texts, split_is] at c
  have hl2 : Lib.countB s ⟨#[10]⟩ + 1 = (linesL s.data.toList).length := by rw [← hlen, ← split_is s, List.length_map]
  rw [hl2] at c
  clear hle hlen e2 hl2
  generalize (linesL s.data.toList).length = n at *
  generalize textsV (linesL s.data.toList) = T at *
  have H := hide c
  clear c
  go_enter Tryz.func29, Tryz.ntmps29
  go_wp2_with fail
  refine H.out.mono ?_
  rintro e w1 ⟨rfl, rfl⟩
  go_wp2
  go_ret
  exact ⟨rfl, rfl⟩
theorem deep_one (s : ByteArray) (h : s.size = 1) (h0 : 0 < s.size) : deepL s.data.toList = if figureN (s[0]'h0).toNat then some ((s[0]'h0).toNat - 48) else none := by
  have e := drop_cons s 0 (by omega)
  rw [List.drop_zero, List.drop_eq_nil_of_le (by rw [← size_list]; omega)] at e
  rw [e]
  rfl
theorem deep_two (s : ByteArray) (h : s.size = 2) (h0 : 0 < s.size) (h1 : 1 < s.size) : deepL s.data.toList = if figureN (s[0]'h0).toNat && figureN (s[1]'h1).toNat && !((s[0]'h0).toNat == 48) then some (((s[0]'h0).toNat - 48) * 10 + ((s[1]'h1).toNat - 48)) else none := by
  have e := drop_cons s 0 h0
  have e1 := drop_cons s 1 h1
  have e2 : s.data.toList.drop 2 = [] := List.drop_eq_nil_of_le (by rw [← size_list]; omega)
  rw [List.drop_zero] at e
  rw [e, e1, e2]
  rfl
theorem deep_odd (s : ByteArray) (h1 : s.size ≠ 1) (h2 : s.size ≠ 2) : deepL s.data.toList = none := by
  rw [size_list] at h1 h2
  generalize s.data.toList = l at *
  match l, h1, h2 with
  | [], _, _ => rfl
  | [a], h, _ => exact absurd rfl h
  | [a, b], _, h => exact absurd rfl h
  | a :: b :: c :: r, _, _ => rfl
set_option maxHeartbeats 1000000 in
theorem numberMay_any (s : ByteArray) (hs : s.size ≤ 1000000) (w : World) :
    Calls Tryz.prog 75 #[.string s] w fun e w' => e = .returned (.bool (deepL s.data.toList).isSome) ∧ w' = w := by
  by_cases h1 : s.size = 1
  · have h0 : 0 < s.size := by omega
    rw [deep_one s h1 h0]
    have H := hide (figure_any (s[0]'h0).toNat)
    have hi : ((s.size : Int) == 1) = true := by rw [h1]; rfl
    have hp : (0 : Int) < s.size := by omega
    have hv : (if figureN (s[0]'h0).toNat = true then some ((s[0]'h0).toNat - 48) else none).isSome = figureN (s[0]'h0).toNat := by cases figureN (s[0]'h0).toNat <;> rfl
    rw [hv]
    generalize figureN (s[0]'h0).toNat = F at *
    clear hv h1
    go_enter Tryz.func75, Tryz.ntmps75
    go_wp2_with fail
    refine (H.out _).mono ?_
    rintro e w1 ⟨rfl, rfl⟩
    go_wp2
    go_ret
    exact ⟨rfl, rfl⟩
  · have hi1 : ((s.size : Int) == 1) = false := by rw [beq_eq_false_iff_ne]; omega
    by_cases h2 : s.size = 2
    · have h0 : 0 < s.size := by omega
      have h01 : 1 < s.size := by omega
      rw [deep_two s h2 h0 h01]
      have H1 := hide (figure_any (s[0]'h0).toNat)
      have H2 := hide (figure_any (s[1]'h01).toNat)
      have hi : ((s.size : Int) == 2) = true := by rw [h2]; rfl
      have hv : (if (figureN (s[0]'h0).toNat && figureN (s[1]'h01).toNat && !((s[0]'h0).toNat == 48)) = true then some (((s[0]'h0).toNat - 48) * 10 + ((s[1]'h01).toNat - 48)) else none).isSome = (figureN (s[0]'h0).toNat && figureN (s[1]'h01).toNat && !((s[0]'h0).toNat == 48)) := by cases (figureN (s[0]'h0).toNat && figureN (s[1]'h01).toNat && !((s[0]'h0).toNat == 48)) <;> rfl
      rw [hv]
      generalize figureN (s[0]'h0).toNat = F0 at *
      generalize figureN (s[1]'h01).toNat = F1 at *
      have h3 : (((s[0]'h0).toNat : Int) != 48) = !((s[0]'h0).toNat == 48) := by
        by_cases h : (s[0]'h0).toNat = 48
        · rw [h]; rfl
        · rw [bne_lit (s[0]'h0).toNat 48 (by omega)]; simp [h]
      generalize ((s[0]'h0).toNat == 48) = E at *
      have h0i : (0 : Int) < s.size := by omega
      have h01i : (1 : Int) < s.size := by omega
      clear hv h1 h2
      cases F0
      · go_enter Tryz.func75, Tryz.ntmps75
        go_wp2_with fail
        refine (H1.out _).mono ?_
        rintro e w1 ⟨rfl, rfl⟩
        go_wp2
        go_ret
        exact ⟨rfl, rfl⟩
      · cases F1
        · go_enter Tryz.func75, Tryz.ntmps75
          go_wp2_with fail
          refine (H1.out _).mono ?_
          rintro e w1 ⟨rfl, rfl⟩
          go_wp2_with fail
          refine (H2.out _).mono ?_
          rintro e w1 ⟨rfl, rfl⟩
          go_wp2
          go_ret
          exact ⟨rfl, rfl⟩
        · cases E
          all_goals
            go_enter Tryz.func75, Tryz.ntmps75
            go_wp2_with fail
            refine (H1.out _).mono ?_
            rintro e w1 ⟨rfl, rfl⟩
            go_wp2_with fail
            refine (H2.out _).mono ?_
            rintro e w1 ⟨rfl, rfl⟩
            go_wp2
            go_ret
            exact ⟨rfl, rfl⟩
    · have hi2 : ((s.size : Int) == 2) = false := by rw [beq_eq_false_iff_ne]; omega
      rw [deep_odd s h1 h2]
      clear h1 h2
      go_enter Tryz.func75, Tryz.ntmps75
      go_wp2
      go_ret
      exact ⟨rfl, rfl⟩
theorem atoi_all : (List.range 256).all (fun a => match deepL [UInt8.ofNat a] with | none => true | some n => Lib.atoi [UInt8.ofNat a] == some (n : Int)) = true := by decide +kernel
theorem atoi_all2 : (List.range 256).all (fun a => (List.range 256).all fun b => match deepL [UInt8.ofNat a, UInt8.ofNat b] with | none => true | some n => Lib.atoi [UInt8.ofNat a, UInt8.ofNat b] == some (n : Int)) = true := by decide +kernel
theorem atoi_is (l : Bs) (n : Nat) (h : deepL l = some n) : Lib.atoi l = some (n : Int) ∧ l.length ≤ 2 ∧ n < 100 := by
  match l, h with
  | [], h => cases h
  | [a], h =>
    have k := List.all_eq_true.1 atoi_all a.toNat (List.mem_range.2 a.toNat_lt)
    rw [show UInt8.ofNat a.toNat = a by simp, h] at k
    refine ⟨by simpa using k, by simp, ?_⟩
    unfold deepL at h
    simp only [] at h
    split at h
    · rename_i hf
      simp [figureN] at hf
      have := Option.some.inj h
      omega
    · cases h
  | [a, b], h =>
    have k := List.all_eq_true.1 (List.all_eq_true.1 atoi_all2 a.toNat (List.mem_range.2 a.toNat_lt)) b.toNat (List.mem_range.2 b.toNat_lt)
    rw [show UInt8.ofNat a.toNat = a by simp, show UInt8.ofNat b.toNat = b by simp, h] at k
    refine ⟨by simpa using k, by simp, ?_⟩
    unfold deepL at h
    simp only [] at h
    split at h
    · rename_i hf
      simp [figureN] at hf
      have := Option.some.inj h
      omega
    · cases h
  | a :: b :: c :: r, h => cases h
end Go.Proofs.YthopnliaikkhbaaGreatDoor
