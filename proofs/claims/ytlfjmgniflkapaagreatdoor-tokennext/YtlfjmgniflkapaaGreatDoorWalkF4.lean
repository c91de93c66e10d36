/- What the document's own comment answers; nothing that was there is written. -/
import Derived.Test.YtlfjmgniflkapaaGreatDoorWalkE4
set_option linter.unusedVariables false
set_option linter.unusedSimpArgs false
namespace Go.Proofs.YtlfjmgniflkapaaGreatDoor
open Go.RowKit

theorem suf_here (t o : ByteArray) (h : o.size ≤ t.size) : hereL t o (t.size - o.size) = o.data.toList.isSuffixOf t.data.toList := by
  unfold hereL
  rw [Bool.eq_iff_iff, List.isPrefixOf_iff_prefix, List.isSuffixOf_iff_suffix]
  have hl : (t.data.toList.drop (t.size - o.size)).length = o.data.toList.length := by rw [List.length_drop, ← size_list, ← size_list]; omega
  constructor
  · intro hp
    have := hp.eq_of_length hl.symm
    rw [this]
    exact List.drop_suffix _ _
  · intro hp
    rw [List.suffix_iff_eq_drop] at hp
    rw [← size_list, ← size_list] at hp
    exact ⟨[], by rw [List.append_nil]; exact hp⟩
theorem suf_not (t o : ByteArray) (h : ¬ o.size ≤ t.size) : o.data.toList.isSuffixOf t.data.toList = false := by
  rw [Bool.eq_false_iff]
  intro hp
  rw [List.isSuffixOf_iff_suffix] at hp
  have := hp.length_le
  rw [← size_list, ← size_list] at this
  exact h this
theorem suf_any (t o : ByteArray) (ht : t.size ≤ 1000000) (ho : 1 ≤ o.size) (ho2 : o.size ≤ 1000000) (w : World) :
    Calls Tryz.prog 28 #[.string t, .int .i64 ((t.size : Int) - o.size), .string o] w fun e w' => e = .returned (.bool (o.data.toList.isSuffixOf t.data.toList)) ∧ w' = w := by
  by_cases h : o.size ≤ t.size
  · rw [← suf_here t o h, show (t.size : Int) - o.size = ((t.size - o.size : Nat) : Int) by omega]
    exact here_any t o ht ho ho2 _ (by omega) w
  · rw [suf_not t o h]
    exact here_neg t o _ (by omega) w
set_option maxHeartbeats 1000000 in
theorem comment_1 (s : ByteArray) (hs : s.size ≤ 100000) (p : Nat) (hp : p ≤ s.size) (h1 : hereL s ⟨#[62]⟩ p = true) (w : World) :
    Calls Tryz.prog 31 #[.string s, .int .i64 (p : Int)] w fun e w' => e = .returned (.tuple #[tokV { kind := 4 } (.slice none 0 0), .int .i64 ((p + 1 : Nat) : Int)]) ∧ Below w.heap.size w w' := by
  have HH := hide (here_any s ⟨#[62]⟩ (by omega) (by decide) (by decide) p (by omega))
  rw [h1] at HH
  clear h1
  go_enter Tryz.func31, Tryz.ntmps31
  go_wp2_with fail
  refine (HH.out _).mono ?_
  rintro e w1 ⟨rfl, rfl⟩
  go_wp2
  all_goals (try simp only [Exit.inBlock, Exit.then])
  all_goals refine bodyPost_ret (v := .tuple #[tokV { kind := 4 } (.slice none 0 0), .int .i64 ((p + 1 : Nat) : Int)]) ?_ rfl ⟨rfl, below_alloc w _⟩
  all_goals (rw [results_cell_tmp rfl]; go_simp)
  all_goals rfl
set_option maxHeartbeats 1000000 in
theorem comment_2 (s : ByteArray) (hs : s.size ≤ 100000) (p : Nat) (hp : p ≤ s.size) (h1 : hereL s ⟨#[62]⟩ p = false) (h2 : hereL s ⟨#[45, 62]⟩ p = true) (w : World) :
    Calls Tryz.prog 31 #[.string s, .int .i64 (p : Int)] w fun e w' => e = .returned (.tuple #[tokV { kind := 4 } (.slice none 0 0), .int .i64 ((p + 2 : Nat) : Int)]) ∧ Below w.heap.size w w' := by
  have HH := hide (here_any s ⟨#[62]⟩ (by omega) (by decide) (by decide) p (by omega))
  have HG := hide (here_any s ⟨#[45, 62]⟩ (by omega) (by decide) (by decide) p (by omega))
  rw [h1] at HH
  rw [h2] at HG
  clear h1 h2
  go_enter Tryz.func31, Tryz.ntmps31
  go_wp2_with fail
  refine (HH.out _).mono ?_
  rintro e w1 ⟨rfl, rfl⟩
  go_wp2_with fail
  refine (HG.out _).mono ?_
  rintro e w1 ⟨rfl, rfl⟩
  go_wp2
  all_goals (try simp only [Exit.inBlock, Exit.then])
  all_goals refine bodyPost_ret (v := .tuple #[tokV { kind := 4 } (.slice none 0 0), .int .i64 ((p + 2 : Nat) : Int)]) ?_ rfl ⟨rfl, below_alloc w _⟩
  all_goals (rw [results_cell_tmp rfl]; go_simp)
  all_goals rfl
end Go.Proofs.YtlfjmgniflkapaaGreatDoor
