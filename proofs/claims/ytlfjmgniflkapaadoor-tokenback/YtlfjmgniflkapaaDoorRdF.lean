/- The program's markup, textToken, commentToken, plainText. -/
import Derived.Test.YtlfjmgniflkapaaDoorRdE
import Derived.Test.YtlfjmgniflkapaaDoorDataP
set_option linter.unusedVariables false
set_option linter.unusedSimpArgs false
namespace Go.Proofs.YtlfjmgniflkapaaDoor
open Go.RowKit

/-- A token that is told by the reader, and what is left. -/
def TokE (w w' : World) (b : Nat) (s : ByteArray) (R : Tok × List UInt8) (e : Ending) : Prop := But b w w' ∧ RdL w' b s R.2 ∧ ∃ sv, IsA w' sv R.1.attrs ∧ (∀ k, sv.ownBlock = some k → w.heap.size ≤ k) ∧ e = .returned (tokV R.1 sv)

theorem list2 (t : ByteArray) (h : 2 ≤ t.size) : t.data.toList = t[0] :: t[1] :: t.data.toList.drop 2 := by
  have h0 := drop_cons t 0 (by omega)
  have h1 := drop_cons t 1 (by omega)
  rw [List.drop_zero] at h0
  rw [h1] at h0
  exact h0
theorem begins_short (t : ByteArray) (h : t.size < 2) : beginsB t.data.toList = false := by
  have hl := size_list t
  cases hd : t.data.toList with
  | nil => rfl
  | cons a q =>
    cases q with
    | nil => rfl
    | cons c q => rw [hd] at hl; simp at hl; omega
theorem begins_two (t : ByteArray) (h : 2 ≤ t.size) : beginsB t.data.toList = (t[0] == 60 && (letterN t[1].toNat || t[1] == 33 || t[1] == 63 || (t[1] == 47 && decide (2 < t.size)))) := by
  have hl := size_list t
  rw [list2 t h]
  simp only [beginsB]
  have : (!(t.data.toList.drop 2).isEmpty) = decide (2 < t.size) := by
    by_cases h3 : 2 < t.size
    · rw [drop_cons t 2 h3]; simp [h3]
    · rw [drop_end t 2 (by omega)]; simp [h3]
  rw [this]
theorem u8_ne (c d : UInt8) (h : c.toNat ≠ d.toNat) : (c == d) = false := beq_eq_false_iff_ne.2 (fun e => h (by rw [e]))
theorem u8_eq (c d : UInt8) (h : c.toNat = d.toNat) : (c == d) = true := beq_iff_eq.2 (UInt8.toNat_inj.1 h)

set_option maxHeartbeats 1000000 in
theorem markup_any (t : ByteArray) (hs : t.size ≤ 100000) (w : World) :
    Calls Tryd.prog 34 #[.string t] w fun e w' => e = .returned (.bool (beginsB t.data.toList)) ∧ w' = w := by
  by_cases h2 : 2 ≤ t.size
  · have hz : ¬ ((t.size : Int) < 2) := by omega
    have hi0 := run_index_at t 0 0 rfl (by omega)
    have hi1 := run_index_at t 1 1 rfl (by omega)
    have HL := hide (letter_any t[1].toNat)
    rw [begins_two t h2]
    by_cases h60 : t[0].toNat = 60
    · rw [u8_eq t[0] 60 h60, Bool.true_and]
      rw [h60] at hi0
      by_cases h33 : t[1].toNat = 33
      · rw [u8_eq t[1] 33 h33, Bool.or_true, Bool.true_or, Bool.true_or]
        rw [h33] at hi1
        clear HL h33 h60
        go_enter Tryd.func34, Tryd.ntmps34
        go_wp2
        go_ret
        exact ⟨rfl, rfl⟩
      · by_cases h63 : t[1].toNat = 63
        · rw [u8_eq t[1] 63 h63, Bool.or_true, Bool.true_or]
          rw [h63] at hi1
          clear HL h33 h60 h63
          go_enter Tryd.func34, Tryd.ntmps34
          go_wp2
          go_ret
          exact ⟨rfl, rfl⟩
        · by_cases h47 : t[1].toNat = 47
          · have hl : letterN t[1].toNat = false := by rw [h47]; decide
            rw [hl, u8_ne t[1] 33 h33, u8_ne t[1] 63 h63, u8_eq t[1] 47 h47, Bool.true_and, Bool.false_or, Bool.false_or, Bool.false_or]
            rw [h47] at hi1
            clear HL h33 h60 h63 h47 hl
            by_cases h3 : 2 < t.size
            · have h3' : (2 : Int) < t.size := by omega
              rw [show decide (2 < t.size) = true from by simp [h3]]
              go_enter Tryd.func34, Tryd.ntmps34
              go_wp2
              go_ret
              exact ⟨rfl, rfl⟩
            · have h3' : ¬ (2 : Int) < t.size := by omega
              rw [show decide (2 < t.size) = false from by simp [h3]]
              go_enter Tryd.func34, Tryd.ntmps34
              go_wp2
              go_ret
              exact ⟨rfl, rfl⟩
          · rw [u8_ne t[1] 33 h33, u8_ne t[1] 63 h63, u8_ne t[1] 47 h47, Bool.false_and, Bool.or_false, Bool.or_false, Bool.or_false]
            have e1 := ne_lit t[1].toNat 33 (by omega)
            have e2 := ne_lit t[1].toNat 63 (by omega)
            have e3 := ne_lit t[1].toNat 47 (by omega)
            clear h33 h60 h63 h47
            generalize t[1].toNat = n at *
            go_enter Tryd.func34, Tryd.ntmps34
            go_wp2_with fail
            refine (HL.out _).mono ?_
            rintro e w1 ⟨rfl, rfl⟩
            go_wp2
            go_ret
            exact ⟨rfl, rfl⟩
    · rw [u8_ne t[0] 60 h60, Bool.false_and]
      have e1 := ne_lit t[0].toNat 60 (by omega)
      clear HL h60
      generalize t[0].toNat = n at *
      go_enter Tryd.func34, Tryd.ntmps34
      go_wp2
      go_ret
      exact ⟨rfl, rfl⟩
  · rw [begins_short t (by omega)]
    have hz : (t.size : Int) < 2 := by omega
    go_enter Tryd.func34, Tryd.ntmps34
    go_wp2
    go_ret
    exact ⟨rfl, rfl⟩

set_option maxHeartbeats 1000000 in
theorem textToken_any (t : ByteArray) (w : World) :
    Calls Tryd.prog 19 #[.string t] w fun e w' => e = .returned (.agg #[.int .i64 1, .string ⟨#[]⟩, .slice none 0 0, .bool false, .string t]) ∧ Below w.heap.size w w' := by
  go_enter Tryd.func19, Tryd.ntmps19
  go_wp2
  refine bodyPost_ret (v := .agg #[.int .i64 1, .string ⟨#[]⟩, .slice none 0 0, .bool false, .string t]) ?_ rfl ⟨rfl, ?_⟩
  · rw [results_cell_one rfl]
    go_simp
  · exact below_alloc w _
set_option maxHeartbeats 1000000 in
theorem commentToken_any (t : ByteArray) (w : World) :
    Calls Tryd.prog 53 #[.string t] w fun e w' => e = .returned (.agg #[.int .i64 4, .string ⟨#[]⟩, .slice none 0 0, .bool false, .string t]) ∧ Below w.heap.size w w' := by
  go_enter Tryd.func53, Tryd.ntmps53
  go_wp2
  refine bodyPost_ret (v := .agg #[.int .i64 4, .string ⟨#[]⟩, .slice none 0 0, .bool false, .string t]) ?_ rfl ⟨rfl, ?_⟩
  · rw [results_cell_one rfl]
    go_simp
  · exact below_alloc w _
end Go.Proofs.YtlfjmgniflkapaaDoor
