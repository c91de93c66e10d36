/- ArenaNil's walk. -/
import Derived.Test.YtjgklemhlmgheaaAl5
import Derived.Test.YtjgklemhlmgheaaSm5
set_option linter.unusedVariables false
set_option linter.unusedSimpArgs false
namespace Go.Proofs.Ytjgklemhlmgheaa
open Go.RowKit

set_option maxHeartbeats 1000000 in
theorem len_z (w : World) : Calls Try.prog 13 #[.pointer none] w fun e w' => e = .returned (.int .i64 0) ∧ Below w.heap.size w w' := by
  go_enter Try.func13, Try.ntmps13
  go_wp2
  go_ret
  exact ⟨rfl, Below.refl _ _⟩
set_option maxHeartbeats 1000000 in
theorem has_z (z : Int) (w : World) : Calls Try.prog 42 #[.pointer none, .int .i64 z] w fun e w' => e = .returned (.bool false) ∧ Below w.heap.size w w' := by
  by_cases h : 0 ≤ z
  · have h2 : ¬ z < 0 := by omega
    go_enter Try.func42, Try.ntmps42
    go_wp2
    go_ret
    exact ⟨rfl, Below.refl _ _⟩
  · go_enter Try.func42, Try.ntmps42
    go_wp2
    go_ret
    exact ⟨rfl, Below.refl _ _⟩
set_option maxHeartbeats 1000000 in
theorem more_z (k q0 sp : Int) (nm : ByteArray) (a1 a2 a3 : Option Addr) (n1 n2 n3 c1 c2 c3 : Nat) (w : World) : Calls Try.prog 51 #[.pointer none, .agg #[.int .i64 k, .int .i64 q0, .slice a1 n1 c1, .int .i64 sp, .string nm, .slice a2 n2 c2, .slice a3 n3 c3]] w fun e w' => e = .returned (.int .i64 (-1)) ∧ Below w.heap.size w w' := by
  have HL := hide len_z
  have B0 := hide (below_alloc w (.cells #[.int .i64 k, .int .i64 q0, .slice a1 n1 c1, .int .i64 sp, .string nm, .slice a2 n2 c2, .slice a3 n3 c3] 66))
  go_enter Try.func51, Try.ntmps51
  go_wp2_with fail
  refine (HL.out _).mono ?_
  rintro e x1 ⟨rfl, b1⟩
  have B1 := hide (B0.out.trans (b1.mono B0.out.size))
  clear b1
  go_wp2
  go_ret
  exact ⟨rfl, B1.out⟩
set_option maxHeartbeats 1000000 in
theorem element_z (sp : Int) (s : ByteArray) (w : World) : Calls Try.prog 28 #[.pointer none, .int .i64 sp, .string s, .slice none 0 0] w fun e w' => e = .returned (.int .i64 (-1)) ∧ Below w.heap.size w w' := by
  have HC := hide (copyA_p (.slice none 0 0) [] (by simp) w (.inl ⟨rfl, rfl⟩))
  have HM := hide (fun a2 n2 c2 => more_z 1 0 sp s none a2 none 0 n2 0 0 c2 0)
  go_enter Try.func28, Try.ntmps28
  go_wp2_with fail
  refine HC.out.mono ?_
  rintro e x1 ⟨⟨v', rfl, ho⟩, b1⟩
  obtain ⟨a2, c2, rfl⟩ := owns_form ho
  have B1 := hide b1
  clear b1 ho
  go_wp2_with fail
  refine (HM.out _ _ _ _).mono ?_
  rintro e x2 ⟨rfl, b2⟩
  have B2 := hide (B1.out.trans (b2.mono B1.out.size))
  clear b2
  go_wp2
  go_ret
  exact ⟨rfl, B2.out⟩
set_option maxHeartbeats 1000000 in
theorem text_z (s : ByteArray) (w : World) : Calls Try.prog 27 #[.pointer none, .string s] w fun e w' => e = .returned (.int .i64 (-1)) ∧ Below w.heap.size w w' := by
  have hr := Lib.run_convert_string_bytes w 9 64 5 s Try.underlying9 Try.underlying64 Try.underlying5
  have hb : Below w.heap.size w (Lib.bytesWorld w 5 s) := ⟨rfl, rfl, rfl, by rw [Lib.bytesWorld_size]; omega, fun k hk => Lib.bytesWorld_at_old w 5 s k hk⟩
  have B1 := hide hb
  have HM := hide (fun a2 n2 c2 => more_z 2 0 0 ⟨#[]⟩ none none a2 0 0 n2 0 0 c2)
  generalize Lib.bytesWorld w 5 s = w1 at *
  clear hb
  go_enter Try.func27, Try.ntmps27
  go_wp2_with fail
  refine (HM.out _ _ _ _).mono ?_
  rintro e x2 ⟨rfl, b2⟩
  have B2 := hide (B1.out.trans (b2.mono B1.out.size))
  clear b2
  go_wp2
  go_ret
  exact ⟨rfl, B2.out⟩
set_option maxHeartbeats 1000000 in
theorem comment_z (s : ByteArray) (w : World) : Calls Try.prog 29 #[.pointer none, .string s] w fun e w' => e = .returned (.int .i64 (-1)) ∧ Below w.heap.size w w' := by
  have hr := Lib.run_convert_string_bytes w 9 64 5 s Try.underlying9 Try.underlying64 Try.underlying5
  have hb : Below w.heap.size w (Lib.bytesWorld w 5 s) := ⟨rfl, rfl, rfl, by rw [Lib.bytesWorld_size]; omega, fun k hk => Lib.bytesWorld_at_old w 5 s k hk⟩
  have B1 := hide hb
  have HM := hide (fun a2 n2 c2 => more_z 3 0 0 ⟨#[]⟩ none none a2 0 0 n2 0 0 c2)
  generalize Lib.bytesWorld w 5 s = w1 at *
  clear hb
  go_enter Try.func29, Try.ntmps29
  go_wp2_with fail
  refine (HM.out _ _ _ _).mono ?_
  rintro e x2 ⟨rfl, b2⟩
  have B2 := hide (B1.out.trans (b2.mono B1.out.size))
  clear b2
  go_wp2
  go_ret
  exact ⟨rfl, B2.out⟩
set_option maxHeartbeats 1000000 in
theorem copy_z (z : Int) (w : World) : Calls Try.prog 30 #[.pointer none, .int .i64 z] w fun e w' => e = .returned (.int .i64 (-1)) ∧ Below w.heap.size w w' := by
  have HH := hide has_z
  go_enter Try.func30, Try.ntmps30
  go_wp2_with fail
  refine (HH.out _ _).mono ?_
  rintro e x1 ⟨rfl, b1⟩
  have B1 := hide b1
  clear b1
  go_wp2
  go_ret
  exact ⟨rfl, B1.out⟩
set_option maxHeartbeats 1000000 in
theorem add_z (z : Int) (s : ByteArray) (w : World) : Calls Try.prog 31 #[.pointer none, .int .i64 z, .string s] w fun e w' => e = .returned (.int .i64 2) ∧ Below w.heap.size w w' := by
  have HH := hide has_z
  go_enter Try.func31, Try.ntmps31
  go_wp2_with fail
  refine (HH.out _ _).mono ?_
  rintro e x1 ⟨rfl, b1⟩
  have B1 := hide b1
  clear b1
  go_wp2
  go_ret
  exact ⟨rfl, B1.out⟩
set_option maxHeartbeats 1000000 in
theorem append_z (a b : Int) (w : World) : Calls Try.prog 26 #[.pointer none, .int .i64 a, .int .i64 b] w fun e w' => e = .returned (.int .i64 2) ∧ Below w.heap.size w w' := by
  have HH := hide has_z
  go_enter Try.func26, Try.ntmps26
  go_wp2_with fail
  refine (HH.out _ _).mono ?_
  rintro e x1 ⟨rfl, b1⟩
  have B1 := hide b1
  clear b1
  go_wp2
  go_ret
  exact ⟨rfl, B1.out⟩
set_option maxHeartbeats 1000000 in
theorem before_z (a b : Int) (w : World) : Calls Try.prog 25 #[.pointer none, .int .i64 a, .int .i64 b] w fun e w' => e = .returned (.int .i64 2) ∧ Below w.heap.size w w' := by
  have HH := hide has_z
  go_enter Try.func25, Try.ntmps25
  go_wp2_with fail
  refine (HH.out _ _).mono ?_
  rintro e x1 ⟨rfl, b1⟩
  have B1 := hide b1
  clear b1
  go_wp2
  go_ret
  exact ⟨rfl, B1.out⟩
set_option maxHeartbeats 1000000 in
theorem remove_z (z : Int) (w : World) : Calls Try.prog 24 #[.pointer none, .int .i64 z] w fun e w' => e = .returned (.int .i64 2) ∧ Below w.heap.size w w' := by
  have HH := hide has_z
  go_enter Try.func24, Try.ntmps24
  go_wp2_with fail
  refine (HH.out _ _).mono ?_
  rintro e x1 ⟨rfl, b1⟩
  have B1 := hide b1
  clear b1
  go_wp2
  go_ret
  exact ⟨rfl, B1.out⟩
set_option maxHeartbeats 1000000 in
theorem move_z (a b : Int) (w : World) : Calls Try.prog 32 #[.pointer none, .int .i64 a, .int .i64 b] w fun e w' => e = .returned (.int .i64 2) ∧ Below w.heap.size w w' := by
  have HH := hide has_z
  go_enter Try.func32, Try.ntmps32
  go_wp2_with fail
  refine (HH.out _ _).mono ?_
  rintro e x1 ⟨rfl, b1⟩
  have B1 := hide b1
  clear b1
  go_wp2
  go_ret
  exact ⟨rfl, B1.out⟩
set_option maxHeartbeats 1000000 in
theorem parent_z (z : Int) (w : World) : Calls Try.prog 18 #[.pointer none, .int .i64 z] w fun e w' => e = .returned (.int .i64 (-1)) ∧ Below w.heap.size w w' := by
  have HH := hide has_z
  go_enter Try.func18, Try.ntmps18
  go_wp2_with fail
  refine (HH.out _ _).mono ?_
  rintro e x1 ⟨rfl, b1⟩
  have B1 := hide b1
  clear b1
  go_wp2
  go_ret
  exact ⟨rfl, B1.out⟩
set_option maxHeartbeats 1000000 in
theorem kids_z (z : Int) (w : World) : Calls Try.prog 17 #[.pointer none, .int .i64 z] w fun e w' => e = .returned (.slice none 0 0) ∧ Below w.heap.size w w' := by
  have HH := hide has_z
  go_enter Try.func17, Try.ntmps17
  go_wp2_with fail
  refine (HH.out _ _).mono ?_
  rintro e x1 ⟨rfl, b1⟩
  have B1 := hide b1
  clear b1
  go_wp2
  go_ret
  exact ⟨rfl, B1.out⟩
def zeroC : List Value := [.int .i64 0, .int .i64 0, .string ⟨#[]⟩, .slice none 0 0, .string ⟨#[]⟩, .slice none 0 0]
theorem zero_isN (B : Nat → Prop) (w : World) : IsN B w (NT.mk (k := 0) {} []) zeroC := by
  rw [isN_iff]
  exact ⟨_, _, rfl, ⟨.inl ⟨rfl, rfl⟩, .inl rfl⟩, .inl ⟨rfl, rfl⟩⟩
set_option maxHeartbeats 1000000 in
theorem value_z (z : Int) (w : World) : Calls Try.prog 15 #[.pointer none, .int .i64 z] w fun e w' => e = .returned (.agg zeroC.toArray) ∧ Below w.heap.size w w' := by
  have HH := hide has_z
  have B0 := hide (below_alloc w (.cells #[.int .i64 0, .int .i64 0, .string ⟨#[]⟩, .slice none 0 0, .string ⟨#[]⟩, .slice none 0 0] 41))
  have K0 := hide (Kept.new w zeroC 41)
  go_enter Try.func15, Try.ntmps15
  go_wp2_with fail
  refine (HH.out _ _).mono ?_
  rintro e x1 ⟨rfl, b1⟩
  have q := K0.out.below b1
  have k0 : x1.cell? ⟨w.heap.size, 0, none⟩ = some (.int .i64 0) := q.1 0
  have k1 : x1.cell? ⟨w.heap.size, 1, none⟩ = some (.int .i64 0) := q.1 1
  have k2 : x1.cell? ⟨w.heap.size, 2, none⟩ = some (.string ⟨#[]⟩) := q.1 2
  have k3 : x1.cell? ⟨w.heap.size, 3, none⟩ = some (.slice none 0 0) := q.1 3
  have k4 : x1.cell? ⟨w.heap.size, 4, none⟩ = some (.string ⟨#[]⟩) := q.1 4
  have k5 : x1.cell? ⟨w.heap.size, 5, none⟩ = some (.slice none 0 0) := q.1 5
  have kf := q.2
  have B1 := hide (B0.out.trans (b1.mono B0.out.size))
  clear b1 q
  go_wp2
  refine bodyPost_ret (v := .agg zeroC.toArray) ?_ rfl ⟨rfl, set6_below B1.out (Nat.le_refl _) _ _ _ _ _ _⟩
  rw [results_cell_one rfl]
  unfold zeroC
  go_simp
theorem okT_zero : OkT (NT.mk (k := 0) {} []) := by
  exact ⟨by decide, by show 0 ≤ _; omega, fun x hx => absurd hx List.not_mem_nil⟩
set_option maxRecDepth 10000 in
set_option maxHeartbeats 4000000 in
theorem nil_walk (s : ByteArray) (a b : Int) (w : World) : Calls Try.prog 8 #[.string s, .int .i64 a, .int .i64 b] w fun e w' => e = .returned (.bool true) ∧ Below w.heap.size w w' := by
  have H0 := hide alive_p
  have H1 := hide (element_z 0 s)
  have H2 := hide (text_z s)
  have H3 := hide (comment_z s)
  have H4 := hide (copy_z a)
  have H5 := hide (add_z a s)
  have H6 := hide (append_z a b)
  have H7 := hide (before_z a b)
  have H8 := hide (remove_z a)
  have H9 := hide (move_z a b)
  have H10 := hide (parent_z a)
  have H11 := hide (kids_z a)
  have H12 := hide (value_z a)
  have H13 := hide (fun W => same_any _ okT_zero (fun _ => False) zeroC zeroC W (fun k h => h.elim) (zero_isN _ _) (zero_isN _ _))
  have H14 := hide len_z
  unfold zeroC at H12 H13
  go_enter Try.func8, Try.ntmps8
  go_wp2_with fail
  refine (H0.out _).mono ?_
  rintro e x0 ⟨rfl, b0⟩
  have B0 := hide b0
  clear b0
  go_wp2_with fail
  refine (H1.out _).mono ?_
  rintro e x1 ⟨rfl, b1⟩
  replace B0 := hide (B0.out.trans (b1.mono B0.out.size))
  clear b1
  go_wp2_with fail
  refine (H2.out _).mono ?_
  rintro e x2 ⟨rfl, b2⟩
  replace B0 := hide (B0.out.trans (b2.mono B0.out.size))
  clear b2
  go_wp2_with fail
  refine (H3.out _).mono ?_
  rintro e x3 ⟨rfl, b3⟩
  replace B0 := hide (B0.out.trans (b3.mono B0.out.size))
  clear b3
  go_wp2_with fail
  refine (H4.out _).mono ?_
  rintro e x4 ⟨rfl, b4⟩
  replace B0 := hide (B0.out.trans (b4.mono B0.out.size))
  clear b4
  go_wp2_with fail
  refine (H5.out _).mono ?_
  rintro e x5 ⟨rfl, b5⟩
  replace B0 := hide (B0.out.trans (b5.mono B0.out.size))
  clear b5
  go_wp2_with fail
  refine (H6.out _).mono ?_
  rintro e x6 ⟨rfl, b6⟩
  replace B0 := hide (B0.out.trans (b6.mono B0.out.size))
  clear b6
  go_wp2_with fail
  refine (H7.out _).mono ?_
  rintro e x7 ⟨rfl, b7⟩
  replace B0 := hide (B0.out.trans (b7.mono B0.out.size))
  clear b7
  go_wp2_with fail
  refine (H8.out _).mono ?_
  rintro e x8 ⟨rfl, b8⟩
  replace B0 := hide (B0.out.trans (b8.mono B0.out.size))
  clear b8
  go_wp2_with fail
  refine (H9.out _).mono ?_
  rintro e x9 ⟨rfl, b9⟩
  replace B0 := hide (B0.out.trans (b9.mono B0.out.size))
  clear b9
  go_wp2_with fail
  refine (H10.out _).mono ?_
  rintro e x10 ⟨rfl, b10⟩
  replace B0 := hide (B0.out.trans (b10.mono B0.out.size))
  clear b10
  go_wp2_with fail
  refine (H11.out _).mono ?_
  rintro e x11 ⟨rfl, b11⟩
  replace B0 := hide (B0.out.trans (b11.mono B0.out.size))
  clear b11
  go_wp2_with fail
  refine (H12.out _).mono ?_
  rintro e x12 ⟨rfl, b12⟩
  replace B0 := hide (B0.out.trans (b12.mono B0.out.size))
  clear b12
  go_wp2_with fail
  refine (H13.out _).mono ?_
  rintro e x13 ⟨rfl, b13⟩
  replace B0 := hide (B0.out.trans (b13.mono B0.out.size))
  clear b13
  go_wp2_with fail
  refine (H14.out _).mono ?_
  rintro e x14 ⟨rfl, b14⟩
  replace B0 := hide (B0.out.trans (b14.mono B0.out.size))
  clear b14
  go_wp2
  go_ret
  exact ⟨rfl, B0.out⟩
end Go.Proofs.Ytjgklemhlmgheaa
