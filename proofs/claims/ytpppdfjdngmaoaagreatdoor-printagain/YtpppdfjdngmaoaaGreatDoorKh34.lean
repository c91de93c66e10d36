import Derived.Test.YtpppdfjdngmaoaaGreatDoorKh33
set_option linter.unusedVariables false
set_option linter.unusedSimpArgs false
set_option maxRecDepth 100000
set_option maxHeartbeats 8000000
namespace Go.Proofs.YtpppdfjdngmaoaaGreatDoor.S4
open Go.RowKit
theorem pnext_out (s n : ByteArray) (z mode : Int) (f : Bool) (hz : z < 0 ∨ (s.size : Int) ≤ z) (w : World) :
    Calls Tryz.prog 42 #[.string s, .int .i64 z, .int .i64 mode, .string n, .bool f] w fun e w' => TokAt w w' e s ({ kind := 0 }, []) ∧ Below w.heap.size w w' := by
  by_cases h0 : z < 0
  · clear hz
    go_enter Tryz.func42, Tryz.ntmps42
    go_wp2
    refine bodyPost_ret (v := .tuple #[tokV { kind := 0 } (.slice none 0 0), .int .i64 (s.size : Int)]) ?_ rfl ⟨⟨.slice none 0 0, .inl ⟨rfl, rfl⟩, (fun k hk => by cases hk), rfl⟩, below_alloc w _⟩
    rw [results_cell_tmp rfl]
    go_simp
    rfl
  · have h1 : (s.size : Int) ≤ z := hz.resolve_left h0
    clear hz
    go_enter Tryz.func42, Tryz.ntmps42
    go_wp2
    refine bodyPost_ret (v := .tuple #[tokV { kind := 0 } (.slice none 0 0), .int .i64 (s.size : Int)]) ?_ rfl ⟨⟨.slice none 0 0, .inl ⟨rfl, rfl⟩, (fun k hk => by cases hk), rfl⟩, below_alloc w _⟩
    rw [results_cell_tmp rfl]
    go_simp
    rfl
theorem IsA.drew {w : World} {v : Value} {aa : AttrL} (h : IsA w v aa) : IsA w.drew v aa := by
  unfold IsA at *
  exact h
theorem pnext_in (s n : ByteArray) (hs : s.size ≤ 20000) (hn : n.size ≤ 20000) (p : Nat) (hp : p < s.size) (mode : Int) (f : Bool) (w : World) (he : Env w) :
    Calls Tryz.prog 42 #[.string s, .int .i64 (p : Int), .int .i64 mode, .string n, .bool f] w fun e w' => TokAt w w' e s (nextR mode n.data.toList f (s.data.toList.drop p)) ∧ Below w.heap.size w w' := by
  have hp0 : ¬ (p : Int) < 0 := by omega
  have hp1 : ¬ (s.size : Int) ≤ p := by omega
  have h2 : 2 ≤ w.heap.size + 1 := by have := he.two; omega
  have KR0 := hide ((Kept.new w tok0 84).alloc (.cells #[.string s, .int .i64 (p : Int)] 112))
  have E0 := hide ((he.alloc (.cells tok0.toArray 84)).alloc (.cells #[.string s, .int .i64 (p : Int)] 112))
  have hKB := Kept.new (w.alloc (.cells tok0.toArray 84)) [.string s, .int .i64 (p : Int)] 112
  rw [show (w.alloc (.cells tok0.toArray 84)).heap.size = w.heap.size + 1 by simp] at hKB
  have R0 : Hid (RdL ((w.alloc (.cells tok0.toArray 84)).alloc (.cells #[.string s, .int .i64 (p : Int)] 112)) (w.heap.size + 1) s (s.data.toList.drop p)) := hide ⟨p, by omega, rfl, hKB.1 0, hKB.1 1, hKB.2⟩
  have B0 : Hid (Below w.heap.size w ((w.alloc (.cells tok0.toArray 84)).alloc (.cells #[.string s, .int .i64 (p : Int)] 112))) := hide ((below_alloc w _).alloc (by simp) _)
  have HL := hide (plower_any n (by omega))
  have hne : s.data.toList.drop p ≠ [] := by rw [drop_cons s p hp]; simp
  have HNX := hide (fun W (hE : Env W) (h : RdL W (w.heap.size + 1) s (s.data.toList.drop p)) => next_rany s hs (w.heap.size + 1) h2 n.data.toList (s.data.toList.drop p) (by rw [← size_list]; exact hn) hne mode f W hE h)
  clear hKB he hne
  generalize nextR mode n.data.toList f (s.data.toList.drop p) = EE at *
  generalize (⟨(lowerL n.data.toList).toArray⟩ : ByteArray) = nl at *
  generalize s.data.toList.drop p = r at *
  go_enter Tryz.func42, Tryz.ntmps42
  go_wp2_with fail
  refine (HL.out _).mono ?_
  rintro e w1 ⟨rfl, h4⟩
  have R1 := hide (R0.out.below h4)
  have KR1 := hide (Kept.below KR0.out h4)
  have E1 := hide (E0.out.below h4)
  have B1 := hide (B0.out.trans (h4.mono B0.out.size))
  clear h4 R0 KR0 E0 B0 HL
  go_wp2_with fail
  refine (HNX.out _ E1.out R1.out).mono ?_
  rintro e w2 ⟨h4, h3, sv, hA, hob, rfl⟩
  obtain ⟨sa, sc, rfl⟩ := isA_form hA
  have hz1 := R1.out.lt
  have hKR := Kept.but KR1.out h4 (by omega)
  have hz2 := hKR.lt
  have hB2 := B1.out.trans (h4.below (n := w.heap.size) (by omega) (by omega))
  unfold tokV
  generalize hn1 : (⟨EE.1.name.toArray⟩ : ByteArray) = n1 at *
  generalize hn2 : (⟨EE.1.text.toArray⟩ : ByteArray) = n2 at *
  have HN1 := hide hn1
  have HN2 := hide hn2
  clear hn1 hn2
  have hz3 := RdL.lt h3
  obtain ⟨q, hq, hqd, hQ⟩ := h3
  have hqv : q = s.size - EE.2.length := by
    have := congrArg List.length hqd
    rw [List.length_drop, ← size_list] at this
    omega
  have HQV := hide hqv
  have c1 := hQ.c1
  have HA := hide hA
  have HB2 := hide hB2
  have HOB : Hid (∀ k, (Value.slice sa EE.1.attrs.length sc).ownBlock = some k → w.heap.size < k) := hide fun k hk => Nat.lt_of_lt_of_le (Nat.lt_of_lt_of_le (Nat.lt_succ_self _) (Nat.le_of_lt hz1)) (hob k hk)
  obtain ⟨q0, q1, q2, q3, q4, qf⟩ := hKR.tok
  clear h4 hA hob hKR hB2 hqd hQ hqv KR1 R1 E1 B1 HNX
  go_wp2
  go_region
  all_goals go_wp2
  all_goals
    refine bodyPost_ret (v := .tuple #[tokV EE.1 (.slice sa EE.1.attrs.length sc), .int .i64 (q : Int)]) ?_ rfl ⟨⟨.slice sa EE.1.attrs.length sc, ?_, ?_, ?_⟩, ?_⟩
    · rw [results_cell_tmp rfl]
      go_simp
      unfold tokV
      rw [HN1.out, HN2.out]
    · have := (IsA.put5 HA.out w.heap.size (fun k hk => by have := HOB.out k hk; omega) (EE.1, .slice sa EE.1.attrs.length sc)).alloc (.cells #[.int .i64 (EE.1.kind : Int), .string n1, .slice sa EE.1.attrs.length sc, .bool EE.1.closed, .string n2] 84)
      unfold put5 at this
      rw [HN1.out, HN2.out] at this
      exact this.drew
    · exact fun k hk => Nat.le_of_lt (HOB.out k hk)
    · rw [← HQV.out]
    · have := below_set5b HB2.out (.int .i64 (EE.1.kind : Int)) (.string n1) (.slice sa EE.1.attrs.length sc) (.bool EE.1.closed) (.string n2)
      exact (this.alloc this.size _).drew
theorem pnext_any (s n : ByteArray) (hs : s.size ≤ 20000) (hn : n.size ≤ 20000) (z mode : Int) (f : Bool) (w : World) (he : Env w) :
    Calls Tryz.prog 42 #[.string s, .int .i64 z, .int .i64 mode, .string n, .bool f] w fun e w' => TokAt w w' e s (nextZ mode n.data.toList f s.data.toList z) ∧ Below w.heap.size w w' := by
  have hl := size_list s
  by_cases hz : z < 0 ∨ (s.size : Int) ≤ z
  · rw [nextZ_out _ _ _ _ _ (by omega)]
    exact pnext_out s n z mode f hz w
  · obtain ⟨p, rfl⟩ : ∃ p : Nat, z = (p : Int) := ⟨z.toNat, by omega⟩
    rw [nextZ_in _ _ _ _ _ (by omega)]
    exact pnext_in s n hs hn p (by omega) mode f w he
end Go.Proofs.YtpppdfjdngmaoaaGreatDoor.S4
