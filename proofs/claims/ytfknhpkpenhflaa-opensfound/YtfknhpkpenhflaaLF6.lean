/- OpensFound's walk. -/
import Derived.Test.YtfknhpkpenhflaaLA6
set_option linter.unusedVariables false
set_option linter.unusedSimpArgs false
namespace Go.Proofs.Ytfknhpkpenhflaa
open Go.RowKit

set_option maxHeartbeats 1000000 in
theorem found_none (l : List OV) (hl : l.length ≤ 60) (id : Int) (v : Value) (w : World) (hO : IsO w v l) (hV : findZ l id = -1) (hN : ∀ i (h : i < l.length), 0 ≤ i → l[i].id ≠ id) :
    Calls Try.prog 8 #[v, .int .i64 id] w fun e w' => e = .returned (.bool true) ∧ Below w.heap.size w w' := by
    have H1 := hide alive_any
    have H2 := hide (find_any l (by omega) id v w hO)
    rw [hV] at H2
    obtain ⟨a, c, rfl⟩ := isO_form hO
    have HO := hide hO
    have HN := hide hN
    have hl2 : ¬ (60 : Int) < l.length := by omega
    clear hO hN hV hl
    go_enter Try.func8, Try.ntmps8
    go_wp2_with fail
    refine H2.out.mono ?_
    rintro e w1 ⟨rfl, b1⟩
    have hq : ¬ ((l.length : Int) ≤ -1) := by omega
    go_wp2
    go_loopw [6] (fun i wr => ∃ k : Nat, 0 ≤ k ∧ k ≤ l.length ∧ i = .int .i64 (k : Int) ∧ Below w.heap.size w wr) (fun i _ => l.length - (intOf i).toNat)
    case atStart => exact ⟨0, Nat.le_refl _, by omega, by go_num, b1⟩
    case round =>
      obtain ⟨k, hk0, hk, rfl, bw⟩ := hrel
      by_cases hlt : k < l.length
      · obtain ⟨b, o, ha, c0, -, -⟩ := (HO.out.below bw).get k hlt
        have hne := ne_int _ _ (HN.out k hlt hk0)
        subst ha
        generalize l[k].id = x at *
        have hlt2 : (k : Int) < l.length := by omega
        clear hlt
        go_wp2
        go_roundw
        case rel => exact ⟨k + 1, by omega, by omega, by go_num, bw⟩
        case measure => simp [intOf]; omega
      · have hlt2 : ¬ (k : Int) < l.length := by omega
        clear hlt
        go_wp2_with fail
        refine (H1.out _).mono ?_
        rintro e w2 ⟨rfl, b2⟩
        go_wp2
        go_ret
        exact ⟨rfl, bw.trans (b2.mono bw.size)⟩

set_option maxHeartbeats 1000000 in
theorem found_some (l : List OV) (hl : l.length ≤ 60) (id : Int) (v : Value) (w : World) (hO : IsO w v l) (j : Nat) (hj : j < l.length) (hV : findZ l id = (j : Int)) (hI : l[j].id = id) (hN : ∀ i (h : i < l.length), j + 1 ≤ i → l[i].id ≠ id) :
    Calls Try.prog 8 #[v, .int .i64 id] w fun e w' => e = .returned (.bool true) ∧ Below w.heap.size w w' := by
    have H1 := hide alive_any
    have H2 := hide (find_any l (by omega) id v w hO)
    rw [hV] at H2
    obtain ⟨a, c, rfl⟩ := isO_form hO
    have HO := hide hO
    have HN := hide hN
    have hl2 : ¬ (60 : Int) < l.length := by omega
    have HI := hide hI
    clear hO hN hV hl hI
    go_enter Try.func8, Try.ntmps8
    go_wp2_with fail
    refine H2.out.mono ?_
    rintro e w1 ⟨rfl, b1⟩
    have hq : ¬ ((l.length : Int) ≤ j) := by omega
    obtain ⟨b, o, ha, c0, -, -⟩ := (HO.out.below b1).get j hj
    subst ha
    rw [HI.out] at c0
    go_wp2
    go_loopw [6] (fun i wr => ∃ k : Nat, j + 1 ≤ k ∧ k ≤ l.length ∧ i = .int .i64 (k : Int) ∧ Below w.heap.size w wr) (fun i _ => l.length - (intOf i).toNat)
    case atStart => exact ⟨j + 1, Nat.le_refl _, by omega, by go_num, b1⟩
    case round =>
      obtain ⟨k, hk0, hk, rfl, bw⟩ := hrel
      by_cases hlt : k < l.length
      · obtain ⟨b', o', ha, c0', -, -⟩ := (HO.out.below bw).get k hlt
        have hne := ne_int _ _ (HN.out k hlt hk0)
        simp only [Option.some.injEq, Addr.mk.injEq] at ha
        obtain ⟨rfl, rfl, -⟩ := ha
        generalize l[k].id = x at *
        have hlt2 : (k : Int) < l.length := by omega
        clear hlt
        go_wp2
        go_roundw
        case rel => exact ⟨k + 1, by omega, by omega, by go_num, bw⟩
        case measure => simp [intOf]; omega
      · have hlt2 : ¬ (k : Int) < l.length := by omega
        clear hlt
        go_wp2_with fail
        refine (H1.out _).mono ?_
        rintro e w2 ⟨rfl, b2⟩
        go_wp2
        go_ret
        exact ⟨rfl, bw.trans (b2.mono bw.size)⟩

set_option maxHeartbeats 1000000 in
theorem opensFound_walk (l : List OV) (id : Int) (v : Value) (w : World) (hO : IsO w v l) :
    Calls Try.prog 8 #[v, .int .i64 id] w fun e w' => e = .returned (.bool true) ∧ Below w.heap.size w w' := by
  by_cases hl : l.length ≤ 60
  · cases hV : lastO (fun o => o.id == id) l l.length with
    | none =>
      refine found_none l hl id v w hO (by unfold findZ; rw [hV]; rfl) fun i h _ => ?_
      have := last_none _ l _ (Nat.le_refl _) hV i h h
      simpa using this
    | some j =>
      obtain ⟨h1, h2, h3⟩ := last_some _ l _ j (Nat.le_refl _) hV
      refine found_some l hl id v w hO j h1 (by unfold findZ; rw [hV]; rfl) (by simpa using h2 h1) fun i h hi => ?_
      have := h3 i h (by omega) h
      simpa using this
  · have H1 := hide alive_any
    obtain ⟨a, c, rfl⟩ := isO_form hO
    have hl2 : (60 : Int) < l.length := by omega
    clear hO hl
    go_enter Try.func8, Try.ntmps8
    go_wp2_with fail
    refine (H1.out _).mono ?_
    rintro e w1 ⟨rfl, b1⟩
    go_wp2
    go_ret
    exact ⟨rfl, b1⟩
end Go.Proofs.Ytfknhpkpenhflaa
