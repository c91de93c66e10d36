/- What the five statements answer: true; nothing that was there is written. -/
import Derived.Test.YtiieoejnpjdbeaaWc10
set_option linter.unusedVariables false
set_option linter.unusedSimpArgs false
namespace Go.Proofs.Ytiieoejnpjdbeaa
open Go.RowKit

theorem of_pair {s : ByteArray} {T : List UInt8} {B : Bool} {f : Nat} (h : ∀ w, Calls Try.prog f #[.string s] w fun e w' => e = .returned (ansO (if B then some T else none)) ∧ Below w.heap.size w w') (hT : B = false → T = []) :
    ∀ w, Calls Try.prog f #[.string s] w fun e w' => e = .returned (.tuple #[.string ⟨T.toArray⟩, .bool B]) ∧ Below w.heap.size w w' := by
  cases B
  · rw [hT rfl]; exact h
  · exact h
theorem opt_pair (o : Option (List UInt8)) : ∃ (T : List UInt8) (B : Bool), o = (if B then some T else none) ∧ (B = false → T = []) := by
  cases o with
  | none => exact ⟨[], false, rfl, fun _ => rfl⟩
  | some a => exact ⟨a, true, rfl, fun h => by cases h⟩

set_option maxHeartbeats 1000000 in
theorem schemeOf_walk (s : ByteArray) (w : World) :
    Calls Try.prog 3 #[.string s] w fun e w' => e = .returned (.bool true) ∧ Below w.heap.size w w' := by
  have H1 := hide alive_any
  by_cases hs : 200 < s.size
  · have hs2 : (200 : Int) < s.size := by omega
    clear hs
    go_enter Try.func3, Try.ntmps3
    go_wp2_with fail
    refine (H1.out _).mono ?_
    rintro e w1 ⟨rfl, b1⟩
    go_wp2
    go_ret
    exact ⟨rfl, b1⟩
  · have hs2 : ¬ (200 : Int) < s.size := by omega
    have h2 := of_any s (by omega)
    have h3 := rof_any s (by omega)
    obtain ⟨T, B, ho, hT⟩ := opt_pair (ofL s.data.toList)
    rw [ho] at h2 h3
    have H2 := hide (of_pair h2 hT)
    have H3 := hide (of_pair h3 hT)
    clear hs h2 h3 ho hT
    generalize (⟨T.toArray⟩ : ByteArray) = x at *
    go_enter Try.func3, Try.ntmps3
    go_wp2_with fail
    refine (H2.out _).mono ?_
    rintro e w1 ⟨rfl, b1⟩
    go_wp2_with fail
    refine (H3.out _).mono ?_
    rintro e w2 ⟨rfl, b2⟩
    have c2 := b1.trans (b2.mono b1.size)
    go_wp2_with fail
    refine (H1.out _).mono ?_
    rintro e w3 ⟨rfl, b3⟩
    have c3 := c2.trans (b3.mono c2.size)
    go_wp2
    go_ret
    exact ⟨by simp, c3⟩

theorem isW_form {w : World} {v : Value} {l : List (List UInt8)} (h : IsW w v l) : ∃ a c, v = .slice a l.length c := by
  rcases h with ⟨rfl, a, c, rfl⟩ | ⟨b, o, cap, rfl, _⟩
  · exact ⟨a, c, rfl⟩
  · exact ⟨_, _, rfl⟩
set_option maxHeartbeats 1000000 in
theorem schemeSafe_walk (s : ByteArray) (l : List (List UInt8)) (v : Value) (w : World) (hW : IsW w v l) :
    Calls Try.prog 4 #[.string s, v] w fun e w' => e = .returned (.bool true) ∧ Below w.heap.size w w' := by
  have H1 := hide alive_any
  by_cases hs : 200 < s.size
  · have hs2 : (200 : Int) < s.size := by omega
    clear hs hW
    go_enter Try.func4, Try.ntmps4
    go_wp2_with fail
    refine (H1.out _).mono ?_
    rintro e w1 ⟨rfl, b1⟩
    go_wp2
    go_ret
    exact ⟨rfl, b1⟩
  have hs2 : ¬ (200 : Int) < s.size := by omega
  by_cases hl : 40 < l.length
  · have hl2 : (40 : Int) < l.length := by omega
    obtain ⟨a, c, rfl⟩ := isW_form hW
    generalize l.length = n at *
    clear hs hW hl
    go_enter Try.func4, Try.ntmps4
    go_wp2_with fail
    refine (H1.out _).mono ?_
    rintro e w1 ⟨rfl, b1⟩
    go_wp2
    go_ret
    exact ⟨rfl, b1⟩
  · have hl2 : ¬ (40 : Int) < l.length := by omega
    have H2 := hide (fun w1 (b : Below w.heap.size w w1) => safe_any s (by omega) l (by omega) v w1 (hW.below b))
    have H3 := hide (fun w1 (b : Below w.heap.size w w1) => rsafe_any s (by omega) l (by omega) v w1 (hW.below b))
    obtain ⟨a, c, rfl⟩ := isW_form hW
    generalize safeL s.data.toList l = B at *
    generalize l.length = n at *
    clear hs hW hl
    go_enter Try.func4, Try.ntmps4
    go_wp2_with fail
    refine (H1.out _).mono ?_
    rintro e w1 ⟨rfl, b1⟩
    go_wp2_with fail
    refine (H2.out _ b1).mono ?_
    rintro e w2 ⟨rfl, b2⟩
    have c2 := b1.trans (b2.mono b1.size)
    go_wp2_with fail
    refine (H3.out _ c2).mono ?_
    rintro e w3 ⟨rfl, b3⟩
    have c3 := c2.trans (b3.mono c2.size)
    go_wp2
    go_ret
    exact ⟨by simp, c3⟩
end Go.Proofs.Ytiieoejnpjdbeaa
