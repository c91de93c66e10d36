/- What TokenGet answers: true; nothing that was there is written. -/
import Derived.Test.YtlfjmgniflkapaaDoorAlive4
import Derived.Test.YtlfjmgniflkapaaDoorWalkI4
set_option linter.unusedVariables false
set_option linter.unusedSimpArgs false
namespace Go.Proofs.YtlfjmgniflkapaaDoor
open Go.RowKit

set_option maxHeartbeats 1000000 in
theorem pget_zero (a : Option Addr) (c : Nat) (n : ByteArray) (w : World) :
    Calls Tryd.prog 8 #[.slice a 0 c, .string n] w fun e w' => e = .returned (.tuple #[.string ⟨#[]⟩, .bool false]) ∧ Below w.heap.size w w' := by
  go_enter Tryd.func8, Tryd.ntmps8
  go_wp2
  go_loop [10] (fun ti => ti = .int .i64 0) (fun _ => 0)
  case atStart => rfl
  case round =>
    subst hrel
    go_wp2
    go_ret2
    exact ⟨rfl, Below.refl _ _⟩
set_option maxHeartbeats 1000000 in
theorem rget_zero (a : Option Addr) (c : Nat) (n : ByteArray) (w : World) :
    Calls Tryd.prog 9 #[.slice a 0 c, .string n] w fun e w' => e = .returned (.tuple #[.string ⟨#[]⟩, .bool false]) ∧ w' = w := by
  go_enter Tryd.func9, Tryd.ntmps9
  go_wp2
  go_loop [6] (fun ti => ti = .int .i64 0) (fun _ => 0)
  case atStart => rfl
  case round =>
    subst hrel
    go_wp2
    go_ret2
    exact ⟨rfl, rfl⟩

set_option maxHeartbeats 2000000 in
theorem get_walk0 (a : Option Addr) (c : Nat) (n : ByteArray) (w : World) (he : Env w) :
    Calls Tryd.prog 3 #[.slice a 0 c, .string n] w fun e w' => e = .returned (.bool true) ∧ Below w.heap.size w w' := by
  have H1 := hide alive_any
  have HE := hide he
  have H2 := hide (pget_zero a c n)
  have H3 := hide (rget_zero a c n)
  clear he
  go_enter Tryd.func3, Tryd.ntmps3
  go_wp2_with fail
  refine (H2.out _).mono ?_
  rintro e w1 ⟨rfl, b1⟩
  have B1 := hide b1
  clear b1
  go_wp2_with fail
  refine (H3.out _).mono ?_
  rintro e w2 ⟨rfl, rfl⟩
  go_wp2_with fail
  refine (H1.out _ (HE.out.below B1.out)).mono ?_
  rintro e w3 ⟨rfl, b3⟩
  have B3 := hide (B1.out.trans (b3.mono B1.out.size))
  clear b3
  go_wp2
  go_ret
  exact ⟨rfl, B3.out⟩
set_option maxHeartbeats 2000000 in
theorem get_walk1 (v : Value) (aa : AttrL) (n : ByteArray) (w : World) (he : Env w) (hA : IsA w v aa) :
    Calls Tryd.prog 3 #[v, .string n] w fun e w' => e = .returned (.bool true) ∧ Below w.heap.size w w' := by
  have H1 := hide alive_any
  have HE := hide he
  clear he
  by_cases hl : 20 < aa.length
  · obtain ⟨a, c, rfl⟩ := isA_form hA
    have hl2 : (20 : Int) < aa.length := by omega
    clear hA
    go_enter Tryd.func3, Tryd.ntmps3
    go_wp2_with fail
    refine (H1.out _ HE.out).mono ?_
    rintro e w1 ⟨rfl, b1⟩
    go_wp2
    go_ret
    exact ⟨rfl, b1⟩
  · have hl2 : ¬ (20 : Int) < aa.length := by omega
    have H2 := hide (pget_any v aa (by omega) n w hA)
    have H3 := hide (fun W (hb : Below w.heap.size w W) => get_any v aa (by omega) n W (hA.below hb))
    obtain ⟨a, c, rfl⟩ := isA_form hA
    clear hA
    generalize gotS (getA aa n.data.toList) = x at *
    generalize (getA aa n.data.toList).isSome = B at *
    go_enter Tryd.func3, Tryd.ntmps3
    go_wp2_with fail
    refine H2.out.mono ?_
    rintro e w1 ⟨rfl, b1⟩
    have B1 := hide b1
    clear b1
    go_wp2_with fail
    refine (H3.out _ B1.out).mono ?_
    rintro e w2 ⟨rfl, rfl⟩
    go_wp2_with fail
    refine (H1.out _ (HE.out.below B1.out)).mono ?_
    rintro e w3 ⟨rfl, b3⟩
    have B3 := hide (B1.out.trans (b3.mono B1.out.size))
    clear b3
    go_wp2
    go_ret
    exact ⟨by simp, B3.out⟩
/-- A list of attributes that came in: as it lies, or one of no length. -/
def IsV (w : World) (v : Value) (aa : AttrL) : Prop := IsA w v aa ∨ (aa = [] ∧ ∃ a c, v = .slice a 0 c)
theorem get_walk (v : Value) (aa : AttrL) (n : ByteArray) (w : World) (he : Env w) (hA : IsV w v aa) :
    Calls Tryd.prog 3 #[v, .string n] w fun e w' => e = .returned (.bool true) ∧ Below w.heap.size w w' := by
  rcases hA with hA | ⟨_, a, c, rfl⟩
  · exact get_walk1 v aa n w he hA
  · exact get_walk0 a c n w he
end Go.Proofs.YtlfjmgniflkapaaDoor
