/- What CharrefNamed, CharrefNumber, CharrefAt and CharrefDecode answer: true; nothing that was there is written. -/
import Derived.Test.YtiapnmplfkghlaaDoorAlive
import Derived.Test.YtiapnmplfkghlaaDoorWalkI
import Derived.Test.YtiapnmplfkghlaaDoorWalkC
set_option linter.unusedVariables false
set_option linter.unusedSimpArgs false
namespace Go.Proofs.YtiapnmplfkghlaaDoor
open Go.RowKit

set_option maxHeartbeats 2000000 in
theorem named_walk (s : ByteArray) (w : World) (ho : OldOk w) :
    Calls Tryd.prog 3 #[.string s] w fun e w' => e = .returned (.bool true) ∧ Below w.heap.size w w' := by
  have H1 := hide alive_any
  have HO := hide ho
  clear ho
  by_cases hs : 200 < s.size
  · have hs2 : (200 : Int) < s.size := by omega
    clear hs
    go_enter Tryd.func3, Tryd.ntmps3
    go_wp2_with fail
    refine (H1.out _ HO.out).mono ?_
    rintro e w1 ⟨rfl, b1⟩
    go_wp2
    go_ret
    exact ⟨rfl, b1⟩
  · have hs2 : ¬ (200 : Int) < s.size := by omega
    have H2 := hide (named_any s (by omega))
    have H3 := hide (rnamed_any s (by omega))
    generalize namedL s.data.toList = R at *
    obtain ⟨T, B⟩ := R
    have H2' : Hid (∀ w, Calls Tryd.prog 10 #[.string s] w fun e w' => e = .returned (.tuple #[.string ⟨T.toArray⟩, .bool B]) ∧ Below w.heap.size w w') := H2
    have H3' : Hid (∀ w, Calls Tryd.prog 11 #[.string s] w fun e w' => e = .returned (.tuple #[.string ⟨T.toArray⟩, .bool B]) ∧ Below w.heap.size w w') := H3
    generalize (⟨T.toArray⟩ : ByteArray) = t at *
    clear hs H2 H3
    go_enter Tryd.func3, Tryd.ntmps3
    go_wp2_with fail
    refine (H2'.out _).mono ?_
    rintro e w1 ⟨rfl, b1⟩
    go_wp2_with fail
    refine (H3'.out _).mono ?_
    rintro e w2 ⟨rfl, b2⟩
    have a2 := b1.trans (b2.mono b1.size)
    go_wp2_with fail
    refine (H1.out _ (HO.out.below a2)).mono ?_
    rintro e w3 ⟨rfl, b3⟩
    have a3 := a2.trans (b3.mono a2.size)
    go_wp2
    go_ret
    have c2 := b1.trans (b2.mono b1.size)
    exact ⟨by simp, c2.trans (b3.mono c2.size)⟩

set_option maxHeartbeats 2000000 in
theorem number_walk (n : Int) (hn : (Lit.int .i64 n).wf = true) (w : World) (ho : OldOk w) :
    Calls Tryd.prog 4 #[.int .i64 n] w fun e w' => e = .returned (.bool true) ∧ Below w.heap.size w w' := by
  have H1 := hide alive_any
  have HO := hide ho
  clear ho
  have H2 := hide (number_any n hn)
  have H3 := hide (rnumber_any n)
  generalize (⟨(numberL n).toArray⟩ : ByteArray) = t at *
  clear hn
  go_enter Tryd.func4, Tryd.ntmps4
  go_wp2_with fail
  refine (H1.out _ HO.out).mono ?_
  rintro e w1 ⟨rfl, b1⟩
  go_wp2_with fail
  refine (H2.out _ (HO.out.below b1)).mono ?_
  rintro e w2 ⟨rfl, b2⟩
  have a2 := b1.trans (b2.mono b1.size)
  go_wp2_with fail
  refine (H3.out _).mono ?_
  rintro e w3 ⟨rfl, b3⟩
  have a3 := a2.trans (b3.mono a2.size)
  go_wp2
  go_ret
  have c2 := b1.trans (b2.mono b1.size)
  exact ⟨by simp, c2.trans (b3.mono c2.size)⟩

set_option maxHeartbeats 2000000 in
theorem at_walk (s : ByteArray) (z : Int) (hz : (Lit.int .i64 z).wf = true) (attr : Bool) (w : World) (ho : OldOk w) :
    Calls Tryd.prog 5 #[.string s, .int .i64 z, .bool attr] w fun e w' => e = .returned (.bool true) ∧ Below w.heap.size w w' := by
  have H1 := hide alive_any
  have HO := hide ho
  clear ho
  by_cases hs : 200 < s.size
  · have hs2 : (200 : Int) < s.size := by omega
    clear hs hz
    go_enter Tryd.func5, Tryd.ntmps5
    go_wp2_with fail
    refine (H1.out _ HO.out).mono ?_
    rintro e w1 ⟨rfl, b1⟩
    go_wp2
    go_ret
    exact ⟨rfl, b1⟩
  · have hs2 : ¬ (200 : Int) < s.size := by omega
    have H2 := hide (at_any s (by omega) z hz attr)
    have H3 := hide (rat_any s (by omega) z attr)
    generalize atZ attr s.data.toList z = R at *
    obtain ⟨T, m⟩ := R
    have H2' : Hid (∀ w, OldOk w → Calls Tryd.prog 14 #[.string s, .int .i64 z, .bool attr] w fun e w' => e = .returned (.tuple #[.string ⟨T.toArray⟩, .int .i64 (m : Int)]) ∧ Below w.heap.size w w') := H2
    have H3' : Hid (∀ w, Calls Tryd.prog 15 #[.string s, .int .i64 z, .bool attr] w fun e w' => e = .returned (.tuple #[.string ⟨T.toArray⟩, .int .i64 (m : Int)]) ∧ Below w.heap.size w w') := H3
    generalize (⟨T.toArray⟩ : ByteArray) = t at *
    clear hs H2 H3 hz
    go_enter Tryd.func5, Tryd.ntmps5
    go_wp2_with fail
    refine (H2'.out _ HO.out).mono ?_
    rintro e w1 ⟨rfl, b1⟩
    go_wp2_with fail
    refine (H3'.out _).mono ?_
    rintro e w2 ⟨rfl, b2⟩
    have a2 := b1.trans (b2.mono b1.size)
    go_wp2_with fail
    refine (H1.out _ (HO.out.below a2)).mono ?_
    rintro e w3 ⟨rfl, b3⟩
    have a3 := a2.trans (b3.mono a2.size)
    go_wp2
    go_ret
    have c2 := b1.trans (b2.mono b1.size)
    exact ⟨by simp, c2.trans (b3.mono c2.size)⟩

set_option maxHeartbeats 2000000 in
theorem decode_walk (s : ByteArray) (attr : Bool) (w : World) (ho : OldOk w) :
    Calls Tryd.prog 6 #[.string s, .bool attr] w fun e w' => e = .returned (.bool true) ∧ Below w.heap.size w w' := by
  have H1 := hide alive_any
  have HO := hide ho
  clear ho
  by_cases hs : 200 < s.size
  · have hs2 : (200 : Int) < s.size := by omega
    clear hs
    go_enter Tryd.func6, Tryd.ntmps6
    go_wp2_with fail
    refine (H1.out _ HO.out).mono ?_
    rintro e w1 ⟨rfl, b1⟩
    go_wp2
    go_ret
    exact ⟨rfl, b1⟩
  · have hs2 : ¬ (200 : Int) < s.size := by omega
    have H2 := hide (decode_any s (by omega) attr)
    have H3 := hide (rdecode_any s (by omega) attr)
    generalize (⟨(decL attr s.data.toList).toArray⟩ : ByteArray) = t at *
    clear hs
    go_enter Tryd.func6, Tryd.ntmps6
    go_wp2_with fail
    refine (H1.out _ HO.out).mono ?_
    rintro e w1 ⟨rfl, b1⟩
    go_wp2_with fail
    refine (H2.out _ (HO.out.below b1)).mono ?_
    rintro e w2 ⟨rfl, b2⟩
    have a2 := b1.trans (b2.mono b1.size)
    go_wp2_with fail
    refine (H3.out _).mono ?_
    rintro e w3 ⟨rfl, b3⟩
    have a3 := a2.trans (b3.mono a2.size)
    go_wp2
    go_ret
    have c2 := b1.trans (b2.mono b1.size)
    exact ⟨by simp, c2.trans (b3.mono c2.size)⟩
end Go.Proofs.YtiapnmplfkghlaaDoor
