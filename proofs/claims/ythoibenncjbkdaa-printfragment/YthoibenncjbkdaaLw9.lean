/- The walks of PrintEscape, PrintFragment. -/
import Derived.Test.YthoibenncjbkdaaAl9
import Derived.Test.YthoibenncjbkdaaDf9
import Derived.Test.YthoibenncjbkdaaWe9
set_option linter.unusedVariables false
set_option linter.unusedSimpArgs false
set_option maxRecDepth 20000
namespace Go.Proofs.Ythoibenncjbkdaa
open Go.RowKit

theorem same_str (a : ByteArray) : (a.toList == a.toList) = true := by simp
set_option maxHeartbeats 1000000 in
theorem printEscape_walk (s : ByteArray) (attr : Bool) (w : World) :
    Calls Try.prog 4 #[.string s, .bool attr] w fun e w' => e = .returned (.bool true) ∧ Below w.heap.size w w' := by
  have HA := hide alive_p
  by_cases hs : s.size ≤ 200
  · have hs2 : ¬ (200 : Int) < s.size := by omega
    have HE := hide (escape_any s (by omega) attr)
    have HR := hide (rescape_any s (by omega) attr)
    generalize (⟨(escL attr s.data.toList).toArray⟩ : ByteArray) = out at *
    have hse := same_str out
    go_enter Try.func4, Try.ntmps4
    go_wp2_with fail
    refine (HA.out _).mono ?_
    rintro e w1 ⟨rfl, b1⟩
    go_wp2_with fail
    refine (HE.out _).mono ?_
    rintro e w2 ⟨rfl, b2⟩
    go_wp2_with fail
    refine (HR.out _).mono ?_
    rintro e w3 ⟨rfl, rfl⟩
    go_wp2
    go_ret
    exact ⟨rfl, b1.trans (b2.mono b1.size)⟩
  · have hs2 : (200 : Int) < s.size := by omega
    go_enter Try.func4, Try.ntmps4
    go_wp2_with fail
    refine (HA.out _).mono ?_
    rintro e w1 ⟨rfl, b1⟩
    go_wp2
    go_ret
    exact ⟨rfl, b1⟩
set_option maxHeartbeats 1000000 in
theorem printFragment_walk {m : Nat} (v : Value) (ts : List (S5.NT m)) (w : World) (hK : S5.IsK (fun k => k < w.heap.size) w ts v) (hl : ts.length ≤ 9223372036854775807) (hok : S5.OkTs ts) :
    Calls Try.prog 3 #[v] w fun e w' => e = .returned (.bool true) ∧ Below w.heap.size w w' := by
  have HA := hide alive_p
  have HW := hide (weight_any 40 (by decide) ts hl hok (fun k => k < w.heap.size) v w 1500 (by decide) (fun _ h => h) hK)
  have HF := hide (fun (W : World) (hb : Below w.heap.size w W) (hs : sizeTs ts ≤ 1000000) => fragment_any ts (fun k => k < w.heap.size) v W (fun j hj => Nat.lt_of_lt_of_le hj hb.size) (isK_keepB (fun _ h => h) hK hb) hs)
  have HR := hide (fun (W : World) (hb : Below w.heap.size w W) (hs : sizeTs ts ≤ 1000000) => rfragment_any ts (fun k => k < w.heap.size) v W (fun j hj => Nat.lt_of_lt_of_le hj hb.size) (isK_keepB (fun _ h => h) hK hb) hs)
  obtain ⟨a1, c1, rfl⟩ := S5.isK_form hK
  clear hK hok hl
  generalize (⟨(printTs false ts).toArray⟩ : ByteArray) = out at *
  have hse := same_str out
  go_enter Try.func3, Try.ntmps3
  go_wp2_with fail
  refine HW.out.mono ?_
  rintro e w1 ⟨⟨V, rfl, hV⟩, b1⟩
  by_cases hlt : V < 1500
  · have hlt2 : ¬ (1500 : Int) ≤ V := by omega
    have hs := (hV.2 hlt).1
    have HS : Hid (sizeTs ts ≤ 1000000) := hide (by omega)
    clear hV hs hlt
    go_wp2_with fail
    refine (HA.out _).mono ?_
    rintro e w2 ⟨rfl, b2⟩
    have B2 := b1.trans (b2.mono b1.size)
    go_wp2_with fail
    refine (HF.out _ B2 HS.out).mono ?_
    rintro e w3 ⟨rfl, b3⟩
    have B3 := B2.trans (b3.mono B2.size)
    go_wp2_with fail
    refine (HR.out _ B3 HS.out).mono ?_
    rintro e w4 ⟨rfl, b4⟩
    have B4 := B3.trans (b4.mono B3.size)
    go_wp2
    go_ret
    exact ⟨rfl, B4⟩
  · have hlt2 : (1500 : Int) ≤ V := by omega
    clear hV hlt
    go_wp2_with fail
    refine (HA.out _).mono ?_
    rintro e w2 ⟨rfl, b2⟩
    go_wp2
    go_ret
    exact ⟨rfl, b1.trans (b2.mono b1.size)⟩
end Go.Proofs.Ythoibenncjbkdaa
