/- What the program's openName and closedName answer, of whatever name: the code of the first entry that is this name, 0 where none is; the world stays as it was. -/
import Derived.Test.YthoibenncjbkdaaDoorS4WalkPA
set_option linter.unusedVariables false
set_option linter.unusedSimpArgs false
namespace Go.Proofs.YthoibenncjbkdaaDoor.S4
open Go.RowKit

theorem eq_str (n : ByteArray) (o : List UInt8) (h : n.data.toList = o) : (n.toList == o) = true := by rw [Lib.toList_data, h]; simp
theorem ne_str (n : ByteArray) (o : List UInt8) (h : ¬ n.data.toList = o) : (n.toList == o) = false := by rw [Lib.toList_data]; simpa using h
set_option maxHeartbeats 8000000 in
set_option maxRecDepth 100000 in
theorem open_any (n : ByteArray) (w : World) :
    Calls Tryd.prog 31 #[.string n] w fun e w' => e = .returned (.int .i32 (openC n.data.toList : Nat)) ∧ w' = w := by
  by_cases h : n.data.toList = [65, 77, 80]
  · have hv : openC n.data.toList = 38 := by rw [h]; decide +kernel
    have e0 := eq_str n [65, 77, 80] h
    rw [hv]
    clear h hv
    go_enter Tryd.func31, Tryd.ntmps31
    go_wp2
    go_ret
    exact ⟨rfl, rfl⟩
  have e0 := ne_str n [65, 77, 80] h
  clear h
  by_cases h : n.data.toList = [97, 109, 112]
  · have hv : openC n.data.toList = 38 := by rw [h]; decide +kernel
    have e1 := eq_str n [97, 109, 112] h
    rw [hv]
    clear h hv
    go_enter Tryd.func31, Tryd.ntmps31
    go_wp2
    go_ret
    exact ⟨rfl, rfl⟩
  have e1 := ne_str n [97, 109, 112] h
  clear h
  by_cases h : n.data.toList = [76, 84]
  · have hv : openC n.data.toList = 60 := by rw [h]; decide +kernel
    have e2 := eq_str n [76, 84] h
    rw [hv]
    clear h hv
    go_enter Tryd.func31, Tryd.ntmps31
    go_wp2
    go_ret
    exact ⟨rfl, rfl⟩
  have e2 := ne_str n [76, 84] h
  clear h
  by_cases h : n.data.toList = [108, 116]
  · have hv : openC n.data.toList = 60 := by rw [h]; decide +kernel
    have e3 := eq_str n [108, 116] h
    rw [hv]
    clear h hv
    go_enter Tryd.func31, Tryd.ntmps31
    go_wp2
    go_ret
    exact ⟨rfl, rfl⟩
  have e3 := ne_str n [108, 116] h
  clear h
  by_cases h : n.data.toList = [71, 84]
  · have hv : openC n.data.toList = 62 := by rw [h]; decide +kernel
    have e4 := eq_str n [71, 84] h
    rw [hv]
    clear h hv
    go_enter Tryd.func31, Tryd.ntmps31
    go_wp2
    go_ret
    exact ⟨rfl, rfl⟩
  have e4 := ne_str n [71, 84] h
  clear h
  by_cases h : n.data.toList = [103, 116]
  · have hv : openC n.data.toList = 62 := by rw [h]; decide +kernel
    have e5 := eq_str n [103, 116] h
    rw [hv]
    clear h hv
    go_enter Tryd.func31, Tryd.ntmps31
    go_wp2
    go_ret
    exact ⟨rfl, rfl⟩
  have e5 := ne_str n [103, 116] h
  clear h
  by_cases h : n.data.toList = [81, 85, 79, 84]
  · have hv : openC n.data.toList = 34 := by rw [h]; decide +kernel
    have e6 := eq_str n [81, 85, 79, 84] h
    rw [hv]
    clear h hv
    go_enter Tryd.func31, Tryd.ntmps31
    go_wp2
    go_ret
    exact ⟨rfl, rfl⟩
  have e6 := ne_str n [81, 85, 79, 84] h
  clear h
  by_cases h : n.data.toList = [113, 117, 111, 116]
  · have hv : openC n.data.toList = 34 := by rw [h]; decide +kernel
    have e7 := eq_str n [113, 117, 111, 116] h
    rw [hv]
    clear h hv
    go_enter Tryd.func31, Tryd.ntmps31
    go_wp2
    go_ret
    exact ⟨rfl, rfl⟩
  have e7 := ne_str n [113, 117, 111, 116] h
  clear h
  by_cases h : n.data.toList = [110, 98, 115, 112]
  · have hv : openC n.data.toList = 160 := by rw [h]; decide +kernel
    have e8 := eq_str n [110, 98, 115, 112] h
    rw [hv]
    clear h hv
    go_enter Tryd.func31, Tryd.ntmps31
    go_wp2
    go_ret
    exact ⟨rfl, rfl⟩
  have e8 := ne_str n [110, 98, 115, 112] h
  clear h
  by_cases h : n.data.toList = [99, 111, 112, 121]
  · have hv : openC n.data.toList = 169 := by rw [h]; decide +kernel
    have e9 := eq_str n [99, 111, 112, 121] h
    rw [hv]
    clear h hv
    go_enter Tryd.func31, Tryd.ntmps31
    go_wp2
    go_ret
    exact ⟨rfl, rfl⟩
  have e9 := ne_str n [99, 111, 112, 121] h
  clear h
  by_cases h : n.data.toList = [108, 97, 113, 117, 111]
  · have hv : openC n.data.toList = 171 := by rw [h]; decide +kernel
    have e10 := eq_str n [108, 97, 113, 117, 111] h
    rw [hv]
    clear h hv
    go_enter Tryd.func31, Tryd.ntmps31
    go_wp2
    go_ret
    exact ⟨rfl, rfl⟩
  have e10 := ne_str n [108, 97, 113, 117, 111] h
  clear h
  by_cases h : n.data.toList = [110, 111, 116]
  · have hv : openC n.data.toList = 172 := by rw [h]; decide +kernel
    have e11 := eq_str n [110, 111, 116] h
    rw [hv]
    clear h hv
    go_enter Tryd.func31, Tryd.ntmps31
    go_wp2
    go_ret
    exact ⟨rfl, rfl⟩
  have e11 := ne_str n [110, 111, 116] h
  clear h
  by_cases h : n.data.toList = [115, 104, 121]
  · have hv : openC n.data.toList = 173 := by rw [h]; decide +kernel
    have e12 := eq_str n [115, 104, 121] h
    rw [hv]
    clear h hv
    go_enter Tryd.func31, Tryd.ntmps31
    go_wp2
    go_ret
    exact ⟨rfl, rfl⟩
  have e12 := ne_str n [115, 104, 121] h
  clear h
  by_cases h : n.data.toList = [114, 101, 103]
  · have hv : openC n.data.toList = 174 := by rw [h]; decide +kernel
    have e13 := eq_str n [114, 101, 103] h
    rw [hv]
    clear h hv
    go_enter Tryd.func31, Tryd.ntmps31
    go_wp2
    go_ret
    exact ⟨rfl, rfl⟩
  have e13 := ne_str n [114, 101, 103] h
  clear h
  by_cases h : n.data.toList = [100, 101, 103]
  · have hv : openC n.data.toList = 176 := by rw [h]; decide +kernel
    have e14 := eq_str n [100, 101, 103] h
    rw [hv]
    clear h hv
    go_enter Tryd.func31, Tryd.ntmps31
    go_wp2
    go_ret
    exact ⟨rfl, rfl⟩
  have e14 := ne_str n [100, 101, 103] h
  clear h
  by_cases h : n.data.toList = [112, 97, 114, 97]
  · have hv : openC n.data.toList = 182 := by rw [h]; decide +kernel
    have e15 := eq_str n [112, 97, 114, 97] h
    rw [hv]
    clear h hv
    go_enter Tryd.func31, Tryd.ntmps31
    go_wp2
    go_ret
    exact ⟨rfl, rfl⟩
  have e15 := ne_str n [112, 97, 114, 97] h
  clear h
  by_cases h : n.data.toList = [109, 105, 100, 100, 111, 116]
  · have hv : openC n.data.toList = 183 := by rw [h]; decide +kernel
    have e16 := eq_str n [109, 105, 100, 100, 111, 116] h
    rw [hv]
    clear h hv
    go_enter Tryd.func31, Tryd.ntmps31
    go_wp2
    go_ret
    exact ⟨rfl, rfl⟩
  have e16 := ne_str n [109, 105, 100, 100, 111, 116] h
  clear h
  by_cases h : n.data.toList = [114, 97, 113, 117, 111]
  · have hv : openC n.data.toList = 187 := by rw [h]; decide +kernel
    have e17 := eq_str n [114, 97, 113, 117, 111] h
    rw [hv]
    clear h hv
    go_enter Tryd.func31, Tryd.ntmps31
    go_wp2
    go_ret
    exact ⟨rfl, rfl⟩
  have e17 := ne_str n [114, 97, 113, 117, 111] h
  clear h
  by_cases h : n.data.toList = [69, 97, 99, 117, 116, 101]
  · have hv : openC n.data.toList = 201 := by rw [h]; decide +kernel
    have e18 := eq_str n [69, 97, 99, 117, 116, 101] h
    rw [hv]
    clear h hv
    go_enter Tryd.func31, Tryd.ntmps31
    go_wp2
    go_ret
    exact ⟨rfl, rfl⟩
  have e18 := ne_str n [69, 97, 99, 117, 116, 101] h
  clear h
  by_cases h : n.data.toList = [116, 105, 109, 101, 115]
  · have hv : openC n.data.toList = 215 := by rw [h]; decide +kernel
    have e19 := eq_str n [116, 105, 109, 101, 115] h
    rw [hv]
    clear h hv
    go_enter Tryd.func31, Tryd.ntmps31
    go_wp2
    go_ret
    exact ⟨rfl, rfl⟩
  have e19 := ne_str n [116, 105, 109, 101, 115] h
  clear h
  by_cases h : n.data.toList = [115, 122, 108, 105, 103]
  · have hv : openC n.data.toList = 223 := by rw [h]; decide +kernel
    have e20 := eq_str n [115, 122, 108, 105, 103] h
    rw [hv]
    clear h hv
    go_enter Tryd.func31, Tryd.ntmps31
    go_wp2
    go_ret
    exact ⟨rfl, rfl⟩
  have e20 := ne_str n [115, 122, 108, 105, 103] h
  clear h
  by_cases h : n.data.toList = [101, 97, 99, 117, 116, 101]
  · have hv : openC n.data.toList = 233 := by rw [h]; decide +kernel
    have e21 := eq_str n [101, 97, 99, 117, 116, 101] h
    rw [hv]
    clear h hv
    go_enter Tryd.func31, Tryd.ntmps31
    go_wp2
    go_ret
    exact ⟨rfl, rfl⟩
  have e21 := ne_str n [101, 97, 99, 117, 116, 101] h
  clear h
  by_cases h : n.data.toList = [100, 105, 118, 105, 100, 101]
  · have hv : openC n.data.toList = 247 := by rw [h]; decide +kernel
    have e22 := eq_str n [100, 105, 118, 105, 100, 101] h
    rw [hv]
    clear h hv
    go_enter Tryd.func31, Tryd.ntmps31
    go_wp2
    go_ret
    exact ⟨rfl, rfl⟩
  have e22 := ne_str n [100, 105, 118, 105, 100, 101] h
  clear h
  by_cases h : n.data.toList = [117, 117, 109, 108]
  · have hv : openC n.data.toList = 252 := by rw [h]; decide +kernel
    have e23 := eq_str n [117, 117, 109, 108] h
    rw [hv]
    clear h hv
    go_enter Tryd.func31, Tryd.ntmps31
    go_wp2
    go_ret
    exact ⟨rfl, rfl⟩
  have e23 := ne_str n [117, 117, 109, 108] h
  clear h
  have hv : openC n.data.toList = 0 := by
    rw [← Lib.toList_data]
    unfold openC
    rw [show opensE = [([65, 77, 80], 38, true), ([97, 109, 112], 38, true), ([76, 84], 60, true), ([108, 116], 60, true), ([71, 84], 62, true), ([103, 116], 62, true), ([81, 85, 79, 84], 34, true), ([113, 117, 111, 116], 34, true), ([110, 98, 115, 112], 160, true), ([99, 111, 112, 121], 169, true), ([108, 97, 113, 117, 111], 171, true), ([110, 111, 116], 172, true), ([115, 104, 121], 173, true), ([114, 101, 103], 174, true), ([100, 101, 103], 176, true), ([112, 97, 114, 97], 182, true), ([109, 105, 100, 100, 111, 116], 183, true), ([114, 97, 113, 117, 111], 187, true), ([69, 97, 99, 117, 116, 101], 201, true), ([116, 105, 109, 101, 115], 215, true), ([115, 122, 108, 105, 103], 223, true), ([101, 97, 99, 117, 116, 101], 233, true), ([100, 105, 118, 105, 100, 101], 247, true), ([117, 117, 109, 108], 252, true)] from rfl]
    simp only [List.find?_cons, List.find?_nil, e0, e1, e2, e3, e4, e5, e6, e7, e8, e9, e10, e11, e12, e13, e14, e15, e16, e17, e18, e19, e20, e21, e22, e23, Option.map_none, Option.getD_none]
  rw [hv]
  clear hv
  go_enter Tryd.func31, Tryd.ntmps31
  go_wp2
  go_ret
  exact ⟨rfl, rfl⟩

set_option maxHeartbeats 8000000 in
set_option maxRecDepth 100000 in
theorem closed_any (n : ByteArray) (w : World) :
    Calls Tryd.prog 33 #[.string n] w fun e w' => e = .returned (.int .i32 (closeC n.data.toList : Nat)) ∧ w' = w := by
  by_cases h : n.data.toList = [84, 97, 98, 59]
  · have hv : closeC n.data.toList = 9 := by rw [h]; decide +kernel
    have e0 := eq_str n [84, 97, 98, 59] h
    rw [hv]
    clear h hv
    go_enter Tryd.func33, Tryd.ntmps33
    go_wp2
    go_ret
    exact ⟨rfl, rfl⟩
  have e0 := ne_str n [84, 97, 98, 59] h
  clear h
  by_cases h : n.data.toList = [78, 101, 119, 76, 105, 110, 101, 59]
  · have hv : closeC n.data.toList = 10 := by rw [h]; decide +kernel
    have e1 := eq_str n [78, 101, 119, 76, 105, 110, 101, 59] h
    rw [hv]
    clear h hv
    go_enter Tryd.func33, Tryd.ntmps33
    go_wp2
    go_ret
    exact ⟨rfl, rfl⟩
  have e1 := ne_str n [78, 101, 119, 76, 105, 110, 101, 59] h
  clear h
  by_cases h : n.data.toList = [101, 120, 99, 108, 59]
  · have hv : closeC n.data.toList = 33 := by rw [h]; decide +kernel
    have e2 := eq_str n [101, 120, 99, 108, 59] h
    rw [hv]
    clear h hv
    go_enter Tryd.func33, Tryd.ntmps33
    go_wp2
    go_ret
    exact ⟨rfl, rfl⟩
  have e2 := ne_str n [101, 120, 99, 108, 59] h
  clear h
  by_cases h : n.data.toList = [110, 117, 109, 59]
  · have hv : closeC n.data.toList = 35 := by rw [h]; decide +kernel
    have e3 := eq_str n [110, 117, 109, 59] h
    rw [hv]
    clear h hv
    go_enter Tryd.func33, Tryd.ntmps33
    go_wp2
    go_ret
    exact ⟨rfl, rfl⟩
  have e3 := ne_str n [110, 117, 109, 59] h
  clear h
  by_cases h : n.data.toList = [97, 112, 111, 115, 59]
  · have hv : closeC n.data.toList = 39 := by rw [h]; decide +kernel
    have e4 := eq_str n [97, 112, 111, 115, 59] h
    rw [hv]
    clear h hv
    go_enter Tryd.func33, Tryd.ntmps33
    go_wp2
    go_ret
    exact ⟨rfl, rfl⟩
  have e4 := ne_str n [97, 112, 111, 115, 59] h
  clear h
  by_cases h : n.data.toList = [108, 112, 97, 114, 59]
  · have hv : closeC n.data.toList = 40 := by rw [h]; decide +kernel
    have e5 := eq_str n [108, 112, 97, 114, 59] h
    rw [hv]
    clear h hv
    go_enter Tryd.func33, Tryd.ntmps33
    go_wp2
    go_ret
    exact ⟨rfl, rfl⟩
  have e5 := ne_str n [108, 112, 97, 114, 59] h
  clear h
  by_cases h : n.data.toList = [114, 112, 97, 114, 59]
  · have hv : closeC n.data.toList = 41 := by rw [h]; decide +kernel
    have e6 := eq_str n [114, 112, 97, 114, 59] h
    rw [hv]
    clear h hv
    go_enter Tryd.func33, Tryd.ntmps33
    go_wp2
    go_ret
    exact ⟨rfl, rfl⟩
  have e6 := ne_str n [114, 112, 97, 114, 59] h
  clear h
  by_cases h : n.data.toList = [115, 111, 108, 59]
  · have hv : closeC n.data.toList = 47 := by rw [h]; decide +kernel
    have e7 := eq_str n [115, 111, 108, 59] h
    rw [hv]
    clear h hv
    go_enter Tryd.func33, Tryd.ntmps33
    go_wp2
    go_ret
    exact ⟨rfl, rfl⟩
  have e7 := ne_str n [115, 111, 108, 59] h
  clear h
  by_cases h : n.data.toList = [99, 111, 108, 111, 110, 59]
  · have hv : closeC n.data.toList = 58 := by rw [h]; decide +kernel
    have e8 := eq_str n [99, 111, 108, 111, 110, 59] h
    rw [hv]
    clear h hv
    go_enter Tryd.func33, Tryd.ntmps33
    go_wp2
    go_ret
    exact ⟨rfl, rfl⟩
  have e8 := ne_str n [99, 111, 108, 111, 110, 59] h
  clear h
  by_cases h : n.data.toList = [98, 115, 111, 108, 59]
  · have hv : closeC n.data.toList = 92 := by rw [h]; decide +kernel
    have e9 := eq_str n [98, 115, 111, 108, 59] h
    rw [hv]
    clear h hv
    go_enter Tryd.func33, Tryd.ntmps33
    go_wp2
    go_ret
    exact ⟨rfl, rfl⟩
  have e9 := ne_str n [98, 115, 111, 108, 59] h
  clear h
  by_cases h : n.data.toList = [110, 100, 97, 115, 104, 59]
  · have hv : closeC n.data.toList = 8211 := by rw [h]; decide +kernel
    have e10 := eq_str n [110, 100, 97, 115, 104, 59] h
    rw [hv]
    clear h hv
    go_enter Tryd.func33, Tryd.ntmps33
    go_wp2
    go_ret
    exact ⟨rfl, rfl⟩
  have e10 := ne_str n [110, 100, 97, 115, 104, 59] h
  clear h
  by_cases h : n.data.toList = [109, 100, 97, 115, 104, 59]
  · have hv : closeC n.data.toList = 8212 := by rw [h]; decide +kernel
    have e11 := eq_str n [109, 100, 97, 115, 104, 59] h
    rw [hv]
    clear h hv
    go_enter Tryd.func33, Tryd.ntmps33
    go_wp2
    go_ret
    exact ⟨rfl, rfl⟩
  have e11 := ne_str n [109, 100, 97, 115, 104, 59] h
  clear h
  by_cases h : n.data.toList = [108, 115, 113, 117, 111, 59]
  · have hv : closeC n.data.toList = 8216 := by rw [h]; decide +kernel
    have e12 := eq_str n [108, 115, 113, 117, 111, 59] h
    rw [hv]
    clear h hv
    go_enter Tryd.func33, Tryd.ntmps33
    go_wp2
    go_ret
    exact ⟨rfl, rfl⟩
  have e12 := ne_str n [108, 115, 113, 117, 111, 59] h
  clear h
  by_cases h : n.data.toList = [114, 115, 113, 117, 111, 59]
  · have hv : closeC n.data.toList = 8217 := by rw [h]; decide +kernel
    have e13 := eq_str n [114, 115, 113, 117, 111, 59] h
    rw [hv]
    clear h hv
    go_enter Tryd.func33, Tryd.ntmps33
    go_wp2
    go_ret
    exact ⟨rfl, rfl⟩
  have e13 := ne_str n [114, 115, 113, 117, 111, 59] h
  clear h
  by_cases h : n.data.toList = [108, 100, 113, 117, 111, 59]
  · have hv : closeC n.data.toList = 8220 := by rw [h]; decide +kernel
    have e14 := eq_str n [108, 100, 113, 117, 111, 59] h
    rw [hv]
    clear h hv
    go_enter Tryd.func33, Tryd.ntmps33
    go_wp2
    go_ret
    exact ⟨rfl, rfl⟩
  have e14 := ne_str n [108, 100, 113, 117, 111, 59] h
  clear h
  by_cases h : n.data.toList = [114, 100, 113, 117, 111, 59]
  · have hv : closeC n.data.toList = 8221 := by rw [h]; decide +kernel
    have e15 := eq_str n [114, 100, 113, 117, 111, 59] h
    rw [hv]
    clear h hv
    go_enter Tryd.func33, Tryd.ntmps33
    go_wp2
    go_ret
    exact ⟨rfl, rfl⟩
  have e15 := ne_str n [114, 100, 113, 117, 111, 59] h
  clear h
  by_cases h : n.data.toList = [104, 101, 108, 108, 105, 112, 59]
  · have hv : closeC n.data.toList = 8230 := by rw [h]; decide +kernel
    have e16 := eq_str n [104, 101, 108, 108, 105, 112, 59] h
    rw [hv]
    clear h hv
    go_enter Tryd.func33, Tryd.ntmps33
    go_wp2
    go_ret
    exact ⟨rfl, rfl⟩
  have e16 := ne_str n [104, 101, 108, 108, 105, 112, 59] h
  clear h
  by_cases h : n.data.toList = [101, 117, 114, 111, 59]
  · have hv : closeC n.data.toList = 8364 := by rw [h]; decide +kernel
    have e17 := eq_str n [101, 117, 114, 111, 59] h
    rw [hv]
    clear h hv
    go_enter Tryd.func33, Tryd.ntmps33
    go_wp2
    go_ret
    exact ⟨rfl, rfl⟩
  have e17 := ne_str n [101, 117, 114, 111, 59] h
  clear h
  by_cases h : n.data.toList = [116, 114, 97, 100, 101, 59]
  · have hv : closeC n.data.toList = 8482 := by rw [h]; decide +kernel
    have e18 := eq_str n [116, 114, 97, 100, 101, 59] h
    rw [hv]
    clear h hv
    go_enter Tryd.func33, Tryd.ntmps33
    go_wp2
    go_ret
    exact ⟨rfl, rfl⟩
  have e18 := ne_str n [116, 114, 97, 100, 101, 59] h
  clear h
  by_cases h : n.data.toList = [110, 111, 116, 105, 110, 59]
  · have hv : closeC n.data.toList = 8713 := by rw [h]; decide +kernel
    have e19 := eq_str n [110, 111, 116, 105, 110, 59] h
    rw [hv]
    clear h hv
    go_enter Tryd.func33, Tryd.ntmps33
    go_wp2
    go_ret
    exact ⟨rfl, rfl⟩
  have e19 := ne_str n [110, 111, 116, 105, 110, 59] h
  clear h
  by_cases h : n.data.toList = [116, 105, 109, 101, 115, 98, 59]
  · have hv : closeC n.data.toList = 8864 := by rw [h]; decide +kernel
    have e20 := eq_str n [116, 105, 109, 101, 115, 98, 59] h
    rw [hv]
    clear h hv
    go_enter Tryd.func33, Tryd.ntmps33
    go_wp2
    go_ret
    exact ⟨rfl, rfl⟩
  have e20 := ne_str n [116, 105, 109, 101, 115, 98, 59] h
  clear h
  have hv : closeC n.data.toList = 0 := by
    rw [← Lib.toList_data]
    unfold closeC
    rw [show closesE = [([84, 97, 98], 9, false), ([78, 101, 119, 76, 105, 110, 101], 10, false), ([101, 120, 99, 108], 33, false), ([110, 117, 109], 35, false), ([97, 112, 111, 115], 39, false), ([108, 112, 97, 114], 40, false), ([114, 112, 97, 114], 41, false), ([115, 111, 108], 47, false), ([99, 111, 108, 111, 110], 58, false), ([98, 115, 111, 108], 92, false), ([110, 100, 97, 115, 104], 8211, false), ([109, 100, 97, 115, 104], 8212, false), ([108, 115, 113, 117, 111], 8216, false), ([114, 115, 113, 117, 111], 8217, false), ([108, 100, 113, 117, 111], 8220, false), ([114, 100, 113, 117, 111], 8221, false), ([104, 101, 108, 108, 105, 112], 8230, false), ([101, 117, 114, 111], 8364, false), ([116, 114, 97, 100, 101], 8482, false), ([110, 111, 116, 105, 110], 8713, false), ([116, 105, 109, 101, 115, 98], 8864, false)] from rfl]
    simp only [List.cons_append, List.nil_append, List.find?_cons, List.find?_nil, e0, e1, e2, e3, e4, e5, e6, e7, e8, e9, e10, e11, e12, e13, e14, e15, e16, e17, e18, e19, e20, Option.map_none, Option.getD_none]
  rw [hv]
  clear hv
  go_enter Tryd.func33, Tryd.ntmps33
  go_wp2
  go_ret
  exact ⟨rfl, rfl⟩

end Go.Proofs.YthoibenncjbkdaaDoor.S4
