/- What slices.Contains, among, html, Point, endsAll, endsAtName, Ends, named and Special answer, of whatever element and names; nothing that was there is written. -/
import Derived.Test.YtfknhpkpenhflaaWalkD
import Derived.Test.YtfknhpkpenhflaaOp6
set_option linter.unusedVariables false
set_option linter.unusedSimpArgs false
namespace Go.Proofs.Ytfknhpkpenhflaa
open Go.RowKit

def OV.cells (o : OV) : Array Value := #[.int .i64 o.id, .int .i64 o.sp, .string o.nm]
def OV.val (o : OV) : Value := .agg o.cells
/-- A list of texts lies there. -/
def IsW (w : World) (v : Value) (l : List (List UInt8)) : Prop := (l = [] ∧ ∃ a c, v = .slice a 0 c) ∨ ∃ b o cap, v = .slice (some ⟨b, o, none⟩) l.length cap ∧ ∀ j (hj : j < l.length), w.cell? ⟨b, o + j, none⟩ = some (.string ⟨(l[j]).toArray⟩)
theorem IsW.below {w W : World} {v : Value} {l : List (List UInt8)} (h : IsW w v l) (hb : Below w.heap.size w W) : IsW W v l := by
  rcases h with h | ⟨b, o, cap, rfl, hc⟩
  · exact .inl h
  · exact .inr ⟨b, o, cap, rfl, fun j hj => by rw [hb.cell (cell_lt (hc j hj))]; exact hc j hj⟩
theorem IsW.drew {w : World} {v : Value} {l : List (List UInt8)} (h : IsW w v l) : IsW w.drew v l := h
theorem isW_built (w : World) (l : List (List UInt8)) : IsW (w.alloc (.cells (cellsOf l) 9)) (.slice (some ⟨w.heap.size, 0, none⟩) l.length l.length) l :=
  .inr ⟨_, _, _, rfl, fun j hj => by rw [Nat.zero_add]; exact built_cell w l j hj⟩

set_option maxHeartbeats 1000000 in
theorem index_any (n : ByteArray) (l : List (List UInt8)) (v : Value) (w : World) (hl : l.length ≤ 1000000) (hW : IsW w v l) :
    Calls Try.prog 46 #[v, .string n] w fun e w' => (∃ z : Int, e = .returned (.int .i64 z) ∧ decide (0 ≤ z) = amongL l n.data.toList) ∧ w' = w := by
  rcases hW with ⟨rfl, a, c, rfl⟩ | ⟨b, o, cap, rfl, hc⟩
  · go_enter Try.func46, Try.ntmps46
    go_wp2
    go_loop [8] (fun i => i = .int .i64 0) (fun i => 0)
    case atStart => rfl
    case round =>
      subst hrel
      go_wp2
      go_ret
      exact ⟨⟨_, rfl, rfl⟩, rfl⟩
  · have HC := hide hc
    clear hc
    generalize hV : amongL l n.data.toList = V
    have HV := hide hV
    clear hV
    go_enter Try.func46, Try.ntmps46
    go_wp2
    go_loop [8] (fun i => ∃ k : Nat, k ≤ l.length ∧ i = .int .i64 k ∧ Hid (amongL (l.drop k) n.data.toList = V)) (fun i => l.length - (intOf i).toNat)
    case atStart => exact ⟨0, Nat.zero_le _, rfl, hide (by rw [List.drop_zero]; exact HV.out)⟩
    case round =>
      obtain ⟨k, hk, rfl, HR⟩ := hrel
      by_cases hlt : k < l.length
      · have hcell := HC.out k hlt
        have he := str_eq n l[k]
        have hs := among_step l n.data.toList k hlt
        rw [HR.out] at hs
        have hlt2 : (k : Int) < l.length := by omega
        cases hb : n.data.toList == l[k]
        · rw [hb] at he hs
          rw [Bool.false_or] at hs
          have HR2 := hide hs.symm
          clear hs hb HR
          generalize l[k] = x at *
          clear hlt
          go_wp2
          go_round
          case rel => exact ⟨k + 1, by omega, by go_num, HR2⟩
          case measure => simp [intOf]; omega
        · rw [hb] at he hs
          rw [Bool.true_or] at hs
          have HR2 := hide hs
          clear hs hb HR
          generalize l[k] = x at *
          clear hlt
          go_wp2
          go_ret
          exact ⟨⟨_, rfl, by rw [HR2.out]; exact decide_eq_true (by omega)⟩, rfl⟩
      · have hs := among_end l n.data.toList k (by omega)
        rw [HR.out] at hs
        have HR2 := hide hs
        have hlt2 : ¬ (k : Int) < l.length := by omega
        clear hs HR hlt
        go_wp2
        go_ret
        exact ⟨⟨_, rfl, by rw [HR2.out]; rfl⟩, rfl⟩

set_option maxHeartbeats 1000000 in
theorem contains_any (n : ByteArray) (l : List (List UInt8)) (v : Value) (w : World) (hl : l.length ≤ 1000000) (hW : IsW w v l) :
    Calls Try.prog 43 #[v, .string n] w fun e w' => e = .returned (.bool (amongL l n.data.toList)) ∧ w' = w := by
  have H := hide (index_any n l v w hl hW)
  generalize amongL l n.data.toList = V at *
  clear hW
  go_enter Try.func43, Try.ntmps43
  go_wp2_with fail
  refine H.out.mono ?_
  rintro e w1 ⟨⟨z, rfl, hz⟩, rfl⟩
  have HZ := hide hz
  clear hz
  go_wp2
  go_ret
  exact ⟨ret_bool HZ.out, rfl⟩

set_option maxHeartbeats 1000000 in
theorem pamong_any (n : ByteArray) (l : List (List UInt8)) (v : Value) (w : World) (hl : l.length ≤ 1000000) (hW : IsW w v l) :
    Calls Try.prog 29 #[.string n, v] w fun e w' => e = .returned (.bool (amongL l n.data.toList)) ∧ w' = w := by
  have H := hide (contains_any n l v w hl hW)
  generalize amongL l n.data.toList = V at *
  clear hW
  go_enter Try.func29, Try.ntmps29
  go_wp2_with fail
  refine H.out.mono ?_
  rintro e w1 ⟨rfl, rfl⟩
  go_wp2
  go_ret
  exact ⟨rfl, rfl⟩
theorem pamong_built (n : ByteArray) (l : List (List UInt8)) (hl : l.length ≤ 1000) (V : Bool) (hV : amongL l n.data.toList = V) (w : World) :
    Calls Try.prog 29 #[.string n, .slice (some ⟨w.heap.size, 0, none⟩) l.length l.length] (w.alloc (.cells (cellsOf l) 9)) fun e w' => e = .returned (.bool V) ∧ Below w.heap.size w w' :=
  (pamong_any n l _ _ (by omega) (isW_built w l)).mono fun e w' ⟨h1, h2⟩ => ⟨by rw [h1, hV], by rw [h2]; exact below_alloc w _⟩

theorem ends_all_of (n : List UInt8) : endsNameL n 1 = amongL wholeN n := rfl
set_option maxHeartbeats 1000000 in
theorem endsAll_any (n : ByteArray) (w : World) :
    Calls Try.prog 42 #[.string n] w fun e w' => e = .returned (.bool (amongL wholeN n.data.toList)) ∧ Below w.heap.size w w' := by
  generalize hV : amongL wholeN n.data.toList = V
  have H := hide (pamong_built n wholeN (by decide) V hV w)
  clear hV
  go_enter Try.func42, Try.ntmps42
  go_wp2_with fail
  refine H.out.mono ?_
  rintro e w1 ⟨rfl, b1⟩
  go_wp2
  go_ret
  exact ⟨rfl, b1⟩

set_option maxHeartbeats 1000000 in
theorem html_any (o : OV) (w : World) :
    Calls Try.prog 26 #[.agg #[.int .i64 o.id, .int .i64 o.sp, .string o.nm]] w fun e w' => e = .returned (.bool (htmlL o)) ∧ Below w.heap.size w w' := by
  obtain ⟨id, sp, nm⟩ := o
  go_enter Try.func26, Try.ntmps26
  go_wp2
  go_ret
  exact ⟨rfl, below_alloc w _⟩
end Go.Proofs.Ytfknhpkpenhflaa
