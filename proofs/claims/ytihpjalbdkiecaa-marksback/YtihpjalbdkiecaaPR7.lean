/- What slices.Index, slices.Contains of numbers and the program's Renew answer; nothing that was there is written. -/
import Derived.Test.YtihpjalbdkiecaaPL7
set_option linter.unusedVariables false
set_option linter.unusedSimpArgs false
namespace Go.Proofs.Ytihpjalbdkiecaa
open Go.RowKit

def inZ (zs : List Int) (z : Int) : Bool := zs.any fun y => y == z
theorem inZ_step (zs : List Int) (z : Int) (k : Nat) (h : k < zs.length) : inZ (zs.drop k) z = (zs[k] == z || inZ (zs.drop (k + 1)) z) := by
  rw [List.drop_eq_getElem_cons h]; rfl
theorem inZ_end (zs : List Int) (z : Int) (k : Nat) (h : zs.length ≤ k) : inZ (zs.drop k) z = false := by
  rw [List.drop_eq_nil_of_le h]; rfl

set_option maxHeartbeats 1000000 in
theorem indexZ_p (z : Int) (zs : List Int) (v : Value) (w : World) (hl : zs.length ≤ 1000000) (hZ : IsZ w v zs) :
    Calls Try.prog 53 #[v, .int .i64 z] w fun e w' => (∃ y : Int, e = .returned (.int .i64 y) ∧ decide (0 ≤ y) = inZ zs z) ∧ w' = w := by
  obtain ⟨a, c, rfl⟩ := isZ_form hZ
  have HC := hide hZ
  clear hZ
  generalize hV : inZ zs z = V
  have HV := hide hV
  clear hV
  go_enter Try.func53, Try.ntmps53
  go_wp2
  go_loop [8] (fun i => ∃ k : Nat, k ≤ zs.length ∧ i = .int .i64 k ∧ Hid (inZ (zs.drop k) z = V)) (fun i => zs.length - (intOf i).toNat)
  case atStart => exact ⟨0, Nat.zero_le _, rfl, hide (by rw [List.drop_zero]; exact HV.out)⟩
  case round =>
    obtain ⟨k, hk, rfl, HR⟩ := hrel
    by_cases hlt : k < zs.length
    · obtain ⟨b, o, rfl, hcell⟩ := HC.out.get k hlt
      have hs := inZ_step zs z k hlt
      rw [HR.out] at hs
      have hlt2 : (k : Int) < zs.length := by omega
      generalize zs[k] = x at *
      cases hb : x == z
      · rw [hb, Bool.false_or] at hs
        have hb2 : (z == x) = false := by rw [beq_eq_false_iff_ne] at hb ⊢; exact fun h => hb h.symm
        have hb3 : ¬ z = x := by rw [beq_eq_false_iff_ne] at hb; exact fun h => hb h.symm
        have HR2 := hide hs.symm
        clear hs HR hlt
        go_wp2
        go_round
        case rel => exact ⟨k + 1, by omega, by go_num, HR2⟩
        case measure => simp [intOf]; omega
      · rw [hb, Bool.true_or] at hs
        obtain rfl : x = z := by simpa using hb
        have HR2 := hide hs
        clear hs hb HR hlt
        go_wp2
        go_ret
        exact ⟨⟨_, rfl, by rw [HR2.out]; exact decide_eq_true (by omega)⟩, rfl⟩
    · have hs := inZ_end zs z k (by omega)
      rw [HR.out] at hs
      have HR2 := hide hs
      have hlt2 : ¬ (k : Int) < zs.length := by omega
      clear hs HR hlt
      go_wp2
      go_ret
      exact ⟨⟨_, rfl, by rw [HR2.out]; rfl⟩, rfl⟩

set_option maxHeartbeats 1000000 in
theorem containsZ_p (z : Int) (zs : List Int) (v : Value) (w : World) (hl : zs.length ≤ 1000000) (hZ : IsZ w v zs) :
    Calls Try.prog 46 #[v, .int .i64 z] w fun e w' => e = .returned (.bool (inZ zs z)) ∧ w' = w := by
  have H := hide (indexZ_p z zs v w hl hZ)
  generalize inZ zs z = V at *
  clear hZ
  go_enter Try.func46, Try.ntmps46
  go_wp2_with fail
  refine H.out.mono ?_
  rintro e w1 ⟨⟨y, rfl, hz⟩, rfl⟩
  have HZ := hide hz
  clear hz
  go_wp2
  go_ret
  exact ⟨ret_bool HZ.out, rfl⟩

set_option maxHeartbeats 1000000 in
theorem renewC_p (m : MV) (a : Option Addr) (n c : Nat) (hm : m.av = .slice a n c) (zs : List Int) (hz : zs.length ≤ 1000000) (u : Value) (nb : Nat) (w : World) (hn : w.cell? ⟨nb, 0, none⟩ = some u) (hZ : IsZ w u zs) :
    Calls Try.prog 45 #[.agg #[.int .i64 m.id, .string m.nm, m.av], .pointer (some ⟨nb, 0, none⟩)] w fun e w' => e = .returned (.bool (stopM zs m)) ∧ Below w.heap.size w w' := by
  have H1 := hide (fun w1 => marker_p m a n c hm w1)
  have H2 := hide (fun w1 (b : Below w.heap.size w w1) => containsZ_p m.id zs u w1 hz (hZ.below b))
  have HS : Hid (stopM zs m = (markerM m || inZ zs m.id)) := hide rfl
  rw [HS.out]
  generalize inZ zs m.id = B at *
  generalize markerM m = M at *
  obtain ⟨id, nm, aa, av⟩ := m
  simp only [] at hm H1 H2
  subst hm
  obtain ⟨a2, c2, rfl⟩ := isZ_form hZ
  have HN := hide (fun (w1 : World) (b : Below w.heap.size w w1) => show w1.cell? ⟨nb, 0, none⟩ = some (.slice a2 zs.length c2) by rw [b.cell (cell_lt hn)]; exact hn)
  clear hn hZ HS
  cases M with
  | true =>
    go_enter Try.func45, Try.ntmps45
    go_wp2_with fail
    refine (H1.out _).mono ?_
    rintro e w1 ⟨rfl, b1⟩
    go_wp2
    go_ret
    exact ⟨rfl, box_below w _ b1⟩
  | false =>
    go_enter Try.func45, Try.ntmps45
    go_wp2_with fail
    refine (H1.out _).mono ?_
    rintro e w1 ⟨rfl, b1⟩
    obtain ⟨c0, c1, c2⟩ := boxW_cells w id nm (.slice a n c) b1
    have bb := hide (box_below w _ b1)
    have hn2 := HN.out w1 bb.out
    clear b1
    go_wp2_with fail
    refine (H2.out w1 bb.out).mono ?_
    rintro e w2 ⟨rfl, rfl⟩
    go_wp2
    go_ret
    exact ⟨rfl, bb.out⟩

set_option maxHeartbeats 1000000 in
theorem renew_p (v u : Value) (l : List MV) (hs : SmallM l) (zs : List Int) (hz : zs.length ≤ 1000) (w : World) (hM : RowM w v l) (hOk : OkM w l) (hZ : IsZ w u zs) :
    Calls Try.prog 28 #[v, u] w fun e w' => e = .returned (.int .i64 (renewL l zs : Int)) ∧ Below w.heap.size w w' := by
  have hmf : ∀ (fn : Fn) (first cap : Array Value) (w : World), (Instr.makeFunc fn first cap).run Try.prog w = .ok (.func fn first cap) w := fun _ _ _ _ => rfl
  have hl : l.length ≤ 1000000 := by have := hs.1; omega
  have bA := below_alloc w (.cells #[u] 37)
  have H := hide (last_any 45 [.pointer (some ⟨w.heap.size, 0, none⟩)] (stopM zs) l hl v (w.alloc (.cells #[u] 37)) (hM.below bA) (hOk.below bA) enters_renew1
    (fun o a n1 c w1 hq b1 => renewC_p o a n1 c hq zs (by omega) u w.heap.size w1 (by rw [b1.cell (by simp)]; exact one_cell w _ _) (hZ.below (bA.trans (b1.mono bA.size)))))
  obtain ⟨a, c, rfl⟩ := rowM_form hM
  obtain ⟨a2, c2, rfl⟩ := isZ_form hZ
  unfold renewL
  rw [behind_last]
  have hr : placeZ (lastG (stopM zs) l l.length) + 1 ≤ 1000000 := by
    rw [← behind_last]
    have := behind_le (stopM zs) l l.length
    omega
  have hr2 : -1 ≤ placeZ (lastG (stopM zs) l l.length) := by
    have := behind_last (stopM zs) l l.length
    omega
  generalize placeZ (lastG (stopM zs) l l.length) = Z at *
  clear hM hOk hs hZ
  have BA := hide bA
  clear bA
  go_enter Try.func28, Try.ntmps28
  go_wp2_with fail
  refine H.out.mono ?_
  rintro e w1 ⟨rfl, b1⟩
  go_wp2
  go_ret
  exact ⟨ret_int (by go_num), BA.out.trans (b1.mono BA.out.size)⟩
end Go.Proofs.Ytihpjalbdkiecaa
