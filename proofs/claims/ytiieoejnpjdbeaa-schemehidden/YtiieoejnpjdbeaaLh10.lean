/- What SchemeHidden answers: true; nothing that was there is written. -/
import Derived.Test.YtiieoejnpjdbeaaLd10
import Derived.Deep.RegionHeld2
set_option linter.unusedVariables false
set_option linter.unusedSimpArgs false
namespace Go.Proofs.Ytiieoejnpjdbeaa
open Go.RowKit

theorem cut_from (s : ByteArray) (p : Nat) (h : p ≤ s.size) : (s.extract p s.size).data.toList = s.data.toList.drop p := by
  rw [Lib.extract_data]
  apply List.take_of_length_le
  rw [List.length_drop, ← size_list]
  omega
theorem mid_data (s : ByteArray) (p : Nat) (h : p ≤ s.size) (q : UInt8) : (s.extract 0 p ++ (⟨#[q]⟩ : ByteArray) ++ s.extract p s.size).data.toList = s.data.toList.take p ++ [q] ++ s.data.toList.drop p :=
  str_app _ _ _ _ (str_app _ _ _ _ (cut_list s p h) rfl) (cut_from s p h)
theorem hid_of (s : ByteArray) (hs : s.size ≤ 200) (p : Nat) (hp : p ≤ s.size) (q : UInt8) (hq : hidC q = true) (w : World) :
    Calls Try.prog 9 #[.string (s.extract 0 p ++ (⟨#[q]⟩ : ByteArray) ++ s.extract p s.size)] w fun e w' => e = .returned (ansO (ofL s.data.toList)) ∧ Below w.heap.size w w' := by
  have e := mid_data s p hp q
  have h := of_any (s.extract 0 p ++ (⟨#[q]⟩ : ByteArray) ++ s.extract p s.size) (by
    rw [size_list, e]
    simp only [List.length_append, List.length_take, List.length_drop, List.length_cons, List.length_nil]
    rw [← size_list]
    omega) w
  rw [e] at h
  unfold ofL at h ⊢
  rw [tidy_mid _ _ q hq, List.take_append_drop] at h
  exact h
theorem ahead_of (s : ByteArray) (hs : s.size ≤ 200) (q : UInt8) (hq : blankC q = true) (w : World) :
    Calls Try.prog 9 #[.string ((⟨#[q]⟩ : ByteArray) ++ (⟨#[32]⟩ : ByteArray) ++ s)] w fun e w' => e = .returned (ansO (ofL s.data.toList)) ∧ Below w.heap.size w w' := by
  have e : ((⟨#[q]⟩ : ByteArray) ++ (⟨#[32]⟩ : ByteArray) ++ s).data.toList = q :: 32 :: s.data.toList := str_app _ _ [q, 32] _ (str_app _ _ [q] [32] rfl rfl) rfl
  have h := of_any ((⟨#[q]⟩ : ByteArray) ++ (⟨#[32]⟩ : ByteArray) ++ s) (by
    rw [size_list, e]
    simp only [List.length_cons]
    rw [← size_list]
    omega) w
  rw [e] at h
  unfold ofL at h ⊢
  rw [tidy_cons_blank _ _ hq, tidy_cons_blank _ _ (by decide)] at h
  exact h
theorem and_all : (List.range 256).all (fun n => bits BinOp.and IntKind.u8 (n : Int) 31 == ((n % 32 : Nat) : Int)) = true := by decide +kernel
theorem and_31 (c : Int) (h : (Lit.int .u8 c).wf = true) : ∃ q : UInt8, bits BinOp.and IntKind.u8 c 31 = (q.toNat : Int) ∧ blankC q = true := by
  have h2 : 0 ≤ c ∧ c < 256 := by
    have h3 : (decide ((0 : Int) ≤ c) && decide (c ≤ 255)) = true := h
    simp at h3
    omega
  obtain ⟨n, rfl⟩ : ∃ n : Nat, c = n := ⟨c.toNat, by omega⟩
  have h3 := List.all_eq_true.1 and_all n (List.mem_range.2 (by omega))
  rw [beq_iff_eq] at h3
  refine ⟨UInt8.ofNat (n % 32), ?_, ?_⟩
  · rw [h3, UInt8.toNat_ofNat']
    congr 1
    omega
  · unfold blankC
    rw [UInt8.toNat_ofNat', decide_eq_true_eq]
    omega
theorem conv_one (W : World) (q : UInt8) : (convert 28 9 (.slice (some ⟨W.heap.size, 0, none⟩) 1 1)).run Try.prog (W.alloc (.cells #[.int .u8 (q.toNat : Int)] 5)) = .ok (.string ⟨#[q]⟩) (W.alloc (.cells #[.int .u8 (q.toNat : Int)] 5)) :=
  conv_bytes (W.alloc (.cells #[.int .u8 (q.toNat : Int)] 5)) ⟨W.heap.size, 0, none⟩ 1 [q] (by
    intro j hj
    obtain rfl : j = 0 := by simpa using hj
    rw [addr_add]
    simp [go_sem])
set_option maxHeartbeats 1000000 in
theorem schemeHidden_walk (s : ByteArray) (z : Int) (c : Int) (hc : (Lit.int .u8 c).wf = true) (w : World) :
    Calls Try.prog 5 #[.string s, .int .i64 z, .int .u8 c] w fun e w' => e = .returned (.bool true) ∧ Below w.heap.size w w' := by
  have H1 := hide alive_any
  by_cases hs : 200 < s.size
  · have hs2 : (200 : Int) < s.size := by omega
    clear hs
    go_enter Try.func5, Try.ntmps5
    go_wp2_with fail
    refine (H1.out _).mono ?_
    rintro e w1 ⟨rfl, b1⟩
    go_wp2
    go_ret
    exact ⟨rfl, b1⟩
  have hs2 : ¬ (200 : Int) < s.size := by omega
  by_cases hz : z < 0
  · go_enter Try.func5, Try.ntmps5
    go_wp2_with fail
    refine (H1.out _).mono ?_
    rintro e w1 ⟨rfl, b1⟩
    go_wp2
    go_ret
    exact ⟨rfl, b1⟩
  by_cases hz2 : (s.size : Int) < z
  · go_enter Try.func5, Try.ntmps5
    go_wp2_with fail
    refine (H1.out _).mono ?_
    rintro e w1 ⟨rfl, b1⟩
    go_wp2
    go_ret
    exact ⟨rfl, b1⟩
  obtain ⟨p, rfl⟩ : ∃ p : Nat, z = p := ⟨z.toNat, by omega⟩
  have hp : p ≤ s.size := by omega
  have h2 := of_any s (by omega)
  have h9 := hid_of s (by omega) p hp 9 (by decide)
  have h10 := hid_of s (by omega) p hp 10 (by decide)
  have h13 := hid_of s (by omega) p hp 13 (by decide)
  obtain ⟨q, hand, hq⟩ := and_31 c hc
  have hcv := fun W => conv_one W q
  have ha := ahead_of s (by omega) q hq
  obtain ⟨T, B, ho, hT⟩ := opt_pair (ofL s.data.toList)
  rw [ho] at h2 h9 h10 h13 ha
  have H2 := hide (of_pair h2 hT)
  have H9 := hide (of_pair h9 hT)
  have H10 := hide (of_pair h10 hT)
  have H13 := hide (of_pair h13 hT)
  have HA := hide (of_pair ha hT)
  have hp2 : (p : Int) ≤ s.size := by omega
  have hzz : ¬ (p : Int) < 0 := by omega
  have hzz2 : ¬ (s.size : Int) < p := by omega
  have hz1 : (s.extract 0 p).size ≤ 200 := by rw [cut_size s p hp]; omega
  have hz2 : (s.extract p s.size).size ≤ 200 := by rw [size_list, cut_from s p hp, List.length_drop, ← size_list]; omega
  have HT := hide hT
  have hb1 : ¬9223372036854775807 < min p s.size + 1 := by omega
  have hb2 : ¬9223372036854775807 < min p s.size + 1 + (s.size - p) := by omega
  clear hs h2 h9 h10 h13 ho hT hz hz2 hp ha hq
  generalize (⟨T.toArray⟩ : ByteArray) = x at *
  go_enter Try.func5, Try.ntmps5
  go_wp2_with fail
  refine (H2.out _).mono ?_
  rintro e w1 ⟨rfl, b1⟩
  go_wp2_with fail
  go_region_held2 (fun _ => True) (trivial) (first | (go_at_call 9; refine (H9.out _).mono ?_; rintro e w2 ⟨rfl, b2⟩))
  have c2 := b1.drew.trans (b2.mono b1.drew.size)
  go_wp2_with fail
  go_region_held2 (fun _ => True) (trivial) (first | (go_at_call 9; refine (H10.out _).mono ?_; rintro e w3 ⟨rfl, b3⟩))
  have c3 := c2.drew.trans (b3.mono c2.drew.size)
  go_wp2_with fail
  go_region_held2 (fun _ => True) (trivial) (first | (go_at_call 9; refine (H13.out _).mono ?_; rintro e w4 ⟨rfl, b4⟩))
  have c4 := c3.drew.trans (b4.mono c3.drew.size)
  clear b1 b2 b3 b4 H9 H10 H13
  go_wp2_with fail
  refine (HA.out _).mono ?_
  rintro e w5 ⟨rfl, b5⟩
  have c5 := (c4.alloc c4.size (.cells #[.int .u8 (q.toNat : Int)] 5)).trans (b5.mono (c4.alloc c4.size (.cells #[.int .u8 (q.toNat : Int)] 5)).size)
  go_wp2_with fail
  refine (H1.out _).mono ?_
  rintro e w6 ⟨rfl, b6⟩
  have c6 := c5.trans (b6.mono c5.size)
  go_wp2
  go_ret
  exact ⟨by simp, c6⟩
end Go.Proofs.Ytiieoejnpjdbeaa
