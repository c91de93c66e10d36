/- What the program's distinct and Alike answer; nothing that was there is written. -/
import Derived.Test.YtihpjalbdkiecaaPM7
set_option linter.unusedVariables false
set_option linter.unusedSimpArgs false
namespace Go.Proofs.Ytihpjalbdkiecaa
open Go.RowKit Go.Sort

set_option maxHeartbeats 1000000 in
theorem distinct_p (v : Value) (l : AttrL) (hl : l.length ≤ 100000) (w : World) (hQ : IsQ w v l) :
    Calls Try.prog 31 #[v] w fun e w' => (∃ a c d, e = .returned (.slice a (List.length d) c) ∧ IsQ w' (.slice a (List.length d) c) d ∧ DistL l d) ∧ Below w.heap.size w w' := by
  have hmf : ∀ (fn : Fn) (first cap : Array Value) (w : World), (Instr.makeFunc fn first cap).run Try.prog w = .ok (.func fn first cap) w := fun _ _ _ _ => rfl
  have H1 := hide (clone_p v l hl w hQ)
  obtain ⟨a, c, rfl⟩ := isQ_form hQ
  clear hQ
  rcases (by omega : l.length = 0 ∨ l.length = 1 ∨ 2 ≤ l.length) with h0 | h0 | h0
  · obtain rfl := List.eq_nil_of_length_eq_zero h0
    simp only [List.length_nil] at H1 ⊢
    have H2 := hide (fun a c w1 => sort_none a c (.func (.func 49) #[] #[]) w1)
    have H3 := hide (fun a c w1 => compact_one a 0 c (by omega) w1)
    clear h0 hl
    go_enter Try.func31, Try.ntmps31
    go_wp2_with fail
    refine H1.out.mono ?_
    rintro e w1 ⟨⟨a1, c1, rfl, -⟩, b1⟩
    have B1 := hide b1
    clear b1
    go_wp2_with fail
    refine (H2.out _ _ _).mono ?_
    rintro e w2 ⟨rfl, rfl⟩
    go_wp2_with fail
    refine (H3.out _ _ _).mono ?_
    rintro e w3 ⟨rfl, rfl⟩
    go_wp2
    go_ret
    exact ⟨⟨_, _, [], rfl, .inl ⟨rfl, _, _, rfl⟩, List.Pairwise.nil, Nat.le_refl _, fun _ => Iff.rfl⟩, B1.out⟩
  · have H2 := hide (fun b c w1 h1 h2 h3 h4 => sort_p w.heap.size l (by omega) b c w1 h1 h2 h3 h4)
    have H3 := hide (fun a c w1 => compact_one a 1 c (by omega) w1)
    rw [h0] at H1 H2 ⊢
    have HL := hide h0
    clear h0 hl
    go_enter Try.func31, Try.ntmps31
    go_wp2_with fail
    refine H1.out.mono ?_
    rintro e w1 ⟨⟨a1, c1, rfl, hx⟩, b1⟩
    obtain ⟨g, rfl, hg1, hg2, hg3, hg4⟩ := hx (by omega)
    have B1 := hide b1
    have HG := hide (And.intro hg2 (And.intro hg3 hg4))
    clear b1 hx hg1 hg2 hg3 hg4
    go_wp2_with fail
    refine (H2.out _ _ _ HG.out.1 B1.out.size HG.out.2.1 HG.out.2.2).mono ?_
    rintro e w2 ⟨rfl, ⟨s, hs1, hs2, hs3, hs4⟩, b2⟩
    have HS := hide (And.intro hs1 (And.intro hs2 hs4))
    have B2 := hide b2
    clear hs1 hs2 hs3 hs4 b2
    go_wp2_with fail
    refine (H3.out _ _ _).mono ?_
    rintro e w3 ⟨rfl, rfl⟩
    go_wp2
    go_ret
    obtain ⟨hs1, hs2, hs4⟩ := HS.out
    have hq := rowA_q hs4 c1
    refine ⟨⟨_, c1, s, ?_, hq, ?_, by rw [hs1, HL.out]; exact Nat.le_refl _, hs2⟩, B1.out.trans B2.out⟩
    · rw [hs1]; rfl
    · match s, hs1 with
      | [x], _ => exact List.pairwise_singleton _ _
  · have H2 := hide (fun b c w1 h1 h2 h3 h4 => sort_p w.heap.size l (by omega) b c w1 h1 h2 h3 h4)
    have H3 := hide (fun (s : AttrL) (hs : s.length = l.length) b c (hc : l.length ≤ c) w1 (hB : w.heap.size ≤ b) hR => compact_p w.heap.size s (by omega) (by omega) b c (by omega) w1 hB hR)
    have H4 : Hid (∀ (s : AttrL), s.length = l.length → (∀ x, x ∈ s ↔ x ∈ l) → (∀ i j (hi : i < s.length) (hj : j < s.length), i < j → ltOf cmpA s[j] s[i] = false) → DistL l (onceK s s.length)) := hide fun s h1 h2 h3 => ⟨once_up s h3 _ (Nat.le_refl _), by have := once_len s s.length; omega, fun x => by rw [once_mem s _ (Nat.le_refl _), List.take_length]; exact h2 x⟩
    obtain ⟨N, hN⟩ : ∃ N, N = l.length := ⟨_, rfl⟩
    rw [← hN] at H1 H2 H3 H4 ⊢
    have HN : Hid (0 < N) := hide (by omega)
    have HNL := hide hN
    clear h0 hl hN
    go_enter Try.func31, Try.ntmps31
    go_wp2_with fail
    refine H1.out.mono ?_
    rintro e w1 ⟨⟨a1, c1, rfl, hx⟩, b1⟩
    obtain ⟨g, rfl, hg1, hg2, hg3, hg4⟩ := hx HN.out
    have B1 := hide b1
    have HG := hide (And.intro hg2 (And.intro hg3 hg4))
    have HC := hide hg1
    clear b1 hx hg1 hg2 hg3 hg4
    go_wp2_with fail
    refine (H2.out _ _ _ HG.out.1 B1.out.size HG.out.2.1 HG.out.2.2).mono ?_
    rintro e w2 ⟨rfl, ⟨s, hs1, hs2, hs3, hs4⟩, b2⟩
    have hs1' : s.length = N := by rw [hs1, HNL.out]
    have H5 := hide (H3.out s hs1' g c1 HC.out w2 HG.out.1 hs4)
    have HD := hide (H4.out s hs1' hs2 hs3)
    rw [hs1'] at H5 HD
    have B2 := hide b2
    generalize onceK s N = D at *
    clear hs1 hs2 hs3 hs4 b2 hs1'
    go_wp2_with fail
    refine H5.out.mono ?_
    rintro e w3 ⟨⟨c3, rfl, hq⟩, b3⟩
    go_wp2
    go_ret
    exact ⟨⟨_, c3, D, rfl, hq, HD.out⟩, (B1.out.trans B2.out).trans b3⟩

set_option maxHeartbeats 1000000 in
theorem alike_p (va vb : Value) (l r : AttrL) (hl : l.length ≤ 1000) (hr : r.length ≤ 1000) (w : World) (hA : IsQ w va l) (hB : IsQ w vb r) :
    Calls Try.prog 10 #[va, vb] w fun e w' => e = .returned (.bool (alikeL l r)) ∧ Below w.heap.size w w' := by
  have H1 := hide (fun w1 (b : Below w.heap.size w w1) => distinct_p va l (by omega) w1 (hA.below b))
  have H2 := hide (fun w1 (b : Below w.heap.size w w1) => distinct_p vb r (by omega) w1 (hB.below b))
  obtain ⟨a1, c1, rfl⟩ := isQ_form hA
  obtain ⟨a2, c2, rfl⟩ := isQ_form hB
  clear hA hB
  by_cases hlr : l.length = r.length
  · have H3 : Hid (∀ d1 d2 (v1 v2 : Value) w1, DistL l d1 → DistL r d2 → IsQ w1 v1 d1 → IsQ w1 v2 d2 → Calls Try.prog 30 #[v1, v2] w1 fun e w' => e = .returned (.bool (alikeL l r)) ∧ Below w1.heap.size w1 w') := hide fun d1 d2 v1 v2 w1 h1 h2 q1 q2 => by
      rw [alike_dist l r d1 d2 h1 h2 hlr]
      exact equal_p v1 v2 d1 d2 (by have := h1.2.1; omega) (by have := h2.2.1; omega) w1 q1 q2
    generalize alikeL l r = V at *
    rw [hlr] at H1 ⊢
    obtain ⟨N, hN⟩ : ∃ N, N = r.length := ⟨_, rfl⟩
    rw [← hN] at H1 H2 ⊢
    clear hN hlr hl hr
    go_enter Try.func10, Try.ntmps10
    go_wp2_with fail
    refine (H1.out _ (Below.refl _ _)).mono ?_
    rintro e w1 ⟨⟨b1, k1, d1, rfl, q1, m1⟩, bb1⟩
    have Q1 := hide q1
    have M1 := hide m1
    have B1 := hide bb1
    clear q1 m1 bb1
    generalize hn1 : List.length d1 = n1 at *
    clear hn1
    go_wp2_with fail
    refine (H2.out _ B1.out).mono ?_
    rintro e w2 ⟨⟨b2, k2, d2, rfl, q2, m2⟩, bb2⟩
    have H4 := hide (H3.out d1 d2 _ _ w2 M1.out m2 (Q1.out.below bb2) q2)
    have B2 := hide (B1.out.trans (bb2.mono B1.out.size))
    clear q2 m2 bb2
    generalize hn2 : List.length d2 = n2 at *
    clear hn2
    go_wp2_with fail
    refine H4.out.mono ?_
    rintro e w3 ⟨rfl, bb3⟩
    go_wp2
    go_ret
    exact ⟨rfl, B2.out.trans (bb3.mono B2.out.size)⟩
  · have hV : alikeL l r = false := by
      have : ¬ alikeL l r = true := fun h => hlr ((alike_iff l r).1 h).1
      exact Bool.eq_false_iff.2 this
    rw [hV]
    have h2 : ¬ (l.length : Int) = r.length := by omega
    have h3 := ne_int _ _ h2
    generalize l.length = N at *
    generalize r.length = M at *
    go_enter Try.func10, Try.ntmps10
    go_wp2
    go_ret
    exact ⟨rfl, Below.refl _ _⟩
end Go.Proofs.Ytihpjalbdkiecaa
