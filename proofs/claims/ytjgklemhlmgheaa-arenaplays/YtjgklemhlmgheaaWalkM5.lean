/- What the document's own Move answers; nothing that was there is written. -/
import Derived.Test.YtjgklemhlmgheaaWalkK5
import Derived.Test.YtjgklemhlmgheaaPJ5
set_option linter.unusedVariables false
set_option linter.unusedSimpArgs false
namespace Go.Proofs.Ytjgklemhlmgheaa
open Go.RowKit

set_option maxRecDepth 10000 in
set_option maxHeartbeats 4000000 in
theorem move_any (v : Value) (T : TR) (za zb : Int) (hl : T.length ≤ 100000) (hWF : WF T) (B : Nat → Prop) (w : World) (hB : ∀ k, B k → k < w.heap.size) (hT : IsTB B w v T) :
    Calls Try.prog 39 #[.agg #[v], .int .i64 za, .int .i64 zb] w fun e w' => TreeN B w w' e (moveZ T za zb) ∧ Below w.heap.size w w' := by
  have hkl : ∀ i, (kidsAt T i).length ≤ 100000 := fun i => by have := hWF.kids_len i; omega
  have hk : ∀ i (h : i < T.length), T[i].2.length ≤ 1000000 := fun i h => by rw [← kidsAt_get h]; have := hkl i; omega
  have hl6 : T.length ≤ 1000000 := by omega
  have HT0 := hide hT
  have HBB := hide hB
  have HT := hide hT.isT
  have HI1 := hide (is_any v T za)
  have HI2 := hide (is_any v T zb)
  have HP := hide (fun z => parent_any v T z hl6 hk)
  have HHO := hide (fun n hn => holds_any v T n hn)
  have HWI := hide (fun n m => within_any v T n m hl6 hk)
  have HO := hide (fun n => out_any v T n hl6 hk B)
  replace hT := hT.isT
  obtain ⟨b, o, cap, rfl, hcap, hit⟩ := hT
  have bA0 := below_alloc w (.cells #[.slice (some ⟨b, o, none⟩) T.length cap] 27)
  have B1 := hide (bA0.alloc bA0.size (.cells #[.slice none 0 0] 27))
  have K1 := hide ((Kept.new w [.slice (some ⟨b, o, none⟩) T.length cap] 27).alloc (.cells #[.slice none 0 0] 27))
  have Z1 := hide (Kept.new (w.alloc (.cells #[.slice (some ⟨b, o, none⟩) T.length cap] 27)) [.slice none 0 0] 27)
  clear hit bA0 hk hB
  unfold moveZ
  by_cases hp : inT T za
  · rw [show decide (0 ≤ za ∧ za < T.length) = true from decide_eq_true hp] at HI1
    by_cases hc : inT T zb
    · rw [show decide (0 ≤ zb ∧ zb < T.length) = true from decide_eq_true hc] at HI2
      rw [if_pos ⟨hp, hc⟩]
      obtain ⟨p, rfl⟩ : ∃ p : Nat, za = (p : Int) := ⟨za.toNat, by unfold inT at hp; omega⟩
      obtain ⟨c, rfl⟩ : ∃ c : Nat, zb = (c : Int) := ⟨zb.toNat, by unfold inT at hc; omega⟩
      have hpl : p < T.length := by unfold inT at hp; omega
      have hcl : c < T.length := by unfold inT at hc; omega
      rw [Int.toNat_natCast, Int.toNat_natCast]
      clear hp hc
      replace HHO := hide (HHO.out c hcl)
      replace HWI := hide (HWI.out c p)
      clear HP HO
      cases hh : holdsL T c with
      | false =>
        rw [hh] at HHO
        rw [Bool.false_and, if_neg (by decide)]
        go_enter Try.func39, Try.ntmps39
        go_wp2_with fail
        refine (HI1.out _ (HT.out.below B1.out)).mono ?_
        rintro e x1 ⟨rfl, b1⟩
        replace B1 := hide (B1.out.trans (b1.mono B1.out.size))
        replace K1 := hide (K1.out.below b1)
        replace Z1 := hide (Z1.out.below b1)
        have q0 : x1.cell? ⟨w.heap.size, 0, none⟩ = some (.slice (some ⟨b, o, none⟩) T.length cap) := K1.out.1 0
        have q0f : x1.frozen? ⟨w.heap.size, 0, none⟩ = false := K1.out.2 0
        have z0 : x1.cell? ⟨w.heap.size + 1, 0, none⟩ = some (.slice none 0 0) := by have := Z1.out.1 0; simpa using this
        have z1 : x1.frozen? ⟨w.heap.size + 1, 0, none⟩ = false := by have := Z1.out.2 0; simpa using this
        have hz2 : w.heap.size + 1 < x1.heap.size := by have := Z1.out.lt; simpa using this
        clear b1
        go_wp2_with fail
        refine (HI2.out _ (HT.out.below B1.out)).mono ?_
        rintro e x2 ⟨rfl, b1⟩
        replace B1 := hide (B1.out.trans (b1.mono B1.out.size))
        replace K1 := hide (K1.out.below b1)
        replace Z1 := hide (Z1.out.below b1)
        clear q0 q0f z0 z1 hz2
        have q0 : x2.cell? ⟨w.heap.size, 0, none⟩ = some (.slice (some ⟨b, o, none⟩) T.length cap) := K1.out.1 0
        have q0f : x2.frozen? ⟨w.heap.size, 0, none⟩ = false := K1.out.2 0
        have z0 : x2.cell? ⟨w.heap.size + 1, 0, none⟩ = some (.slice none 0 0) := by have := Z1.out.1 0; simpa using this
        have z1 : x2.frozen? ⟨w.heap.size + 1, 0, none⟩ = false := by have := Z1.out.2 0; simpa using this
        have hz2 : w.heap.size + 1 < x2.heap.size := by have := Z1.out.lt; simpa using this
        clear b1
        go_wp2_with fail
        refine (HHO.out _ (HT.out.below B1.out)).mono ?_
        rintro e x3 ⟨rfl, b1⟩
        replace B1 := hide (B1.out.trans (b1.mono B1.out.size))
        replace K1 := hide (K1.out.below b1)
        replace Z1 := hide (Z1.out.below b1)
        clear q0 q0f z0 z1 hz2
        have q0 : x3.cell? ⟨w.heap.size, 0, none⟩ = some (.slice (some ⟨b, o, none⟩) T.length cap) := K1.out.1 0
        have q0f : x3.frozen? ⟨w.heap.size, 0, none⟩ = false := K1.out.2 0
        have z0 : x3.cell? ⟨w.heap.size + 1, 0, none⟩ = some (.slice none 0 0) := by have := Z1.out.1 0; simpa using this
        have z1 : x3.frozen? ⟨w.heap.size + 1, 0, none⟩ = false := by have := Z1.out.2 0; simpa using this
        have hz2 : w.heap.size + 1 < x3.heap.size := by have := Z1.out.lt; simpa using this
        clear b1
        go_wp2_with fail
        have hb2 := B1.out.setCell (p := ⟨w.heap.size + 1, 0, none⟩) (by simp only; omega) (.slice (some ⟨b, o, none⟩) T.length cap)
        refine bodyPost_ret (v := .tuple #[.agg #[.slice (some ⟨b, o, none⟩) T.length cap], .int .i64 1]) ?_ rfl ⟨⟨_, (HT0.out.below hb2).mono fun k h => .inl h, ⟨_, _, _, rfl⟩, rfl⟩, hb2⟩
        rw [results_cell_tmp rfl]
        go_simp
      | true =>
        rw [hh] at HHO
        rw [Bool.true_and]
        cases hw : withinL T c p with
        | true =>
          rw [hw] at HWI
          rw [Bool.not_true, if_neg (by decide)]
          go_enter Try.func39, Try.ntmps39
          go_wp2_with fail
          refine (HI1.out _ (HT.out.below B1.out)).mono ?_
          rintro e x4 ⟨rfl, b1⟩
          replace B1 := hide (B1.out.trans (b1.mono B1.out.size))
          replace K1 := hide (K1.out.below b1)
          replace Z1 := hide (Z1.out.below b1)
          have q0 : x4.cell? ⟨w.heap.size, 0, none⟩ = some (.slice (some ⟨b, o, none⟩) T.length cap) := K1.out.1 0
          have q0f : x4.frozen? ⟨w.heap.size, 0, none⟩ = false := K1.out.2 0
          have z0 : x4.cell? ⟨w.heap.size + 1, 0, none⟩ = some (.slice none 0 0) := by have := Z1.out.1 0; simpa using this
          have z1 : x4.frozen? ⟨w.heap.size + 1, 0, none⟩ = false := by have := Z1.out.2 0; simpa using this
          have hz2 : w.heap.size + 1 < x4.heap.size := by have := Z1.out.lt; simpa using this
          clear b1
          go_wp2_with fail
          refine (HI2.out _ (HT.out.below B1.out)).mono ?_
          rintro e x5 ⟨rfl, b1⟩
          replace B1 := hide (B1.out.trans (b1.mono B1.out.size))
          replace K1 := hide (K1.out.below b1)
          replace Z1 := hide (Z1.out.below b1)
          clear q0 q0f z0 z1 hz2
          have q0 : x5.cell? ⟨w.heap.size, 0, none⟩ = some (.slice (some ⟨b, o, none⟩) T.length cap) := K1.out.1 0
          have q0f : x5.frozen? ⟨w.heap.size, 0, none⟩ = false := K1.out.2 0
          have z0 : x5.cell? ⟨w.heap.size + 1, 0, none⟩ = some (.slice none 0 0) := by have := Z1.out.1 0; simpa using this
          have z1 : x5.frozen? ⟨w.heap.size + 1, 0, none⟩ = false := by have := Z1.out.2 0; simpa using this
          have hz2 : w.heap.size + 1 < x5.heap.size := by have := Z1.out.lt; simpa using this
          clear b1
          go_wp2_with fail
          refine (HHO.out _ (HT.out.below B1.out)).mono ?_
          rintro e x6 ⟨rfl, b1⟩
          replace B1 := hide (B1.out.trans (b1.mono B1.out.size))
          replace K1 := hide (K1.out.below b1)
          replace Z1 := hide (Z1.out.below b1)
          clear q0 q0f z0 z1 hz2
          have q0 : x6.cell? ⟨w.heap.size, 0, none⟩ = some (.slice (some ⟨b, o, none⟩) T.length cap) := K1.out.1 0
          have q0f : x6.frozen? ⟨w.heap.size, 0, none⟩ = false := K1.out.2 0
          have z0 : x6.cell? ⟨w.heap.size + 1, 0, none⟩ = some (.slice none 0 0) := by have := Z1.out.1 0; simpa using this
          have z1 : x6.frozen? ⟨w.heap.size + 1, 0, none⟩ = false := by have := Z1.out.2 0; simpa using this
          have hz2 : w.heap.size + 1 < x6.heap.size := by have := Z1.out.lt; simpa using this
          clear b1
          go_wp2_with fail
          refine (HWI.out _ (HT.out.below B1.out)).mono ?_
          rintro e x7 ⟨rfl, b1⟩
          replace B1 := hide (B1.out.trans (b1.mono B1.out.size))
          replace K1 := hide (K1.out.below b1)
          replace Z1 := hide (Z1.out.below b1)
          clear q0 q0f z0 z1 hz2
          have q0 : x7.cell? ⟨w.heap.size, 0, none⟩ = some (.slice (some ⟨b, o, none⟩) T.length cap) := K1.out.1 0
          have q0f : x7.frozen? ⟨w.heap.size, 0, none⟩ = false := K1.out.2 0
          have z0 : x7.cell? ⟨w.heap.size + 1, 0, none⟩ = some (.slice none 0 0) := by have := Z1.out.1 0; simpa using this
          have z1 : x7.frozen? ⟨w.heap.size + 1, 0, none⟩ = false := by have := Z1.out.2 0; simpa using this
          have hz2 : w.heap.size + 1 < x7.heap.size := by have := Z1.out.lt; simpa using this
          clear b1
          go_wp2_with fail
          have hb2 := B1.out.setCell (p := ⟨w.heap.size + 1, 0, none⟩) (by simp only; omega) (.slice (some ⟨b, o, none⟩) T.length cap)
          refine bodyPost_ret (v := .tuple #[.agg #[.slice (some ⟨b, o, none⟩) T.length cap], .int .i64 1]) ?_ rfl ⟨⟨_, (HT0.out.below hb2).mono fun k h => .inl h, ⟨_, _, _, rfl⟩, rfl⟩, hb2⟩
          rw [results_cell_tmp rfl]
          go_simp
        | false =>
          rw [hw] at HWI
          rw [Bool.not_false, if_pos rfl]
          have hpi : (p : Int) < T.length := by omega
          have hci : (c : Int) < T.length := by omega
          unfold moveL
          generalize hlb : kidsAt T c = lb
          generalize hla : kidsAt T p = la
          have hlbl : lb.length ≤ 100000 := by rw [← hlb]; exact hkl c
          have hlal : la.length ≤ 100000 := by rw [← hla]; exact hkl p
          go_enter Try.func39, Try.ntmps39
          go_wp2_with fail
          refine (HI1.out _ (HT.out.below B1.out)).mono ?_
          rintro e x8 ⟨rfl, b1⟩
          replace B1 := hide (B1.out.trans (b1.mono B1.out.size))
          replace K1 := hide (K1.out.below b1)
          replace Z1 := hide (Z1.out.below b1)
          have q0 : x8.cell? ⟨w.heap.size, 0, none⟩ = some (.slice (some ⟨b, o, none⟩) T.length cap) := K1.out.1 0
          have q0f : x8.frozen? ⟨w.heap.size, 0, none⟩ = false := K1.out.2 0
          have z0 : x8.cell? ⟨w.heap.size + 1, 0, none⟩ = some (.slice none 0 0) := by have := Z1.out.1 0; simpa using this
          have z1 : x8.frozen? ⟨w.heap.size + 1, 0, none⟩ = false := by have := Z1.out.2 0; simpa using this
          have hz2 : w.heap.size + 1 < x8.heap.size := by have := Z1.out.lt; simpa using this
          clear b1
          go_wp2_with fail
          refine (HI2.out _ (HT.out.below B1.out)).mono ?_
          rintro e x9 ⟨rfl, b1⟩
          replace B1 := hide (B1.out.trans (b1.mono B1.out.size))
          replace K1 := hide (K1.out.below b1)
          replace Z1 := hide (Z1.out.below b1)
          clear q0 q0f z0 z1 hz2
          have q0 : x9.cell? ⟨w.heap.size, 0, none⟩ = some (.slice (some ⟨b, o, none⟩) T.length cap) := K1.out.1 0
          have q0f : x9.frozen? ⟨w.heap.size, 0, none⟩ = false := K1.out.2 0
          have z0 : x9.cell? ⟨w.heap.size + 1, 0, none⟩ = some (.slice none 0 0) := by have := Z1.out.1 0; simpa using this
          have z1 : x9.frozen? ⟨w.heap.size + 1, 0, none⟩ = false := by have := Z1.out.2 0; simpa using this
          have hz2 : w.heap.size + 1 < x9.heap.size := by have := Z1.out.lt; simpa using this
          clear b1
          go_wp2_with fail
          refine (HHO.out _ (HT.out.below B1.out)).mono ?_
          rintro e x10 ⟨rfl, b1⟩
          replace B1 := hide (B1.out.trans (b1.mono B1.out.size))
          replace K1 := hide (K1.out.below b1)
          replace Z1 := hide (Z1.out.below b1)
          clear q0 q0f z0 z1 hz2
          have q0 : x10.cell? ⟨w.heap.size, 0, none⟩ = some (.slice (some ⟨b, o, none⟩) T.length cap) := K1.out.1 0
          have q0f : x10.frozen? ⟨w.heap.size, 0, none⟩ = false := K1.out.2 0
          have z0 : x10.cell? ⟨w.heap.size + 1, 0, none⟩ = some (.slice none 0 0) := by have := Z1.out.1 0; simpa using this
          have z1 : x10.frozen? ⟨w.heap.size + 1, 0, none⟩ = false := by have := Z1.out.2 0; simpa using this
          have hz2 : w.heap.size + 1 < x10.heap.size := by have := Z1.out.lt; simpa using this
          clear b1
          go_wp2_with fail
          refine (HWI.out _ (HT.out.below B1.out)).mono ?_
          rintro e x11 ⟨rfl, b1⟩
          replace B1 := hide (B1.out.trans (b1.mono B1.out.size))
          replace K1 := hide (K1.out.below b1)
          replace Z1 := hide (Z1.out.below b1)
          clear q0 q0f z0 z1 hz2
          have q0 : x11.cell? ⟨w.heap.size, 0, none⟩ = some (.slice (some ⟨b, o, none⟩) T.length cap) := K1.out.1 0
          have q0f : x11.frozen? ⟨w.heap.size, 0, none⟩ = false := K1.out.2 0
          have z0 : x11.cell? ⟨w.heap.size + 1, 0, none⟩ = some (.slice none 0 0) := by have := Z1.out.1 0; simpa using this
          have z1 : x11.frozen? ⟨w.heap.size + 1, 0, none⟩ = false := by have := Z1.out.2 0; simpa using this
          have hz2 : w.heap.size + 1 < x11.heap.size := by have := Z1.out.lt; simpa using this
          clear b1
          have hTX := HT0.out.below B1.out
          have getI : ∀ n (hn : n < T.length), ∃ ka kc, IsI x11 (.slice ka (kidsAt T n).length kc) (kidsAt T n) ∧ x11.cell? ⟨b, o + n * 7 + 6, none⟩ = some (.slice ka (kidsAt T n).length kc) := fun n hn => by
            obtain ⟨b', o', cap', hv', _, hit⟩ := hTX.isT
            injection hv' with e1 _ _
            injection e1 with e1
            injection e1 with e1 e2
            subst e1 e2
            obtain ⟨av, kv, _, h2, h6⟩ := hit n hn
            rw [← kidsAt_get hn] at h2
            obtain ⟨ka, kc, rfl⟩ := isI_form h2
            exact ⟨ka, kc, h2, h6 6 (by omega)⟩
          obtain ⟨kb, kbc, hIb, cb6⟩ := getI c hcl
          obtain ⟨ka, kac, hIa, ca6⟩ := getI p hpl
          rw [hlb] at hIb cb6
          rw [hla] at hIa ca6
          obtain ⟨v5, w5, hr5, ho5, hb5⟩ := copy_ints x11 _ lb hIb (by omega)
          obtain ⟨a5, c5, rfl⟩ := owns_form ho5
          obtain ⟨v6, w6, hr6, ho6, hb6⟩ : ∃ v6 w6, (Builtin.append_ #[44, 44] 44 #[.slice a5 lb.length c5, .slice ka la.length kac]).run Try.prog w5 = .ok v6 w6 ∧ w6.ownsRow x11.heap.size 3 1 v6 (lb ++ la).length (intCells (lb ++ la)) ∧ Below x11.heap.size w5 w6 := by
            have hIa5 := hIa.below hb5
            have ho50 : w5.ownsRow 0 3 1 (.slice a5 lb.length c5) lb.length (intCells lb) := by
              refine ⟨ho5.1, ?_⟩
              rcases ho5.2 with h | ⟨g, cc, cur, e1, e2, e3⟩
              · exact .inl h
              · exact .inr ⟨g, cc, cur, e1, Nat.zero_le _, e3⟩
            obtain ⟨v6, w6, hr, v6', hv6, ho, hfr, hb⟩ := append_ints w5 (.slice a5 lb.length c5) (.slice ka la.length kac) lb la ho50 hIa5 (by omega) (by omega)
            injection hv6 with hv6
            subst hv6
            have hblk : ∀ k, (Value.slice a5 lb.length c5).ownBlock = some k → x11.heap.size ≤ k := fun k e => (ho5.lt k e).1
            have hblk6 : ∀ k, v6.ownBlock = some k → x11.heap.size ≤ k := fun k e => by
              rcases hfr k e with h | h
              · exact hblk k h
              · exact Nat.le_trans hb5.size h
            refine ⟨v6, w6, hr, ⟨ho.1, ?_⟩, hb.below hblk hb5.size⟩
            rcases ho.2 with h | ⟨g, cc, cur, e1, e2, e3⟩
            · exact .inl h
            · exact .inr ⟨g, cc, cur, e1, hblk6 g (by rw [e1]; rfl), e3⟩
          obtain ⟨a6, c6, rfl⟩ := owns_form ho6
          have bE := below_alloc x11 (.cells #[] 3)
          have q0a : (x11.alloc (.cells #[] 3)).cell? ⟨w.heap.size, 0, none⟩ = some (.slice (some ⟨b, o, none⟩) T.length cap) := by rw [bE.cell (cell_lt q0)]; exact q0
          have cb6a : (x11.alloc (.cells #[] 3)).cell? ⟨b, o + c * 7 + 6, none⟩ = some (.slice kb lb.length kbc) := by rw [bE.cell (cell_lt cb6)]; exact cb6
          have q05 : w5.cell? ⟨w.heap.size, 0, none⟩ = some (.slice (some ⟨b, o, none⟩) T.length cap) := (hb5.cell (cell_lt q0)).trans q0
          have ca65 : w5.cell? ⟨b, o + p * 7 + 6, none⟩ = some (.slice ka la.length kac) := (hb5.cell (cell_lt ca6)).trans ca6
          have bb := hb5.trans hb6
          have q06 : w6.cell? ⟨w.heap.size, 0, none⟩ = some (.slice (some ⟨b, o, none⟩) T.length cap) := (bb.cell (cell_lt q0)).trans q0
          have q06f : w6.frozen? ⟨w.heap.size, 0, none⟩ = false := (bb.frozen (p := ⟨w.heap.size, 0, none⟩) (cell_lt q0)).trans q0f
          have z6 : w6.cell? ⟨w.heap.size + 1, 0, none⟩ = some (.slice none 0 0) := (bb.cell (cell_lt z0)).trans z0
          have z6f : w6.frozen? ⟨w.heap.size + 1, 0, none⟩ = false := (bb.frozen (p := ⟨w.heap.size + 1, 0, none⟩) (cell_lt z0)).trans z1
          have B6 := hide (B1.out.trans (bb.mono B1.out.size))
          have HTX6 := hide (HT0.out.below B6.out)
          have HS1 := hide (set_any B (.slice (some ⟨b, o, none⟩) T.length cap) T p (.slice none 0 0) [] hpl hl6 w6 HTX6.out ⟨isI_nil _, .inl rfl⟩)
          have HI6 : Hid (IsI w6 (.slice a6 (lb ++ la).length c6) (lb ++ la)) := hide (owns_isI ho6)
          have HIK : Hid (∀ k, (Value.slice a6 (lb ++ la).length c6).ownBlock = some k → x11.heap.size ≤ k) := hide fun k e => (ho6.lt k e).1
          have hw6s : x11.heap.size ≤ w6.heap.size := bb.size
          have HR5 := hide hr5
          have HR6 := hide hr6
          clear hr5 hr6 ho5 ho6 hb5 hb6 bb hIa hIb getI hTX q0 q0f z0 z1 cb6 ca6 bE
          generalize (lb ++ la).length = n6 at *
          go_wp2_with (first | with_reducible refine wpList_append_run rfl _ _ 44 rfl (.slice (some ⟨x11.heap.size, 0, none⟩) 0 0) (.slice kb lb.length kbc) _ w5 rfl rfl HR5.out ?_ | with_reducible refine wpList_append_run rfl _ _ 44 rfl (.slice a5 lb.length c5) (.slice ka la.length kac) _ w6 rfl rfl HR6.out ?_ | fail)
          refine HS1.out.mono ?_
          rintro e y7 ⟨⟨v7, h7, ⟨va, vm, vc, rfl⟩, rfl⟩, b7⟩
          have q7 : y7.cell? ⟨w.heap.size, 0, none⟩ = some (.slice (some ⟨b, o, none⟩) T.length cap) := (b7.cell (cell_lt q06)).trans q06
          have q7f : y7.frozen? ⟨w.heap.size, 0, none⟩ = false := (b7.frozen (p := ⟨w.heap.size, 0, none⟩) (cell_lt q06)).trans q06f
          have z7 : y7.cell? ⟨w.heap.size + 1, 0, none⟩ = some (.slice none 0 0) := (b7.cell (cell_lt z6)).trans z6
          have z7f : y7.frozen? ⟨w.heap.size + 1, 0, none⟩ = false := (b7.frozen (p := ⟨w.heap.size + 1, 0, none⟩) (cell_lt z6)).trans z6f
          have h7' : IsTB (andNew B (w.heap.size + 2)) (y7.setCell ⟨w.heap.size, 0, none⟩ (.slice va vm vc)) (.slice va vm vc) (setK T p []) := (h7.mono (C := andNew B (w.heap.size + 2)) (by
            rintro k (h | h)
            · exact .inl h
            · exact .inr (by omega))).keep (fun k h => Below.heap_setCell _ _ _ _ (by
            simp only
            rcases h with h | h
            · have := HBB.out k h
              omega
            · omega))
          have BW7 := hide ((B6.out.trans (b7.mono B6.out.size)).setCell (p := ⟨w.heap.size, 0, none⟩) (Nat.le_refl _) (.slice va vm vc))
          have t7 : (y7.setCell ⟨w.heap.size, 0, none⟩ (.slice va vm vc)).cell? ⟨w.heap.size, 0, none⟩ = some (.slice va vm vc) := World.cell?_setCell_same _ _ _ q7
          have z8 : (y7.setCell ⟨w.heap.size, 0, none⟩ (.slice va vm vc)).cell? ⟨w.heap.size + 1, 0, none⟩ = some (.slice none 0 0) := by rw [World.cell?_setCell_other _ _ _ _ (by intro he; injection he with he _ _; omega)]; exact z7
          have z8f : (y7.setCell ⟨w.heap.size, 0, none⟩ (.slice va vm vc)).frozen? ⟨w.heap.size + 1, 0, none⟩ = false := by rw [World.frozen?_setCell]; exact z7f
          have hI8 : IsI (y7.setCell ⟨w.heap.size, 0, none⟩ (.slice va vm vc)) (.slice a6 n6 c6) (lb ++ la) := by
            have hIB : IsIB (fun k => x11.heap.size ≤ k) y7 (.slice a6 n6 c6) (lb ++ la) := ⟨HI6.out.below b7, .inr HIK.out⟩
            exact (hIB.keep (fun k hk => Below.heap_setCell _ _ _ _ (by simp only; omega))).1
          have HS2 := hide (set_any (andNew B (w.heap.size + 2)) (.slice va vm vc) (setK T p []) c (.slice a6 n6 c6) (lb ++ la) (by rw [setK_len]; exact hcl) (by rw [setK_len]; exact hl6) _ h7' ⟨hI8, .inr fun k e => .inr (by have := HIK.out k e; omega)⟩)
          have hs8 : w.heap.size + 1 < (y7.setCell ⟨w.heap.size, 0, none⟩ (.slice va vm vc)).heap.size := cell_lt z8
          clear h7 b7 h7' hI8 q06 q06f z6 z6f q05 ca65 q0a cb6a
          go_wp2_with fail
          refine HS2.out.mono ?_
          rintro e y9 ⟨⟨v9, h9, ⟨va7, vm7, vc7, rfl⟩, rfl⟩, b9⟩
          have B7 := hide (BW7.out.trans (b9.mono BW7.out.size))
          have H7 := hide (h9.mono (C := andNew B (w.heap.size + 2)) (by
            rintro k ((h | h) | h)
            · exact .inl h
            · exact .inr h
            · exact .inr (by omega)))
          have z9 : y9.cell? ⟨w.heap.size + 1, 0, none⟩ = some (.slice none 0 0) := (b9.cell (p := ⟨w.heap.size + 1, 0, none⟩) hs8).trans z8
          have z9f : y9.frozen? ⟨w.heap.size + 1, 0, none⟩ = false := (b9.frozen (p := ⟨w.heap.size + 1, 0, none⟩) hs8).trans z8f
          clear h9 b9 z8 z8f t7 q7 q7f z7 z7f
          go_wp2
          have hb2 := B7.out.setCell (p := ⟨w.heap.size + 1, 0, none⟩) (by simp only; omega) (.slice va7 vm7 vc7)
          refine bodyPost_ret (v := .tuple #[.agg #[.slice va7 vm7 vc7], .int .i64 0]) ?_ rfl ⟨⟨_, (H7.out.keep (fun k h => Below.heap_setCell _ _ _ _ ?_)).mono ?_, ⟨_, _, _, rfl⟩, rfl⟩, hb2⟩
          · rw [results_cell_tmp rfl]
            go_simp
          · simp only
            rcases h with h | h
            · have := HBB.out k h
              omega
            · omega
          · rintro k (h | h)
            · exact .inl h
            · exact .inr (by omega)
    · rw [show decide (0 ≤ zb ∧ zb < T.length) = false from decide_eq_false hc] at HI2
      rw [if_neg (fun h => hc h.2)]
      go_enter Try.func39, Try.ntmps39
      go_wp2_with fail
      refine (HI1.out _ (HT.out.below B1.out)).mono ?_
      rintro e x12 ⟨rfl, b1⟩
      replace B1 := hide (B1.out.trans (b1.mono B1.out.size))
      replace K1 := hide (K1.out.below b1)
      replace Z1 := hide (Z1.out.below b1)
      have q0 : x12.cell? ⟨w.heap.size, 0, none⟩ = some (.slice (some ⟨b, o, none⟩) T.length cap) := K1.out.1 0
      have q0f : x12.frozen? ⟨w.heap.size, 0, none⟩ = false := K1.out.2 0
      have z0 : x12.cell? ⟨w.heap.size + 1, 0, none⟩ = some (.slice none 0 0) := by have := Z1.out.1 0; simpa using this
      have z1 : x12.frozen? ⟨w.heap.size + 1, 0, none⟩ = false := by have := Z1.out.2 0; simpa using this
      have hz2 : w.heap.size + 1 < x12.heap.size := by have := Z1.out.lt; simpa using this
      clear b1
      go_wp2_with fail
      refine (HI2.out _ (HT.out.below B1.out)).mono ?_
      rintro e x13 ⟨rfl, b1⟩
      replace B1 := hide (B1.out.trans (b1.mono B1.out.size))
      replace K1 := hide (K1.out.below b1)
      replace Z1 := hide (Z1.out.below b1)
      clear q0 q0f z0 z1 hz2
      have q0 : x13.cell? ⟨w.heap.size, 0, none⟩ = some (.slice (some ⟨b, o, none⟩) T.length cap) := K1.out.1 0
      have q0f : x13.frozen? ⟨w.heap.size, 0, none⟩ = false := K1.out.2 0
      have z0 : x13.cell? ⟨w.heap.size + 1, 0, none⟩ = some (.slice none 0 0) := by have := Z1.out.1 0; simpa using this
      have z1 : x13.frozen? ⟨w.heap.size + 1, 0, none⟩ = false := by have := Z1.out.2 0; simpa using this
      have hz2 : w.heap.size + 1 < x13.heap.size := by have := Z1.out.lt; simpa using this
      clear b1
      go_wp2_with fail
      have hb2 := B1.out.setCell (p := ⟨w.heap.size + 1, 0, none⟩) (by simp only; omega) (.slice (some ⟨b, o, none⟩) T.length cap)
      refine bodyPost_ret (v := .tuple #[.agg #[.slice (some ⟨b, o, none⟩) T.length cap], .int .i64 2]) ?_ rfl ⟨⟨_, (HT0.out.below hb2).mono fun k h => .inl h, ⟨_, _, _, rfl⟩, rfl⟩, hb2⟩
      rw [results_cell_tmp rfl]
      go_simp
  · rw [show decide (0 ≤ za ∧ za < T.length) = false from decide_eq_false hp] at HI1
    rw [if_neg (fun h => hp h.1)]
    go_enter Try.func39, Try.ntmps39
    go_wp2_with fail
    refine (HI1.out _ (HT.out.below B1.out)).mono ?_
    rintro e x14 ⟨rfl, b1⟩
    replace B1 := hide (B1.out.trans (b1.mono B1.out.size))
    replace K1 := hide (K1.out.below b1)
    replace Z1 := hide (Z1.out.below b1)
    have q0 : x14.cell? ⟨w.heap.size, 0, none⟩ = some (.slice (some ⟨b, o, none⟩) T.length cap) := K1.out.1 0
    have q0f : x14.frozen? ⟨w.heap.size, 0, none⟩ = false := K1.out.2 0
    have z0 : x14.cell? ⟨w.heap.size + 1, 0, none⟩ = some (.slice none 0 0) := by have := Z1.out.1 0; simpa using this
    have z1 : x14.frozen? ⟨w.heap.size + 1, 0, none⟩ = false := by have := Z1.out.2 0; simpa using this
    have hz2 : w.heap.size + 1 < x14.heap.size := by have := Z1.out.lt; simpa using this
    clear b1
    go_wp2_with fail
    have hb2 := B1.out.setCell (p := ⟨w.heap.size + 1, 0, none⟩) (by simp only; omega) (.slice (some ⟨b, o, none⟩) T.length cap)
    refine bodyPost_ret (v := .tuple #[.agg #[.slice (some ⟨b, o, none⟩) T.length cap], .int .i64 2]) ?_ rfl ⟨⟨_, (HT0.out.below hb2).mono fun k h => .inl h, ⟨_, _, _, rfl⟩, rfl⟩, hb2⟩
    rw [results_cell_tmp rfl]
    go_simp
end Go.Proofs.Ytjgklemhlmgheaa
