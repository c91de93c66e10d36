/- The document's Value of every number. -/
import Derived.Test.YtjgklemhlmgheaaDV5
set_option linter.unusedVariables false
set_option linter.unusedSimpArgs false
namespace Go.Proofs.Ytjgklemhlmgheaa
open Go.RowKit

theorem dvalue_all {T : TR} (hW : WF T) (hz : T.length ≤ 1000000) (ha : ∀ i, (nodeAt T i).attrs.length ≤ 1000000) (rv : Value) (n : Nat) (hn : n < T.length) : ValD T rv n := by
  obtain ⟨r, hr, hb⟩ := hW.ranked
  have main : ∀ f n, n < T.length → T.length ≤ r n + f → ValD T rv n := by
    intro f
    induction f with
    | zero =>
      intro n hn hf
      have := hb n hn
      omega
    | succ f ih =>
      intro n hn hf
      refine dvalue_step hW hz ha rv n hn fun x hx => ih x (hW.inb n x hx).2 ?_
      have := hr n x hx
      omega
  exact main T.length n hn (by omega)
set_option maxHeartbeats 1000000 in
theorem dvalueZ_p {T : TR} (hW : WF T) (hz : T.length ≤ 1000000) (ha : ∀ i, (nodeAt T i).attrs.length ≤ 1000000) (rv : Value) (z : Int) (w : World) (h : IsT w rv T) : Calls Try.prog 16 #[.agg #[rv], .int .i64 z] w fun e w' => (∃ vs, e = .returned (.agg vs.toArray) ∧ IsN (fun k => w.heap.size ≤ k) w' (valueZ T z) vs) ∧ Below w.heap.size w w' := by
  unfold valueZ
  by_cases hi : inT T z
  · rw [if_pos hi]
    obtain ⟨h1, h2⟩ := inT_nat hi
    have := dvalue_all hW hz ha rv z.toNat h1 w h
    rw [← h2] at this
    exact this
  · rw [if_neg hi]
    have HIS := hide (fun W (h : IsT W rv T) => is_any rv T z W h)
    rw [show decide (0 ≤ z ∧ z < T.length) = false from decide_eq_false hi] at HIS
    have HT := hide h
    obtain ⟨b, o, cap, rfl, hcap, hit⟩ := h
    obtain ⟨W0, hW0⟩ : ∃ W0, W0 = w.alloc (.cells #[.slice (some ⟨b, o, none⟩) T.length cap] 27) := ⟨_, rfl⟩
    have hsz : W0.heap.size = w.heap.size + 1 := by rw [hW0]; simp
    have HB0 := hide (below_alloc w (.cells #[.slice (some ⟨b, o, none⟩) T.length cap] 27))
    rw [← hW0] at HB0
    have HB1 := hide (below_alloc W0 (.cells #[.int .i64 0, .int .i64 0, .string ⟨#[]⟩, .slice none 0 0, .string ⟨#[]⟩, .slice none 0 0] 41))
    have HK1 : Hid (Kept (W0.alloc (.cells #[.int .i64 0, .int .i64 0, .string ⟨#[]⟩, .slice none 0 0, .string ⟨#[]⟩, .slice none 0 0] 41)) W0.heap.size zeroC6) := hide (Kept.new W0 zeroC6 41)
    clear hit hW ha hi
    go_enter Try.func16, Try.ntmps16
    go_wp2_with fail
    rw [← hsz, ← hW0]
    clear hW0
    refine (HIS.out _ ((HT.out.below HB0.out).below HB1.out)).mono ?_
    rintro e x1 ⟨rfl, b1⟩
    have q := Kept.below (v := .int .i64 0) (cs := [.int .i64 0, .string ⟨#[]⟩, .slice none 0 0, .string ⟨#[]⟩, .slice none 0 0]) HK1.out b1
    rw [hsz] at q
    have k0 : x1.cell? ⟨w.heap.size + 1, 0, none⟩ = some (.int .i64 0) := q.1 0
    have k1 : x1.cell? ⟨w.heap.size + 1, 1, none⟩ = some (.int .i64 0) := q.1 1
    have k2 : x1.cell? ⟨w.heap.size + 1, 2, none⟩ = some (.string ⟨#[]⟩) := q.1 2
    have k3 : x1.cell? ⟨w.heap.size + 1, 3, none⟩ = some (.slice none 0 0) := q.1 3
    have k4 : x1.cell? ⟨w.heap.size + 1, 4, none⟩ = some (.string ⟨#[]⟩) := q.1 4
    have k5 : x1.cell? ⟨w.heap.size + 1, 5, none⟩ = some (.slice none 0 0) := q.1 5
    have kf := q.2
    have B1 := hide (HB0.out.trans ((HB1.out.trans (b1.mono HB1.out.size)).mono HB0.out.size))
    clear b1 q
    go_wp2
    refine bodyPost_ret (v := .agg zeroC6.toArray) ?_ rfl ⟨⟨_, rfl, zero_isN6 _ _⟩, set6_below B1.out (Nat.le_succ _) _ _ _ _ _ _⟩
    rw [results_cell_one rfl]
    unfold zeroC6
    go_simp
end Go.Proofs.Ytjgklemhlmgheaa
