/- The program's Value of every number. -/
import Derived.Test.YtjgklemhlmgheaaVR5
set_option linter.unusedVariables false
set_option linter.unusedSimpArgs false
namespace Go.Proofs.Ytjgklemhlmgheaa
open Go.RowKit

theorem value_all {T : TR} (hW : WF T) (hz : T.length ≤ 1000000) (ha : ∀ i, (nodeAt T i).attrs.length ≤ 1000000) (pb n : Nat) (hn : n < T.length) : ValP T pb n := by
  obtain ⟨r, hr, hb⟩ := hW.ranked
  have main : ∀ f n, n < T.length → T.length ≤ r n + f → ValP T pb n := by
    intro f
    induction f with
    | zero =>
      intro n hn hf
      have := hb n hn
      omega
    | succ f ih =>
      intro n hn hf
      refine value_step hW hz ha pb n hn fun x hx => ih x (hW.inb n x hx).2 ?_
      have := hr n x hx
      omega
  exact main T.length n hn (by omega)
def valueZ (T : TR) (z : Int) : NT (T.length + 1) := if inT T z then valueL T z.toNat else .mk {} []
theorem zero_isN6 (B : Nat → Prop) (w : World) {k : Nat} : IsN B w (NT.mk (k := k) {} []) zeroC6 := by
  rw [isN_iff]
  exact ⟨_, _, rfl, ⟨.inl ⟨rfl, rfl⟩, .inl rfl⟩, .inl ⟨rfl, rfl⟩⟩
set_option maxHeartbeats 1000000 in
theorem valueZ_p {T : TR} (hW : WF T) (hz : T.length ≤ 1000000) (ha : ∀ i, (nodeAt T i).attrs.length ≤ 1000000) (pb : Nat) (z : Int) {A : Nat → Prop} {w : World} (h : PT A w pb T) : Calls Try.prog 15 #[.pointer (some ⟨pb, 0, none⟩), .int .i64 z] w fun e w' => (∃ vs, e = .returned (.agg vs.toArray) ∧ IsN (fun k => w.heap.size ≤ k) w' (valueZ T z) vs) ∧ Below w.heap.size w w' := by
  unfold valueZ
  by_cases hi : inT T z
  · rw [if_pos hi]
    obtain ⟨h1, h2⟩ := inT_nat hi
    have := value_all hW hz ha pb z.toNat h1 A w h
    rw [← h2] at this
    exact this
  · rw [if_neg hi]
    have b0 := below_alloc w (.cells #[.int .i64 0, .int .i64 0, .string ⟨#[]⟩, .slice none 0 0, .string ⟨#[]⟩, .slice none 0 0] 41)
    have HH := hide (has_p z (h.below b0))
    rw [raw_len, show decide (0 ≤ z ∧ z < T.length) = false from decide_eq_false hi] at HH
    have B0 := hide b0
    have K0 : Hid (Kept (w.alloc (.cells #[.int .i64 0, .int .i64 0, .string ⟨#[]⟩, .slice none 0 0, .string ⟨#[]⟩, .slice none 0 0] 41)) w.heap.size zeroC6) := hide (Kept.new w zeroC6 41)
    clear b0 hi h hW ha
    go_enter Try.func15, Try.ntmps15
    go_wp2_with fail
    refine HH.out.mono ?_
    rintro e x1 ⟨rfl, b1⟩
    have q := Kept.below (v := .int .i64 0) (cs := [.int .i64 0, .string ⟨#[]⟩, .slice none 0 0, .string ⟨#[]⟩, .slice none 0 0]) K0.out b1
    have k0 : x1.cell? ⟨w.heap.size, 0, none⟩ = some (.int .i64 0) := q.1 0
    have k1 : x1.cell? ⟨w.heap.size, 1, none⟩ = some (.int .i64 0) := q.1 1
    have k2 : x1.cell? ⟨w.heap.size, 2, none⟩ = some (.string ⟨#[]⟩) := q.1 2
    have k3 : x1.cell? ⟨w.heap.size, 3, none⟩ = some (.slice none 0 0) := q.1 3
    have k4 : x1.cell? ⟨w.heap.size, 4, none⟩ = some (.string ⟨#[]⟩) := q.1 4
    have k5 : x1.cell? ⟨w.heap.size, 5, none⟩ = some (.slice none 0 0) := q.1 5
    have kf := q.2
    have B1 := hide (B0.out.trans (b1.mono B0.out.size))
    clear b1 q
    go_wp2
    refine bodyPost_ret (v := .agg zeroC6.toArray) ?_ rfl ⟨⟨_, rfl, zero_isN6 _ _⟩, set6_below B1.out (Nat.le_refl _) _ _ _ _ _ _⟩
    rw [results_cell_one rfl]
    unfold zeroC6
    go_simp
theorem okT_value {T : TR} (hW : WF T) (hz : T.length ≤ 1000000) (ha : ∀ i, (nodeAt T i).attrs.length ≤ 1000000) : ∀ k n, OkT (valueK k T n)
  | 0, n => ⟨ha n, by show 0 ≤ _; omega, fun x hx => absurd hx List.not_mem_nil⟩
  | k + 1, n => by
    refine ⟨ha n, ?_, fun x hx => ?_⟩
    · show ((kidsAt T n).map (valueK k T)).length ≤ _
      rw [List.length_map]
      have := hW.kids_len n
      omega
    · obtain ⟨y, _, rfl⟩ := List.mem_map.1 hx
      exact okT_value hW hz ha k y
theorem okT_valueZ {T : TR} (hW : WF T) (hz : T.length ≤ 1000000) (ha : ∀ i, (nodeAt T i).attrs.length ≤ 1000000) (z : Int) : OkT (valueZ T z) := by
  unfold valueZ
  split
  · exact okT_value hW hz ha _ _
  · exact ⟨by show 0 ≤ _; omega, by show 0 ≤ _; omega, fun x hx => absurd hx List.not_mem_nil⟩
end Go.Proofs.Ytjgklemhlmgheaa
