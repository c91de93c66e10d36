/- The program's arena: how many nodes, which are there, their parents; within. Nothing that was there is written. -/
import Derived.Test.YtjgklemhlmgheaaPM5
import Derived.BigQuiet
import Derived.Deep.QuietTactic
set_option linter.unusedVariables false
set_option linter.unusedSimpArgs false
namespace Go.Proofs.Ytjgklemhlmgheaa
open Go.RowKit

def PG (A : Nat → Prop) (w : World) (pb g : Nat) (R : List RN) : Prop := ∃ cap rs, rs.map (·.rn) = R ∧ PV A w pb g cap rs
def PA (A : Nat → Prop) (w : World) (pb : Nat) (R : List RN) : Prop := ∃ g, PG A w pb g R
def PT (A : Nat → Prop) (w : World) (pb : Nat) (T : TR) : Prop := PA A w pb (rawOf T)
theorem PG.below {A : Nat → Prop} {w W : World} {pb g : Nat} {R : List RN} (h : PG A w pb g R) (hb : Below w.heap.size w W) : PG A W pb g R := by
  obtain ⟨cap, rs, h1, h2⟩ := h
  exact ⟨cap, rs, h1, h2.below hb⟩
theorem PA.below {A : Nat → Prop} {w W : World} {pb : Nat} {R : List RN} (h : PA A w pb R) (hb : Below w.heap.size w W) : PA A W pb R := by
  obtain ⟨g, h⟩ := h
  exact ⟨g, h.below hb⟩
theorem PT.below {A : Nat → Prop} {w W : World} {pb : Nat} {T : TR} (h : PT A w pb T) (hb : Below w.heap.size w W) : PT A W pb T := PA.below h hb
theorem PG.mono {A B : Nat → Prop} {w : World} {pb g : Nat} {R : List RN} (h : PG A w pb g R) (hm : ∀ k, A k → B k) : PG B w pb g R := by
  obtain ⟨cap, rs, h1, h2⟩ := h
  exact ⟨cap, rs, h1, h2.mono hm⟩
theorem PT.mono {A B : Nat → Prop} {w : World} {pb : Nat} {T : TR} (h : PT A w pb T) (hm : ∀ k, A k → B k) : PT B w pb T := by
  obtain ⟨g, h⟩ := h
  exact ⟨g, h.mono hm⟩
theorem PG.keep {A : Nat → Prop} {w W : World} {pb g : Nat} {R : List RN} (h : PG A w pb g R) (hz : w.heap.size ≤ W.heap.size) (hk : ∀ k, A k → W.heap[k]? = w.heap[k]?) : PG A W pb g R := by
  obtain ⟨cap, rs, h1, h2⟩ := h
  exact ⟨cap, rs, h1, h2.keep hz fun s k e => hk k (h2.inA s k e)⟩
theorem PT.keep {A : Nat → Prop} {w W : World} {pb : Nat} {T : TR} (h : PT A w pb T) (hz : w.heap.size ≤ W.heap.size) (hk : ∀ k, A k → W.heap[k]? = w.heap[k]?) : PT A W pb T := by
  obtain ⟨g, h⟩ := h
  exact ⟨g, h.keep hz hk⟩
theorem below_drewN (w : World) (n : Nat) : Below w.heap.size w (w.drewN n) := ⟨rfl, rfl, rfl, Nat.le_refl _, fun _ _ => rfl⟩
theorem map_len {rs : List RV} {R : List RN} (h : rs.map (·.rn) = R) : rs.length = R.length := by rw [← h, List.length_map]
theorem map_get {rs : List RV} {R : List RN} (h : rs.map (·.rn) = R) (i : Nat) (hi : i < rs.length) (hi2 : i < R.length) : rs[i].rn = R[i] := by subst h; simp

set_option maxHeartbeats 1000000 in
theorem len_p {A : Nat → Prop} {w : World} {pb : Nat} {R : List RN} (h : PA A w pb R) :
    Calls Try.prog 13 #[.pointer (some ⟨pb, 0, none⟩)] w fun e w' => e = .returned (.int .i64 (R.length : Int)) ∧ Below w.heap.size w w' := by
  obtain ⟨g, cap, rs, hR, hP⟩ := h
  have hl := map_len hR
  have c0 := hP.tree
  rw [hl] at c0
  clear hR hl hP
  go_enter Try.func13, Try.ntmps13
  go_wp2
  go_ret
  exact ⟨rfl, by first | exact below_drewN _ _ | exact Below.refl _ _⟩
set_option maxHeartbeats 1000000 in
theorem has_p {A : Nat → Prop} {w : World} {pb : Nat} {R : List RN} (z : Int) (h : PA A w pb R) :
    Calls Try.prog 42 #[.pointer (some ⟨pb, 0, none⟩), .int .i64 z] w fun e w' => e = .returned (.bool (decide (0 ≤ z ∧ z < R.length))) ∧ Below w.heap.size w w' := by
  obtain ⟨g, cap, rs, hR, hP⟩ := h
  have hl := map_len hR
  have c0 := hP.tree
  rw [hl] at c0
  clear hR hl hP
  by_cases h1 : 0 ≤ z
  · by_cases h2 : z < R.length
    · rw [decide_eq_true (⟨h1, h2⟩ : 0 ≤ z ∧ z < R.length)]
      go_enter Try.func42, Try.ntmps42
      go_wp2
      go_ret
      exact ⟨rfl, by first | exact below_drewN _ _ | exact Below.refl _ _⟩
    · rw [decide_eq_false (fun e : 0 ≤ z ∧ z < R.length => h2 e.2)]
      go_enter Try.func42, Try.ntmps42
      go_wp2
      go_ret
      exact ⟨rfl, by first | exact below_drewN _ _ | exact Below.refl _ _⟩
  · rw [decide_eq_false (fun e : 0 ≤ z ∧ z < R.length => h1 e.1)]
    go_enter Try.func42, Try.ntmps42
    go_wp2
    go_ret
    exact ⟨rfl, by first | exact below_drewN _ _ | exact Below.refl _ _⟩
def holdsK (k : Int) : Bool := k == 0 || k == 1
set_option maxHeartbeats 1000000 in
theorem holds_p {A : Nat → Prop} {w : World} {pb g : Nat} {R : List RN} (h : PG A w pb g R) (i : Nat) (hi : i < R.length) :
    Calls Try.prog 50 #[.pointer (some ⟨g, i * 7, none⟩)] w fun e w' => e = .returned (.bool (holdsK R[i].nd.kind)) ∧ Below w.heap.size w w' := by
  obtain ⟨cap, rs, hR, hP⟩ := h
  have hl := map_len hR
  have c0 : w.cell? ⟨g, i * 7, none⟩ = some (.int .i64 R[i].nd.kind) := by
    have := hP.cellAt i (by omega) 0 (by omega)
    rw [← map_get hR i (by omega) hi]
    exact this
  clear hR hl hP
  generalize R[i].nd.kind = q at *
  unfold holdsK
  by_cases h0 : q = 0
  · subst h0
    go_enter Try.func50, Try.ntmps50
    go_wp2
    go_ret
    exact ⟨rfl, by first | exact below_drewN _ _ | exact Below.refl _ _⟩
  · go_enter Try.func50, Try.ntmps50
    go_wp2
    go_ret
    exact ⟨rfl, by first | exact below_drewN _ _ | exact Below.refl _ _⟩
set_option maxHeartbeats 1000000 in
theorem parent_p {A : Nat → Prop} {w : World} {pb : Nat} {R : List RN} (hz : R.length ≤ 1000000) (z : Int) (h : PA A w pb R) :
    Calls Try.prog 18 #[.pointer (some ⟨pb, 0, none⟩), .int .i64 z] w fun e w' => e = .returned (.int .i64 (if hh : 0 ≤ z ∧ z < R.length then (R[z.toNat]'(by omega)).par else -1)) ∧ Below w.heap.size w w' := by
  have HH := hide (has_p z h)
  obtain ⟨g, cap, rs, hR, hP⟩ := h
  have hl := map_len hR
  by_cases hz : 0 ≤ z ∧ z < R.length
  · rw [dif_pos hz]
    rw [decide_eq_true hz] at HH
    obtain ⟨n, rfl⟩ : ∃ n : Nat, z = (n : Int) := ⟨z.toNat, by omega⟩
    have hn : n < R.length := by omega
    have hni : (n : Int) < R.length := by omega
    have HPV := hide hP
    have HC1 : Hid (w.cell? ⟨g, n * 7 + 1, none⟩ = some (.int .i64 R[n].par)) := hide (by
      have := hP.cellAt n (by omega) 1 (by omega)
      rw [← map_get hR n (by omega) hn]
      exact this)
    simp only [Int.toNat_natCast]
    generalize R[n].par = q at *
    clear hP hz hR
    go_enter Try.func18, Try.ntmps18
    go_wp2_with fail
    refine HH.out.mono ?_
    rintro e w1 ⟨rfl, b1⟩
    have c0 := (HPV.out.below b1).tree
    rw [hl] at c0
    have c1 : w1.cell? ⟨g, n * 7 + 1, none⟩ = some (.int .i64 q) := by rw [b1.cell (cell_lt HC1.out)]; exact HC1.out
    have B1 := hide b1
    clear b1
    go_wp2
    go_ret
    exact ⟨rfl, by first | exact B1.out | exact B1.out.trans (below_drewN _ _)⟩
  · rw [dif_neg hz]
    rw [decide_eq_false hz] at HH
    clear hz hP hR
    go_enter Try.func18, Try.ntmps18
    go_wp2_with fail
    refine HH.out.mono ?_
    rintro e w1 ⟨rfl, b1⟩
    have B1 := hide b1
    clear b1
    go_wp2
    go_ret
    exact ⟨rfl, by first | exact B1.out | exact B1.out.trans (below_drewN _ _)⟩
end Go.Proofs.Ytjgklemhlmgheaa
