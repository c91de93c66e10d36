/- slices.SortFunc of attributes, by the library's contract; a row of attributes of one's own. -/
import Derived.Test.YtihpjalbdkiecaaPK7
import Derived.Test.YtihpjalbdkiecaaPJ7
import Derived.Laws.IdiomCopy
set_option linter.unusedVariables false
set_option linter.unusedSimpArgs false
namespace Go.Proofs.Ytihpjalbdkiecaa
open Go.RowKit Go.Sort

/-- A row of attributes lies in the block b from its head on, and may be written. -/
def RowA (w : World) (b : Nat) (l : AttrL) : Prop := ∀ j (hj : j < l.length), (w.cell? ⟨b, j * 2, none⟩ = some (.string ⟨l[j].1.toArray⟩) ∧ w.cell? ⟨b, j * 2 + 1, none⟩ = some (.string ⟨l[j].2.toArray⟩)) ∧ w.frozen? ⟨b, j * 2, none⟩ = false ∧ w.frozen? ⟨b, j * 2 + 1, none⟩ = false
theorem rowA_q {w : World} {b : Nat} {l : AttrL} (h : RowA w b l) (c : Nat) : IsQ w (.slice (some ⟨b, 0, none⟩) l.length c) l :=
  .inr ⟨b, 0, c, rfl, fun j hj => by rw [Nat.zero_add]; exact (h j hj).1⟩
theorem rowA_holds {w : World} {b : Nat} {l : AttrL} (h : RowA w b l) : HoldsK encA 2 w b 0 l.toArray := by
  intro j hj
  rw [size_flatK, List.size_toArray] at hj
  have hq : j / 2 < l.length := by omega
  obtain ⟨⟨h0, h1⟩, f0, f1⟩ := h (j / 2) hq
  rw [get_flatK _ _ _ _ (by rw [List.size_toArray]; exact hj), Nat.zero_add]
  have e : l.toArray[j / 2]! = l[j / 2] := by simp [hq]
  rw [e]
  generalize l[j / 2] = x at *
  rcases (by omega : j % 2 = 0 ∨ j % 2 = 1) with hr | hr
  · rw [hr]
    have ej : j = j / 2 * 2 := by omega
    rw [← ej] at h0 f0
    exact ⟨h0, f0⟩
  · rw [hr]
    have ej : j = j / 2 * 2 + 1 := by omega
    rw [← ej] at h1 f1
    exact ⟨h1, f1⟩
theorem holds_rowA {w : World} {b : Nat} {l : AttrL} (h : HoldsK encA 2 w b 0 l.toArray) : RowA w b l := by
  intro j hj
  have h0 := h.cell (i := j) (c := 0) (by simpa using hj) (by omega)
  have h1 := h.cell (i := j) (c := 1) (by simpa using hj) (by omega)
  have e : l.toArray[j]! = l[j] := by simp [hj]
  rw [e, Nat.zero_add, Nat.add_zero] at h0
  rw [e, Nat.zero_add] at h1
  exact ⟨⟨h0.1, h1.1⟩, h0.2, h1.2⟩
theorem below_sort {B b n : Nat} {w : World} {d : Array At} {os : Array Obj} (hB : B ≤ b) (hs : B ≤ w.heap.size) : Below B w (sortWorldK encA 2 w b 0 n d os) := by
  unfold sortWorldK
  refine ⟨rfl, rfl, rfl, ?_, fun k hk => ?_⟩
  · rw [size_grow]
    unfold putRowK
    rw [size_putRow]
    simp
  · rw [heap_grow_old _ _ (by unfold putRowK; rw [size_putRow]; show k < w.heap.size; omega)]
    show ((Sort.ahead w n).heap.modify b _)[k]? = _
    rw [Array.getElem?_modify, if_neg (by omega)]
    rfl

theorem enters_distinct1 : ∀ (args : Array Value) (w : World), (callFunc 49 args).run Try.prog w = .ok (.enter 49 args) w := by intro args w; simp [go_sem]
theorem sort_p (B : Nat) (l : AttrL) (hl : l.length ≤ 1000000) (b c : Nat) (w : World) (hB : B ≤ b) (hs : B ≤ w.heap.size) (hb : b < w.heap.size) (hR : RowA w b l) :
    Calls Try.prog 48 #[.slice (some ⟨b, 0, none⟩) l.length c, .func (.func 49) #[] #[]] w fun e w' => e = .returned (.tuple #[]) ∧ (∃ s : AttrL, s.length = l.length ∧ (∀ x, x ∈ s ↔ x ∈ l) ∧ (∀ i j (hi : i < s.length) (hj : j < s.length), i < j → ltOf cmpA s[j] s[i] = false) ∧ RowA w' b s) ∧ Below B w w' := by
  have hH := rowA_holds hR
  have h := AnyQ.slices_SortFunc Try.sortAttr 2 Try.isAgg43 Try.sizeOf43 encA (fun _ => rfl) (fun x v hv => by simp [encA] at hv; rcases hv with rfl | rfl <;> rfl) cmpA lt_swo 49 #[] b 0 c l.toArray w enters_distinct1 (fun _ _ _ _ x y => closure_p x y _) hH hb (by rw [List.size_toArray]; omega)
  rw [List.size_toArray] at h
  refine h.mono ?_
  rintro e w' ⟨rfl, d', n, os, hp, hsd, rfl⟩
  have hsz : d'.size = l.length := by have := hp.1; rwa [List.size_toArray] at this
  have hperm : d'.toList.Perm l := by
    have := hp.2.2
    rw [show d'.extract 0 l.length = d' by rw [← hsz]; simp] at this
    simpa using this
  refine ⟨rfl, ⟨d'.toList, by rw [Array.length_toList]; exact hsz, fun x => hperm.mem_iff, ?_, ?_⟩, below_sort hB hs⟩
  · intro i j hi hj hij
    rw [Array.length_toList] at hi hj
    have := hsd i j (Nat.zero_le _) hij (by omega)
    rw [getElem!_pos d' i hi, getElem!_pos d' j hj] at this
    exact this
  · refine holds_rowA ?_
    have hS : SWK encA 2 w b 0 d' (sortWorldK encA 2 w b 0 n d' os) := ⟨n, os, rfl⟩
    have := hS.holds hb hH (by rw [hsz, List.size_toArray])
    exact this

set_option maxHeartbeats 1000000 in
theorem insertion_none (a : Option Addr) (c : Nat) (fv : Value) (w : World) :
    Calls Try.prog 57 #[.slice a 0 c, .int .i64 0, .int .i64 0, fv] w fun e w' => e = .returned (.tuple #[]) ∧ w' = w := by
  go_enter Try.func57, Try.ntmps57
  go_wp2
  refine wp_loop_rounds 1 ?_
  rw [rounds_succ]
  go_wp2
  go_end0
  exact ⟨rfl, rfl⟩
set_option maxHeartbeats 2000000 in
theorem pdq_none (a : Option Addr) (c : Nat) (lim : Int) (fv : Value) (w : World) :
    Calls Try.prog 54 #[.slice a 0 c, .int .i64 0, .int .i64 0, .int .i64 lim, fv] w fun e w' => e = .returned (.tuple #[]) ∧ w' = w := by
  have H := hide (fun W => insertion_none a c fv W)
  go_enter Try.func54, Try.ntmps54
  go_wp2
  refine wp_loop_rounds 1 ?_
  rw [rounds_succ]
  go_wp2_with fail
  refine (H.out _).mono ?_
  rintro e w1 ⟨rfl, rfl⟩
  go_wp2
  (try simp only [Exit.inBlock, Exit.then]); refine bodyPost_ret (results_none rfl _ _ _) rfl ?_
  exact ⟨rfl, rfl⟩
set_option maxHeartbeats 1000000 in
theorem sort_none (a : Option Addr) (c : Nat) (fv : Value) (w : World) :
    Calls Try.prog 48 #[.slice a 0 c, fv] w fun e w' => e = .returned (.tuple #[]) ∧ w' = w := by
  have H := hide (fun lim W => pdq_none a c lim fv W)
  have HL := hide (fun W => Any.bits_Len Try.lays125 0 W (by omega) (by omega))
  have HL2 : Hid (∀ W, Calls Try.prog 55 #[.int .u64 0] W fun e w' => e = .returned (.int .i64 (Lib.bitLen (0 : Int).toNat)) ∧ w' = W) := HL
  generalize ((Lib.bitLen (0 : Int).toNat : Nat) : Int) = Z at *
  clear HL
  go_enter Try.func48, Try.ntmps48
  go_wp2_with fail
  refine (HL2.out _).mono ?_
  rintro e w1 ⟨rfl, rfl⟩
  go_wp2_with fail
  refine (H.out _ _).mono ?_
  rintro e w1 ⟨rfl, rfl⟩
  go_wp2
  go_end0
  exact ⟨rfl, rfl⟩
end Go.Proofs.Ytihpjalbdkiecaa
