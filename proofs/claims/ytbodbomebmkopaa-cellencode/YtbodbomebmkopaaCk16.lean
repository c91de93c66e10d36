/- What the document's Decode answers. -/
import Derived.Test.YtbodbomebmkopaaCj16
set_option linter.unusedVariables false
set_option linter.unusedSimpArgs false
set_option maxRecDepth 40000
namespace Go.Proofs.Ytbodbomebmkopaa
open Go.RowKit

abbrev zeroC : CL := ⟨0, 0, 0, 0, []⟩
def DecR (w : World) (b : Bs) (e : Ending) (w' : World) : Prop := Below w.heap.size w w' ∧ ((decC b = none ∧ e = .returned (.tuple #[clA zeroC (.slice none 0 0), .int .i64 8])) ∨ ∃ c dv, decC b = some c ∧ e = .returned (.tuple #[clA c dv, .int .i64 0]) ∧ w'.ownsRow w.heap.size 5 1 dv c.data.length (Lib.byteCells c.data))
theorem num_one (x : UInt8) : numB [x] = x.toNat := by
  show 0 * 256 + x.toNat = x.toNat
  omega
theorem at_twenty (b : Bs) (h : b.length = 64) : numB ((b.drop 20).take 1) = (b[20]'(by omega)).toNat := by
  have e : (b.drop 20).take 1 = [b[20]'(by omega)] := by
    rw [List.drop_eq_getElem_cons (by omega)]
    rfl
  rw [e, num_one]
theorem dec_short {b : Bs} (h : b.length ≠ 64) : decC b = none := by
  rw [decC, if_neg (fun hh => h hh.1)]
theorem dec_long {b : Bs} (h : b.length = 64) (h2 : 39 < (b[20]'(by omega)).toNat) : decC b = none := by
  rw [decC, if_neg (fun hh => by have := hh.2.1; rw [at_twenty b h] at this; omega)]
set_option maxHeartbeats 4000000 in
theorem rdec_short (bv : Value) (b : Bs) (w : World) (hY : IsY w bv b) (hl : b.length ≤ 1000000) (h : b.length ≠ 64) : Calls Try.prog 14 #[bv] w (DecR w b) := by
  have HF : Hid (∀ x, Below w.heap.size w x → DecR w b (.returned (.tuple #[clA zeroC (.slice none 0 0), .int .i64 8])) x) := hide (fun x hb => ⟨hb, .inl ⟨dec_short h, rfl⟩⟩)
  have BB := hide (below_alloc w)
  obtain ⟨a, c, rfl⟩ := hY.form
  have h2 : ¬ (b.length : Int) = 64 := by omega
  clear hY h
  generalize b.length = n at *
  go_enter Try.func14, Try.ntmps14
  go_wp2
  refine bodyPost_ret (v := .tuple #[clA zeroC (.slice none 0 0), .int .i64 8]) ?_ rfl (HF.out _ (BB.out _))
  simp [results, Try.results14, go_sem]
set_option maxHeartbeats 4000000 in
theorem rdec_long (bv : Value) (b : Bs) (w : World) (hY : IsY w bv b) (h : b.length = 64) (h3 : 39 < (b[20]'(by omega)).toNat) : Calls Try.prog 14 #[bv] w (DecR w b) := by
  have HF : Hid (∀ x, Below w.heap.size w x → DecR w b (.returned (.tuple #[clA zeroC (.slice none 0 0), .int .i64 8])) x) := hide (fun x hb => ⟨hb, .inl ⟨dec_long h h3, rfl⟩⟩)
  have BB := hide (below_alloc w)
  rcases hY with ⟨e, _⟩ | ⟨bb, bo, cap, rfl, hcap, hh⟩
  · rw [e] at h; cases h
  have hc := hh 20 (by omega)
  have hc1 : ∀ o, (w.alloc o).cell? ⟨bb, bo + 20, none⟩ = some (.int .u8 ((b[20]'(by omega)).toNat : Int)) := fun o => ((below_alloc w o).cell (cell_lt hc)).trans hc
  rw [h] at *
  clear hh hc
  generalize (b[20]'(by omega)).toNat = x at *
  have h4 : (39 : Int) < (x : Int) := by omega
  go_enter Try.func14, Try.ntmps14
  go_wp2
  refine bodyPost_ret (v := .tuple #[clA zeroC (.slice none 0 0), .int .i64 8]) ?_ rfl (HF.out _ (BB.out _))
  simp [results, Try.results14, go_sem]
end Go.Proofs.Ytbodbomebmkopaa
