/- Rows of bytes: owned, copied, read as texts, written over. No function of the program in it. -/
import Derived.Test.YtffdlpcdjmhfkaaBa15
import Derived.Maps.AppendAt
import Derived.Laws.BytesArg
import Derived.Lib.ConvBytes
set_option linter.unusedVariables false
set_option linter.unusedSimpArgs false
set_option maxRecDepth 4000
namespace Go.Proofs.Ytffdlpcdjmhfkaa
open Go.RowKit

theorem owns_alloc {W : World} {B n : Nat} {e : TypeId} {z : Nat} {v : Value} {xs : List Value} (h : W.ownsRow B e z v n xs) (o : Obj) : (W.alloc o).ownsRow B e z v n xs := by
  refine ⟨h.1, ?_⟩
  rcases h.2 with h | ⟨g, cap, cur, h1, h2, h3, h4⟩
  · exact .inl h
  · refine .inr ⟨g, cap, cur, h1, h2, ?_, h4⟩
    have hg : g < W.heap.size := (Array.getElem?_eq_some_iff.1 h3).1
    rw [(below_alloc W o).block g hg]; exact h3
theorem owns_below {w W : World} {B n : Nat} {e : TypeId} {z : Nat} {v : Value} {xs : List Value} (h : w.ownsRow B e z v n xs) (hb : Below w.heap.size w W) : W.ownsRow B e z v n xs := by
  refine ⟨h.1, ?_⟩
  rcases h.2 with h | ⟨g, cap, cur, h1, h2, h3, h4⟩
  · exact .inl h
  · refine .inr ⟨g, cap, cur, h1, h2, ?_, h4⟩
    have hg : g < w.heap.size := (Array.getElem?_eq_some_iff.1 h3).1
    rw [hb.block g hg]; exact h3
theorem owns_formG {w : World} {B n : Nat} {e : TypeId} {z : Nat} {v : Value} {l : List Value} (h : w.ownsRow B e z v n l) : ∃ a cap, v = .slice a n cap := by
  rcases h.2 with ⟨rfl, h2⟩ | ⟨g, cap, cur, rfl, _⟩
  · subst h2
    exact ⟨none, 0, rfl⟩
  · exact ⟨_, _, rfl⟩
theorem owns_blk {w : World} {B n : Nat} {e : TypeId} {z : Nat} {v : Value} {xs : List Value} (h : w.ownsRow B e z v n xs) : ∀ k, v.ownBlock = some k → B ≤ k := fun k hk => (h.lt k hk).1
theorem own_form {w : World} {B n : Nat} {v : Value} {xs : List Value} {e : TypeId} {z : Nat} (h : w.ownsRow B e z v n xs) (hv : v ≠ .slice none 0 0) : ∃ g cap, v = .slice (some ⟨g, 0, none⟩) n cap ∧ B ≤ g := by
  rcases h.2 with ⟨rfl, _⟩ | ⟨g, cap, cur, rfl, h3, _⟩
  · exact absurd rfl hv
  · exact ⟨g, cap, rfl, h3⟩
theorem own_base {w : World} {B C n : Nat} {e : TypeId} {z : Nat} {v : Value} {xs : List Value} (h : w.ownsRow B e z v n xs) (hC : C ≤ B) : w.ownsRow C e z v n xs := by
  refine ⟨h.1, ?_⟩
  rcases h.2 with h | ⟨g, cap, cur, h1, h2, h3⟩
  · exact .inl h
  · exact .inr ⟨g, cap, cur, h1, by omega, h3⟩
def bytesV (l : Bs) : List Value := l.map fun b => Value.int .u8 (b.toNat : Int)
theorem bytesV_app (a b : Bs) : bytesV (a ++ b) = bytesV a ++ bytesV b := by unfold bytesV; rw [List.map_append]
theorem bytesV_len (l : Bs) : (bytesV l).length = l.length := by unfold bytesV; rw [List.length_map]
theorem own_bytes (w : World) (B : Nat) (hB : B ≤ w.heap.size) : (w.alloc (.cells #[] 5)).ownsRow B 5 1 (.slice (some ⟨w.heap.size, 0, none⟩) 0 0) ([] : Bs).length (bytesV []) := ⟨rfl, .inr ⟨w.heap.size, 0, #[], rfl, hB, by show (Array.push w.heap _)[w.heap.size]? = _; simp, Nat.le_refl _, by decide, rfl, rfl⟩⟩
theorem own_nil (w : World) (B : Nat) : w.ownsRow B 5 1 (.slice none 0 0) ([] : Bs).length (bytesV []) := ⟨rfl, .inl ⟨rfl, rfl⟩⟩
theorem conv_bytes (w : World) (b o cap : Nat) (l : Bs) (hc : ∀ j (hj : j < l.length), w.cell? ⟨b, o + j, none⟩ = some (.int .u8 (l[j].toNat : Int))) :
    (convert 22 9 (.slice (some ⟨b, o, none⟩) l.length cap)).run Try.prog w = .ok (.string ⟨l.toArray⟩) w :=
  run_convert_bytes_back w 22 9 5 ⟨b, o, none⟩ cap l Try.underlying22 Try.underlying5 Try.underlying9 (fun j hj => by rw [addr_addo]; exact hc j hj)
theorem made_bytes (n : Nat) : (madeCells (Value.int .u8 0).cells (n * 1)).toList = bytesV (List.replicate n 0) := by
  rw [Nat.mul_one]
  have h := toList_madeCells_one (Value.int .u8 0) n
  rw [show (Value.int .u8 0).cells = #[Value.int .u8 0] from rfl, h]
  unfold bytesV
  rw [List.map_replicate]
  rfl
theorem make_bytes (w : World) (n : Nat) (hn : n ≤ 1000000) : ∃ w1, (Instr.makeSlice 22 (.int .i64 (n : Int)) (.int .i64 (n : Int))).run Try.prog w = .ok (.slice (some ⟨w.heap.size, 0, none⟩) n n) w1 ∧ w1.ownsRow w.heap.size 5 1 (.slice (some ⟨w.heap.size, 0, none⟩) n n) n (bytesV (List.replicate n 0)) ∧ Below w.heap.size w w1 := by
  obtain ⟨w1, h1, h2, h3⟩ := run_make_full (P := Try.prog) w w.heap.size 22 5 Try.t5 (.int .u8 0) 1 Try.underlying22 (by kernel_rfl) (by kernel_rfl) (by kernel_rfl) .i64 .i64 n (by rw [show Try.t5.bytes = 1 from by kernel_rfl]; omega) (by unfold maxLen; omega) (Nat.le_refl _)
  rw [made_bytes] at h2
  exact ⟨w1, h1, h2, (Below.refl _ w).grown h3 (Nat.le_refl _) (fun k hk => by cases hk)⟩
theorem own_cells {w : World} {B g cap : Nat} {l : Bs} (h : w.ownsRow B 5 1 (.slice (some ⟨g, 0, none⟩) l.length cap) l.length (bytesV l)) : ∀ j (hj : j < l.length), w.cell? ⟨g, 0 + j, none⟩ = some (.int .u8 (l[j].toNat : Int)) := fun j hj => by
  rw [Nat.zero_add, h.cellAt j (by omega)]
  unfold bytesV
  rw [List.getElem?_map, List.getElem?_eq_getElem hj]
  rfl
theorem bytesV_set (l : Bs) (j : Nat) (x : UInt8) : bytesV (l.set j x) = (bytesV l).set j (.int .u8 (x.toNat : Int)) := by
  unfold bytesV
  rw [List.map_set]
theorem owns_isY {w : World} {B : Nat} {v : Value} {l : Bs} (h : w.ownsRow B 5 1 v l.length (bytesV l)) : IsY w v l := by
  rcases h.2 with ⟨rfl, h2⟩ | ⟨g, cap, cur, rfl, _, _, hc, _⟩
  · exact .inl ⟨List.eq_nil_of_length_eq_zero h2, _, _, rfl⟩
  · exact .inr ⟨g, 0, cap, rfl, hc, own_cells h⟩
theorem append_nothingY (W : World) (g n cap : Nat) (a : Option Addr) (c : Nat) (h : n ≤ cap) (hm : cap ≤ maxLen) :
    (Builtin.append_ #[22, 22] 22 #[.slice (some ⟨g, 0, none⟩) n cap, .slice a 0 c]).run Try.prog W = .ok (.slice (some ⟨g, 0, none⟩) n cap) W := by
  simp [Builtin.append_, go_sem]
  rw [if_pos h]
  cases a <;> simp [go_sem, storeCells]
theorem copy_bytes (w : World) (u : Value) (l : Bs) (hU : IsY w u l) (hl : l.length ≤ 1000000) :
    ∃ a c w1, (Builtin.append_ #[22, 22] 22 #[.slice (some ⟨w.heap.size, 0, none⟩) 0 0, u]).run Try.prog (w.alloc (.cells #[] 5)) = .ok (.slice a l.length c) w1 ∧ w1.ownsRow w.heap.size 5 1 (.slice a l.length c) l.length (bytesV l) ∧ Below w.heap.size w w1 := by
  have hb := below_alloc w (.cells #[] 5)
  have h0 := own_bytes w w.heap.size (Nat.le_refl _)
  rcases hU with ⟨rfl, a, c, rfl⟩ | ⟨b, o, cap, rfl, _, hc⟩
  · exact ⟨_, _, _, append_nothingY _ w.heap.size 0 0 a c (Nat.le_refl _) (by decide), h0, hb⟩
  · obtain ⟨v', w', hr, ho, hg, _, hat⟩ := run_append_own_at (P := Try.prog) (w.alloc (.cells #[] 5)) w.heap.size 22 22 5 Try.t5 (.int .u8 0) 1 1 Try.underlying22 (by kernel_rfl) (by kernel_rfl) (by kernel_rfl) (by kernel_rfl) (by kernel_rfl) (by omega)
      (.slice (some ⟨w.heap.size, 0, none⟩) 0 0) 0 [] h0 ⟨b, o, none⟩ l.length cap (bytesV l) (by rw [bytesV_len, Nat.mul_one])
      (by
        intro j u hu
        have hj : j < l.length := by rw [← bytesV_len]; exact (List.getElem?_eq_some_iff.1 hu).1
        rw [addr_addo, (hb.cell (cell_lt (hc j hj))).trans (hc j hj)]
        unfold bytesV at hu
        rw [List.getElem?_map, List.getElem?_eq_getElem hj] at hu
        exact hu) (by
        intro u hu
        unfold bytesV at hu
        obtain ⟨y, _, rfl⟩ := List.mem_map.1 hu
        rfl) (by unfold maxLen; omega) (by omega) hb.size
    rw [Nat.zero_add, List.nil_append] at ho
    obtain ⟨a, c, rfl⟩ := owns_formG ho
    exact ⟨a, c, w', hr, ho, hb.trans ((Below.refl _ _).grown hg hb.size (owns_blk h0))⟩
theorem cell_blk {w W : World} {b : Nat} (h : W.heap[b]? = w.heap[b]?) (o : Nat) : W.cell? ⟨b, o, none⟩ = w.cell? ⟨b, o, none⟩ := by simp [World.cell?, h]
theorem frozen_blk {w W : World} {b : Nat} (h : W.heap[b]? = w.heap[b]?) (o : Nat) : W.frozen? ⟨b, o, none⟩ = w.frozen? ⟨b, o, none⟩ := by simp [World.frozen?, h]
theorem IsY.keep {w W : World} {v : Value} {l : Bs} (h : IsY w v l) (hk : ∀ k, v.ownBlock = some k → W.heap[k]? = w.heap[k]?) : IsY W v l := by
  rcases h with h | ⟨b, o, cap, rfl, hc, hh⟩
  · exact .inl h
  · exact .inr ⟨b, o, cap, rfl, hc, fun j hj => (cell_blk (hk b rfl) _).trans (hh j hj)⟩
/-- A row of bytes in a block from B on that may be written. -/
def NewY (B : Nat) (w : World) (v : Value) (l : Bs) : Prop := (l = [] ∧ v = .slice none 0 0) ∨ ∃ b o cap, v = .slice (some ⟨b, o, none⟩) l.length cap ∧ B ≤ b ∧ b < w.heap.size ∧ l.length ≤ cap ∧ (∀ j (hj : j < l.length), w.cell? ⟨b, o + j, none⟩ = some (.int .u8 (l[j].toNat : Int))) ∧ ∀ j, j < l.length → w.frozen? ⟨b, o + j, none⟩ = false
theorem NewY.isY {B : Nat} {w : World} {v : Value} {l : Bs} (h : NewY B w v l) : IsY w v l := by
  rcases h with ⟨h, rfl⟩ | ⟨b, o, cap, rfl, _, _, hc, hh, _⟩
  · exact .inl ⟨h, _, _, rfl⟩
  · exact .inr ⟨b, o, cap, rfl, hc, hh⟩
theorem NewY.form {B : Nat} {w : World} {v : Value} {l : Bs} (h : NewY B w v l) : ∃ a c, v = .slice a l.length c := h.isY.form
theorem NewY.blk {B : Nat} {w : World} {v : Value} {l : Bs} (h : NewY B w v l) : ∀ k, v.ownBlock = some k → B ≤ k ∧ k < w.heap.size := by
  rcases h with ⟨h, rfl⟩ | ⟨b, o, cap, rfl, hb, hb2, _⟩
  · intro k hk; cases hk
  · intro k hk; cases hk; exact ⟨hb, hb2⟩
theorem NewY.keep {B : Nat} {w W : World} {v : Value} {l : Bs} (h : NewY B w v l) (hs : w.heap.size ≤ W.heap.size) (hk : ∀ k, v.ownBlock = some k → W.heap[k]? = w.heap[k]?) : NewY B W v l := by
  rcases h with h | ⟨b, o, cap, rfl, hb, hb2, hc, hh, hf⟩
  · exact .inl h
  · exact .inr ⟨b, o, cap, rfl, hb, by omega, hc, fun j hj => (cell_blk (hk b rfl) _).trans (hh j hj), fun j hj => (frozen_blk (hk b rfl) _).trans (hf j hj)⟩
theorem NewY.below {B : Nat} {w W : World} {v : Value} {l : Bs} (h : NewY B w v l) (hb : Below w.heap.size w W) : NewY B W v l := h.keep hb.size fun k hk => hb.block k (h.blk k hk).2
theorem NewY.base {B C : Nat} {w : World} {v : Value} {l : Bs} (h : NewY B w v l) (hc : C ≤ B) : NewY C w v l := by
  rcases h with h | ⟨b, o, cap, e, hb, r⟩
  · exact .inl h
  · exact .inr ⟨b, o, cap, e, by omega, r⟩
theorem NewY.at_ {B : Nat} {w : World} {a : Option Addr} {n c : Nat} {l : Bs} (h : NewY B w (.slice a n c) l) (i : Nat) (hi : i < l.length) (x : UInt8) :
    ∃ g o, a = some ⟨g, o, none⟩ ∧ n = l.length ∧ B ≤ g ∧ g < w.heap.size ∧ w.cell? ⟨g, o + i, none⟩ = some (.int .u8 (l[i].toNat : Int)) ∧ w.frozen? ⟨g, o + i, none⟩ = false ∧ NewY B (w.setCell ⟨g, o + i, none⟩ (.int .u8 (x.toNat : Int))) (.slice a n c) (l.set i x) := by
  rcases h with ⟨h, _⟩ | ⟨g, o, cap, e, hb, hb2, hc, hh, hf⟩
  · subst h; simp at hi
  · injection e with e1 e2 e3
    subst e1 e2 e3
    refine ⟨g, o, rfl, rfl, hb, hb2, hh i hi, hf i hi, .inr ⟨g, o, c, by simp, hb, by simpa [World.setCell] using hb2, by simpa using hc, fun j hj => ?_, fun j hj => ?_⟩⟩
    · have hj2 : j < l.length := by simpa using hj
      have h1 := hh j hj2
      have h2 := hh i hi
      by_cases hij : i = j
      · subst hij
        rw [List.getElem_set_self]
        exact World.cell?_setCell_same _ _ _ h2
      · rw [List.getElem_set_ne hij]
        exact (World.cell?_setCell_other _ _ _ _ (by intro e; injection e; omega)).trans h1
    · have hj2 : j < l.length := by simpa using hj
      rw [World.frozen?_setCell]; exact hf j hj2
theorem owns_newY {w : World} {B : Nat} {v : Value} {l : Bs} (h : w.ownsRow B 5 1 v l.length (bytesV l)) : NewY B w v l := by
  rcases h.2 with ⟨rfl, h0⟩ | ⟨g, cap, cur, rfl, hb, hg, hn, hm, hs, ht⟩
  · exact .inl ⟨List.eq_nil_of_length_eq_zero h0, rfl⟩
  · exact .inr ⟨g, 0, cap, rfl, hb, (Array.getElem?_eq_some_iff.1 hg).1, hn, own_cells h, fun j hj => by rw [Nat.zero_add]; exact h.frozenAt j⟩
theorem conv_newY {B : Nat} {w : World} {v : Value} {l : Bs} (h : NewY B w v l) : (convert 22 9 v).run Try.prog w = .ok (.string ⟨l.toArray⟩) w := by
  rcases h with ⟨rfl, rfl⟩ | ⟨b, o, cap, rfl, _, _, _, hc, _⟩
  · exact run_convert_bytes_nil _ 22 5 Try.underlying22 Try.underlying5 0 0 9 Try.underlying9
  · exact conv_bytes w b o cap l hc
end Go.Proofs.Ytffdlpcdjmhfkaa
