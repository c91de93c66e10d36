/- Lists of texts that lie there, appended; what the walks share. (Out of stage 11's texts.) -/
import Derived.Test.YteacldkfdhhphaaProg
import Derived.WalkKit
import Derived.WalkSpells
import Derived.WalkLawsBesides
import Derived.Lib.IndexBytes
import Derived.Lib.ConvBytes
import Derived.Lib.RuneBytes
import Derived.Laws.IdiomStrings
import Derived.Laws.AppendOwn
import Derived.Laws.OwnMore
import Derived.Below
import Derived.ProofKit
import Derived.Deep.AppendSrc
import Derived.Maps.AppendAt
import Derived.Lib.SmallJoins
import Derived.Lib.AppendZeros
import Derived.Deep.RegionHeld2
set_option linter.unusedVariables false
set_option linter.unusedSimpArgs false
set_option maxRecDepth 4000
namespace Go.Proofs.Yteacldkfdhhphaa
open Go.RowKit

abbrev Bs := List UInt8
theorem hide {p : Prop} (h : p) : Hid p := h
theorem str_data (l : List UInt8) : (⟨l.toArray⟩ : ByteArray).data.toList = l := by simp
theorem size_list (s : ByteArray) : s.size = s.data.toList.length := by
  rw [Array.length_toList]; rfl
theorem cell_lt {w : World} {a : Addr} {v : Value} (h : w.cell? a = some v) : a.block < w.heap.size := World.block_lt_of_cell? w a h
theorem addr_add (b j : Nat) : (⟨b, 0, none⟩ : Addr).add j = ⟨b, j, none⟩ := by unfold Addr.add; split <;> simp_all
theorem below_alloc (w : World) (o : Obj) : Below w.heap.size w (w.alloc o) := (Below.refl _ w).alloc (Nat.le_refl _) _
/-- A list of texts lies there. -/
def IsW (w : World) (v : Value) (l : List (List UInt8)) : Prop := (l = [] ∧ ∃ a c, v = .slice a 0 c) ∨ ∃ b o cap, v = .slice (some ⟨b, o, none⟩) l.length cap ∧ ∀ j (hj : j < l.length), w.cell? ⟨b, o + j, none⟩ = some (.string ⟨(l[j]).toArray⟩)
theorem IsW.below {w W : World} {v : Value} {l : List (List UInt8)} (h : IsW w v l) (hb : Below w.heap.size w W) : IsW W v l := by
  rcases h with h | ⟨b, o, cap, rfl, hc⟩
  · exact .inl h
  · exact .inr ⟨b, o, cap, rfl, fun j hj => by rw [hb.cell (cell_lt (hc j hj))]; exact hc j hj⟩
theorem IsW.form {w : World} {v : Value} {l : List (List UInt8)} (h : IsW w v l) : ∃ a c, v = .slice a l.length c := by
  rcases h with ⟨rfl, a, c, rfl⟩ | ⟨b, o, cap, rfl, _⟩
  · exact ⟨a, c, rfl⟩
  · exact ⟨_, _, rfl⟩
theorem IsW.at_ {w : World} {a : Option Addr} {n c : Nat} {l : List Bs} (h : IsW w (.slice a n c) l) (k : Nat) (x : Bs) (hk : l[k]? = some x) : ∃ b o, a = some ⟨b, o, none⟩ ∧ ∀ W, Below w.heap.size w W → W.cell? ⟨b, o + k, none⟩ = some (.string ⟨x.toArray⟩) := by
  obtain ⟨hlt, rfl⟩ := List.getElem?_eq_some_iff.1 hk
  rcases h with ⟨rfl, _⟩ | ⟨b, o, cap, e, hcc⟩
  · simp at hlt
  · injection e with e1
    exact ⟨b, o, e1, fun W hb => (hb.cell (cell_lt (hcc k hlt))).trans (hcc k hlt)⟩
theorem owns_alloc {W : World} {B n : Nat} {e : TypeId} {z : Nat} {v : Value} {xs : List Value} (h : W.ownsRow B e z v n xs) (o : Obj) : (W.alloc o).ownsRow B e z v n xs := by
  refine ⟨h.1, ?_⟩
  rcases h.2 with h | ⟨g, cap, cur, h1, h2, h3, h4⟩
  · exact .inl h
  · refine .inr ⟨g, cap, cur, h1, h2, ?_, h4⟩
    have hg : g < W.heap.size := (Array.getElem?_eq_some_iff.1 h3).1
    rw [(below_alloc W o).block g hg]; exact h3
theorem owns_below {w W : World} {B n : Nat} {e : TypeId} {z : Nat} {v : Value} {xs : List Value} (h : w.ownsRow B e z v n xs) (hb : Below w.heap.size w W) : W.ownsRow B e z v n xs := by
  refine ⟨h.1, ?_⟩
  rcases h.2 with h | ⟨g, cap, cur, h1, h2, h3, h4⟩
  · exact .inl h
  · refine .inr ⟨g, cap, cur, h1, h2, ?_, h4⟩
    have hg : g < w.heap.size := (Array.getElem?_eq_some_iff.1 h3).1
    rw [hb.block g hg]; exact h3
theorem owns_formG {w : World} {B n : Nat} {e : TypeId} {z : Nat} {v : Value} {l : List Value} (h : w.ownsRow B e z v n l) : ∃ a cap, v = .slice a n cap := by
  rcases h.2 with ⟨rfl, h2⟩ | ⟨g, cap, cur, rfl, _⟩
  · subst h2
    exact ⟨none, 0, rfl⟩
  · exact ⟨_, _, rfl⟩
theorem owns_blk {w : World} {B n : Nat} {e : TypeId} {z : Nat} {v : Value} {xs : List Value} (h : w.ownsRow B e z v n xs) : ∀ k, v.ownBlock = some k → B ≤ k := fun k hk => (h.lt k hk).1
/-- append(v, u), v a list of texts of the call's own, u just written out. -/
theorem append_text (W : World) (B n : Nat) (v : Value) (xs : List Value) (s : ByteArray) (N : Nat) (hN : W.heap.size = N) (hown : W.ownsRow B 9 1 v n xs) (hl : n ≤ 2000000) (hB : B ≤ N) :
    ∃ v' w', (Builtin.append_ #[28, 28] 28 #[v, .slice (some ⟨N, 0, none⟩) 1 1]).run Try.prog (W.alloc (.cells #[.string s] 9)) = .ok v' w' ∧ w'.ownsRow B 9 1 v' (n + 1) (xs ++ [.string s]) ∧ Below B W w' := by
  subst hN
  obtain ⟨v', w', hr, ho, hg, _⟩ := run_append_own (P := Try.prog) (W.alloc (.cells #[.string s] 9)) B 28 28 9 Try.t9 (.string ⟨#[]⟩) 1 16 Try.underlying28 (by kernel_rfl) (by kernel_rfl) (by kernel_rfl) (by kernel_rfl) (by kernel_rfl) (by omega)
      v n xs (owns_alloc hown _) ⟨W.heap.size, 0, none⟩ 1 1 [.string s] rfl
      (by
        intro j u hu
        have hj : j < 1 := (List.getElem?_eq_some_iff.1 hu).1
        obtain rfl : j = 0 := by omega
        obtain rfl : Value.string s = u := by simpa using hu
        rw [addr_add]
        simp [go_sem]) (by intro u hu; obtain rfl := List.mem_singleton.1 hu; rfl) (by unfold maxLen; omega) (by omega) (by simp; omega)
  exact ⟨v', w', hr, ho, (((below_alloc W _).mono hB)).grown hg (by simp; omega) (owns_blk hown)⟩
theorem str_self (s : ByteArray) : (⟨s.data.toList.toArray⟩ : ByteArray) = s := by cases s; simp
def textsV (l : List Bs) : List Value := l.map fun x => Value.string ⟨x.toArray⟩
theorem textsV_len (l : List Bs) : (textsV l).length = l.length := by unfold textsV; rw [List.length_map]
theorem textsV_get (l : List Bs) (j : Nat) (hj : j < l.length) : (textsV l)[j]? = some (.string ⟨(l[j]).toArray⟩) := by unfold textsV; rw [List.getElem?_map, List.getElem?_eq_getElem hj]; rfl
theorem owns_isW {w : World} {B n : Nat} {v : Value} {l : List Bs} (h : w.ownsRow B 9 1 v n (textsV l)) : IsW w v l ∧ ∀ a n c, v = .slice a n c → n ≤ c := by
  have hn : n = l.length := by
    have := h.1
    rw [textsV_len] at this
    omega
  subst hn
  refine ⟨?_, ?_⟩
  · rcases h.2 with ⟨rfl, h2⟩ | ⟨g, cap, cur, rfl, _⟩
    · exact .inl ⟨List.eq_nil_of_length_eq_zero h2, _, _, rfl⟩
    · exact .inr ⟨g, 0, cap, rfl, fun j hj => by
        have := h.cells rfl j _ (textsV_get l j hj)
        rw [addr_add] at this
        rw [Nat.zero_add]
        exact this⟩
  · rintro a n c rfl
    rcases h.2 with ⟨e, _⟩ | ⟨g, cap, cur, e, _, _, h4, _⟩
    · injection e with e1 e2 e3
      omega
    · injection e with e1 e2 e3
      omega
/-- A list of texts lies there from a place of a block on. -/
def RowT (w : World) (g o : Nat) (l : List Bs) : Prop := ∀ j x, l[j]? = some x → w.cell? ⟨g, o + j, none⟩ = some (.string ⟨x.toArray⟩)
theorem RowT.below {w W : World} {g o : Nat} {l : List Bs} (h : RowT w g o l) (hb : Below w.heap.size w W) : RowT W g o l := fun j x hj => (hb.cell (cell_lt (h j x hj))).trans (h j x hj)
theorem owns_rowT {w : World} {B n g c : Nat} {l : List Bs} (h : w.ownsRow B 9 1 (.slice (some ⟨g, 0, none⟩) n c) n (textsV l)) : RowT w g 0 l ∧ n = l.length := by
  have hn := h.1
  rw [textsV_len] at hn
  refine ⟨fun j x hj => ?_, by omega⟩
  obtain ⟨hlt, rfl⟩ := List.getElem?_eq_some_iff.1 hj
  have := h.cells rfl j _ (textsV_get l j hlt)
  rw [addr_add] at this
  rw [Nat.zero_add]
  exact this
/-- append(v, l...), v a list of texts of one's own. -/
theorem append_texts (W : World) (B n : Nat) (v : Value) (xs : List Value) (g o c : Nat) (l : List Bs) (hown : W.ownsRow B 9 1 v n xs) (hl : RowT W g o l) (h1 : n ≤ 100000000) (h2 : l.length ≤ 100000000) (hB : B ≤ W.heap.size) :
    ∃ v' w', (Builtin.append_ #[28, 28] 28 #[v, .slice (some ⟨g, o, none⟩) l.length c]).run Try.prog W = .ok v' w' ∧ w'.ownsRow B 9 1 v' (n + l.length) (xs ++ textsV l) ∧ W.grownBy w' v.ownBlock ∧ (v'.ownBlock = v.ownBlock ∨ v'.ownBlock = some W.heap.size) := by
  obtain ⟨v', w', hr, ho, hg, _, hat⟩ := run_append_own_at (P := Try.prog) W B 28 28 9 Try.t9 (.string ⟨#[]⟩) 1 16 Try.underlying28 (by kernel_rfl) (by kernel_rfl) (by kernel_rfl) (by kernel_rfl) (by kernel_rfl) (by omega)
      v n xs hown ⟨g, o, none⟩ l.length c (textsV l) (by rw [textsV_len, Nat.mul_one])
      (by
        intro j u hu
        have hj : j < l.length := by rw [← textsV_len]; exact (List.getElem?_eq_some_iff.1 hu).1
        rw [textsV_get l j hj] at hu
        have e : (⟨g, o, none⟩ : Addr).add j = ⟨g, o + j, none⟩ := by unfold Addr.add; split <;> simp_all
        rw [e, hl j _ (List.getElem?_eq_getElem hj)]
        exact hu) (by
        intro u hu
        unfold textsV at hu
        obtain ⟨x, _, rfl⟩ := List.mem_map.1 hu
        rfl) (by unfold maxLen; omega) (by omega) hB
  exact ⟨v', w', hr, ho, hg, hat⟩
theorem textsV_app (a b : List Bs) : textsV (a ++ b) = textsV a ++ textsV b := by unfold textsV; rw [List.map_append]
theorem append_nothing (W : World) (g n cap : Nat) (a : Option Addr) (c : Nat) (h : n ≤ cap) (hm : cap ≤ maxLen) :
    (Builtin.append_ #[28, 28] 28 #[.slice (some ⟨g, 0, none⟩) n cap, .slice a 0 c]).run Try.prog W = .ok (.slice (some ⟨g, 0, none⟩) n cap) W := by
  simp [Builtin.append_, go_sem]
  rw [if_pos h]
  cases a <;> simp [go_sem, storeCells]
theorem append_isW (W : World) (B n : Nat) (v : Value) (xs : List Value) (u : Value) (l : List Bs) (hown : W.ownsRow B 9 1 v n xs) (hv : v ≠ .slice none 0 0) (hU : IsW W u l) (h1 : n ≤ 100000) (h2 : l.length ≤ 100000) (hB : B ≤ W.heap.size) :
    ∃ v' w', (Builtin.append_ #[28, 28] 28 #[v, u]).run Try.prog W = .ok v' w' ∧ w'.ownsRow B 9 1 v' (n + l.length) (xs ++ textsV l) ∧ Below B W w' := by
  rcases hU with ⟨rfl, a, c, rfl⟩ | ⟨b, o, cap, rfl, hc⟩
  · have h0 := hown
    rcases h0.2 with ⟨rfl, _⟩ | ⟨g, cap, cur, rfl, h3, h4, h5, h6, h7, h8⟩
    · exact absurd rfl hv
    · refine ⟨_, _, append_nothing W g n cap a c h5 h6, ?_, Below.refl _ _⟩
      simpa [textsV] using hown
  · obtain ⟨v', w', hr, ho, hg, _⟩ := append_texts W B n v xs b o cap l hown (fun j x hj => by
      obtain ⟨hlt, rfl⟩ := List.getElem?_eq_some_iff.1 hj
      exact hc j hlt) (by omega) (by omega) hB
    exact ⟨v', w', hr, ho, (Below.refl B W).grown hg hB (owns_blk hown)⟩
theorem own_none (w : World) (B : Nat) (hB : B ≤ w.heap.size) : (w.alloc (.cells #[] 9)).ownsRow B 9 1 (.slice (some ⟨w.heap.size, 0, none⟩) 0 0) 0 (textsV []) := ⟨rfl, .inr ⟨w.heap.size, 0, #[], rfl, hB, by show (Array.push w.heap _)[w.heap.size]? = _; simp, Nat.le_refl _, by decide, rfl, rfl⟩⟩
theorem not_nil {w : World} {B n : Nat} {v : Value} {l : List Bs} (h : w.ownsRow B 9 1 v n (textsV l)) (hl : 0 < l.length) : v ≠ .slice none 0 0 := by
  intro e
  subst e
  rcases h.2 with ⟨_, hn⟩ | ⟨g, cap, cur, e, _⟩
  · have := h.1
    subst hn
    rw [textsV_len] at this
    omega
  · cases e
theorem addr_addo (b o j : Nat) : (⟨b, o, none⟩ : Addr).add j = ⟨b, o + j, none⟩ := by unfold Addr.add; split <;> simp_all
end Go.Proofs.Yteacldkfdhhphaa
