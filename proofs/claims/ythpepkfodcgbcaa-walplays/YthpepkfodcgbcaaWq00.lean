import Derived.Test.YthpepkfodcgbcaaProg
import Derived.WalkKit
import Derived.WalkSpells
import Derived.WalkLawsBesides
import Derived.Lib.IndexBytes
import Derived.Lib.ConvBytes
import Derived.Lib.RuneBytes
import Derived.Laws.IdiomStrings
import Derived.Laws.AppendOwn
import Derived.Laws.OwnMore
import Derived.Below
import Derived.ProofKit
import Derived.Deep.AppendSrc
import Derived.Maps.AppendAt
import Derived.Lib.SmallJoins
import Derived.Lib.AppendZeros
import Derived.Deep.RegionHeld2
/- Lists of texts that lie there, appended; what the walks share. (Out of stage 11's texts.) -/
set_option linter.unusedVariables false
set_option linter.unusedSimpArgs false
set_option maxRecDepth 4000
namespace Go.Proofs.Ythpepkfodcgbcaa
open Go.RowKit

abbrev Bs := List UInt8
theorem hide {p : Prop} (h : p) : Hid p := h
theorem str_data (l : List UInt8) : (⟨l.toArray⟩ : ByteArray).data.toList = l := by simp
theorem size_list (s : ByteArray) : s.size = s.data.toList.length := by
  rw [Array.length_toList]; rfl
theorem cell_lt {w : World} {a : Addr} {v : Value} (h : w.cell? a = some v) : a.block < w.heap.size := World.block_lt_of_cell? w a h
theorem addr_add (b j : Nat) : (⟨b, 0, none⟩ : Addr).add j = ⟨b, j, none⟩ := by unfold Addr.add; split <;> simp_all
theorem below_alloc (w : World) (o : Obj) : Below w.heap.size w (w.alloc o) := (Below.refl _ w).alloc (Nat.le_refl _) _
/-- A list of texts lies there. -/
def IsW (w : World) (v : Value) (l : List (List UInt8)) : Prop := (l = [] ∧ ∃ a c, v = .slice a 0 c) ∨ ∃ b o cap, v = .slice (some ⟨b, o, none⟩) l.length cap ∧ ∀ j (hj : j < l.length), w.cell? ⟨b, o + j, none⟩ = some (.string ⟨(l[j]).toArray⟩)
theorem IsW.below {w W : World} {v : Value} {l : List (List UInt8)} (h : IsW w v l) (hb : Below w.heap.size w W) : IsW W v l := by
  rcases h with h | ⟨b, o, cap, rfl, hc⟩
  · exact .inl h
  · exact .inr ⟨b, o, cap, rfl, fun j hj => by rw [hb.cell (cell_lt (hc j hj))]; exact hc j hj⟩
theorem IsW.form {w : World} {v : Value} {l : List (List UInt8)} (h : IsW w v l) : ∃ a c, v = .slice a l.length c := by
  rcases h with ⟨rfl, a, c, rfl⟩ | ⟨b, o, cap, rfl, _⟩
  · exact ⟨a, c, rfl⟩
  · exact ⟨_, _, rfl⟩
theorem IsW.at_ {w : World} {a : Option Addr} {n c : Nat} {l : List Bs} (h : IsW w (.slice a n c) l) (k : Nat) (x : Bs) (hk : l[k]? = some x) : ∃ b o, a = some ⟨b, o, none⟩ ∧ ∀ W, Below w.heap.size w W → W.cell? ⟨b, o + k, none⟩ = some (.string ⟨x.toArray⟩) := by
  obtain ⟨hlt, rfl⟩ := List.getElem?_eq_some_iff.1 hk
  rcases h with ⟨rfl, _⟩ | ⟨b, o, cap, e, hcc⟩
  · simp at hlt
  · injection e with e1
    exact ⟨b, o, e1, fun W hb => (hb.cell (cell_lt (hcc k hlt))).trans (hcc k hlt)⟩
theorem owns_alloc {W : World} {B n : Nat} {e : TypeId} {z : Nat} {v : Value} {xs : List Value} (h : W.ownsRow B e z v n xs) (o : Obj) : (W.alloc o).ownsRow B e z v n xs := by
  refine ⟨h.1, ?_⟩
  rcases h.2 with h | ⟨g, cap, cur, h1, h2, h3, h4⟩
  · exact .inl h
  · refine .inr ⟨g, cap, cur, h1, h2, ?_, h4⟩
    have hg : g < W.heap.size := (Array.getElem?_eq_some_iff.1 h3).1
    rw [(below_alloc W o).block g hg]; exact h3
theorem owns_below {w W : World} {B n : Nat} {e : TypeId} {z : Nat} {v : Value} {xs : List Value} (h : w.ownsRow B e z v n xs) (hb : Below w.heap.size w W) : W.ownsRow B e z v n xs := by
  refine ⟨h.1, ?_⟩
  rcases h.2 with h | ⟨g, cap, cur, h1, h2, h3, h4⟩
  · exact .inl h
  · refine .inr ⟨g, cap, cur, h1, h2, ?_, h4⟩
    have hg : g < w.heap.size := (Array.getElem?_eq_some_iff.1 h3).1
    rw [hb.block g hg]; exact h3
theorem owns_formG {w : World} {B n : Nat} {e : TypeId} {z : Nat} {v : Value} {l : List Value} (h : w.ownsRow B e z v n l) : ∃ a cap, v = .slice a n cap := by
  rcases h.2 with ⟨rfl, h2⟩ | ⟨g, cap, cur, rfl, _⟩
  · subst h2
    exact ⟨none, 0, rfl⟩
  · exact ⟨_, _, rfl⟩
theorem owns_blk {w : World} {B n : Nat} {e : TypeId} {z : Nat} {v : Value} {xs : List Value} (h : w.ownsRow B e z v n xs) : ∀ k, v.ownBlock = some k → B ≤ k := fun k hk => (h.lt k hk).1
/-- append(v, u), v a list of texts of the call's own, u just written out. -/
theorem append_text (W : World) (B n : Nat) (v : Value) (xs : List Value) (s : ByteArray) (N : Nat) (hN : W.heap.size = N) (hown : W.ownsRow B 9 1 v n xs) (hl : n ≤ 2000000) (hB : B ≤ N) :
    ∃ v' w', (Builtin.append_ #[28, 28] 28 #[v, .slice (some ⟨N, 0, none⟩) 1 1]).run Try.prog (W.alloc (.cells #[.string s] 9)) = .ok v' w' ∧ w'.ownsRow B 9 1 v' (n + 1) (xs ++ [.string s]) ∧ Below B W w' := by
  subst hN
  obtain ⟨v', w', hr, ho, hg, _⟩ := run_append_own (P := Try.prog) (W.alloc (.cells #[.string s] 9)) B 28 28 9 Try.t9 (.string ⟨#[]⟩) 1 16 Try.underlying28 (by kernel_rfl) (by kernel_rfl) (by kernel_rfl) (by kernel_rfl) (by kernel_rfl) (by omega)
      v n xs (owns_alloc hown _) ⟨W.heap.size, 0, none⟩ 1 1 [.string s] rfl
      (by
        intro j u hu
        have hj : j < 1 := (List.getElem?_eq_some_iff.1 hu).1
        obtain rfl : j = 0 := by omega
        obtain rfl : Value.string s = u := by simpa using hu
        rw [addr_add]
        simp [go_sem]) (by intro u hu; obtain rfl := List.mem_singleton.1 hu; rfl) (by unfold maxLen; omega) (by omega) (by simp; omega)
  exact ⟨v', w', hr, ho, (((below_alloc W _).mono hB)).grown hg (by simp; omega) (owns_blk hown)⟩
theorem str_self (s : ByteArray) : (⟨s.data.toList.toArray⟩ : ByteArray) = s := by cases s; simp
def textsV (l : List Bs) : List Value := l.map fun x => Value.string ⟨x.toArray⟩
theorem textsV_len (l : List Bs) : (textsV l).length = l.length := by unfold textsV; rw [List.length_map]
theorem textsV_get (l : List Bs) (j : Nat) (hj : j < l.length) : (textsV l)[j]? = some (.string ⟨(l[j]).toArray⟩) := by unfold textsV; rw [List.getElem?_map, List.getElem?_eq_getElem hj]; rfl
theorem owns_isW {w : World} {B n : Nat} {v : Value} {l : List Bs} (h : w.ownsRow B 9 1 v n (textsV l)) : IsW w v l ∧ ∀ a n c, v = .slice a n c → n ≤ c := by
  have hn : n = l.length := by
    have := h.1
    rw [textsV_len] at this
    omega
  subst hn
  refine ⟨?_, ?_⟩
  · rcases h.2 with ⟨rfl, h2⟩ | ⟨g, cap, cur, rfl, _⟩
    · exact .inl ⟨List.eq_nil_of_length_eq_zero h2, _, _, rfl⟩
    · exact .inr ⟨g, 0, cap, rfl, fun j hj => by
        have := h.cells rfl j _ (textsV_get l j hj)
        rw [addr_add] at this
        rw [Nat.zero_add]
        exact this⟩
  · rintro a n c rfl
    rcases h.2 with ⟨e, _⟩ | ⟨g, cap, cur, e, _, _, h4, _⟩
    · injection e with e1 e2 e3
      omega
    · injection e with e1 e2 e3
      omega
/-- A list of texts lies there from a place of a block on. -/
def RowT (w : World) (g o : Nat) (l : List Bs) : Prop := ∀ j x, l[j]? = some x → w.cell? ⟨g, o + j, none⟩ = some (.string ⟨x.toArray⟩)
theorem RowT.below {w W : World} {g o : Nat} {l : List Bs} (h : RowT w g o l) (hb : Below w.heap.size w W) : RowT W g o l := fun j x hj => (hb.cell (cell_lt (h j x hj))).trans (h j x hj)
theorem owns_rowT {w : World} {B n g c : Nat} {l : List Bs} (h : w.ownsRow B 9 1 (.slice (some ⟨g, 0, none⟩) n c) n (textsV l)) : RowT w g 0 l ∧ n = l.length := by
  have hn := h.1
  rw [textsV_len] at hn
  refine ⟨fun j x hj => ?_, by omega⟩
  obtain ⟨hlt, rfl⟩ := List.getElem?_eq_some_iff.1 hj
  have := h.cells rfl j _ (textsV_get l j hlt)
  rw [addr_add] at this
  rw [Nat.zero_add]
  exact this
/-- append(v, l...), v a list of texts of one's own. -/
theorem append_texts (W : World) (B n : Nat) (v : Value) (xs : List Value) (g o c : Nat) (l : List Bs) (hown : W.ownsRow B 9 1 v n xs) (hl : RowT W g o l) (h1 : n ≤ 100000000) (h2 : l.length ≤ 100000000) (hB : B ≤ W.heap.size) :
    ∃ v' w', (Builtin.append_ #[28, 28] 28 #[v, .slice (some ⟨g, o, none⟩) l.length c]).run Try.prog W = .ok v' w' ∧ w'.ownsRow B 9 1 v' (n + l.length) (xs ++ textsV l) ∧ W.grownBy w' v.ownBlock ∧ (v'.ownBlock = v.ownBlock ∨ v'.ownBlock = some W.heap.size) := by
  obtain ⟨v', w', hr, ho, hg, _, hat⟩ := run_append_own_at (P := Try.prog) W B 28 28 9 Try.t9 (.string ⟨#[]⟩) 1 16 Try.underlying28 (by kernel_rfl) (by kernel_rfl) (by kernel_rfl) (by kernel_rfl) (by kernel_rfl) (by omega)
      v n xs hown ⟨g, o, none⟩ l.length c (textsV l) (by rw [textsV_len, Nat.mul_one])
      (by
        intro j u hu
        have hj : j < l.length := by rw [← textsV_len]; exact (List.getElem?_eq_some_iff.1 hu).1
        rw [textsV_get l j hj] at hu
        have e : (⟨g, o, none⟩ : Addr).add j = ⟨g, o + j, none⟩ := by unfold Addr.add; split <;> simp_all
        rw [e, hl j _ (List.getElem?_eq_getElem hj)]
        exact hu) (by
        intro u hu
        unfold textsV at hu
        obtain ⟨x, _, rfl⟩ := List.mem_map.1 hu
        rfl) (by unfold maxLen; omega) (by omega) hB
  exact ⟨v', w', hr, ho, hg, hat⟩
theorem textsV_app (a b : List Bs) : textsV (a ++ b) = textsV a ++ textsV b := by unfold textsV; rw [List.map_append]
theorem append_nothing (W : World) (g n cap : Nat) (a : Option Addr) (c : Nat) (h : n ≤ cap) (hm : cap ≤ maxLen) :
    (Builtin.append_ #[28, 28] 28 #[.slice (some ⟨g, 0, none⟩) n cap, .slice a 0 c]).run Try.prog W = .ok (.slice (some ⟨g, 0, none⟩) n cap) W := by
  simp [Builtin.append_, go_sem]
  rw [if_pos h]
  cases a <;> simp [go_sem, storeCells]
theorem append_isW (W : World) (B n : Nat) (v : Value) (xs : List Value) (u : Value) (l : List Bs) (hown : W.ownsRow B 9 1 v n xs) (hv : v ≠ .slice none 0 0) (hU : IsW W u l) (h1 : n ≤ 100000) (h2 : l.length ≤ 100000) (hB : B ≤ W.heap.size) :
    ∃ v' w', (Builtin.append_ #[28, 28] 28 #[v, u]).run Try.prog W = .ok v' w' ∧ w'.ownsRow B 9 1 v' (n + l.length) (xs ++ textsV l) ∧ Below B W w' := by
  rcases hU with ⟨rfl, a, c, rfl⟩ | ⟨b, o, cap, rfl, hc⟩
  · have h0 := hown
    rcases h0.2 with ⟨rfl, _⟩ | ⟨g, cap, cur, rfl, h3, h4, h5, h6, h7, h8⟩
    · exact absurd rfl hv
    · refine ⟨_, _, append_nothing W g n cap a c h5 h6, ?_, Below.refl _ _⟩
      simpa [textsV] using hown
  · obtain ⟨v', w', hr, ho, hg, _⟩ := append_texts W B n v xs b o cap l hown (fun j x hj => by
      obtain ⟨hlt, rfl⟩ := List.getElem?_eq_some_iff.1 hj
      exact hc j hlt) (by omega) (by omega) hB
    exact ⟨v', w', hr, ho, (Below.refl B W).grown hg hB (owns_blk hown)⟩
theorem own_none (w : World) (B : Nat) (hB : B ≤ w.heap.size) : (w.alloc (.cells #[] 9)).ownsRow B 9 1 (.slice (some ⟨w.heap.size, 0, none⟩) 0 0) 0 (textsV []) := ⟨rfl, .inr ⟨w.heap.size, 0, #[], rfl, hB, by show (Array.push w.heap _)[w.heap.size]? = _; simp, Nat.le_refl _, by decide, rfl, rfl⟩⟩
theorem not_nil {w : World} {B n : Nat} {v : Value} {l : List Bs} (h : w.ownsRow B 9 1 v n (textsV l)) (hl : 0 < l.length) : v ≠ .slice none 0 0 := by
  intro e
  subst e
  rcases h.2 with ⟨_, hn⟩ | ⟨g, cap, cur, e, _⟩
  · have := h.1
    subst hn
    rw [textsV_len] at this
    omega
  · cases e
theorem addr_addo (b o j : Nat) : (⟨b, o, none⟩ : Addr).add j = ⟨b, o + j, none⟩ := by unfold Addr.add; split <;> simp_all
end Go.Proofs.Ythpepkfodcgbcaa
/- Disks, plainly: over lists of sectors. No program in it. -/
set_option linter.unusedVariables false
set_option linter.unusedSimpArgs false
namespace Go.Proofs.Ythpepkfodcgbcaa

/-- What is safe, sector by sector, and what is pending. -/
structure DM where
  safe : List Bs
  l : List (Nat × Bs) := []
  left : Int := 0
  fuse : Bool := false
  off : Bool := false
def putS (s : List Bs) (p : Nat × Bs) : List Bs := s.set p.1 p.2
def nowL (s : List Bs) (l : List (Nat × Bs)) : List Bs := l.foldl putS s
def nowD (d : DM) : List Bs := nowL d.safe d.l
def dumpD (d : DM) : Bs := (nowD d).flatten
def isD (d : DM) (n : Int) : Bool := decide (0 ≤ n) && decide (n < ((d.safe.length / 4 : Nat) : Int))
def readD (d : DM) (n : Int) : Bs × Int := if isD d n then (if d.off then ([], 9) else (((nowD d).drop (n.toNat * 4)).take 4 |>.flatten, 0)) else ([], 1)
def spendD (d : DM) : DM × Bool := if d.off || (d.fuse && decide (d.left = 0)) then ({ d with off := true, fuse := false }, false) else ((if d.fuse then { d with left := d.left - 1 } else d), true)
def cutB (b : Bs) (i : Nat) : Bs := (b.drop (i * 64)).take 64
def piecesL (n : Nat) (b : Bs) : List (Nat × Bs) := (List.range 4).map fun i => (n * 4 + i, cutB b i)
def writeD (d : DM) (n : Int) (b : Bs) : DM × Int := if isD d n && decide (b.length = 256) then
    (if (spendD d).2 then ({ (spendD d).1 with l := (spendD d).1.l ++ piecesL n.toNat b }, 0) else ((spendD d).1, 9)) else (d, 1)
def flushD (d : DM) : DM × Int := if (spendD d).2 then ({ (spendD d).1 with safe := nowD (spendD d).1, l := [] }, 0) else ((spendD d).1, 9)
def armD (d : DM) (k : Int) : DM := if d.off then d else { d with fuse := true, left := if k < 0 then 0 else k }
def crashL (s : List Bs) : List (Nat × Bs) → List Bool → List Bs
  | [], _ => s
  | p :: r, [] => s
  | p :: r, b :: k => crashL (if b then putS s p else s) r k
def crashD (d : DM) (keep : List Bool) : DM := { safe := crashL d.safe d.l keep }
def blockB (b : Bs) : Bs := (List.range 256).map fun i => b.getD (i % b.length) 0
def noughtB : Bs := List.replicate 64 0
def newD (n : Nat) : DM := { safe := List.replicate (n * 4) noughtB }
/-- A disk as it should be: pieces lie within it, sectors have 64 bytes. -/
structure OkD (d : DM) : Prop where
  at_ : ∀ p ∈ d.l, p.1 < d.safe.length
  safe : ∀ x ∈ d.safe, x.length = 64
  len : ∀ p ∈ d.l, p.2.length = 64
  four : d.safe.length % 4 = 0
theorem nowL_len : ∀ (l : List (Nat × Bs)) (s : List Bs), (nowL s l).length = s.length
  | [], s => rfl
  | p :: r, s => by
    show (nowL (putS s p) r).length = _
    rw [nowL_len r]
    unfold putS
    simp
theorem crashL_len : ∀ (l : List (Nat × Bs)) (k : List Bool) (s : List Bs), (crashL s l k).length = s.length
  | [], _, s => by cases ‹List Bool› <;> rfl
  | p :: r, [], s => rfl
  | p :: r, b :: k, s => by
    show (crashL (if b then putS s p else s) r k).length = _
    rw [crashL_len r k]
    cases b <;> simp [putS]
end Go.Proofs.Ythpepkfodcgbcaa
/- The document's disk lies there; what Is, spend and Arm answer. -/
set_option linter.unusedVariables false
set_option linter.unusedSimpArgs false
set_option maxRecDepth 4000
namespace Go.Proofs.Ythpepkfodcgbcaa
open Go.RowKit

/-- A list of pieces lies there. -/
def IsP (w : World) (v : Value) (l : List (Nat × Bs)) : Prop := (l = [] ∧ ∃ a c, v = .slice a 0 c) ∨ ∃ b o cap, v = .slice (some ⟨b, o, none⟩) l.length cap ∧ ∀ j (hj : j < l.length), w.cell? ⟨b, o + j * 2, none⟩ = some (.int .i64 (l[j].1 : Int)) ∧ w.cell? ⟨b, o + j * 2 + 1, none⟩ = some (.string ⟨l[j].2.toArray⟩)
theorem IsP.below {w W : World} {v : Value} {l : List (Nat × Bs)} (h : IsP w v l) (hb : Below w.heap.size w W) : IsP W v l := by
  rcases h with h | ⟨b, o, cap, rfl, hc⟩
  · exact .inl h
  · exact .inr ⟨b, o, cap, rfl, fun j hj => ⟨(hb.cell (cell_lt (hc j hj).1)).trans (hc j hj).1, (hb.cell (cell_lt (hc j hj).2)).trans (hc j hj).2⟩⟩
theorem IsP.form {w : World} {v : Value} {l : List (Nat × Bs)} (h : IsP w v l) : ∃ a c, v = .slice a l.length c := by
  rcases h with ⟨rfl, a, c, rfl⟩ | ⟨b, o, cap, rfl, _⟩
  · exact ⟨_, _, rfl⟩
  · exact ⟨_, _, rfl⟩
/-- A disk, and where its lists lie. -/
structure DV where
  m : DM
  sv : Value
  lv : Value
abbrev dkC (d : DV) : Array Value := #[d.sv, d.lv, .int .i64 d.m.left, .bool d.m.fuse, .bool d.m.off]
abbrev dkA (d : DV) : Value := .agg (dkC d)
structure IsD (w : World) (d : DV) : Prop where
  s : IsW w d.sv d.m.safe
  l : IsP w d.lv d.m.l
theorem IsD.below {w W : World} {d : DV} (h : IsD w d) (hb : Below w.heap.size w W) : IsD W d := ⟨h.s.below hb, h.l.below hb⟩
abbrev dkW (w : World) (d : DV) : World := w.alloc (.cells (dkC d) 31)
theorem alloc_new (w : World) (o : Obj) : (w.alloc o).heap[w.heap.size]? = some o := by show (Array.push w.heap o)[w.heap.size]? = _; simp
theorem dk_cells {w : World} {A : Nat} {d : DV} (h : w.heap[A]? = some (.cells (dkC d) 31 (0, 0))) : w.cell? ⟨A, 0, none⟩ = some d.sv ∧ w.cell? ⟨A, 1, none⟩ = some d.lv ∧ w.cell? ⟨A, 2, none⟩ = some (.int .i64 d.m.left) ∧ w.cell? ⟨A, 3, none⟩ = some (.bool d.m.fuse) ∧ w.cell? ⟨A, 4, none⟩ = some (.bool d.m.off) ∧ w.frozen? ⟨A, 0, none⟩ = false ∧ w.frozen? ⟨A, 1, none⟩ = false ∧ w.frozen? ⟨A, 2, none⟩ = false ∧ w.frozen? ⟨A, 3, none⟩ = false ∧ w.frozen? ⟨A, 4, none⟩ = false := by
  refine ⟨?_, ?_, ?_, ?_, ?_, ?_, ?_, ?_, ?_, ?_⟩ <;> simp [World.cell?, World.frozen?, h]
theorem dk_box (w : World) (d : DV) {x : World} (h : Below (dkW w d).heap.size (dkW w d) x) : x.heap[w.heap.size]? = some (.cells (dkC d) 31 (0, 0)) ∧ Below w.heap.size w x := by
  have hb := below_alloc w (.cells (dkC d) 31)
  exact ⟨(h.block w.heap.size (by simp)).trans (alloc_new w _), hb.trans (h.mono hb.size)⟩
set_option maxHeartbeats 1000000 in
theorem ris_any (d : DV) (n : Int) (w : World) (hI : IsD w d) (hl : d.m.safe.length ≤ 1000000) :
    Calls Try.prog 56 #[dkA d, .int .i64 n] w fun e w' => e = .returned (.bool (isD d.m n)) ∧ Below w.heap.size w w' := by
  have BB := hide (below_alloc w (.cells (dkC d) 31))
  obtain ⟨m, sv, lv⟩ := d
  have gs : IsW w sv m.safe := hI.s
  have gl : IsP w lv m.l := hI.l
  obtain ⟨sa, sc, rfl⟩ := gs.form
  obtain ⟨la, lc, rfl⟩ := gl.form
  unfold isD
  simp only [] at *
  have hq : (m.safe.length : Int).tdiv 4 = ((m.safe.length / 4 : Nat) : Int) := by rw [Int.tdiv_eq_ediv_of_nonneg (by omega)]; omega
  have hq2 : (m.safe.length : Int) / 4 = ((m.safe.length / 4 : Nat) : Int) := by omega
  generalize ((m.safe.length / 4 : Nat) : Int) = q at *
  generalize m.safe.length = k at *
  clear gs gl hI
  by_cases h0 : 0 ≤ n
  · rw [decide_eq_true h0, Bool.true_and]
    by_cases h1 : n < q
    · rw [decide_eq_true h1]
      go_enter Try.func56, Try.ntmps56
      go_wp2
      go_ret
      exact ⟨rfl, BB.out⟩
    · rw [decide_eq_false h1]
      go_enter Try.func56, Try.ntmps56
      go_wp2
      go_ret
      exact ⟨rfl, BB.out⟩
  · rw [decide_eq_false h0, Bool.false_and]
    go_enter Try.func56, Try.ntmps56
    go_wp2
    go_ret
    exact ⟨rfl, BB.out⟩
end Go.Proofs.Ythpepkfodcgbcaa
/- What the document's spend and Arm answer. -/
set_option linter.unusedVariables false
set_option linter.unusedSimpArgs false
set_option maxRecDepth 4000
namespace Go.Proofs.Ythpepkfodcgbcaa
open Go.RowKit

theorem spend_lists (d : DM) : (spendD d).1.safe = d.safe ∧ (spendD d).1.l = d.l := by
  unfold spendD
  split
  · exact ⟨rfl, rfl⟩
  · simp only []
    split <;> exact ⟨rfl, rfl⟩
theorem arm_lists (d : DM) (k : Int) : (armD d k).safe = d.safe ∧ (armD d k).l = d.l := by
  unfold armD
  split <;> exact ⟨rfl, rfl⟩
theorem below_two (w : World) (o1 o2 : Obj) : Below w.heap.size w ((w.alloc o1).alloc o2) := (below_alloc w o1).trans ((below_alloc (w.alloc o1) o2).mono (below_alloc w o1).size)
set_option maxHeartbeats 2000000 in
theorem rspend_any (d : DV) (w : World) (hI : IsD w d) (hl : -9223372036854775808 < d.m.left ∧ d.m.left ≤ 9223372036854775807) :
    Calls Try.prog 57 #[dkA d] w fun e w' => e = .returned (.tuple #[dkA { d with m := (spendD d.m).1 }, .bool (spendD d.m).2]) ∧ Below w.heap.size w w' := by
  have BB := hide (below_two w)
  obtain ⟨⟨safe, l, left, fuse, off⟩, sv, lv⟩ := d
  have gs : IsW w sv safe := hI.s
  have gl : IsP w lv l := hI.l
  obtain ⟨sa, sc, rfl⟩ := gs.form
  obtain ⟨la, lc, rfl⟩ := gl.form
  simp only [] at *
  generalize safe.length = k1 at *
  generalize l.length = k2 at *
  clear gs gl hI
  obtain ⟨hl1, hl2⟩ := hl
  cases off
  · cases fuse
    · show Calls Try.prog _ _ w fun e w' => e = .returned (.tuple #[.agg #[.slice sa k1 sc, .slice la k2 lc, .int .i64 left, .bool false, .bool false], .bool true]) ∧ _
      go_enter Try.func57, Try.ntmps57
      go_wp2
      refine bodyPost_ret (v := .tuple #[.agg #[.slice sa k1 sc, .slice la k2 lc, .int .i64 left, .bool false, .bool false], .bool true]) ?_ rfl ⟨rfl, BB.out _ _⟩
      simp [results, Try.results57, go_sem]
    · by_cases h0 : left = 0
      · subst h0
        show Calls Try.prog _ _ w fun e w' => e = .returned (.tuple #[.agg #[.slice sa k1 sc, .slice la k2 lc, .int .i64 0, .bool false, .bool true], .bool false]) ∧ _
        go_enter Try.func57, Try.ntmps57
        go_wp2
        refine bodyPost_ret (v := .tuple #[.agg #[.slice sa k1 sc, .slice la k2 lc, .int .i64 0, .bool false, .bool true], .bool false]) ?_ rfl ⟨rfl, BB.out _ _⟩
        simp [results, Try.results57, go_sem]
      · have h0b : (left == 0) = false := by simp [h0]
        have hs : spendD ⟨safe, l, left, true, false⟩ = (⟨safe, l, left - 1, true, false⟩, true) := by simp [spendD, h0]
        rw [hs]
        show Calls Try.prog _ _ w fun e w' => e = .returned (.tuple #[.agg #[.slice sa k1 sc, .slice la k2 lc, .int .i64 (left - 1), .bool true, .bool false], .bool true]) ∧ _
        clear hs h0
        go_enter Try.func57, Try.ntmps57
        go_wp2
        refine bodyPost_ret (v := .tuple #[.agg #[.slice sa k1 sc, .slice la k2 lc, .int .i64 (left - 1), .bool true, .bool false], .bool true]) ?_ rfl ⟨rfl, BB.out _ _⟩
        simp [results, Try.results57, go_sem]
  · show Calls Try.prog _ _ w fun e w' => e = .returned (.tuple #[.agg #[.slice sa k1 sc, .slice la k2 lc, .int .i64 left, .bool false, .bool true], .bool false]) ∧ _
    go_enter Try.func57, Try.ntmps57
    go_wp2
    refine bodyPost_ret (v := .tuple #[.agg #[.slice sa k1 sc, .slice la k2 lc, .int .i64 left, .bool false, .bool true], .bool false]) ?_ rfl ⟨rfl, BB.out _ _⟩
    simp [results, Try.results57, go_sem]
set_option maxHeartbeats 2000000 in
theorem rarm_any (d : DV) (k : Int) (w : World) (hI : IsD w d) :
    Calls Try.prog 23 #[dkA d, .int .i64 k] w fun e w' => e = .returned (dkA { d with m := armD d.m k }) ∧ Below w.heap.size w w' := by
  have BB := hide (below_two w)
  obtain ⟨⟨safe, l, left, fuse, off⟩, sv, lv⟩ := d
  have gs : IsW w sv safe := hI.s
  have gl : IsP w lv l := hI.l
  obtain ⟨sa, sc, rfl⟩ := gs.form
  obtain ⟨la, lc, rfl⟩ := gl.form
  simp only [] at *
  generalize safe.length = k1 at *
  generalize l.length = k2 at *
  clear gs gl hI
  cases off
  · by_cases h0 : k < 0
    · have hs : armD ⟨safe, l, left, fuse, false⟩ k = ⟨safe, l, 0, true, false⟩ := by simp [armD, h0]
      rw [hs]
      clear hs
      go_enter Try.func23, Try.ntmps23
      go_wp2
      refine bodyPost_ret (v := .agg #[.slice sa k1 sc, .slice la k2 lc, .int .i64 0, .bool true, .bool false]) ?_ rfl ⟨rfl, BB.out _ _⟩
      simp [results, Try.results23, go_sem]
    · have hs : armD ⟨safe, l, left, fuse, false⟩ k = ⟨safe, l, k, true, false⟩ := by simp [armD, h0]
      rw [hs]
      clear hs
      go_enter Try.func23, Try.ntmps23
      go_wp2
      refine bodyPost_ret (v := .agg #[.slice sa k1 sc, .slice la k2 lc, .int .i64 k, .bool true, .bool false]) ?_ rfl ⟨rfl, BB.out _ _⟩
      simp [results, Try.results23, go_sem]
  · have hs : armD ⟨safe, l, left, fuse, true⟩ k = ⟨safe, l, left, fuse, true⟩ := by simp [armD]
    rw [hs]
    clear hs
    go_enter Try.func23, Try.ntmps23
    go_wp2
    refine bodyPost_ret (v := .agg #[.slice sa k1 sc, .slice la k2 lc, .int .i64 left, .bool fuse, .bool true]) ?_ rfl ⟨rfl, BB.out _ _⟩
    simp [results, Try.results23, go_sem]
end Go.Proofs.Ythpepkfodcgbcaa
/- What the document's Now and Crash answer. -/
set_option linter.unusedVariables false
set_option linter.unusedSimpArgs false
set_option maxRecDepth 4000
namespace Go.Proofs.Ythpepkfodcgbcaa
open Go.RowKit

theorem own_form {w : World} {B n : Nat} {v : Value} {xs : List Value} {e : TypeId} {z : Nat} (h : w.ownsRow B e z v n xs) (hv : v ≠ .slice none 0 0) : ∃ g cap, v = .slice (some ⟨g, 0, none⟩) n cap ∧ B ≤ g := by
  rcases h.2 with ⟨rfl, _⟩ | ⟨g, cap, cur, rfl, h3, _⟩
  · exact absurd rfl hv
  · exact ⟨g, cap, rfl, h3⟩
theorem own_base {w : World} {B C n : Nat} {e : TypeId} {z : Nat} {v : Value} {xs : List Value} (h : w.ownsRow B e z v n xs) (hC : C ≤ B) : w.ownsRow C e z v n xs := by
  refine ⟨h.1, ?_⟩
  rcases h.2 with h | ⟨g, cap, cur, h1, h2, h3⟩
  · exact .inl h
  · exact .inr ⟨g, cap, cur, h1, by omega, h3⟩
theorem copy_texts (w : World) (u : Value) (l : List Bs) (hU : IsW w u l) (hl : l.length ≤ 100000) :
    ∃ g cap w1, (Builtin.append_ #[28, 28] 28 #[.slice (some ⟨w.heap.size, 0, none⟩) 0 0, u]).run Try.prog (w.alloc (.cells #[] 9)) = .ok (.slice (some ⟨g, 0, none⟩) l.length cap) w1 ∧ w1.ownsRow w.heap.size 9 1 (.slice (some ⟨g, 0, none⟩) l.length cap) l.length (textsV l) ∧ Below w.heap.size w w1 ∧ w.heap.size ≤ g := by
  have hb := below_alloc w (.cells #[] 9)
  obtain ⟨v3, w3, e1, e2, e3⟩ := append_isW (w.alloc (.cells #[] 9)) w.heap.size 0 _ (textsV []) u l (own_none w _ (Nat.le_refl _)) (by simp) (hU.below hb) (by omega) (by omega) hb.size
  have e2' : w3.ownsRow w.heap.size 9 1 v3 l.length (textsV l) := by
    have h := e2
    rw [Nat.zero_add] at h
    exact h
  have hne : v3 ≠ .slice none 0 0 := by
    cases l with
    | nil =>
      obtain ⟨a, c, rfl⟩ := hU.form
      rw [show ([] : List Bs).length = 0 from rfl, append_nothing _ w.heap.size 0 0 _ _ (Nat.le_refl _) (by decide)] at e1
      injection e1 with e1
      rw [← e1]
      simp
    | cons y l => exact not_nil e2' (by simp)
  obtain ⟨g, cap, rfl, hg⟩ := own_form e2' hne
  exact ⟨g, cap, w3, e1, e2', hb.trans e3, hg⟩
theorem textsV_set (l : List Bs) (j : Nat) (x : Bs) : textsV (l.set j x) = (textsV l).set j (.string ⟨x.toArray⟩) := by
  unfold textsV
  rw [List.map_set]
theorem take_now (s : List Bs) (l : List (Nat × Bs)) (i : Nat) (h : i < l.length) : nowL s (l.take (i + 1)) = (nowL s (l.take i)).set l[i].1 l[i].2 := by
  unfold nowL
  rw [List.take_succ_eq_append_getElem h, List.foldl_append]
  rfl
/-- A list of bools lies there. -/
def IsF (w : World) (v : Value) (l : List Bool) : Prop := (l = [] ∧ ∃ a c, v = .slice a 0 c) ∨ ∃ b o cap, v = .slice (some ⟨b, o, none⟩) l.length cap ∧ ∀ j (hj : j < l.length), w.cell? ⟨b, o + j, none⟩ = some (.bool l[j])
theorem IsF.below {w W : World} {v : Value} {l : List Bool} (h : IsF w v l) (hb : Below w.heap.size w W) : IsF W v l := by
  rcases h with h | ⟨b, o, cap, rfl, hc⟩
  · exact .inl h
  · exact .inr ⟨b, o, cap, rfl, fun j hj => (hb.cell (cell_lt (hc j hj))).trans (hc j hj)⟩
theorem IsF.form {w : World} {v : Value} {l : List Bool} (h : IsF w v l) : ∃ a c, v = .slice a l.length c := by
  rcases h with ⟨rfl, a, c, rfl⟩ | ⟨b, o, cap, rfl, _⟩
  · exact ⟨_, _, rfl⟩
  · exact ⟨_, _, rfl⟩
set_option maxHeartbeats 2000000 in
theorem rnow_any (d : DV) (w : World) (hI : IsD w d) (hok : OkD d.m) (h1 : d.m.safe.length ≤ 100000) (h2 : d.m.l.length ≤ 100000) :
    Calls Try.prog 49 #[dkA d] w fun e w' => ∃ v, e = .returned v ∧ w'.ownsRow w.heap.size 9 1 v (nowD d.m).length (textsV (nowD d.m)) ∧ Below w.heap.size w w' := by
  have hb0 := below_alloc w (.cells (dkC d) 31)
  obtain ⟨g, cap, w1, hr, ho, hb1, hg⟩ := copy_texts (dkW w d) d.sv d.m.safe (hI.s.below hb0) (by omega)
  have s1 : (dkW w d).heap.size = w.heap.size + 1 := by simp
  rw [s1] at hr
  clear s1
  have HBX := hide (fun x (b : Below (dkW w d).heap.size (dkW w d) x) => dk_box w d b)
  have HP : Hid (∀ x, Below w.heap.size w x → IsP x d.lv d.m.l) := hide (fun x b => hI.l.below b)
  have HO : Hid (w1.ownsRow (dkW w d).heap.size 9 1 (.slice (some ⟨g, 0, none⟩) d.m.safe.length cap) d.m.safe.length (textsV (nowL d.m.safe (d.m.l.take 0)))) := hide ho
  have HB := hide hb1
  have hat := hok.at_
  have HSZ := hide hb0.size
  rw [show nowD d.m = nowL d.m.safe d.m.l from rfl, nowL_len]
  obtain ⟨⟨safe, l, left, fuse, off⟩, sv, lv⟩ := d
  have gs : IsW w sv safe := hI.s
  have gl : IsP w lv l := hI.l
  obtain ⟨sa, sc, rfl⟩ := gs.form
  obtain ⟨la, lc, rfl⟩ := gl.form
  simp only [] at *
  clear gs gl hI hok ho hb1 hb0
  obtain ⟨k0, _⟩ := HBX.out _ (Below.refl _ _)
  obtain ⟨x0, x1, x2, x3, x4, _⟩ := dk_cells k0
  have x0a : ((dkW w ⟨⟨safe, l, left, fuse, off⟩, .slice sa safe.length sc, .slice la l.length lc⟩).alloc (.cells #[] 9)).cell? ⟨w.heap.size, 0, none⟩ = some (.slice sa safe.length sc) := ((below_alloc _ _).cell (cell_lt x0)).trans x0
  clear k0 x0 x1 x2 x3 x4
  go_enter Try.func49, Try.ntmps49
  go_wp2_with (at_builtin; refine Lib.wpList_append_run _ rfl (.tmp 5) (.tmp 7) _ _ rfl _ _ rfl rfl _ _ hr ?_)
  clear x0a hr
  go_loopw [4] (fun vi wr => ∃ i : Nat, vi = .int .i64 (i : Int) ∧ i ≤ l.length ∧ Hid (wr.ownsRow (dkW w ⟨⟨safe, l, left, fuse, off⟩, .slice sa safe.length sc, .slice la l.length lc⟩).heap.size 9 1 (.slice (some ⟨g, 0, none⟩) safe.length cap) safe.length (textsV (nowL safe (l.take i)))) ∧ Hid (Below (dkW w ⟨⟨safe, l, left, fuse, off⟩, .slice sa safe.length sc, .slice la l.length lc⟩).heap.size (dkW w ⟨⟨safe, l, left, fuse, off⟩, .slice sa safe.length sc, .slice la l.length lc⟩) wr)) (fun vi _ => l.length - (intOf vi).toNat)
  case atStart => exact ⟨0, rfl, Nat.zero_le _, HO, HB⟩
  case round =>
    clear HO HB
    obtain ⟨i, rfl, hi, HO, HB⟩ := hrel
    obtain ⟨k0, kb⟩ := HBX.out _ HB.out
    obtain ⟨x0, x1, x2, x3, x4, _⟩ := dk_cells k0
    by_cases hlt : i < l.length
    · have hlt2 : (i : Int) < l.length := by omega
      rcases HP.out _ kb with ⟨h0, _⟩ | ⟨b, o, c, e, hc⟩
      · rw [h0] at hlt; simp at hlt
      injection e with e _ ec
      subst e ec
      obtain ⟨p0, p1⟩ := hc i hlt
      have hai := hat l[i] (List.getElem_mem hlt)
      have hai2 : ((l[i].1 : Nat) : Int) < safe.length := by omega
      have hlenx : (textsV (nowL safe (l.take i))).length = safe.length := by rw [textsV_len, nowL_len]
      have hod : wr.drew.ownsRow (dkW w ⟨⟨safe, l, left, fuse, off⟩, .slice sa safe.length sc, .slice (some ⟨b, o, none⟩) l.length lc⟩).heap.size 9 1 (.slice (some ⟨g, 0, none⟩) safe.length cap) safe.length (textsV (nowL safe (l.take i))) := HO.out
      have q0 : wr.drew.cell? ⟨g, l[i].1, none⟩ = (textsV (nowL safe (l.take i)))[l[i].1]? := hod.cellAt l[i].1 (by omega)
      obtain ⟨old, hold⟩ : ∃ old, wr.drew.cell? ⟨g, l[i].1, none⟩ = some old := ⟨_, q0.trans (List.getElem?_eq_getElem (by omega))⟩
      have q1 := hod.frozenAt l[i].1
      have hst := (hod.stored l[i].1 (.string ⟨l[i].2.toArray⟩)).1
      rw [← textsV_set, ← take_now safe l i hlt] at hst
      have HST := hide hst
      have hBg : (dkW w ⟨⟨safe, l, left, fuse, off⟩, .slice sa safe.length sc, .slice (some ⟨b, o, none⟩) l.length lc⟩).heap.size ≤ g := hg
      have HB2 := hide (HB.out.drew.setCell (p := ⟨g, l[i].1, none⟩) hBg (.string ⟨l[i].2.toArray⟩))
      have x1d : wr.drew.cell? ⟨w.heap.size, 1, none⟩ = some (.slice (some ⟨b, o, none⟩) l.length lc) := x1
      have p0d : wr.drew.cell? ⟨b, o + i * 2, none⟩ = some (.int .i64 (l[i].1 : Int)) := p0
      have p1d : wr.drew.cell? ⟨b, o + i * 2 + 1, none⟩ = some (.string ⟨l[i].2.toArray⟩) := p1
      clear hst hc k0 kb q0 hlenx hai hod x0 x2 x3 x4 p0 p1
      generalize (⟨l[i].2.toArray⟩ : ByteArray) = X at *
      generalize l[i].1 = at_ at *
      go_wp2
      go_region
      all_goals go_wp2
      all_goals go_roundw
      all_goals first | exact ⟨i + 1, by go_num, by omega, HST, HB2⟩ | (simp [intOf]; omega)
    · have hlt2 : ¬ (i : Int) < l.length := by omega
      obtain rfl : i = l.length := by omega
      have ho := HO.out
      rw [List.take_length] at ho
      have HF : Hid (∃ v, Ending.returned (.slice (some ⟨g, 0, none⟩) safe.length cap) = .returned v ∧ wr.ownsRow w.heap.size 9 1 v safe.length (textsV (nowL safe l)) ∧ Below w.heap.size w wr) := hide ⟨_, rfl, own_base ho (by simp), kb⟩
      clear ho kb k0
      go_wp2
      go_ret
      exact HF.out
end Go.Proofs.Ythpepkfodcgbcaa
/- What the document's Crash answers. -/
set_option linter.unusedVariables false
set_option linter.unusedSimpArgs false
set_option maxRecDepth 4000
namespace Go.Proofs.Ythpepkfodcgbcaa
open Go.RowKit

theorem take_crash : ∀ (l : List (Nat × Bs)) (k : List Bool) (s : List Bs) (i : Nat) (h : i < l.length), crashL s (l.take (i + 1)) k = if k.getD i false then (crashL s (l.take i) k).set l[i].1 l[i].2 else crashL s (l.take i) k
  | p :: r, [], s, i, h => by
    rw [List.take_succ_cons]
    cases i <;> simp [crashL]
  | p :: r, b :: k, s, 0, h => by
    rw [List.take_succ_cons]
    simp only [List.take_zero, crashL, List.getD_cons_zero, List.getElem_cons_zero]
    cases b <;> rfl
  | p :: r, b :: k, s, i + 1, h => by
    rw [List.take_succ_cons, List.take_succ_cons]
    simp only [crashL, List.getD_cons_succ, List.getElem_cons_succ]
    exact take_crash r k _ i (by simpa using h)
theorem getD_lt (k : List Bool) (i : Nat) (h : i < k.length) : k.getD i false = k[i] := by
  rw [List.getD_eq_getElem?_getD, List.getElem?_eq_getElem h]; rfl
theorem getD_ge (k : List Bool) (i : Nat) (h : ¬ i < k.length) : k.getD i false = false := by
  rw [List.getD_eq_getElem?_getD, List.getElem?_eq_none (by omega)]; rfl
def zeroDV : DV := ⟨{ safe := [] }, .slice none 0 0, .slice none 0 0⟩
abbrev dkB (w : World) (d : DV) : World := (dkW w d).alloc (.cells (dkC zeroDV) 31)
theorem dk_boxB (w : World) (d : DV) {x : World} (h : Below (dkB w d).heap.size (dkB w d) x) : x.heap[w.heap.size]? = some (.cells (dkC d) 31 (0, 0)) ∧ x.heap[w.heap.size + 1]? = some (.cells (dkC zeroDV) 31 (0, 0)) ∧ Below (dkW w d).heap.size (dkW w d) x ∧ Below w.heap.size w x := by
  have h2 := below_alloc (dkW w d) (.cells (dkC zeroDV) 31)
  have s1 : (dkW w d).heap.size = w.heap.size + 1 := by simp
  have h3 : Below (dkW w d).heap.size (dkW w d) x := h2.trans (h.mono h2.size)
  refine ⟨(dk_box w d h3).1, ?_, h3, (dk_box w d h3).2⟩
  rw [← s1]
  exact (h.block (dkW w d).heap.size (by simp)).trans (alloc_new (dkW w d) _)
abbrev set5 (w : World) (b : Nat) (v0 v1 v2 v3 v4 : Value) : World := ((((w.setCell ⟨b, 0, none⟩ v0).setCell ⟨b, 1, none⟩ v1).setCell ⟨b, 2, none⟩ v2).setCell ⟨b, 3, none⟩ v3).setCell ⟨b, 4, none⟩ v4
theorem set5_other (w : World) (A : Nat) (v0 v1 v2 v3 v4 : Value) : ∀ k, k ≠ A → (set5 w A v0 v1 v2 v3 v4).heap[k]? = w.heap[k]? := fun k hk => by
  unfold set5
  rw [Below.heap_setCell _ _ _ _ hk, Below.heap_setCell _ _ _ _ hk, Below.heap_setCell _ _ _ _ hk, Below.heap_setCell _ _ _ _ hk, Below.heap_setCell _ _ _ _ hk]
theorem below_set5 {w X : World} {b : Nat} (hb : w.heap.size ≤ b) (h : Below w.heap.size w X) (v0 v1 v2 v3 v4 : Value) : Below w.heap.size w (set5 X b v0 v1 v2 v3 v4) :=
  ((((h.setCell (p := ⟨b, 0, none⟩) hb _).setCell (p := ⟨b, 1, none⟩) hb _).setCell (p := ⟨b, 2, none⟩) hb _).setCell (p := ⟨b, 3, none⟩) hb _).setCell (p := ⟨b, 4, none⟩) hb _
def NoStr (w : World) (A : Nat) : Prop := ∀ j s, w.cell? ⟨A, j, none⟩ ≠ some (.string s)
theorem IsW.but {w W : World} {v : Value} {l : List Bs} {A : Nat} (h : IsW w v l) (hn : NoStr w A) (hk : ∀ k, k ≠ A → W.heap[k]? = w.heap[k]?) : IsW W v l := by
  rcases h with h | ⟨b, o, cap, rfl, hc⟩
  · exact .inl h
  · refine .inr ⟨b, o, cap, rfl, fun j hj => ?_⟩
    have hb : b ≠ A := fun e => by subst e; exact hn _ _ (hc j hj)
    exact (World.cell?_of_block (a := ⟨b, o + j, none⟩) (hk b hb)).trans (hc j hj)
theorem IsP.but {w W : World} {v : Value} {l : List (Nat × Bs)} {A : Nat} (h : IsP w v l) (hn : NoStr w A) (hk : ∀ k, k ≠ A → W.heap[k]? = w.heap[k]?) : IsP W v l := by
  rcases h with h | ⟨b, o, cap, rfl, hc⟩
  · exact .inl h
  · refine .inr ⟨b, o, cap, rfl, fun j hj => ?_⟩
    have hb : b ≠ A := fun e => by subst e; exact hn _ _ (hc j hj).2
    exact ⟨(World.cell?_of_block (a := ⟨b, o + j * 2, none⟩) (hk b hb)).trans (hc j hj).1, (World.cell?_of_block (a := ⟨b, o + j * 2 + 1, none⟩) (hk b hb)).trans (hc j hj).2⟩
theorem IsD.but {w W : World} {d : DV} {A : Nat} (h : IsD w d) (hn : NoStr w A) (hk : ∀ k, k ≠ A → W.heap[k]? = w.heap[k]?) : IsD W d := ⟨h.s.but hn hk, h.l.but hn hk⟩
theorem noStr_dk {w W : World} {A : Nat} {d : DV} (hI : IsD W d) (h : w.heap[A]? = some (.cells (dkC d) 31 (0, 0))) : NoStr w A := by
  obtain ⟨a0, d0, e0⟩ := hI.s.form
  obtain ⟨a1, d1, e1⟩ := hI.l.form
  intro j s e
  simp only [World.cell?, h] at e
  match j with
  | 0 => simp [dkC, e0] at e
  | 1 => simp [dkC, e1] at e
  | 2 => simp [dkC] at e
  | 3 => simp [dkC] at e
  | 4 => simp [dkC] at e
  | j + 5 => simp [dkC] at e
theorem isD_zero (w : World) : IsD w zeroDV := ⟨.inl ⟨rfl, _, _, rfl⟩, .inl ⟨rfl, _, _, rfl⟩⟩
set_option maxHeartbeats 4000000 in
theorem rcrash_any (d : DV) (kv : Value) (keep : List Bool) (w : World) (hI : IsD w d) (hF : IsF w kv keep) (hok : OkD d.m) (h1 : d.m.safe.length ≤ 100000) (h2 : d.m.l.length ≤ 100000) (h3 : keep.length ≤ 100000) :
    Calls Try.prog 21 #[dkA d, kv] w fun e w' => ∃ v, e = .returned (dkA ⟨crashD d.m keep, v, .slice none 0 0⟩) ∧ IsD w' ⟨crashD d.m keep, v, .slice none 0 0⟩ ∧ Below w.heap.size w w' := by
  have hb0 := (dk_boxB w d (Below.refl _ (dkB w d))).2.2.2
  obtain ⟨g, cap, w1, hr, ho, hb1, hg⟩ := copy_texts (dkB w d) d.sv d.m.safe (hI.s.below hb0) (by omega)
  have s1 : (dkB w d).heap.size = w.heap.size + 2 := by simp
  rw [s1] at hr
  have HBX := hide (fun x (b : Below (dkB w d).heap.size (dkB w d) x) => dk_boxB w d b)
  have HP : Hid (∀ x, Below w.heap.size w x → IsP x d.lv d.m.l) := hide (fun x b => hI.l.below b)
  have HFK : Hid (∀ x, Below w.heap.size w x → IsF x kv keep) := hide (fun x b => hF.below b)
  have HO : Hid (w1.ownsRow (dkB w d).heap.size 9 1 (.slice (some ⟨g, 0, none⟩) d.m.safe.length cap) d.m.safe.length (textsV (crashL d.m.safe (d.m.l.take 0) keep))) := hide (by
    rw [List.take_zero]
    cases keep <;> exact ho)
  have HB := hide hb1
  have hat := hok.at_
  have HFN : Hid (∀ wr, wr.ownsRow (dkB w d).heap.size 9 1 (.slice (some ⟨g, 0, none⟩) d.m.safe.length cap) d.m.safe.length (textsV (crashL d.m.safe d.m.l keep)) → Below (dkB w d).heap.size (dkB w d) wr → ∀ v0 v1 v2 v3 v4, ∃ v, Ending.returned (.agg #[.slice (some ⟨g, 0, none⟩) d.m.safe.length cap, .slice none 0 0, .int .i64 0, .bool false, .bool false]) = .returned (dkA ⟨crashD d.m keep, v, .slice none 0 0⟩) ∧ IsD (set5 wr (w.heap.size + 1) v0 v1 v2 v3 v4) ⟨crashD d.m keep, v, .slice none 0 0⟩ ∧ Below w.heap.size w (set5 wr (w.heap.size + 1) v0 v1 v2 v3 v4)) := hide (fun wr ho hb v0 v1 v2 v3 v4 => by
    obtain ⟨k0, k1, k2, k3⟩ := dk_boxB w d hb
    refine ⟨.slice (some ⟨g, 0, none⟩) d.m.safe.length cap, rfl, ⟨?_, .inl ⟨rfl, _, _, rfl⟩⟩, below_set5 (by omega) k3 _ _ _ _ _⟩
    exact (owns_isW ho).1.but (noStr_dk (isD_zero w) k1) (set5_other wr _ v0 v1 v2 v3 v4))
  obtain ⟨⟨safe, l, left, fuse, off⟩, sv, lv⟩ := d
  have gs : IsW w sv safe := hI.s
  have gl : IsP w lv l := hI.l
  obtain ⟨sa, sc, rfl⟩ := gs.form
  obtain ⟨la, lc, rfl⟩ := gl.form
  obtain ⟨ka, kc, rfl⟩ := hF.form
  simp only [] at *
  clear gs gl hI hok ho hb1 hb0 s1 hF
  obtain ⟨k0, _⟩ := HBX.out _ (Below.refl _ _)
  obtain ⟨x0, x1, x2, x3, x4, _⟩ := dk_cells k0
  have x0a : ((dkB w ⟨⟨safe, l, left, fuse, off⟩, .slice sa safe.length sc, .slice la l.length lc⟩).alloc (.cells #[] 9)).cell? ⟨w.heap.size, 0, none⟩ = some (.slice sa safe.length sc) := ((below_alloc _ _).cell (cell_lt x0)).trans x0
  simp only [dkB, dkW, dkC, zeroDV] at x0a
  clear k0 x0 x1 x2 x3 x4
  go_enter Try.func21, Try.ntmps21
  go_wp2_with (at_builtin; refine Lib.wpList_append_run _ rfl (.tmp 7) (.tmp 9) _ _ rfl _ _ rfl rfl _ _ hr ?_)
  clear x0a hr
  go_loopw [6] (fun vi wr => ∃ i : Nat, vi = .int .i64 (i : Int) ∧ i ≤ l.length ∧ Hid (wr.ownsRow (dkB w ⟨⟨safe, l, left, fuse, off⟩, .slice sa safe.length sc, .slice la l.length lc⟩).heap.size 9 1 (.slice (some ⟨g, 0, none⟩) safe.length cap) safe.length (textsV (crashL safe (l.take i) keep))) ∧ Hid (Below (dkB w ⟨⟨safe, l, left, fuse, off⟩, .slice sa safe.length sc, .slice la l.length lc⟩).heap.size (dkB w ⟨⟨safe, l, left, fuse, off⟩, .slice sa safe.length sc, .slice la l.length lc⟩) wr)) (fun vi _ => l.length - (intOf vi).toNat)
  case atStart => exact ⟨0, rfl, Nat.zero_le _, HO, HB⟩
  case round =>
    clear HO HB
    obtain ⟨i, rfl, hi, HO, HB⟩ := hrel
    obtain ⟨k0, k1, _, kb⟩ := HBX.out _ HB.out
    obtain ⟨x0, x1, x2, x3, x4, _⟩ := dk_cells k0
    by_cases hlt : i < l.length
    · have hlt2 : (i : Int) < l.length := by omega
      have htk := take_crash l keep safe i hlt
      by_cases hkp : ∃ h : i < keep.length, keep[i] = true
      · obtain ⟨hik, hkt⟩ := hkp
        have hik2 : (i : Int) < keep.length := by omega
        rw [getD_lt keep i hik, hkt, if_pos rfl] at htk
        rcases HFK.out _ kb with ⟨h0, _⟩ | ⟨fb, fo, fc, ef, hcf⟩
        · rw [h0] at hik; simp at hik
        injection ef with ef _ efc
        subst ef efc
        have hkc := hcf i hik
        rw [hkt] at hkc
        rcases HP.out _ kb with ⟨h0, _⟩ | ⟨b, o, c, e, hc⟩
        · rw [h0] at hlt; simp at hlt
        injection e with e _ ec
        subst e ec
        obtain ⟨p0, p1⟩ := hc i hlt
        have hai := hat l[i] (List.getElem_mem hlt)
        have hai2 : ((l[i].1 : Nat) : Int) < safe.length := by omega
        have hlenx : (textsV (crashL safe (l.take i) keep)).length = safe.length := by rw [textsV_len, crashL_len]
        have hod : wr.drew.ownsRow (dkB w ⟨⟨safe, l, left, fuse, off⟩, .slice sa safe.length sc, .slice (some ⟨b, o, none⟩) l.length lc⟩).heap.size 9 1 (.slice (some ⟨g, 0, none⟩) safe.length cap) safe.length (textsV (crashL safe (l.take i) keep)) := HO.out
        have q0 : wr.drew.cell? ⟨g, l[i].1, none⟩ = (textsV (crashL safe (l.take i) keep))[l[i].1]? := hod.cellAt l[i].1 (by omega)
        obtain ⟨old, hold⟩ : ∃ old, wr.drew.cell? ⟨g, l[i].1, none⟩ = some old := ⟨_, q0.trans (List.getElem?_eq_getElem (by omega))⟩
        have q1 := hod.frozenAt l[i].1
        have hst := (hod.stored l[i].1 (.string ⟨l[i].2.toArray⟩)).1
        rw [← textsV_set, ← htk] at hst
        have HST := hide hst
        have hBg : (dkB w ⟨⟨safe, l, left, fuse, off⟩, .slice sa safe.length sc, .slice (some ⟨b, o, none⟩) l.length lc⟩).heap.size ≤ g := hg
        have HB2 := hide (HB.out.drew.setCell (p := ⟨g, l[i].1, none⟩) hBg (.string ⟨l[i].2.toArray⟩))
        have x1d : wr.drew.cell? ⟨w.heap.size, 1, none⟩ = some (.slice (some ⟨b, o, none⟩) l.length lc) := x1
        have p0d : wr.drew.cell? ⟨b, o + i * 2, none⟩ = some (.int .i64 (l[i].1 : Int)) := p0
        have p1d : wr.drew.cell? ⟨b, o + i * 2 + 1, none⟩ = some (.string ⟨l[i].2.toArray⟩) := p1
        clear hst hc hcf k0 k1 kb q0 hlenx hai hod x0 x2 x3 x4 p0 p1 htk hkt HFN
        generalize (⟨l[i].2.toArray⟩ : ByteArray) = X at *
        generalize l[i].1 = at_ at *
        go_wp2
        go_region
        all_goals go_wp2
        all_goals go_roundw
        all_goals first | exact ⟨i + 1, by go_num, by omega, HST, HB2⟩ | (simp [intOf]; omega)
      · have hgd : keep.getD i false = false := by
          by_cases hik : i < keep.length
          · rw [getD_lt keep i hik]
            cases hkk : keep[i]
            · rfl
            · exact absurd ⟨hik, hkk⟩ hkp
          · exact getD_ge keep i hik
        rw [hgd] at htk
        have HO2 : Hid (wr.ownsRow (dkB w ⟨⟨safe, l, left, fuse, off⟩, .slice sa safe.length sc, .slice la l.length lc⟩).heap.size 9 1 (.slice (some ⟨g, 0, none⟩) safe.length cap) safe.length (textsV (crashL safe (l.take (i + 1)) keep))) := hide (by rw [htk]; exact HO.out)
        by_cases hik : i < keep.length
        · have hik2 : (i : Int) < keep.length := by omega
          rw [getD_lt keep i hik] at hgd
          rcases HFK.out _ kb with ⟨h0, _⟩ | ⟨fb, fo, fc, ef, hcf⟩
          · rw [h0] at hik; simp at hik
          injection ef with ef _ efc
          subst ef efc
          have hkc := hcf i hik
          rw [hgd] at hkc
          clear hcf k0 k1 kb htk hgd hkp HFN
          go_wp2
          go_roundw
          case rel => exact ⟨i + 1, by go_num, by omega, HO2, HB⟩
          case measure => simp [intOf]; omega
        · have hik2 : ¬ (i : Int) < keep.length := by omega
          clear k0 k1 kb htk hgd hkp HFN
          go_wp2
          go_roundw
          case rel => exact ⟨i + 1, by go_num, by omega, HO2, HB⟩
          case measure => simp [intOf]; omega
    · have hlt2 : ¬ (i : Int) < l.length := by omega
      obtain rfl : i = l.length := by omega
      have ho := HO.out
      rw [List.take_length] at ho
      have HF := hide (HFN.out wr ho HB.out)
      obtain ⟨y0, y1, y2, y3, y4, f0, f1, f2, f3, f4⟩ := dk_cells k1
      simp only [zeroDV] at y0 y1 y2 y3 y4
      clear ho kb k0 k1 HFN
      go_wp2
      refine bodyPost_ret (v := .agg #[.slice (some ⟨g, 0, none⟩) safe.length cap, .slice none 0 0, .int .i64 0, .bool false, .bool false]) ?_ rfl (HF.out _ _ _ _ _)
      simp [results, Try.results21, go_sem, y0, y1, y2, y3, y4]
end Go.Proofs.Ythpepkfodcgbcaa
/- What the document's Flush answers. -/
set_option linter.unusedVariables false
set_option linter.unusedSimpArgs false
set_option maxRecDepth 4000
namespace Go.Proofs.Ythpepkfodcgbcaa
open Go.RowKit

theorem setCell_box {w : World} {A : Nat} {cs : Array Value} {T : TypeId} {f : Nat × Nat} (h : w.heap[A]? = some (.cells cs T f)) (i : Nat) (v : Value) : (w.setCell ⟨A, i, none⟩ v).heap[A]? = some (.cells (cs.setIfInBounds i v) T f) := by
  simp [World.setCell, Array.getElem?_modify, h]
theorem set5_dk {w : World} {A : Nat} {d e : DV} (h : w.heap[A]? = some (.cells (dkC d) 31 (0, 0))) : (set5 w A e.sv e.lv (.int .i64 e.m.left) (.bool e.m.fuse) (.bool e.m.off)).heap[A]? = some (.cells (dkC e) 31 (0, 0)) := by
  unfold set5
  rw [setCell_box (setCell_box (setCell_box (setCell_box (setCell_box h 0 e.sv) 1 e.lv) 2 (.int .i64 e.m.left)) 3 (.bool e.m.fuse)) 4 (.bool e.m.off)]
  rfl
theorem set5_size (X : World) (b : Nat) (v0 v1 v2 v3 v4 : Value) : (set5 X b v0 v1 v2 v3 v4).heap.size = X.heap.size := by simp [set5, World.setCell]
def DiskR (w : World) (R : DM × Int) (e : Ending) (w' : World) : Prop := ∃ d' : DV, e = .returned (.tuple #[dkA d', .int .i64 R.2]) ∧ d'.m = R.1 ∧ IsD w' d' ∧ Below w.heap.size w w'
/-- The two boxes of a function that answers a disk: its own, and the answer's. -/
structure TwoB (w : World) (d : DV) (x : World) : Prop where
  a : x.heap[w.heap.size]? = some (.cells (dkC d) 31 (0, 0))
  b : x.heap[w.heap.size + 1]? = some (.cells (dkC zeroDV) 31 (0, 0))
  i : IsD x d
  l : Below w.heap.size w x
  s : w.heap.size + 2 ≤ x.heap.size
theorem two_start {w x : World} {d : DV} (hI : IsD w d) (h : Below (dkB w d).heap.size (dkB w d) x) : TwoB w d x := by
  obtain ⟨k0, k1, k2, k3⟩ := dk_boxB w d h
  exact ⟨k0, k1, hI.below k3, k3, by have := h.size; simp at this; exact this⟩
theorem TwoB.below {w x W : World} {d : DV} (h : TwoB w d x) (hb : Below x.heap.size x W) : TwoB w d W := ⟨(hb.block _ (by have := h.s; omega)).trans h.a, (hb.block _ (by have := h.s; omega)).trans h.b, h.i.below hb, h.l.trans (hb.mono h.l.size), Nat.le_trans h.s hb.size⟩
/-- The own box is written over. -/
theorem TwoB.put {w x : World} {d e : DV} (h : TwoB w d x) (hI : IsD x e) : TwoB w e (set5 x w.heap.size e.sv e.lv (.int .i64 e.m.left) (.bool e.m.fuse) (.bool e.m.off)) := by
  have o := set5_other x w.heap.size e.sv e.lv (.int .i64 e.m.left) (.bool e.m.fuse) (.bool e.m.off)
  refine ⟨set5_dk h.a, (o _ (by omega)).trans h.b, hI.but (noStr_dk h.i h.a) o, below_set5 (Nat.le_refl _) h.l _ _ _ _ _, ?_⟩
  rw [set5_size]
  exact h.s
theorem TwoB.done {w x : World} {d : DV} (h : TwoB w d x) (R : DM × Int) (hR : d.m = R.1) (v0 v1 v2 v3 v4 : Value) : DiskR w R (.returned (.tuple #[dkA d, .int .i64 R.2])) (set5 x (w.heap.size + 1) v0 v1 v2 v3 v4) :=
  ⟨d, rfl, hR, h.i.but (noStr_dk (isD_zero w) h.b) (set5_other x _ v0 v1 v2 v3 v4), below_set5 (by omega) h.l _ _ _ _ _⟩
/-- Two cells of the own box are written over. -/
theorem TwoB.cells {w x : World} {d : DV} (h : TwoB w d x) (v : Value) (s : List Bs) (hs : IsW x v s) : TwoB w ⟨{ d.m with safe := s, l := [] }, v, .slice none 0 0⟩ ((x.setCell ⟨w.heap.size, 0, none⟩ v).setCell ⟨w.heap.size, 1, none⟩ (.slice none 0 0)) := by
  have o : ∀ k, k ≠ w.heap.size → ((x.setCell ⟨w.heap.size, 0, none⟩ v).setCell ⟨w.heap.size, 1, none⟩ (.slice none 0 0)).heap[k]? = x.heap[k]? := fun k hk => by rw [Below.heap_setCell _ _ _ _ hk, Below.heap_setCell _ _ _ _ hk]
  refine ⟨?_, (o _ (by omega)).trans h.b, ⟨hs.but (noStr_dk h.i h.a) o, .inl ⟨rfl, _, _, rfl⟩⟩, (h.l.setCell (p := ⟨w.heap.size, 0, none⟩) (Nat.le_refl _) _).setCell (p := ⟨w.heap.size, 1, none⟩) (Nat.le_refl _) _, ?_⟩
  · rw [setCell_box (setCell_box h.a 0 v) 1 (.slice none 0 0)]
    rfl
  · have := h.s
    simp [World.setCell]
    omega
theorem spend_ok {d : DM} (h : OkD d) : OkD (spendD d).1 := by
  obtain ⟨e1, e2⟩ := spend_lists d
  exact ⟨by rw [e1, e2]; exact h.at_, by rw [e1]; exact h.safe, by rw [e2]; exact h.len, by rw [e1]; exact h.four⟩
set_option maxHeartbeats 4000000 in
theorem rflush_any (d : DV) (w : World) (hI : IsD w d) (hok : OkD d.m) (h1 : d.m.safe.length ≤ 100000) (h2 : d.m.l.length ≤ 100000) (hl : -9223372036854775808 < d.m.left ∧ d.m.left ≤ 9223372036854775807) :
    Calls Try.prog 52 #[dkA d] w fun e w' => DiskR w (flushD d.m) e w' := by
  obtain ⟨e1, e2⟩ := spend_lists d.m
  have hbw := (dk_boxB w d (Below.refl _ (dkB w d))).2.2.2
  have HS : Hid (Calls Try.prog 57 #[dkA d] (dkB w d) fun e w' => e = .returned (.tuple #[.agg #[d.sv, d.lv, .int .i64 (spendD d.m).1.left, .bool (spendD d.m).1.fuse, .bool (spendD d.m).1.off], .bool (spendD d.m).2]) ∧ Below (dkB w d).heap.size (dkB w d) w') := hide (rspend_any d (dkB w d) (hI.below hbw) hl)
  have HT := hide (fun x (b : Below (dkB w d).heap.size (dkB w d) x) => two_start (x := x) hI b)
  have HI1 : Hid (∀ x, IsD x d → IsD x ⟨(spendD d.m).1, d.sv, d.lv⟩) := hide (fun x h => ⟨by show IsW x d.sv (spendD d.m).1.safe; rw [e1]; exact h.s, by show IsP x d.lv (spendD d.m).1.l; rw [e2]; exact h.l⟩)
  have HNW : Hid (∀ x, IsD x ⟨(spendD d.m).1, d.sv, d.lv⟩ → Calls Try.prog 49 #[.agg #[d.sv, d.lv, .int .i64 (spendD d.m).1.left, .bool (spendD d.m).1.fuse, .bool (spendD d.m).1.off]] x fun e w' => ∃ a c, e = .returned (.slice a (nowD (spendD d.m).1).length c) ∧ IsW w' (.slice a (nowD (spendD d.m).1).length c) (nowD (spendD d.m).1) ∧ Below x.heap.size x w') := hide (fun x h => (rnow_any ⟨(spendD d.m).1, d.sv, d.lv⟩ x h (spend_ok hok) (by show (spendD d.m).1.safe.length ≤ _; rw [e1]; exact h1) (by show (spendD d.m).1.l.length ≤ _; rw [e2]; exact h2)).mono fun e w' hh => by
    obtain ⟨v, rfl, ho, hb⟩ := hh
    obtain ⟨a, c, rfl⟩ := owns_formG ho
    exact ⟨a, c, rfl, (owns_isW ho).1, hb⟩)
  have hfl : flushD d.m = if (spendD d.m).2 then ({ (spendD d.m).1 with safe := nowD (spendD d.m).1, l := [] }, 0) else ((spendD d.m).1, 9) := rfl
  rw [hfl]
  clear hfl hok e1 e2 hl hbw
  generalize hsd : (spendD d.m).1 = m1 at *
  generalize (spendD d.m).2 = ok at *
  clear hsd
  generalize nowD m1 = NW at *
  obtain ⟨sa, sc, es⟩ := hI.s.form
  obtain ⟨la, lc, el⟩ := hI.l.form
  obtain ⟨m, sv, lv⟩ := d
  simp only [] at es el HS HT HI1 HNW
  subst es el
  generalize m.safe.length = k1 at *
  generalize m.l.length = k2 at *
  obtain ⟨safe1, l1, left1, fuse1, off1⟩ := m1
  simp only [] at *
  clear hI h1 h2
  cases ok
  · rw [if_neg (by simp)]
    go_enter Try.func52, Try.ntmps52
    go_wp2_with fail
    refine HS.out.mono ?_
    rintro e w1 ⟨rfl, b1⟩
    have t1 := HT.out w1 b1
    have t2 := t1.put (HI1.out _ t1.i)
    obtain ⟨x0, x1, x2, x3, x4, f0, f1, f2, f3, f4⟩ := dk_cells t1.a
    obtain ⟨y0, y1, y2, y3, y4, g0, g1, g2, g3, g4⟩ := dk_cells t1.b
    simp only [zeroDV] at x0 x1 x2 x3 x4 y0 y1 y2 y3 y4
    have ZZ := hide (t2.done (⟨safe1, l1, left1, fuse1, off1⟩, 9) rfl)
    simp only [] at ZZ
    clear t1 t2 HT HI1 HNW HS b1
    go_wp2
    refine bodyPost_ret (v := .tuple #[.agg #[.slice sa k1 sc, .slice la k2 lc, .int .i64 left1, .bool fuse1, .bool off1], .int .i64 9]) ?_ rfl (ZZ.out _ _ _ _ _)
    simp [results, Try.results52, go_sem, y0, y1, y2, y3, y4]
  · rw [if_pos rfl]
    go_enter Try.func52, Try.ntmps52
    go_wp2_with fail
    refine HS.out.mono ?_
    rintro e w1 ⟨rfl, b1⟩
    have t1 := HT.out w1 b1
    have t2 := t1.put (HI1.out _ t1.i)
    obtain ⟨x0, x1, x2, x3, x4, f0, f1, f2, f3, f4⟩ := dk_cells t1.a
    simp only [] at x0 x1 x2 x3 x4
    have HN2 := hide (HNW.out _ t2.i)
    have T2 := hide t2
    simp only [] at HN2 T2
    clear t1 t2 HT HI1 HNW HS b1
    go_wp2_with fail
    refine HN2.out.mono ?_
    rintro e w3 ⟨va, vc, rfl, hW3, b3⟩
    have t3 := T2.out.below b3
    have t4 := t3.cells _ _ hW3
    obtain ⟨x0, x1, x2, x3, x4, f0, f1, f2, f3, f4⟩ := dk_cells t3.a
    obtain ⟨y0, y1, y2, y3, y4, g0, g1, g2, g3, g4⟩ := dk_cells t3.b
    simp only [zeroDV] at x0 x1 x2 x3 x4 y0 y1 y2 y3 y4
    have ZZ := hide (t4.done (⟨NW, [], left1, fuse1, off1⟩, 0) rfl)
    simp only [] at ZZ
    clear t3 t4 T2 b3 HN2 hW3
    generalize NW.length = nwl at *
    go_wp2
    refine bodyPost_ret (v := .tuple #[.agg #[.slice va nwl vc, .slice none 0 0, .int .i64 left1, .bool fuse1, .bool off1], .int .i64 0]) ?_ rfl (ZZ.out _ _ _ _ _)
    simp [results, Try.results52, go_sem, y0, y1, y2, y3, y4]
end Go.Proofs.Ythpepkfodcgbcaa
