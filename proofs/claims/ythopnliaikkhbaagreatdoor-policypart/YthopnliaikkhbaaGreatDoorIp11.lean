/- A policy lies there: its rules, its lists of names. -/
import Derived.Test.YthopnliaikkhbaaGreatDoorIw10
import Derived.Test.YthopnliaikkhbaaGreatDoorPm11
set_option linter.unusedVariables false
set_option linter.unusedSimpArgs false
namespace Go.Proofs.YthopnliaikkhbaaGreatDoor
open Go.RowKit

/-- A rule, and where its attributes lie. -/
structure RV where
  nm : ByteArray
  at_ : List Bs
  av : Value
def RV.ru (r : RV) : RU := ⟨r.nm.data.toList, r.at_⟩
/-- A list of rules lies there. -/
def IsR (w : World) (v : Value) (l : List RV) : Prop := ((l = [] ∧ ∃ a c, v = .slice a 0 c) ∨ ∃ b o cap, v = .slice (some ⟨b, o, none⟩) l.length cap ∧ ∀ j (hj : j < l.length), w.cell? ⟨b, o + j * 2, none⟩ = some (.string l[j].nm) ∧ w.cell? ⟨b, o + j * 2 + 1, none⟩ = some l[j].av) ∧ ∀ r ∈ l, IsW w r.av r.at_
theorem IsR.below {w W : World} {v : Value} {l : List RV} (h : IsR w v l) (hb : Below w.heap.size w W) : IsR W v l := by
  refine ⟨?_, fun r hr => (h.2 r hr).below hb⟩
  rcases h.1 with h | ⟨b, o, cap, rfl, hc⟩
  · exact .inl h
  · exact .inr ⟨b, o, cap, rfl, fun j hj => ⟨(hb.cell (cell_lt (hc j hj).1)).trans (hc j hj).1, (hb.cell (cell_lt (hc j hj).2)).trans (hc j hj).2⟩⟩
theorem IsR.form {w : World} {v : Value} {l : List RV} (h : IsR w v l) : ∃ a c, v = .slice a l.length c := by
  rcases h.1 with ⟨rfl, a, c, rfl⟩ | ⟨b, o, cap, rfl, _⟩
  · exact ⟨_, _, rfl⟩
  · exact ⟨_, _, rfl⟩
theorem IsW.form {w : World} {v : Value} {l : List (List UInt8)} (h : IsW w v l) : ∃ a c, v = .slice a l.length c := by
  rcases h with ⟨rfl, a, c, rfl⟩ | ⟨b, o, cap, rfl, _⟩
  · exact ⟨a, c, rfl⟩
  · exact ⟨_, _, rfl⟩
/-- A policy as its five values. -/
structure PV where
  rs : List RV
  li : List Bs
  sc : List Bs
  dr : List Bs
  de : Int
  rv : Value
  lv : Value
  sv : Value
  dv : Value
def PV.po (p : PV) : PO := ⟨p.rs.map RV.ru, p.li, p.sc, p.dr, p.de⟩
abbrev poC (p : PV) : Array Value := #[p.rv, p.lv, p.sv, p.dv, .int .i64 p.de]
abbrev poA (p : PV) : Value := .agg (poC p)
structure IsPo (w : World) (p : PV) : Prop where
  r : IsR w p.rv p.rs
  l : IsW w p.lv p.li
  s : IsW w p.sv p.sc
  d : IsW w p.dv p.dr
theorem IsPo.below {w W : World} {p : PV} (h : IsPo w p) (hb : Below w.heap.size w W) : IsPo W p := ⟨h.r.below hb, h.l.below hb, h.s.below hb, h.d.below hb⟩
/-- The world behind a policy's box. -/
abbrev poW (w : World) (p : PV) : World := w.alloc (.cells (poC p) 26)
theorem po_box (w : World) (p : PV) {x : World} (h : Below (poW w p).heap.size (poW w p) x) : x.cell? ⟨w.heap.size, 0, none⟩ = some p.rv ∧ x.cell? ⟨w.heap.size, 1, none⟩ = some p.lv ∧ x.cell? ⟨w.heap.size, 2, none⟩ = some p.sv ∧ x.cell? ⟨w.heap.size, 3, none⟩ = some p.dv ∧ x.cell? ⟨w.heap.size, 4, none⟩ = some (.int .i64 p.de) ∧ Below w.heap.size w x := by
  have hb := below_alloc w (.cells (poC p) 26)
  have hc : ∀ j, j < 5 → x.cell? ⟨w.heap.size, j, none⟩ = (poW w p).cell? ⟨w.heap.size, j, none⟩ := fun j hj => h.cell (by show w.heap.size < (poW w p).heap.size; simp)
  refine ⟨?_, ?_, ?_, ?_, ?_, hb.trans (h.mono hb.size)⟩
  · rw [hc 0 (by omega)]; simp [go_sem]
  · rw [hc 1 (by omega)]; simp [go_sem]
  · rw [hc 2 (by omega)]; simp [go_sem]
  · rw [hc 3 (by omega)]; simp [go_sem]
  · rw [hc 4 (by omega)]; simp [go_sem]
/-- All lists of a policy, and its names, are small enough to be gone through. -/
structure SmallP (p : PV) : Prop where
  r : p.rs.length ≤ 1000
  l : p.li.length ≤ 1000
  s : p.sc.length ≤ 1000
  d : p.dr.length ≤ 1000
  a : ∀ r ∈ p.rs, r.at_.length ≤ 1000 ∧ r.nm.size ≤ 1000000 ∧ ∀ x ∈ r.at_, x.length ≤ 1000000
  ll : ∀ x ∈ p.li, x.length ≤ 1000000
  ls : ∀ x ∈ p.sc, x.length ≤ 1000000
  ld : ∀ x ∈ p.dr, x.length ≤ 1000000
abbrev ruW (w : World) (nm : ByteArray) (av : Value) : World := w.alloc (.cells #[.string nm, av] 53)
theorem ru_box (w : World) (nm : ByteArray) (av : Value) {x : World} (h : Below (ruW w nm av).heap.size (ruW w nm av) x) : x.cell? ⟨w.heap.size, 0, none⟩ = some (.string nm) ∧ x.cell? ⟨w.heap.size, 1, none⟩ = some av ∧ Below w.heap.size w x := by
  have hb := below_alloc w (.cells #[.string nm, av] 53)
  have hc : ∀ j, j < 2 → x.cell? ⟨w.heap.size, j, none⟩ = (ruW w nm av).cell? ⟨w.heap.size, j, none⟩ := fun j hj => h.cell (by show w.heap.size < (ruW w nm av).heap.size; simp)
  refine ⟨?_, ?_, hb.trans (h.mono hb.size)⟩
  · rw [hc 0 (by omega)]; simp [go_sem]
  · rw [hc 1 (by omega)]; simp [go_sem]
theorem IsW.at_ {w : World} {a : Option Addr} {n c : Nat} {l : List Bs} (h : IsW w (.slice a n c) l) (k : Nat) (x : Bs) (hk : l[k]? = some x) : ∃ b o, a = some ⟨b, o, none⟩ ∧ ∀ W, Below w.heap.size w W → W.cell? ⟨b, o + k, none⟩ = some (.string ⟨x.toArray⟩) := by
  obtain ⟨hlt, rfl⟩ := List.getElem?_eq_some_iff.1 hk
  rcases h with ⟨rfl, _⟩ | ⟨b, o, cap, e, hcc⟩
  · simp at hlt
  · injection e with e1
    exact ⟨b, o, e1, fun W hb => (hb.cell (cell_lt (hcc k hlt))).trans (hcc k hlt)⟩
theorem IsR.at_ {w : World} {a : Option Addr} {n c : Nat} {l : List RV} (h : IsR w (.slice a n c) l) (k : Nat) (r : RV) (hk : l[k]? = some r) : (∃ b o, a = some ⟨b, o, none⟩ ∧ ∀ W, Below w.heap.size w W → W.cell? ⟨b, o + k * 2, none⟩ = some (.string r.nm) ∧ W.cell? ⟨b, o + k * 2 + 1, none⟩ = some r.av) ∧ IsW w r.av r.at_ := by
  obtain ⟨hlt, rfl⟩ := List.getElem?_eq_some_iff.1 hk
  refine ⟨?_, h.2 _ (List.getElem_mem hlt)⟩
  rcases h.1 with ⟨rfl, _⟩ | ⟨b, o, cap, e, hcc⟩
  · simp at hlt
  · injection e with e1
    exact ⟨b, o, e1, fun W hb => ⟨(hb.cell (cell_lt (hcc k hlt).1)).trans (hcc k hlt).1, (hb.cell (cell_lt (hcc k hlt).2)).trans (hcc k hlt).2⟩⟩
/-- What Check is told by: the lists of a policy can be gone through. -/
structure CapP (p : PV) : Prop where
  s : SmallP p
  l : ∀ a n c, p.lv = .slice a n c → n ≤ c
  c : ∀ a n c, p.sv = .slice a n c → n ≤ c
  d : ∀ a n c, p.dv = .slice a n c → n ≤ c
  a : ∀ r ∈ p.rs, ∀ a n c, r.av = .slice a n c → n ≤ c
def nsL (rs : List RV) : List Bs := rs.map fun r => r.nm.data.toList
theorem large_po (p : PV) : largeP p.po = (decide (40 < p.rs.length) || decide (20 < p.li.length) || decide (20 < p.sc.length) || decide (20 < p.dr.length) || p.rs.any fun r => decide (20 < r.at_.length)) := by
  unfold largeP PV.po
  simp only [List.length_map, List.any_map]
  rfl
theorem str_ne (x y : ByteArray) : (x.toList != y.toList) = !(x.data.toList == y.data.toList) := by rw [Lib.toList_data, Lib.toList_data]; rfl
theorem str_eq2 (x y : ByteArray) : (x.toList == y.toList) = (x.data.toList == y.data.toList) := by rw [Lib.toList_data, Lib.toList_data]

end Go.Proofs.YthopnliaikkhbaaGreatDoor
