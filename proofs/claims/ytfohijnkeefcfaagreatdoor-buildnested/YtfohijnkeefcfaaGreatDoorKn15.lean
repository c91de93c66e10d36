import Derived.Test.YtfohijnkeefcfaaGreatDoorKn12
import Derived.Test.YtfohijnkeefcfaaGreatDoorKn13
import Derived.Test.YtfohijnkeefcfaaGreatDoorKn14
import Derived.BigQuiet
import Derived.Deep.QuietTactic
set_option linter.unusedVariables false
set_option linter.unusedSimpArgs false
set_option maxRecDepth 100000
set_option maxHeartbeats 8000000
namespace Go.Proofs.YtfohijnkeefcfaaGreatDoor.S5
open Go.RowKit
def PG (A : Nat -> Prop) (w : World) (pb g : Nat) (R : List RN) : Prop := ∃ cap rs, rs.map (·.rn) = R /\ PV A w pb g cap rs
def PA (A : Nat -> Prop) (w : World) (pb : Nat) (R : List RN) : Prop := ∃ g, PG A w pb g R
def PT (A : Nat -> Prop) (w : World) (pb : Nat) (T : TR) : Prop := PA A w pb (rawOf T)
theorem PG.below {A : Nat -> Prop} {w W : World} {pb g : Nat} {R : List RN} (h : PG A w pb g R) (hb : Below w.heap.size w W) : PG A W pb g R := by
  obtain ⟨cap, rs, h1, h2⟩ := h
  exact ⟨cap, rs, h1, h2.below hb⟩
theorem PA.below {A : Nat -> Prop} {w W : World} {pb : Nat} {R : List RN} (h : PA A w pb R) (hb : Below w.heap.size w W) : PA A W pb R := by
  obtain ⟨g, h⟩ := h
  exact ⟨g, h.below hb⟩
theorem PT.below {A : Nat -> Prop} {w W : World} {pb : Nat} {T : TR} (h : PT A w pb T) (hb : Below w.heap.size w W) : PT A W pb T := PA.below h hb
theorem PG.mono {A B : Nat -> Prop} {w : World} {pb g : Nat} {R : List RN} (h : PG A w pb g R) (hm : ∀ k, A k -> B k) : PG B w pb g R := by
  obtain ⟨cap, rs, h1, h2⟩ := h
  exact ⟨cap, rs, h1, h2.mono hm⟩
theorem PT.mono {A B : Nat -> Prop} {w : World} {pb : Nat} {T : TR} (h : PT A w pb T) (hm : ∀ k, A k -> B k) : PT B w pb T := by
  obtain ⟨g, h⟩ := h
  exact ⟨g, h.mono hm⟩
theorem PG.keep {A : Nat -> Prop} {w W : World} {pb g : Nat} {R : List RN} (h : PG A w pb g R) (hz : w.heap.size <= W.heap.size) (hk : ∀ k, A k -> W.heap[k]? = w.heap[k]?) : PG A W pb g R := by
  obtain ⟨cap, rs, h1, h2⟩ := h
  exact ⟨cap, rs, h1, h2.keep hz fun s k e => hk k (h2.inA s k e)⟩
theorem PT.keep {A : Nat -> Prop} {w W : World} {pb : Nat} {T : TR} (h : PT A w pb T) (hz : w.heap.size <= W.heap.size) (hk : ∀ k, A k -> W.heap[k]? = w.heap[k]?) : PT A W pb T := by
  obtain ⟨g, h⟩ := h
  exact ⟨g, h.keep hz hk⟩
theorem below_drewN (w : World) (n : Nat) : Below w.heap.size w (w.drewN n) := ⟨rfl, rfl, rfl, Nat.le_refl _, fun _ _ => rfl⟩
theorem map_len {rs : List RV} {R : List RN} (h : rs.map (·.rn) = R) : rs.length = R.length := by rw [<- h, List.length_map]
theorem map_get {rs : List RV} {R : List RN} (h : rs.map (·.rn) = R) (i : Nat) (hi : i < rs.length) (hi2 : i < R.length) : rs[i].rn = R[i] := by subst h; simp
theorem len_p {A : Nat -> Prop} {w : World} {pb : Nat} {R : List RN} (h : PA A w pb R) :
    Calls Tryz.prog 54 #[.pointer (some ⟨pb, 0, none⟩)] w fun e w' => e = .returned (.int .i64 (R.length : Int)) /\ Below w.heap.size w w' := by
  obtain ⟨g, cap, rs, hR, hP⟩ := h
  have hl := map_len hR
  have c0 := hP.tree
  rw [hl] at c0
  clear hR hl hP
  go_enter Tryz.func54, Tryz.ntmps54
  go_wp2
  go_ret
  exact ⟨rfl, by first | exact below_drewN _ _ | exact Below.refl _ _⟩
theorem has_p {A : Nat -> Prop} {w : World} {pb : Nat} {R : List RN} (z : Int) (h : PA A w pb R) :
    Calls Tryz.prog 34 #[.pointer (some ⟨pb, 0, none⟩), .int .i64 z] w fun e w' => e = .returned (.bool (decide (0 <= z /\ z < R.length))) /\ Below w.heap.size w w' := by
  obtain ⟨g, cap, rs, hR, hP⟩ := h
  have hl := map_len hR
  have c0 := hP.tree
  rw [hl] at c0
  clear hR hl hP
  by_cases h1 : 0 <= z
  · by_cases h2 : z < R.length
    · rw [decide_eq_true (⟨h1, h2⟩ : 0 <= z /\ z < R.length)]
      go_enter Tryz.func34, Tryz.ntmps34
      go_wp2
      go_ret
      exact ⟨rfl, by first | exact below_drewN _ _ | exact Below.refl _ _⟩
    · rw [decide_eq_false (fun e : 0 <= z /\ z < R.length => h2 e.2)]
      go_enter Tryz.func34, Tryz.ntmps34
      go_wp2
      go_ret
      exact ⟨rfl, by first | exact below_drewN _ _ | exact Below.refl _ _⟩
  · rw [decide_eq_false (fun e : 0 <= z /\ z < R.length => h1 e.1)]
    go_enter Tryz.func34, Tryz.ntmps34
    go_wp2
    go_ret
    exact ⟨rfl, by first | exact below_drewN _ _ | exact Below.refl _ _⟩
def holdsK (k : Int) : Bool := k == 0 || k == 1
theorem holds_p {A : Nat -> Prop} {w : World} {pb g : Nat} {R : List RN} (h : PG A w pb g R) (i : Nat) (hi : i < R.length) :
    Calls Tryz.prog 200 #[.pointer (some ⟨g, i * 7, none⟩)] w fun e w' => e = .returned (.bool (holdsK R[i].nd.kind)) /\ Below w.heap.size w w' := by
  obtain ⟨cap, rs, hR, hP⟩ := h
  have hl := map_len hR
  have c0 : w.cell? ⟨g, i * 7, none⟩ = some (.int .i64 R[i].nd.kind) := by
    have := hP.cellAt i (by omega) 0 (by omega)
    rw [<- map_get hR i (by omega) hi]
    exact this
  clear hR hl hP
  generalize R[i].nd.kind = q at *
  unfold holdsK
  by_cases h0 : q = 0
  · subst h0
    go_enter Tryz.func200, Tryz.ntmps200
    go_wp2
    go_ret
    exact ⟨rfl, by first | exact below_drewN _ _ | exact Below.refl _ _⟩
  · go_enter Tryz.func200, Tryz.ntmps200
    go_wp2
    go_ret
    exact ⟨rfl, by first | exact below_drewN _ _ | exact Below.refl _ _⟩
end Go.Proofs.YtfohijnkeefcfaaGreatDoor.S5
namespace Go.Proofs.YtfohijnkeefcfaaGreatDoor
open Go.RowKit
open S5 (ButA andNew PT IsA cell_lt below_alloc)
structure PB where
  T : S5.TR
  op : List S6.OV
  mr : List S7.MV
  ru : Int
  mo : Int
  nm : ByteArray
  fo : Bool
  sk : Bool
  e : Int
def opC (o : S6.OV) : List Value := [.int .i64 o.id, .int .i64 o.sp, .string o.nm]
def opCells : List S6.OV -> List Value
  | [] => []
  | o :: r => opC o ++ opCells r
theorem opCells_len : ∀ l : List S6.OV, (opCells l).length = l.length * 3
  | [] => rfl
  | o :: r => by
    simp only [opCells, opC, List.length_append, List.length_cons, List.length_nil, opCells_len r]
    omega
theorem opCells_app : ∀ a b : List S6.OV, opCells (a ++ b) = opCells a ++ opCells b
  | [], b => rfl
  | o :: r, b => by simp only [List.cons_append, opCells, opCells_app r b, List.append_assoc]
theorem opCells_get : ∀ (l : List S6.OV) (j : Nat) (hj : j < l.length) (i : Nat) (hi : i < 3), (opCells l)[j * 3 + i]? = (opC l[j])[i]?
  | o :: r, 0, _, i, hi => by
    simp only [opCells, Nat.zero_mul, Nat.zero_add, List.getElem_cons_zero]
    rw [List.getElem?_append_left (by simpa [opC] using hi)]
  | o :: r, j + 1, hj, i, hi => by
    have h := opCells_get r j (by simpa using hj) i hi
    simp only [opCells, List.getElem_cons_succ]
    rw [List.getElem?_append_right (by simp [opC]; omega), show (j + 1) * 3 + i - (opC o).length = j * 3 + i by simp [opC]; omega]
    exact h
theorem opCells_take : ∀ (l : List S6.OV) (k : Nat), k <= l.length -> (opCells l).take (k * 3) = opCells (l.take k)
  | l, 0, _ => by simp [opCells]
  | o :: r, k + 1, h => by
    have := opCells_take r k (by simpa using h)
    simp only [opCells, List.take_succ_cons, opC]
    rw [show (k + 1) * 3 = (k * 3) + 1 + 1 + 1 by omega]
    simp only [List.cons_append, List.nil_append, List.take_succ_cons, this]
def fv (pb : Nat) (ov mv : Value) (s : PB) : List Value := [.pointer (some ⟨pb, 0, none⟩), ov, mv, .int .i64 s.ru, .int .i64 s.mo, .string s.nm, .bool s.fo, .bool s.sk, .int .i64 s.e]
abbrev opV (og n cap : Nat) : Value := .slice (some ⟨og, 0, none⟩) n cap
structure BV (O : Nat -> Prop) (n : Nat) (w : World) (bb pb og cap : Nat) (mv : Value) (A : Nat -> Prop) (s : PB) : Prop where
  cs : ∀ j, j < 9 -> w.cell? ⟨bb, j, none⟩ = (fv pb (opV og s.op.length cap) mv s)[j]?
  fz : ∀ j, w.frozen? ⟨bb, j, none⟩ = false
  tree : PT A w pb s.T
  row : w.ownsRow 0 76 3 (opV og s.op.length cap) s.op.length (opCells s.op)
  mrk : S7.NewM 0 w mv s.mr
  mO : ∀ b o n c, mv = .slice (some ⟨b, o, none⟩) n c -> s.mr ≠ [] -> O b /\ ¬ A b /\ b ≠ bb /\ b ≠ og
  att : ∀ m ∈ s.mr, IsA w m.av m.aa
  attL : ∀ m ∈ s.mr, m.aa ≠ [] -> ∀ k, m.av.ownBlock = some k -> k < n /\ ¬ O k
  nL : n <= w.heap.size
  AO : ∀ k, A k -> O k /\ k < w.heap.size
  bO : O bb
  gO : O og
  bA : ¬ A bb
  gA : ¬ A og
  bg : bb ≠ og
def IsB (O : Nat -> Prop) (n : Nat) (w : World) (bb : Nat) (s : PB) : Prop := ∃ pb og cap mv A, BV O n w bb pb og cap mv A s
theorem isA_keep' {w W : World} {v : Value} {aa : S5.AttrL} (h : IsA w v aa) (hk : aa ≠ [] -> ∀ k, v.ownBlock = some k -> W.heap[k]? = w.heap[k]?) : IsA W v aa := by
  by_cases h0 : aa = []
  · subst h0
    rcases h with h | ⟨b, o, cap, rfl, h2, h3⟩
    · exact .inl h
    · exact .inr ⟨b, o, cap, rfl, h2, fun j hj => absurd hj (by simp)⟩
  · exact S5.isA_keep h (hk h0)
theorem newM_keep {B : Nat} {w W : World} {v : Value} {l : List S7.MV} (h : S7.NewM B w v l) (hk : ∀ b o n c, v = .slice (some ⟨b, o, none⟩) n c -> l ≠ [] -> W.heap[b]? = w.heap[b]?) : S7.NewM B W v l := by
  rcases h with h | ⟨b, o, cap, rfl, h1, h2, h3, h4⟩
  · exact .inl h
  · by_cases h0 : l = []
    · subst h0
      exact .inl ⟨rfl, _, _, rfl⟩
    · have hb := hk b o _ _ rfl h0
      exact .inr ⟨b, o, cap, rfl, h1, h2, fun j hj => ⟨S5.cell_same hb (h3 j hj).1, S5.cell_same hb (h3 j hj).2.1, S5.cell_same hb (h3 j hj).2.2⟩, fun j hj i hi => by rw [World.frozen?_of_block (a := ⟨b, o + j * 3 + i, none⟩) hb]; exact h4 j hj i hi⟩
variable {O : Nat -> Prop} {n : Nat} {w W : World} {bb pb og cap : Nat} {mv : Value} {A : Nat -> Prop} {s : PB}
theorem BV.bL (h : BV O n w bb pb og cap mv A s) : bb < w.heap.size := cell_lt (a := ⟨bb, 0, none⟩) (h.cs 0 (by omega))
theorem BV.gL (h : BV O n w bb pb og cap mv A s) : og < w.heap.size := (h.row.lt og rfl).2
theorem BV.mL (h : BV O n w bb pb og cap mv A s) (b o l c : Nat) (e : mv = .slice (some ⟨b, o, none⟩) l c) (h0 : s.mr ≠ []) : b < w.heap.size := by
  rcases h.mrk with ⟨h1, _⟩ | ⟨b', o', cap', e', h1, h2, h3, h4⟩
  · exact absurd h1 h0
  · rw [e] at e'
    injection e' with e1 e2 e3
    injection e1 with e1
    injection e1 with e1 e4
    subst e1
    exact cell_lt (h3 0 (List.length_pos_iff.2 h0)).1
theorem BV.keep (h : BV O n w bb pb og cap mv A s) (hz : w.heap.size <= W.heap.size) (hk : ∀ k, O k -> k < w.heap.size -> W.heap[k]? = w.heap[k]?) (ha : ∀ m ∈ s.mr, m.aa ≠ [] -> ∀ k, m.av.ownBlock = some k -> W.heap[k]? = w.heap[k]?) : BV O n W bb pb og cap mv A s where
  cs := fun j hj => by
    have h1 := h.cs j hj
    rw [List.getElem?_eq_getElem (show j < (fv pb (opV og s.op.length cap) mv s).length from hj)] at h1 ⊢
    exact S5.cell_same (hk bb h.bO h.bL) h1
  fz := fun j => by rw [World.frozen?_of_block (a := ⟨bb, j, none⟩) (hk bb h.bO h.bL)]; exact h.fz j
  tree := h.tree.keep hz fun k hA => hk k (h.AO k hA).1 (h.AO k hA).2
  row := S5.ownsRow_keep h.row fun k e => by
    obtain rfl : og = k := by simpa [Value.ownBlock] using e
    exact hk og h.gO h.gL
  mrk := newM_keep h.mrk fun b o n c e h0 => hk b (h.mO b o n c e h0).1 (h.mL b o n c e h0)
  mO := h.mO
  att := fun m hm => isA_keep' (h.att m hm) (ha m hm)
  attL := h.attL
  nL := Nat.le_trans h.nL hz
  AO := fun k hA => ⟨(h.AO k hA).1, Nat.lt_of_lt_of_le (h.AO k hA).2 hz⟩
  bO := h.bO
  gO := h.gO
  bA := h.bA
  gA := h.gA
  bg := h.bg
theorem BV.below (h : BV O n w bb pb og cap mv A s) (hb : Below w.heap.size w W) : BV O n W bb pb og cap mv A s :=
  h.keep hb.size (fun k _ hk => hb.block k hk) fun m hm h0 k e => hb.block k (Nat.lt_of_lt_of_le (h.attL m hm h0 k e).1 h.nL)
theorem IsB.below (h : IsB O n w bb s) (hb : Below w.heap.size w W) : IsB O n W bb s := by
  obtain ⟨pb, og, cap, mv, A, h⟩ := h
  exact ⟨pb, og, cap, mv, A, h.below hb⟩
theorem BV.mono {O' : Nat -> Prop} (h : BV O n w bb pb og cap mv A s) (h1 : ∀ k, O k -> O' k) (h2 : ∀ k, k < n -> O' k -> O k) : BV O' n w bb pb og cap mv A s :=
  { h with mO := fun b o n c e h0 => ⟨h1 b (h.mO b o n c e h0).1, (h.mO b o n c e h0).2⟩, attL := fun m hm h0 k e => ⟨(h.attL m hm h0 k e).1, fun ho => (h.attL m hm h0 k e).2 (h2 k (h.attL m hm h0 k e).1 ho)⟩, AO := fun k hA => ⟨h1 k (h.AO k hA).1, (h.AO k hA).2⟩, bO := h1 _ h.bO, gO := h1 _ h.gO }
theorem IsB.mono {O' : Nat -> Prop} (h : IsB O n w bb s) (h1 : ∀ k, O k -> O' k) (h2 : ∀ k, k < n -> O' k -> O k) : IsB O' n w bb s := by
  obtain ⟨pb, og, cap, mv, A, h⟩ := h
  exact ⟨pb, og, cap, mv, A, h.mono h1 h2⟩
theorem IsB.nL (h : IsB O n w bb s) : n <= w.heap.size := by
  obtain ⟨pb, og, cap, mv, A, h⟩ := h
  exact h.nL
def Does (O : Nat -> Prop) (n : Nat) (w : World) (bb : Nat) (w' : World) (s' : PB) : Prop := IsB (andNew O w.heap.size) n w' bb s' /\ ButA O w w' /\ w'.cell? ⟨bb, 0, none⟩ = w.cell? ⟨bb, 0, none⟩
theorem IsB.bL (h : IsB O n w bb s) : bb < w.heap.size := by
  obtain ⟨pb, og, cap, mv, A, h⟩ := h
  exact h.bL
theorem Does.of (h : IsB O n w bb s) (hb : Below w.heap.size w W) : Does O n w bb W s :=
  ⟨(h.below hb).mono (fun k => .inl) (fun k hk ho => ho.resolve_right (by have := h.nL; omega)), ButA.of hb, hb.cell h.bL⟩
theorem Does.trans {w1 w2 : World} {s1 s2 : PB} (h : Does O n w bb w1 s1) (k : Does (andNew O w.heap.size) n w1 bb w2 s2) : Does O n w bb w2 s2 :=
  ⟨k.1.mono (fun j hj => by
    rcases hj with hj | hj
    · exact hj
    · exact .inr (Nat.le_trans h.2.1.size hj)) (fun j _ hj => .inl hj), h.2.1.trans' k.2.1, k.2.2.trans h.2.2⟩
theorem Does.after {w1 w2 : World} {s1 : PB} (h : Does O n w bb w1 s1) (hb : Below w1.heap.size w1 w2) : Does O n w bb w2 s1 :=
  ⟨h.1.below hb, h.2.1.trans (ButA.of (A := fun _ => False) hb) fun _ _ hf => hf.elim, (hb.cell h.1.bL).trans h.2.2⟩
theorem Does.ahead {w0 w1 : World} {s1 : PB} (hn : n <= w0.heap.size) (hb : Below w0.heap.size w0 w) (h : Does O n w bb w1 s1) (hbb : bb < w0.heap.size) : Does O n w0 bb w1 s1 :=
  ⟨h.1.mono (fun j hj => by
    rcases hj with hj | hj
    · exact .inl hj
    · exact .inr (Nat.le_trans hb.size hj)) (fun j hl hj => by
    rcases hj with hj | hj
    · exact .inl hj
    · omega), (ButA.of (A := O) hb).trans h.2.1 fun _ _ hf => hf, h.2.2.trans (hb.cell hbb)⟩
theorem IsB.tight (h : IsB O n w bb s) : IsB (fun k => O k /\ k < w.heap.size) n w bb s := by
  obtain ⟨pb, og, cap, mv, A, h⟩ := h
  exact ⟨pb, og, cap, mv, A, { h with mO := fun b o l c e h0 => ⟨⟨(h.mO b o l c e h0).1, h.mL b o l c e h0⟩, (h.mO b o l c e h0).2⟩, attL := fun m hm h0 k e => ⟨(h.attL m hm h0 k e).1, fun ho => (h.attL m hm h0 k e).2 ho.1⟩, AO := fun k hA => ⟨⟨(h.AO k hA).1, (h.AO k hA).2⟩, (h.AO k hA).2⟩, bO := ⟨h.bO, h.bL⟩, gO := ⟨h.gO, h.gL⟩ }⟩
theorem Does.wide {w1 : World} {s1 : PB} (h : Does (fun k => O k /\ k < w.heap.size) n w bb w1 s1) (hn : n <= w.heap.size) : Does O n w bb w1 s1 :=
  ⟨h.1.mono (fun k hk => by
    rcases hk with hk | hk
    · exact .inl hk.1
    · exact .inr hk) (fun k hl hk => by
    rcases hk with hk | hk
    · exact .inl ⟨hk, by omega⟩
    · exact .inr hk), h.2.1.mono fun k hk => hk.1, h.2.2⟩
theorem Does.kept {w1 : World} {s1 : PB} (h : Does O n w bb w1 s1) {g o : Nat} {v : Value} (hc : w.cell? ⟨g, o, none⟩ = some v) (hg : ¬ O g) : w1.cell? ⟨g, o, none⟩ = some v := S5.cell_same (h.2.1.block g (cell_lt hc) hg) hc
def Tk (O : Nat -> Prop) (n : Nat) (w : World) (v : Value) (aa : S5.AttrL) : Prop := IsA w v aa /\ (aa ≠ [] -> ∀ k, v.ownBlock = some k -> k < n /\ ¬ O k)
theorem Tk.below {v : Value} {aa : S5.AttrL} (h : Tk O n w v aa) (hb : Below w.heap.size w W) : Tk O n W v aa := ⟨h.1.below hb, h.2⟩
theorem Tk.does {v : Value} {aa : S5.AttrL} {w1 : World} {s1 : PB} (h : Tk O n w v aa) (hd : Does O n w bb w1 s1) (hn : n <= w.heap.size) : Tk (andNew O w.heap.size) n w1 v aa :=
  ⟨isA_keep' h.1 fun h0 k e => hd.2.1.block k (Nat.lt_of_lt_of_le (h.2 h0 k e).1 hn) (h.2 h0 k e).2, fun h0 k e => ⟨(h.2 h0 k e).1, fun ho => by
    rcases ho with ho | ho
    · exact (h.2 h0 k e).2 ho
    · have := (h.2 h0 k e).1
      omega⟩⟩
theorem isQ_of {v : Value} {aa : S5.AttrL} (h : IsA w v aa) : S7.IsQ w v aa := by
  rcases h with ⟨rfl, rfl⟩ | ⟨b, o, cap, rfl, h2, h3⟩
  · exact .inl ⟨rfl, _, _, rfl⟩
  · exact .inr ⟨b, o, cap, rfl, h3⟩
theorem BV.okM (h : BV O n w bb pb og cap mv A s) : S7.OkM w s.mr := fun m hm => isQ_of (h.att m hm)
theorem BV.isO (h : BV O n w bb pb og cap mv A s) : S6.IsO w (opV og s.op.length cap) s.op := by
  refine .inr ⟨og, 0, cap, rfl, fun j hj => ?_⟩
  have hc : ∀ i, i < 3 -> w.cell? ⟨og, j * 3 + i, none⟩ = (opC s.op[j])[i]? := fun i hi => by
    rw [h.row.cellAt (j * 3 + i) (by omega)]
    exact opCells_get s.op j hj i hi
  rw [Nat.zero_add]
  exact ⟨hc 0 (by omega), hc 1 (by omega), hc 2 (by omega)⟩
theorem BV.opCell (h : BV O n w bb pb og cap mv A s) (j : Nat) (hj : j < s.op.length) : w.cell? ⟨og, j * 3, none⟩ = some (.int .i64 s.op[j].id) /\ w.cell? ⟨og, j * 3 + 1, none⟩ = some (.int .i64 s.op[j].sp) /\ w.cell? ⟨og, j * 3 + 2, none⟩ = some (.string s.op[j].nm) := by
  have hc : ∀ i, i < 3 -> w.cell? ⟨og, j * 3 + i, none⟩ = (opC s.op[j])[i]? := fun i hi => by
    rw [h.row.cellAt (j * 3 + i) (by omega)]
    exact opCells_get s.op j hj i hi
  exact ⟨hc 0 (by omega), hc 1 (by omega), hc 2 (by omega)⟩
theorem BV.capL (h : BV O n w bb pb og cap mv A s) : s.op.length <= cap := by
  rcases h.row.2 with ⟨h0, _⟩ | ⟨g, c, cur, e, _, _, hc, _⟩
  · cases h0
  · injection e with e1 e2 e3
    subst e3
    exact hc
theorem BV.scal (h : BV O n w bb pb og cap mv A s) (j : Nat) (h3 : 3 <= j) (hj : j < 9) (v : Value) (s' : PB) (hT : s'.T = s.T) (ho : s'.op = s.op) (hm : s'.mr = s.mr) (hv : fv pb (opV og s.op.length cap) mv s' = (fv pb (opV og s.op.length cap) mv s).set j v) : BV O n (w.setCell ⟨bb, j, none⟩ v) bb pb og cap mv A s' := by
  have hz : (w.setCell ⟨bb, j, none⟩ v).heap.size = w.heap.size := by simp [World.setCell]
  have hoth : ∀ k, k ≠ bb -> (w.setCell ⟨bb, j, none⟩ v).heap[k]? = w.heap[k]? := fun k hk => Below.heap_setCell _ _ _ _ hk
  have hsome : (w.cell? ⟨bb, j, none⟩).isSome = true := by
    rw [h.cs j hj]
    rw [List.getElem?_eq_getElem (show j < (fv pb (opV og s.op.length cap) mv s).length from hj)]
    rfl
  have hne : ∀ m ∈ s.mr, m.aa ≠ [] -> ∀ k, m.av.ownBlock = some k -> k ≠ bb := fun m hm h0 k e he => (h.attL m hm h0 k e).2 (he ▸ h.bO)
  refine ⟨fun i hi => ?_, fun i => ?_, ?_, ?_, ?_, ?_, ?_, ?_, by rw [hz]; exact h.nL, ?_, h.bO, h.gO, h.bA, h.gA, h.bg⟩
  · rw [ho, hv]
    by_cases e : i = j
    · subst e
      rw [World.cell?_setCell_same' _ _ _ hsome, List.getElem?_set_self (by exact hi)]
    · rw [World.cell?_setCell_other _ _ _ _ (by intro he; injection he with _ he _; omega), List.getElem?_set_ne (fun e1 => e e1.symm)]
      exact h.cs i hi
  · rw [World.frozen?_setCell]
    exact h.fz i
  · rw [hT]
    exact h.tree.keep (by omega) fun k hA => hoth k fun e => h.bA (e ▸ hA)
  · rw [ho]
    exact S5.ownsRow_keep h.row fun k e => by
      obtain rfl : og = k := by simpa [Value.ownBlock] using e
      exact hoth og h.bg.symm
  · rw [hm]
    exact newM_keep h.mrk fun b o l c e h0 => hoth b (h.mO b o l c e h0).2.2.1
  · rw [hm]
    exact h.mO
  · rw [hm]
    exact fun m hm => isA_keep' (h.att m hm) fun h0 k e => hoth k (hne m hm h0 k e)
  · rw [hm]
    exact h.attL
  · rw [hz]
    exact h.AO
theorem pt_tight {A : Nat -> Prop} {w : World} {pb : Nat} {T : S5.TR} (h : PT A w pb T) : PT (fun k => A k /\ k < w.heap.size) w pb T := by
  obtain ⟨g, cap, rs, hR, hP⟩ := h
  exact ⟨g, cap, rs, hR, { hP with inA := fun s k e => ⟨hP.inA s k e, hP.lt s k e⟩ }⟩
theorem BV.does (h : BV O n w bb pb og cap mv A s) (hn : n <= W.heap.size) (hb : ButA O W w) (hc : w.cell? ⟨bb, 0, none⟩ = W.cell? ⟨bb, 0, none⟩) : Does O n W bb w s :=
  ⟨⟨pb, og, cap, mv, A, h.mono (fun k => .inl) (fun k hk ho => ho.resolve_right (by omega))⟩, hb, hc⟩
theorem BV.does' (h : BV (andNew O W.heap.size) n w bb pb og cap mv A s) (hb : ButA O W w) (hc : w.cell? ⟨bb, 0, none⟩ = W.cell? ⟨bb, 0, none⟩) : Does O n W bb w s := ⟨⟨pb, og, cap, mv, A, h⟩, hb, hc⟩
def DoesM (O : Nat -> Prop) (n : Nat) (w : World) (bb : Nat) (w' : World) (s' : PB) : Prop := Does O n w bb w' s' /\ w'.cell? ⟨bb, 2, none⟩ = w.cell? ⟨bb, 2, none⟩
theorem DoesM.of (h : IsB O n w bb s) (hb : Below w.heap.size w W) : DoesM O n w bb W s := ⟨Does.of h hb, hb.cell h.bL⟩
theorem DoesM.trans {w1 w2 : World} {s1 s2 : PB} (h : DoesM O n w bb w1 s1) (k : DoesM (andNew O w.heap.size) n w1 bb w2 s2) : DoesM O n w bb w2 s2 := ⟨h.1.trans k.1, k.2.trans h.2⟩
theorem DoesM.after {w1 w2 : World} {s1 : PB} (h : DoesM O n w bb w1 s1) (hb : Below w1.heap.size w1 w2) : DoesM O n w bb w2 s1 := ⟨h.1.after hb, (hb.cell h.1.1.bL).trans h.2⟩
theorem DoesM.ahead {w0 w1 : World} {s1 : PB} (hn : n <= w0.heap.size) (hb : Below w0.heap.size w0 w) (h : DoesM O n w bb w1 s1) (hbb : bb < w0.heap.size) : DoesM O n w0 bb w1 s1 := ⟨h.1.ahead hn hb hbb, h.2.trans (hb.cell hbb)⟩
theorem DoesM.wide {w1 : World} {s1 : PB} (h : DoesM (fun k => O k /\ k < w.heap.size) n w bb w1 s1) (hn : n <= w.heap.size) : DoesM O n w bb w1 s1 := ⟨h.1.wide hn, h.2⟩
theorem set2 (w : World) (bb j : Nat) (hj : j ≠ 2) (v : Value) : (w.setCell ⟨bb, j, none⟩ v).cell? ⟨bb, 2, none⟩ = w.cell? ⟨bb, 2, none⟩ := World.cell?_setCell_other _ _ _ _ (by intro he; injection he with _ he _; omega)
theorem set0 (w : World) (bb j : Nat) (hj : j ≠ 0) (v : Value) : (w.setCell ⟨bb, j, none⟩ v).cell? ⟨bb, 0, none⟩ = w.cell? ⟨bb, 0, none⟩ := World.cell?_setCell_other _ _ _ _ (by intro he; injection he with _ he _; omega)
theorem BV.treeD (h : BV O n w bb pb og cap mv A s) {w1 : World} {T' : S5.TR} (hP : PT (andNew A w.heap.size) w1 pb T') (hb : ButA A w w1) : BV (andNew O w.heap.size) n w1 bb pb og cap mv (fun k => andNew A w.heap.size k /\ k < w1.heap.size) { s with T := T' } := by
  have hk : ∀ k, k < w.heap.size -> ¬ A k -> w1.heap[k]? = w.heap[k]? := hb.block
  have hO : ∀ k, k < n -> ¬ O k -> ¬ andNew O w.heap.size k := fun k hk ho h' => by
    rcases h' with h' | h'
    · exact ho h'
    · have := h.nL; omega
  have hA : ∀ k, k < w.heap.size -> ¬ A k -> ¬ (andNew A w.heap.size k /\ k < w1.heap.size) := fun k hk ho h' => by
    rcases h'.1 with h' | h'
    · exact ho h'
    · omega
  have hbk := hk bb h.bL h.bA
  refine ⟨fun i hi => ?_, fun i => by rw [World.frozen?_of_block (a := ⟨bb, i, none⟩) hbk]; exact h.fz i, pt_tight hP, S5.ownsRow_keep h.row fun k e => ?_, newM_keep h.mrk fun b o l c e h0 => hk b (h.mL b o l c e h0) (h.mO b o l c e h0).2.1, fun b o l c e h0 => ⟨.inl (h.mO b o l c e h0).1, hA b (h.mL b o l c e h0) (h.mO b o l c e h0).2.1, (h.mO b o l c e h0).2.2⟩,
    fun m hm => isA_keep' (h.att m hm) fun h0 k e => hk k (Nat.lt_of_lt_of_le (h.attL m hm h0 k e).1 h.nL) (fun ha => (h.attL m hm h0 k e).2 (h.AO k ha).1), fun m hm h0 k e => ⟨(h.attL m hm h0 k e).1, hO k (h.attL m hm h0 k e).1 (h.attL m hm h0 k e).2⟩, Nat.le_trans h.nL hb.size, fun k hk => ⟨?_, hk.2⟩, .inl h.bO, .inl h.gO, hA bb h.bL h.bA, hA og h.gL h.gA, h.bg⟩
  · have h1 := h.cs i hi
    show w1.cell? ⟨bb, i, none⟩ = (fv pb (opV og s.op.length cap) mv s)[i]?
    rw [List.getElem?_eq_getElem (show i < (fv pb (opV og s.op.length cap) mv s).length from hi)] at h1 ⊢
    exact S5.cell_same hbk h1
  · obtain rfl : og = k := by simpa [Value.ownBlock] using e
    exact hk og h.gL h.gA
  · rcases hk.1 with h1 | h1
    · exact .inl (h.AO k h1).1
    · exact .inr h1
theorem BV.opens (h : BV O n w bb pb og cap mv A s) {w1 : World} (hb : ButA (fun k => k = og) w w1) {og' cap' : Nat} {op' : List S6.OV} (hrow : w1.ownsRow 0 76 3 (opV og' op'.length cap') op'.length (opCells op')) (hog : og' = og \/ w.heap.size <= og') :
    BV (andNew O w.heap.size) n (w1.setCell ⟨bb, 1, none⟩ (opV og' op'.length cap')) bb pb og' cap' mv A { s with op := op' } := by
  have hz : (w1.setCell ⟨bb, 1, none⟩ (opV og' op'.length cap')).heap.size = w1.heap.size := by simp [World.setCell]
  have hoth : ∀ k, k < w.heap.size -> k ≠ bb -> k ≠ og -> (w1.setCell ⟨bb, 1, none⟩ (opV og' op'.length cap')).heap[k]? = w.heap[k]? := fun k h1 h2 h3 => (Below.heap_setCell _ _ _ _ h2).trans (hb.block k h1 h3)
  have hb1 : w1.heap[bb]? = w.heap[bb]? := hb.block bb h.bL h.bg
  have hc1 : ∀ j, j < 9 -> w1.cell? ⟨bb, j, none⟩ = (fv pb (opV og s.op.length cap) mv s)[j]? := fun j hj => by
    have h1 := h.cs j hj
    rw [List.getElem?_eq_getElem (show j < (fv pb (opV og s.op.length cap) mv s).length from hj)] at h1 ⊢
    exact S5.cell_same hb1 h1
  have hbL := h.bL
  have hnA : ¬ A og' := by
    rcases hog with rfl | hog
    · exact h.gA
    · exact fun ha => by have := (h.AO og' ha).2; omega
  have hbg : bb ≠ og' := by
    rcases hog with rfl | hog
    · exact h.bg
    · omega
  refine ⟨fun i hi => ?_, fun i => ?_, h.tree.keep (by rw [hz]; exact hb.size) fun k hA => hoth k (h.AO k hA).2 (fun e => h.bA (e ▸ hA)) (fun e => h.gA (e ▸ hA)), S5.ownsRow_keep hrow fun k e => ?_, newM_keep h.mrk fun b o l c e h0 => hoth b (h.mL b o l c e h0) (h.mO b o l c e h0).2.2.1 (h.mO b o l c e h0).2.2.2,
    fun b o l c e h0 => ⟨.inl (h.mO b o l c e h0).1, (h.mO b o l c e h0).2.1, (h.mO b o l c e h0).2.2.1, ?_⟩, fun m hm => isA_keep' (h.att m hm) fun h0 k e => hoth k (Nat.lt_of_lt_of_le (h.attL m hm h0 k e).1 h.nL) (fun ha => (h.attL m hm h0 k e).2 (ha ▸ h.bO)) (fun ha => (h.attL m hm h0 k e).2 (ha ▸ h.gO)),
    fun m hm h0 k e => ⟨(h.attL m hm h0 k e).1, fun ho => ?_⟩, by rw [hz]; exact Nat.le_trans h.nL hb.size, fun k hA => ⟨.inl (h.AO k hA).1, by rw [hz]; exact Nat.lt_of_lt_of_le (h.AO k hA).2 hb.size⟩, .inl h.bO, ?_, h.bA, hnA, hbg⟩
  · by_cases e : i = 1
    · subst e
      rw [World.cell?_setCell_same' _ _ _ (by rw [hc1 1 (by omega)]; rfl)]
      rfl
    · rw [World.cell?_setCell_other _ _ _ _ (by intro he; injection he with _ he _; omega), hc1 i hi]
      rcases (by omega : i = 0 \/ i = 2 \/ i = 3 \/ i = 4 \/ i = 5 \/ i = 6 \/ i = 7 \/ i = 8) with rfl | rfl | rfl | rfl | rfl | rfl | rfl | rfl <;> rfl
  · rw [World.frozen?_setCell, World.frozen?_of_block (a := ⟨bb, i, none⟩) hb1]
    exact h.fz i
  · obtain rfl : og' = k := by simpa [Value.ownBlock] using e
    exact Below.heap_setCell _ _ _ _ (fun e => hbg e.symm)
  · rcases hog with rfl | hog
    · exact (h.mO b o l c e h0).2.2.2
    · have := h.mL b o l c e h0
      omega
  · rcases ho with ho | ho
    · exact (h.attL m hm h0 k e).2 ho
    · have := (h.attL m hm h0 k e).1
      have := h.nL
      omega
  · rcases hog with rfl | hog
    · exact .inl h.gO
    · exact .inr hog
theorem BV.marks (h : BV O n w bb pb og cap mv A s) {w1 : World} (hb : Below w.heap.size w w1) {mv' : Value} {mr' : List S7.MV} (hN : S7.NewM w.heap.size w1 mv' mr') (hat : ∀ m ∈ mr', IsA w m.av m.aa /\ (m.aa ≠ [] -> ∀ k, m.av.ownBlock = some k -> k < n /\ ¬ O k)) :
    BV (andNew O w.heap.size) n (w1.setCell ⟨bb, 2, none⟩ mv') bb pb og cap mv' A { s with mr := mr' } := by
  have hz : (w1.setCell ⟨bb, 2, none⟩ mv').heap.size = w1.heap.size := by simp [World.setCell]
  have hoth : ∀ k, k < w.heap.size -> k ≠ bb -> (w1.setCell ⟨bb, 2, none⟩ mv').heap[k]? = w.heap[k]? := fun k h1 h2 => (Below.heap_setCell _ _ _ _ h2).trans (hb.block k h1)
  have hb1 : w1.heap[bb]? = w.heap[bb]? := hb.block bb h.bL
  have hc1 : ∀ j, j < 9 -> w1.cell? ⟨bb, j, none⟩ = (fv pb (opV og s.op.length cap) mv s)[j]? := fun j hj => by
    have h1 := h.cs j hj
    rw [List.getElem?_eq_getElem (show j < (fv pb (opV og s.op.length cap) mv s).length from hj)] at h1 ⊢
    exact S5.cell_same hb1 h1
  have hbL := h.bL
  have hgL := h.gL
  have hnew : ∀ b o l c, mv' = .slice (some ⟨b, o, none⟩) l c -> mr' ≠ [] -> w.heap.size <= b := fun b o l c e h0 => by
    rcases hN with ⟨h1, _⟩ | ⟨b', o', cap', e', _, h2, _⟩
    · exact absurd h1 h0
    · rw [e] at e'
      injection e' with e1 e2 e3
      injection e1 with e1
      injection e1 with e1 e4
      omega
  refine ⟨fun i hi => ?_, fun i => ?_, h.tree.keep (by rw [hz]; exact hb.size) fun k hA => hoth k (h.AO k hA).2 (fun e => h.bA (e ▸ hA)), S5.ownsRow_keep h.row fun k e => ?_, newM_keep (hN.mono (Nat.zero_le _)) fun b o l c e h0 => Below.heap_setCell _ _ _ _ (show b ≠ bb by have := hnew b o l c e h0; omega),
    fun b o l c e h0 => ⟨.inr (hnew b o l c e h0), fun ha => ?_, ?_, ?_⟩, fun m hm => isA_keep' (hat m hm).1 fun h0 k e => hoth k (Nat.lt_of_lt_of_le ((hat m hm).2 h0 k e).1 h.nL) (fun ha => ((hat m hm).2 h0 k e).2 (ha ▸ h.bO)),
    fun m hm h0 k e => ⟨((hat m hm).2 h0 k e).1, fun ho => ?_⟩, by rw [hz]; exact Nat.le_trans h.nL hb.size, fun k hA => ⟨.inl (h.AO k hA).1, by rw [hz]; exact Nat.lt_of_lt_of_le (h.AO k hA).2 hb.size⟩, .inl h.bO, .inl h.gO, h.bA, h.gA, h.bg⟩
  · by_cases e : i = 2
    · subst e
      rw [World.cell?_setCell_same' _ _ _ (by rw [hc1 2 (by omega)]; rfl)]
      rfl
    · rw [World.cell?_setCell_other _ _ _ _ (by intro he; injection he with _ he _; omega), hc1 i hi]
      rcases (by omega : i = 0 \/ i = 1 \/ i = 3 \/ i = 4 \/ i = 5 \/ i = 6 \/ i = 7 \/ i = 8) with rfl | rfl | rfl | rfl | rfl | rfl | rfl | rfl <;> rfl
  · rw [World.frozen?_setCell, World.frozen?_of_block (a := ⟨bb, i, none⟩) hb1]
    exact h.fz i
  · obtain rfl : og = k := by simpa [Value.ownBlock] using e
    exact hoth og hgL h.bg.symm
  · have := hnew b o l c e h0
    have := (h.AO b ha).2
    omega
  · have := hnew b o l c e h0
    omega
  · have := hnew b o l c e h0
    omega
  · rcases ho with ho | ho
    · exact ((hat m hm).2 h0 k e).2 ho
    · have := ((hat m hm).2 h0 k e).1
      have := h.nL
      omega
def rootV : S6.OV := ⟨0, 0, ⟨#[104, 116, 109, 108]⟩⟩
structure PInv (c : Nat) (s : PB) : Prop where
  hd : ∃ r, s.op = rootV :: r
  opL : s.op.length <= 61
  wf : S5.WF s.T
  t0 : 0 < s.T.length
  tL : s.T.length <= 2000
  mrL : s.mr.length <= c
  aaL : ∀ m ∈ s.mr, m.aa.length <= 1000000
  txL : ∀ i, (S5.nodeAt s.T i).text.length <= c
  atL : ∀ i, (S5.nodeAt s.T i).attrs.length <= 1000000
theorem PInv.ne {c : Nat} {s : PB} (h : PInv c s) : s.op ≠ [] := by
  obtain ⟨r, e⟩ := h.hd
  rw [e]
  simp
end Go.Proofs.YtfohijnkeefcfaaGreatDoor
