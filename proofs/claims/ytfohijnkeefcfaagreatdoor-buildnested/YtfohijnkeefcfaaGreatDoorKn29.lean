import Derived.Test.YtfohijnkeefcfaaGreatDoorKn08
import Derived.Test.YtfohijnkeefcfaaGreatDoorKn13
import Derived.Test.YtfohijnkeefcfaaGreatDoorKn25
import Derived.Test.YtfohijnkeefcfaaGreatDoorKn28
import Derived.Laws.MakeOwn
set_option linter.unusedVariables false
set_option linter.unusedSimpArgs false
set_option maxRecDepth 100000
set_option maxHeartbeats 8000000
namespace Go.Proofs.YtfohijnkeefcfaaGreatDoor
open Go.RowKit
open S5 (ButA andNew PT IsA cell_lt below_alloc hide below_drewN)
variable {O : Nat -> Prop} {n : Nat} {w W : World} {bb : Nat} {s : PB} {c : Nat}
theorem mem_push {l : List S7.MV} {m x : S7.MV} (h : x ∈ S7.pushL l m) : x ∈ l \/ x = m := by
  unfold S7.pushL at h
  rcases List.mem_append.1 h with h | h
  · left
    unfold S7.withoutZ at h
    split at h
    · exact h
    · exact List.mem_of_mem_eraseIdx h
  · exact .inr (List.mem_singleton.1 h)
theorem push_len (l : List S7.MV) (m : S7.MV) : (S7.pushL l m).length <= l.length + 1 := by
  unfold S7.pushL S7.withoutZ
  split
  · simp
  · have := List.length_eraseIdx_le l (S7.placeZ (S7.goneO l m)).toNat
    simp only [List.length_append, List.length_cons, List.length_nil]
    omega
theorem marks_does {pb og cap : Nat} {mv mv' : Value} {A : Nat -> Prop} {w1 : World} {mr' : List S7.MV} (v : BV O n w bb pb og cap mv A s) (hb : Below w.heap.size w w1) (hN : S7.NewM w.heap.size w1 mv' mr') (hat : ∀ m ∈ mr', IsA w m.av m.aa /\ (m.aa ≠ [] -> ∀ k, m.av.ownBlock = some k -> k < n /\ ¬ O k)) : Does O n w bb (w1.setCell ⟨bb, 2, none⟩ mv') { s with mr := mr' } :=
  (v.marks hb hN hat).does' ((ButA.of hb).setCell (.inl v.bO) _) ((set0 _ _ _ (by decide) _).trans (hb.cell v.bL))
theorem BV.small {pb og cap : Nat} {mv : Value} {A : Nat -> Prop} (v : BV O n w bb pb og cap mv A s) (hI : PInv c s) (hc : c <= 400000000) : S7.SmallM s.mr := ⟨Nat.le_trans hI.mrL hc, fun x hx => by have := hI.aaL x hx; omega⟩
abbrev mA (m : S7.MV) : Value := .agg #[.int .i64 m.id, .string m.nm, m.av]
theorem push_b {pb og cap : Nat} {mv : Value} {A : Nat -> Prop} (v : BV O n w bb pb og cap mv A s) (hI : PInv c s) (hc : c <= 400000000) (m : S7.MV) (hm : Tk O n w m.av m.aa) (ha : m.aa.length <= 1000000) (x : World) (b : Below w.heap.size w x) :
    Calls Tryz.prog 175 #[mv, mA m] x fun e w' => (∃ a l c, e = .returned (.slice a l c) /\ Does O n w bb (w'.setCell ⟨bb, 2, none⟩ (.slice a l c)) { s with mr := S7.pushL s.mr m }) /\ Below w.heap.size w w' := by
  refine (S7.push_p mv s.mr (v.small hI hc) m (by omega) x (v.mrk.row.below b) (v.okM.below b) (isQ_of (hm.1.below b))).mono ?_
  rintro e w' ⟨⟨v', rfl, hN⟩, b'⟩
  obtain ⟨a, c2, rfl⟩ := S7.new_form hN
  refine ⟨⟨a, _, c2, rfl, marks_does v (b.trans (b'.mono b.size)) (hN.mono b.size) fun y hy => ?_⟩, b.trans (b'.mono b.size)⟩
  rcases mem_push hy with hy | rfl
  · exact ⟨v.att y hy, v.attL y hy⟩
  · exact ⟨hm.1, hm.2⟩
theorem PInv.push (hI : PInv c s) (m : S7.MV) (ha : m.aa.length <= 1000000) : PInv (c + 1) { s with mr := S7.pushL s.mr m } :=
  { hd := hI.hd, opL := hI.opL, wf := hI.wf, t0 := hI.t0, tL := hI.tL, mrL := by have := push_len s.mr m; have := hI.mrL; simp only; omega, aaL := fun x hx => by
      rcases mem_push hx with hx | rfl
      · exact hI.aaL x hx
      · exact ha, txL := fun i => Nat.le_succ_of_le (hI.txL i), atL := hI.atL }
def markedP (s : PB) (t : TV) : PB := { elemP s 0 t.nm t.aa with mr := S7.pushL (elemP s 0 t.nm t.aa).mr ⟨elemZ s 0 t.nm t.aa, t.nm, t.aa, t.sv⟩ }
theorem PInv.marked (hI : PInv c s) (t : TV) (ha : t.aa.length <= 1000000) : PInv (c + 1) (markedP s t) := (hI.elem 0 t.nm ha).push _ ha
theorem insertMarked_t (h : IsB O n w bb s) (hO : ∀ k, O k -> k < w.heap.size) (hI : PInv c s) (hc : c <= 400000000) (t : TV) (ht : TOk O n w t) : Calls Tryz.prog 222 #[bP bb, tA t] w fun e w' => e = .returned (.tuple #[]) /\ Does O n w bb w' (markedP s t) := by
  have hnn := h.nL
  have hbb := h.bL
  have I1 := hI.elem 0 t.nm ht.2
  have HE := hide (fun x (b : Below w.heap.size w x) => insertElement_p (h.below b) hI 0 t.nm t.sv t.aa ht.2 (ht.1.1.below b))
  have HB := hide (t_box w t (Below.refl _ _))
  have HK : Hid (∀ y s1, Does O n (tW w t) bb y s1 -> y.cell? ⟨w.heap.size, 1, none⟩ = some (.string t.nm) /\ y.cell? ⟨w.heap.size, 2, none⟩ = some t.sv) := hide fun y s1 d => ⟨d.kept HB.out.2.1 (fun ho => by have := hO _ ho; omega), d.kept HB.out.2.2.1 (fun ho => by have := hO _ ho; omega)⟩
  have HP : Hid (∀ y, Does O n (tW w t) bb y (elemP s 0 t.nm t.aa) -> ∃ mv, ((y.cell? ⟨bb, 2, none⟩ = some mv) /\ (∃ a l c, mv = .slice a l c)) /\ (∀ x, Below y.heap.size y x -> (x.cell? ⟨bb, 2, none⟩ = some mv /\ x.cell? ⟨w.heap.size, 1, none⟩ = some (.string t.nm) /\ x.cell? ⟨w.heap.size, 2, none⟩ = some t.sv) /\ x.frozen? ⟨bb, 2, none⟩ = false) /\ ∀ x, Below y.heap.size y x -> Calls Tryz.prog 175 #[mv, .agg #[.int .i64 (elemZ s 0 t.nm t.aa), .string t.nm, t.sv]] x fun e w' => (∃ a l c, e = .returned (.slice a l c) /\ Does O n (tW w t) bb (w'.setCell ⟨bb, 2, none⟩ (.slice a l c)) (markedP s t)) /\ Below y.heap.size y w') := hide (fun y d => by
    have ht2 := (ht.below (below_alloc w (.cells #[.int .i64 t.k, .string t.nm, t.sv, .bool t.cl, .string t.tx] 79))).does d (by simp; omega)
    obtain ⟨q1, q2⟩ := HK.out y _ d
    obtain ⟨pb, og, cap, mv, A, v⟩ := d.1
    obtain ⟨ma, mc, e⟩ := S7.new_form v.mrk
    have k2 : y.cell? ⟨bb, 2, none⟩ = some mv := v.cs 2 (by omega)
    refine ⟨mv, ⟨k2, ⟨_, _, _, e⟩⟩, fun x b => ⟨⟨by rw [b.cell (cell_lt k2)]; exact k2, by rw [b.cell (cell_lt q1)]; exact q1, by rw [b.cell (cell_lt q2)]; exact q2⟩, by rw [b.frozen (p := ⟨bb, 2, none⟩) v.bL]; exact v.fz 2⟩, fun x b => ?_⟩
    refine (push_b v I1 hc ⟨elemZ s 0 t.nm t.aa, t.nm, t.aa, t.sv⟩ ht2.1 ht.2 x b).mono ?_
    rintro e w' ⟨⟨a, l, c, rfl, d2⟩, b2⟩
    exact ⟨⟨a, l, c, rfl, d.trans d2⟩, b2⟩)
  obtain ⟨va, vc, hva⟩ := S5.isA_form ht.1.1
  clear h ht
  generalize markedP s t = S2 at *
  generalize elemZ s 0 t.nm t.aa = Z at *
  obtain ⟨k, nm, aa, sv, cl, tx⟩ := t
  simp only [] at HE hva HB HK HP I1 ⊢
  subst hva
  generalize aa.length = al at *
  obtain ⟨_, c1, c2, c3, _, bb0⟩ := HB.out
  go_enter Tryz.func222, Tryz.ntmps222
  go_wp2_with fail
  refine (HE.out _ bb0).mono ?_
  rintro e w1 ⟨rfl, d1⟩
  obtain ⟨mv, ⟨k2, ⟨ma, ml, mc, rfl⟩⟩, HF, HPu⟩ := HP.out _ d1
  have HF := hide HF
  have HPu := hide HPu
  clear d1 HP HE HK
  go_wp2_with fail
  have DD := hide (Below.refl w1.heap.size w1).drew
  obtain ⟨⟨_, q1, q2⟩, _⟩ := HF.out w1 (Below.refl _ _)
  go_region_with (go_at_call 175; refine (HPu.out _ DD.out).mono ?_; rintro e w2 ⟨⟨a, l, c, rfl, d2⟩, b2⟩; obtain ⟨⟨r1, _, _⟩, f2⟩ := HF.out _ b2; have B2 := hide b2; have D2 := hide d2; clear b2 d2)
  all_goals
    go_wp2
    go_end0
    exact ⟨rfl, D2.out.ahead hnn bb0 hbb⟩
theorem insertMarked_p (h : IsB O n w bb s) (hI : PInv c s) (hc : c <= 400000000) (t : TV) (ht : TOk O n w t) : Calls Tryz.prog 222 #[bP bb, tA t] w fun e w' => e = .returned (.tuple #[]) /\ Does O n w bb w' (markedP s t) :=
  (insertMarked_t h.tight (fun k hk => hk.2) hI hc t ht.tight).mono fun e w' ⟨a, d⟩ => ⟨a, d.wide h.nL⟩
end Go.Proofs.YtfohijnkeefcfaaGreatDoor
namespace Go.Proofs.YtfohijnkeefcfaaGreatDoor
open Go.RowKit
open S5 (ButA andNew PT IsA cell_lt below_alloc hide below_drewN)
variable {O : Nat -> Prop} {n : Nat} {w W : World} {bb : Nat} {s : PB} {c : Nat}
def renewS (s : PB) (i : Nat) (m : S7.MV) : PB := { elemP s 0 m.nm m.aa with mr := (elemP s 0 m.nm m.aa).mr.set i { m with id := elemZ s 0 m.nm m.aa } }
def renewKP : Nat -> Nat -> PB -> PB
  | 0, _, s => s
  | k + 1, i, s => match s.mr[i]? with
    | none => s
    | some m => renewKP k (i + 1) (renewS s i m)
def idsP (s : PB) : List Int := s.op.map (·.id)
def renewP (s : PB) : PB := renewKP (s.mr.length - S7.renewL s.mr (idsP s)) (S7.renewL s.mr (idsP s)) s
theorem elemP_mr (s : PB) (sp : Int) (nm : ByteArray) (aa : S5.AttrL) : (elemP s sp nm aa).mr = s.mr := by
  unfold elemP
  split
  · unfold failP
    split <;> rfl
  · unfold elemR putP elemQ madeP failP
    split
    · split <;> rfl
    · rfl
theorem BV.markId {pb og cap b o l cp : Nat} {A : Nat -> Prop} (h : BV O n w bb pb og cap (.slice (some ⟨b, o, none⟩) l cp) A s) (i : Nat) (hi : i < s.mr.length) (z : Int) :
    (∃ z0, w.cell? ⟨b, o + i * 3, none⟩ = some (.int .i64 z0)) /\ w.frozen? ⟨b, o + i * 3, none⟩ = false /\ DoesM O n w bb (w.setCell ⟨b, o + i * 3, none⟩ (.int .i64 z)) { s with mr := s.mr.set i { s.mr[i] with id := z } } := by
  have h0 : s.mr ≠ [] := fun e => by rw [e] at hi; simp at hi
  obtain ⟨o1, o2, o3, o4⟩ := h.mO b o l cp rfl h0
  have hbL := h.mL b o l cp rfl h0
  have hoth : ∀ k, k ≠ b -> (w.setCell ⟨b, o + i * 3, none⟩ (.int .i64 z)).heap[k]? = w.heap[k]? := fun k hk => Below.heap_setCell _ _ _ _ hk
  have hz : (w.setCell ⟨b, o + i * 3, none⟩ (.int .i64 z)).heap.size = w.heap.size := by simp [World.setCell]
  rcases h.mrk with ⟨e, _⟩ | ⟨b', o', cap', e, q1, q2, q3, q4⟩
  · exact absurd e h0
  injection e with e1 e2 e3
  injection e1 with e1
  injection e1 with e1 e4
  subst e1 e4 e3
  have hcell := (q3 i hi).1
  refine ⟨⟨_, hcell⟩, by have := q4 i hi 0 (by omega); simpa using this, ⟨BV.does (A := A) (pb := pb) (og := og) (cap := cap) (mv := .slice (some ⟨b, o, none⟩) l cp) ?_ h.nL ((ButA.refl _ _).setCell (.inl o1) _) (World.cell?_of_block (a := ⟨bb, 0, none⟩) (hoth bb o3.symm)), World.cell?_of_block (a := ⟨bb, 2, none⟩) (hoth bb o3.symm)⟩⟩
  have hmem : ∀ m ∈ s.mr.set i { s.mr[i] with id := z }, ∃ m0 ∈ s.mr, m.av = m0.av /\ m.aa = m0.aa := fun m hm => by
    rcases List.mem_or_eq_of_mem_set hm with hm | rfl
    · exact ⟨m, hm, rfl, rfl⟩
    · exact ⟨s.mr[i], List.getElem_mem hi, rfl, rfl⟩
  refine ⟨fun j hj => ?_, fun j => by rw [World.frozen?_setCell]; exact h.fz j, h.tree.keep (by omega) fun k hA => hoth k fun e => o2 (e ▸ hA), S5.ownsRow_keep h.row fun k e => ?_, .inr ⟨b, o, cp, by rw [List.length_set]; rw [e2], by rw [List.length_set]; exact q1, Nat.zero_le _, fun j hj => ?_, fun j hj k hk => ?_⟩, fun b2 o2' l2 c2 e h2 => h.mO b2 o2' l2 c2 e h0, fun m hm => ?_, fun m hm h0' k e => ?_, by rw [hz]; exact h.nL, fun k hA => by rw [hz]; exact h.AO k hA, h.bO, h.gO, h.bA, h.gA, h.bg⟩
  · have h1 := h.cs j hj
    show (w.setCell ⟨b, o + i * 3, none⟩ (.int .i64 z)).cell? ⟨bb, j, none⟩ = (fv pb (opV og s.op.length cap) (.slice (some ⟨b, o, none⟩) l cp) s)[j]?
    rw [List.getElem?_eq_getElem (show j < (fv pb (opV og s.op.length cap) (.slice (some ⟨b, o, none⟩) l cp) s).length from hj)] at h1 ⊢
    exact S5.cell_same (hoth bb o3.symm) h1
  · obtain rfl : og = k := by simpa [Value.ownBlock] using e
    exact hoth og o4.symm
  · rw [List.length_set] at hj
    obtain ⟨g0, g1, g2⟩ := q3 j hj
    by_cases e : i = j
    · subst e
      rw [List.getElem_set_self]
      exact ⟨World.cell?_setCell_same' _ _ _ (by rw [hcell]; rfl), by rw [World.cell?_setCell_other _ _ _ _ (by intro he; injection he with _ he _; omega)]; exact g1, by rw [World.cell?_setCell_other _ _ _ _ (by intro he; injection he with _ he _; omega)]; exact g2⟩
    · rw [List.getElem_set_ne e]
      exact ⟨by rw [World.cell?_setCell_other _ _ _ _ (by intro he; injection he with _ he _; omega)]; exact g0, by rw [World.cell?_setCell_other _ _ _ _ (by intro he; injection he with _ he _; omega)]; exact g1, by rw [World.cell?_setCell_other _ _ _ _ (by intro he; injection he with _ he _; omega)]; exact g2⟩
  · rw [List.length_set] at hj
    rw [World.frozen?_setCell]
    exact q4 j hj k hk
  · obtain ⟨m0, hm0, e1, e2⟩ := hmem m hm
    rw [e1, e2]
    exact isA_keep' (h.att m0 hm0) fun h0' k e => hoth k fun e2 => (h.attL m0 hm0 h0' k e).2 (e2 ▸ o1)
  · obtain ⟨m0, hm0, e1, e2⟩ := hmem m hm
    rw [e1] at e
    rw [e2] at h0'
    exact h.attL m0 hm0 h0' k e
def zCells (zs : List Int) : List Value := zs.map fun z => Value.int .i64 z
theorem append_z (W : World) (B k : Nat) (v : Value) (zs : List Int) (z : Int) (hown : W.ownsRow B 3 1 v k (zCells zs)) (hl : k <= 1000000) (hB : B <= W.heap.size) :
    ∃ v' w', (Builtin.append_ #[22, 22] 22 #[v, .slice (some ⟨W.heap.size, 0, none⟩) 1 1]).run Tryz.prog (W.alloc (.cells #[.int .i64 z] 3)) = .ok v' w' /\ w'.ownsRow B 3 1 v' (k + 1) (zCells (zs ++ [z])) /\ Below B W w' := by
  have b0 := below_alloc W (.cells #[.int .i64 z] 3)
  obtain ⟨v', w', hr, ho, hg, _⟩ := run_append_own (P := Tryz.prog) (W.alloc (.cells #[.int .i64 z] 3)) B 22 22 3 Tryz.t3 _ 1 8 Tryz.underlying22 (by kernel_rfl) rfl (by kernel_rfl) (by kernel_rfl) (by kernel_rfl) (by omega)
      v k (zCells zs) (S5.owns_below hown b0) ⟨W.heap.size, 0, none⟩ 1 1 [.int .i64 z] rfl
      (by
        intro j u hu
        have hj : j < 1 := (List.getElem?_eq_some_iff.1 hu).1
        obtain rfl : j = 0 := by omega
        rw [S5.addr_add, <- hu]; simp [go_sem])
      (by
        intro u hu
        simp only [List.mem_cons, List.not_mem_nil, or_false] at hu
        subst hu; rfl) (by unfold maxLen; omega) (by omega) (by simp; omega)
  refine ⟨v', w', hr, ?_, (b0.mono hB).grown hg (by simp; omega) (fun j e => (hown.lt j e).1)⟩
  rw [show zCells (zs ++ [z]) = zCells zs ++ [.int .i64 z] by simp [zCells]]
  exact ho
theorem renewS_inv (hI : PInv c s) {i : Nat} (hi : i < s.mr.length) : PInv c (renewS s i s.mr[i]) := by
  have ha := hI.aaL _ (List.getElem_mem hi)
  have h := hI.elem 0 s.mr[i].nm ha
  refine { hd := h.hd, opL := h.opL, wf := h.wf, t0 := h.t0, tL := h.tL, mrL := ?_, aaL := fun x hx => ?_, txL := h.txL, atL := h.atL }
  · have := h.mrL
    unfold renewS
    simp only [List.length_set]
    exact this
  · unfold renewS at hx
    simp only at hx
    rcases List.mem_or_eq_of_mem_set hx with hx | rfl
    · exact h.aaL x hx
    · exact ha
theorem isZ_own {w1 : World} {B k : Nat} {v : Value} {zs : List Int} (h : w1.ownsRow B 3 1 v k (zCells zs)) (hk : zs.length = k) : S7.IsZ w1 v zs := by
  subst hk
  rcases h.2 with ⟨rfl, h0⟩ | ⟨g, cap, cur, rfl, _⟩
  · exact .inl ⟨List.eq_nil_of_length_eq_zero h0, _, _, rfl⟩
  · refine .inr ⟨g, 0, cap, rfl, fun j hj => ?_⟩
    rw [Nat.zero_add, h.cellAt j (by omega)]
    simp [zCells, hj]
theorem renew_b (h : IsB O n w bb s) (hI : PInv c s) (hc : c <= 400000000) : Calls Tryz.prog 140 #[bP bb] w fun e w' => e = .returned (.tuple #[]) /\ Does O n w bb w' (renewP s) := by
  have hnn := h.nL
  have hbb := h.bL
  have hL := hI.opL
  obtain ⟨pb, og, cap, mv, A, v⟩ := h
  have c1 : w.cell? ⟨bb, 1, none⟩ = some (.slice (some ⟨og, 0, none⟩) s.op.length cap) := v.cs 1 (by omega)
  obtain ⟨w1, hmk, own1, bl1⟩ : ∃ w1, (Instr.makeSlice 22 (.int .i64 0) (.int .i64 (s.op.length : Int))).run Tryz.prog w = .ok (.slice (some ⟨w.heap.size, 0, none⟩) 0 s.op.length) w1 /\ w1.ownsRow w.heap.size 3 1 (.slice (some ⟨w.heap.size, 0, none⟩) 0 s.op.length) 0 (zCells []) /\ Below w.heap.size w w1 := by
    obtain ⟨w1, h1, h2, h3⟩ := run_makeSlice_owned (P := Tryz.prog) w w.heap.size 22 3 Tryz.t3 _ 1 Tryz.underlying22 (by kernel_rfl) rfl (by kernel_rfl) .i64 .i64 s.op.length (by omega) (by
      have : Tryz.t3.bytes = 8 := by kernel_rfl
      rw [this]; omega) (by unfold maxLen; omega) (Nat.le_refl _)
    exact ⟨w1, h1, h2, ⟨h3.os, h3.tape, h3.output, h3.size, fun k hk => h3.block k hk (by simp)⟩⟩
  have HV := hide v
  have c1' : w1.cell? ⟨bb, 1, none⟩ = some (.slice (some ⟨og, 0, none⟩) s.op.length cap) := by rw [bl1.cell hbb]; exact c1
  have HOP : Hid (∀ x, Below w.heap.size w x -> ∀ j o, s.op[j]? = some o -> x.cell? ⟨og, j * 3, none⟩ = some (.int .i64 o.id) /\ x.cell? ⟨og, j * 3 + 1, none⟩ = some (.int .i64 o.sp) /\ x.cell? ⟨og, j * 3 + 2, none⟩ = some (.string o.nm)) := hide (fun x b j o ho => by
    obtain ⟨hj, rfl⟩ := List.getElem?_eq_some_iff.1 ho
    exact (v.below b).opCell j hj)
  clear v
  generalize hN : s.op.length = N at *
  generalize hRR : renewP s = RR
  have HRR := hide hRR
  clear hRR
  have hids : (idsP s).length = N := by simp [idsP, hN]
  have HID : Hid (∀ j o, s.op[j]? = some o -> (idsP s).take (j + 1) = (idsP s).take j ++ [o.id]) := hide (fun j o ho => by
    obtain ⟨hj, rfl⟩ := List.getElem?_eq_some_iff.1 ho
    have hj2 : j < (idsP s).length := by simp [idsP]; exact hj
    rw [List.take_succ_eq_append_getElem hj2]
    simp [idsP])
  have HGET : Hid (∀ j, j < N -> ∃ o, s.op[j]? = some o) := hide (fun j hj => ⟨s.op[j], List.getElem?_eq_getElem (by omega)⟩)
  have HOWN := hide own1
  have HBL := hide bl1
  clear own1 bl1
  go_enter Tryz.func140, Tryz.ntmps140
  go_wp2
  go_loopw [2, 18] (fun iv i wr => ∃ (k : Nat) (a3 : Option Addr) (c3 : Nat), k <= N /\ iv = .slice a3 k c3 /\ i = .int .i64 (k : Int) /\ Hid (wr.ownsRow w.heap.size 3 1 (.slice a3 k c3) k (zCells ((idsP s).take k))) /\ Hid (Below w.heap.size w wr)) (fun _ i _ => N - (intOf i).toNat)
  case atStart => exact ⟨0, _, _, Nat.zero_le _, rfl, rfl, HOWN, HBL⟩
  case round =>
    obtain ⟨k, a3, c3, hk, rfl, rfl, HOW, BW⟩ := hrel
    by_cases hlt : k < N
    · have hlt2 : (k : Int) < N := by omega
      obtain ⟨o, ho⟩ := HGET.out k hlt
      obtain ⟨p0, p1, p2⟩ := HOP.out wr BW.out k o ho
      have hT := HID.out k o ho
      have HT := hide hT
      clear hT ho
      obtain ⟨id, sp, nm⟩ := o
      simp only [] at p0 p1 p2 HT
      have b1 := below_alloc wr (.cells #[.int .i64 id, .int .i64 sp, .string nm] 76)
      obtain ⟨v', w4, hr, ho4, b4⟩ := append_z (wr.alloc (.cells #[.int .i64 id, .int .i64 sp, .string nm] 76)) w.heap.size k _ ((idsP s).take k) id (S5.owns_below HOW.out b1) (by omega) (by have := BW.out.size; simp; omega)
      obtain ⟨a5, c5, rfl⟩ := S5.owns_form ho4
      rw [<- HT.out] at ho4
      have HO4 := hide ho4
      have B4 := hide ((BW.out.trans (b1.mono BW.out.size)).trans b4)
      rw [show (wr.alloc (.cells #[.int .i64 id, .int .i64 sp, .string nm] 76)).heap.size = wr.heap.size + 1 by simp] at hr
      have HR := hide hr
      clear hr ho4 b1 b4
      go_wp2_with (with_reducible refine S5.wpList_append_run rfl _ _ 22 rfl (.slice a3 k c3) (.slice (some ⟨wr.heap.size + 1, 0, none⟩) 1 1) _ w4 rfl rfl HR.out ?_)
      exact ⟨⟨k + 1, a5, c5, hlt, rfl, by go_num, HO4, B4⟩, by simp [intOf]; omega⟩
    · obtain rfl : k = N := by omega
      have HZ : Hid (S7.IsZ wr (.slice a3 k c3) (idsP s)) := hide (by
        have h1 := HOW.out
        rw [List.take_of_length_le (by omega)] at h1
        exact isZ_own h1 hids)
      have bw := BW.out
      obtain ⟨c2, _⟩ : wr.cell? ⟨bb, 2, none⟩ = some mv /\ True := ⟨by rw [bw.cell hbb]; exact HV.out.cs 2 (by omega), trivial⟩
      have HRN := hide (S7.renew_p mv (.slice a3 k c3) s.mr (HV.out.small hI hc) (idsP s) (by omega) wr (HV.out.mrk.row.below bw) (HV.out.okM.below bw) HZ.out)
      obtain ⟨ma, mc, rfl⟩ := S7.new_form HV.out.mrk
      have c2w : w.cell? ⟨bb, 2, none⟩ = some (.slice ma s.mr.length mc) := HV.out.cs 2 (by omega)
      have HRM : Hid (S7.renewL s.mr (idsP s) <= s.mr.length) := hide (S7.behind_le _ _ _)
      have D0 := hide (DoesM.of (⟨_, _, _, _, _, HV.out⟩ : IsB O n w bb s) bw)
      have hmr := hI.mrL
      have HRR2 := hide HRR.out
      unfold renewP at HRR2
      clear HRR
      generalize S7.renewL s.mr (idsP s) = R0 at *
      generalize hM : s.mr.length = M at *
      clear HOW HOWN HBL HID HGET HOP HZ HV bw c1' c1 hmk
      go_wp2_with fail
      refine HRN.out.mono ?_
      rintro e w5 ⟨rfl, b5⟩
      have D5 := hide (D0.out.after b5)
      clear b5 c2
      have hMb : (M : Int) <= 400000000 := by omega
      have hI0 := hide hI
      have HM := hide hM
      clear hI hmr hM hids hN
      go_wp2
      go_loopw [5] (fun i wx => ∃ (k : Nat) (t : PB), i = .int .i64 (k : Int) /\ Hid (k <= M) /\ Hid (t.mr.length = M) /\ Hid (DoesM O n w bb wx t) /\ Hid (PInv c t) /\ Hid (renewKP (M - k) k t = RR)) (fun i _ => M - (intOf i).toNat)
      case atStart => exact ⟨R0, s, rfl, HRM, HM, D5, hI0, HRR2⟩
      case round =>
        obtain ⟨j, t, rfl, hjM, htM, DT, IT, HK⟩ := hrel
        generalize wr = wx at *
        have d2 : wx.cell? ⟨bb, 2, none⟩ = some (.slice ma M mc) := DT.out.2.trans c2w
        by_cases hlt : j < M
        · have hlt2 : (j : Int) < M := by omega
          have hjt : j < t.mr.length := by rw [htM.out]; exact hlt
          have HS : Hid (renewKP (M - (j + 1)) (j + 1) (renewS t j t.mr[j]) = RR) := hide (by
            have := HK.out
            rw [show M - j = (M - (j + 1)) + 1 by omega, renewKP, List.getElem?_eq_getElem hjt] at this
            exact this)
          have hnx : n <= wx.heap.size := DT.out.1.1.nL
          have hbx : bb < wx.heap.size := DT.out.1.1.bL
          have ht2 := DT.out.1.1.tight
          obtain ⟨pb2, og2, cap2, mv2, A2, v2⟩ := DT.out.1.1
          have emv : mv2 = .slice ma M mc := by
            have := v2.cs 2 (by omega)
            rw [d2] at this
            simpa [fv] using this.symm
          subst emv
          obtain ⟨b, o, rfl, y0, y1, y2⟩ : ∃ b o, ma = some ⟨b, o, none⟩ /\ wx.cell? ⟨b, o + j * 3, none⟩ = some (.int .i64 t.mr[j].id) /\ wx.cell? ⟨b, o + j * 3 + 1, none⟩ = some (.string t.mr[j].nm) /\ wx.cell? ⟨b, o + j * 3 + 2, none⟩ = some t.mr[j].av := by
            rcases v2.mrk with ⟨e, _⟩ | ⟨b, o, cap, e, _, _, q3, _⟩
            · rw [e] at hjt; simp at hjt
            · injection e with e1 e2 e3
              exact ⟨b, o, e1, q3 j hjt⟩
          have hat := v2.att _ (List.getElem_mem hjt)
          have haL := IT.out.aaL _ (List.getElem_mem hjt)
          have hIT2 : PInv c (renewS t j t.mr[j]) := renewS_inv IT.out hjt
          have htM2 : (renewS t j t.mr[j]).mr.length = M := by
            show ((elemP t 0 t.mr[j].nm t.mr[j].aa).mr.set j _).length = M
            rw [List.length_set, elemP_mr]
            exact htM.out
          have HMK : Hid (∀ x w6, DoesM (fun k => andNew O w.heap.size k /\ k < wx.heap.size) n x bb w6 (elemP t 0 t.mr[j].nm t.mr[j].aa) -> x.cell? ⟨bb, 2, none⟩ = some (.slice (some ⟨b, o, none⟩) M mc) -> (∃ z0, w6.cell? ⟨b, o + j * 3, none⟩ = some (.int .i64 z0)) /\ w6.frozen? ⟨b, o + j * 3, none⟩ = false /\ DoesM (fun k => andNew O w.heap.size k /\ k < wx.heap.size) n x bb (w6.setCell ⟨b, o + j * 3, none⟩ (.int .i64 (elemZ t 0 t.mr[j].nm t.mr[j].aa))) (renewS t j t.mr[j])) := hide (fun x w6 d hx => by
            obtain ⟨pb3, og3, cap3, mv3, A3, v3⟩ := d.1.1
            have emv : mv3 = .slice (some ⟨b, o, none⟩) M mc := by
              have := v3.cs 2 (by omega)
              rw [d.2.trans hx] at this
              simpa [fv] using this.symm
            subst emv
            have hm := elemP_mr t 0 t.mr[j].nm t.mr[j].aa
            have hj3 : j < (elemP t 0 t.mr[j].nm t.mr[j].aa).mr.length := by rw [hm]; exact hjt
            obtain ⟨r1, r2, r3⟩ := v3.markId j hj3 (elemZ t 0 t.mr[j].nm t.mr[j].aa)
            refine ⟨r1, r2, ?_⟩
            have r4 := d.trans r3
            have e : (elemP t 0 t.mr[j].nm t.mr[j].aa).mr[j] = t.mr[j] := by simp only [hm]
            rw [e] at r4
            exact r4)
          generalize hS2 : renewS t j t.mr[j] = S2 at *
          obtain ⟨am, cm, hav⟩ := S5.isA_form hat
          have HE := hide (fun x (bx : Below wx.heap.size wx x) => insertElement_m (ht2.below bx) IT.out 0 t.mr[j].nm t.mr[j].av t.mr[j].aa haL (hat.below bx))
          generalize t.mr[j] = m at *
          generalize elemZ t 0 m.nm m.aa = Z at *
          obtain ⟨mid, mnm, maa, mav⟩ := m
          simp only [] at hav y0 y1 y2 HE HMK
          subst hav
          generalize maa.length = mal at *
          obtain ⟨X0, hX0⟩ : ∃ X0, X0 = wx.alloc (.cells #[.int .i64 mid, .string mnm, .slice am mal cm] 179) := ⟨_, rfl⟩
          have KF : Hid (∀ x, Below X0.heap.size X0 x -> (x.cell? ⟨bb, 2, none⟩ = some (.slice (some ⟨b, o, none⟩) M mc) /\ x.cell? ⟨wx.heap.size, 1, none⟩ = some (.string mnm) /\ x.cell? ⟨wx.heap.size, 2, none⟩ = some (.slice am mal cm)) /\ Below wx.heap.size wx x) := hide (fun x bx => by
            rw [hX0] at bx
            have hb := two_below bx
            obtain ⟨_, g1, g2⟩ := S7.boxW_cells wx mid mnm (.slice am mal cm) bx
            exact ⟨⟨by rw [hb.cell hbx]; exact d2, g1, g2⟩, hb⟩)
          have DD := hide (Below.refl X0.heap.size X0).drew
          have KD : Hid (∀ y s1, DoesM (fun k => andNew O w.heap.size k /\ k < wx.heap.size) n X0.drew bb y s1 -> y.cell? ⟨bb, 2, none⟩ = some (.slice (some ⟨b, o, none⟩) M mc) /\ y.cell? ⟨wx.heap.size, 1, none⟩ = some (.string mnm) /\ y.cell? ⟨wx.heap.size, 2, none⟩ = some (.slice am mal cm)) := hide (fun y s1 d => by
            obtain ⟨⟨e0, e1, e2⟩, _⟩ := KF.out _ DD.out
            have hg : ¬ (andNew O w.heap.size wx.heap.size /\ wx.heap.size < wx.heap.size) := fun h => Nat.lt_irrefl _ h.2
            exact ⟨d.2.trans e0, d.1.kept e1 hg, d.1.kept e2 hg⟩)
          have HFIN : Hid (∀ y, DoesM (fun k => andNew O w.heap.size k /\ k < wx.heap.size) n X0.drew bb y S2 -> DoesM O n w bb y S2) := hide (fun y d => DT.out.trans ((d.ahead hnx (KF.out _ DD.out).2 hbx).wide hnx))
          clear hat ht2 v2
          go_wp2_with fail
          rw [<- hX0]
          clear hX0
          go_region_held2 (fun W' => W'.cell? ⟨bb, 2, none⟩ = some (.slice (some ⟨b, o, none⟩) M mc) /\ W'.cell? ⟨wx.heap.size, 1, none⟩ = some (.string mnm) /\ W'.cell? ⟨wx.heap.size, 2, none⟩ = some (.slice am mal cm)) (first | with_reducible exact (KF.out _ DD.out).1 | with_reducible exact KD.out _ _ D6.out | with_reducible exact KD.out _ _ D7.out) (first | (go_at_call 117; refine (HE.out _ (KF.out _ DD.out).2).mono ?_; rintro e w6 ⟨rfl, d⟩; obtain ⟨⟨z0, x0⟩, x1, dd⟩ := HMK.out _ w6 d (KF.out _ DD.out).1.1; have D6 := hide d; have D7 := hide dd; clear d dd))
          go_wp2
          exact ⟨⟨j + 1, S2, by go_num, hide (by omega), hide htM2, hide (HFIN.out _ D7.out), hide hIT2, HS⟩, by simp [intOf]; omega⟩
        · have hlt2 : ¬ (j : Int) < M := by omega
          have HFin : Hid (t = RR) := hide (by
            have := HK.out
            rw [show M - j = 0 by omega] at this
            exact this)
          go_wp2
          go_end0
          exact ⟨rfl, by rw [<- HFin.out]; exact DT.out.1⟩
theorem renew_p (h : IsB O n w bb s) (hI : PInv c s) (hc : c <= 400000000) : Calls Tryz.prog 140 #[bP bb] w fun e w' => e = .returned (.tuple #[]) /\ Does O n w bb w' (renewP s) := renew_b h hI hc
end Go.Proofs.YtfohijnkeefcfaaGreatDoor
namespace Go.Proofs.YtfohijnkeefcfaaGreatDoor
open Go.RowKit
open S5 (ButA andNew PT IsA cell_lt below_alloc hide below_drewN)
variable {O : Nat -> Prop} {n : Nat} {w W : World} {bb : Nat} {s : PB} {c : Nat}
theorem t_after {t : TV} (hO : ∀ k, O k -> k < w.heap.size) {x y : World} {s1 : PB} (b : Below (tW w t).heap.size (tW w t) x) (d : Does O n x bb y s1) : y.cell? ⟨w.heap.size, 0, none⟩ = some (.int .i64 t.k) /\ y.cell? ⟨w.heap.size, 1, none⟩ = some (.string t.nm) /\ y.cell? ⟨w.heap.size, 2, none⟩ = some t.sv /\ y.cell? ⟨w.heap.size, 3, none⟩ = some (.bool t.cl) /\ y.cell? ⟨w.heap.size, 4, none⟩ = some (.string t.tx) := by
  obtain ⟨c0, c1, c2, c3, c4, _⟩ := t_box w t b
  have hg : ¬ O w.heap.size := fun ho => Nat.lt_irrefl _ (hO _ ho)
  exact ⟨d.kept c0 hg, d.kept c1 hg, d.kept c2 hg, d.kept c3 hg, d.kept c4 hg⟩
theorem renewKP_inv : ∀ (k i : Nat) (s : PB), PInv c s -> PInv c (renewKP k i s)
  | 0, _, _, h => h
  | k + 1, i, s, h => by
    rw [renewKP]
    cases hm : s.mr[i]? with
    | none => exact h
    | some m =>
      obtain ⟨hi, rfl⟩ := List.getElem?_eq_some_iff.1 hm
      exact renewKP_inv k (i + 1) _ (renewS_inv h hi)
theorem renew_inv (h : PInv c s) : PInv c (renewP s) := renewKP_inv _ _ _ h
def endP (s : PB) (sc : Int) (ex : ByteArray) (names : List (List UInt8)) : PB := if S6.hasZ s.op names sc then upP (impP s ex) names else s
theorem end_t (h : IsB O n w bb s) (hO : ∀ k, O k -> k < w.heap.size) (hI : PInv c s) (sc : Int) (ex : ByteArray) (names : List (List UInt8)) (hn : names.length <= 1000) (u : Value) (hW : S6.IsW w u names) (hu : ∀ k, u.ownBlock = some k -> ¬ O k) : Calls Tryz.prog 182 #[bP bb, .int .i64 sc, .string ex, u] w fun e w' => e = .returned (.bool (S6.hasZ s.op names sc)) /\ Does O n w bb w' (endP s sc ex names) := by
  have hnn := h.nL
  have hbb := h.bL
  have hL := hI.opL
  have H1 := hide (inScope_p h (by omega) sc names hn u hW)
  have H2 := hide (fun x (b : Below w.heap.size w x) => endImplied_p (h.below b) hI.ne (by omega) ex)
  have I1 := hI.imp ex
  have H3 := hide (fun O1 x (h : IsB O1 n x bb (impP s ex)) hW => popUpTo_p h I1.ne (by have := I1.opL; omega) names hn u (w := x) hW)
  have HK : Hid (∀ x y s1, Below w.heap.size w x -> Does O n x bb y s1 -> S6.IsW y u names) := hide (fun x y s1 b d => by
    rcases hW.below b with h0 | ⟨bk, o, cap, rfl, hc⟩
    · exact .inl h0
    · exact .inr ⟨bk, o, cap, rfl, fun j hj => d.kept (hc j hj) (hu bk rfl)⟩)
  have HI := hide h
  clear h
  unfold endP
  obtain ⟨a, cc, rfl⟩ := S6.isW_form hW
  clear hW
  cases hz : S6.hasZ s.op names sc with
  | false =>
    rw [hz] at H1
    go_enter Tryz.func182, Tryz.ntmps182
    go_wp2_with fail
    refine H1.out.mono ?_
    rintro e w1 ⟨rfl, b1⟩
    go_wp2
    go_ret
    exact ⟨rfl, Does.of HI.out b1⟩
  | true =>
    rw [hz] at H1
    go_enter Tryz.func182, Tryz.ntmps182
    go_wp2_with fail
    refine H1.out.mono ?_
    rintro e w1 ⟨rfl, b1⟩
    have B1 := hide b1
    clear b1
    go_wp2_with fail
    refine (H2.out _ B1.out).mono ?_
    rintro e w2 ⟨rfl, d2⟩
    have D2 := hide d2
    clear d2
    go_wp2_with fail
    refine (H3.out _ _ D2.out.1 (HK.out _ _ _ B1.out D2.out)).mono ?_
    rintro e w3 ⟨rfl, d3⟩
    go_wp2
    go_ret
    exact ⟨rfl, (D2.out.trans d3).ahead hnn B1.out hbb⟩
theorem bodyStart_block_t (h : IsB O n w bb s) (hO : ∀ k, O k -> k < w.heap.size) (hI : PInv c s) (t : TV) (ht : TOk O n w t) (h12 : S6.isL 12 t.nm.data.toList = false) (h6 : S6.isL 6 t.nm.data.toList = true) :
    Calls Tryz.prog 141 #[bP bb, tA t] w fun e w' => e = .returned (.tuple #[]) /\ Does O n w bb w' (elemP (closePP s) 0 t.nm t.aa) := by
  have hnn := h.nL
  have hbb := h.bL
  have hL := hI.opL
  have K12 := hide (S6.isp_12 t.nm)
  have K6 := hide (S6.isp_6 t.nm)
  rw [h12] at K12
  rw [h6] at K6
  have H1 := hide (fun x (b : Below w.heap.size w x) => closeP_p (h.below b) hI.ne (by omega))
  have H2 := hide (fun x y (b : Below w.heap.size w x) (d : Does O n x bb y (closePP s)) => insert_p d.1 hI.closeP t ((ht.below b).does d (Nat.le_trans hnn b.size)))
  have HB := hide (fun x (b : Below (tW w t).heap.size (tW w t) x) => t_box w t b)
  have HA := hide (fun x y s1 (b : Below (tW w t).heap.size (tW w t) x) (d : Does O n x bb y s1) => t_after hO b d)
  obtain ⟨va, vc, hva⟩ := S5.isA_form ht.1.1
  clear h ht h12 h6
  obtain ⟨k, nm, aa, sv, cl, tx⟩ := t
  simp only [] at K12 K6 H2 HB HA hva ⊢
  subst hva
  generalize aa.length = al at *
  obtain ⟨_, c1, c2, c3, c4, bb0⟩ := HB.out _ (Below.refl _ _)
  go_enter Tryz.func141, Tryz.ntmps141
  go_wp2_with fail
  refine (K12.out _).mono ?_
  rintro e w1 ⟨rfl, b1⟩
  have B1 := hide b1
  clear b1
  go_wp2_with fail
  refine (K6.out _).mono ?_
  rintro e w2 ⟨rfl, b2⟩
  have B2 := hide (B1.out.trans (b2.mono B1.out.size))
  clear b2
  go_wp2_with fail
  refine (H1.out _ (two_below B2.out)).mono ?_
  rintro e w3 ⟨rfl, d3⟩
  obtain ⟨g0, g1, g2, g3, g4⟩ := HA.out _ _ _ B2.out d3
  have D3 := hide d3
  clear d3
  go_wp2_with fail
  refine (H2.out _ _ (two_below B2.out) D3.out).mono ?_
  rintro e w4 ⟨rfl, d4⟩
  go_wp2
  go_end0
  exact ⟨rfl, (D3.out.trans d4).ahead hnn (two_below B2.out) hbb⟩
end Go.Proofs.YtfohijnkeefcfaaGreatDoor
namespace Go.Proofs.YtfohijnkeefcfaaGreatDoor
open Go.RowKit
open S5 (ButA andNew PT IsA cell_lt below_alloc hide below_drewN)
variable {O : Nat -> Prop} {n : Nat} {w W : World} {bb : Nat} {s : PB} {c : Nat}
def BC (F : Nat) (n bb : Nat) (t : TV) (s S : PB) : Prop := ∀ O1 y, IsB O1 n y bb s -> TOk O1 n y t -> Calls Tryz.prog F #[bP bb, tA t] y fun e w' => e = .returned (.tuple #[]) /\ Does O1 n y bb w' S
theorem names1 (w : World) (nm : ByteArray) : S6.IsW (w.alloc (.cells #[.string nm] 9)) (.slice (some ⟨w.heap.size, 0, none⟩) 1 1) [nm.data.toList] := by
  have h := names_built w [nm.data.toList]
  have e : S6.cellsOf [nm.data.toList] = #[.string nm] := by simp [S6.cellsOf]
  rw [e] at h
  exact h
theorem end_one (hI : PInv c s) (sc : Int) (ex nm : ByteArray) (O1 : Nat -> Prop) (y : World) (h : IsB O1 n y bb s) : Calls Tryz.prog 182 #[bP bb, .int .i64 sc, .string ex, .slice (some ⟨y.heap.size, 0, none⟩) 1 1] (y.alloc (.cells #[.string nm] 9)) fun e w' => e = .returned (.bool (S6.hasZ s.op [nm.data.toList] sc)) /\ Does O1 n y bb w' (endP s sc ex [nm.data.toList]) := by
  have b := below_alloc y (.cells #[.string nm] 9)
  refine (end_t (h.tight.below b) (fun k hk => Nat.lt_of_lt_of_le hk.2 b.size) hI sc ex [nm.data.toList] (by simp) _ (names1 y nm) (fun k e ho => ?_)).mono fun e w' ⟨a, d⟩ => ⟨a, (d.ahead h.nL b h.bL).wide h.nL⟩
  have : y.heap.size = k := by simpa [Value.ownBlock] using e
  omega
def fmtP (s : PB) (t : TV) : PB := markedP (renewP s) t
theorem startFormat_o_t (h : IsB O n w bb s) (hO : ∀ k, O k -> k < w.heap.size) (hI : PInv c s) (t : TV) (ht : TOk O n w t) (hc : c <= 300000000) (ha : (t.nm.toList == [97]) = false) (hn : (t.nm.toList == [110, 111, 98, 114]) = false) :
    Calls Tryz.prog 179 #[bP bb, tA t] w fun e w' => e = .returned (.tuple #[]) /\ Does O n w bb w' (fmtP s t) := by
  have hnn := h.nL
  have hbb := h.bL
  have hL := hI.opL
  have IR := renew_inv hI
  have HR := hide (fun O1 y (h : IsB O1 n y bb s) => renew_p h hI (by omega))
  have HM := hide (fun O1 y (h : IsB O1 n y bb (renewP s)) (ht : TOk O1 n y t) => insertMarked_p h IR (by omega) t ht)
  have HIS := hide (fun x (b : Below w.heap.size w x) => h.below b)
  have HTB := hide (fun x (b : Below w.heap.size w x) => ht.below b)
  have HTD := hide (fun x y s1 (b : Below w.heap.size w x) (d : Does O n x bb y s1) => (ht.below b).does d (Nat.le_trans hnn b.size))
  have HB := hide (fun x (b : Below (tW w t).heap.size (tW w t) x) => t_box w t b)
  have HA := hide (fun x y s1 (b : Below (tW w t).heap.size (tW w t) x) (d : Does O n x bb y s1) => t_after hO b d)
  obtain ⟨va, vc, hva⟩ := S5.isA_form ht.1.1
  clear h ht
  obtain ⟨k, nm, aa, sv, cl, tx⟩ := t
  simp only [] at HTB HTD HB HA hva ha hn HM ⊢
  subst hva
  generalize aa.length = al at *
  obtain ⟨c0, c1, c2, c3, c4, bb0⟩ := HB.out _ (Below.refl _ _)
  have B0 := hide (Below.refl (tW w ⟨k, nm, aa, .slice va al vc, cl, tx⟩).heap.size (tW w ⟨k, nm, aa, .slice va al vc, cl, tx⟩))
  go_enter Tryz.func179, Tryz.ntmps179
  go_wp2_with fail
  refine (HR.out _ _ (HIS.out _ (two_below B0.out))).mono ?_
  rintro e w1 ⟨rfl, d1⟩
  have D1 := hide d1
  clear d1
  have cc1 := HA.out _ _ _ B0.out D1.out
  clear c0 c1 c2 c3 c4
  obtain ⟨c0, c1, c2, c3, c4⟩ := cc1
  go_wp2_with fail
  refine (HM.out _ _ D1.out.1 (HTD.out _ _ _ (two_below B0.out) D1.out)).mono ?_
  rintro e w2 ⟨rfl, d2⟩
  have D2 := hide (D1.out.trans d2)
  clear d2
  have cc2 := HA.out _ _ _ B0.out D2.out
  clear c0 c1 c2 c3 c4
  obtain ⟨c0, c1, c2, c3, c4⟩ := cc2
  go_wp2
  go_end0
  exact ⟨rfl, D2.out.ahead hnn (two_below B0.out) hbb⟩
theorem startFormat_o_p (h : IsB O n w bb s) (hI : PInv c s) (t : TV) (ht : TOk O n w t) (hc : c <= 300000000) (ha : (t.nm.toList == [97]) = false) (hn : (t.nm.toList == [110, 111, 98, 114]) = false) :
    Calls Tryz.prog 179 #[bP bb, tA t] w fun e w' => e = .returned (.tuple #[]) /\ Does O n w bb w' (fmtP s t) :=
  (startFormat_o_t h.tight (fun k hk => hk.2) hI t ht.tight hc ha hn).mono fun e w' ⟨a, d⟩ => ⟨a, d.wide h.nL⟩
def plainP (s : PB) (t : TV) : PB := elemP (renewP s) 0 t.nm t.aa
theorem startNamed_span_t (h : IsB O n w bb s) (hO : ∀ k, O k -> k < w.heap.size) (hI : PInv c s) (t : TV) (ht : TOk O n w t) (hc : c <= 300000000) (hnm : t.nm = ⟨#[115, 112, 97, 110]⟩) :
    Calls Tryz.prog 180 #[bP bb, tA t] w fun e w' => e = .returned (.tuple #[]) /\ Does O n w bb w' (plainP s t) := by
  have hnn := h.nL
  have hbb := h.bL
  have hL := hI.opL
  have IR := renew_inv hI
  have HR := hide (fun O1 y (h : IsB O1 n y bb s) => renew_p h hI (by omega))
  have HM := hide (fun O1 y (h : IsB O1 n y bb (renewP s)) (ht : TOk O1 n y t) => insert_p h IR t ht)
  have HIS := hide (fun x (b : Below w.heap.size w x) => h.below b)
  have HTB := hide (fun x (b : Below w.heap.size w x) => ht.below b)
  have HTD := hide (fun x y s1 (b : Below w.heap.size w x) (d : Does O n x bb y s1) => (ht.below b).does d (Nat.le_trans hnn b.size))
  have HB := hide (fun x (b : Below (tW w t).heap.size (tW w t) x) => t_box w t b)
  have HA := hide (fun x y s1 (b : Below (tW w t).heap.size (tW w t) x) (d : Does O n x bb y s1) => t_after hO b d)
  obtain ⟨va, vc, hva⟩ := S5.isA_form ht.1.1
  clear h ht
  obtain ⟨k, nm, aa, sv, cl, tx⟩ := t
  simp only [] at HTB HTD HB HA hva hnm HM ⊢
  subst hva
  generalize aa.length = al at *
  obtain ⟨c0, c1, c2, c3, c4, bb0⟩ := HB.out _ (Below.refl _ _)
  have B0 := hide (Below.refl (tW w ⟨k, nm, aa, .slice va al vc, cl, tx⟩).heap.size (tW w ⟨k, nm, aa, .slice va al vc, cl, tx⟩))
  subst hnm
  go_enter Tryz.func180, Tryz.ntmps180
  go_wp2_with fail
  refine (HR.out _ _ (HIS.out _ (two_below B0.out))).mono ?_
  rintro e w1 ⟨rfl, d1⟩
  have D1 := hide d1
  clear d1
  have cc1 := HA.out _ _ _ B0.out D1.out
  clear c0 c1 c2 c3 c4
  obtain ⟨c0, c1, c2, c3, c4⟩ := cc1
  go_wp2_with fail
  refine (HM.out _ _ D1.out.1 (HTD.out _ _ _ (two_below B0.out) D1.out)).mono ?_
  rintro e w2 ⟨rfl, d2⟩
  have D2 := hide (D1.out.trans d2)
  clear d2
  have cc2 := HA.out _ _ _ B0.out D2.out
  clear c0 c1 c2 c3 c4
  obtain ⟨c0, c1, c2, c3, c4⟩ := cc2
  go_wp2
  go_end0
  exact ⟨rfl, D2.out.ahead hnn (two_below B0.out) hbb⟩
theorem startNamed_span_p (h : IsB O n w bb s) (hI : PInv c s) (t : TV) (ht : TOk O n w t) (hc : c <= 300000000) (hnm : t.nm = ⟨#[115, 112, 97, 110]⟩) :
    Calls Tryz.prog 180 #[bP bb, tA t] w fun e w' => e = .returned (.tuple #[]) /\ Does O n w bb w' (plainP s t) :=
  (startNamed_span_t h.tight (fun k hk => hk.2) hI t ht.tight hc hnm).mono fun e w' ⟨a, d⟩ => ⟨a, d.wide h.nL⟩
theorem bodyStart_format_t (h : IsB O n w bb s) (hO : ∀ k, O k -> k < w.heap.size) (hI : PInv c s) (t : TV) (ht : TOk O n w t) (h12 : S6.isL 12 t.nm.data.toList = false) (h6 : S6.isL 6 t.nm.data.toList = false) (h7 : S6.isL 7 t.nm.data.toList = false) (h5 : S6.isL 5 t.nm.data.toList = true) (S : PB) (HS : BC 179 n bb t s S) :
    Calls Tryz.prog 141 #[bP bb, tA t] w fun e w' => e = .returned (.tuple #[]) /\ Does O n w bb w' (S) := by
  have hnn := h.nL
  have hbb := h.bL
  have hL := hI.opL
  have K12 := hide (S6.isp_12 t.nm)
  rw [h12] at K12
  have K6 := hide (S6.isp_6 t.nm)
  rw [h6] at K6
  have K7 := hide (S6.isp_7 t.nm)
  rw [h7] at K7
  have K5 := hide (S6.isp_5 t.nm)
  rw [h5] at K5
  have HC := hide HS
  clear HS
  have HIS := hide (fun x (b : Below w.heap.size w x) => h.below b)
  have HTB := hide (fun x (b : Below w.heap.size w x) => ht.below b)
  have HTD := hide (fun x y s1 (b : Below w.heap.size w x) (d : Does O n x bb y s1) => (ht.below b).does d (Nat.le_trans hnn b.size))
  have HB := hide (fun x (b : Below (tW w t).heap.size (tW w t) x) => t_box w t b)
  have HA := hide (fun x y s1 (b : Below (tW w t).heap.size (tW w t) x) (d : Does O n x bb y s1) => t_after hO b d)
  obtain ⟨va, vc, hva⟩ := S5.isA_form ht.1.1
  clear h ht
  clear h12 h6 h7 h5
  obtain ⟨k, nm, aa, sv, cl, tx⟩ := t
  simp only [] at HTB HTD HB HA hva K12 K6 K7 K5 HC ⊢
  subst hva
  generalize aa.length = al at *
  obtain ⟨c0, c1, c2, c3, c4, bb0⟩ := HB.out _ (Below.refl _ _)
  have B0 := hide (Below.refl (tW w ⟨k, nm, aa, .slice va al vc, cl, tx⟩).heap.size (tW w ⟨k, nm, aa, .slice va al vc, cl, tx⟩))
  unfold BC at HC
  go_enter Tryz.func141, Tryz.ntmps141
  go_wp2_with fail
  refine (K12.out _).mono ?_
  rintro e w1 ⟨rfl, b1⟩
  have B1 := hide (B0.out.trans (b1.mono B0.out.size))
  clear b1
  have cc1 := HB.out _ B1.out
  clear c0 c1 c2 c3 c4
  obtain ⟨c0, c1, c2, c3, c4, _⟩ := cc1
  go_wp2_with fail
  refine (K6.out _).mono ?_
  rintro e w2 ⟨rfl, b2⟩
  have B2 := hide (B1.out.trans (b2.mono B1.out.size))
  clear b2
  have cc2 := HB.out _ B2.out
  clear c0 c1 c2 c3 c4
  obtain ⟨c0, c1, c2, c3, c4, _⟩ := cc2
  go_wp2_with fail
  refine (K7.out _).mono ?_
  rintro e w3 ⟨rfl, b3⟩
  have B3 := hide (B2.out.trans (b3.mono B2.out.size))
  clear b3
  have cc3 := HB.out _ B3.out
  clear c0 c1 c2 c3 c4
  obtain ⟨c0, c1, c2, c3, c4, _⟩ := cc3
  go_wp2_with fail
  refine (K5.out _).mono ?_
  rintro e w4 ⟨rfl, b4⟩
  have B4 := hide (B3.out.trans (b4.mono B3.out.size))
  clear b4
  have cc4 := HB.out _ B4.out
  clear c0 c1 c2 c3 c4
  obtain ⟨c0, c1, c2, c3, c4, _⟩ := cc4
  go_wp2_with fail
  refine (HC.out _ _ (HIS.out _ (two_below B4.out)) (HTB.out _ (two_below B4.out))).mono ?_
  rintro e w5 ⟨rfl, d5⟩
  have D5 := hide d5
  clear d5
  have cc5 := HA.out _ _ _ B4.out D5.out
  clear c0 c1 c2 c3 c4
  obtain ⟨c0, c1, c2, c3, c4⟩ := cc5
  go_wp2
  go_end0
  exact ⟨rfl, D5.out.ahead hnn (two_below B4.out) hbb⟩
theorem bodyStart_format_p (h : IsB O n w bb s) (hI : PInv c s) (t : TV) (ht : TOk O n w t) (h12 : S6.isL 12 t.nm.data.toList = false) (h6 : S6.isL 6 t.nm.data.toList = false) (h7 : S6.isL 7 t.nm.data.toList = false) (h5 : S6.isL 5 t.nm.data.toList = true) (S : PB) (HS : BC 179 n bb t s S) :
    Calls Tryz.prog 141 #[bP bb, tA t] w fun e w' => e = .returned (.tuple #[]) /\ Does O n w bb w' (S) :=
  (bodyStart_format_t h.tight (fun k hk => hk.2) hI t ht.tight h12 h6 h7 h5 S HS).mono fun e w' ⟨a, d⟩ => ⟨a, d.wide h.nL⟩
theorem bodyStart_named_t (h : IsB O n w bb s) (hO : ∀ k, O k -> k < w.heap.size) (hI : PInv c s) (t : TV) (ht : TOk O n w t) (h12 : S6.isL 12 t.nm.data.toList = false) (h6 : S6.isL 6 t.nm.data.toList = false) (h7 : S6.isL 7 t.nm.data.toList = false) (h5 : S6.isL 5 t.nm.data.toList = false) (h11 : S6.isL 11 t.nm.data.toList = false) (S : PB) (HS : BC 180 n bb t s S) :
    Calls Tryz.prog 141 #[bP bb, tA t] w fun e w' => e = .returned (.tuple #[]) /\ Does O n w bb w' (S) := by
  have hnn := h.nL
  have hbb := h.bL
  have hL := hI.opL
  have K12 := hide (S6.isp_12 t.nm)
  rw [h12] at K12
  have K6 := hide (S6.isp_6 t.nm)
  rw [h6] at K6
  have K7 := hide (S6.isp_7 t.nm)
  rw [h7] at K7
  have K5 := hide (S6.isp_5 t.nm)
  rw [h5] at K5
  have K11 := hide (S6.isp_11 t.nm)
  rw [h11] at K11
  have HC := hide HS
  clear HS
  have HIS := hide (fun x (b : Below w.heap.size w x) => h.below b)
  have HTB := hide (fun x (b : Below w.heap.size w x) => ht.below b)
  have HTD := hide (fun x y s1 (b : Below w.heap.size w x) (d : Does O n x bb y s1) => (ht.below b).does d (Nat.le_trans hnn b.size))
  have HB := hide (fun x (b : Below (tW w t).heap.size (tW w t) x) => t_box w t b)
  have HA := hide (fun x y s1 (b : Below (tW w t).heap.size (tW w t) x) (d : Does O n x bb y s1) => t_after hO b d)
  obtain ⟨va, vc, hva⟩ := S5.isA_form ht.1.1
  clear h ht
  clear h12 h6 h7 h5 h11
  obtain ⟨k, nm, aa, sv, cl, tx⟩ := t
  simp only [] at HTB HTD HB HA hva K12 K6 K7 K5 K11 HC ⊢
  subst hva
  generalize aa.length = al at *
  obtain ⟨c0, c1, c2, c3, c4, bb0⟩ := HB.out _ (Below.refl _ _)
  have B0 := hide (Below.refl (tW w ⟨k, nm, aa, .slice va al vc, cl, tx⟩).heap.size (tW w ⟨k, nm, aa, .slice va al vc, cl, tx⟩))
  unfold BC at HC
  go_enter Tryz.func141, Tryz.ntmps141
  go_wp2_with fail
  refine (K12.out _).mono ?_
  rintro e w1 ⟨rfl, b1⟩
  have B1 := hide (B0.out.trans (b1.mono B0.out.size))
  clear b1
  have cc1 := HB.out _ B1.out
  clear c0 c1 c2 c3 c4
  obtain ⟨c0, c1, c2, c3, c4, _⟩ := cc1
  go_wp2_with fail
  refine (K6.out _).mono ?_
  rintro e w2 ⟨rfl, b2⟩
  have B2 := hide (B1.out.trans (b2.mono B1.out.size))
  clear b2
  have cc2 := HB.out _ B2.out
  clear c0 c1 c2 c3 c4
  obtain ⟨c0, c1, c2, c3, c4, _⟩ := cc2
  go_wp2_with fail
  refine (K7.out _).mono ?_
  rintro e w3 ⟨rfl, b3⟩
  have B3 := hide (B2.out.trans (b3.mono B2.out.size))
  clear b3
  have cc3 := HB.out _ B3.out
  clear c0 c1 c2 c3 c4
  obtain ⟨c0, c1, c2, c3, c4, _⟩ := cc3
  go_wp2_with fail
  refine (K5.out _).mono ?_
  rintro e w4 ⟨rfl, b4⟩
  have B4 := hide (B3.out.trans (b4.mono B3.out.size))
  clear b4
  have cc4 := HB.out _ B4.out
  clear c0 c1 c2 c3 c4
  obtain ⟨c0, c1, c2, c3, c4, _⟩ := cc4
  go_wp2_with fail
  refine (K11.out _).mono ?_
  rintro e w5 ⟨rfl, b5⟩
  have B5 := hide (B4.out.trans (b5.mono B4.out.size))
  clear b5
  have cc5 := HB.out _ B5.out
  clear c0 c1 c2 c3 c4
  obtain ⟨c0, c1, c2, c3, c4, _⟩ := cc5
  go_wp2_with fail
  refine (HC.out _ _ (HIS.out _ (two_below B5.out)) (HTB.out _ (two_below B5.out))).mono ?_
  rintro e w6 ⟨rfl, d6⟩
  have D6 := hide d6
  clear d6
  have cc6 := HA.out _ _ _ B5.out D6.out
  clear c0 c1 c2 c3 c4
  obtain ⟨c0, c1, c2, c3, c4⟩ := cc6
  go_wp2
  go_end0
  exact ⟨rfl, D6.out.ahead hnn (two_below B5.out) hbb⟩
theorem bodyStart_named_p (h : IsB O n w bb s) (hI : PInv c s) (t : TV) (ht : TOk O n w t) (h12 : S6.isL 12 t.nm.data.toList = false) (h6 : S6.isL 6 t.nm.data.toList = false) (h7 : S6.isL 7 t.nm.data.toList = false) (h5 : S6.isL 5 t.nm.data.toList = false) (h11 : S6.isL 11 t.nm.data.toList = false) (S : PB) (HS : BC 180 n bb t s S) :
    Calls Tryz.prog 141 #[bP bb, tA t] w fun e w' => e = .returned (.tuple #[]) /\ Does O n w bb w' (S) :=
  (bodyStart_named_t h.tight (fun k hk => hk.2) hI t ht.tight h12 h6 h7 h5 h11 S HS).mono fun e w' ⟨a, d⟩ => ⟨a, d.wide h.nL⟩
end Go.Proofs.YtfohijnkeefcfaaGreatDoor
namespace Go.Proofs.YtfohijnkeefcfaaGreatDoor
open Go.RowKit
open S5 (ButA andNew PT IsA cell_lt below_alloc hide below_drewN)
variable {O : Nat -> Prop} {n : Nat} {w W : World} {bb : Nat} {s : PB} {c : Nat}
def bodyTextP (s : PB) (t : List UInt8) : PB := textP (renewP s) t
theorem body_text_t (h : IsB O n w bb s) (hO : ∀ k, O k -> k < w.heap.size) (hI : PInv c s) (t : TV) (ht : TOk O n w t) (hc : c <= 300000000) (hk : t.k = 1) (hx : t.tx.size <= 300000000) :
    Calls Tryz.prog 85 #[bP bb, tA t] w fun e w' => e = .returned (.tuple #[]) /\ Does O n w bb w' (bodyTextP s t.tx.data.toList) := by
  have hnn := h.nL
  have hbb := h.bL
  have hL := hI.opL
  have IR := renew_inv hI
  have HR := hide (fun O1 y (h : IsB O1 n y bb s) => renew_p h hI (by omega))
  have HM := hide (fun O1 y (h : IsB O1 n y bb (renewP s)) => insertText_p h IR (by omega) t.tx (by omega))
  have HIS := hide (fun x (b : Below w.heap.size w x) => h.below b)
  have HTB := hide (fun x (b : Below w.heap.size w x) => ht.below b)
  have HTD := hide (fun x y s1 (b : Below w.heap.size w x) (d : Does O n x bb y s1) => (ht.below b).does d (Nat.le_trans hnn b.size))
  have HB := hide (fun x (b : Below (tW w t).heap.size (tW w t) x) => t_box w t b)
  have HA := hide (fun x y s1 (b : Below (tW w t).heap.size (tW w t) x) (d : Does O n x bb y s1) => t_after hO b d)
  obtain ⟨va, vc, hva⟩ := S5.isA_form ht.1.1
  clear h ht
  obtain ⟨k, nm, aa, sv, cl, tx⟩ := t
  simp only [] at HTB HTD HB HA hva hk HM ⊢
  subst hva
  generalize aa.length = al at *
  obtain ⟨c0, c1, c2, c3, c4, bb0⟩ := HB.out _ (Below.refl _ _)
  have B0 := hide (Below.refl (tW w ⟨k, nm, aa, .slice va al vc, cl, tx⟩).heap.size (tW w ⟨k, nm, aa, .slice va al vc, cl, tx⟩))
  subst hk
  go_enter Tryz.func85, Tryz.ntmps85
  go_wp2_with fail
  refine (HR.out _ _ (HIS.out _ (two_below B0.out))).mono ?_
  rintro e w1 ⟨rfl, d1⟩
  have D1 := hide d1
  clear d1
  have cc1 := HA.out _ _ _ B0.out D1.out
  clear c0 c1 c2 c3 c4
  obtain ⟨c0, c1, c2, c3, c4⟩ := cc1
  go_wp2_with fail
  refine (HM.out _ _ D1.out.1).mono ?_
  rintro e w2 ⟨rfl, d2⟩
  have D2 := hide (D1.out.trans d2)
  clear d2
  have cc2 := HA.out _ _ _ B0.out D2.out
  clear c0 c1 c2 c3 c4
  obtain ⟨c0, c1, c2, c3, c4⟩ := cc2
  go_wp2
  go_end0
  exact ⟨rfl, D2.out.ahead hnn (two_below B0.out) hbb⟩
theorem body_text_p (h : IsB O n w bb s) (hI : PInv c s) (t : TV) (ht : TOk O n w t) (hc : c <= 300000000) (hk : t.k = 1) (hx : t.tx.size <= 300000000) :
    Calls Tryz.prog 85 #[bP bb, tA t] w fun e w' => e = .returned (.tuple #[]) /\ Does O n w bb w' (bodyTextP s t.tx.data.toList) :=
  (body_text_t h.tight (fun k hk => hk.2) hI t ht.tight hc hk hx).mono fun e w' ⟨a, d⟩ => ⟨a, d.wide h.nL⟩
theorem body_start_t (h : IsB O n w bb s) (hO : ∀ k, O k -> k < w.heap.size) (hI : PInv c s) (t : TV) (ht : TOk O n w t) (hk : t.k = 2) (S : PB) (HS : BC 141 n bb t s S) :
    Calls Tryz.prog 85 #[bP bb, tA t] w fun e w' => e = .returned (.tuple #[]) /\ Does O n w bb w' (S) := by
  have hnn := h.nL
  have hbb := h.bL
  have hL := hI.opL
  have HC := hide HS
  clear HS
  have HIS := hide (fun x (b : Below w.heap.size w x) => h.below b)
  have HTB := hide (fun x (b : Below w.heap.size w x) => ht.below b)
  have HTD := hide (fun x y s1 (b : Below w.heap.size w x) (d : Does O n x bb y s1) => (ht.below b).does d (Nat.le_trans hnn b.size))
  have HB := hide (fun x (b : Below (tW w t).heap.size (tW w t) x) => t_box w t b)
  have HA := hide (fun x y s1 (b : Below (tW w t).heap.size (tW w t) x) (d : Does O n x bb y s1) => t_after hO b d)
  obtain ⟨va, vc, hva⟩ := S5.isA_form ht.1.1
  clear h ht
  obtain ⟨k, nm, aa, sv, cl, tx⟩ := t
  simp only [] at HTB HTD HB HA hva hk HC ⊢
  subst hva
  generalize aa.length = al at *
  obtain ⟨c0, c1, c2, c3, c4, bb0⟩ := HB.out _ (Below.refl _ _)
  have B0 := hide (Below.refl (tW w ⟨k, nm, aa, .slice va al vc, cl, tx⟩).heap.size (tW w ⟨k, nm, aa, .slice va al vc, cl, tx⟩))
  subst hk
  unfold BC at HC
  go_enter Tryz.func85, Tryz.ntmps85
  go_wp2_with fail
  refine (HC.out _ _ (HIS.out _ (two_below B0.out)) (HTB.out _ (two_below B0.out))).mono ?_
  rintro e w1 ⟨rfl, d1⟩
  have D1 := hide d1
  clear d1
  have cc1 := HA.out _ _ _ B0.out D1.out
  clear c0 c1 c2 c3 c4
  obtain ⟨c0, c1, c2, c3, c4⟩ := cc1
  go_wp2
  go_end0
  exact ⟨rfl, D1.out.ahead hnn (two_below B0.out) hbb⟩
theorem body_start_p (h : IsB O n w bb s) (hI : PInv c s) (t : TV) (ht : TOk O n w t) (hk : t.k = 2) (S : PB) (HS : BC 141 n bb t s S) :
    Calls Tryz.prog 85 #[bP bb, tA t] w fun e w' => e = .returned (.tuple #[]) /\ Does O n w bb w' (S) :=
  (body_start_t h.tight (fun k hk => hk.2) hI t ht.tight hk S HS).mono fun e w' ⟨a, d⟩ => ⟨a, d.wide h.nL⟩
theorem body_stop_t (h : IsB O n w bb s) (hO : ∀ k, O k -> k < w.heap.size) (hI : PInv c s) (t : TV) (ht : TOk O n w t) (hk : t.k = 3) (S : PB) (HS : BC 142 n bb t s S) :
    Calls Tryz.prog 85 #[bP bb, tA t] w fun e w' => e = .returned (.tuple #[]) /\ Does O n w bb w' (S) := by
  have hnn := h.nL
  have hbb := h.bL
  have hL := hI.opL
  have HC := hide HS
  clear HS
  have HIS := hide (fun x (b : Below w.heap.size w x) => h.below b)
  have HTB := hide (fun x (b : Below w.heap.size w x) => ht.below b)
  have HTD := hide (fun x y s1 (b : Below w.heap.size w x) (d : Does O n x bb y s1) => (ht.below b).does d (Nat.le_trans hnn b.size))
  have HB := hide (fun x (b : Below (tW w t).heap.size (tW w t) x) => t_box w t b)
  have HA := hide (fun x y s1 (b : Below (tW w t).heap.size (tW w t) x) (d : Does O n x bb y s1) => t_after hO b d)
  obtain ⟨va, vc, hva⟩ := S5.isA_form ht.1.1
  clear h ht
  obtain ⟨k, nm, aa, sv, cl, tx⟩ := t
  simp only [] at HTB HTD HB HA hva hk HC ⊢
  subst hva
  generalize aa.length = al at *
  obtain ⟨c0, c1, c2, c3, c4, bb0⟩ := HB.out _ (Below.refl _ _)
  have B0 := hide (Below.refl (tW w ⟨k, nm, aa, .slice va al vc, cl, tx⟩).heap.size (tW w ⟨k, nm, aa, .slice va al vc, cl, tx⟩))
  subst hk
  unfold BC at HC
  go_enter Tryz.func85, Tryz.ntmps85
  go_wp2_with fail
  refine (HC.out _ _ (HIS.out _ (two_below B0.out)) (HTB.out _ (two_below B0.out))).mono ?_
  rintro e w1 ⟨rfl, d1⟩
  have D1 := hide d1
  clear d1
  have cc1 := HA.out _ _ _ B0.out D1.out
  clear c0 c1 c2 c3 c4
  obtain ⟨c0, c1, c2, c3, c4⟩ := cc1
  go_wp2
  go_end0
  exact ⟨rfl, D1.out.ahead hnn (two_below B0.out) hbb⟩
theorem body_stop_p (h : IsB O n w bb s) (hI : PInv c s) (t : TV) (ht : TOk O n w t) (hk : t.k = 3) (S : PB) (HS : BC 142 n bb t s S) :
    Calls Tryz.prog 85 #[bP bb, tA t] w fun e w' => e = .returned (.tuple #[]) /\ Does O n w bb w' (S) :=
  (body_stop_t h.tight (fun k hk => hk.2) hI t ht.tight hk S HS).mono fun e w' ⟨a, d⟩ => ⟨a, d.wide h.nL⟩
theorem bodyStop_block_t (h : IsB O n w bb s) (hO : ∀ k, O k -> k < w.heap.size) (hI : PInv c s) (t : TV) (ht : TOk O n w t) (h12 : S6.isL 12 t.nm.data.toList = false) (h7 : S6.isL 7 t.nm.data.toList = false) (h6 : S6.isL 6 t.nm.data.toList = true) (np : (t.nm.toList == [112]) = false) (nli : (t.nm.toList == [108, 105]) = false) (ndd : (t.nm.toList == [100, 100]) = false) (ndt : (t.nm.toList == [100, 116]) = false) :
    Calls Tryz.prog 142 #[bP bb, tA t] w fun e w' => e = .returned (.tuple #[]) /\ Does O n w bb w' (endP s 1 ⟨#[]⟩ [t.nm.data.toList]) := by
  have hnn := h.nL
  have hbb := h.bL
  have hL := hI.opL
  have K12 := hide (S6.isp_12 t.nm)
  rw [h12] at K12
  have K7 := hide (S6.isp_7 t.nm)
  rw [h7] at K7
  have K6 := hide (S6.isp_6 t.nm)
  rw [h6] at K6
  have HC := hide (fun O1 y (h : IsB O1 n y bb s) => end_one hI 1 ⟨#[]⟩ t.nm O1 y h)
  have HIS := hide (fun x (b : Below w.heap.size w x) => h.below b)
  have HTB := hide (fun x (b : Below w.heap.size w x) => ht.below b)
  have HTD := hide (fun x y s1 (b : Below w.heap.size w x) (d : Does O n x bb y s1) => (ht.below b).does d (Nat.le_trans hnn b.size))
  have HB := hide (fun x (b : Below (tW w t).heap.size (tW w t) x) => t_box w t b)
  have HA := hide (fun x y s1 (b : Below (tW w t).heap.size (tW w t) x) (d : Does O n x bb y s1) => t_after hO b d)
  obtain ⟨va, vc, hva⟩ := S5.isA_form ht.1.1
  clear h ht
  clear h12 h7 h6
  obtain ⟨k, nm, aa, sv, cl, tx⟩ := t
  simp only [] at HTB HTD HB HA hva K12 K7 K6 HC np nli ndd ndt ⊢
  subst hva
  generalize aa.length = al at *
  obtain ⟨c0, c1, c2, c3, c4, bb0⟩ := HB.out _ (Below.refl _ _)
  have B0 := hide (Below.refl (tW w ⟨k, nm, aa, .slice va al vc, cl, tx⟩).heap.size (tW w ⟨k, nm, aa, .slice va al vc, cl, tx⟩))
  go_enter Tryz.func142, Tryz.ntmps142
  go_wp2_with fail
  refine (K12.out _).mono ?_
  rintro e w1 ⟨rfl, b1⟩
  have B1 := hide (B0.out.trans (b1.mono B0.out.size))
  clear b1
  have cc1 := HB.out _ B1.out
  clear c0 c1 c2 c3 c4
  obtain ⟨c0, c1, c2, c3, c4, _⟩ := cc1
  go_wp2_with fail
  refine (K7.out _).mono ?_
  rintro e w2 ⟨rfl, b2⟩
  have B2 := hide (B1.out.trans (b2.mono B1.out.size))
  clear b2
  have cc2 := HB.out _ B2.out
  clear c0 c1 c2 c3 c4
  obtain ⟨c0, c1, c2, c3, c4, _⟩ := cc2
  go_wp2_with fail
  refine (K6.out _).mono ?_
  rintro e w3 ⟨rfl, b3⟩
  have B3 := hide (B2.out.trans (b3.mono B2.out.size))
  clear b3
  have cc3 := HB.out _ B3.out
  clear c0 c1 c2 c3 c4
  obtain ⟨c0, c1, c2, c3, c4, _⟩ := cc3
  go_wp2_with fail
  refine (HC.out _ _ (HIS.out _ (two_below B3.out))).mono ?_
  rintro e w4 ⟨rfl, d4⟩
  have D4 := hide d4
  clear d4
  have cc4 := HA.out _ _ _ B3.out D4.out
  clear c0 c1 c2 c3 c4
  obtain ⟨c0, c1, c2, c3, c4⟩ := cc4
  go_wp2
  go_end0
  exact ⟨rfl, D4.out.ahead hnn (two_below B3.out) hbb⟩
theorem bodyStop_block_p (h : IsB O n w bb s) (hI : PInv c s) (t : TV) (ht : TOk O n w t) (h12 : S6.isL 12 t.nm.data.toList = false) (h7 : S6.isL 7 t.nm.data.toList = false) (h6 : S6.isL 6 t.nm.data.toList = true) (np : (t.nm.toList == [112]) = false) (nli : (t.nm.toList == [108, 105]) = false) (ndd : (t.nm.toList == [100, 100]) = false) (ndt : (t.nm.toList == [100, 116]) = false) :
    Calls Tryz.prog 142 #[bP bb, tA t] w fun e w' => e = .returned (.tuple #[]) /\ Does O n w bb w' (endP s 1 ⟨#[]⟩ [t.nm.data.toList]) :=
  (bodyStop_block_t h.tight (fun k hk => hk.2) hI t ht.tight h12 h7 h6 np nli ndd ndt).mono fun e w' ⟨a, d⟩ => ⟨a, d.wide h.nL⟩
theorem takeByRules_body_t (h : IsB O n w bb s) (hO : ∀ k, O k -> k < w.heap.size) (hI : PInv c s) (t : TV) (ht : TOk O n w t) (he : s.e = 0) (hr : s.ru = 0) (S : PB) (HS : BC 85 n bb t s S) :
    Calls Tryz.prog 53 #[bP bb, tA t] w fun e w' => e = .returned (.tuple #[]) /\ Does O n w bb w' (S) := by
  have hnn := h.nL
  have hbb := h.bL
  have hL := hI.opL
  have HC := hide HS
  clear HS
  have HE : Hid (∀ x, Below w.heap.size w x -> x.cell? ⟨bb, 8, none⟩ = some (.int .i64 0) /\ x.cell? ⟨bb, 3, none⟩ = some (.int .i64 0)) := hide (fun x b => by
    obtain ⟨pb, og, cap, mv, A, v⟩ := h.below b
    have g8 := v.cs 8 (by omega)
    have g3 := v.cs 3 (by omega)
    simp only [fv, List.getElem?_cons_succ, List.getElem?_cons_zero, he, hr] at g8 g3
    exact ⟨g8, g3⟩)
  have HIS := hide (fun x (b : Below w.heap.size w x) => h.below b)
  have HTB := hide (fun x (b : Below w.heap.size w x) => ht.below b)
  have HTD := hide (fun x y s1 (b : Below w.heap.size w x) (d : Does O n x bb y s1) => (ht.below b).does d (Nat.le_trans hnn b.size))
  have HB := hide (fun x (b : Below (tW w t).heap.size (tW w t) x) => t_box w t b)
  have HA := hide (fun x y s1 (b : Below (tW w t).heap.size (tW w t) x) (d : Does O n x bb y s1) => t_after hO b d)
  obtain ⟨va, vc, hva⟩ := S5.isA_form ht.1.1
  clear h ht
  obtain ⟨k, nm, aa, sv, cl, tx⟩ := t
  simp only [] at HTB HTD HB HA hva HC ⊢
  subst hva
  generalize aa.length = al at *
  obtain ⟨c0, c1, c2, c3, c4, bb0⟩ := HB.out _ (Below.refl _ _)
  have B0 := hide (Below.refl (tW w ⟨k, nm, aa, .slice va al vc, cl, tx⟩).heap.size (tW w ⟨k, nm, aa, .slice va al vc, cl, tx⟩))
  unfold BC at HC
  obtain ⟨e8, e3⟩ := HE.out _ bb0
  go_enter Tryz.func53, Tryz.ntmps53
  go_wp2_with fail
  refine (HC.out _ _ (HIS.out _ (two_below B0.out)) (HTB.out _ (two_below B0.out))).mono ?_
  rintro e w1 ⟨rfl, d1⟩
  have D1 := hide d1
  clear d1
  have cc1 := HA.out _ _ _ B0.out D1.out
  clear c0 c1 c2 c3 c4
  obtain ⟨c0, c1, c2, c3, c4⟩ := cc1
  go_wp2
  go_end0
  exact ⟨rfl, D1.out.ahead hnn (two_below B0.out) hbb⟩
theorem takeByRules_body_p (h : IsB O n w bb s) (hI : PInv c s) (t : TV) (ht : TOk O n w t) (he : s.e = 0) (hr : s.ru = 0) (S : PB) (HS : BC 85 n bb t s S) :
    Calls Tryz.prog 53 #[bP bb, tA t] w fun e w' => e = .returned (.tuple #[]) /\ Does O n w bb w' (S) :=
  (takeByRules_body_t h.tight (fun k hk => hk.2) hI t ht.tight he hr S HS).mono fun e w' ⟨a, d⟩ => ⟨a, d.wide h.nL⟩
theorem isForeign_html (h : IsB O n w bb s) (hI : PInv c s) (t : TV) (ht : TOk O n w t) (hs : (curP s).sp = 0) : Calls Tryz.prog 51 #[bP bb, tA t] w fun e w' => e = .returned (.bool false) /\ Below w.heap.size w w' := by
  have hL := hI.opL
  have HC := hide (fun x (b : Below w.heap.size w x) => current_p (h.below b) hI.ne (by omega))
  have HF := hide (foreign_p (curP s))
  rw [hs] at HF
  have HB := hide (fun x (b : Below (tW w t).heap.size (tW w t) x) => t_box w t b)
  obtain ⟨va, vc, hva⟩ := S5.isA_form ht.1.1
  clear h ht
  generalize curP s = C at *
  obtain ⟨cid, csp, cnm⟩ := C
  simp only [] at hs HF HC
  subst hs
  obtain ⟨k, nm, aa, sv, cl, tx⟩ := t
  simp only [] at hva HB ⊢
  subst hva
  generalize aa.length = al at *
  obtain ⟨c0, _, _, _, _, bb0⟩ := HB.out _ (Below.refl _ _)
  go_enter Tryz.func51, Tryz.ntmps51
  go_wp2_with fail
  refine (HC.out _ bb0).mono ?_
  rintro e w1 ⟨rfl, b1⟩
  obtain ⟨q0, _, _, _, _, B1⟩ := HB.out _ b1
  have BB1 := hide B1
  have hws : w.heap.size < w1.heap.size := cell_lt q0
  clear b1 B1
  rcases (by omega : k = 1 \/ k = 2 \/ (¬ k = 1 /\ ¬ k = 2)) with rfl | rfl | ⟨h1, h2⟩
  rotate_left 2
  have e1 : (k == 1) = false := by rw [beq_eq_false_iff_ne]; exact h1
  have e2 : (k == 2) = false := by rw [beq_eq_false_iff_ne]; exact h2
  clear h1 h2
  all_goals
    go_wp2_with fail
    refine (HF.out _).mono ?_
    rintro e w2 ⟨rfl, b2⟩
    go_wp2
    go_ret
    exact ⟨rfl, BB1.out.trans ((two_below b2).mono BB1.out.size)⟩
def unskP (s : PB) : PB := { s with sk := false }
theorem take_rules_t (h : IsB O n w bb s) (hO : ∀ k, O k -> k < w.heap.size) (hI : PInv c s) (t : TV) (ht : TOk O n w t) (hk : (t.k == 5) = false) (hm : s.mo = 0) (hf : (curP s).sp = 0) (hs : s.sk = false) (S : PB) (HS : BC 53 n bb t (unskP s) S) :
    Calls Tryz.prog 33 #[bP bb, tA t] w fun e w' => e = .returned (.tuple #[]) /\ Does O n w bb w' S := by
  have hnn := h.nL
  have hbb := h.bL
  have IU : PInv c (unskP s) := { hd := hI.hd, opL := hI.opL, wf := hI.wf, t0 := hI.t0, tL := hI.tL, mrL := hI.mrL, aaL := hI.aaL, txL := hI.txL, atL := hI.atL }
  have HC := hide HS
  clear HS
  obtain ⟨pb, og, cap, mv, A, v⟩ := h
  have e7 : w.cell? ⟨bb, 7, none⟩ = some (.bool false) := by
    have g := v.cs 7 (by omega)
    simp only [fv, List.getElem?_cons_succ, List.getElem?_cons_zero, hs] at g
    exact g
  have e4 : w.cell? ⟨bb, 4, none⟩ = some (.int .i64 0) := by
    have g := v.cs 4 (by omega)
    simp only [fv, List.getElem?_cons_succ, List.getElem?_cons_zero, hm] at g
    exact g
  have f7 := v.fz 7
  have hv1 := v.scal 7 (by omega) (by omega) (.bool false) (unskP s) rfl rfl rfl rfl
  have d1 : Does O n w bb (w.setCell ⟨bb, 7, none⟩ (.bool false)) (unskP s) := hv1.does v.nL ((ButA.refl _ _).setCell (.inl v.bO) _) (set0 _ _ _ (by decide) _)
  have h1 : IsB O n (w.setCell ⟨bb, 7, none⟩ (.bool false)) bb (unskP s) := ⟨_, _, _, _, _, hv1⟩
  have ht1 : TOk O n (w.setCell ⟨bb, 7, none⟩ (.bool false)) t := ⟨⟨isA_keep' ht.1.1 fun h0 k e => Below.heap_setCell _ _ _ _ (fun he => (ht.1.2 h0 k e).2 (show O k from (he : k = bb) ▸ v.bO)), ht.1.2⟩, ht.2⟩
  have hz1 : (w.setCell ⟨bb, 7, none⟩ (.bool false)).heap.size = w.heap.size := by simp [World.setCell]
  have HD1 := hide d1
  have HF := hide (fun x (b : Below (w.setCell ⟨bb, 7, none⟩ (.bool false)).heap.size (w.setCell ⟨bb, 7, none⟩ (.bool false)) x) => isForeign_html (h1.below b) IU t (ht1.below b) hf)
  have HR := hide (fun x (b : Below (w.setCell ⟨bb, 7, none⟩ (.bool false)).heap.size (w.setCell ⟨bb, 7, none⟩ (.bool false)) x) => HC.out O x (h1.below b) (ht1.below b))
  have HB := hide (fun x (b : Below (tW (w.setCell ⟨bb, 7, none⟩ (.bool false)) t).heap.size (tW (w.setCell ⟨bb, 7, none⟩ (.bool false)) t) x) => t_box (w.setCell ⟨bb, 7, none⟩ (.bool false)) t b)
  rw [hz1] at HB
  have HN : Hid (∀ x y, Below (w.setCell ⟨bb, 7, none⟩ (.bool false)).heap.size (w.setCell ⟨bb, 7, none⟩ (.bool false)) x -> Does O n x bb y S -> Does O n w bb y S) := hide (fun x y b d => by
    have d2 := d.ahead h1.nL b h1.bL
    refine ⟨d2.1.mono (fun k hk => ?_) (fun k hl hk => ?_), d1.2.1.trans d2.2.1 fun _ _ ho => ho, d2.2.2.trans d1.2.2⟩
    · rw [hz1] at hk; exact hk
    · rw [hz1]; exact hk)
  obtain ⟨va, vc, hva⟩ := S5.isA_form ht.1.1
  clear h1 ht1 hv1 d1 v ht HC
  obtain ⟨k, nm, aa, sv, cl, tx⟩ := t
  simp only [] at HF HR HB hva hk ⊢
  subst hva
  generalize aa.length = al at *
  go_enter Tryz.func33, Tryz.ntmps33
  go_wp2_with fail
  generalize hW1 : w.setCell ⟨bb, 7, none⟩ (.bool false) = W1 at *
  refine (HF.out _ (below_alloc _ _)).mono ?_
  rintro e w1 ⟨rfl, b1⟩
  obtain ⟨c0, c1, c2, c3, c4, B1⟩ := HB.out _ b1
  have BB1 : Hid (Below W1.heap.size W1 w1) := hide (by rw [hz1]; exact B1)
  clear b1 B1
  go_wp2_with fail
  refine (HR.out _ BB1.out).mono ?_
  rintro e w2 ⟨rfl, d2⟩
  have D2 := hide (HN.out _ _ BB1.out d2)
  clear d2
  go_wp2
  go_end0
  exact ⟨rfl, D2.out⟩
theorem take_rules_p (h : IsB O n w bb s) (hI : PInv c s) (t : TV) (ht : TOk O n w t) (hk : (t.k == 5) = false) (hm : s.mo = 0) (hf : (curP s).sp = 0) (hs : s.sk = false) (S : PB) (HS : BC 53 n bb t (unskP s) S) :
    Calls Tryz.prog 33 #[bP bb, tA t] w fun e w' => e = .returned (.tuple #[]) /\ Does O n w bb w' S :=
  (take_rules_t h.tight (fun k hk => hk.2) hI t ht.tight hk hm hf hs S HS).mono fun e w' ⟨a, d⟩ => ⟨a, d.wide h.nL⟩
end Go.Proofs.YtfohijnkeefcfaaGreatDoor
namespace Go.Proofs.YtfohijnkeefcfaaGreatDoor
open S5 (TR)
structure Rel0 (s : PB) (m : BS) : Prop where
  T : s.T = m.T
  op : s.op = vs m.op
  mr : IsM s.mr m.mr
  ru : s.ru = (m.rules : Int)
  mo : s.mo = m.mode
  nm : m.mode ≠ 0 -> s.nm.data.toList = m.name
  fo : s.fo = m.fost
  sk : s.sk = m.skip
def Rel (s : PB) (m : BS) : Prop := s.e = m.e /\ (m.e = 0 -> Rel0 s m)
theorem cur_rel {s : PB} {m : BS} (h : Rel0 s m) (hd : m.op ≠ []) : curP s = (curB m).v := by
  unfold curP curB
  rw [h.op]
  unfold vs
  rw [List.getLast?_map]
  cases hq : m.op.getLast? with
  | none => exact absurd (List.getLast?_eq_none_iff.1 hq) hd
  | some o => rfl
theorem nextR_name (n n' : List UInt8) (f : Bool) (r : List UInt8) : S4.nextR 0 n f r = S4.nextR 0 n' f r := by
  unfold S4.nextR
  split
  · rfl
  · simp
end Go.Proofs.YtfohijnkeefcfaaGreatDoor
namespace Go.Proofs.YtfohijnkeefcfaaGreatDoor
open S5 (TR kidsAt nodeAt parentN appendL beforeL withinL)
def optZ : Option Nat -> Int
  | none => -1
  | some k => (k : Int)
theorem isP_v (o : OM) (names : List Bs) : isP o.v names = isO o names := by
  unfold isP S6.namedL S6.htmlL isO OM.v
  simp
theorem place_rel {s : PB} {m : BS} (h : Rel0 s m) (hd : m.op[0]? = some rootO) (o : OM) : placeP s o.v = (((placeB m o).1 : Int), optZ (placeB m o).2) := by
  unfold placeP placeB
  rw [isP_v, h.fo, show tabNs = ofTable from rfl]
  by_cases h1 : m.fost = false \/ isO o ofTable = false
  · have hb : (!m.fost || !isO o ofTable) = true := by rcases h1 with h1 | h1 <;> simp [h1]
    rw [if_pos h1, if_pos hb]
    rfl
  · have hb : ¬ (!m.fost || !isO o ofTable) = true := by
      intro hb
      apply h1
      cases hf : m.fost
      · exact .inl rfl
      · rw [hf] at hb
        right
        simpa using hb
    rw [if_neg h1, if_neg hb]
    have hlen : s.op.length = m.op.length := by rw [h.op]; simp [vs]
    have hcut : S6.cutZ s.op [[116, 97, 98, 108, 101]] = S6.placeZ (S6.lastO (S6.namedL [[116, 97, 98, 108, 101]]) (vs m.op) m.op.length) := by
      unfold S6.cutZ
      rw [hlen, h.op]
    rw [hcut]
    cases hq : S6.lastO (S6.namedL [[116, 97, 98, 108, 101]]) (vs m.op) m.op.length with
    | none => rfl
    | some j =>
      have hj := S6.last_some _ _ _ j (by simp [vs]) hq
      have hjl : j < m.op.length := hj.1
      have hid : ∀ k (hk : k < m.op.length), idAt s k = (m.op[k].id : Int) := fun k hk => by
        unfold idAt
        rw [h.op]
        simp [vs, hk, OM.v]
      cases j with
      | zero =>
        exfalso
        have h2 := hj.2.1 (by simp [vs]; omega)
        have e0 : m.op[0]'(by omega) = rootO := by
          rw [List.getElem?_eq_getElem (by omega)] at hd
          exact Option.some.inj hd
        have e1 : (vs m.op)[0]'(by simp [vs]; omega) = rootO.v := by simp [vs, e0]
        rw [e1] at h2
        exact absurd h2 (by decide)
      | succ k =>
        rw [if_neg (by simp [S6.placeZ]; omega)]
        simp only [S6.placeZ, Int.toNat_natCast, Nat.add_sub_cancel]
        rw [List.getElem?_eq_getElem hjl, hid (k + 1) hjl, hid k (by omega), h.T, List.getElem?_eq_getElem (show k < m.op.length by omega)]
        simp only [Option.getD_some]
        have hp : S5.parentZ m.T ((m.op[k + 1].id : Nat) : Int) = S5.parZ (parentN m.T m.op[k + 1].id) := by
          unfold S5.parentZ
          rw [if_neg (by omega), Int.toNat_natCast]
        rw [hp]
        cases parentN m.T m.op[k + 1].id with
        | none => rfl
        | some p =>
          rw [if_neg (by show ¬ ((p : Nat) : Int) = -1; omega)]
          rfl
theorem holds_of {T : TR} {p : Nat} (h : HoldOk (nodeAt T p)) : S5.holdsL T p = true := by
  unfold S5.holdsL
  rcases h with h | h
  · rw [h.1]; rfl
  · rw [h.1]; rfl
theorem put_rel {T : TR} {p : Nat} {x : Option Nat} {k : Nat} (hW : S5.WF T) (hP : PlaceOk T p x) (hH : HoldOk (nodeAt T p)) (hk : k < T.length) : (if optZ x = -1 then (S5.appendZ T (p : Int) (k : Int)).1 else (S5.beforeZ T (optZ x) (k : Int)).1) = putL T p x k := by
  cases x with
  | none =>
    have hp : p < T.length := hP
    rw [if_pos (show optZ none = -1 from rfl)]
    unfold S5.appendZ putL
    rw [if_pos ⟨by unfold S5.inT; omega, by unfold S5.inT; omega⟩]
    simp only [Int.toNat_natCast, holds_of hH, Bool.true_and, Option.getD_none]
    by_cases h0 : k = 0
    · subst h0; simp
    · by_cases hw : withinL T p k = true
      · simp [h0, hw]
      · have hw2 : withinL T p k = false := by simpa using hw
        have : ((k : Int) == 0) = false := by rw [beq_eq_false_iff_ne]; omega
        simp [h0, hw2, this]
  | some r =>
    have hr : r ∈ kidsAt T p := hP
    have hrl := (hW.inb p r hr).2
    rw [show optZ (some r) = (r : Int) from rfl, if_neg (show ¬ ((r : Nat) : Int) = -1 by omega)]
    unfold S5.beforeZ putL
    rw [if_pos ⟨by unfold S5.inT; omega, by unfold S5.inT; omega⟩]
    simp only [Int.toNat_natCast, hW.parent hr, Option.getD_some]
    by_cases h0 : k = 0
    · subst h0; simp
    · by_cases hw : withinL T r k = true
      · simp [h0, hw]
      · have hw2 : withinL T r k = false := by simpa using hw
        have : ((k : Int) == 0) = false := by rw [beq_eq_false_iff_ne]; omega
        simp [h0, hw2, this]
theorem kidsZ_nat (T : TR) (p : Nat) : S5.kidsZ T (p : Int) = kidsAt T p := by
  unfold S5.kidsZ
  by_cases h : p < T.length
  · rw [if_pos (by omega), Int.toNat_natCast]
  · rw [if_neg (by omega), S5.kidsAt_out (by omega)]
theorem neigh_rel {s : PB} {m : BS} (h : Rel0 s m) (p : Nat) (x : Option Nat) : neighP s ((p : Int), optZ x) = optZ (aheadK (kidsAt m.T p) x) := by
  unfold neighP aheadK
  simp only [kidsZ_nat, h.T]
  have e : ∀ l : List Nat, aheadZ l (optZ x) = l.takeWhile fun y => !(some y == x) := by
    intro l
    unfold aheadZ
    congr 1
    funext y
    cases x with
    | none =>
      have : ((y : Int) == -1) = false := by rw [beq_eq_false_iff_ne]; omega
      simp [optZ, this]
    | some r =>
      by_cases hy : y = r
      · subst hy; simp [optZ]
      · have : ((y : Int) == (r : Int)) = false := by rw [beq_eq_false_iff_ne]; omega
        simp [optZ, hy, this]
  rw [e]
  unfold lastZ8
  cases ((kidsAt m.T p).takeWhile fun y => !(some y == x)).getLast? <;> rfl
theorem parent_pushP (T : TR) (d : S5.ND) (k : Nat) : parentN (S5.pushL T d) k = parentN T k := by
  unfold parentN S5.pushL
  rw [List.findIdx?_append]
  cases List.findIdx? (fun it : S5.IT => it.2.contains k) T with
  | none => rfl
  | some i => rfl
theorem place_grow (m : BS) (d : S5.ND) (o : OM) : placeB { m with T := S5.pushL m.T d } o = placeB m o := by
  unfold placeB
  simp only [parent_pushP]
theorem placeOk_push {T : TR} {p : Nat} {x : Option Nat} (d : S5.ND) (h : PlaceOk T p x) : PlaceOk (S5.pushL T d) p x := by
  cases x with
  | none =>
    have h1 : p < T.length := h
    show p < (S5.pushL T d).length
    unfold S5.pushL
    simp
    omega
  | some r =>
    show r ∈ kidsAt (S5.pushL T d) p
    rw [S5.kids_push]
    exact h
theorem placeOk_lt {T : TR} {p : Nat} {x : Option Nat} (h : PlaceOk T p x) : p < T.length := by
  cases x with
  | none => exact h
  | some r => exact S5.kidsAt_lt h
theorem hold_push {T : TR} {p : Nat} {x : Option Nat} (d : S5.ND) (hp : PlaceOk T p x) (h : HoldOk (nodeAt T p)) : HoldOk (nodeAt (S5.pushL T d) p) := by
  have : nodeAt (S5.pushL T d) p = nodeAt T p := by rw [node_pushP, if_neg (by have := placeOk_lt hp; omega)]
  rw [this]
  exact h
theorem Rel.err {s : PB} {m : BS} (h : s.e = m.e) (h0 : m.e ≠ 0) : Rel s m := ⟨h, fun e => absurd e h0⟩
theorem newT_rel {s : PB} {m : BS} (h : Rel0 s m) (he : s.e = 0) (hm : m.e = 0) (hi : Inv m) (d : S5.ND) :
    Rel (newT s d) (putB (growB m d).1 (placeB m (curB m)).1 (placeB m (curB m)).2 (growB m d).2) := by
  have hc := cur_rel h (List.ne_nil_of_length_pos (by have := hi.o.pos; omega))
  have hpl := place_rel h hi.o.hd (curB m)
  obtain ⟨hP, hH⟩ := place_ok hi (cur_mem hi.o)
  unfold newT
  rw [hc, hpl]
  have hm0 : ¬ m.e ≠ 0 := fun q => q hm
  unfold growB S5.makeL
  rw [if_neg hm0, h.T]
  by_cases hl : m.T.length < 2000
  · have hl2 : ¬ 2000 <= m.T.length := by omega
    rw [if_pos hl, if_neg hl2]
    simp only [putB, madeP]
    rw [if_neg (by omega)]
    refine ⟨he.trans hm.symm, fun _ => ?_⟩
    unfold putP
    simp only
    refine { T := ?_, op := h.op, mr := h.mr, ru := h.ru, mo := h.mo, nm := h.nm, fo := h.fo, sk := h.sk }
    exact put_rel (hi.t.wf.push d) (placeOk_push d hP) (hold_push d hP hH) (by simp [S5.pushL])
  · have hl2 : 2000 <= m.T.length := by omega
    rw [if_neg hl, if_pos hl2]
    refine Rel.err ?_ (by simp [putB])
    simp only [putB, putP, madeP, failP, he, if_true]
theorem text_rel {s : PB} {m : BS} (h : Rel0 s m) (he : s.e = 0) (hm : m.e = 0) (hi : Inv m) (t : Bs) : Rel (textP s t) (textB m t) := by
  have hc := cur_rel h (List.ne_nil_of_length_pos (by have := hi.o.pos; omega))
  have hpl := place_rel h hi.o.hd (curB m)
  have hn := neigh_rel h (placeB m (curB m)).1 (placeB m (curB m)).2
  have hN := newT_rel h he hm hi { kind := 2, text := t }
  have eA : addR s t = S5.addZ s.T (optZ (aheadK (kidsAt m.T (placeB m (curB m)).1) (placeB m (curB m)).2)) t := by
    unfold addR
    rw [hc, hpl, hn]
  have key : ∀ R : S5.TR × Int, addR s t = R -> textP s t = if R.2 = 0 then { s with T := R.1 } else newT s { kind := 2, text := t } := fun R e => by subst e; rfl
  unfold textB
  simp only
  cases hq : aheadK (kidsAt m.T (placeB m (curB m)).1) (placeB m (curB m)).2 with
  | none =>
    rw [hq] at eA
    have e : S5.addZ s.T (optZ none) t = (s.T, 2) := by
      unfold S5.addZ
      rw [if_neg (by show ¬ (0 <= (-1 : Int) /\ _); omega)]
    rw [key _ (eA.trans e), if_neg (by simp)]
    exact hN
  | some y =>
    rw [hq] at eA
    simp only
    by_cases hk : (nodeAt m.T y).kind = 2
    · have hy : y < m.T.length := by
        rcases Nat.lt_or_ge y m.T.length with h1 | h1
        · exact h1
        · have : nodeAt m.T y = {} := by unfold nodeAt; rw [List.getElem?_eq_none h1]; rfl
          rw [this] at hk
          exact absurd hk (by decide)
      have e : S5.addZ s.T (optZ (some y)) t = (S5.addL m.T y t, 0) := by
        unfold S5.addZ
        rw [show optZ (some y) = (y : Int) from rfl, h.T, if_pos (by unfold S5.inT; omega), Int.toNat_natCast, if_pos hk]
      rw [key _ (eA.trans e), if_pos rfl, if_pos hk]
      exact ⟨he.trans hm.symm, fun _ => { T := rfl, op := h.op, mr := h.mr, ru := h.ru, mo := h.mo, nm := h.nm, fo := h.fo, sk := h.sk }⟩
    · have e : (S5.addZ s.T (optZ (some y)) t).2 ≠ 0 := by
        unfold S5.addZ
        rw [show optZ (some y) = (y : Int) from rfl, h.T]
        split
        · rw [Int.toNat_natCast, if_neg hk]; simp
        · simp
      rw [key _ eA, if_neg e, if_neg hk]
      exact hN
theorem op_len {s : PB} {m : BS} (h : Rel0 s m) : s.op.length = m.op.length := by rw [h.op]; simp [vs]
theorem elem_rel {s : PB} {m : BS} (h : Rel0 s m) (he : s.e = 0) (hm : m.e = 0) (hi : Inv m) (sp : Int) (nm : ByteArray) (aa : S5.AttrL) :
    Rel (elemP s sp nm aa) (insertB m sp nm.data.toList aa).1 /\ (∀ k, (insertB m sp nm.data.toList aa).2 = some k -> elemZ s sp nm aa = (k : Int)) /\ ((insertB m sp nm.data.toList aa).2 = none -> (insertB m sp nm.data.toList aa).1.e ≠ 0) := by
  have hlen := op_len h
  unfold elemP elemZ insertB
  simp only
  by_cases hd : 60 < m.op.length
  · have e1 : deepB m = { m with e := 5 } := by unfold deepB; rw [if_pos ⟨hm, hd⟩]
    have e2 : growB (deepB m) { kind := 1, space := sp, name := nm.data.toList, attrs := aa } = (deepB m, none) := by
      unfold growB
      rw [e1]
      simp
    rw [e2, if_pos (by omega), if_pos (by omega)]
    refine ⟨Rel.err ?_ (by rw [e1]; simp), fun k hk => by simp at hk, fun _ => by rw [e1]; simp⟩
    rw [e1]
    unfold failP
    rw [if_pos he]
  · have e1 : deepB m = m := by unfold deepB; rw [if_neg (fun q => hd q.2)]
    rw [e1, if_neg (by omega), if_neg (by omega)]
    obtain ⟨hP, hH⟩ := place_ok hi (cur_mem hi.o)
    by_cases hl : m.T.length < 2000
    · have eM : elemM s sp nm aa = (S5.pushL m.T { kind := 1, space := sp, name := nm.data.toList, attrs := aa }, (m.T.length : Int)) := by
        unfold elemM S5.makeL
        rw [h.T, if_pos hl]
      have eG : growB m { kind := 1, space := sp, name := nm.data.toList, attrs := aa } = ({ m with T := S5.pushL m.T { kind := 1, space := sp, name := nm.data.toList, attrs := aa } }, some m.T.length) := by
        unfold growB
        rw [if_neg (by simpa using hm), if_neg (by omega)]
      have eQ : elemQ s sp nm aa = { s with T := S5.pushL m.T { kind := 1, space := sp, name := nm.data.toList, attrs := aa } } := by
        unfold elemQ madeP
        rw [eM, if_neg (by simp only; omega)]
      have hQ : Rel0 (elemQ s sp nm aa) { m with T := S5.pushL m.T { kind := 1, space := sp, name := nm.data.toList, attrs := aa } } := by
        rw [eQ]
        exact { T := rfl, op := h.op, mr := h.mr, ru := h.ru, mo := h.mo, nm := h.nm, fo := h.fo, sk := h.sk }
      have hc := cur_rel hQ (List.ne_nil_of_length_pos (by have := hi.o.pos; simp only; omega))
      have hpl := place_rel hQ hi.o.hd (curB m)
      rw [place_grow] at hpl
      have hcur : curB { m with T := S5.pushL m.T { kind := 1, space := sp, name := nm.data.toList, attrs := aa } } = curB m := rfl
      rw [hcur] at hc
      rw [eG]
      simp only
      refine ⟨⟨?_, fun _ => ?_⟩, fun k hk => ?_, fun hk => by simp at hk⟩
      · show (elemR s sp nm aa).e = _
        unfold elemR putP
        simp only [eQ, putB]
        exact he.trans hm.symm
      · refine { T := ?_, op := ?_, mr := ?_, ru := ?_, mo := ?_, nm := ?_, fo := ?_, sk := ?_ }
        · show (elemR s sp nm aa).T = putL _ _ _ _
          unfold elemR putP
          rw [hc, hpl, eM]
          simp only [eQ]
          exact put_rel (hi.t.wf.push _) (placeOk_push _ hP) (hold_push _ hP hH) (by simp [S5.pushL])
        · show (elemR s sp nm aa).op ++ _ = _
          rw [elemR_op, h.op, eM]
          simp [vs, OM.v]
        all_goals
          simp only [elemR, putP, eQ, putB]
        · exact h.mr
        · exact h.ru
        · exact h.mo
        · exact h.nm
        · exact h.fo
        · exact h.sk
      · simp only [Option.some.injEq] at hk
        rw [eM, hk]
    · have eG : growB m { kind := 1, space := sp, name := nm.data.toList, attrs := aa } = ({ m with e := 4 }, none) := by
        unfold growB
        rw [if_neg (by simpa using hm), if_pos (by omega)]
      have eM : elemM s sp nm aa = (m.T, -1) := by
        unfold elemM S5.makeL
        rw [h.T, if_neg hl]
      rw [eG]
      simp only
      refine ⟨Rel.err ?_ (by simp), fun k hk => by simp at hk, fun _ => by simp⟩
      show (elemR s sp nm aa).e = 4
      unfold elemR putP elemQ madeP
      rw [eM]
      simp only [if_true, failP, he]
end Go.Proofs.YtfohijnkeefcfaaGreatDoor
