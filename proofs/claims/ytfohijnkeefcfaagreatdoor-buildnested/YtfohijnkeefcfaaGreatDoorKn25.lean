import Derived.Test.YtfohijnkeefcfaaGreatDoorKn22
import Derived.Test.YtfohijnkeefcfaaGreatDoorKn24
import Derived.Deep.DeepAppendRoom
set_option linter.unusedVariables false
set_option linter.unusedSimpArgs false
set_option maxRecDepth 100000
set_option maxHeartbeats 8000000
namespace Go.Proofs.YtfohijnkeefcfaaGreatDoor
open Go.RowKit
open S5 (ButA andNew PT IsA cell_lt below_alloc hide below_drewN)
variable {O : Nat -> Prop} {n : Nat} {w W : World} {bb : Nat} {s : PB} {c : Nat}
theorem opens_src (W : World) (o : S6.OV) : ∀ j u, (opC o)[j]? = some u -> (W.alloc (.cells #[.int .i64 o.id, .int .i64 o.sp, .string o.nm] 76)).cell? ((⟨W.heap.size, 0, none⟩ : Addr).add j) = some u := by
  intro j u hu
  have hj : j < 3 := (List.getElem?_eq_some_iff.1 hu).1
  rw [S5.addr_add]
  rcases (by omega : j = 0 \/ j = 1 \/ j = 2) with rfl | rfl | rfl
  · rw [<- hu]; simp [go_sem, opC]
  · rw [<- hu]; simp [go_sem, opC]
  · rw [<- hu]; simp [go_sem, opC]
theorem opC_1c (o : S6.OV) : ∀ u ∈ opC o, u.oneCell' = true := by
  intro u hu
  simp only [opC, List.mem_cons, List.not_mem_nil, or_false] at hu
  rcases hu with rfl | rfl | rfl <;> rfl
theorem append_open (W : World) (og N cap : Nat) (op : List S6.OV) (o : S6.OV) (hown : W.ownsRow 0 76 3 (opV og N cap) N (opCells op)) (hl : N <= 1000) :
    ∃ og' cap' w', (Builtin.append_ #[50, 50] 50 #[opV og N cap, .slice (some ⟨W.heap.size, 0, none⟩) 1 1]).run Tryz.prog (W.alloc (.cells #[.int .i64 o.id, .int .i64 o.sp, .string o.nm] 76)) = .ok (opV og' (N + 1) cap') w' /\
      w'.ownsRow 0 76 3 (opV og' (N + 1) cap') (N + 1) (opCells (op ++ [o])) /\ ButA (fun k => k = og) W w' /\ (og' = og \/ W.heap.size <= og') := by
  have b0 := below_alloc W (.cells #[.int .i64 o.id, .int .i64 o.sp, .string o.nm] 76)
  have hsz : Tryz.t76.size = 3 := by kernel_rfl
  have hby : Tryz.t76.bytes = 32 := by kernel_rfl
  have hone : opCells (op ++ [o]) = opCells op ++ opC o := by rw [opCells_app]; simp [opCells]
  have hown1 := S5.owns_below hown b0
  by_cases hroom : N + 1 <= cap
  · obtain ⟨w', hr, ho, hg⟩ := run_append_own_spare (P := Tryz.prog) (W.alloc (.cells #[.int .i64 o.id, .int .i64 o.sp, .string o.nm] 76)) 0 50 50 76 Tryz.t76 3 Tryz.underlying50 (by kernel_rfl) hsz og N cap (opCells op) hown1 ⟨W.heap.size, 0, none⟩ 1 1 (opC o) rfl (opens_src W o) (opC_1c o) hroom
    refine ⟨og, cap, w', hr, by rw [hone]; exact ho, ?_, .inl rfl⟩
    refine (ButA.of b0).trans (B := fun k => k = og) ⟨hg.os, hg.tape, hg.output, hg.size, fun k hk hn => hg.block k hk (by simpa using hn)⟩ fun _ _ h => h
  · have hcap : N = cap := by
      rcases hown.2 with ⟨e, _⟩ | ⟨g, cp, cur, e, _, _, h1, _⟩
      · cases e
      · injection e with e1 e2 e3
        omega
    subst hcap
    have hsrc : Src Tryz.prog Tryz.t76.size 50 (.slice (some ⟨W.heap.size, 0, none⟩) 1 1) 1 (opC o) (W.alloc (.cells #[.int .i64 o.id, .int .i64 o.sp, .string o.nm] 76)) :=
      Src.ofSlice _ Tryz.underlying50 _ 1 1 (opC o) (by rw [hsz]; rfl) (opens_src W o) (opC_1c o)
    generalize hW1 : W.alloc (.cells #[.int .i64 o.id, .int .i64 o.sp, .string o.nm] 76) = W1 at *
    have hr := run_append_grow_src (P := Tryz.prog) W1 50 50 50 76 Tryz.t76 _ Tryz.underlying50 (by kernel_rfl) rfl (some ⟨og, 0, none⟩) N N (opCells op) (by rw [hsz]; exact run_firstCells_some _ 3 N _ N N (opCells op) hown1.1 (fun j u hu => hown1.drew.cells rfl j u hu)) _ 1 (opC o) hsrc (by omega) (by omega) (by
      rw [hby]
      have := nextslicecap_le (need := N + 1) (old := N) (by omega)
      omega)
    have hge := grownCap_ge W1 (N + 1) N 76
    generalize hgc : grownCap W1 (N + 1) N 76 = gc at *
    have hcm : gc <= maxLen := by rw [<- hgc]; exact grownCap_le_maxLen W1 (N + 1) N _ (by unfold maxLen; omega)
    refine ⟨W1.heap.size, gc, _, hr, ⟨by rw [hone, List.length_append, hown1.1]; simp [opC]; omega, .inr ⟨W1.heap.size, _, _, rfl, Nat.zero_le _, heap_alloc_new W1.drew _, hge, hcm, ?_, ?_⟩⟩, ?_, .inr b0.size⟩
    · simp only [Array.size_append, List.size_toArray, List.length_append, size_zeroCells, hown1.1]
      have : (Value.agg #[Value.int IntKind.i64 0, Value.int IntKind.i64 0, Value.string ⟨#[]⟩]).cells.size = 3 := by decide
      rw [this]
      simp only [opC, List.length_cons, List.length_nil]
      omega
    · simp only [Array.toList_append]
      rw [hone]
      have : (N + 1) * 3 = (opCells op ++ opC o).length := by rw [List.length_append, hown1.1]; simp [opC]; omega
      rw [this]
      exact List.take_left
    · exact (ButA.of b0).trans (B := fun k => k = og) ((ButA.refl _ W1).drew.alloc _) fun _ _ h => h
end Go.Proofs.YtfohijnkeefcfaaGreatDoor
namespace Go.Proofs.YtfohijnkeefcfaaGreatDoor
open Go.RowKit
open S5 (ButA andNew PT IsA cell_lt below_alloc hide below_drewN)
variable {O : Nat -> Prop} {n : Nat} {w W : World} {bb : Nat} {s : PB} {c : Nat}
def elemM (s : PB) (sp : Int) (nm : ByteArray) (aa : S5.AttrL) : S5.TR × Int := S5.makeL s.T { kind := 1, space := sp, name := nm.data.toList, attrs := aa }
def elemQ (s : PB) (sp : Int) (nm : ByteArray) (aa : S5.AttrL) : PB := madeP { s with T := (elemM s sp nm aa).1 } (elemM s sp nm aa).2
def elemR (s : PB) (sp : Int) (nm : ByteArray) (aa : S5.AttrL) : PB := putP (elemQ s sp nm aa) (placeP (elemQ s sp nm aa) (curP (elemQ s sp nm aa))) (elemM s sp nm aa).2
def elemP (s : PB) (sp : Int) (nm : ByteArray) (aa : S5.AttrL) : PB := if 60 < s.op.length then failP s 5 else { elemR s sp nm aa with op := (elemR s sp nm aa).op ++ [⟨(elemM s sp nm aa).2, sp, nm⟩] }
def elemZ (s : PB) (sp : Int) (nm : ByteArray) (aa : S5.AttrL) : Int := if 60 < s.op.length then -1 else (elemM s sp nm aa).2
theorem elemR_op (s : PB) (sp : Int) (nm : ByteArray) (aa : S5.AttrL) : (elemR s sp nm aa).op = s.op := by
  unfold elemR putP elemQ madeP failP
  split
  · split <;> rfl
  · rfl
theorem PInv.elemQ (hI : PInv c s) (sp : Int) (nm : ByteArray) {aa : S5.AttrL} (ha : aa.length <= 1000000) : PInv c (elemQ s sp nm aa) := (hI.make _ (Nat.le_refl _) (by simp) ha).made _
theorem PInv.elemR (hI : PInv c s) (sp : Int) (nm : ByteArray) {aa : S5.AttrL} (ha : aa.length <= 1000000) : PInv c (elemR s sp nm aa) := (hI.elemQ sp nm ha).put _ _
theorem PInv.elem (hI : PInv c s) (sp : Int) (nm : ByteArray) {aa : S5.AttrL} (ha : aa.length <= 1000000) : PInv c (elemP s sp nm aa) := by
  unfold elemP
  split
  · exact hI.fail 5
  · have h := hI.elemR sp nm ha
    obtain ⟨r, hr⟩ := h.hd
    refine { hd := ⟨r ++ [⟨(elemM s sp nm aa).2, sp, nm⟩], by simp only [hr, List.cons_append]⟩, opL := ?_, wf := h.wf, t0 := h.t0, tL := h.tL, mrL := h.mrL, aaL := h.aaL, txL := h.txL, atL := h.atL }
    simp only [List.length_append, elemR_op, List.length_cons, List.length_nil]
    omega
theorem insertElement_m (h : IsB O n w bb s) (hI : PInv c s) (sp : Int) (nm : ByteArray) (v : Value) (aa : S5.AttrL) (ha : aa.length <= 1000000) (hv : IsA w v aa) :
    Calls Tryz.prog 117 #[bP bb, .int .i64 sp, .string nm, v] w fun e w' => e = .returned (.int .i64 (elemZ s sp nm aa)) /\ DoesM O n w bb w' (elemP s sp nm aa) := by
  have hnn := h.nL
  have hbb := h.bL
  have hL := hI.opL
  have HFl := hide (fun x (b : Below w.heap.size w x) => fail_m (h.below b) 5)
  have hop := elemR_op s sp nm aa
  have I1 := hI.elemQ sp nm ha
  have I2 := hI.elemR sp nm ha
  have HC := hide (fun O1 x (h : IsB O1 n x bb (elemQ s sp nm aa)) => current_p h I1.ne (by have := I1.opL; omega))
  have HP := hide (fun O1 x (h : IsB O1 n x bb (elemQ s sp nm aa)) => placeFor_p h I1 (curP (elemQ s sp nm aa)))
  have HU := hide (fun O1 x (h : IsB O1 n x bb (elemQ s sp nm aa)) => put_m h I1 (placeP (elemQ s sp nm aa) (curP (elemQ s sp nm aa))) (elemM s sp nm aa).2)
  have HM := hide (fun O1 x (h : IsB O1 n x bb { s with T := (elemM s sp nm aa).1 }) => made_m h (elemM s sp nm aa).2)
  have HIS := hide h
  obtain ⟨pb, og, cap, mv, A, hb⟩ := h
  have HE := hide (fun O1 x (h : IsB O1 n x bb s) hc (b : Below w.heap.size w x) => element_treeM (pb := pb) h hc hI sp nm v aa ha (hv.below b))
  have c0 : w.cell? ⟨bb, 0, none⟩ = some (.pointer (some ⟨pb, 0, none⟩)) := hb.cs 0 (by omega)
  have c1 : w.cell? ⟨bb, 1, none⟩ = some (.slice (some ⟨og, 0, none⟩) s.op.length cap) := hb.cs 1 (by omega)
  obtain ⟨va, vc, rfl⟩ := S5.isA_form hv
  clear hb
  unfold elemP elemZ
  by_cases hdeep : 60 < s.op.length
  · rw [if_pos hdeep, if_pos hdeep]
    have hd2 : ((60 : Int) < s.op.length) := by omega
    generalize s.op.length = N at *
    clear HC HP HU HM HE
    go_enter Tryz.func117, Tryz.ntmps117
    go_wp2_with fail
    refine (HFl.out _ (Below.refl _ _)).mono ?_
    rintro e w1 ⟨rfl, d⟩
    go_wp2
    go_ret
    exact ⟨rfl, d⟩
  · rw [if_neg hdeep, if_neg hdeep]
    have hd2 : ¬ ((60 : Int) < s.op.length) := by omega
    have hln : s.op.length <= 60 := by omega
    rw [hop]
    generalize hN : s.op.length = N at *
    go_enter Tryz.func117, Tryz.ntmps117
    go_wp2_with fail
    refine (HE.out _ _ HIS.out c0 (Below.refl _ _)).mono ?_
    rintro e w1 ⟨rfl, d1⟩
    have D1 := hide d1
    clear d1
    go_wp2_with fail
    refine (HM.out _ _ D1.out.1.1).mono ?_
    rintro e w2 ⟨rfl, d2⟩
    have D2 := hide (D1.out.trans d2)
    clear d2
    go_wp2_with fail
    refine (HC.out _ _ D2.out.1.1).mono ?_
    rintro e w3 ⟨rfl, b3⟩
    have D3 := hide (D2.out.after b3)
    clear b3
    go_wp2_with fail
    refine (HP.out _ _ D3.out.1.1).mono ?_
    rintro e w4 ⟨rfl, b4⟩
    have D4 := hide (D3.out.after b4)
    clear b4
    go_wp2_with fail
    refine (HU.out _ _ D4.out.1.1).mono ?_
    rintro e w5 ⟨rfl, d5⟩
    have D5 := hide (D4.out.trans d5)
    clear d5
    have hD : Hid (∀ x, DoesM (andNew O w.heap.size) n w5 bb x { elemR s sp nm aa with op := s.op ++ [⟨(elemM s sp nm aa).2, sp, nm⟩] } -> DoesM O n w bb x { elemR s sp nm aa with op := s.op ++ [⟨(elemM s sp nm aa).2, sp, nm⟩] }) := hide fun x d => D5.out.trans d
    have h5 : IsB (andNew O w.heap.size) n w5 bb (elemR s sp nm aa) := D5.out.1.1
    obtain ⟨pb5, og5, cap5, mv5, A5, v5⟩ := h5
    generalize hs5 : elemR s sp nm aa = s5 at *
    have hr5 := v5.row
    rw [hop, hN] at hr5
    obtain ⟨og6, cap6, w6, hr, row6, but6, hor6⟩ := append_open w5 og5 N cap5 s.op ⟨(elemM s sp nm aa).2, sp, nm⟩ hr5 (by omega)
    have hlen : (s.op ++ [(⟨(elemM s sp nm aa).2, sp, nm⟩ : S6.OV)]).length = N + 1 := by simp [hN]
    have v6 := v5.opens but6 (op' := s.op ++ [⟨(elemM s sp nm aa).2, sp, nm⟩]) (by rw [hlen]; exact row6) hor6
    rw [hlen] at v6
    have k1 : w5.cell? ⟨bb, 1, none⟩ = some (.slice (some ⟨og5, 0, none⟩) N cap5) := by
      have := v5.cs 1 (by omega)
      rw [hop, hN] at this
      exact this
    have hblk : w6.heap[bb]? = w5.heap[bb]? := but6.block bb v5.bL v5.bg
    have k2 : w6.cell? ⟨bb, 1, none⟩ = some (.slice (some ⟨og5, 0, none⟩) N cap5) := S5.cell_same hblk k1
    have f2 : w6.frozen? ⟨bb, 1, none⟩ = false := by rw [World.frozen?_of_block (a := ⟨bb, 1, none⟩) hblk]; exact v5.fz 1
    have HFin : Hid (DoesM (andNew O w.heap.size) n w5 bb (w6.setCell ⟨bb, 1, none⟩ (opV og6 (N + 1) cap6)) { s5 with op := s.op ++ [⟨(elemM s sp nm aa).2, sp, nm⟩] }) := hide ⟨v6.does' (((but6.mono (fun k e => e ▸ v5.gO)).setCell (.inl v5.bO) _)) ((set0 _ _ _ (by decide) _).trans (World.cell?_of_block (a := ⟨bb, 0, none⟩) hblk)), (set2 _ _ _ (by decide) _).trans (World.cell?_of_block (a := ⟨bb, 2, none⟩) hblk)⟩
    have HR := hide hr
    generalize hZ : (elemM s sp nm aa).2 = Z at *
    clear HC HP HU HM HE HFl D1 D2 D3 D4 D5 v6 v5 hr row6 hr5 but6 hblk hop I1 I2
    go_wp2_with (with_reducible refine S5.wpList_append_run rfl _ _ 50 rfl (opV og5 N cap5) (.slice (some ⟨w5.heap.size, 0, none⟩) 1 1) _ w6 rfl rfl HR.out ?_)
    go_ret
    subst hs5 hZ
    exact ⟨rfl, hD.out _ HFin.out⟩
theorem insertElement_p (h : IsB O n w bb s) (hI : PInv c s) (sp : Int) (nm : ByteArray) (v : Value) (aa : S5.AttrL) (ha : aa.length <= 1000000) (hv : IsA w v aa) :
    Calls Tryz.prog 117 #[bP bb, .int .i64 sp, .string nm, v] w fun e w' => e = .returned (.int .i64 (elemZ s sp nm aa)) /\ Does O n w bb w' (elemP s sp nm aa) := (insertElement_m h hI sp nm v aa ha hv).mono fun e w' ⟨a, d⟩ => ⟨a, d.1⟩
end Go.Proofs.YtfohijnkeefcfaaGreatDoor
namespace Go.Proofs.YtfohijnkeefcfaaGreatDoor
open Go.RowKit
open S5 (ButA andNew PT IsA cell_lt below_alloc hide below_drewN)
variable {O : Nat -> Prop} {n : Nat} {w W : World} {bb : Nat} {s : PB} {c : Nat}
structure TV where
  k : Int
  nm : ByteArray
  aa : S5.AttrL
  sv : Value
  cl : Bool
  tx : ByteArray
abbrev tA (t : TV) : Value := .agg #[.int .i64 t.k, .string t.nm, t.sv, .bool t.cl, .string t.tx]
def TOk (O : Nat -> Prop) (n : Nat) (w : World) (t : TV) : Prop := Tk O n w t.sv t.aa /\ t.aa.length <= 1000000
theorem TOk.below {t : TV} (h : TOk O n w t) (hb : Below w.heap.size w W) : TOk O n W t := ⟨h.1.below hb, h.2⟩
theorem TOk.does {t : TV} {w1 : World} {s1 : PB} (h : TOk O n w t) (hd : Does O n w bb w1 s1) (hn : n <= w.heap.size) : TOk (andNew O w.heap.size) n w1 t := ⟨h.1.does hd hn, h.2⟩
theorem TOk.tight {t : TV} (h : TOk O n w t) : TOk (fun k => O k /\ k < w.heap.size) n w t := ⟨⟨h.1.1, fun h0 k e => ⟨(h.1.2 h0 k e).1, fun ho => (h.1.2 h0 k e).2 ho.1⟩⟩, h.2⟩
abbrev tW (w : World) (t : TV) : World := w.alloc (.cells #[.int .i64 t.k, .string t.nm, t.sv, .bool t.cl, .string t.tx] 79)
theorem t_box (w : World) (t : TV) {x : World} (h : Below (tW w t).heap.size (tW w t) x) : x.cell? ⟨w.heap.size, 0, none⟩ = some (.int .i64 t.k) /\ x.cell? ⟨w.heap.size, 1, none⟩ = some (.string t.nm) /\ x.cell? ⟨w.heap.size, 2, none⟩ = some t.sv /\ x.cell? ⟨w.heap.size, 3, none⟩ = some (.bool t.cl) /\ x.cell? ⟨w.heap.size, 4, none⟩ = some (.string t.tx) /\ Below w.heap.size w x := by
  refine ⟨?_, ?_, ?_, ?_, ?_, two_below h⟩
  all_goals
    rw [h.cell (by simp)]
    simp [go_sem]
theorem insert_p (h : IsB O n w bb s) (hI : PInv c s) (t : TV) (ht : TOk O n w t) : Calls Tryz.prog 136 #[bP bb, tA t] w fun e w' => e = .returned (.tuple #[]) /\ Does O n w bb w' (elemP s 0 t.nm t.aa) := by
  have hnn := h.nL
  have hbb := h.bL
  have HE := hide (fun x (b : Below w.heap.size w x) => insertElement_p (h.below b) hI 0 t.nm t.sv t.aa ht.2 (ht.1.1.below b))
  obtain ⟨va, vc, hva⟩ := S5.isA_form ht.1.1
  have HB := hide (fun x (b : Below (tW w t).heap.size (tW w t) x) => t_box w t b)
  generalize elemZ s 0 t.nm t.aa = Z at *
  obtain ⟨k, nm, aa, sv, cl, tx⟩ := t
  simp only [] at HE hva HB ⊢
  subst hva
  generalize aa.length = al at *
  clear h ht
  obtain ⟨_, c1, c2, _, _, bb0⟩ := HB.out _ (Below.refl _ _)
  go_enter Tryz.func136, Tryz.ntmps136
  go_wp2_with fail
  refine (HE.out _ bb0).mono ?_
  rintro e w1 ⟨rfl, d1⟩
  go_wp2
  go_end0
  exact ⟨rfl, d1.ahead hnn bb0 hbb⟩
end Go.Proofs.YtfohijnkeefcfaaGreatDoor
