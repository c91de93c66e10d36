import Derived.Test.YtfohijnkeefcfaaGreatDoorKn29
import Derived.Test.YtfohijnkeefcfaaGreatDoorKn42
set_option linter.unusedVariables false
set_option linter.unusedSimpArgs false
set_option maxRecDepth 100000
set_option maxHeartbeats 8000000
namespace Go.Proofs.YtfohijnkeefcfaaGreatDoor
open Go.RowKit Go.Shelf
open S6 (OV)
open S5 (hide cell_lt below_alloc)
attribute [local go_sem] Oper.semAt_some
def oBox (x : OV) : Array Value := #[.int .i64 x.id, .int .i64 x.sp, .string x.nm]
theorem three_new (w : World) (a b c : Value) (t1 t2 t3 : TypeId) : (((w.alloc (.cells #[a] t1)).alloc (.cells #[b] t2)).alloc (.cells #[c] t3)).cell? ⟨w.heap.size, 0, none⟩ = some a /\ (((w.alloc (.cells #[a] t1)).alloc (.cells #[b] t2)).alloc (.cells #[c] t3)).cell? ⟨w.heap.size + 1, 0, none⟩ = some b /\ (((w.alloc (.cells #[a] t1)).alloc (.cells #[b] t2)).alloc (.cells #[c] t3)).cell? ⟨w.heap.size + 1 + 1, 0, none⟩ = some c := by
  refine ⟨?_, ?_, ?_⟩ <;> go_simp
theorem box_new (w : World) (o : OV) (t : TypeId) : ∀ j, j < 3 -> (w.alloc (.cells #[.int .i64 o.id, .int .i64 o.sp, .string o.nm] t)).cell? ⟨w.heap.size, j, none⟩ = (oBox o)[j]? := by
  intro j hj
  rcases j with _ | _ | _ | j
  · go_simp; rfl
  · go_simp; rfl
  · go_simp; rfl
  · omega
theorem Does.end {O : Nat -> Prop} {n : Nat} {w W : World} {bb : Nat} {s' : PB} {D B : Nat} (hd : Does O n w bb W s') (hK : W.heap[D]? = some (.deferred (some []))) (hB : B <= D) (hw : w.heap.size <= B) : Does O n w bb (W.putObj D (.deferred none)) s' :=
  hd.turned (B := B) (grownBy_putObj' W D _) (fun r e => by cases e; exact ⟨hB, _, hK, rfl⟩) hw
theorem keeps_below {B : Nat} {W W' : World} (hb : Below W.heap.size W W') : KeepsFrom B W W' := ⟨hb.size, fun k o _ hk _ => (hb.block k (Array.getElem?_eq_some_iff.1 hk).1).trans hk⟩
theorem keeps_but {B : Nat} {O : Nat -> Prop} {W W' : World} (hb : S5.ButA O W W') (hO : ∀ k, O k -> k < B) : KeepsFrom B W W' := ⟨hb.size, fun k o hB hk _ => (hb.block k (Array.getElem?_eq_some_iff.1 hk).1 (fun ho => by have := hO k ho; omega)).trans hk⟩
theorem goes_named (nm : ByteArray) (o : OV) (h : isP o [nm.data.toList] = true) : S6.goesL nm o = false := by
  unfold isP S6.namedL S6.amongL at h
  simp only [List.any_cons, List.any_nil, Bool.or_false, Bool.and_eq_true] at h
  unfold S6.goesL
  rw [h.2]
  simp
theorem left_named (nm : ByteArray) (l : List OV) (i : Nat) (h : i < l.length) (hp : isP l[i] [nm.data.toList] = true) : ∀ k, i < k -> k <= l.length -> i + 1 <= S6.leftO nm l k := by
  have hg : S6.goesL nm l[i] = false := goes_named nm l[i] hp
  intro k
  induction k with
  | zero => intro h1; omega
  | succ k ih =>
    intro h1 h2
    by_cases hk : i = k
    · subst hk
      rw [S6.left_stay nm l i h hg]
      exact Nat.le_refl _
    · have := ih (by omega) (by omega)
      cases hgo : S6.goesL nm l[k]
      · rw [S6.left_stay nm l k (by omega) hgo]
        omega
      · rw [S6.left_go nm l k (by omega) hgo]
        exact this
theorem imp_len (s : PB) (nm : ByteArray) (i : Nat) (o : OV) (hi : s.op[i]? = some o) (hp : isP o [nm.data.toList] = true) : (i : Int) <= (impP s nm).op.length := by
  obtain ⟨h, rfl⟩ := List.getElem?_eq_some_iff.1 hi
  have h1 := left_named nm s.op i h hp s.op.length h (Nat.le_refl _)
  have h2 := S6.left_le nm s.op s.op.length
  show (i : Int) <= ((s.op.take (max (S6.leftO nm s.op s.op.length : Int) 1).toNat).length : Int)
  rw [List.length_take]
  omega
theorem endOther_x {O : Nat -> Prop} {n : Nat} {w : World} {bb : Nat} {s : PB} (h : IsB O n w bb s) (h0 : s.op ≠ []) (hL : s.op.length <= 1000) (nm : ByteArray) : Calls Tryz.prog 184 #[bP bb, .string nm] w fun e w' => e = .returned (.tuple #[]) /\ Does O n w bb w' (otherP s nm) := by
  obtain ⟨pb, og, cap, mv, A, hv⟩ := id h
  have b1 : w.cell? ⟨bb, 1, none⟩ = some (.slice (some ⟨og, 0, none⟩) s.op.length cap) := hv.cs 1 (by omega)
  have bl := hv.bL
  have gl := hv.gL
  have hIO : S6.IsO w (.slice (some ⟨og, 0, none⟩) s.op.length cap) s.op := hv.isO
  refine (callsIn_wide (n := 9)).1 ?_
  refine callsIn_of_wp_marks Tryz.func184 rfl trivial ?_ rfl
  simp only [Tryz.ntmps184, List.size_toArray, List.length_cons, List.length_nil, Nat.reduceAdd, Nat.reduceSub, Array.replicate_succ, Array.replicate_zero, List.push_toArray, List.append_toArray, List.nil_append, List.cons_append]
  unfold bP
  gi_wp2_with (first | (refine ⟨trivial, ?_⟩; gi_at_call 118; refine (back_in _ _ trivial rfl _ _ _ _).mono ?_; rintro e w' ⟨rfl, rfl⟩))
  obtain ⟨W0, hW0⟩ : ∃ W0, (((w.alloc (Obj.cells #[Value.pointer (some { block := bb, off := 0 })] 46)).alloc (Obj.cells #[Value.string nm] 9)).alloc (Obj.cells #[Value.slice (some { block := og, off := 0 }) s.op.length cap] 50)) = W0 := ⟨_, rfl⟩
  have bW : Below w.heap.size w W0 := by
    rw [<- hW0]
    exact (((Below.refl _ w).alloc (Nat.le_refl _) _).alloc (by simp) _).alloc (by simp; omega) _
  have zW : W0.heap.size = w.heap.size + 3 := by rw [<- hW0]; simp
  have q0 : W0.cell? ⟨w.heap.size, 0, none⟩ = some (.pointer (some ⟨bb, 0, none⟩)) := by rw [<- hW0]; exact (three_new _ _ _ _ _ _ _).1
  have q1 : W0.cell? ⟨w.heap.size + 1, 0, none⟩ = some (.string nm) := by rw [<- hW0]; exact (three_new _ _ _ _ _ _ _).2.1
  have q2 : W0.cell? ⟨w.heap.size + 1 + 1, 0, none⟩ = some (.slice (some ⟨og, 0, none⟩) s.op.length cap) := by rw [<- hW0]; exact (three_new _ _ _ _ _ _ _).2.2
  rw [hW0]
  refine wpIn_rangeFunc_ownH rfl (by omega) (gf := 167) (lb := #[.pointer (some ⟨w.heap.size + 1 + 1, 0, none⟩)]) rfl trivial (enters_of Tryz.func167 (by kernel_rfl) rfl)
    (back_stops _ _ trivial rfl (by omega) (w.heap.size + 1 + 1) W0.heap.size _ s.op (by omega) W0 (by omega) (by omega) (Nat.le_refl _) q2 (hIO.below bW) (fun k e => by cases e; show og < _; omega)) belowK_t (belowK_b (Nat.le_refl _)) (Below.refl _ _) (fun _ => rfl)
    (fun pre W => Below W0.heap.size W0 W /\ ∀ y ∈ pre, goOn nm y.1.2)
    (fun c pre W => c = .ret /\ ∃ (p : List (AtO s.op)) (x : AtO s.op), pre = p ++ [x] /\ (∀ y ∈ p, goOn nm y.1.2) /\ (if isP x.1.2 [nm.data.toList] then Does O n w bb W (keepP (impP s nm) x.1.1) else S6.specialL x.1.2 = true /\ Does O n w bb W s))
    (fun _ _ _ _ hs hg hr => ⟨ownFrom_below (β := Unit) (Nat.le_refl _) (Nat.le_refl _) () _ _ _ hs.1 hg hr, hs.2⟩)
    ?hIx ⟨Below.refl _ _, fun y hy => by cases hy⟩
    (fun x a' W => ∃ Bx, W0.heap.size <= Bx /\ (∀ j, j < 3 -> W.cell? ⟨Bx, j, none⟩ = (oBox x.1.2)[j]?) /\ a' = { tmps := #[.pointer (some ⟨bb, 0, none⟩), .string nm, .pointer (some ⟨w.heap.size, 0, none⟩), .pointer (some ⟨w.heap.size + 1, 0, none⟩), .int .i64 (x.1.1 : Int), .pointer (some ⟨Bx, 0, none⟩), .pointer (some ⟨bb, 0, none⟩), .pointer (some ⟨bb, 0, none⟩), .pointer (some ⟨bb, 1, none⟩), .slice (some ⟨og, 0, none⟩) s.op.length cap, .func (.func 167) #[] #[.pointer (some ⟨w.heap.size + 1 + 1, 0, none⟩)], .int .i64 (x.1.1 : Int), .agg (oBox x.1.2), undef, undef, undef, undef, undef, undef, undef, undef, undef, undef, undef, undef], defers := [] })
    ?hAx ?assign ?body ?done ?stop
  case hIx =>
    rintro c pre W W' row ⟨e1, p, x, e2, e3, e4⟩ hg hr
    refine ⟨e1, p, x, e2, e3, ?_⟩
    by_cases hi : isP x.1.2 [nm.data.toList] = true
    · rw [if_pos hi] at e4 ⊢
      exact e4.turned hg hr (by omega)
    · rw [if_neg hi] at e4 ⊢
      exact ⟨e4.1, e4.2.turned hg hr (by omega)⟩
  case hAx =>
    rintro x a' _ W W' row ⟨Bx, e1, e2, e3⟩ hg hr
    have ht := turned_of hg fun r e => (hr r e).2
    refine ⟨Bx, e1, fun j hj => ?_, e3⟩
    have h2 := e2 j hj
    rcases j with _ | _ | _ | j
    · exact ht.cell h2
    · exact ht.cell h2
    · exact ht.cell h2
    · omega
  case assign =>
    rintro l pre x W K hi hK
    obtain ⟨⟨xi, o⟩, hx⟩ := x
    obtain ⟨oi, os, on⟩ := o
    simp only [encO, List.zip_toArray, List.foldl_toArray]
    gi_wp2
    refine hK _ _ ((KeepsOthers.alloc _ _).from _) ((Below.refl _ W).alloc hi.1.size _) ⟨hi.1.alloc hi.1.size _, hi.2⟩ ⟨W.heap.size, hi.1.size, box_new W ⟨oi, os, on⟩ _, rfl⟩
  case body =>
    rintro l pre x a' W hl ⟨r, hr⟩ hi ⟨Bx, hBx, hc, rfl⟩ hlt
    obtain ⟨⟨xi, oi, os, on⟩, hx⟩ := x
    have d0 : W.cell? ⟨Bx, 0, none⟩ = some (.int .i64 oi) := hc 0 (by omega)
    have d1 : W.cell? ⟨Bx, 1, none⟩ = some (.int .i64 os) := hc 1 (by omega)
    have d2 : W.cell? ⟨Bx, 2, none⟩ = some (.string on) := hc 2 (by omega)
    have e0 : W.cell? ⟨w.heap.size, 0, none⟩ = some (.pointer (some ⟨bb, 0, none⟩)) := (hi.1.cell (by show w.heap.size < _; omega)).trans q0
    have e1 : W.cell? ⟨w.heap.size + 1, 0, none⟩ = some (.string nm) := (hi.1.cell (by show w.heap.size + 1 < _; omega)).trans q1
    have HI := hide (is_p ⟨oi, os, on⟩ [nm.data.toList] (by simp) _ _ (names1 W nm))
    have HS := hide (S6.special6_any ⟨oi, os, on⟩)
    have HX := hide hx
    have HBI := hide hi
    have hzW : W0.heap.size <= W.heap.size := hi.1.size
    have HCE : Hid (∀ Y, Below W.heap.size W Y -> Y.cell? ⟨Bx, 0, none⟩ = some (.int .i64 oi) /\ Y.cell? ⟨Bx, 1, none⟩ = some (.int .i64 os) /\ Y.cell? ⟨Bx, 2, none⟩ = some (.string on) /\ Y.cell? ⟨w.heap.size, 0, none⟩ = some (.pointer (some ⟨bb, 0, none⟩)) /\ Y.cell? ⟨w.heap.size + 1, 0, none⟩ = some (.string nm)) := hide (fun Y hb => ⟨(hb.cell (cell_lt d0)).trans d0, (hb.cell (cell_lt d1)).trans d1, (hb.cell (cell_lt d2)).trans d2, (hb.cell (cell_lt e0)).trans e0, (hb.cell (cell_lt e1)).trans e1⟩)
    have hWW : Below w.heap.size w W := bW.trans (hi.1.mono bW.size)
    have HD : Hid (∀ Y, Below W.heap.size W Y -> IsB (fun k => O k /\ k < w.heap.size) n Y bb s) := hide (fun Y hb => (h.tight.below hWW).below hb)
    have HAH : Hid (∀ Y Z s', Below W.heap.size W Y -> Does (fun k => O k /\ k < w.heap.size) n Y bb Z s' -> Does O n w bb Z s') := hide (fun Y Z s' hb hd => (hd.ahead h.nL (hWW.trans (hb.mono hWW.size)) h.bL).wide h.nL)
    have HSP : Hid (∀ Y, Below W.heap.size W Y -> Does O n w bb Y s) := hide (fun Y hb => Does.of h (hWW.trans (hb.mono hWW.size)))
    have HIL : Hid (isP ⟨oi, os, on⟩ [nm.data.toList] = true -> (xi : Int) <= (impP s nm).op.length) := hide (imp_len s nm xi _ hx)
    have himL : (impP s nm).op.length <= 1000 := Nat.le_trans (keepP_len s _) hL
    have him0 : (impP s nm).op ≠ [] := keepP_ne _ h0
    clear hc hi hW0 q0 q1 q2 hIO b1 hWW
    simp only [oBox]
    cases hIs : isP ⟨oi, os, on⟩ [nm.data.toList]
    · rw [hIs] at HI
      cases hSp : S6.specialL ⟨oi, os, on⟩
      · rw [hSp] at HS
        gi_wp2_with (first | (refine ⟨trivial, ?_⟩; gi_at_call 120; refine (CallsIn.inRound l (callsIn_wide.2 HI.out)).mono ?_; rintro e y1 ⟨rfl, b1⟩; have D1 := hide ((below_alloc W _).trans (b1.mono (below_alloc W _).size)); obtain ⟨d0, d1, d2, e0, e1⟩ := HCE.out _ D1.out; clear b1) | (refine ⟨trivial, ?_⟩; gi_at_call 228; refine (CallsIn.inRound l (callsIn_wide.2 (HS.out _))).mono ?_; rintro e y2 ⟨rfl, b2⟩; have D2 := hide (D1.out.trans (b2.mono D1.out.size)); clear b2))
        exact ⟨keeps_below D2.out, D2.out.mono hzW, HBI.out.1.trans (D2.out.mono hzW), fun y hy => by
          rcases List.mem_append.1 hy with hy | hy
          · exact HBI.out.2 y hy
          · obtain rfl := List.mem_singleton.1 hy
            exact ⟨hIs, hSp⟩⟩
      · rw [hSp] at HS
        gi_wp2_with (first | (refine ⟨trivial, ?_⟩; gi_at_call 120; refine (CallsIn.inRound l (callsIn_wide.2 HI.out)).mono ?_; rintro e y1 ⟨rfl, b1⟩; have D1 := hide ((below_alloc W _).trans (b1.mono (below_alloc W _).size)); obtain ⟨d0, d1, d2, e0, e1⟩ := HCE.out _ D1.out; clear b1) | (refine ⟨trivial, ?_⟩; gi_at_call 228; refine (CallsIn.inRound l (callsIn_wide.2 (HS.out _))).mono ?_; rintro e y2 ⟨rfl, b2⟩; have D2 := hide (D1.out.trans (b2.mono D1.out.size)); clear b2))
        exact ⟨keeps_below D2.out, rfl, pre, _, rfl, HBI.out.2, by rw [if_neg (by rw [hIs]; exact Bool.false_ne_true)]; exact ⟨hSp, HSP.out _ D2.out⟩⟩
    · rw [hIs] at HI
      gi_wp2_with (first | (refine ⟨trivial, ?_⟩; gi_at_call 120; refine (CallsIn.inRound l (callsIn_wide.2 HI.out)).mono ?_; rintro e y1 ⟨rfl, b1⟩; have D1 := hide ((below_alloc W _).trans (b1.mono (below_alloc W _).size)); obtain ⟨d0, d1, d2, e0, e1⟩ := HCE.out _ D1.out; clear b1 d0 d1 d2) | (refine ⟨trivial, ?_⟩; gi_at_call 127; refine (CallsIn.inRound l (callsIn_wide.2 (endImplied_p (HD.out _ D1.out) h0 hL nm))).mono ?_; rintro e y2 ⟨rfl, dd2⟩; have DD2 := hide dd2; have e0' := dd2.kept e0 (fun ho => Nat.lt_irrefl _ ho.2); clear dd2 e0 e1) | (refine ⟨trivial, ?_⟩; gi_at_call 111; refine (CallsIn.inRound l (callsIn_wide.2 (keep_p DD2.out.1 (xi : Int) him0 himL (HIL.out hIs)))).mono ?_; rintro e y3 ⟨rfl, dd3⟩; have DD3 := hide (DD2.out.trans dd3); clear dd3))
      exact ⟨(keeps_below D1.out).trans (keeps_but DD3.out.2.1 (fun k hk => by have := hk.2; omega)), rfl, pre, _, rfl, HBI.out.2, by rw [if_pos hIs]; exact HAH.out _ _ _ D1.out DD3.out⟩
  case done =>
    rintro D ys W hD rfl hi hK
    gi_wp2
    refine ⟨by simp, .inl ⟨_, _, rfl, run_takeDeferred hK, ?_⟩⟩
    have hs : otherP s nm = s := by rw [other_run s nm s.op.length (Nat.le_refl _) hi.2, Nat.sub_self]; rfl
    rw [hs]
    exact ⟨_, results_none rfl _ _ _, rfl, (Does.of h (bW.trans (hi.1.mono bW.size))).end hK hD bW.size⟩
  case stop =>
    rintro D c pre W hD ⟨k, hk, hk2⟩ ⟨rfl, p, x, e2, e3, e4⟩ hK
    gi_wp2
    refine ⟨by simp, .inl ⟨_, _, rfl, run_takeDeferred hK, ?_⟩⟩
    refine ⟨_, results_none rfl _ _ _, rfl, ?_⟩
    rw [other_stop s nm k hk p x (e2.symm.trans hk2) e3]
    by_cases hi : isP x.1.2 [nm.data.toList] = true
    · rw [if_pos hi] at e4 ⊢
      exact e4.end hK hD bW.size
    · rw [if_neg hi] at e4 ⊢
      rw [if_pos e4.1]
      exact e4.2.end hK hD bW.size
end Go.Proofs.YtfohijnkeefcfaaGreatDoor
namespace Go.Proofs.YtfohijnkeefcfaaGreatDoor
open Go.RowKit
open S5 (ButA andNew PT IsA cell_lt below_alloc hide below_drewN)
variable {O : Nat -> Prop} {n : Nat} {w W : World} {bb : Nat} {s : PB} {c : Nat}
theorem bodyStop_other_t (h : IsB O n w bb s) (hO : ∀ k, O k -> k < w.heap.size) (hI : PInv c s) (t : TV) (ht : TOk O n w t) (h12 : S6.isL 12 t.nm.data.toList = false) (h7 : S6.isL 7 t.nm.data.toList = false) (h6 : S6.isL 6 t.nm.data.toList = false) (h5 : S6.isL 5 t.nm.data.toList = false) (h11 : S6.isL 11 t.nm.data.toList = false) (np : (t.nm.toList == [112]) = false) (nli : (t.nm.toList == [108, 105]) = false) (ndd : (t.nm.toList == [100, 100]) = false) (ndt : (t.nm.toList == [100, 116]) = false) (nbutton : (t.nm.toList == [98, 117, 116, 116, 111, 110]) = false) (nform : (t.nm.toList == [102, 111, 114, 109]) = false) (nlisting : (t.nm.toList == [108, 105, 115, 116, 105, 110, 103]) = false) (npre : (t.nm.toList == [112, 114, 101]) = false) (nbr : (t.nm.toList == [98, 114]) = false) :
    Calls Tryz.prog 142 #[bP bb, tA t] w fun e w' => e = .returned (.tuple #[]) /\ Does O n w bb w' (otherP s t.nm) := by
  have hnn := h.nL
  have hbb := h.bL
  have hL := hI.opL
  have K12 := hide (S6.isp_12 t.nm)
  rw [h12] at K12
  have K7 := hide (S6.isp_7 t.nm)
  rw [h7] at K7
  have K6 := hide (S6.isp_6 t.nm)
  rw [h6] at K6
  have K5 := hide (S6.isp_5 t.nm)
  rw [h5] at K5
  have K11 := hide (S6.isp_11 t.nm)
  rw [h11] at K11
  have HC := hide (fun O1 y (h : IsB O1 n y bb s) => endOther_x h hI.ne (by omega) t.nm)
  have HIS := hide (fun x (b : Below w.heap.size w x) => h.below b)
  have HTB := hide (fun x (b : Below w.heap.size w x) => ht.below b)
  have HTD := hide (fun x y s1 (b : Below w.heap.size w x) (d : Does O n x bb y s1) => (ht.below b).does d (Nat.le_trans hnn b.size))
  have HB := hide (fun x (b : Below (tW w t).heap.size (tW w t) x) => t_box w t b)
  have HA := hide (fun x y s1 (b : Below (tW w t).heap.size (tW w t) x) (d : Does O n x bb y s1) => t_after hO b d)
  obtain ⟨va, vc, hva⟩ := S5.isA_form ht.1.1
  clear h ht
  clear h12 h7 h6 h5 h11
  obtain ⟨k, nm, aa, sv, cl, tx⟩ := t
  simp only [] at HTB HTD HB HA hva K12 K7 K6 K5 K11 HC np nli ndd ndt nbutton nform nlisting npre nbr ⊢
  subst hva
  generalize aa.length = al at *
  obtain ⟨c0, c1, c2, c3, c4, bb0⟩ := HB.out _ (Below.refl _ _)
  have B0 := hide (Below.refl (tW w ⟨k, nm, aa, .slice va al vc, cl, tx⟩).heap.size (tW w ⟨k, nm, aa, .slice va al vc, cl, tx⟩))
  go_enter Tryz.func142, Tryz.ntmps142
  go_wp2_with fail
  refine (K12.out _).mono ?_
  rintro e w1 ⟨rfl, b1⟩
  have B1 := hide (B0.out.trans (b1.mono B0.out.size))
  clear b1
  have cc1 := HB.out _ B1.out
  clear c0 c1 c2 c3 c4
  obtain ⟨c0, c1, c2, c3, c4, _⟩ := cc1
  go_wp2_with fail
  refine (K7.out _).mono ?_
  rintro e w2 ⟨rfl, b2⟩
  have B2 := hide (B1.out.trans (b2.mono B1.out.size))
  clear b2
  have cc2 := HB.out _ B2.out
  clear c0 c1 c2 c3 c4
  obtain ⟨c0, c1, c2, c3, c4, _⟩ := cc2
  go_wp2_with fail
  refine (K6.out _).mono ?_
  rintro e w3 ⟨rfl, b3⟩
  have B3 := hide (B2.out.trans (b3.mono B2.out.size))
  clear b3
  have cc3 := HB.out _ B3.out
  clear c0 c1 c2 c3 c4
  obtain ⟨c0, c1, c2, c3, c4, _⟩ := cc3
  go_wp2_with fail
  refine (K5.out _).mono ?_
  rintro e w4 ⟨rfl, b4⟩
  have B4 := hide (B3.out.trans (b4.mono B3.out.size))
  clear b4
  have cc4 := HB.out _ B4.out
  clear c0 c1 c2 c3 c4
  obtain ⟨c0, c1, c2, c3, c4, _⟩ := cc4
  go_wp2_with fail
  refine (K11.out _).mono ?_
  rintro e w5 ⟨rfl, b5⟩
  have B5 := hide (B4.out.trans (b5.mono B4.out.size))
  clear b5
  have cc5 := HB.out _ B5.out
  clear c0 c1 c2 c3 c4
  obtain ⟨c0, c1, c2, c3, c4, _⟩ := cc5
  go_wp2_with fail
  refine (HC.out _ _ (HIS.out _ (two_below B5.out))).mono ?_
  rintro e w6 ⟨rfl, d6⟩
  have D6 := hide d6
  clear d6
  have cc6 := HA.out _ _ _ B5.out D6.out
  clear c0 c1 c2 c3 c4
  obtain ⟨c0, c1, c2, c3, c4⟩ := cc6
  go_wp2
  go_end0
  exact ⟨rfl, D6.out.ahead hnn (two_below B5.out) hbb⟩
theorem bodyStop_other_p (h : IsB O n w bb s) (hI : PInv c s) (t : TV) (ht : TOk O n w t) (h12 : S6.isL 12 t.nm.data.toList = false) (h7 : S6.isL 7 t.nm.data.toList = false) (h6 : S6.isL 6 t.nm.data.toList = false) (h5 : S6.isL 5 t.nm.data.toList = false) (h11 : S6.isL 11 t.nm.data.toList = false) (np : (t.nm.toList == [112]) = false) (nli : (t.nm.toList == [108, 105]) = false) (ndd : (t.nm.toList == [100, 100]) = false) (ndt : (t.nm.toList == [100, 116]) = false) (nbutton : (t.nm.toList == [98, 117, 116, 116, 111, 110]) = false) (nform : (t.nm.toList == [102, 111, 114, 109]) = false) (nlisting : (t.nm.toList == [108, 105, 115, 116, 105, 110, 103]) = false) (npre : (t.nm.toList == [112, 114, 101]) = false) (nbr : (t.nm.toList == [98, 114]) = false) :
    Calls Tryz.prog 142 #[bP bb, tA t] w fun e w' => e = .returned (.tuple #[]) /\ Does O n w bb w' (otherP s t.nm) :=
  (bodyStop_other_t h.tight (fun k hk => hk.2) hI t ht.tight h12 h7 h6 h5 h11 np nli ndd ndt nbutton nform nlisting npre nbr).mono fun e w' ⟨a, d⟩ => ⟨a, d.wide h.nL⟩
end Go.Proofs.YtfohijnkeefcfaaGreatDoor
