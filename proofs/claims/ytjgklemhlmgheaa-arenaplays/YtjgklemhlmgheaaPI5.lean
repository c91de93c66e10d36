/- The program's Add. -/
import Derived.Test.YtjgklemhlmgheaaPH5
set_option linter.unusedVariables false
set_option linter.unusedSimpArgs false
namespace Go.Proofs.Ytjgklemhlmgheaa
open Go.RowKit

theorem heap_setCell_mk (w : World) (g i : Nat) (cs : Array Value) (t : TypeId) (mk : Nat × Nat) (v : Value) (hg : w.heap[g]? = some (.cells cs t mk)) : (w.setCell ⟨g, i, none⟩ v).heap[g]? = some (.cells (cs.setIfInBounds i v) t mk) := by
  rw [setCell_eq_setRow w g i cs t mk v hg]
  exact setRow_heap w g cs _ t _ hg
theorem cells_mk {e : TypeId} {g : Nat} {mk : Nat × Nat} : ∀ (vs : List Value) (o : Nat) (xs : List Value) (w : World), w.heap[g]? = some (.cells xs.toArray e mk) → o + vs.length ≤ xs.length → (w.setCells g o vs).heap[g]? = some (.cells (writeAt xs o vs).toArray e mk) ∧ ButA (fun k => k = g) w (w.setCells g o vs)
  | [], o, xs, w, h, hl => by
    have : writeAt xs o [] = xs := by simp [writeAt]
    rw [this]
    exact ⟨h, ButA.refl _ _⟩
  | v :: r, o, xs, w, h, hl => by
    have h1 : (w.setCell ⟨g, o, none⟩ v).heap[g]? = some (.cells (xs.set o v).toArray e mk) := by
      rw [heap_setCell_mk w g o _ e mk v h]; simp
    obtain ⟨a1, a2⟩ := cells_mk r (o + 1) (xs.set o v) _ h1 (by simp at hl ⊢; omega)
    rw [writeAt_step xs o v r hl] at a1
    have hq : ButA (fun k => k = g) w (w.setCell ⟨g, o, none⟩ v) := (ButA.refl (fun k => k = g) w).setCell (a := ⟨g, o, none⟩) (.inl rfl) v
    exact ⟨a1, hq.trans a2 fun _ _ h => h⟩
theorem textCells_len (l : List UInt8) : (textCells l).length = l.length := by simp [textCells]
theorem append_text (W : World) (v : Value) (l : List UInt8) (s : ByteArray) (hO : OwnB W v l) (hl : l.length ≤ 1000000000) (hs : s.size ≤ 1000000000) :
    ∃ v' w', (Builtin.append_ #[64, 9] 64 #[v, .string s]).run Try.prog W = .ok v' w' ∧ OwnB w' v' (l ++ s.data.toList) ∧ (∀ k, v'.ownBlock = some k → v.ownBlock = some k ∨ W.heap.size ≤ k) ∧ ButA (fun k => v.ownBlock = some k) W w' := by
  have hsrc : Src Try.prog 1 9 (.string s) s.size (byteCells s) W := Src.ofString W Try.underlying9 s
  have hbc : byteCells s = textCells s.data.toList := rfl
  have hsl := size_list s
  have hgrow : ∀ (base : Option Addr) (cap : Nat), cap < l.length + s.size → (Builtin.firstCells 1 l.length (.slice base l.length cap)).run Try.prog W.drew = .ok (textCells l).toArray W.drew →
      ∃ v' w', (Builtin.append_ #[64, 9] 64 #[.slice base l.length cap, .string s]).run Try.prog W = .ok v' w' ∧ OwnB w' v' (l ++ s.data.toList) ∧ (∀ k, v'.ownBlock = some k → (Value.slice base l.length cap).ownBlock = some k ∨ W.heap.size ≤ k) ∧ ButA (fun k => (Value.slice base l.length cap).ownBlock = some k) W w' := by
    intro base cap hc hold
    have hr := run_append_grow_src (P := Try.prog) W 64 9 64 5 Try.t5 (.int .u8 0) Try.underlying64 (by kernel_rfl) rfl base l.length cap (textCells l) hold (.string s) s.size (byteCells s) hsrc hc (by omega) (growslice_fits hc (by show _ * 1 ≤ _; omega))
    have hge := grownCap_ge W (l.length + s.size) cap 5
    have hcm := grownCap_le_maxLen W (l.length + s.size) cap 5 (by unfold maxLen; omega)
    have hll : (l ++ s.data.toList).length = l.length + s.size := by rw [List.length_append, ← hsl]
    refine ⟨_, _, hr, .inr ⟨W.heap.size, _, _, (0, 0), by rw [hll], heap_alloc_new W.drew _, fun j _ => ?_, by rw [hll]; exact hge, hcm, ?_, ?_⟩, fun k hk => .inr ?_, (ButA.refl _ W).drew.alloc _⟩
    · show World.frozen? _ _ = false
      have := heap_alloc_new W.drew (.cells ((textCells l ++ byteCells s).toArray ++ Builtin.zeroCells (Value.int .u8 0).cells (grownCap W (l.length + s.size) cap 5 - (l.length + s.size))) 5)
      simp only [World.frozen?]
      rw [show (W.drew.alloc (.cells ((textCells l ++ byteCells s).toArray ++ Builtin.zeroCells (Value.int .u8 0).cells (grownCap W (l.length + s.size) cap 5 - (l.length + s.size))) 5)).heap[W.heap.size]? = _ from this]
      simp
    · rw [Array.size_append, size_zeroCells, List.size_toArray, List.length_append, hbc, textCells_len, textCells_len, ← hsl]
      show _ + _ * 1 = _
      omega
    · rw [hll, hbc, Array.toList_append]
      show List.take _ ((textCells l ++ textCells s.data.toList) ++ _) = _
      rw [List.take_left' (by rw [List.length_append, textCells_len, textCells_len, ← hsl])]
      simp [textCells]
    · have : W.heap.size = k := by simpa [Value.ownBlock] using hk
      omega
  rcases hO with ⟨rfl, rfl⟩ | ⟨g, cap, cur, mk, rfl, h1, h2, h3, h4, h5, h6⟩
  · by_cases h0 : s.size = 0
    · have hs0 : s.data.toList = [] := List.eq_nil_of_length_eq_zero (by omega)
      refine ⟨.slice none 0 0, W, ?_, .inl ⟨rfl, by rw [hs0]; rfl⟩, (by intro k e; cases e), ButA.refl _ _⟩
      have h1 := hsrc.len W
      have h2 := hsrc.cells
      rw [h0] at h1 h2
      have hb0 : byteCells s = [] := by rw [hbc, hs0]; rfl
      rw [hb0] at h2
      simp [Builtin.append_, run_underlying (Try.underlying64), run_underlying (Try.underlying9), sizeOf, typeInfo, show Try.prog.info? 5 = some Try.t5 from by kernel_rfl, Builtin.lenOf, h0, show Try.t5.size = 1 from rfl, h2]
    · exact hgrow none 0 (by simp; omega) (run_firstCells_none W.drew 1 0 0 0)
  · by_cases hroom : l.length + s.size ≤ cap
    · have hcl : ∀ j, j < cap → (W.cell? ⟨g, j, none⟩).isSome = true := fun j hj => by
        simp only [World.cell?, h1]
        have : j < cur.size := by omega
        simp [this]
      have hnl : (byteCells s).length = s.size := byteCells_length s
      have hr := run_append_room_src (P := Try.prog) W 64 9 64 5 Try.t5 Try.underlying64 (by kernel_rfl) g 0 l.length cap (.string s) s.size (byteCells s) hsrc hroom (fun j hj => hcl _ (by show 0 + l.length * 1 + j < cap; omega)) (fun j hj => h2 _ (by show 0 + l.length * 1 + j < cap; omega))
      have hh : W.heap[g]? = some (.cells cur.toList.toArray 5 mk) := by simpa using h1
      have hr2 : (Builtin.append_ #[64, 9] 64 #[.slice (some ⟨g, 0, none⟩) l.length cap, .string s]).run Try.prog W = .ok (.slice (some ⟨g, 0, none⟩) (l.length + s.size) cap) (W.setCells g l.length (byteCells s)) := by
        rw [show 0 + l.length * Try.t5.size = l.length from by show 0 + l.length * 1 = l.length; omega] at hr
        exact hr
      have hcl2 : cur.toList.length = cap := by simpa using h5
      obtain ⟨a1, a2⟩ := cells_mk (byteCells s) l.length cur.toList W hh (by omega)
      have hll : (l ++ s.data.toList).length = l.length + s.size := by rw [List.length_append, ← hsl]
      refine ⟨_, _, hr2, .inr ⟨g, cap, _, mk, by rw [hll], a1, fun j hj => ?_, by rw [hll]; exact hroom, h4, ?_, ?_⟩, fun k hk => .inl hk, a2.mono fun k e => by rw [e]; rfl⟩
      · rw [World.frozen?_setCells]
        exact h2 j hj
      · simp only [List.size_toArray]
        rw [writeAt_len _ _ _ (by omega)]
        exact hcl2
      · unfold writeAt
        rw [h6, hll, hbc]
        show List.take _ (textCells l ++ textCells s.data.toList ++ _) = _
        rw [List.take_left' (by rw [List.length_append, textCells_len, textCells_len, ← hsl])]
        simp [textCells]
    · refine hgrow (some ⟨g, 0, none⟩) cap (by omega) (run_firstCells_some W.drew 1 l.length ⟨g, 0, none⟩ l.length cap (textCells l) (by rw [textCells_len]; omega) fun j u hu => ?_)
      rw [addr_add]
      show W.cell? ⟨g, j, none⟩ = some u
      simp only [World.cell?, h1]
      rw [← h6] at hu
      have hj : j < l.length := by
        rcases Nat.lt_or_ge j l.length with h | h
        · exact h
        · rw [List.getElem?_eq_none (by rw [List.length_take]; omega)] at hu
          cases hu
      rw [List.getElem?_take_of_lt hj] at hu
      simpa using hu
theorem PV.textTo {A : Nat → Prop} {w w1 : World} {pb g cap : Nat} {rs : List RV} {R : List RN} (hR : rs.map (·.rn) = R) (h : PV A w pb g cap rs) (i : Nat) (hi : i < rs.length) (hb : ButA (fun k => rs[i].tv.ownBlock = some k) w w1) (tv' : Value) (s' : List UInt8)
    (hown : OwnB w1 tv' s') (hfr : ∀ k, tv'.ownBlock = some k → rs[i].tv.ownBlock = some k ∨ w.heap.size ≤ k) : PG (andNew A w.heap.size) (w1.setCell ⟨g, i * 7 + 6, none⟩ tv') pb g (setText R i s') := by
  have hk : ∀ s k, s ≠ .txt i → slotB pb g rs s = some k → w1.heap[k]? = w.heap[k]? := fun s k hs e => hb.block k (h.lt s k e) fun e2 => hs (h.sep s (.txt i) k e (by rw [slot_txt pb g rs i hi]; exact e2))
  refine ⟨cap, _, map_upd hR i hi ⟨rs[i].rn.wText s', rs[i].kv, rs[i].av, tv'⟩ _ rfl, h.upd i hi (.txt i) (.inr rfl) hb.size hk _ 6 (by omega) tv' rfl ?_ rfl rfl hown (fun _ => rfl) (fun e => absurd rfl e) (fun k hk => .inl hk) hfr⟩
  exact ownsRow_keep (h.kid i hi) fun k e => hk (.kid i) k (by simp) (by rw [slot_kid pb g rs i hi]; exact e)
set_option maxRecDepth 10000 in
set_option maxHeartbeats 4000000 in
theorem add_p {A : Nat → Prop} {w : World} {pb : Nat} {T : TR} (hW : WF T) (hz : T.length ≤ 1000000) (z : Int) (s : ByteArray) (hs : s.size ≤ 1000000000) (htl : ∀ i, (nodeAt T i).text.length ≤ 1000000000) (h : PT A w pb T) :
    Calls Try.prog 31 #[.pointer (some ⟨pb, 0, none⟩), .int .i64 z, .string s] w (Acted A w pb (addZ T z s.data.toList)) := by
  have HH := hide (has_p z h)
  have HPT := hide h
  rw [raw_len] at HH
  unfold addZ
  by_cases hzz : inT T z
  · rw [if_pos hzz]
    rw [show decide (0 ≤ z ∧ z < T.length) = true from decide_eq_true hzz] at HH
    obtain ⟨n, rfl⟩ : ∃ n : Nat, z = (n : Int) := ⟨z.toNat, by unfold inT at hzz; omega⟩
    have hn : n < T.length := by unfold inT at hzz; omega
    have hni : (n : Int) < T.length := by omega
    rw [Int.toNat_natCast]
    obtain ⟨g, cap, rs, hR, hP⟩ := h
    have hlr := map_len hR
    rw [raw_len] at hlr
    have hn2 : n < rs.length := by omega
    have hrn := map_get hR n hn2 (by rw [raw_len]; exact hn)
    rw [raw_get] at hrn
    have hnd : rs[n].rn.nd = nodeAt T n := by rw [hrn]; rfl
    have HPV := hide hP
    have HND := hide hnd
    have HRR := hide hR
    have HAR := hide (add_raw hW hn s.data.toList)
    have ck : w.cell? ⟨g, n * 7, none⟩ = some (.int .i64 (nodeAt T n).kind) := by
      have := hP.cellAt n hn2 0 (by omega)
      rw [← hnd]
      exact this
    have HCK := hide ck
    have HTL := hide (htl n)
    clear hP hR hrn hnd ck hW htl
    by_cases hk : (nodeAt T n).kind = 2
    · rw [if_pos hk]
      rw [hk] at HCK
      clear hk hzz
      go_enter Try.func31, Try.ntmps31
      go_wp2_with fail
      refine HH.out.mono ?_
      rintro e w1 ⟨rfl, b1⟩
      have hP1 := HPV.out.below b1
      have c0 := hP1.tree
      rw [hlr] at c0
      have d0 := (b1.cell (cell_lt HCK.out)).trans HCK.out
      have d6 : w1.cell? ⟨g, n * 7 + 6, none⟩ = some rs[n].tv := hP1.cellAt n hn2 6 (by omega)
      have d6f : w1.frozen? ⟨g, n * 7 + 6, none⟩ = false := hP1.frz _
      have htx := hP1.txt n hn2
      rw [HND.out] at htx
      obtain ⟨v', w', hr, hO, hfr, hb⟩ := append_text w1.drew rs[n].tv (nodeAt T n).text s (htx.keep fun _ _ => rfl) HTL.out hs
      have hb0 : ButA (fun k => rs[n].tv.ownBlock = some k) w1 w' := ⟨hb.os, hb.tape, hb.output, hb.size, hb.block⟩
      have hne : ∀ sl, sl ≠ Sl.txt n → ∀ k, slotB pb g rs sl = some k → w'.heap[k]? = w1.heap[k]? := fun sl hsl k e => hb0.block k (hP1.lt sl k e) fun e2 => hsl (hP1.sep sl (.txt n) k e (by rw [slot_txt pb g rs n hn2]; exact e2))
      have c0' : w'.cell? ⟨pb, 0, none⟩ = some (.slice (some ⟨g, 0, none⟩) T.length cap) := cell_same (hne .tree (by simp) pb rfl) c0
      have d6' : w'.cell? ⟨g, n * 7 + 6, none⟩ = some rs[n].tv := cell_same (hne .row (by simp) g rfl) d6
      have d6f' : w'.frozen? ⟨g, n * 7 + 6, none⟩ = false := by rw [World.frozen?_of_block (a := ⟨g, n * 7 + 6, none⟩) (hne .row (by simp) g rfl)]; exact d6f
      have hfin := hP1.textTo HRR.out n hn2 hb0 v' _ hO hfr
      rw [HAR.out] at hfin
      have hgA : A g := hP1.inA .row g rfl
      have HF : Hid (PT (andNew A w.heap.size) (w'.setCell ⟨g, n * 7 + 6, none⟩ v') pb (addL T n s.data.toList) ∧ ButA A w (w'.setCell ⟨g, n * 7 + 6, none⟩ v')) := hide ⟨⟨g, hfin.mono (by
        rintro k (h | h)
        · exact .inl h
        · exact .inr (Nat.le_trans b1.size h))⟩, ((ButA.of b1).trans hb0 (fun j _ e => hP1.inA (.txt n) j (by rw [slot_txt pb g rs n hn2]; exact e))).setCell (.inl hgA) _⟩
      obtain ⟨ta, tc, et⟩ := htx.form
      obtain ⟨ta2, tc2, et2⟩ := hO.form
      rw [et] at d6 d6' hr
      subst et2
      have HR := hide hr
      clear hr hO hfr hb hb0 hne hfin hgA hP1 htx et b1 HPT HRR HND HPV HCK HTL HAR
      generalize (nodeAt T n).text.length = tl at *
      generalize ((nodeAt T n).text ++ s.data.toList).length = tl2 at *
      go_wp2_with fail
      go_region_law (refine step_append_run rfl (.tmp 33) (.tmp 34) 64 9 rfl (.slice ta tl tc) (.string s) (by simp [Act.eval, Act.put]) (by simp [Act.eval, Act.put]) HR.out ?_)
      all_goals
        go_wp2
        go_ret
        exact ⟨rfl, HF.out.1, HF.out.2⟩
    · rw [if_neg hk]
      generalize (nodeAt T n).kind = kd at *
      have hkb : (kd != 2) = true := bne_iff_ne.2 hk
      clear hzz HAR
      go_enter Try.func31, Try.ntmps31
      go_wp2_with fail
      refine HH.out.mono ?_
      rintro e w1 ⟨rfl, b1⟩
      have c0 := (HPV.out.below b1).tree
      rw [hlr] at c0
      have d0 := (b1.cell (cell_lt HCK.out)).trans HCK.out
      have HF := hide (acted_same HPT.out b1)
      clear b1
      go_wp2
      go_ret
      exact ⟨rfl, HF.out.1, HF.out.2⟩
  · rw [if_neg hzz]
    rw [show decide (0 ≤ z ∧ z < T.length) = false from decide_eq_false hzz] at HH
    clear hzz hW h
    go_enter Try.func31, Try.ntmps31
    go_wp2_with fail
    refine HH.out.mono ?_
    rintro e w1 ⟨rfl, b1⟩
    have HF := hide (acted_same HPT.out b1)
    clear b1
    go_wp2
    go_ret
    exact ⟨rfl, HF.out.1, HF.out.2⟩
end Go.Proofs.Ytjgklemhlmgheaa
