import Derived.Test.YtfohijnkeefcfaaGreatDoorKn08
import Derived.Test.YtfohijnkeefcfaaGreatDoorKn09
import Derived.Test.YtfohijnkeefcfaaGreatDoorKn18
import Derived.BigQuiet
import Derived.Deep.QuietTactic
set_option linter.unusedVariables false
set_option linter.unusedSimpArgs false
set_option maxRecDepth 100000
set_option maxHeartbeats 8000000
namespace Go.Proofs.YtfohijnkeefcfaaGreatDoor.S5
open Go.RowKit
theorem heap_setCell_mk (w : World) (g i : Nat) (cs : Array Value) (t : TypeId) (mk : Nat × Nat) (v : Value) (hg : w.heap[g]? = some (.cells cs t mk)) : (w.setCell ⟨g, i, none⟩ v).heap[g]? = some (.cells (cs.setIfInBounds i v) t mk) := by
  rw [setCell_eq_setRow w g i cs t mk v hg]
  exact setRow_heap w g cs _ t _ hg
theorem cells_mk {e : TypeId} {g : Nat} {mk : Nat × Nat} : ∀ (vs : List Value) (o : Nat) (xs : List Value) (w : World), w.heap[g]? = some (.cells xs.toArray e mk) -> o + vs.length <= xs.length -> (w.setCells g o vs).heap[g]? = some (.cells (writeAt xs o vs).toArray e mk) /\ ButA (fun k => k = g) w (w.setCells g o vs)
  | [], o, xs, w, h, hl => by
    have : writeAt xs o [] = xs := by simp [writeAt]
    rw [this]
    exact ⟨h, ButA.refl _ _⟩
  | v :: r, o, xs, w, h, hl => by
    have h1 : (w.setCell ⟨g, o, none⟩ v).heap[g]? = some (.cells (xs.set o v).toArray e mk) := by
      rw [heap_setCell_mk w g o _ e mk v h]; simp
    obtain ⟨a1, a2⟩ := cells_mk r (o + 1) (xs.set o v) _ h1 (by simp at hl ⊢; omega)
    rw [writeAt_step xs o v r hl] at a1
    have hq : ButA (fun k => k = g) w (w.setCell ⟨g, o, none⟩ v) := (ButA.refl (fun k => k = g) w).setCell (a := ⟨g, o, none⟩) (.inl rfl) v
    exact ⟨a1, hq.trans a2 fun _ _ h => h⟩
theorem textCells_len (l : List UInt8) : (textCells l).length = l.length := by simp [textCells]
theorem append_text (W : World) (v : Value) (l : List UInt8) (s : ByteArray) (hO : OwnB W v l) (hl : l.length <= 1000000000) (hs : s.size <= 1000000000) :
    ∃ v' w', (Builtin.append_ #[60, 9] 60 #[v, .string s]).run Tryz.prog W = .ok v' w' /\ OwnB w' v' (l ++ s.data.toList) /\ (∀ k, v'.ownBlock = some k -> v.ownBlock = some k \/ W.heap.size <= k) /\ ButA (fun k => v.ownBlock = some k) W w' := by
  have hsrc : Src Tryz.prog 1 9 (.string s) s.size (byteCells s) W := Src.ofString W Tryz.underlying9 s
  have hbc : byteCells s = textCells s.data.toList := rfl
  have hsl := size_list s
  have hgrow : ∀ (base : Option Addr) (cap : Nat), cap < l.length + s.size -> (Builtin.firstCells 1 l.length (.slice base l.length cap)).run Tryz.prog W.drew = .ok (textCells l).toArray W.drew ->
      ∃ v' w', (Builtin.append_ #[60, 9] 60 #[.slice base l.length cap, .string s]).run Tryz.prog W = .ok v' w' /\ OwnB w' v' (l ++ s.data.toList) /\ (∀ k, v'.ownBlock = some k -> (Value.slice base l.length cap).ownBlock = some k \/ W.heap.size <= k) /\ ButA (fun k => (Value.slice base l.length cap).ownBlock = some k) W w' := by
    intro base cap hc hold
    have hr := run_append_grow_src (P := Tryz.prog) W 60 9 60 5 Tryz.t5 (.int .u8 0) Tryz.underlying60 (by kernel_rfl) rfl base l.length cap (textCells l) hold (.string s) s.size (byteCells s) hsrc hc (by omega) (growslice_fits hc (by show _ * 1 <= _; omega))
    have hge := grownCap_ge W (l.length + s.size) cap 5
    have hcm := grownCap_le_maxLen W (l.length + s.size) cap 5 (by unfold maxLen; omega)
    have hll : (l ++ s.data.toList).length = l.length + s.size := by rw [List.length_append, <- hsl]
    refine ⟨_, _, hr, .inr ⟨W.heap.size, _, _, (0, 0), by rw [hll], heap_alloc_new W.drew _, fun j _ => ?_, by rw [hll]; exact hge, hcm, ?_, ?_⟩, fun k hk => .inr ?_, (ButA.refl _ W).drew.alloc _⟩
    · show World.frozen? _ _ = false
      have := heap_alloc_new W.drew (.cells ((textCells l ++ byteCells s).toArray ++ Builtin.zeroCells (Value.int .u8 0).cells (grownCap W (l.length + s.size) cap 5 - (l.length + s.size))) 5)
      simp only [World.frozen?]
      rw [show (W.drew.alloc (.cells ((textCells l ++ byteCells s).toArray ++ Builtin.zeroCells (Value.int .u8 0).cells (grownCap W (l.length + s.size) cap 5 - (l.length + s.size))) 5)).heap[W.heap.size]? = _ from this]
      simp
    · rw [Array.size_append, size_zeroCells, List.size_toArray, List.length_append, hbc, textCells_len, textCells_len, <- hsl]
      show _ + _ * 1 = _
      omega
    · rw [hll, hbc, Array.toList_append]
      show List.take _ ((textCells l ++ textCells s.data.toList) ++ _) = _
      rw [List.take_left' (by rw [List.length_append, textCells_len, textCells_len, <- hsl])]
      simp [textCells]
    · have : W.heap.size = k := by simpa [Value.ownBlock] using hk
      omega
  rcases hO with ⟨rfl, rfl⟩ | ⟨g, cap, cur, mk, rfl, h1, h2, h3, h4, h5, h6⟩
  · by_cases h0 : s.size = 0
    · have hs0 : s.data.toList = [] := List.eq_nil_of_length_eq_zero (by omega)
      refine ⟨.slice none 0 0, W, ?_, .inl ⟨rfl, by rw [hs0]; rfl⟩, (by intro k e; cases e), ButA.refl _ _⟩
      have h1 := hsrc.len W
      have h2 := hsrc.cells
      rw [h0] at h1 h2
      have hb0 : byteCells s = [] := by rw [hbc, hs0]; rfl
      rw [hb0] at h2
      simp [Builtin.append_, run_underlying (Tryz.underlying60), run_underlying (Tryz.underlying9), sizeOf, typeInfo, show Tryz.prog.info? 5 = some Tryz.t5 from by kernel_rfl, Builtin.lenOf, h0, show Tryz.t5.size = 1 from rfl, h2]
    · exact hgrow none 0 (by simp; omega) (run_firstCells_none W.drew 1 0 0 0)
  · by_cases hroom : l.length + s.size <= cap
    · have hcl : ∀ j, j < cap -> (W.cell? ⟨g, j, none⟩).isSome = true := fun j hj => by
        simp only [World.cell?, h1]
        have : j < cur.size := by omega
        simp [this]
      have hnl : (byteCells s).length = s.size := byteCells_length s
      have hr := run_append_room_src (P := Tryz.prog) W 60 9 60 5 Tryz.t5 Tryz.underlying60 (by kernel_rfl) g 0 l.length cap (.string s) s.size (byteCells s) hsrc hroom (fun j hj => hcl _ (by show 0 + l.length * 1 + j < cap; omega)) (fun j hj => h2 _ (by show 0 + l.length * 1 + j < cap; omega))
      have hh : W.heap[g]? = some (.cells cur.toList.toArray 5 mk) := by simpa using h1
      have hr2 : (Builtin.append_ #[60, 9] 60 #[.slice (some ⟨g, 0, none⟩) l.length cap, .string s]).run Tryz.prog W = .ok (.slice (some ⟨g, 0, none⟩) (l.length + s.size) cap) (W.setCells g l.length (byteCells s)) := by
        rw [show 0 + l.length * Tryz.t5.size = l.length from by show 0 + l.length * 1 = l.length; omega] at hr
        exact hr
      have hcl2 : cur.toList.length = cap := by simpa using h5
      obtain ⟨a1, a2⟩ := cells_mk (byteCells s) l.length cur.toList W hh (by omega)
      have hll : (l ++ s.data.toList).length = l.length + s.size := by rw [List.length_append, <- hsl]
      refine ⟨_, _, hr2, .inr ⟨g, cap, _, mk, by rw [hll], a1, fun j hj => ?_, by rw [hll]; exact hroom, h4, ?_, ?_⟩, fun k hk => .inl hk, a2.mono fun k e => by rw [e]; rfl⟩
      · rw [World.frozen?_setCells]
        exact h2 j hj
      · simp only [List.size_toArray]
        rw [writeAt_len _ _ _ (by omega)]
        exact hcl2
      · unfold writeAt
        rw [h6, hll, hbc]
        show List.take _ (textCells l ++ textCells s.data.toList ++ _) = _
        rw [List.take_left' (by rw [List.length_append, textCells_len, textCells_len, <- hsl])]
        simp [textCells]
    · refine hgrow (some ⟨g, 0, none⟩) cap (by omega) (run_firstCells_some W.drew 1 l.length ⟨g, 0, none⟩ l.length cap (textCells l) (by rw [textCells_len]; omega) fun j u hu => ?_)
      rw [addr_add]
      show W.cell? ⟨g, j, none⟩ = some u
      simp only [World.cell?, h1]
      rw [<- h6] at hu
      have hj : j < l.length := by
        rcases Nat.lt_or_ge j l.length with h | h
        · exact h
        · rw [List.getElem?_eq_none (by rw [List.length_take]; omega)] at hu
          cases hu
      rw [List.getElem?_take_of_lt hj] at hu
      simpa using hu
theorem PV.textTo {A : Nat -> Prop} {w w1 : World} {pb g cap : Nat} {rs : List RV} {R : List RN} (hR : rs.map (·.rn) = R) (h : PV A w pb g cap rs) (i : Nat) (hi : i < rs.length) (hb : ButA (fun k => rs[i].tv.ownBlock = some k) w w1) (tv' : Value) (s' : List UInt8)
    (hown : OwnB w1 tv' s') (hfr : ∀ k, tv'.ownBlock = some k -> rs[i].tv.ownBlock = some k \/ w.heap.size <= k) : PG (andNew A w.heap.size) (w1.setCell ⟨g, i * 7 + 6, none⟩ tv') pb g (setText R i s') := by
  have hk : ∀ s k, s ≠ .txt i -> slotB pb g rs s = some k -> w1.heap[k]? = w.heap[k]? := fun s k hs e => hb.block k (h.lt s k e) fun e2 => hs (h.sep s (.txt i) k e (by rw [slot_txt pb g rs i hi]; exact e2))
  refine ⟨cap, _, map_upd hR i hi ⟨rs[i].rn.wText s', rs[i].kv, rs[i].av, tv'⟩ _ rfl, h.upd i hi (.txt i) (.inr rfl) hb.size hk _ 6 (by omega) tv' rfl ?_ rfl rfl hown (fun _ => rfl) (fun e => absurd rfl e) (fun k hk => .inl hk) hfr⟩
  exact ownsRow_keep (h.kid i hi) fun k e => hk (.kid i) k (by simp) (by rw [slot_kid pb g rs i hi]; exact e)
theorem add_p {A : Nat -> Prop} {w : World} {pb : Nat} {T : TR} (hW : WF T) (hz : T.length <= 1000000) (z : Int) (s : ByteArray) (hs : s.size <= 1000000000) (htl : ∀ i, (nodeAt T i).text.length <= 1000000000) (h : PT A w pb T) :
    Calls Tryz.prog 106 #[.pointer (some ⟨pb, 0, none⟩), .int .i64 z, .string s] w (Acted A w pb (addZ T z s.data.toList)) := by
  have HH := hide (has_p z h)
  have HPT := hide h
  rw [raw_len] at HH
  unfold addZ
  by_cases hzz : inT T z
  · rw [if_pos hzz]
    rw [show decide (0 <= z /\ z < T.length) = true from decide_eq_true hzz] at HH
    obtain ⟨n, rfl⟩ : ∃ n : Nat, z = (n : Int) := ⟨z.toNat, by unfold inT at hzz; omega⟩
    have hn : n < T.length := by unfold inT at hzz; omega
    have hni : (n : Int) < T.length := by omega
    rw [Int.toNat_natCast]
    obtain ⟨g, cap, rs, hR, hP⟩ := h
    have hlr := map_len hR
    rw [raw_len] at hlr
    have hn2 : n < rs.length := by omega
    have hrn := map_get hR n hn2 (by rw [raw_len]; exact hn)
    rw [raw_get] at hrn
    have hnd : rs[n].rn.nd = nodeAt T n := by rw [hrn]; rfl
    have HPV := hide hP
    have HND := hide hnd
    have HRR := hide hR
    have HAR := hide (add_raw hW hn s.data.toList)
    have ck : w.cell? ⟨g, n * 7, none⟩ = some (.int .i64 (nodeAt T n).kind) := by
      have := hP.cellAt n hn2 0 (by omega)
      rw [<- hnd]
      exact this
    have HCK := hide ck
    have HTL := hide (htl n)
    clear hP hR hrn hnd ck hW htl
    by_cases hk : (nodeAt T n).kind = 2
    · rw [if_pos hk]
      rw [hk] at HCK
      clear hk hzz
      go_enter Tryz.func106, Tryz.ntmps106
      go_wp2_with fail
      refine HH.out.mono ?_
      rintro e w1 ⟨rfl, b1⟩
      have hP1 := HPV.out.below b1
      have c0 := hP1.tree
      rw [hlr] at c0
      have d0 := (b1.cell (cell_lt HCK.out)).trans HCK.out
      have d6 : w1.cell? ⟨g, n * 7 + 6, none⟩ = some rs[n].tv := hP1.cellAt n hn2 6 (by omega)
      have d6f : w1.frozen? ⟨g, n * 7 + 6, none⟩ = false := hP1.frz _
      have htx := hP1.txt n hn2
      rw [HND.out] at htx
      obtain ⟨v', w', hr, hO, hfr, hb⟩ := append_text w1.drew rs[n].tv (nodeAt T n).text s (htx.keep fun _ _ => rfl) HTL.out hs
      have hb0 : ButA (fun k => rs[n].tv.ownBlock = some k) w1 w' := ⟨hb.os, hb.tape, hb.output, hb.size, hb.block⟩
      have hne : ∀ sl, sl ≠ Sl.txt n -> ∀ k, slotB pb g rs sl = some k -> w'.heap[k]? = w1.heap[k]? := fun sl hsl k e => hb0.block k (hP1.lt sl k e) fun e2 => hsl (hP1.sep sl (.txt n) k e (by rw [slot_txt pb g rs n hn2]; exact e2))
      have c0' : w'.cell? ⟨pb, 0, none⟩ = some (.slice (some ⟨g, 0, none⟩) T.length cap) := cell_same (hne .tree (by simp) pb rfl) c0
      have d6' : w'.cell? ⟨g, n * 7 + 6, none⟩ = some rs[n].tv := cell_same (hne .row (by simp) g rfl) d6
      have d6f' : w'.frozen? ⟨g, n * 7 + 6, none⟩ = false := by rw [World.frozen?_of_block (a := ⟨g, n * 7 + 6, none⟩) (hne .row (by simp) g rfl)]; exact d6f
      have hfin := hP1.textTo HRR.out n hn2 hb0 v' _ hO hfr
      rw [HAR.out] at hfin
      have hgA : A g := hP1.inA .row g rfl
      have HF : Hid (PT (andNew A w.heap.size) (w'.setCell ⟨g, n * 7 + 6, none⟩ v') pb (addL T n s.data.toList) /\ ButA A w (w'.setCell ⟨g, n * 7 + 6, none⟩ v')) := hide ⟨⟨g, hfin.mono (by
        rintro k (h | h)
        · exact .inl h
        · exact .inr (Nat.le_trans b1.size h))⟩, ((ButA.of b1).trans hb0 (fun j _ e => hP1.inA (.txt n) j (by rw [slot_txt pb g rs n hn2]; exact e))).setCell (.inl hgA) _⟩
      obtain ⟨ta, tc, et⟩ := htx.form
      obtain ⟨ta2, tc2, et2⟩ := hO.form
      rw [et] at d6 d6' hr
      subst et2
      have HR := hide hr
      clear hr hO hfr hb hb0 hne hfin hgA hP1 htx et b1 HPT HRR HND HPV HCK HTL HAR
      generalize (nodeAt T n).text.length = tl at *
      generalize ((nodeAt T n).text ++ s.data.toList).length = tl2 at *
      go_wp2_with fail
      go_region_law (refine step_append_run rfl (.tmp 33) (.tmp 34) 60 9 rfl (.slice ta tl tc) (.string s) (by simp [Act.eval, Act.put]) (by simp [Act.eval, Act.put]) HR.out ?_)
      all_goals
        go_wp2
        go_ret
        exact ⟨rfl, HF.out.1, HF.out.2⟩
    · rw [if_neg hk]
      generalize (nodeAt T n).kind = kd at *
      have hkb : (kd != 2) = true := bne_iff_ne.2 hk
      clear hzz HAR
      go_enter Tryz.func106, Tryz.ntmps106
      go_wp2_with fail
      refine HH.out.mono ?_
      rintro e w1 ⟨rfl, b1⟩
      have c0 := (HPV.out.below b1).tree
      rw [hlr] at c0
      have d0 := (b1.cell (cell_lt HCK.out)).trans HCK.out
      have HF := hide (acted_same HPT.out b1)
      clear b1
      go_wp2
      go_ret
      exact ⟨rfl, HF.out.1, HF.out.2⟩
  · rw [if_neg hzz]
    rw [show decide (0 <= z /\ z < T.length) = false from decide_eq_false hzz] at HH
    clear hzz hW h
    go_enter Tryz.func106, Tryz.ntmps106
    go_wp2_with fail
    refine HH.out.mono ?_
    rintro e w1 ⟨rfl, b1⟩
    have HF := hide (acted_same HPT.out b1)
    clear b1
    go_wp2
    go_ret
    exact ⟨rfl, HF.out.1, HF.out.2⟩
end Go.Proofs.YtfohijnkeefcfaaGreatDoor.S5
namespace Go.Proofs.YtfohijnkeefcfaaGreatDoor.S5
open Go.RowKit
def NT : Nat -> Type
  | 0 => { d : ND // False }
  | k + 1 => ND × List (NT k)
def NT.mk {k : Nat} (d : ND) (ks : List (NT k)) : NT (k + 1) := Prod.mk d ks
def NT.nd {k : Nat} (t : NT (k + 1)) : ND := Prod.fst (α := ND) (β := List (NT k)) t
def NT.kids {k : Nat} (t : NT (k + 1)) : List (NT k) := Prod.snd (α := ND) (β := List (NT k)) t
theorem NT.none {G : Prop} (t : NT 0) : G := (Subtype.property (p := fun d : ND => False) t).elim
theorem NT.form {k : Nat} (t : NT (k + 1)) : t = .mk t.nd t.kids := rfl
def countT : {k : Nat} -> NT k -> Nat
  | 0, _ => 0
  | k + 1, t => 1 + (t.kids.map fun x => countT x).sum
def countTs {k : Nat} (l : List (NT k)) : Nat := (l.map fun x => countT x).sum
def NT.lift : {k : Nat} -> NT k -> NT (k + 1)
  | 0, t => .mk t.1 []
  | k + 1, t => .mk t.nd (t.kids.map fun x => NT.lift x)
def valueK : (k : Nat) -> TR -> Nat -> NT (k + 1)
  | 0, T, n => .mk (nodeAt T n) []
  | k + 1, T, n => .mk (nodeAt T n) ((kidsAt T n).map (valueK k T))
def valueL (T : TR) (n : Nat) : NT (T.length + 1) := valueK T.length T n
theorem value_more {T : TR} (h : WF T) {r : Nat -> Nat} (hr : ∀ i k, k ∈ kidsAt T i -> r i < r k) (hb : ∀ i, i < T.length -> r i < T.length) : ∀ (k n : Nat), n < T.length -> T.length <= r n + k + 1 -> valueK (k + 1) T n = (valueK k T n).lift
  | 0, n, hn, hk => by
    have h0 : kidsAt T n = [] := by
      cases hl : kidsAt T n with
      | nil => rfl
      | cons x s =>
        have hx : x ∈ kidsAt T n := by rw [hl]; simp
        have := hr n x hx
        have := hb x (h.inb n x hx).2
        omega
    show NT.mk (nodeAt T n) ((kidsAt T n).map (valueK 0 T)) = NT.mk (nodeAt T n) []
    rw [h0]
    rfl
  | k + 1, n, hn, hk => by
    show NT.mk (nodeAt T n) ((kidsAt T n).map (valueK (k + 1) T)) = NT.mk (nodeAt T n) (((kidsAt T n).map (valueK k T)).map NT.lift)
    rw [List.map_map]
    congr 1
    exact List.map_congr_left fun x hx => value_more h hr hb k x (h.inb n x hx).2 (by have := hr n x hx; omega)
theorem WF.value_eq {T : TR} (h : WF T) {n : Nat} (hn : n < T.length) : (valueL T n).lift = .mk (nodeAt T n) ((kidsAt T n).map (valueL T)) := by
  obtain ⟨r, hr, hb⟩ := h.ranked
  exact (value_more h hr hb T.length n hn (by omega)).symm
def nodeC (d : ND) (av kv : Value) : List Value := [.int .i64 d.kind, .int .i64 d.space, .string ⟨d.name.toArray⟩, av, .string ⟨d.text.toArray⟩, kv]
def RowG {α : Type} (P : α -> List Value -> Prop) (w : World) (b : Nat) : Nat -> List α -> Prop
  | _, [] => True
  | o, k :: r => (∃ vs : List Value, (∀ i, i < 6 -> w.cell? ⟨b, o + i, none⟩ = vs[i]?) /\ P k vs) /\ RowG P w b (o + 6) r
theorem RowG.keep {α β : Type} {P : α -> List Value -> Prop} {Q : β -> List Value -> Prop} {w W : World} {b : Nat} (f : α -> β) (hc : W.heap[b]? = w.heap[b]?) (hf : ∀ x vs, P x vs -> Q (f x) vs) : ∀ (o : Nat) (ks : List α), RowG P w b o ks -> RowG Q W b o (ks.map f)
  | _, [], _ => trivial
  | o, k :: r, h => by
    obtain ⟨⟨vs, h1, h2⟩, h3⟩ := h
    exact ⟨⟨vs, fun i hi => by rw [World.cell?_of_block (a := ⟨b, o + i, none⟩) hc]; exact h1 i hi, hf k vs h2⟩, RowG.keep f hc hf (o + 6) r h3⟩
theorem RowG.unmap {α β : Type} {P : α -> List Value -> Prop} {Q : β -> List Value -> Prop} {w : World} {b : Nat} (f : α -> β) (hf : ∀ x vs, Q (f x) vs -> P x vs) : ∀ (o : Nat) (ks : List α), RowG Q w b o (ks.map f) -> RowG P w b o ks
  | _, [], _ => trivial
  | o, k :: r, h => by
    obtain ⟨⟨vs, h1, h2⟩, h3⟩ := h
    exact ⟨⟨vs, h1, hf k vs h2⟩, RowG.unmap f hf (o + 6) r h3⟩
def IsN (B : Nat -> Prop) (w : World) : {k : Nat} -> NT k -> List Value -> Prop
  | 0, _, _ => False
  | k + 1, t, vs => ∃ av kv, vs = nodeC t.nd av kv /\ IsAB B w av t.nd.attrs /\ ((kv = .slice none 0 0 /\ t.kids = []) \/ ∃ b o cap, kv = .slice (some ⟨b, o, none⟩) t.kids.length cap /\ t.kids.length <= cap /\ (t.kids = [] \/ B b) /\ RowG (fun x us => IsN B w x us) w b o t.kids)
def IsNs (B : Nat -> Prop) (w : World) (b : Nat) {k : Nat} (o : Nat) (ks : List (NT k)) : Prop := RowG (fun x us => IsN B w x us) w b o ks
def IsK (B : Nat -> Prop) (w : World) {k : Nat} (ks : List (NT k)) (kv : Value) : Prop := (kv = .slice none 0 0 /\ ks = []) \/ ∃ b o cap, kv = .slice (some ⟨b, o, none⟩) ks.length cap /\ ks.length <= cap /\ (ks = [] \/ B b) /\ IsNs B w b o ks
theorem isN_iff (B : Nat -> Prop) (w : World) {k : Nat} (d : ND) (ks : List (NT k)) (vs : List Value) : IsN B w (.mk d ks) vs ↔ ∃ av kv, vs = nodeC d av kv /\ IsAB B w av d.attrs /\ IsK B w ks kv := by
  exact Iff.rfl
theorem isN_len {B : Nat -> Prop} {w : World} : ∀ {k : Nat} {t : NT k} {vs : List Value}, IsN B w t vs -> vs.length = 6
  | 0, t, _, _ => t.none
  | k + 1, t, vs, h => by
    obtain ⟨av, kv, rfl, _⟩ := h
    rfl
theorem isK_form {B : Nat -> Prop} {w : World} {k : Nat} {ks : List (NT k)} {kv : Value} (h : IsK B w ks kv) : ∃ a c, kv = .slice a ks.length c := by
  rcases h with ⟨rfl, rfl⟩ | ⟨b, o, cap, rfl, _⟩
  · exact ⟨_, _, rfl⟩
  · exact ⟨_, _, rfl⟩
theorem IsN.keep {B C : Nat -> Prop} {w W : World} (hk : ∀ k, B k -> W.heap[k]? = w.heap[k]?) (hm : ∀ k, B k -> C k) : ∀ {k : Nat} (t : NT k) (vs : List Value), IsN B w t vs -> IsN C W t vs
  | 0, t, _, _ => t.none
  | k + 1, t, vs, h => by
    obtain ⟨av, kv, h1, h2, h3⟩ := h
    refine ⟨av, kv, h1, (h2.keep hk).mono hm, ?_⟩
    rcases h3 with h3 | ⟨b, o, cap, e1, e2, e3, e4⟩
    · exact .inl h3
    · rcases e3 with e3 | e3
      · refine .inr ⟨b, o, cap, e1, e2, .inl e3, ?_⟩
        rw [e3]
        trivial
      · refine .inr ⟨b, o, cap, e1, e2, .inr (hm b e3), ?_⟩
        have := RowG.keep (Q := fun x us => IsN C W x us) id (hk b e3) (fun x us hx => IsN.keep hk hm x us hx) o t.kids e4
        rwa [List.map_id] at this
theorem IsNs.keep {B C : Nat -> Prop} {w W : World} (hk : ∀ k, B k -> W.heap[k]? = w.heap[k]?) (hm : ∀ k, B k -> C k) (b : Nat) (hb : B b) {k : Nat} (o : Nat) (ks : List (NT k)) (h : IsNs B w b o ks) : IsNs C W b o ks := by
  have := RowG.keep (Q := fun x us => IsN C W x us) id (hk b hb) (fun x us hx => IsN.keep hk hm x us hx) o ks h
  rwa [List.map_id] at this
theorem IsN.lift {B : Nat -> Prop} {w : World} : ∀ {k : Nat} (t : NT k) (vs : List Value), IsN B w t.lift vs -> IsN B w t vs
  | 0, t, _, _ => t.none
  | k + 1, t, vs, h => by
    obtain ⟨av, kv, h1, h2, h3⟩ := h
    refine ⟨av, kv, h1, h2, ?_⟩
    have hl : t.lift.kids.length = t.kids.length := List.length_map _
    have he : t.lift.kids = [] -> t.kids = [] := fun h0 => List.eq_nil_of_length_eq_zero (by rw [<- hl, h0]; rfl)
    rcases h3 with ⟨h3, h4⟩ | ⟨b, o, cap, e1, e2, e3, e4⟩
    · exact .inl ⟨h3, he h4⟩
    · rw [hl] at e1 e2
      refine .inr ⟨b, o, cap, e1, e2, ?_, RowG.unmap NT.lift (fun x us hx => IsN.lift x us hx) o t.kids e4⟩
      rcases e3 with e3 | e3
      · exact .inl (he e3)
      · exact .inr e3
theorem IsN.mono {B C : Nat -> Prop} {w : World} {k : Nat} {t : NT k} {vs : List Value} (h : IsN B w t vs) (hm : ∀ k, B k -> C k) : IsN C w t vs := IsN.keep (fun _ _ => rfl) hm t vs h
theorem IsNs.get {B : Nat -> Prop} {w : World} {b : Nat} {k : Nat} : ∀ (o : Nat) (ks : List (NT k)), IsNs B w b o ks -> ∀ j (hj : j < ks.length), ∃ vs : List Value, (∀ i, i < 6 -> w.cell? ⟨b, o + j * 6 + i, none⟩ = vs[i]?) /\ IsN B w ks[j] vs
  | o, x :: r, h, 0, _ => by
    obtain ⟨⟨vs, h1, h2⟩, _⟩ := h
    exact ⟨vs, fun i hi => by rw [show o + 0 * 6 + i = o + i by omega]; exact h1 i hi, h2⟩
  | o, x :: r, h, j + 1, hj => by
    obtain ⟨vs, h1, h2⟩ := IsNs.get (o + 6) r h.2 j (by simpa using hj)
    exact ⟨vs, fun i hi => by rw [show o + (j + 1) * 6 + i = o + 6 + j * 6 + i by omega]; exact h1 i hi, h2⟩
theorem IsNs.of {B : Nat -> Prop} {w : World} {b : Nat} {k : Nat} : ∀ (o : Nat) (ks : List (NT k)), (∀ j (hj : j < ks.length), ∃ vs : List Value, (∀ i, i < 6 -> w.cell? ⟨b, o + j * 6 + i, none⟩ = vs[i]?) /\ IsN B w ks[j] vs) -> IsNs B w b o ks
  | o, [], _ => trivial
  | o, x :: r, h => by
    refine ⟨?_, IsNs.of (o + 6) r fun j hj => ?_⟩
    · obtain ⟨vs, h1, h2⟩ := h 0 (by simp)
      exact ⟨vs, fun i hi => by have := h1 i hi; rw [show o + 0 * 6 + i = o + i by omega] at this; exact this, h2⟩
    · obtain ⟨vs, h1, h2⟩ := h (j + 1) (by simpa using hj)
      exact ⟨vs, fun i hi => by have := h1 i hi; rw [show o + (j + 1) * 6 + i = o + 6 + j * 6 + i by omega] at this; exact this, h2⟩
structure RowN (B : Nat -> Prop) (n0 : Nat) (w : World) (kv : Value) {k : Nat} (ts : List (NT k)) : Prop where
  ex : ∃ cs : List (List Value), cs.length = ts.length /\ w.ownsRow n0 45 6 kv ts.length cs.flatten /\ ∀ j (h1 : j < cs.length) (h2 : j < ts.length), IsN B w ts[j] cs[j]
theorem flatten_get6 : ∀ (cs : List (List Value)), (∀ c ∈ cs, c.length = 6) -> ∀ j (hj : j < cs.length) i, i < 6 -> cs.flatten[j * 6 + i]? = cs[j][i]?
  | c :: r, h, 0, _, i, hi => by
    rw [List.flatten_cons, Nat.zero_mul, Nat.zero_add, List.getElem?_append_left (by rw [h c (by simp)]; exact hi)]
    rfl
  | c :: r, h, j + 1, hj, i, hi => by
    have ih := flatten_get6 r (fun x hx => h x (by simp [hx])) j (by simpa using hj) i hi
    rw [List.flatten_cons, List.getElem?_append_right (by rw [h c (by simp)]; omega), h c (by simp), show (j + 1) * 6 + i - 6 = j * 6 + i by omega]
    exact ih
theorem RowN.isK {B : Nat -> Prop} {n0 : Nat} {w : World} {kv : Value} {k : Nat} {ts : List (NT k)} (h : RowN B n0 w kv ts) (hB : ∀ k, n0 <= k -> B k) : IsK B w ts kv := by
  obtain ⟨cs, h1, h2, h3⟩ := h.ex
  have hl : ∀ c ∈ cs, c.length = 6 := fun c hc => by
    obtain ⟨j, hj, rfl⟩ := List.mem_iff_getElem.1 hc
    exact isN_len (h3 j hj (by omega))
  rcases h2.2 with ⟨e1, e2⟩ | ⟨g, cap, cur, rfl, hbg, hg, hnc, _⟩
  · exact .inl ⟨e1, List.eq_nil_of_length_eq_zero e2⟩
  · refine .inr ⟨g, 0, cap, rfl, hnc, .inr (hB g hbg), IsNs.of 0 ts fun j hj => ⟨cs[j], fun i hi => ?_, h3 j (by omega) hj⟩⟩
    rw [Nat.zero_add, h2.cellAt (j * 6 + i) (by omega), flatten_get6 cs hl j (by omega) i hi]
def set6 (w : World) (q : Nat) (v0 v1 v2 v3 v4 v5 : Value) : World := (((((w.setCell ⟨q, 0, none⟩ v0).setCell ⟨q, 1, none⟩ v1).setCell ⟨q, 2, none⟩ v2).setCell ⟨q, 3, none⟩ v3).setCell ⟨q, 4, none⟩ v4).setCell ⟨q, 5, none⟩ v5
theorem set6_below {n : Nat} {w0 w : World} (h : Below n w0 w) {q : Nat} (hq : n <= q) (v0 v1 v2 v3 v4 v5 : Value) : Below n w0 (set6 w q v0 v1 v2 v3 v4 v5) := (((((h.setCell (p := ⟨q, 0, none⟩) hq v0).setCell (p := ⟨q, 1, none⟩) hq v1).setCell (p := ⟨q, 2, none⟩) hq v2).setCell (p := ⟨q, 3, none⟩) hq v3).setCell (p := ⟨q, 4, none⟩) hq v4).setCell (p := ⟨q, 5, none⟩) hq v5
theorem set6_other (w : World) (q : Nat) (v0 v1 v2 v3 v4 v5 : Value) (k : Nat) (h : k ≠ q) : (set6 w q v0 v1 v2 v3 v4 v5).heap[k]? = w.heap[k]? := by
  unfold set6
  rw [Below.heap_setCell _ _ _ _ h, Below.heap_setCell _ _ _ _ h, Below.heap_setCell _ _ _ _ h, Below.heap_setCell _ _ _ _ h, Below.heap_setCell _ _ _ _ h, Below.heap_setCell _ _ _ _ h]
end Go.Proofs.YtfohijnkeefcfaaGreatDoor.S5
namespace Go.Proofs.YtfohijnkeefcfaaGreatDoor
def cvN (d : G5.ND) : S5.ND := ⟨d.kind, d.space, d.name, d.attrs, d.text⟩
def evT : {k : Nat} -> G5.NT k -> List Ev
  | 0, _ => []
  | k + 1, t => if t.nd.kind = 2 then [(0, t.nd.text, [])] else (1, t.nd.name, t.nd.attrs) :: (t.kids.flatMap (fun x => evT x) ++ [(2, t.nd.name, [])])
def evTs {k : Nat} (ts : List (G5.NT k)) : List Ev := ts.flatMap (fun x => evT x)
def flatT : {k : Nat} -> Nat -> G5.NT k -> FL
  | 0, _, _ => []
  | k + 1, D, t => (D, cvN t.nd) :: t.kids.flatMap (fun x => flatT (D + 1) x)
def flatTs {k : Nat} (D : Nat) (ts : List (G5.NT k)) : FL := ts.flatMap (fun x => flatT D x)
def apart {k : Nat} (no : Bool) : List (G5.NT (k + 1)) -> Prop
  | [] => True
  | t :: r => (no = true -> t.nd.kind ≠ 2) /\ apart (decide (t.nd.kind = 2)) r
def plainTs : {k : Nat} -> List (G5.NT k) -> Prop
  | 0, _ => True
  | k + 1, ts => apart false ts /\ ∀ t ∈ ts, (t.nd.kind = 2 -> t.nd.text ≠ [] /\ t.nd.name = [] /\ t.nd.space = 0 /\ t.nd.attrs = [] /\ t.kids = []) /\
      (t.nd.kind ≠ 2 -> t.nd.kind = 1 /\ t.nd.space = 0 /\ (t.nd.name = divN \/ t.nd.name = spanN) /\ t.nd.text = [] /\ plainTs t.kids /\ S4.okA t.nd.attrs /\ (S4.namesA t.nd.attrs).Nodup)
def nodeOk {k : Nat} (t : G5.NT (k + 1)) : Prop := (t.nd.kind = 2 -> t.nd.text ≠ [] /\ t.nd.name = [] /\ t.nd.space = 0 /\ t.nd.attrs = [] /\ t.kids = []) /\
      (t.nd.kind ≠ 2 -> t.nd.kind = 1 /\ t.nd.space = 0 /\ (t.nd.name = divN \/ t.nd.name = spanN) /\ t.nd.text = [] /\ plainTs t.kids /\ S4.okA t.nd.attrs /\ (S4.namesA t.nd.attrs).Nodup)
theorem plain_iff {k : Nat} (ts : List (G5.NT (k + 1))) : plainTs ts ↔ apart false ts /\ ∀ t ∈ ts, nodeOk t := Iff.rfl
theorem evT_mk {k : Nat} (t : G5.NT (k + 1)) : evT t = if t.nd.kind = 2 then [(0, t.nd.text, [])] else (1, t.nd.name, t.nd.attrs) :: (evTs t.kids ++ [(2, t.nd.name, [])]) := rfl
theorem flatT_mk {k : Nat} (D : Nat) (t : G5.NT (k + 1)) : flatT D t = (D, cvN t.nd) :: flatTs (D + 1) t.kids := rfl
theorem evTs_cons {k : Nat} (t : G5.NT k) (r : List (G5.NT k)) : evTs (t :: r) = evT t ++ evTs r := rfl
theorem flatTs_cons {k : Nat} (D : Nat) (t : G5.NT k) (r : List (G5.NT k)) : flatTs D (t :: r) = flatT D t ++ flatTs D r := rfl
theorem none_raw (nm : Bs) (h : nm = divN \/ nm = spanN) : S6.isL 1 nm = false /\ S6.isL 2 nm = false /\ (nm == P9.plainT) = false := by
  rcases h with rfl | rfl <;> exact ⟨by decide +kernel, by decide +kernel, by decide +kernel⟩
theorem print_ev : ∀ {k : Nat} (ts : List (G5.NT k)), plainTs ts -> P9.printTs false ts = textEs (evTs ts)
  | 0, ts, _ => by
    cases ts with
    | nil => rfl
    | cons x r => exact x.none
  | k + 1, ts, h => by
    have key : ∀ l : List (G5.NT (k + 1)), (∀ t ∈ l, nodeOk t) -> P9.printTs false l = textEs (evTs l) := by
      intro l
      induction l with
      | nil => intro _; rfl
      | cons t r ih =>
        intro hl
        have h1 := hl t (by simp)
        have h2 := ih fun x hx => hl x (by simp [hx])
        have e1 : P9.printTs false (t :: r) = P9.printT false t ++ P9.printTs false r := rfl
        have e2 : textEs (evTs (t :: r)) = textEs (evT t) ++ textEs (evTs r) := by
          rw [evTs_cons]
          unfold textEs
          rw [List.flatMap_append]
        rw [e1, e2, h2]
        congr 1
        rw [P9.printT_mk, evT_mk]
        by_cases hk : t.nd.kind = 2
        · rw [if_pos hk, if_pos hk]
          show P9.textW false t.nd.text = textE (0, t.nd.text, []) ++ []
          rw [List.append_nil]
          rfl
        · obtain ⟨g1, g2, g3, g4, g5, g6, g7⟩ := h1.2 hk
          obtain ⟨r1, r2, r3⟩ := none_raw _ g3
          rw [if_neg hk, if_neg (by omega), if_pos g1, if_neg hk]
          have hv : P9.voidE t.nd = false := by unfold P9.voidE; rw [r1, Bool.and_false]
          have hr : P9.rawE t.nd = false := by unfold P9.rawE; rw [r2, r3]; simp
          rw [hv, hr, if_neg Bool.false_ne_true, print_ev t.kids g5]
          show _ = textE (1, t.nd.name, t.nd.attrs) ++ textEs (evTs t.kids ++ [(2, t.nd.name, [])])
          have e3 : textEs (evTs t.kids ++ [(2, t.nd.name, [])]) = textEs (evTs t.kids) ++ (textE (2, t.nd.name, []) ++ []) := by
            unfold textEs
            rw [List.flatMap_append]
            rfl
          rw [e3, List.append_nil]
          rfl
    exact key ts ((plain_iff ts).1 h).2
theorem head_ev {k : Nat} (t : G5.NT (k + 1)) (r : List Ev) : ∀ x, (evT t ++ r).head? = some x -> x.1 = if t.nd.kind = 2 then 0 else 1 := by
  intro x hx
  rw [evT_mk] at hx
  by_cases h : t.nd.kind = 2
  · rw [if_pos h] at hx
    rw [if_pos h]
    have : (0, t.nd.text, []) = x := by simpa using hx
    rw [<- this]
  · rw [if_neg h] at hx
    rw [if_neg h]
    have : (1, t.nd.name, t.nd.attrs) = x := by simpa using hx
    rw [<- this]
theorem good_ev : ∀ {k : Nat} (ts : List (G5.NT k)) (st : List Bs) (rest : List Ev), plainTs ts -> P9.tallTs ts + st.length <= 60 -> goodE rest st -> (∀ x, rest.head? = some x -> x.1 ≠ 0) -> goodE (evTs ts ++ rest) st
  | 0, ts, st, rest, _, _, hg, _ => by
    cases ts with
    | nil => exact hg
    | cons x r => exact x.none
  | k + 1, ts, st, rest, h, ht, hg, hx => by
    have key : ∀ (no : Bool) (l : List (G5.NT (k + 1))), apart no l -> (∀ t ∈ l, nodeOk t) -> P9.tallTs l + st.length <= 60 -> goodE (evTs l ++ rest) st /\ (no = true -> ∀ x, (evTs l ++ rest).head? = some x -> x.1 ≠ 0) := by
      intro no l
      induction l generalizing no with
      | nil => exact fun _ _ _ => ⟨hg, fun _ => hx⟩
      | cons t r ih =>
        intro ha hl htl
        have htt : P9.tallTs (t :: r) = max (1 + P9.tallTs t.kids) (P9.tallTs r) := rfl
        rw [htt] at htl
        obtain ⟨i1, i2⟩ := ih _ ha.2 (fun x hx => hl x (by simp [hx])) (by omega)
        have h1 := hl t (by simp)
        rw [evTs_cons, List.append_assoc]
        refine ⟨?_, fun hno x hx2 => ?_⟩
        · rw [evT_mk]
          by_cases hk : t.nd.kind = 2
          · rw [if_pos hk]
            show goodE ((0, t.nd.text, []) :: (evTs r ++ rest)) st
            rw [goodE, if_pos rfl]
            exact ⟨(h1.1 hk).1, i2 (by simp [hk]), i1⟩
          · obtain ⟨g1, g2, g3, g4, g5, g6, g7⟩ := h1.2 hk
            rw [if_neg hk, List.cons_append, List.append_assoc]
            rw [goodE, if_neg (by simp), if_pos rfl]
            refine ⟨g3, g6, g7, by omega, ?_⟩
            refine good_ev t.kids (st ++ [t.nd.name]) ([(2, t.nd.name, [])] ++ (evTs r ++ rest)) g5 (by rw [List.length_append]; simp; omega) ?_ ?_
            · show goodE ((2, t.nd.name, []) :: (evTs r ++ rest)) (st ++ [t.nd.name])
              rw [goodE, if_neg (by simp), if_neg (by simp)]
              exact ⟨g3, st, rfl, i1⟩
            · intro x hx2
              have : (2, t.nd.name, []) = x := by simpa using hx2
              rw [<- this]
              simp
        · have := head_ev t _ x hx2
          rw [this, if_neg (ha.1 hno)]
          decide
    exact (key false ts ((plain_iff ts).1 h).1 ((plain_iff ts).1 h).2 ht).1
end Go.Proofs.YtfohijnkeefcfaaGreatDoor
namespace Go.Proofs.YtfohijnkeefcfaaGreatDoor
def noJoin (F : FL) (D : Nat) : Prop := ¬ ((ndF F (F.length - 1)).kind = 2 /\ depF F (F.length - 1) = D)
theorem last_nd (F : FL) (X : FL) (p : Nat × S5.ND) : ndF (F ++ (X ++ [p])) ((F ++ (X ++ [p])).length - 1) = p.2 /\ depF (F ++ (X ++ [p])) ((F ++ (X ++ [p])).length - 1) = p.1 := by
  have e : (F ++ (X ++ [p]))[(F ++ (X ++ [p])).length - 1]? = some p := by
    rw [<- List.append_assoc]
    simp
  unfold ndF depF
  rw [e]
  exact ⟨rfl, rfl⟩
theorem noJoin_of (F X : FL) (D : Nat) (hX : X ≠ []) (h : ∀ p ∈ X, p.1 = D -> p.2.kind ≠ 2) : noJoin (F ++ X) D := by
  rcases List.eq_nil_or_concat X with rfl | ⟨Y, p, rfl⟩
  · exact absurd rfl hX
  · rw [List.concat_eq_append]
    obtain ⟨h1, h2⟩ := last_nd F Y p
    intro hc
    rw [h1, h2] at hc
    exact h p (by simp) hc.2 hc.1
theorem flat_deep : ∀ {k : Nat} (D : Nat) (ts : List (G5.NT k)), ∀ p ∈ flatTs D ts, D <= p.1
  | 0, D, ts, p, hp => by
    cases ts with
    | nil => cases hp
    | cons x r => exact x.none
  | k + 1, D, ts, p, hp => by
    unfold flatTs at hp
    obtain ⟨t, _, ht⟩ := List.mem_flatMap.1 hp
    rw [flatT_mk] at ht
    rcases List.mem_cons.1 ht with rfl | ht
    · exact Nat.le_refl _
    · have := flat_deep (D + 1) t.kids p ht
      omega
theorem run_ev : ∀ {k : Nat} (ts : List (G5.NT k)) (F : FL) (ps : List (Nat × Bs)) (rest : List Ev), plainTs ts -> 0 < F.length -> noJoin F (ps.length + 1) -> runE (evTs ts ++ rest) F ps = runE rest (F ++ flatTs (ps.length + 1) ts) ps
  | 0, ts, F, ps, rest, _, _, _ => by
    cases ts with
    | nil => simp [evTs, flatTs]
    | cons x r => exact x.none
  | k + 1, ts, F, ps, rest, h, h0, hj => by
    have key : ∀ (no : Bool) (l : List (G5.NT (k + 1))) (F : FL), apart no l -> (∀ t ∈ l, nodeOk t) -> 0 < F.length -> (no = false -> noJoin F (ps.length + 1)) -> runE (evTs l ++ rest) F ps = runE rest (F ++ flatTs (ps.length + 1) l) ps := by
      intro no l
      induction l generalizing no with
      | nil => intro F _ _ _ _; simp [evTs, flatTs]
      | cons t r ih =>
        intro F ha hl hF hnj
        have h1 := hl t (by simp)
        rw [evTs_cons, flatTs_cons, List.append_assoc, evT_mk, flatT_mk]
        by_cases hk : t.nd.kind = 2
        · obtain ⟨g1, g2, g3, g4, g5⟩ := h1.1 hk
          have hno : no = false := by
            cases no
            · rfl
            · exact absurd hk (ha.1 rfl)
          rw [if_pos hk]
          have hkid : flatTs (ps.length + 1 + 1) t.kids = [] := by rw [g5]; rfl
          have hnd : cvN t.nd = { kind := 2, text := t.nd.text } := by
            unfold cvN
            rw [hk, g2, g3, g4]
          show runE (evTs r ++ rest) (txtF F (ps.length + 1) t.nd.text) ps = _
          have ht : txtF F (ps.length + 1) t.nd.text = F ++ [(ps.length + 1, cvN t.nd)] := by
            unfold txtF
            rw [if_neg (hnj hno), hnd]
          rw [ht, hkid, ih _ (F ++ [(ps.length + 1, cvN t.nd)]) ha.2 (fun x hx => hl x (by simp [hx])) (by simp) (fun hf => absurd hf (by simp [hk])), List.append_assoc]
        · obtain ⟨g1, g2, g3, g4, g5, g6, g7⟩ := h1.2 hk
          rw [if_neg hk]
          have hnd : cvN t.nd = { kind := 1, name := t.nd.name, attrs := t.nd.attrs } := by
            unfold cvN
            rw [g1, g2, g4]
          show runE ((evTs t.kids ++ [(2, t.nd.name, [])]) ++ (evTs r ++ rest)) (F ++ [(ps.length + 1, { kind := 1, name := t.nd.name, attrs := t.nd.attrs })]) (ps ++ [(F.length, t.nd.name)]) = _
          rw [<- hnd, List.append_assoc]
          rw [run_ev t.kids (F ++ [(ps.length + 1, cvN t.nd)]) (ps ++ [(F.length, t.nd.name)]) ([(2, t.nd.name, [])] ++ (evTs r ++ rest)) g5 (by simp) (noJoin_of F [(ps.length + 1, cvN t.nd)] _ (by simp) (fun p hp e => by
            obtain rfl : p = (ps.length + 1, cvN t.nd) := by simpa using hp
            exact hk))]
          show runE (evTs r ++ rest) (F ++ [(ps.length + 1, cvN t.nd)] ++ flatTs ((ps ++ [(F.length, t.nd.name)]).length + 1) t.kids) ((ps ++ [(F.length, t.nd.name)]).dropLast) = _
          rw [List.dropLast_concat]
          have hlen : (ps ++ [(F.length, t.nd.name)]).length + 1 = ps.length + 1 + 1 := by simp
          rw [hlen, ih _ _ ha.2 (fun x hx => hl x (by simp [hx])) (by simp; omega) (fun _ => by
            rw [List.append_assoc]
            refine noJoin_of F ([(ps.length + 1, cvN t.nd)] ++ flatTs (ps.length + 1 + 1) t.kids) _ (by simp) (fun p hp e => ?_)
            rcases List.mem_append.1 hp with hp | hp
            · obtain rfl : p = (ps.length + 1, cvN t.nd) := by simpa using hp
              exact hk
            · have := flat_deep (ps.length + 1 + 1) t.kids p hp
              omega)]
          have e : F ++ [(ps.length + 1, cvN t.nd)] ++ flatTs (ps.length + 1 + 1) t.kids ++ flatTs (ps.length + 1) r = F ++ ((ps.length + 1, cvN t.nd) :: flatTs (ps.length + 1 + 1) t.kids ++ flatTs (ps.length + 1) r) := by simp
          rw [e]
    exact key false ts F ((plain_iff ts).1 h).1 ((plain_iff ts).1 h).2 h0 (fun _ => hj)
def flatS : {k : Nat} -> Nat -> S5.NT k -> FL
  | 0, _, _ => []
  | k + 1, D, t => (D, t.nd) :: t.kids.flatMap (fun x => flatS (D + 1) x)
def flatSs {k : Nat} (D : Nat) (ts : List (S5.NT k)) : FL := ts.flatMap (fun x => flatS D x)
theorem flat_value (T : S5.TR) : ∀ (k D n : Nat), flatS D (S5.valueK k T n) = flK k T D n
  | 0, D, n => rfl
  | k + 1, D, n => by
    show (D, S5.nodeAt T n) :: ((S5.kidsAt T n).map (S5.valueK k T)).flatMap (fun x => flatS (D + 1) x) = (D, S5.nodeAt T n) :: (S5.kidsAt T n).flatMap fun c => flK k T (D + 1) c
    rw [List.flatMap_map]
    have e : (fun c => flatS (D + 1) (S5.valueK k T c)) = fun c => flK k T (D + 1) c := funext fun c => flat_value T k (D + 1) c
    rw [e]
def cvT : {k : Nat} -> S5.NT k -> G5.NT k
  | 0, t => ((show { d : S5.ND // False } from t).2).elim
  | k + 1, t => G5.NT.mk ⟨t.nd.kind, t.nd.space, t.nd.name, t.nd.attrs, t.nd.text⟩ (t.kids.map fun x => cvT x)
theorem flatS_deep : ∀ {k : Nat} (D : Nat) (ts : List (S5.NT k)), ∀ p ∈ flatSs D ts, D <= p.1
  | 0, D, ts, p, hp => by
    cases ts with
    | nil => cases hp
    | cons x r => exact x.none
  | k + 1, D, ts, p, hp => by
    unfold flatSs at hp
    obtain ⟨t, _, ht⟩ := List.mem_flatMap.1 hp
    rcases List.mem_cons.1 (show p ∈ (D, t.nd) :: flatSs (D + 1) t.kids from ht) with rfl | ht
    · exact Nat.le_refl _
    · have := flatS_deep (D + 1) t.kids p ht
      omega
theorem split_deep (D : Nat) : ∀ (A A' B B' : FL), (∀ p ∈ A, D < p.1) -> (∀ p ∈ A', D < p.1) -> (B = [] \/ ∃ p r, B = p :: r /\ p.1 = D) -> (B' = [] \/ ∃ p r, B' = p :: r /\ p.1 = D) -> A ++ B = A' ++ B' -> A = A' /\ B = B'
  | [], [], B, B', _, _, _, _, h => ⟨rfl, h⟩
  | a :: A, [], B, B', h1, _, _, h4, h => by
    exfalso
    rcases h4 with rfl | ⟨p, r, rfl, hp⟩
    · simp at h
    · rw [List.nil_append, List.cons_append] at h
      injection h with h _
      have := h1 a (by simp)
      rw [h, hp] at this
      omega
  | [], a :: A', B, B', _, h2, h3, _, h => by
    exfalso
    rcases h3 with rfl | ⟨p, r, rfl, hp⟩
    · simp at h
    · rw [List.nil_append, List.cons_append] at h
      injection h with h _
      have := h2 a (by simp)
      rw [<- h, hp] at this
      omega
  | a :: A, a' :: A', B, B', h1, h2, h3, h4, h => by
    rw [List.cons_append, List.cons_append] at h
    injection h with e1 e2
    obtain ⟨q1, q2⟩ := split_deep D A A' B B' (fun p hp => h1 p (by simp [hp])) (fun p hp => h2 p (by simp [hp])) h3 h4 e2
    exact ⟨by rw [e1, q1], q2⟩
theorem flat_start {k : Nat} (D : Nat) (ts : List (G5.NT (k + 1))) : flatTs D ts = [] \/ ∃ p r, flatTs D ts = p :: r /\ p.1 = D := by
  cases ts with
  | nil => exact .inl rfl
  | cons t r => exact .inr ⟨(D, cvN t.nd), flatTs (D + 1) t.kids ++ flatTs D r, by rw [flatTs_cons, flatT_mk]; rfl, rfl⟩
theorem flatS_start {k : Nat} (D : Nat) (ts : List (S5.NT (k + 1))) : flatSs D ts = [] \/ ∃ p r, flatSs D ts = p :: r /\ p.1 = D := by
  cases ts with
  | nil => exact .inl rfl
  | cons t r => exact .inr ⟨(D, t.nd), flatSs (D + 1) t.kids ++ flatSs D r, rfl, rfl⟩
theorem same_cv (d : G5.ND) (e : S5.ND) (h : cvN d = e) : G5.ND.same d ⟨e.kind, e.space, e.name, e.attrs, e.text⟩ = true := by
  subst h
  unfold cvN
  exact G5.ND.same_self _
theorem flat_inj : ∀ {k : Nat} (ts : List (G5.NT k)) {j : Nat} (us : List (S5.NT j)) (D : Nat), flatTs D ts = flatSs D us -> G5.eqTs ts (us.map cvT) = true
  | 0, ts, j, us, D, h => by
    cases ts with
    | cons x r => exact x.none
    | nil =>
      cases us with
      | nil => rfl
      | cons u r =>
        cases j with
        | zero => exact u.none
        | succ j => simp [flatTs, flatSs, flatS] at h
  | k + 1, ts, 0, us, D, h => by
    cases us with
    | cons u r => exact u.none
    | nil =>
      cases ts with
      | nil => rfl
      | cons t r =>
        rw [flatTs_cons, flatT_mk] at h
        simp [flatSs] at h
  | k + 1, ts, j + 1, us, D, h => by
    have key : ∀ (l : List (G5.NT (k + 1))) (m : List (S5.NT (j + 1))), flatTs D l = flatSs D m -> G5.eqTs l (m.map cvT) = true := by
      intro l
      induction l with
      | nil =>
        intro m hm
        cases m with
        | nil => rfl
        | cons u r => simp [flatTs, flatSs, flatS] at hm
      | cons t r ih =>
        intro m hm
        cases m with
        | nil =>
          rw [flatTs_cons, flatT_mk] at hm
          simp [flatSs] at hm
        | cons u s =>
          rw [flatTs_cons, flatT_mk] at hm
          have hm2 : (D, cvN t.nd) :: (flatTs (D + 1) t.kids ++ flatTs D r) = (D, u.nd) :: (flatSs (D + 1) u.kids ++ flatSs D s) := hm
          injection hm2 with e1 e2
          injection e1 with _ e1
          obtain ⟨q1, q2⟩ := split_deep D _ _ _ _ (fun p hp => flat_deep (D + 1) t.kids p hp) (fun p hp => flatS_deep (D + 1) u.kids p hp) (flat_start D r) (flatS_start D s) e2
          have i1 := flat_inj t.kids u.kids (D + 1) q1
          have i2 := ih s q2
          show (G5.eqT t (cvT u) && G5.eqTs r (s.map cvT)) = true
          rw [i2, Bool.and_true]
          show (t.nd.same ⟨u.nd.kind, u.nd.space, u.nd.name, u.nd.attrs, u.nd.text⟩ && G5.eqTs t.kids (u.kids.map cvT)) = true
          rw [i1, same_cv _ _ e1]
          rfl
    exact key ts us h
end Go.Proofs.YtfohijnkeefcfaaGreatDoor
namespace Go.Proofs.YtfohijnkeefcfaaGreatDoor.S5
open Go.RowKit
theorem IsK.below {B : Nat -> Prop} {w W : World} {k : Nat} {ks : List (NT k)} {kv : Value} (hB : ∀ k, B k -> k < w.heap.size) (h : IsK B w ks kv) (hb : Below w.heap.size w W) : IsK B W ks kv := by
  rcases h with h | ⟨b, o, cap, e1, e2, e3, e4⟩
  · exact .inl h
  · refine .inr ⟨b, o, cap, e1, e2, e3, ?_⟩
    rcases e3 with rfl | e3
    · trivial
    · exact IsNs.keep (fun k hk => hb.block k (hB k hk)) (fun _ h => h) b e3 o ks e4
theorem IsN.form {B : Nat -> Prop} {w : World} : ∀ {k : Nat} {t : NT k} {vs : List Value}, IsN B w t vs -> ∃ (k s : Int) (nm : ByteArray) (a1 : Option Addr) (n1 c1 : Nat) (tx : ByteArray) (a2 : Option Addr) (n2 c2 : Nat), vs = [.int .i64 k, .int .i64 s, .string nm, .slice a1 n1 c1, .string tx, .slice a2 n2 c2]
  | 0, t, _, _ => t.none
  | k + 1, t, vs, h => by
    rw [t.form, isN_iff] at h
    obtain ⟨av, kv, rfl, hA, hK⟩ := h
    obtain ⟨a1, c1, rfl⟩ := isA_form hA.1
    obtain ⟨a3, c3, rfl⟩ := isK_form hK
    exact ⟨_, _, _, _, _, _, _, _, _, _, rfl⟩
end Go.Proofs.YtfohijnkeefcfaaGreatDoor.S5
namespace Go.Proofs.YtfohijnkeefcfaaGreatDoor.S5
open Go.RowKit
theorem inT_nat {T : TR} {z : Int} (h : inT T z) : z.toNat < T.length /\ z = (z.toNat : Int) := by unfold inT at h; omega
theorem makeL_wf {T : TR} (h : WF T) (d : ND) : WF (makeL T d).1 := by
  unfold makeL
  split
  · exact h.push d
  · exact h
theorem addZ_wf {T : TR} (h : WF T) (z : Int) (s : List UInt8) : WF (addZ T z s).1 := by
  unfold addZ
  split
  · split
    · exact h.add _ _
    · exact h
  · exact h
theorem appendZ_wf {T : TR} (h : WF T) (zp zc : Int) : WF (appendZ T zp zc).1 := by
  unfold appendZ
  split
  · rename_i hh
    obtain ⟨h1, h2⟩ := inT_nat hh.1
    obtain ⟨h3, h4⟩ := inT_nat hh.2
    split
    · rename_i hb
      simp only [Bool.and_eq_true, Bool.not_eq_true', beq_eq_false_iff_ne] at hb
      obtain ⟨_, hc, hw⟩ := hb
      exact h.append h1 h3 (by omega) (fun hu => by rw [(within_iff h h1).2 hu] at hw; cases hw)
    · exact h
  · exact h
theorem beforeZ_wf {T : TR} (h : WF T) (zr zc : Int) : WF (beforeZ T zr zc).1 := by
  unfold beforeZ
  split
  · rename_i hh
    obtain ⟨h1, h2⟩ := inT_nat hh.1
    obtain ⟨h3, h4⟩ := inT_nat hh.2
    cases hp : parentN T zr.toNat with
    | none => exact h
    | some p =>
      show WF (if _ then _ else _ : TR × Int).1
      split
      · rename_i hb
        simp only [Bool.and_eq_true, Bool.not_eq_true', beq_eq_false_iff_ne] at hb
        obtain ⟨hc, hw⟩ := hb
        exact h.before (parent_some hp) h3 (by omega) (fun hu => by rw [(within_iff h h1).2 hu] at hw; cases hw)
      · exact h
  · exact h
theorem makeL_len (T : TR) (d : ND) : T.length <= (makeL T d).1.length /\ (makeL T d).1.length <= T.length + 1 /\ (T.length <= 2000 -> (makeL T d).1.length <= 2000) := by
  unfold makeL
  split
  · simp [pushL]
    omega
  · exact ⟨Nat.le_refl _, Nat.le_succ _, fun h => h⟩
theorem addZ_len (T : TR) (z : Int) (s : List UInt8) : (addZ T z s).1.length = T.length := by
  unfold addZ
  split
  · split
    · simp [addL]
    · rfl
  · rfl
theorem appendZ_len (T : TR) (a b : Int) : (appendZ T a b).1.length = T.length := by
  unfold appendZ
  split
  · split
    · exact append_len _ _ _
    · rfl
  · rfl
theorem beforeZ_len (T : TR) (a b : Int) : (beforeZ T a b).1.length = T.length := by
  unfold beforeZ
  split
  · cases parentN T a.toNat with
    | none => rfl
    | some p =>
      show (if _ then _ else _ : TR × Int).1.length = _
      split
      · exact before_len _ _ _ _
      · rfl
  · rfl
end Go.Proofs.YtfohijnkeefcfaaGreatDoor.S5
namespace Go.Proofs.YtfohijnkeefcfaaGreatDoor.S5
open Go.RowKit
theorem parent_q {A : Nat -> Prop} {w : World} {pb : Nat} {T : TR} (hW : WF T) (hz : T.length <= 1000000) (z : Int) (h : PT A w pb T) :
    Calls Tryz.prog 157 #[.pointer (some ⟨pb, 0, none⟩), .int .i64 z] w fun e w' => e = .returned (.int .i64 (parentZ T z)) /\ w' = w := by
  have hc0 : ∃ g cap, w.cell? ⟨pb, 0, none⟩ = some (.slice (some ⟨g, 0, none⟩) T.length cap) := by
    obtain ⟨g, cap, rs, hR, hP⟩ := h
    have hl := map_len hR
    have c0 := hP.tree
    rw [hl, raw_len] at c0
    exact ⟨g, cap, c0⟩
  by_cases hzz : 0 <= z /\ z < T.length
  · obtain ⟨n, rfl⟩ : ∃ n : Nat, z = (n : Int) := ⟨z.toNat, by omega⟩
    have hn : n < T.length := by omega
    have hni : (n : Int) < T.length := by omega
    rw [show parentZ T (n : Int) = parZ (parentN T n) by unfold parentZ; rw [if_neg (by omega), Int.toNat_natCast]]
    obtain ⟨g, cap, c0, _, c1, _⟩ := h.cells n hn
    generalize parZ (parentN T n) = q at *
    clear hc0 h hW hzz
    go_enter Tryz.func157, Tryz.ntmps157
    go_wp2
    go_ret
    exact ⟨rfl, rfl⟩
  · have hpz : parentZ T z = -1 := by
      unfold parentZ
      split
      · rfl
      · rw [no_parent (fun i hm => by have := (hW.inb i _ hm).2; omega)]
        rfl
    rw [hpz]
    obtain ⟨g, cap, c0⟩ := hc0
    clear h hW hpz
    by_cases h0 : 0 <= z
    · have h1 : ¬ z < T.length := by omega
      go_enter Tryz.func157, Tryz.ntmps157
      go_wp2
      go_ret
      exact ⟨rfl, rfl⟩
    · go_enter Tryz.func157, Tryz.ntmps157
      go_wp2
      go_ret
      exact ⟨rfl, rfl⟩
theorem Kept.keep {w W : World} {k : Nat} {cs : List Value} (h : Kept w k cs) (hk : W.heap[k]? = w.heap[k]?) : Kept W k cs :=
  ⟨fun o => by rw [World.cell?_of_block (a := ⟨k, o, none⟩) hk]; exact h.1 o, fun o => by rw [World.frozen?_of_block (a := ⟨k, o, none⟩) hk]; exact h.2 o⟩
theorem Kept.set {w : World} {k : Nat} {cs : List Value} (h : Kept w k cs) (o : Nat) (ho : o < cs.length) (v : Value) : Kept (w.setCell ⟨k, o, none⟩ v) k (cs.set o v) := by
  refine ⟨fun j => ?_, fun j => by rw [World.frozen?_setCell]; exact h.2 j⟩
  by_cases e : o = j
  · subst e
    rw [List.getElem?_set_self ho]
    exact World.cell?_setCell_same _ _ _ (by rw [h.1 o, List.getElem?_eq_getElem ho])
  · rw [List.getElem?_set_ne e, World.cell?_setCell_other _ _ _ _ (by intro h; injection h with _ h _; exact e h)]
    exact h.1 j
theorem IsAB.tight {B : Nat -> Prop} {w : World} {v : Value} {aa : AttrL} (h : IsAB B w v aa) : IsAB (fun k => B k /\ k < w.heap.size) w v aa := by
  refine ⟨h.1, ?_⟩
  rcases h.2 with h2 | h2
  · exact .inl h2
  · by_cases he : aa = []
    · exact .inl he
    · refine .inr fun k e => ⟨h2 k e, ?_⟩
      rcases h.1 with ⟨_, h1⟩ | ⟨b, o, cap, rfl, _, hcs⟩
      · exact absurd h1 he
      · have hl : 0 < aa.length := by
          cases aa with
          | nil => exact absurd rfl he
          | cons a r => simp
        have : b = k := by simpa [Value.ownBlock] using e
        rw [<- this]
        exact cell_lt (hcs 0 hl).1
end Go.Proofs.YtfohijnkeefcfaaGreatDoor.S5
namespace Go.Proofs.YtfohijnkeefcfaaGreatDoor.S5
def maxG {α : Type} (f : α -> Nat) : List α -> Nat
  | [] => 0
  | x :: r => max (f x) (maxG f r)
def deepT : {k : Nat} -> NT k -> Nat
  | 0, _ => 0
  | k + 1, t => maxG (fun x => deepT x) t.kids + (if t.nd.kind = 1 then 1 else 0)
theorem maxG_app {α : Type} (f : α -> Nat) : ∀ (a b : List α), maxG f (a ++ b) = max (maxG f a) (maxG f b)
  | [], b => by simp [maxG]
  | x :: r, b => by
    rw [List.cons_append, maxG, maxG, maxG_app f r b, Nat.max_assoc]
theorem maxG_take {α : Type} (f : α -> Nat) (l : List α) (i : Nat) (h : i < l.length) : maxG f (l.take (i + 1)) = max (maxG f (l.take i)) (f l[i]) := by
  rw [List.take_succ_eq_append_getElem h, maxG_app]
  simp [maxG]
theorem deep_le : ∀ {k : Nat} (t : NT k), deepT t <= k
  | 0, t => t.none
  | k + 1, t => by
    have : ∀ (l : List (NT k)), maxG (fun x => deepT x) l <= k := by
      intro l
      induction l with
      | nil => exact Nat.zero_le _
      | cons x r ih =>
        have := deep_le x
        show max (deepT x) (maxG (fun x => deepT x) r) <= k
        omega
    show maxG (fun x => deepT x) t.kids + (if t.nd.kind = 1 then 1 else 0) <= k + 1
    have := this t.kids
    split <;> omega
end Go.Proofs.YtfohijnkeefcfaaGreatDoor.S5
