import Derived.Test.YthopnliaikkhbaaGreatDoorWn11
import Derived.Test.YthopnliaikkhbaaGreatDoorPg11
import Derived.Test.YthopnliaikkhbaaGreatDoorPe11
import Derived.Test.YthopnliaikkhbaaGreatDoorRk0
import Derived.Test.YthopnliaikkhbaaGreatDoorRk1
import Derived.Test.YthopnliaikkhbaaGreatDoorRk2
import Derived.Test.YthopnliaikkhbaaGreatDoorRk3
import Derived.Test.YthopnliaikkhbaaGreatDoorRk4
import Derived.Deep.RegionHeld2
/- What textAllowed and tagAllowed answer. -/
set_option linter.unusedVariables false
set_option linter.unusedSimpArgs false
set_option maxRecDepth 4000
namespace Go.Proofs.YthopnliaikkhbaaGreatDoor
open Go.RowKit

/-! Over lists: which nodes a policy that may be allows. -/
def textOk (d : S5.ND) (n : Nat) : Bool := !(d.text == []) && (d.space == 0 && (d.name == [] && (d.attrs.length == 0 && n == 0)))
def tagOk (p : PO) (d : S5.ND) : Bool := d.space == 0 && (d.text == [] && ((findR p.ru d.name).isSome && d.attrs.all fun a => attrB p d.name a.1 a.2))
def kindT : {k : Nat} → S5.NT k → Int
  | 0, _ => 0
  | _ + 1, t => t.nd.kind
/-- Each is allowed, and no two texts stand side by side. -/
def seqOk {α : Type} (f : α → Bool) (x : α → Bool) : Bool → List α → Bool
  | _, [] => true
  | b, t :: r => f t && (!(b && x t) && seqOk f x (x t) r)
def allowT (p : PO) : {k : Nat} → Int → S5.NT k → Bool
  | 0, _, _ => false
  | _ + 1, deep, t => if t.nd.kind = 2 then textOk t.nd t.kids.length else if t.nd.kind = 1 then decide (deep ≤ p.de) && (tagOk p t.nd && seqOk (fun x => allowT p (deep + 1) x) (fun x => kindT x == 2) false t.kids) else false
def allowTs (p : PO) {k : Nat} (deep : Int) (ts : List (S5.NT k)) : Bool := seqOk (fun x => allowT p deep x) (fun x => kindT x == 2) false ts
/-- A node as its six values. -/
abbrev nodeA (d : S5.ND) (qa : Option Addr) (qc : Nat) (ka : Option Addr) (kn kc : Nat) : Array Value := #[.int .i64 d.kind, .int .i64 d.space, .string ⟨d.name.toArray⟩, .slice qa d.attrs.length qc, .string ⟨d.text.toArray⟩, .slice ka kn kc]
theorem int_nat (n : Nat) : ((n : Int) == 0) = (n == 0) := by
  cases n with
  | zero => rfl
  | succ n => rw [show ((n + 1 : Nat) == 0) = false from rfl, beq_eq_false_iff_ne]; omega
abbrev nodeV (kd sp : Int) (nm : ByteArray) (qa : Option Addr) (al qc : Nat) (tx : ByteArray) (ka : Option Addr) (kn kc : Nat) : Array Value := #[.int .i64 kd, .int .i64 sp, .string nm, .slice qa al qc, .string tx, .slice ka kn kc]
set_option maxHeartbeats 2000000 in
theorem textV_any (kd sp : Int) (nm tx : ByteArray) (qa : Option Addr) (al qc : Nat) (ka : Option Addr) (kn kc : Nat) (w : World) :
    Calls Tryz.prog 36 #[.agg (nodeV kd sp nm qa al qc tx ka kn kc)] w fun e w' => e = .returned (.bool (!(tx.toList.isEmpty) && (sp == 0 && (nm.toList.isEmpty && (al == 0 && kn == 0))))) ∧ Below w.heap.size w w' := by
  have hb := hide (below_alloc w (.cells (nodeV kd sp nm qa al qc tx ka kn kc) 41))
  rw [← int_nat al, ← int_nat kn]
  by_cases ht : tx.toList = []
  · have ht2 : tx.toList.isEmpty = true := by simp [ht]
    go_enter Tryz.func36, Tryz.ntmps36
    go_wp2
    go_ret
    exact ⟨by simp [*], hb.out⟩
  · have ht2 : tx.toList.isEmpty = false := by simp [ht]
    by_cases hs : sp = 0
    · subst hs
      by_cases hn : nm.toList = []
      · have hn2 : nm.toList.isEmpty = true := by simp [hn]
        by_cases ha : al = 0
        · have ha2 : ((al : Int) == 0) = true := by rw [int_nat]; simp [ha]
          clear ha
          by_cases hk : kn = 0
          · have hk2 : ((kn : Int) == 0) = true := by rw [int_nat]; simp [hk]
            clear hk
            go_enter Tryz.func36, Tryz.ntmps36
            go_wp2
            go_ret
            exact ⟨by simp [*], hb.out⟩
          · have hk2 : ((kn : Int) == 0) = false := by rw [int_nat]; simp [hk]
            clear hk
            go_enter Tryz.func36, Tryz.ntmps36
            go_wp2
            go_ret
            exact ⟨by simp [*], hb.out⟩
        · have ha2 : ((al : Int) == 0) = false := by rw [int_nat]; simp [ha]
          clear ha
          go_enter Tryz.func36, Tryz.ntmps36
          go_wp2
          go_ret
          exact ⟨by simp [*], hb.out⟩
      · have hn2 : nm.toList.isEmpty = false := by simp [hn]
        go_enter Tryz.func36, Tryz.ntmps36
        go_wp2
        go_ret
        exact ⟨by simp [*], hb.out⟩
    · have hs2 : (sp == 0) = false := by simp [hs]
      go_enter Tryz.func36, Tryz.ntmps36
      go_wp2
      go_ret
      exact ⟨by simp [*], hb.out⟩
theorem text_any (d : S5.ND) (qa : Option Addr) (qc : Nat) (ka : Option Addr) (kn kc : Nat) (w : World) :
    Calls Tryz.prog 36 #[.agg (nodeA d qa qc ka kn kc)] w fun e w' => e = .returned (.bool (textOk d kn)) ∧ Below w.heap.size w w' := by
  refine (textV_any d.kind d.space ⟨d.name.toArray⟩ ⟨d.text.toArray⟩ qa d.attrs.length qc ka kn kc w).mono fun e w' h => ⟨?_, h.2⟩
  rw [h.1]
  unfold textOk
  rw [Lib.toList_data, Lib.toList_data]
  cases d.text <;> cases d.name <;> rfl
theorem all_at (p : PO) (n : Bs) (aa : S5.AttrL) (i : Nat) (h : i < aa.length) : ((aa.drop i).all fun a => attrB p n a.1 a.2) = (attrB p n aa[i].1 aa[i].2 && (aa.drop (i + 1)).all fun a => attrB p n a.1 a.2) := by
  rw [List.drop_eq_getElem_cons h]
  rfl
theorem all_done (p : PO) (n : Bs) (aa : S5.AttrL) : ((aa.drop aa.length).all fun a => attrB p n a.1 a.2) = true := by
  rw [List.drop_length]
  rfl
set_option maxHeartbeats 4000000 in
theorem tag_any (p : PV) (hp : CapP p) (d : S5.ND) (qa : Option Addr) (qc : Nat) (ka : Option Addr) (kn kc : Nat) (hl : d.attrs.length ≤ 9223372036854775807) (hv : ∀ a ∈ d.attrs, a.2.length ≤ 1000000) (Bk : Nat → Prop) (w : World) (hI : IsPo w p) (hA : S5.IsAB Bk w (.slice qa d.attrs.length qc) d.attrs) :
    Calls Tryz.prog 37 #[poA p, .agg (nodeA d qa qc ka kn kc)] w fun e w' => e = .returned (.bool (tagOk p.po d)) ∧ Below w.heap.size w w' := by
  have H1 : Hid (∀ x, Below w.heap.size w x → Calls Tryz.prog 26 #[poA p, .string ⟨d.name.toArray⟩] x fun e w' => ∃ z : Int, e = .returned (.int .i64 z) ∧ decide (0 ≤ z) = (findR p.po.ru d.name).isSome ∧ Below x.heap.size x w') := hide (fun x b => (ruleOf_any p (by have := hp.s.r; omega) ⟨d.name.toArray⟩ x (hI.below b)).mono fun e w' h => by
    obtain ⟨⟨z, h1, h2⟩, h3⟩ := h
    rw [show (⟨d.name.toArray⟩ : ByteArray).data.toList = d.name from by simp] at h2
    exact ⟨z, h1, place_el p _ z h2, h3⟩)
  have H2 : Hid (∀ i (h : i < d.attrs.length) x, Below w.heap.size w x → Calls Tryz.prog 27 #[poA p, .string ⟨d.name.toArray⟩, .agg #[.string ⟨d.attrs[i].1.toArray⟩, .string ⟨d.attrs[i].2.toArray⟩]] x fun e w' => e = .returned (.bool (attrB p.po d.name d.attrs[i].1 d.attrs[i].2)) ∧ Below x.heap.size x w') := hide (fun i h x b => (attrLet_any p hp ⟨d.name.toArray⟩ ⟨d.attrs[i].1.toArray⟩ ⟨d.attrs[i].2.toArray⟩ (by have := hv _ (List.getElem_mem h); show (d.attrs[i].2.toArray).size ≤ _; simp; omega) x (hI.below b)).mono fun e w' h => by simpa using h)
  have HA := hide hA
  have HAT := hide (all_at p.po d.name d.attrs)
  have HAD := hide (all_done p.po d.name d.attrs)
  unfold tagOk
  have HF := hide (show ((d.attrs.drop 0).all fun a => attrB p.po d.name a.1 a.2) = (d.attrs.all fun a => attrB p.po d.name a.1 a.2) by rw [List.drop_zero])
  generalize (d.attrs.all fun a => attrB p.po d.name a.1 a.2) = AL at *
  generalize (findR p.po.ru d.name).isSome = F at *
  have HN : Hid (∀ x, Below ((poW w p).alloc (.cells (nodeA d qa qc ka kn kc) 41)).heap.size ((poW w p).alloc (.cells (nodeA d qa qc ka kn kc) 41)) x → x.cell? ⟨w.heap.size + 1, 1, none⟩ = some (.int .i64 d.space) ∧ x.cell? ⟨w.heap.size + 1, 2, none⟩ = some (.string ⟨d.name.toArray⟩) ∧ x.cell? ⟨w.heap.size + 1, 3, none⟩ = some (.slice qa d.attrs.length qc) ∧ x.cell? ⟨w.heap.size + 1, 4, none⟩ = some (.string ⟨d.text.toArray⟩) ∧ x.cell? ⟨w.heap.size, 0, none⟩ = some p.rv ∧ x.cell? ⟨w.heap.size, 1, none⟩ = some p.lv ∧ x.cell? ⟨w.heap.size, 2, none⟩ = some p.sv ∧ x.cell? ⟨w.heap.size, 3, none⟩ = some p.dv ∧ x.cell? ⟨w.heap.size, 4, none⟩ = some (.int .i64 p.de) ∧ Below w.heap.size w x) := hide (fun x h => by
    have s1 : (poW w p).heap.size = w.heap.size + 1 := by simp
    have b2 := below_alloc (poW w p) (.cells (nodeA d qa qc ka kn kc) 41)
    have b3 := b2.trans (h.mono b2.size)
    obtain ⟨c0, c1, c2, c3, c4, bb⟩ := po_box w p b3
    have hc : ∀ j, j < 6 → x.cell? ⟨w.heap.size + 1, j, none⟩ = ((poW w p).alloc (.cells (nodeA d qa qc ka kn kc) 41)).cell? ⟨w.heap.size + 1, j, none⟩ := fun j hj => h.cell (by show w.heap.size + 1 < _; simp)
    refine ⟨?_, ?_, ?_, ?_, c0, c1, c2, c3, c4, bb⟩
    · rw [hc 1 (by omega)]; simp [go_sem]
    · rw [hc 2 (by omega)]; simp [go_sem]
    · rw [hc 3 (by omega)]; simp [go_sem]
    · rw [hc 4 (by omega)]; simp [go_sem])
  have htx : (d.text == []) = (⟨d.text.toArray⟩ : ByteArray).toList.isEmpty := by rw [Lib.toList_data]; cases d.text <;> rfl
  rw [htx]
  clear htx
  generalize p.po = po at *
  obtain ⟨rs, li, sc, dr, de, rv, lv, sv, dv⟩ := p
  simp only [] at *
  have gr : IsR w rv rs := hI.r
  have gl : IsW w lv li := hI.l
  have gs : IsW w sv sc := hI.s
  have gd : IsW w dv dr := hI.d
  obtain ⟨ra, rc, rfl⟩ := gr.form
  obtain ⟨la, lc, rfl⟩ := gl.form
  obtain ⟨sa, sc', rfl⟩ := gs.form
  obtain ⟨da, dc, rfl⟩ := gd.form
  clear gr gl gs gd hp hI hA hv
  generalize rs.length = r0 at *
  generalize li.length = r1 at *
  generalize sc.length = r2 at *
  generalize dr.length = r3 at *
  obtain ⟨kd, sp, name, attrs, text⟩ := d
  simp only [] at *
  generalize (⟨text.toArray⟩ : ByteArray) = tx at *
  generalize (⟨name.toArray⟩ : ByteArray) = nm at *
  obtain ⟨n1, n2, n3, n4, c0, c1, c2, c3, c4, bb⟩ := HN.out _ (Below.refl _ _)
  have BB := hide bb
  clear bb
  by_cases hs : sp = 0
  · subst hs
    by_cases ht : tx.toList = []
    · have ht2 : tx.toList.isEmpty = true := by simp [ht]
      have ht3 : (tx.toList != []) = false := by simp [ht]
      rw [ht2]
      go_enter Tryz.func37, Tryz.ntmps37
      go_wp2_with fail
      refine (H1.out _ BB.out).mono ?_
      rintro e w1 ⟨z, rfl, hz, b1⟩
      by_cases hz0 : z < 0
      · have hF : F = false := by rw [← hz]; simp; omega
        subst hF
        have B1 := hide (BB.out.trans (b1.mono BB.out.size))
        clear b1
        go_wp2
        go_ret
        exact ⟨rfl, B1.out⟩
      · have hF : F = true := by rw [← hz]; simp; omega
        subst hF
        have B0 := hide b1
        obtain ⟨n1, n2, n3, n4, c0, c1, c2, c3, c4, bb⟩ := HN.out _ b1
        clear b1 bb hz
        go_wp2
        clear n1 n2 n3 n4 c0 c1 c2 c3 c4
        go_loopw [25] (fun vi wr => ∃ i : Nat, vi = .int .i64 (i : Int) ∧ i ≤ attrs.length ∧ Hid (((attrs.drop i).all fun a => attrB po name a.1 a.2) = AL) ∧ Hid (Below ((poW w ⟨rs, li, sc, dr, de, .slice ra r0 rc, .slice la r1 lc, .slice sa r2 sc', .slice da r3 dc⟩).alloc (.cells (nodeA ⟨kd, 0, name, attrs, text⟩ qa qc ka kn kc) 41)).heap.size ((poW w ⟨rs, li, sc, dr, de, .slice ra r0 rc, .slice la r1 lc, .slice sa r2 sc', .slice da r3 dc⟩).alloc (.cells (nodeA ⟨kd, 0, name, attrs, text⟩ qa qc ka kn kc) 41)) wr)) (fun vi _ => attrs.length - (intOf vi).toNat)
        case atStart => exact ⟨0, rfl, Nat.zero_le _, HF, B0⟩
        case round =>
          clear B0 HF
          obtain ⟨i, rfl, hi, HQ, HBW⟩ := hrel
          by_cases hlt : i < attrs.length
          · have hlt2 : (i : Int) < attrs.length := by omega
            have hnow := HQ.out
            rw [HAT.out i hlt] at hnow
            obtain ⟨_, _, _, _, _, _, _, _, _, bw⟩ := HN.out _ HBW.out
            have hA2 := HA.out.below bw
            rcases hA2.1 with ⟨_, h0⟩ | ⟨b2, o2, cap2, e2, _, hc⟩
            · rw [h0] at hlt; simp at hlt
            injection e2 with e2 _ e2c
            subst e2 e2c
            obtain ⟨p0, p1⟩ := hc i hlt
            have HC := hide (H2.out i hlt)
            generalize (⟨attrs[i].1.toArray⟩ : ByteArray) = an at *
            generalize (⟨attrs[i].2.toArray⟩ : ByteArray) = av at *
            have ba := below_alloc wr (.cells #[.string an, .string av] 46)
            have b8 := HBW.out.trans (ba.mono HBW.out.size)
            obtain ⟨n1, n2, n3, n4, c0, c1, c2, c3, c4, bb⟩ := HN.out _ b8
            have B8 := hide b8
            have BB8 := hide bb
            clear hA2 hc bw ba b8 bb HQ
            cases hB : attrB po name attrs[i].1 attrs[i].2
            · rw [hB] at hnow HC
              rw [Bool.false_and] at hnow
              subst hnow
              go_wp2_with fail
              refine (HC.out _ BB8.out).mono ?_
              rintro e w2 ⟨rfl, b2⟩
              have B2 := hide (BB8.out.trans (b2.mono BB8.out.size))
              clear b2
              go_wp2
              go_ret
              exact ⟨rfl, B2.out⟩
            · rw [hB] at hnow HC
              rw [Bool.true_and] at hnow
              have HQ2 := hide hnow
              clear hnow
              go_wp2_with fail
              refine (HC.out _ BB8.out).mono ?_
              rintro e w2 ⟨rfl, b2⟩
              have B2 := hide (B8.out.trans (b2.mono B8.out.size))
              clear b2
              go_wp2
              go_roundw
              case rel => exact ⟨i + 1, by go_num, by omega, HQ2, B2⟩
              case measure => simp [intOf]; omega
          · have hlt2 : ¬ (i : Int) < attrs.length := by omega
            obtain rfl : i = attrs.length := by omega
            have hnow := HQ.out
            rw [HAD.out] at hnow
            subst hnow
            obtain ⟨_, _, _, _, _, _, _, _, _, bw⟩ := HN.out _ HBW.out
            have BW := hide bw
            clear bw HQ
            go_wp2
            go_ret
            exact ⟨rfl, BW.out⟩
    · have ht2 : tx.toList.isEmpty = false := by simp [ht]
      have ht3 : (tx.toList != []) = true := by simp [ht]
      rw [ht2]
      go_enter Tryz.func37, Tryz.ntmps37
      go_wp2
      go_ret
      exact ⟨rfl, BB.out⟩
  · have hs2 : (sp != 0) = true := by simp [hs]
    have hs3 : (sp == 0) = false := by simp [hs]
    rw [hs3]
    go_enter Tryz.func37, Tryz.ntmps37
    go_wp2
    go_ret
    exact ⟨rfl, BB.out⟩
end Go.Proofs.YthopnliaikkhbaaGreatDoor
/- What the program's allAllowed and Allowed answer. -/
set_option linter.unusedVariables false
set_option linter.unusedSimpArgs false
set_option maxRecDepth 4000
namespace Go.Proofs.YthopnliaikkhbaaGreatDoor
open Go.RowKit

theorem allowT_mk (p : PO) {k : Nat} (deep : Int) (t : S5.NT (k + 1)) : allowT p deep t = if t.nd.kind = 2 then textOk t.nd t.kids.length else if t.nd.kind = 1 then decide (deep ≤ p.de) && (tagOk p t.nd && allowTs p (deep + 1) t.kids) else false := rfl
theorem seq_at {α : Type} (f x : α → Bool) (b : Bool) (ts : List α) (i : Nat) (h : i < ts.length) : seqOk f x b (ts.drop i) = (f ts[i] && (!(b && x ts[i]) && seqOk f x (x ts[i]) (ts.drop (i + 1)))) := by
  rw [List.drop_eq_getElem_cons h]
  rfl
theorem seq_end {α : Type} (f x : α → Bool) (b : Bool) (ts : List α) : seqOk f x b (ts.drop ts.length) = true := by
  rw [List.drop_length]
  rfl
theorem attr_size : ∀ (aa : S5.AttrL), ∀ a ∈ aa, a.2.length ≤ sizeAs aa
  | x :: r, a, ha => by
    have e : sizeAs (x :: r) = sizeA x + sizeAs r := by simp [sizeAs]
    rw [e]
    rcases List.mem_cons.1 ha with rfl | ha
    · unfold sizeA
      omega
    · have := attr_size r a ha
      omega
def AllowOk (F : Nat) (p : PV) (deep : Int) {k : Nat} (ts : List (S5.NT k)) : Prop := ∀ (Bk : Nat → Prop) (va : Value) (w : World), (∀ j, Bk j → j < w.heap.size) → IsPo w p → S5.IsK Bk w ts va → Calls Tryz.prog F #[poA p, va, .int .i64 deep] w fun e w' => e = .returned (.bool (allowTs p.po deep ts)) ∧ Below w.heap.size w w'
/-- A node's six cells. -/
theorem node6c {Bk : Nat → Prop} {w : World} {k : Nat} {ts : List (S5.NT (k + 1))} {b o : Nat} (h : S5.IsNs Bk w b o ts) (i : Nat) (hi : i < ts.length) :
    ∃ (qa : Option Addr) (qc : Nat) (ka : Option Addr) (kc : Nat), w.cell? ⟨b, o + i * 6, none⟩ = some (.int .i64 ts[i].nd.kind) ∧ w.cell? ⟨b, o + i * 6 + 1, none⟩ = some (.int .i64 ts[i].nd.space) ∧ w.cell? ⟨b, o + i * 6 + 2, none⟩ = some (.string ⟨ts[i].nd.name.toArray⟩) ∧ w.cell? ⟨b, o + i * 6 + 3, none⟩ = some (.slice qa ts[i].nd.attrs.length qc) ∧ w.cell? ⟨b, o + i * 6 + 4, none⟩ = some (.string ⟨ts[i].nd.text.toArray⟩) ∧ w.cell? ⟨b, o + i * 6 + 5, none⟩ = some (.slice ka ts[i].kids.length kc) ∧ S5.IsAB Bk w (.slice qa ts[i].nd.attrs.length qc) ts[i].nd.attrs ∧ S5.IsK Bk w ts[i].kids (.slice ka ts[i].kids.length kc) := by
  obtain ⟨vs, g, n⟩ := S5.IsNs.get o ts h i hi
  rw [ts[i].form, S5.isN_iff] at n
  obtain ⟨av, kv, rfl, hA, hK⟩ := n
  obtain ⟨a, c, rfl⟩ := S5.isK_form hK
  obtain ⟨a2, c2, rfl⟩ := S5.isA_form hA.1
  exact ⟨a2, c2, a, c, g 0 (by omega), g 1 (by omega), g 2 (by omega), g 3 (by omega), g 4 (by omega), g 5 (by omega), hA, hK⟩
set_option maxHeartbeats 8000000 in
theorem allow_step {k : Nat} (p : PV) (hp : CapP p) (hde : p.de ≤ 60) (deep : Int) (hd : 0 ≤ deep ∧ deep ≤ 100) (ts : List (S5.NT (k + 1))) (hl : ts.length ≤ 9223372036854775807) (hok : S5.OkTs ts) (hsz : sizeTs ts ≤ 1000000) (ih : deep ≤ p.de → ∀ i (h : i < ts.length), AllowOk 22 p (deep + 1) ts[i].kids) : AllowOk 22 p deep ts := by
  intro Bk va w hB hI hK
  have HK := hide hK
  have HB := hide hB
  have HI := hide hI
  unfold AllowOk at ih
  have HIH := hide ih
  have HSQ := hide (fun b => seq_at (fun x => allowT p.po deep x) (fun x => kindT x == 2) b ts)
  have HSE := hide (fun b => seq_end (fun x => allowT p.po deep x) (fun x => kindT x == 2) b ts)
  have HMK := hide (fun (t : S5.NT (k + 1)) => allowT_mk p.po deep t)
  have HSZ : Hid (∀ i (h : i < ts.length), ts[i].nd.attrs.length ≤ 9223372036854775807 ∧ ∀ a ∈ ts[i].nd.attrs, a.2.length ≤ 1000000) := hide (fun i h => ⟨(hok _ (List.getElem_mem h)).1, fun a ha => by
    have h1 := attr_size _ a ha
    have h2 := sizeTs_mem ts i h
    rw [sizeT_mk] at h2
    omega⟩)
  have HTG := hide (fun d qa qc ka kn kc hl hv W hI hA => tag_any p hp d qa qc ka kn kc hl hv Bk W hI hA)
  have HTX := hide (fun d qa qc ka kn kc W => text_any d qa qc ka kn kc W)
  have HPB := hide (fun x (b : Below (poW w p).heap.size (poW w p) x) => po_box w p b)
  obtain ⟨a1, c1, rfl⟩ := S5.isK_form hK
  generalize hV : allowTs p.po deep ts = V
  have HV : Hid (seqOk (fun x => allowT p.po deep x) (fun x => kindT x == 2) false (ts.drop 0) = V) := hide (by rw [List.drop_zero]; exact hV)
  obtain ⟨hd0, hd1⟩ := hd
  clear hV hK hB ih hok hsz hp
  generalize hpo : p.po = po at *
  have hpd : po.de = p.de := by rw [← hpo]; rfl
  clear hpo
  obtain ⟨rs, li, sc, dr, de, rv, lv, sv, dv⟩ := p
  simp only [] at *
  have gr : IsR w rv rs := hI.r
  have gl : IsW w lv li := hI.l
  have gs : IsW w sv sc := hI.s
  have gd : IsW w dv dr := hI.d
  obtain ⟨ra, rc, rfl⟩ := gr.form
  obtain ⟨la, lc, rfl⟩ := gl.form
  obtain ⟨sa, sc', rfl⟩ := gs.form
  obtain ⟨da, dc, rfl⟩ := gd.form
  clear gr gl gs gd hI
  generalize rs.length = r0 at *
  generalize li.length = r1 at *
  generalize sc.length = r2 at *
  generalize dr.length = r3 at *
  have B0 := hide (Below.refl (poW w ⟨rs, li, sc, dr, de, .slice ra r0 rc, .slice la r1 lc, .slice sa r2 sc', .slice da r3 dc⟩).heap.size (poW w ⟨rs, li, sc, dr, de, .slice ra r0 rc, .slice la r1 lc, .slice sa r2 sc', .slice da r3 dc⟩))
  go_enter Tryz.func22, Tryz.ntmps22
  go_wp2
  go_loopw [11] (fun vi wr => ∃ (i : Nat) (b : Bool), vi = .int .i64 (i : Int) ∧ i ≤ ts.length ∧ Hid (seqOk (fun x => allowT po deep x) (fun x => kindT x == 2) b (ts.drop i) = V) ∧ Hid ((i = 0 → b = false) ∧ ∀ j (h : j < ts.length), i = j + 1 → b = (ts[j].nd.kind == 2)) ∧ Hid (Below (poW w ⟨rs, li, sc, dr, de, .slice ra r0 rc, .slice la r1 lc, .slice sa r2 sc', .slice da r3 dc⟩).heap.size (poW w ⟨rs, li, sc, dr, de, .slice ra r0 rc, .slice la r1 lc, .slice sa r2 sc', .slice da r3 dc⟩) wr)) (fun vi _ => ts.length - (intOf vi).toNat)
  case atStart => exact ⟨0, false, rfl, Nat.zero_le _, HV, hide ⟨fun _ => rfl, fun j h e => by omega⟩, B0⟩
  case round =>
    clear B0 HV
    obtain ⟨i, b, rfl, hi, HQ, HPV, HBW⟩ := hrel
    by_cases hlt : i < ts.length
    · have hlt2 : (i : Int) < ts.length := by omega
      have hnow := HQ.out
      rw [HSQ.out b i hlt, HMK.out ts[i]] at hnow
      obtain ⟨_, _, _, _, _, bw⟩ := HPB.out _ HBW.out
      have k1 := isK_keepB HB.out HK.out bw
      rcases k1 with ⟨_, h0⟩ | ⟨b1, o1, cap1, e1, _, _, hn1⟩
      · rw [h0] at hlt; simp at hlt
      injection e1 with e1 _ e1c
      subst e1 e1c
      obtain ⟨qa, qc, ka, kc, u0, u1, u2, u3, u4, u5, hA, hKd⟩ := node6c hn1 i hlt
      have HPC : Hid (∀ j, j < ts.length → ∀ W, Below wr.heap.size wr W → ∃ kj : Int, W.cell? ⟨b1, o1 + j * 6, none⟩ = some (.int .i64 kj) ∧ (∀ h : j < ts.length, kj = ts[j].nd.kind)) := hide (fun j hj W hb => by
        obtain ⟨_, _, _, _, v0, _⟩ := node6c hn1 j hj
        exact ⟨ts[j].nd.kind, (hb.cell (cell_lt v0)).trans v0, fun _ => rfl⟩)
      obtain ⟨hz1, hz2⟩ := HSZ.out i hlt
      have hBr : ∀ j, Bk j → j < wr.heap.size := fun j hj => Nat.lt_of_lt_of_le (HB.out j hj) bw.size
      have ba := below_alloc wr (.cells (nodeA ts[i].nd qa qc ka ts[i].kids.length kc) 41)
      have b8 := HBW.out.trans (ba.mono HBW.out.size)
      obtain ⟨m0, m1, m2, m3, m4, bb⟩ := HPB.out _ b8
      have HTX1 := hide (HTX.out ts[i].nd qa qc ka ts[i].kids.length kc)
      have HTG1 := hide (HTG.out ts[i].nd qa qc ka ts[i].kids.length kc hz1 hz2 (wr.alloc (.cells (nodeA ts[i].nd qa qc ka ts[i].kids.length kc) 41)) (HI.out.below bb) (hA.below ba))
      have HRC : Hid (deep ≤ de → ∀ W, Below (wr.alloc (.cells (nodeA ts[i].nd qa qc ka ts[i].kids.length kc) 41)).heap.size (wr.alloc (.cells (nodeA ts[i].nd qa qc ka ts[i].kids.length kc) 41)) W → Calls Tryz.prog 22 #[poA ⟨rs, li, sc, dr, de, .slice ra r0 rc, .slice la r1 lc, .slice sa r2 sc', .slice da r3 dc⟩, .slice ka ts[i].kids.length kc, .int .i64 (deep + 1)] W fun e w' => e = .returned (.bool (allowTs po (deep + 1) ts[i].kids)) ∧ Below W.heap.size W w') := hide (fun h W hb => HIH.out h i hlt Bk _ W (fun j hj => Nat.lt_of_lt_of_le (hBr j hj) (Nat.le_trans ba.size hb.size)) ((HI.out.below bb).below hb) (isK_keepB (fun j hj => Nat.lt_of_lt_of_le (hBr j hj) ba.size) (isK_keepB hBr hKd ba) hb))
      have HNX : Hid (∀ j (h : j < ts.length), i + 1 = j + 1 → (kindT ts[i] == 2) = (ts[j].nd.kind == 2)) := hide (fun j h e => by
        obtain rfl : i = j := by omega
        rfl)
      have hkt : kindT ts[i] = ts[i].nd.kind := rfl
      rw [hkt] at hnow HNX
      have B8 := hide b8
      have BB8 := hide bb
      have BA := hide ba
      have hprev := HPV.out
      rw [hpd] at hnow
      clear HQ HPV hA hKd hn1 bw b8 bb ba hBr hz1 hz2 HSZ HTG HTX HSQ HMK HIH
      generalize allowTs po (deep + 1) ts[i].kids = VK at *
      generalize tagOk po ts[i].nd = VT at *
      generalize textOk ts[i].nd ts[i].kids.length = VX at *
      generalize ts[i].kids.length = kl at *
      generalize hd : ts[i].nd = d at *
      clear hd hkt
      obtain ⟨kd, sp, name, attrs, text⟩ := d
      simp only [] at *
      by_cases hk2 : kd = 2
      · subst hk2
        rw [if_pos rfl] at hnow
        cases VX
        · rw [Bool.false_and] at hnow
          subst hnow
          go_wp2_with fail
          refine (HTX1.out _).mono ?_
          rintro e w2 ⟨rfl, b2⟩
          have B2 := hide (BB8.out.trans (b2.mono BB8.out.size))
          clear b2
          go_wp2
          go_ret
          exact ⟨rfl, B2.out⟩
        · rw [Bool.true_and] at hnow
          cases i with
          | zero =>
            obtain rfl := hprev.1 rfl
            simp only [Nat.zero_mul, Nat.add_zero] at u0 u1 u2 u3 u4 u5
            have HQ2 := hide hnow
            clear hnow hprev
            go_wp2_with fail
            refine (HTX1.out _).mono ?_
            rintro e w2 ⟨rfl, b2⟩
            have B2 := hide (B8.out.trans (b2.mono B8.out.size))
            clear b2
            go_wp2
            go_roundw
            case rel => exact ⟨0 + 1, true, by go_num, by omega, HQ2, hide ⟨fun h => by omega, fun j h e => HNX.out j h (by omega)⟩, B2⟩
            case measure => simp [intOf]; omega
          | succ j =>
            have hb := hprev.2 j (by omega) rfl
            have HPJ := hide (HPC.out j (by omega))
            cases b
            · have hk : ts[j].nd.kind ≠ 2 := by
                intro e
                rw [e] at hb
                simp at hb
              have HQ2 := hide hnow
              clear hnow hprev hb
              go_wp2_with fail
              refine (HTX1.out _).mono ?_
              rintro e w2 ⟨rfl, b2⟩
              have B2 := hide (B8.out.trans (b2.mono B8.out.size))
              obtain ⟨kj, v0, hkj⟩ := HPJ.out w2 (BA.out.trans (b2.mono BA.out.size))
              have hkj2 : (kj == 2) = false := by rw [beq_eq_false_iff_ne, hkj (by omega)]; exact hk
              clear b2 hkj hk
              go_wp2
              go_roundw
              case rel => exact ⟨j + 1 + 1, true, by go_num, by omega, HQ2, hide ⟨fun h => by omega, fun j h e => HNX.out j h (by omega)⟩, B2⟩
              case measure => simp [intOf]; omega
            · have hk : ts[j].nd.kind = 2 := by simpa using hb.symm
              have hnow2 : false = V := hnow
              subst hnow2
              clear hnow hprev hb
              go_wp2_with fail
              refine (HTX1.out _).mono ?_
              rintro e w2 ⟨rfl, b2⟩
              have B2 := hide (BB8.out.trans (b2.mono BB8.out.size))
              obtain ⟨kj, v0, hkj⟩ := HPJ.out w2 (BA.out.trans (b2.mono BA.out.size))
              have hkj2 : (kj == 2) = true := by rw [beq_iff_eq, hkj (by omega)]; exact hk
              clear b2 hkj hk
              go_wp2
              go_ret
              exact ⟨rfl, B2.out⟩
      · have hk2b : (kd == 2) = false := by simp [hk2]
        rw [if_neg hk2] at hnow
        by_cases hk1 : kd = 1
        · subst hk1
          rw [if_pos rfl] at hnow
          by_cases hdp : deep ≤ de
          · have hdp2 : ¬ de < deep := by omega
            rw [decide_eq_true hdp, Bool.true_and] at hnow
            cases VT
            · rw [Bool.false_and, Bool.false_and] at hnow
              subst hnow
              go_wp2_with fail
              refine HTG1.out.mono ?_
              rintro e w2 ⟨rfl, b2⟩
              have B2 := hide (BB8.out.trans (b2.mono BB8.out.size))
              clear b2
              go_wp2
              go_ret
              exact ⟨rfl, B2.out⟩
            · rw [Bool.true_and] at hnow
              have HRC1 := hide (HRC.out hdp)
              go_wp2_with fail
              refine HTG1.out.mono ?_
              rintro e w2 ⟨rfl, b2⟩
              obtain ⟨x0, x1, x2, x3, x4, bx⟩ := HPB.out _ (B8.out.trans (b2.mono B8.out.size))
              have B2 := hide (B8.out.trans (b2.mono B8.out.size))
              have BX := hide bx
              have x5 : w2.cell? ⟨wr.heap.size, 5, none⟩ = some (.slice ka kl kc) := (b2.cell (by show wr.heap.size < _; simp)).trans (by simp [go_sem])
              have HR2 := hide (HRC1.out w2 b2)
              clear b2 bx
              cases VK
              · rw [Bool.false_and] at hnow
                subst hnow
                go_wp2_with fail
                refine HR2.out.mono ?_
                rintro e w3 ⟨rfl, b3⟩
                have B3 := hide (BX.out.trans (b3.mono BX.out.size))
                clear b3
                go_wp2
                go_ret
                exact ⟨rfl, B3.out⟩
              · rw [Bool.true_and] at hnow
                have HQ2 := hide hnow
                go_wp2_with fail
                refine HR2.out.mono ?_
                rintro e w3 ⟨rfl, b3⟩
                have B3 := hide (B2.out.trans (b3.mono B2.out.size))
                clear b3
                go_wp2
                go_roundw
                case rel => exact ⟨i + 1, false, by go_num, by omega, hide (by have h := HQ2.out; simpa using h), hide ⟨fun h => by omega, fun j h e => HNX.out j h (by omega)⟩, B3⟩
                case measure => simp [intOf]; omega
          · have hdp2 : de < deep := by omega
            rw [decide_eq_false hdp, Bool.false_and, Bool.false_and] at hnow
            subst hnow
            go_wp2
            go_ret
            exact ⟨rfl, BB8.out⟩
        · have hk1b : (kd == 1) = false := by simp [hk1]
          rw [if_neg hk1, Bool.false_and] at hnow
          subst hnow
          go_wp2
          go_ret
          exact ⟨rfl, BB8.out⟩
    · have hlt2 : ¬ (i : Int) < ts.length := by omega
      obtain rfl : i = ts.length := by omega
      have hnow := HQ.out
      rw [HSE.out] at hnow
      subst hnow
      obtain ⟨_, _, _, _, _, bw⟩ := HPB.out _ HBW.out
      have BW := hide bw
      clear bw HQ HPV
      go_wp2
      go_ret
      exact ⟨rfl, BW.out⟩
end Go.Proofs.YthopnliaikkhbaaGreatDoor
/- What Attr and Allowed of nothing answer; the live question; nothing that was there is written. -/
set_option linter.unusedVariables false
set_option linter.unusedSimpArgs false
set_option maxRecDepth 4000
namespace Go.Proofs.YthopnliaikkhbaaGreatDoor
open Go.RowKit

set_option maxHeartbeats 1000000 in
theorem attr_any (p : PV) (hp : CapP p) (s an av : ByteArray) (hv : av.size ≤ 1000000) (w : World) (hI : IsPo w p) :
    Calls Tryz.prog 16 #[poA p, .string s, .agg #[.string an, .string av]] w fun e w' => e = .returned (.bool (attrP p.po s.data.toList an.data.toList av.data.toList)) ∧ Below w.heap.size w w' := by
  have H1 := hide (fun x (b : Below w.heap.size w x) => check_any p hp x (hI.below b))
  have H2 := hide (fun x (b : Below w.heap.size w x) => attrLet_any p hp s an av hv x (hI.below b))
  unfold attrP
  generalize checkP p.po = c at *
  generalize attrB p.po s.data.toList an.data.toList av.data.toList = F at *
  have HB := hide (fun x (b : Below (poW w p).heap.size (poW w p) x) => po_box w p b)
  obtain ⟨rs, li, sc, dr, de, rv, lv, sv, dv⟩ := p
  simp only [] at *
  have gr : IsR w rv rs := hI.r
  have gl : IsW w lv li := hI.l
  have gs : IsW w sv sc := hI.s
  have gd : IsW w dv dr := hI.d
  obtain ⟨ra, rc, rfl⟩ := gr.form
  obtain ⟨la, lc, rfl⟩ := gl.form
  obtain ⟨sa, sc', rfl⟩ := gs.form
  obtain ⟨da, dc, rfl⟩ := gd.form
  clear gl gs gd
  have HBA := hide (fun x (b : Below ((poW w ⟨rs, li, sc, dr, de, .slice ra rs.length rc, .slice la li.length lc, .slice sa sc.length sc', .slice da dr.length dc⟩).alloc (.cells #[.string an, .string av] 46)).heap.size ((poW w ⟨rs, li, sc, dr, de, .slice ra rs.length rc, .slice la li.length lc, .slice sa sc.length sc', .slice da dr.length dc⟩).alloc (.cells #[.string an, .string av] 46)) x) => at_box w ⟨rs, li, sc, dr, de, .slice ra rs.length rc, .slice la li.length lc, .slice sa sc.length sc', .slice da dr.length dc⟩ an av b)
  have B0 := hide (Below.refl ((poW w ⟨rs, li, sc, dr, de, .slice ra rs.length rc, .slice la li.length lc, .slice sa sc.length sc', .slice da dr.length dc⟩).alloc (.cells #[.string an, .string av] 46)).heap.size ((poW w ⟨rs, li, sc, dr, de, .slice ra rs.length rc, .slice la li.length lc, .slice sa sc.length sc', .slice da dr.length dc⟩).alloc (.cells #[.string an, .string av] 46)))
  obtain ⟨a0, a1, ab⟩ := HBA.out _ B0.out
  obtain ⟨c0, c1, c2, c3, c4, bb⟩ := HB.out _ ab
  have BB := hide bb
  clear ab bb
  clear hI gr hp
  by_cases hc : c = 0
  · subst hc
    rw [decide_eq_true rfl, Bool.true_and]
    go_enter Tryz.func16, Tryz.ntmps16
    go_wp2_with fail
    refine (H1.out _ BB.out).mono ?_
    rintro e w1 ⟨rfl, b1⟩
    have BC := hide (BB.out.trans (b1.mono BB.out.size))
    have B1 := hide (B0.out.trans (b1.mono B0.out.size))
    clear b1 c0 c1 c2 c3 c4 a0 a1
    obtain ⟨a0, a1, ab⟩ := HBA.out _ B1.out
    obtain ⟨c0, c1, c2, c3, c4, bb⟩ := HB.out _ ab
    clear bb ab
    go_wp2_with fail
    refine (H2.out _ BC.out).mono ?_
    rintro e w2 ⟨rfl, b2⟩
    have BD := hide (BC.out.trans (b2.mono BC.out.size))
    clear b2
    go_wp2
    go_ret
    exact ⟨rfl, BD.out⟩
  · have hci : (c == 0) = false := by rw [beq_eq_false_iff_ne]; exact hc
    rw [decide_eq_false hc, Bool.false_and]
    clear hc
    go_enter Tryz.func16, Tryz.ntmps16
    go_wp2_with fail
    refine (H1.out _ BB.out).mono ?_
    rintro e w1 ⟨rfl, b1⟩
    have BC := hide (BB.out.trans (b1.mono BB.out.size))
    clear b1
    go_wp2
    go_ret
    exact ⟨rfl, BC.out⟩
set_option maxHeartbeats 1000000 in
theorem all_none (p : PV) (a : Option Addr) (c : Nat) (d : Int) (w : World) (hI : IsPo w p) :
    Calls Tryz.prog 22 #[poA p, .slice a 0 c, .int .i64 d] w fun e w' => e = .returned (.bool true) ∧ Below w.heap.size w w' := by
  have HB := hide (fun x (b : Below (poW w p).heap.size (poW w p) x) => po_box w p b)
  obtain ⟨rs, li, sc, dr, de, rv, lv, sv, dv⟩ := p
  simp only [] at *
  have gr : IsR w rv rs := hI.r
  have gl : IsW w lv li := hI.l
  have gs : IsW w sv sc := hI.s
  have gd : IsW w dv dr := hI.d
  obtain ⟨ra, rc, rfl⟩ := gr.form
  obtain ⟨la, lc, rfl⟩ := gl.form
  obtain ⟨sa, sc', rfl⟩ := gs.form
  obtain ⟨da, dc, rfl⟩ := gd.form
  clear gl gs gd
  have B0 := hide (Below.refl (poW w ⟨rs, li, sc, dr, de, .slice ra rs.length rc, .slice la li.length lc, .slice sa sc.length sc', .slice da dr.length dc⟩).heap.size (poW w ⟨rs, li, sc, dr, de, .slice ra rs.length rc, .slice la li.length lc, .slice sa sc.length sc', .slice da dr.length dc⟩))
  obtain ⟨c0, c1, c2, c3, c4, bb⟩ := HB.out _ B0.out
  have BB := hide bb
  clear hI bb gr
  go_enter Tryz.func22, Tryz.ntmps22
  go_wp2
  go_loop [11] (fun i => i = .int .i64 0) (fun i => 0)
  case atStart => rfl
  case round =>
    subst hrel
    go_wp2
    go_ret
    exact ⟨rfl, BB.out⟩
set_option maxHeartbeats 1000000 in
theorem allowed_none (p : PV) (hp : CapP p) (a : Option Addr) (k : Nat) (w : World) (hI : IsPo w p) :
    Calls Tryz.prog 12 #[poA p, .slice a 0 k] w fun e w' => e = .returned (.bool (decide (checkP p.po = 0))) ∧ Below w.heap.size w w' := by
  have H1 := hide (fun x (b : Below w.heap.size w x) => check_any p hp x (hI.below b))
  have H2 := hide (fun x (b : Below w.heap.size w x) => all_none p a k 1 x (hI.below b))
  generalize checkP p.po = c at *
  have HB := hide (fun x (b : Below (poW w p).heap.size (poW w p) x) => po_box w p b)
  obtain ⟨rs, li, sc, dr, de, rv, lv, sv, dv⟩ := p
  simp only [] at *
  have gr : IsR w rv rs := hI.r
  have gl : IsW w lv li := hI.l
  have gs : IsW w sv sc := hI.s
  have gd : IsW w dv dr := hI.d
  obtain ⟨ra, rc, rfl⟩ := gr.form
  obtain ⟨la, lc, rfl⟩ := gl.form
  obtain ⟨sa, sc', rfl⟩ := gs.form
  obtain ⟨da, dc, rfl⟩ := gd.form
  clear gl gs gd
  have B0 := hide (Below.refl (poW w ⟨rs, li, sc, dr, de, .slice ra rs.length rc, .slice la li.length lc, .slice sa sc.length sc', .slice da dr.length dc⟩).heap.size (poW w ⟨rs, li, sc, dr, de, .slice ra rs.length rc, .slice la li.length lc, .slice sa sc.length sc', .slice da dr.length dc⟩))
  obtain ⟨c0, c1, c2, c3, c4, bb⟩ := HB.out _ B0.out
  have BB := hide bb
  clear hI bb gr hp
  by_cases hc : c = 0
  · subst hc
    rw [decide_eq_true rfl]
    go_enter Tryz.func12, Tryz.ntmps12
    go_wp2_with fail
    refine (H1.out _ BB.out).mono ?_
    rintro e w1 ⟨rfl, b1⟩
    have BC := hide (BB.out.trans (b1.mono BB.out.size))
    have B1 := hide (B0.out.trans (b1.mono B0.out.size))
    clear b1 c0 c1 c2 c3 c4
    obtain ⟨c0, c1, c2, c3, c4, bb⟩ := HB.out _ B1.out
    clear bb
    go_wp2_with fail
    refine (H2.out _ BC.out).mono ?_
    rintro e w2 ⟨rfl, b2⟩
    have BD := hide (BC.out.trans (b2.mono BC.out.size))
    clear b2
    go_wp2
    go_ret
    exact ⟨rfl, BD.out⟩
  · have hci : (c == 0) = false := by rw [beq_eq_false_iff_ne]; exact hc
    rw [decide_eq_false hc]
    clear hc
    go_enter Tryz.func12, Tryz.ntmps12
    go_wp2_with fail
    refine (H1.out _ BB.out).mono ?_
    rintro e w1 ⟨rfl, b1⟩
    have BC := hide (BB.out.trans (b1.mono BB.out.size))
    clear b1
    go_wp2
    go_ret
    exact ⟨rfl, BC.out⟩
/-! The live question. -/
def liveP : PO := { ru := [⟨[98], []⟩, ⟨[97], [[104, 114, 101, 102]]⟩], li := [[104, 114, 101, 102]], sc := [[104, 116, 116, 112, 115]], de := 3 }
theorem eqPO (a b : PO) (h1 : a.ru.map (fun r => (r.nm, r.at_)) = b.ru.map (fun r => (r.nm, r.at_))) (h2 : a.li = b.li) (h3 : a.sc = b.sc) (h4 : a.dr = b.dr) (h5 : a.de = b.de) : a = b := by
  obtain ⟨ru, li, sc, dr, de⟩ := a
  obtain ⟨ru', li', sc', dr', de'⟩ := b
  simp only [] at h1 h2 h3 h4 h5
  subst h2 h3 h4 h5
  have : ru = ru' := by
    have inj : Function.Injective (fun r : RU => (r.nm, r.at_)) := fun x y e => by
      obtain ⟨a, b⟩ := x
      obtain ⟨c, d⟩ := y
      simp only [Prod.mk.injEq] at e
      obtain ⟨rfl, rfl⟩ := e
      rfl
    exact (List.map_inj_right (fun x y e => inj e)).1 h1
  rw [this]
theorem live_parse1 : (parseP [100, 101, 101, 112, 32, 51, 10, 101, 108, 101, 109, 101, 110, 116, 32, 98, 10, 101, 108, 101, 109, 101, 110, 116, 32, 97, 32, 104, 114, 101, 102, 10, 108, 105, 110, 107, 32, 104, 114, 101, 102, 10, 115, 99, 104, 101, 109, 101, 32, 104, 116, 116, 112, 115, 10]).1 = liveP ∧ (parseP [100, 101, 101, 112, 32, 51, 10, 101, 108, 101, 109, 101, 110, 116, 32, 98, 10, 101, 108, 101, 109, 101, 110, 116, 32, 97, 32, 104, 114, 101, 102, 10, 108, 105, 110, 107, 32, 104, 114, 101, 102, 10, 115, 99, 104, 101, 109, 101, 32, 104, 116, 116, 112, 115, 10]).2 = (0, 0) :=
  ⟨eqPO _ _ (by decide +kernel) (by decide +kernel) (by decide +kernel) (by decide +kernel) (by decide +kernel), by decide +kernel⟩
theorem live_parse2 : (parseP [100, 101, 101, 112, 32, 51, 10, 10, 100, 101, 101, 112, 32, 48, 51]).2 = (3, 7) := by decide +kernel
theorem live_check : checkP liveP = 0 := by decide +kernel
theorem live_el1 : elementP liveP [98] = true := by decide +kernel
theorem live_el2 : elementP liveP [105] = false := by decide +kernel
theorem live_at1 : attrP liveP [97] [104, 114, 101, 102] [47, 120] = true := by decide +kernel
theorem live_at2 : attrP liveP [97] [104, 114, 101, 102] [104, 116, 116, 112, 58, 120] = false := by decide +kernel
set_option maxHeartbeats 4000000 in
theorem alive_any (w : World) :
    Calls Tryz.prog 6 #[] w fun e w' => e = .returned (.bool true) ∧ Below w.heap.size w w' := by
  have H1 : Hid (∀ w, Calls Tryz.prog 7 #[.string ⟨#[100, 101, 101, 112, 32, 51, 10, 101, 108, 101, 109, 101, 110, 116, 32, 98, 10, 101, 108, 101, 109, 101, 110, 116, 32, 97, 32, 104, 114, 101, 102, 10, 108, 105, 110, 107, 32, 104, 114, 101, 102, 10, 115, 99, 104, 101, 109, 101, 32, 104, 116, 116, 112, 115, 10]⟩] w fun e w' => ∃ q : PV, e = .returned (.tuple #[poA q, .int .i64 0, .int .i64 0]) ∧ Hid (q.po = liveP) ∧ Hid (IsPo w' q) ∧ Hid (CapP q) ∧ Hid (Below w.heap.size w w')) := hide (fun w => (parse_any ⟨#[100, 101, 101, 112, 32, 51, 10, 101, 108, 101, 109, 101, 110, 116, 32, 98, 10, 101, 108, 101, 109, 101, 110, 116, 32, 97, 32, 104, 114, 101, 102, 10, 108, 105, 110, 107, 32, 104, 114, 101, 102, 10, 115, 99, 104, 101, 109, 101, 32, 104, 116, 116, 112, 115, 10]⟩ (by decide) w).mono fun e w' h => by
    obtain ⟨q, h1, h2, h3, h4, h5⟩ := h
    have e1 := live_parse1.1
    have e2 := live_parse1.2
    refine ⟨q, ?_, hide (h1.trans e1), hide h3, hide h4, hide h5⟩
    rw [h2]
    show Ending.returned (.tuple #[poA q, .int .i64 (((parseP [100, 101, 101, 112, 32, 51, 10, 101, 108, 101, 109, 101, 110, 116, 32, 98, 10, 101, 108, 101, 109, 101, 110, 116, 32, 97, 32, 104, 114, 101, 102, 10, 108, 105, 110, 107, 32, 104, 114, 101, 102, 10, 115, 99, 104, 101, 109, 101, 32, 104, 116, 116, 112, 115, 10]).2.1 : Nat) : Int), .int .i64 (parseP [100, 101, 101, 112, 32, 51, 10, 101, 108, 101, 109, 101, 110, 116, 32, 98, 10, 101, 108, 101, 109, 101, 110, 116, 32, 97, 32, 104, 114, 101, 102, 10, 108, 105, 110, 107, 32, 104, 114, 101, 102, 10, 115, 99, 104, 101, 109, 101, 32, 104, 116, 116, 112, 115, 10]).2.2]) = _
    rw [e2]
    rfl)
  have H2 : Hid (∀ w, Calls Tryz.prog 7 #[.string ⟨#[100, 101, 101, 112, 32, 51, 10, 10, 100, 101, 101, 112, 32, 48, 51]⟩] w fun e w' => ∃ q : PV, e = .returned (.tuple #[poA q, .int .i64 3, .int .i64 7]) ∧ Hid (IsPo w' q) ∧ Hid (Below w.heap.size w w')) := hide (fun w => (parse_any ⟨#[100, 101, 101, 112, 32, 51, 10, 10, 100, 101, 101, 112, 32, 48, 51]⟩ (by decide) w).mono fun e w' h => by
    obtain ⟨q, h1, h2, h3, h4, h5⟩ := h
    have e2 := live_parse2
    refine ⟨q, ?_, hide h3, hide h5⟩
    rw [h2]
    show Ending.returned (.tuple #[poA q, .int .i64 (((parseP [100, 101, 101, 112, 32, 51, 10, 10, 100, 101, 101, 112, 32, 48, 51]).2.1 : Nat) : Int), .int .i64 (parseP [100, 101, 101, 112, 32, 51, 10, 10, 100, 101, 101, 112, 32, 48, 51]).2.2]) = _
    rw [e2]
    rfl)
  go_enter Tryz.func6, Tryz.ntmps6
  go_wp2_with fail
  refine (H1.out _).mono ?_
  rintro e w1 ⟨q, rfl, hq, hI, hp, hb⟩
  have HE1 := hide (fun x (b : Below w1.heap.size w1 x) => element_any q hp.out ⟨#[98]⟩ x (hI.out.below b))
  have HE2 := hide (fun x (b : Below w1.heap.size w1 x) => element_any q hp.out ⟨#[105]⟩ x (hI.out.below b))
  have HA1 := hide (fun x (b : Below w1.heap.size w1 x) => attr_any q hp.out ⟨#[97]⟩ ⟨#[104, 114, 101, 102]⟩ ⟨#[47, 120]⟩ (by decide) x (hI.out.below b))
  have HA2 := hide (fun x (b : Below w1.heap.size w1 x) => attr_any q hp.out ⟨#[97]⟩ ⟨#[104, 114, 101, 102]⟩ ⟨#[104, 116, 116, 112, 58, 120]⟩ (by decide) x (hI.out.below b))
  have HC := hide (fun x (b : Below w1.heap.size w1 x) => check_any q hp.out x (hI.out.below b))
  have HL := hide (fun x (b : Below w1.heap.size w1 x) => allowed_none q hp.out none 0 x (hI.out.below b))
  rw [hq.out, show (⟨#[98]⟩ : ByteArray).data.toList = [98] from rfl, live_el1] at HE1
  rw [hq.out, show (⟨#[105]⟩ : ByteArray).data.toList = [105] from rfl, live_el2] at HE2
  rw [hq.out, show (⟨#[97]⟩ : ByteArray).data.toList = [97] from rfl, show (⟨#[104, 114, 101, 102]⟩ : ByteArray).data.toList = [104, 114, 101, 102] from rfl, show (⟨#[47, 120]⟩ : ByteArray).data.toList = [47, 120] from rfl, live_at1] at HA1
  rw [hq.out, show (⟨#[97]⟩ : ByteArray).data.toList = [97] from rfl, show (⟨#[104, 114, 101, 102]⟩ : ByteArray).data.toList = [104, 114, 101, 102] from rfl, show (⟨#[104, 116, 116, 112, 58, 120]⟩ : ByteArray).data.toList = [104, 116, 116, 112, 58, 120] from rfl, live_at2] at HA2
  rw [hq.out, live_check] at HC HL
  have HBX := hide (fun x (b : Below (poW w1 q).heap.size (poW w1 q) x) => po_box w1 q b)
  obtain ⟨a0, d0, e0⟩ := hI.out.r.form
  obtain ⟨a1, d1, e1⟩ := hI.out.l.form
  obtain ⟨a2, d2, e2⟩ := hI.out.s.form
  obtain ⟨a3, d3, e3⟩ := hI.out.d.form
  clear hq hI hp
  obtain ⟨rs, li, sc, dr, de, rv, lv, sv, dv⟩ := q
  simp only [] at e0 e1 e2 e3 HE1 HE2 HA1 HA2 HC HL HBX
  subst e0 e1 e2 e3
  generalize rs.length = n0 at *
  generalize li.length = n1 at *
  generalize sc.length = n2 at *
  generalize dr.length = n3 at *
  go_wp2_with fail
  refine (H2.out _).mono ?_
  rintro e w2 ⟨q2, rfl, hI2, hb2⟩
  obtain ⟨f0, g0, i0⟩ := hI2.out.r.form
  obtain ⟨f1, g1, i1⟩ := hI2.out.l.form
  obtain ⟨f2, g2, i2⟩ := hI2.out.s.form
  obtain ⟨f3, g3, i3⟩ := hI2.out.d.form
  obtain ⟨rs2, li2, sc2, dr2, de2, rv2, lv2, sv2, dv2⟩ := q2
  simp only [] at i0 i1 i2 i3
  subst i0 i1 i2 i3
  have B0 := hide (hb2.out.trans ((below_alloc w2 (.cells #[.slice f0 rs2.length g0, .slice f1 li2.length g1, .slice f2 sc2.length g2, .slice f3 dr2.length g3, .int .i64 de2] 26)).mono hb2.out.size))
  obtain ⟨c0, c1, c2, c3, c4, dd⟩ := HBX.out _ B0.out
  have D0 := hide dd
  clear dd hI2 hb2
  go_wp2_with fail
  refine (HE1.out _ D0.out).mono ?_
  rintro e x0 ⟨rfl, b0⟩
  have B1 := hide (B0.out.trans (b0.mono B0.out.size))
  clear c0 c1 c2 c3 c4
  obtain ⟨c0, c1, c2, c3, c4, dd⟩ := HBX.out _ B1.out
  have D1 := hide dd
  clear dd b0
  go_wp2_with fail
  refine (HE2.out _ D1.out).mono ?_
  rintro e x1 ⟨rfl, b1⟩
  have B2 := hide (B1.out.trans (b1.mono B1.out.size))
  clear c0 c1 c2 c3 c4
  obtain ⟨c0, c1, c2, c3, c4, dd⟩ := HBX.out _ B2.out
  have D2 := hide dd
  clear dd b1
  go_wp2_with fail
  refine (HA1.out _ D2.out).mono ?_
  rintro e x2 ⟨rfl, b2⟩
  have B3 := hide (B2.out.trans (b2.mono B2.out.size))
  clear c0 c1 c2 c3 c4
  obtain ⟨c0, c1, c2, c3, c4, dd⟩ := HBX.out _ B3.out
  have D3 := hide dd
  clear dd b2
  go_wp2_with fail
  refine (HA2.out _ D3.out).mono ?_
  rintro e x3 ⟨rfl, b3⟩
  have B4 := hide (B3.out.trans (b3.mono B3.out.size))
  clear c0 c1 c2 c3 c4
  obtain ⟨c0, c1, c2, c3, c4, dd⟩ := HBX.out _ B4.out
  have D4 := hide dd
  clear dd b3
  go_wp2_with fail
  refine (HC.out _ D4.out).mono ?_
  rintro e x4 ⟨rfl, b4⟩
  have B5 := hide (B4.out.trans (b4.mono B4.out.size))
  clear c0 c1 c2 c3 c4
  obtain ⟨c0, c1, c2, c3, c4, dd⟩ := HBX.out _ B5.out
  have D5 := hide dd
  clear dd b4
  go_wp2_with fail
  refine (HL.out _ D5.out).mono ?_
  rintro e x5 ⟨rfl, b5⟩
  have B6 := hide (B5.out.trans (b5.mono B5.out.size))
  clear c0 c1 c2 c3 c4
  obtain ⟨c0, c1, c2, c3, c4, dd⟩ := HBX.out _ B6.out
  have D6 := hide dd
  clear dd b5
  go_wp2
  go_ret
  exact ⟨rfl, hb.out.trans (D6.out.mono hb.out.size)⟩
end Go.Proofs.YthopnliaikkhbaaGreatDoor
/- What the document's own Check answers, where all lists are short enough; nothing that was there is written. -/
set_option linter.unusedVariables false
set_option linter.unusedSimpArgs false
set_option maxRecDepth 4000
namespace Go.Proofs.YthopnliaikkhbaaGreatDoor
open Go.RowKit

theorem rcheck_ok (p : PV) (hp : CapP p) (w : World) (hI : IsPo w p) (h1 : p.rs.length ≤ 40) (h2 : p.li.length ≤ 20) (h3 : p.sc.length ≤ 20) (h4 : p.dr.length ≤ 20) (h5 : ∀ r ∈ p.rs, r.at_.length ≤ 20) :
    Calls Tryz.prog 19 #[poA p] w fun e w' => e = .returned (.int .i64 (if okP p.po then 0 else 1)) ∧ Below w.heap.size w w' := by
  by_cases q1 : (1 : Int) ≤ p.de
  · by_cases q2 : p.de ≤ 60
    · cases n1 : namesL p.li
      · exact rcheck_p2 p hp w hI h1 h2 h3 h4 h5 ⟨q1, q2, n1⟩
      · cases n2 : namesL p.sc
        · exact rcheck_p3 p hp w hI h1 h2 h3 h4 h5 ⟨q1, q2, n1, n2⟩
        · exact rcheck_p4 p hp w hI h1 h2 h3 h4 h5 ⟨q1, q2, n1, n2⟩
    · exact rcheck_p1 p hp w hI h1 h2 h3 h4 h5 ⟨q1, q2⟩
  · exact rcheck_p0 p hp w hI h1 h2 h3 h4 h5 q1
set_option maxHeartbeats 4000000 in
theorem rcheck_big (p : PV) (w : World) (hI : IsPo w p) (h1 : p.rs.length ≤ 1000000) (h2 : p.li.length ≤ 1000000) (h3 : p.sc.length ≤ 1000000) (h4 : p.dr.length ≤ 1000000) (hq : 40 < p.rs.length ∨ 20 < p.li.length ∨ 20 < p.sc.length ∨ 20 < p.dr.length) :
    Calls Tryz.prog 19 #[poA p] w fun e w' => e = .returned (.int .i64 4) ∧ Below w.heap.size w w' := by
  have HB := hide (fun x (b : Below (poW w p).heap.size (poW w p) x) => po_box w p b)
  obtain ⟨rs, li, sc, dr, de, rv, lv, sv, dv⟩ := p
  simp only [] at *
  have gr : IsR w rv rs := hI.r
  have gl : IsW w lv li := hI.l
  have gs : IsW w sv sc := hI.s
  have gd : IsW w dv dr := hI.d
  obtain ⟨ra, rc, rfl⟩ := gr.form
  obtain ⟨la, lc, rfl⟩ := gl.form
  obtain ⟨sa, sc', rfl⟩ := gs.form
  obtain ⟨da, dc, rfl⟩ := gd.form
  clear gl gs gd
  have HAT := hide (fun k r (hk : rs[k]? = some r) => gr.at_ k r hk)
  have B0 := hide (Below.refl (poW w ⟨rs, li, sc, dr, de, .slice ra rs.length rc, .slice la li.length lc, .slice sa sc.length sc', .slice da dr.length dc⟩).heap.size (poW w ⟨rs, li, sc, dr, de, .slice ra rs.length rc, .slice la li.length lc, .slice sa sc.length sc', .slice da dr.length dc⟩))
  obtain ⟨c0, c1, c2, c3, c4, bb⟩ := HB.out _ B0.out
  have BB := hide bb
  clear hI bb gr
  have hpa : (40 : Int) < rs.length ∨ (¬ (40 : Int) < rs.length ∧ (20 : Int) < li.length) ∨ (¬ (40 : Int) < rs.length ∧ ¬ (20 : Int) < li.length ∧ (20 : Int) < sc.length) ∨ (¬ (40 : Int) < rs.length ∧ ¬ (20 : Int) < li.length ∧ ¬ (20 : Int) < sc.length ∧ (20 : Int) < dr.length) := by omega
  clear hq
  have hz : (0 : Int) < rs.length ∨ ¬ (0 : Int) < rs.length := by omega
  rcases hpa with i1 | ⟨i1, i2⟩ | ⟨i1, i2, i3⟩ | ⟨i1, i2, i3, i4⟩
  · go_enter Tryz.func19, Tryz.ntmps19
    go_wp2
    go_loop [3, 4] (fun l i => l = .bool true ∧ i = .int .i64 0) (fun _ _ => 0)
    case atStart => exact ⟨rfl, rfl⟩
    case round =>
      obtain ⟨rfl, rfl⟩ := hrel
      rcases hz with hz | hz
      · go_wp2
        go_ret
        exact ⟨rfl, BB.out⟩
      · exact absurd i1 (by omega)
  · go_enter Tryz.func19, Tryz.ntmps19
    go_wp2
    go_loop [3, 4] (fun l i => l = .bool true ∧ i = .int .i64 0) (fun _ _ => 0)
    case atStart => exact ⟨rfl, rfl⟩
    case round =>
      obtain ⟨rfl, rfl⟩ := hrel
      rcases hz with hz | hz
      · go_wp2
        go_ret
        exact ⟨rfl, BB.out⟩
      · go_wp2
        go_ret
        exact ⟨rfl, BB.out⟩
  · go_enter Tryz.func19, Tryz.ntmps19
    go_wp2
    go_loop [3, 4] (fun l i => l = .bool true ∧ i = .int .i64 0) (fun _ _ => 0)
    case atStart => exact ⟨rfl, rfl⟩
    case round =>
      obtain ⟨rfl, rfl⟩ := hrel
      rcases hz with hz | hz
      · go_wp2
        go_ret
        exact ⟨rfl, BB.out⟩
      · go_wp2
        go_ret
        exact ⟨rfl, BB.out⟩
  · go_enter Tryz.func19, Tryz.ntmps19
    go_wp2
    go_loop [3, 4] (fun l i => l = .bool true ∧ i = .int .i64 0) (fun _ _ => 0)
    case atStart => exact ⟨rfl, rfl⟩
    case round =>
      obtain ⟨rfl, rfl⟩ := hrel
      rcases hz with hz | hz
      · go_wp2
        go_ret
        exact ⟨rfl, BB.out⟩
      · go_wp2
        go_ret
        exact ⟨rfl, BB.out⟩
set_option maxHeartbeats 4000000 in
theorem rcheck_big2 (p : PV) (w : World) (hI : IsPo w p) (h1 : p.rs.length ≤ 1000000) (h2 : p.li.length ≤ 1000000) (h3 : p.sc.length ≤ 1000000) (h4 : p.dr.length ≤ 1000000) (g1 : p.rs.length ≤ 40) (g2 : p.li.length ≤ 20) (g3 : p.sc.length ≤ 20) (g4 : p.dr.length ≤ 20) (h5 : (p.rs.any fun r => decide (20 < r.at_.length)) = true) (ha : ∀ r ∈ p.rs, r.at_.length ≤ 1000000) :
    Calls Tryz.prog 19 #[poA p] w fun e w' => e = .returned (.int .i64 4) ∧ Below w.heap.size w w' := by
  have HB := hide (fun x (b : Below (poW w p).heap.size (poW w p) x) => po_box w p b)
  obtain ⟨rs, li, sc, dr, de, rv, lv, sv, dv⟩ := p
  simp only [] at *
  have gr : IsR w rv rs := hI.r
  have gl : IsW w lv li := hI.l
  have gs : IsW w sv sc := hI.s
  have gd : IsW w dv dr := hI.d
  obtain ⟨ra, rc, rfl⟩ := gr.form
  obtain ⟨la, lc, rfl⟩ := gl.form
  obtain ⟨sa, sc', rfl⟩ := gs.form
  obtain ⟨da, dc, rfl⟩ := gd.form
  clear gl gs gd
  have HAT := hide (fun k r (hk : rs[k]? = some r) => gr.at_ k r hk)
  have B0 := hide (Below.refl (poW w ⟨rs, li, sc, dr, de, .slice ra rs.length rc, .slice la li.length lc, .slice sa sc.length sc', .slice da dr.length dc⟩).heap.size (poW w ⟨rs, li, sc, dr, de, .slice ra rs.length rc, .slice la li.length lc, .slice sa sc.length sc', .slice da dr.length dc⟩))
  obtain ⟨c0, c1, c2, c3, c4, bb⟩ := HB.out _ B0.out
  have BB := hide bb
  clear hI bb gr
  have i1 : ¬ (40 : Int) < rs.length := by omega
  have i2 : ¬ (20 : Int) < li.length := by omega
  have i3 : ¬ (20 : Int) < sc.length := by omega
  have i4 : ¬ (20 : Int) < dr.length := by omega
  have H5 := hide h5
  have HLA := hide ha
  clear h5 ha
  go_enter Tryz.func19, Tryz.ntmps19
  go_wp2
  go_loop [3, 4] (fun l i => ∃ (k : Nat) (B : Bool), k ≤ rs.length ∧ l = .bool B ∧ i = .int .i64 k ∧ Hid ((B || (rs.drop k).any fun r => decide (20 < r.at_.length)) = true)) (fun _ i => rs.length - (intOf i).toNat)
  case atStart => exact ⟨0, false, Nat.zero_le _, rfl, rfl, hide (by rw [List.drop_zero, Bool.false_or]; exact H5.out)⟩
  case round =>
    obtain ⟨k, B, hk, rfl, rfl, HR⟩ := hrel
    by_cases hlt : k < rs.length
    · have hlt2 : (k : Int) < rs.length := by omega
      cases B with
      | true =>
        clear HR
        go_wp2
        go_ret
        exact ⟨rfl, BB.out⟩
      | false =>
        obtain ⟨r, hr⟩ : ∃ r, rs[k]? = some r := ⟨_, List.getElem?_eq_getElem hlt⟩
        obtain ⟨⟨b, o, rfl, q⟩, hw⟩ := HAT.out k r hr
        obtain ⟨d0, d1⟩ := q _ BB.out
        obtain ⟨xa, xc, hx⟩ := hw.form
        rw [hx] at d1
        have hst := HR.out
        rw [any_stepR rs k r hr, Bool.false_or] at hst
        have hra := HLA.out r (List.mem_of_getElem? hr)
        clear hw hr q hx HR
        by_cases hle : 20 < r.at_.length
        · have hli : (20 : Int) < r.at_.length := by omega
          clear hst hle
          go_wp2
          go_round
          case rel => exact ⟨k + 1, true, by omega, rfl, by go_num, hide (Bool.true_or _)⟩
          case measure => simp [intOf]; omega
        · have hli : ¬ (20 : Int) < r.at_.length := by omega
          rw [decide_eq_false hle] at hst
          have HR2 := hide hst
          clear hst hle
          go_wp2
          go_round
          case rel => exact ⟨k + 1, false, by omega, rfl, by go_num, HR2⟩
          case measure => simp [intOf]; omega
    · have hlt2 : ¬ (k : Int) < rs.length := by omega
      have hst := HR.out
      rw [List.drop_eq_nil_of_le (by omega)] at hst
      simp only [List.any_nil, Bool.or_false] at hst
      subst hst
      clear HR hlt
      go_wp2
      go_ret
      exact ⟨rfl, BB.out⟩
/-- What the document's own Check answers. -/
theorem rcheck_any (p : PV) (hp : CapP p) (w : World) (hI : IsPo w p) :
    Calls Tryz.prog 19 #[poA p] w fun e w' => e = .returned (.int .i64 (checkP p.po)) ∧ Below w.heap.size w w' := by
  unfold checkP
  rw [large_po]
  have s := hp.s
  by_cases q1 : 40 < p.rs.length ∨ 20 < p.li.length ∨ 20 < p.sc.length ∨ 20 < p.dr.length
  · rw [if_pos (by rcases q1 with q | q | q | q <;> simp [q])]
    exact rcheck_big p w hI (by have := s.r; omega) (by have := s.l; omega) (by have := s.s; omega) (by have := s.d; omega) q1
  · cases h5 : (p.rs.any fun r => decide (20 < r.at_.length))
    · rw [if_neg (by rw [decide_eq_false (by omega : ¬ 40 < p.rs.length), decide_eq_false (by omega : ¬ 20 < p.li.length), decide_eq_false (by omega : ¬ 20 < p.sc.length), decide_eq_false (by omega : ¬ 20 < p.dr.length)]; simp)]
      refine rcheck_ok p hp w hI (by omega) (by omega) (by omega) (by omega) fun r hr => ?_
      have := List.any_eq_false.1 h5 r hr
      simp at this
      omega
    · rw [if_pos (by simp)]
      exact rcheck_big2 p w hI (by omega) (by omega) (by omega) (by omega) (by omega) (by omega) (by omega) (by omega) h5 fun r hr => by have := (s.a r hr).1; omega
end Go.Proofs.YthopnliaikkhbaaGreatDoor
/- What the document's find, Element and Attr answer. -/
set_option linter.unusedVariables false
set_option linter.unusedSimpArgs false
set_option maxRecDepth 4000
namespace Go.Proofs.YthopnliaikkhbaaGreatDoor
open Go.RowKit

def PlaceO (rs : List RV) (V : Option RV) (z : Int) : Prop := (∃ (k : Nat) (r : RV), z = (k : Int) ∧ rs[k]? = some r ∧ V = some r) ∨ (z = -1 ∧ V = none)
def findO (p : PV) (n : Bs) : Option RV := if checkP p.po = 0 then p.rs.find? (nameIs n) else none
theorem place_o {rs : List RV} {V : Option RV} {z : Int} (h : PlaceO rs V z) : decide (0 ≤ z) = V.isSome := by
  rcases h with ⟨k, r, rfl, _, rfl⟩ | ⟨rfl, rfl⟩
  · exact decide_eq_true (by omega)
  · rfl
theorem find_el (p : PV) (n : Bs) : elementP p.po n = (findO p n).isSome := by
  unfold elementP ruleOf findO
  rw [find_po]
  split
  · cases p.rs.find? (nameIs n) <;> rfl
  · rfl
theorem find_at (p : PV) (n an av : Bs) : attrP p.po n an av = match findO p n with
    | none => false
    | some r => amongL r.at_ an && (!amongL p.li an || safeL av p.sc) := by
  unfold attrP attrB findO
  rw [find_po]
  by_cases h : checkP p.po = 0
  · rw [decide_eq_true h, Bool.true_and, if_pos h]
    cases p.rs.find? (nameIs n) <;> rfl
  · rw [decide_eq_false h, Bool.false_and, if_neg h]
set_option maxHeartbeats 2000000 in
theorem rfind_any (p : PV) (hp : CapP p) (s : ByteArray) (w : World) (hI : IsPo w p) :
    Calls Tryz.prog 61 #[poA p, .string s] w fun e w' => (∃ z : Int, e = .returned (.int .i64 z) ∧ PlaceO p.rs (findO p s.data.toList) z) ∧ Below w.heap.size w w' := by
  have H1 := hide (fun x (b : Below w.heap.size w x) => rcheck_any p hp x (hI.below b))
  have hrl : p.rs.length ≤ 1000 := hp.s.r
  unfold findO
  generalize checkP p.po = c at *
  have HB := hide (fun x (b : Below (poW w p).heap.size (poW w p) x) => po_box w p b)
  obtain ⟨rs, li, sc, dr, de, rv, lv, sv, dv⟩ := p
  simp only [] at *
  have gr : IsR w rv rs := hI.r
  have gl : IsW w lv li := hI.l
  have gs : IsW w sv sc := hI.s
  have gd : IsW w dv dr := hI.d
  obtain ⟨ra, rc, rfl⟩ := gr.form
  obtain ⟨la, lc, rfl⟩ := gl.form
  obtain ⟨sa, sc', rfl⟩ := gs.form
  obtain ⟨da, dc, rfl⟩ := gd.form
  have HAT := hide (fun k r (hk : rs[k]? = some r) => gr.at_ k r hk)
  clear gl gs gd
  have B0 := hide (Below.refl (poW w ⟨rs, li, sc, dr, de, .slice ra rs.length rc, .slice la li.length lc, .slice sa sc.length sc', .slice da dr.length dc⟩).heap.size (poW w ⟨rs, li, sc, dr, de, .slice ra rs.length rc, .slice la li.length lc, .slice sa sc.length sc', .slice da dr.length dc⟩))
  obtain ⟨c0, c1, c2, c3, c4, bb⟩ := HB.out _ B0.out
  have BB := hide bb
  clear hI bb gr hp
  by_cases hc : c = 0
  · subst hc
    rw [if_pos rfl]
    generalize hV : rs.find? (nameIs s.data.toList) = V
    have HV := hide hV
    clear hV
    go_enter Tryz.func61, Tryz.ntmps61
    go_wp2_with fail
    refine (H1.out _ BB.out).mono ?_
    rintro e w1 ⟨rfl, b1⟩
    have BC := hide (BB.out.trans (b1.mono BB.out.size))
    have B1 := hide (B0.out.trans (b1.mono B0.out.size))
    clear b1 c0 c1 c2 c3 c4 BB B0 H1
    obtain ⟨c0, c1, c2, c3, c4, bb⟩ := HB.out _ B1.out
    clear bb c1 c2 c3 c4
    go_wp2
    go_loop [5] (fun i => ∃ k : Nat, k ≤ rs.length ∧ i = .int .i64 k ∧ Hid ((rs.drop k).find? (nameIs s.data.toList) = V)) (fun i => rs.length - (intOf i).toNat)
    case atStart => exact ⟨0, Nat.zero_le _, rfl, hide (by rw [List.drop_zero]; exact HV.out)⟩
    case round =>
      obtain ⟨k, hk, rfl, HR⟩ := hrel
      by_cases hlt : k < rs.length
      · have hlt2 : (k : Int) < rs.length := by omega
        obtain ⟨x, hx⟩ : ∃ x, rs[k]? = some x := ⟨_, List.getElem?_eq_getElem hlt⟩
        obtain ⟨⟨b, o, rfl, hq⟩, hw⟩ := HAT.out k x hx
        have d0 := (hq _ BC.out).1
        have hst := find_step (nameIs s.data.toList) rs k x hx
        rw [HR.out] at hst
        have he := str_eq2 x.nm s
        have hn : nameIs s.data.toList x = (x.nm.data.toList == s.data.toList) := rfl
        rw [hn] at hst
        clear hq HR hw hn
        cases hP : (x.nm.data.toList == s.data.toList)
        · rw [hP] at he hst
          have HR2 : Hid ((rs.drop (k + 1)).find? (nameIs s.data.toList) = V) := hide (by rw [hst]; rfl)
          clear hst hx hP
          generalize x.nm = xn at *
          go_wp2
          go_round
          case rel => exact ⟨k + 1, by omega, by go_num, HR2⟩
          case measure => simp [intOf]; omega
        · rw [hP] at he hst
          have HR2 : Hid (∃ r, rs[k]? = some r ∧ V = some r) := hide ⟨_, hx, by rw [hst]; rfl⟩
          clear hst hx hP
          generalize x.nm = xn at *
          go_wp2
          go_ret
          obtain ⟨r, r1, r2⟩ := HR2.out
          exact ⟨⟨_, rfl, .inl ⟨k, r, rfl, r1, r2⟩⟩, BC.out⟩
      · have hlt2 : ¬ (k : Int) < rs.length := by omega
        have hst := find_end (nameIs s.data.toList) rs k (by omega)
        rw [HR.out] at hst
        have HR2 := hide hst
        clear hst HR hlt
        go_wp2
        go_ret
        exact ⟨⟨_, rfl, .inr ⟨rfl, HR2.out⟩⟩, BC.out⟩
  · have hci : (c != 0) = true := by rw [bne_iff_ne]; exact hc
    rw [if_neg hc]
    clear hc
    go_enter Tryz.func61, Tryz.ntmps61
    go_wp2_with fail
    refine (H1.out _ BB.out).mono ?_
    rintro e w1 ⟨rfl, b1⟩
    have BC := hide (BB.out.trans (b1.mono BB.out.size))
    clear b1
    go_wp2
    go_ret
    exact ⟨⟨_, rfl, .inr ⟨rfl, rfl⟩⟩, BC.out⟩
set_option maxHeartbeats 1000000 in
theorem relement_any (p : PV) (hp : CapP p) (s : ByteArray) (w : World) (hI : IsPo w p) :
    Calls Tryz.prog 38 #[poA p, .string s] w fun e w' => e = .returned (.bool (elementP p.po s.data.toList)) ∧ Below w.heap.size w w' := by
  rw [find_el]
  have H1 : Hid (∀ x, Below w.heap.size w x → Calls Tryz.prog 61 #[poA p, .string s] x fun e w' => ∃ z : Int, e = .returned (.int .i64 z) ∧ decide (0 ≤ z) = (findO p s.data.toList).isSome ∧ Below x.heap.size x w') := hide (fun x b => (rfind_any p hp s x (hI.below b)).mono fun e w' h => by
    obtain ⟨⟨z, h1, h2⟩, h3⟩ := h
    exact ⟨z, h1, place_o h2, h3⟩)
  generalize (findO p s.data.toList).isSome = F at *
  have HB := hide (fun x (b : Below (poW w p).heap.size (poW w p) x) => po_box w p b)
  obtain ⟨rs, li, sc, dr, de, rv, lv, sv, dv⟩ := p
  simp only [] at *
  have gr : IsR w rv rs := hI.r
  have gl : IsW w lv li := hI.l
  have gs : IsW w sv sc := hI.s
  have gd : IsW w dv dr := hI.d
  obtain ⟨ra, rc, rfl⟩ := gr.form
  obtain ⟨la, lc, rfl⟩ := gl.form
  obtain ⟨sa, sc', rfl⟩ := gs.form
  obtain ⟨da, dc, rfl⟩ := gd.form
  clear gl gs gd
  have B0 := hide (Below.refl (poW w ⟨rs, li, sc, dr, de, .slice ra rs.length rc, .slice la li.length lc, .slice sa sc.length sc', .slice da dr.length dc⟩).heap.size (poW w ⟨rs, li, sc, dr, de, .slice ra rs.length rc, .slice la li.length lc, .slice sa sc.length sc', .slice da dr.length dc⟩))
  obtain ⟨c0, c1, c2, c3, c4, bb⟩ := HB.out _ B0.out
  have BB := hide bb
  clear hI bb gr hp
  go_enter Tryz.func38, Tryz.ntmps38
  go_wp2_with fail
  refine (H1.out _ BB.out).mono ?_
  rintro e w2 ⟨z, rfl, hz, b2⟩
  have HZ := hide hz
  have BD := hide (BB.out.trans (b2.mono BB.out.size))
  clear b2 hz
  go_wp2
  go_ret
  exact ⟨ret_bool HZ.out, BD.out⟩
end Go.Proofs.YthopnliaikkhbaaGreatDoor
/- What the document's Attr answers. -/
set_option linter.unusedVariables false
set_option linter.unusedSimpArgs false
set_option maxRecDepth 4000
namespace Go.Proofs.YthopnliaikkhbaaGreatDoor
open Go.RowKit

set_option maxHeartbeats 4000000 in
theorem rattr_any (p : PV) (hp : CapP p) (s an av : ByteArray) (hv : av.size ≤ 1000000) (w : World) (hI : IsPo w p) :
    Calls Tryz.prog 39 #[poA p, .string s, .agg #[.string an, .string av]] w fun e w' => e = .returned (.bool (attrP p.po s.data.toList an.data.toList av.data.toList)) ∧ Below w.heap.size w w' := by
  rw [find_at]
  have H1 := hide (fun x (b : Below w.heap.size w x) => rfind_any p hp s x (hI.below b))
  have H2 := hide (fun r (hr : r ∈ p.rs) x (b : Below w.heap.size w x) => rin_any an r.at_ (by have := (hp.s.a r hr).1; omega) r.av x ((hI.r.2 r hr).below b))
  have H3 := hide (fun x (b : Below w.heap.size w x) => rin_any an p.li (by have := hp.s.l; omega) p.lv x (hI.l.below b))
  have H4 := hide (fun x (b : Below w.heap.size w x) => rsafe_any av hv p.sc (by have := hp.s.s; omega) p.sv x (hI.s.below b))
  have hrl : p.rs.length ≤ 1000 := hp.s.r
  generalize findO p s.data.toList = V at *
  generalize hP3 : amongL p.li an.data.toList = P3 at *
  generalize safeL av.data.toList p.sc = P4 at *
  clear hP3
  have HB := hide (fun x (b : Below (poW w p).heap.size (poW w p) x) => po_box w p b)
  obtain ⟨rs, li, sc, dr, de, rv, lv, sv, dv⟩ := p
  simp only [] at *
  have gr : IsR w rv rs := hI.r
  have gl : IsW w lv li := hI.l
  have gs : IsW w sv sc := hI.s
  have gd : IsW w dv dr := hI.d
  obtain ⟨ra, rc, rfl⟩ := gr.form
  obtain ⟨la, lc, rfl⟩ := gl.form
  obtain ⟨sa, sc', rfl⟩ := gs.form
  obtain ⟨da, dc, rfl⟩ := gd.form
  clear gl gs gd
  have HAT := hide (fun k r (hk : rs[k]? = some r) => gr.at_ k r hk)
  have HBA := hide (fun x (b : Below ((poW w ⟨rs, li, sc, dr, de, .slice ra rs.length rc, .slice la li.length lc, .slice sa sc.length sc', .slice da dr.length dc⟩).alloc (.cells #[.string an, .string av] 46)).heap.size ((poW w ⟨rs, li, sc, dr, de, .slice ra rs.length rc, .slice la li.length lc, .slice sa sc.length sc', .slice da dr.length dc⟩).alloc (.cells #[.string an, .string av] 46)) x) => at_box w ⟨rs, li, sc, dr, de, .slice ra rs.length rc, .slice la li.length lc, .slice sa sc.length sc', .slice da dr.length dc⟩ an av b)
  have B0 := hide (Below.refl ((poW w ⟨rs, li, sc, dr, de, .slice ra rs.length rc, .slice la li.length lc, .slice sa sc.length sc', .slice da dr.length dc⟩).alloc (.cells #[.string an, .string av] 46)).heap.size ((poW w ⟨rs, li, sc, dr, de, .slice ra rs.length rc, .slice la li.length lc, .slice sa sc.length sc', .slice da dr.length dc⟩).alloc (.cells #[.string an, .string av] 46)))
  obtain ⟨a0, a1, ab⟩ := HBA.out _ B0.out
  obtain ⟨c0, c1, c2, c3, c4, bb⟩ := HB.out _ ab
  have BB := hide bb
  clear ab bb
  clear hI gr hp
  have HQ1 := hide (H1.out _ BB.out)
  cases V with
  | none =>
    have HQ1' : Hid (Calls Tryz.prog 61 #[poA ⟨rs, li, sc, dr, de, .slice ra rs.length rc, .slice la li.length lc, .slice sa sc.length sc', .slice da dr.length dc⟩, .string s] ((poW w ⟨rs, li, sc, dr, de, .slice ra rs.length rc, .slice la li.length lc, .slice sa sc.length sc', .slice da dr.length dc⟩).alloc (.cells #[.string an, .string av] 46)) fun e w' => e = .returned (.int .i64 (-1)) ∧ Hid (Below ((poW w ⟨rs, li, sc, dr, de, .slice ra rs.length rc, .slice la li.length lc, .slice sa sc.length sc', .slice da dr.length dc⟩).alloc (.cells #[.string an, .string av] 46)).heap.size ((poW w ⟨rs, li, sc, dr, de, .slice ra rs.length rc, .slice la li.length lc, .slice sa sc.length sc', .slice da dr.length dc⟩).alloc (.cells #[.string an, .string av] 46)) w')) := hide (HQ1.out.mono fun e w' h => by
      obtain ⟨⟨z, rfl, hz⟩, h2⟩ := h
      rcases hz with ⟨k, r, _, _, h⟩ | ⟨rfl, _⟩
      · cases h
      · exact ⟨rfl, hide h2⟩)
    clear HQ1 H1
    go_enter Tryz.func39, Tryz.ntmps39
    go_wp2_with fail
    refine HQ1'.out.mono ?_
    rintro e w1 ⟨rfl, h1⟩
    have HY := hide h1.out.drew
    clear c0 c1 c2 c3 c4 a0 a1
    go_wp2_with fail
    refine wp_region_held_drew (S := fun W' => Below ((poW w ⟨rs, li, sc, dr, de, .slice ra rs.length rc, .slice la li.length lc, .slice sa sc.length sc', .slice da dr.length dc⟩).alloc (.cells #[.string an, .string av] 46)).heap.size ((poW w ⟨rs, li, sc, dr, de, .slice ra rs.length rc, .slice la li.length lc, .slice sa sc.length sc', .slice da dr.length dc⟩).alloc (.cells #[.string an, .string av] 46)) W') (by kernel_rfl) HY.out (fun hHeld => ?_)
    refine wpAnyH_take (i := 0) (v := .int .i64 (-1)) rfl (by kernel_rfl) (by kernel_rfl) (by kernel_rfl) (fun _ _ _ h => h) (Or.inl ⟨by kernel_rfl, fun _ _ => by go_simp⟩) hHeld ?_
    simp only [Act.put, List.getElem_toArray, List.getElem_cons_zero, List.getElem_cons_succ, List.setIfInBounds_toArray, List.set_cons_zero, List.set_cons_succ]
    refine wpAnyH_take (i := 1) (v := .bool false) rfl (by kernel_rfl) (by kernel_rfl) (by kernel_rfl) (fun _ _ _ h => h) (Or.inl ⟨by kernel_rfl, fun _ _ => by go_simp⟩) hHeld ?_
    simp only [Act.put, List.getElem_toArray, List.getElem_cons_zero, List.getElem_cons_succ, List.setIfInBounds_toArray, List.set_cons_zero, List.set_cons_succ]
    refine wpAnyH_take (i := 2) (v := .bool false) rfl (by kernel_rfl) (by kernel_rfl) (by kernel_rfl) (fun _ _ _ h => h) (Or.inl ⟨by kernel_rfl, fun _ _ => by go_simp⟩) hHeld ?_
    simp only [Act.put, List.getElem_toArray, List.getElem_cons_zero, List.getElem_cons_succ, List.setIfInBounds_toArray, List.set_cons_zero, List.set_cons_succ]
    refine wpAnyH_take (i := 3) (v := undef) rfl (by kernel_rfl) (by kernel_rfl) (by kernel_rfl) (fun _ _ _ h => h) (Or.inr ⟨by kernel_rfl, rfl⟩) hHeld ?_
    simp only [Act.put, List.getElem_toArray, List.getElem_cons_zero, List.getElem_cons_succ, List.setIfInBounds_toArray, List.set_cons_zero, List.set_cons_succ]
    refine wpAnyH_take (i := 4) (v := undef) rfl (by kernel_rfl) (by kernel_rfl) (by kernel_rfl) (fun _ _ _ h => h) (Or.inr ⟨by kernel_rfl, rfl⟩) hHeld ?_
    simp only [Act.put, List.getElem_toArray, List.getElem_cons_zero, List.getElem_cons_succ, List.setIfInBounds_toArray, List.set_cons_zero, List.set_cons_succ]
    refine wpAnyH_take (i := 5) (v := undef) rfl (by kernel_rfl) (by kernel_rfl) (by kernel_rfl) (fun _ _ _ h => h) (Or.inr ⟨by kernel_rfl, rfl⟩) hHeld ?_
    simp only [Act.put, List.getElem_toArray, List.getElem_cons_zero, List.getElem_cons_succ, List.setIfInBounds_toArray, List.set_cons_zero, List.set_cons_succ]
    refine wpAnyH_take (i := 6) (v := undef) rfl (by kernel_rfl) (by kernel_rfl) (by kernel_rfl) (fun _ _ _ h => h) (Or.inr ⟨by kernel_rfl, rfl⟩) hHeld ?_
    simp only [Act.put, List.getElem_toArray, List.getElem_cons_zero, List.getElem_cons_succ, List.setIfInBounds_toArray, List.set_cons_zero, List.set_cons_succ]
    refine wpAnyH_take (i := 7) (v := undef) rfl (by kernel_rfl) (by kernel_rfl) (by kernel_rfl) (fun _ _ _ h => h) (Or.inr ⟨by kernel_rfl, rfl⟩) hHeld ?_
    simp only [Act.put, List.getElem_toArray, List.getElem_cons_zero, List.getElem_cons_succ, List.setIfInBounds_toArray, List.set_cons_zero, List.set_cons_succ]
    refine wpAnyH_take (i := 8) (v := undef) rfl (by kernel_rfl) (by kernel_rfl) (by kernel_rfl) (fun _ _ _ h => h) (Or.inr ⟨by kernel_rfl, rfl⟩) hHeld ?_
    simp only [Act.put, List.getElem_toArray, List.getElem_cons_zero, List.getElem_cons_succ, List.setIfInBounds_toArray, List.set_cons_zero, List.set_cons_succ]
    refine wpAnyH_take (i := 9) (v := undef) rfl (by kernel_rfl) (by kernel_rfl) (by kernel_rfl) (fun _ _ _ h => h) (Or.inr ⟨by kernel_rfl, rfl⟩) hHeld ?_
    simp only [Act.put, List.getElem_toArray, List.getElem_cons_zero, List.getElem_cons_succ, List.setIfInBounds_toArray, List.set_cons_zero, List.set_cons_succ]
    refine wpAnyH_take (i := 10) (v := undef) rfl (by kernel_rfl) (by kernel_rfl) (by kernel_rfl) (fun _ _ _ h => h) (Or.inr ⟨by kernel_rfl, rfl⟩) hHeld ?_
    simp only [Act.put, List.getElem_toArray, List.getElem_cons_zero, List.getElem_cons_succ, List.setIfInBounds_toArray, List.set_cons_zero, List.set_cons_succ]
    refine wpAnyH_take (i := 11) (v := undef) rfl (by kernel_rfl) (by kernel_rfl) (by kernel_rfl) (fun _ _ _ h => h) (Or.inr ⟨by kernel_rfl, rfl⟩) hHeld ?_
    simp only [Act.put, List.getElem_toArray, List.getElem_cons_zero, List.getElem_cons_succ, List.setIfInBounds_toArray, List.set_cons_zero, List.set_cons_succ]
    refine wpAnyH_take (i := 12) (v := .bool false) rfl (by kernel_rfl) (by kernel_rfl) (by kernel_rfl) (fun _ _ _ h => h) (Or.inl ⟨by kernel_rfl, fun _ _ => by go_simp⟩) hHeld ?_
    simp only [Act.put, List.getElem_toArray, List.getElem_cons_zero, List.getElem_cons_succ, List.setIfInBounds_toArray, List.set_cons_zero, List.set_cons_succ]
    refine wpAnyH_take (i := 13) (v := .bool false) rfl (by kernel_rfl) (by kernel_rfl) (by kernel_rfl) (fun _ _ _ h => h) (Or.inl ⟨by kernel_rfl, fun _ _ => by go_simp⟩) hHeld ?_
    simp only [Act.put, List.getElem_toArray, List.getElem_cons_zero, List.getElem_cons_succ, List.setIfInBounds_toArray, List.set_cons_zero, List.set_cons_succ]
    refine wpAnyH_take (i := 14) (v := undef) rfl (by kernel_rfl) (by kernel_rfl) (by kernel_rfl) (fun _ _ _ h => h) (Or.inr ⟨by kernel_rfl, rfl⟩) hHeld ?_
    simp only [Act.put, List.getElem_toArray, List.getElem_cons_zero, List.getElem_cons_succ, List.setIfInBounds_toArray, List.set_cons_zero, List.set_cons_succ]
    refine wpAnyH_take (i := 15) (v := undef) rfl (by kernel_rfl) (by kernel_rfl) (by kernel_rfl) (fun _ _ _ h => h) (Or.inr ⟨by kernel_rfl, rfl⟩) hHeld ?_
    simp only [Act.put, List.getElem_toArray, List.getElem_cons_zero, List.getElem_cons_succ, List.setIfInBounds_toArray, List.set_cons_zero, List.set_cons_succ]
    refine wpAnyH_take (i := 16) (v := undef) rfl (by kernel_rfl) (by kernel_rfl) (by kernel_rfl) (fun _ _ _ h => h) (Or.inr ⟨by kernel_rfl, rfl⟩) hHeld ?_
    simp only [Act.put, List.getElem_toArray, List.getElem_cons_zero, List.getElem_cons_succ, List.setIfInBounds_toArray, List.set_cons_zero, List.set_cons_succ]
    refine wpAnyH_take (i := 17) (v := undef) rfl (by kernel_rfl) (by kernel_rfl) (by kernel_rfl) (fun _ _ _ h => h) (Or.inr ⟨by kernel_rfl, rfl⟩) hHeld ?_
    simp only [Act.put, List.getElem_toArray, List.getElem_cons_zero, List.getElem_cons_succ, List.setIfInBounds_toArray, List.set_cons_zero, List.set_cons_succ]
    refine wpAnyH_take (i := 18) (v := undef) rfl (by kernel_rfl) (by kernel_rfl) (by kernel_rfl) (fun _ _ _ h => h) (Or.inr ⟨by kernel_rfl, rfl⟩) hHeld ?_
    simp only [Act.put, List.getElem_toArray, List.getElem_cons_zero, List.getElem_cons_succ, List.setIfInBounds_toArray, List.set_cons_zero, List.set_cons_succ]
    refine wpAnyH_take (i := 19) (v := undef) rfl (by kernel_rfl) (by kernel_rfl) (by kernel_rfl) (fun _ _ _ h => h) (Or.inr ⟨by kernel_rfl, rfl⟩) hHeld ?_
    simp only [Act.put, List.getElem_toArray, List.getElem_cons_zero, List.getElem_cons_succ, List.setIfInBounds_toArray, List.set_cons_zero, List.set_cons_succ]
    refine wpAnyH_take (i := 20) (v := undef) rfl (by kernel_rfl) (by kernel_rfl) (by kernel_rfl) (fun _ _ _ h => h) (Or.inr ⟨by kernel_rfl, rfl⟩) hHeld ?_
    simp only [Act.put, List.getElem_toArray, List.getElem_cons_zero, List.getElem_cons_succ, List.setIfInBounds_toArray, List.set_cons_zero, List.set_cons_succ]
    refine wpAnyH_take (i := 21) (v := undef) rfl (by kernel_rfl) (by kernel_rfl) (by kernel_rfl) (fun _ _ _ h => h) (Or.inr ⟨by kernel_rfl, rfl⟩) hHeld ?_
    simp only [Act.put, List.getElem_toArray, List.getElem_cons_zero, List.getElem_cons_succ, List.setIfInBounds_toArray, List.set_cons_zero, List.set_cons_succ]
    refine wpAnyH_take (i := 22) (v := undef) rfl (by kernel_rfl) (by kernel_rfl) (by kernel_rfl) (fun _ _ _ h => h) (Or.inr ⟨by kernel_rfl, rfl⟩) hHeld ?_
    simp only [Act.put, List.getElem_toArray, List.getElem_cons_zero, List.getElem_cons_succ, List.setIfInBounds_toArray, List.set_cons_zero, List.set_cons_succ]
    refine wpAnyH_take (i := 23) (v := undef) rfl (by kernel_rfl) (by kernel_rfl) (by kernel_rfl) (fun _ _ _ h => h) (Or.inr ⟨by kernel_rfl, rfl⟩) hHeld ?_
    simp only [Act.put, List.getElem_toArray, List.getElem_cons_zero, List.getElem_cons_succ, List.setIfInBounds_toArray, List.set_cons_zero, List.set_cons_succ]
    refine wpAnyH_take (i := 24) (v := undef) rfl (by kernel_rfl) (by kernel_rfl) (by kernel_rfl) (fun _ _ _ h => h) (Or.inr ⟨by kernel_rfl, rfl⟩) hHeld ?_
    simp only [Act.put, List.getElem_toArray, List.getElem_cons_zero, List.getElem_cons_succ, List.setIfInBounds_toArray, List.set_cons_zero, List.set_cons_succ]
    refine wpAnyH_take (i := 25) (v := undef) rfl (by kernel_rfl) (by kernel_rfl) (by kernel_rfl) (fun _ _ _ h => h) (Or.inr ⟨by kernel_rfl, rfl⟩) hHeld ?_
    simp only [Act.put, List.getElem_toArray, List.getElem_cons_zero, List.getElem_cons_succ, List.setIfInBounds_toArray, List.set_cons_zero, List.set_cons_succ]
    refine wpAnyH_take (i := 26) (v := undef) rfl (by kernel_rfl) (by kernel_rfl) (by kernel_rfl) (fun _ _ _ h => h) (Or.inr ⟨by kernel_rfl, rfl⟩) hHeld ?_
    simp only [Act.put, List.getElem_toArray, List.getElem_cons_zero, List.getElem_cons_succ, List.setIfInBounds_toArray, List.set_cons_zero, List.set_cons_succ]
    refine wpAnyH_take (i := 27) (v := .bool false) rfl (by kernel_rfl) (by kernel_rfl) (by kernel_rfl) (fun _ _ _ h => h) (Or.inl ⟨by kernel_rfl, fun _ _ => by go_simp⟩) hHeld ?_
    simp only [Act.put, List.getElem_toArray, List.getElem_cons_zero, List.getElem_cons_succ, List.setIfInBounds_toArray, List.set_cons_zero, List.set_cons_succ]
    refine wpAnyH_take (i := 28) (v := .bool false) rfl (by kernel_rfl) (by kernel_rfl) (by kernel_rfl) (fun _ _ _ h => h) (Or.inl ⟨by kernel_rfl, fun _ _ => by go_simp⟩) hHeld ?_
    simp only [Act.put, List.getElem_toArray, List.getElem_cons_zero, List.getElem_cons_succ, List.setIfInBounds_toArray, List.set_cons_zero, List.set_cons_succ]
    refine wpAnyH_done (by kernel_rfl) ?_ _
    have HZ := hide (HB.out _ (HBA.out _ hHeld).2.2).2.2.2.2.2
    clear hHeld
    go_wp2
    go_ret
    exact ⟨by simp, HZ.out⟩
  | some r =>
    have HQ1' : Hid (Calls Tryz.prog 61 #[poA ⟨rs, li, sc, dr, de, .slice ra rs.length rc, .slice la li.length lc, .slice sa sc.length sc', .slice da dr.length dc⟩, .string s] ((poW w ⟨rs, li, sc, dr, de, .slice ra rs.length rc, .slice la li.length lc, .slice sa sc.length sc', .slice da dr.length dc⟩).alloc (.cells #[.string an, .string av] 46)) fun e w' => ∃ k : Nat, e = .returned (.int .i64 (k : Int)) ∧ Hid (rs[k]? = some r) ∧ Hid (Below ((poW w ⟨rs, li, sc, dr, de, .slice ra rs.length rc, .slice la li.length lc, .slice sa sc.length sc', .slice da dr.length dc⟩).alloc (.cells #[.string an, .string av] 46)).heap.size ((poW w ⟨rs, li, sc, dr, de, .slice ra rs.length rc, .slice la li.length lc, .slice sa sc.length sc', .slice da dr.length dc⟩).alloc (.cells #[.string an, .string av] 46)) w')) := hide (HQ1.out.mono fun e w' h => by
      obtain ⟨⟨z, rfl, hz⟩, h2⟩ := h
      rcases hz with ⟨k, r', rfl, h3, h⟩ | ⟨_, h⟩
      · obtain rfl := Option.some.inj h
        exact ⟨k, rfl, hide h3, hide h2⟩
      · cases h)
    clear HQ1 H1
    have H2r0 := hide (fun hr => H2.out r hr)
    simp only []
    generalize amongL r.at_ an.data.toList = P2 at *
    clear H2
    go_enter Tryz.func39, Tryz.ntmps39
    go_wp2_with fail
    refine HQ1'.out.mono ?_
    rintro e w1 ⟨k, rfl, hk, h1⟩
    have HY := hide h1.out.drew
    have H2r := hide (H2r0.out (List.mem_of_getElem? hk.out))
    obtain ⟨⟨b, o, rfl, q⟩, hw⟩ := HAT.out k r hk.out
    have hkl : k < rs.length := (List.getElem?_eq_some_iff.1 hk.out).1
    have hkl2 : (k : Int) < rs.length := by omega
    have hk0 : (0 : Int) ≤ k := by omega
    have HQ := hide q
    obtain ⟨xa, xc, hxf⟩ := hw.form
    clear H2r0
    obtain ⟨rn, rat, rav⟩ := r
    simp only [] at hxf H2r HQ
    subst hxf
    generalize rat.length = rl at *
    clear c0 c1 c2 c3 c4 a0 a1 q hw hk hrl
    go_wp2_with fail
    cases P2 with
    | false =>
      refine wp_region_held_drew (S := fun W' => Below ((poW w ⟨rs, li, sc, dr, de, .slice (some ⟨b, o, none⟩) rs.length rc, .slice la li.length lc, .slice sa sc.length sc', .slice da dr.length dc⟩).alloc (.cells #[.string an, .string av] 46)).heap.size ((poW w ⟨rs, li, sc, dr, de, .slice (some ⟨b, o, none⟩) rs.length rc, .slice la li.length lc, .slice sa sc.length sc', .slice da dr.length dc⟩).alloc (.cells #[.string an, .string av] 46)) W') (by kernel_rfl) HY.out (fun hHeld => ?_)
      refine wpAnyH_take (i := 0) (v := .int .i64 (k : Int)) rfl (by kernel_rfl) (by kernel_rfl) (by kernel_rfl) (fun _ _ _ h => h) (Or.inl ⟨by kernel_rfl, fun _ _ => by go_simp⟩) hHeld ?_
      simp only [Act.put, List.getElem_toArray, List.getElem_cons_zero, List.getElem_cons_succ, List.setIfInBounds_toArray, List.set_cons_zero, List.set_cons_succ]
      refine wpAnyH_take (i := 1) (v := .bool true) rfl (by kernel_rfl) (by kernel_rfl) (by kernel_rfl) (fun _ _ _ h => h) (Or.inl ⟨by kernel_rfl, fun _ _ => by go_simp⟩) hHeld ?_
      simp only [Act.put, List.getElem_toArray, List.getElem_cons_zero, List.getElem_cons_succ, List.setIfInBounds_toArray, List.set_cons_zero, List.set_cons_succ]
      refine wpAnyH_take (i := 2) (v := .bool true) rfl (by kernel_rfl) (by kernel_rfl) (by kernel_rfl) (fun _ _ _ h => h) (Or.inl ⟨by kernel_rfl, fun _ _ => by go_simp⟩) hHeld ?_
      simp only [Act.put, List.getElem_toArray, List.getElem_cons_zero, List.getElem_cons_succ, List.setIfInBounds_toArray, List.set_cons_zero, List.set_cons_succ]
      refine wpAnyH_take (i := 3) (v := ?_) rfl (by kernel_rfl) (by kernel_rfl) (by kernel_rfl) (fun _ _ _ h => h) (Or.inl ⟨by kernel_rfl, ?_⟩) hHeld ?_
      rotate_left
      · intro W hSw
        clear hSw
        go_simp <;> with_reducible rfl
      simp only [Act.put, List.getElem_toArray, List.getElem_cons_zero, List.getElem_cons_succ, List.setIfInBounds_toArray, List.set_cons_zero, List.set_cons_succ]
      refine wpAnyH_take (i := 4) (v := ?_) rfl (by kernel_rfl) (by kernel_rfl) (by kernel_rfl) (fun _ _ _ h => h) (Or.inl ⟨by kernel_rfl, ?_⟩) hHeld ?_
      rotate_left
      · intro W hSw
        have c0 := (HB.out _ (HBA.out _ hSw).2.2).1
        clear hSw
        go_simp <;> with_reducible rfl
      simp only [Act.put, List.getElem_toArray, List.getElem_cons_zero, List.getElem_cons_succ, List.setIfInBounds_toArray, List.set_cons_zero, List.set_cons_succ]
      refine wpAnyH_take (i := 5) (v := ?_) rfl (by kernel_rfl) (by kernel_rfl) (by kernel_rfl) (fun _ _ _ h => h) (Or.inl ⟨by kernel_rfl, ?_⟩) hHeld ?_
      rotate_left
      · intro W hSw
        clear hSw
        go_simp <;> with_reducible rfl
      simp only [Act.put, List.getElem_toArray, List.getElem_cons_zero, List.getElem_cons_succ, List.setIfInBounds_toArray, List.set_cons_zero, List.set_cons_succ]
      refine wpAnyH_take (i := 6) (v := ?_) rfl (by kernel_rfl) (by kernel_rfl) (by kernel_rfl) (fun _ _ _ h => h) (Or.inl ⟨by kernel_rfl, ?_⟩) hHeld ?_
      rotate_left
      · intro W hSw
        clear hSw
        go_simp <;> with_reducible rfl
      simp only [Act.put, List.getElem_toArray, List.getElem_cons_zero, List.getElem_cons_succ, List.setIfInBounds_toArray, List.set_cons_zero, List.set_cons_succ]
      refine wpAnyH_take (i := 7) (v := ?_) rfl (by kernel_rfl) (by kernel_rfl) (by kernel_rfl) (fun _ _ _ h => h) (Or.inl ⟨by kernel_rfl, ?_⟩) hHeld ?_
      rotate_left
      · intro W hSw
        clear hSw
        go_simp <;> with_reducible rfl
      simp only [Act.put, List.getElem_toArray, List.getElem_cons_zero, List.getElem_cons_succ, List.setIfInBounds_toArray, List.set_cons_zero, List.set_cons_succ]
      refine wpAnyH_take (i := 8) (v := ?_) rfl (by kernel_rfl) (by kernel_rfl) (by kernel_rfl) (fun _ _ _ h => h) (Or.inl ⟨by kernel_rfl, ?_⟩) hHeld ?_
      rotate_left
      · intro W hSw
        obtain ⟨d0, d1⟩ := HQ.out _ (HB.out _ (HBA.out _ hSw).2.2).2.2.2.2.2
        clear hSw
        go_simp <;> with_reducible rfl
      simp only [Act.put, List.getElem_toArray, List.getElem_cons_zero, List.getElem_cons_succ, List.setIfInBounds_toArray, List.set_cons_zero, List.set_cons_succ]
      refine wpAnyH_take (i := 9) (v := ?_) rfl (by kernel_rfl) (by kernel_rfl) (by kernel_rfl) (fun _ _ _ h => h) (Or.inl ⟨by kernel_rfl, ?_⟩) hHeld ?_
      rotate_left
      · intro W hSw
        clear hSw
        go_simp <;> with_reducible rfl
      simp only [Act.put, List.getElem_toArray, List.getElem_cons_zero, List.getElem_cons_succ, List.setIfInBounds_toArray, List.set_cons_zero, List.set_cons_succ]
      refine wpAnyH_take (i := 10) (v := ?_) rfl (by kernel_rfl) (by kernel_rfl) (by kernel_rfl) (fun _ _ _ h => h) (Or.inl ⟨by kernel_rfl, ?_⟩) hHeld ?_
      rotate_left
      · intro W hSw
        have a0 := (HBA.out _ hSw).1
        clear hSw
        go_simp <;> with_reducible rfl
      simp only [Act.put, List.getElem_toArray, List.getElem_cons_zero, List.getElem_cons_succ, List.setIfInBounds_toArray, List.set_cons_zero, List.set_cons_succ]
      have BD := hide (HB.out _ (HBA.out _ hHeld).2.2).2.2.2.2.2
      refine wpAnyH_ready (rs := [11]) (by kernel_rfl) (by simp) ?_
      refine AllReadyH.cons rfl (fun K hK => ?_) AllReadyH.nil
      go_simp
      go_wp2_with (first | (go_at_call 35; refine (H2r.out _ BD.out).mono ?_; rintro e x2 ⟨rfl, rfl⟩))
      refine hK.out _ _ ?_ (fun hHeld => ?_)
      · exact hHeld
      clear hK K
      try simp only [Act.put, List.getElem_toArray, List.getElem_cons_zero, List.getElem_cons_succ, List.setIfInBounds_toArray, List.set_cons_zero, List.set_cons_succ]
      clear BD
      try clear b9
      refine wpAnyH_take (i := 12) (v := .bool false) rfl (by kernel_rfl) (by kernel_rfl) (by kernel_rfl) (fun _ _ _ h => h) (Or.inl ⟨by kernel_rfl, fun _ _ => by go_simp⟩) hHeld ?_
      simp only [Act.put, List.getElem_toArray, List.getElem_cons_zero, List.getElem_cons_succ, List.setIfInBounds_toArray, List.set_cons_zero, List.set_cons_succ]
      refine wpAnyH_take (i := 13) (v := .bool false) rfl (by kernel_rfl) (by kernel_rfl) (by kernel_rfl) (fun _ _ _ h => h) (Or.inl ⟨by kernel_rfl, fun _ _ => by go_simp⟩) hHeld ?_
      simp only [Act.put, List.getElem_toArray, List.getElem_cons_zero, List.getElem_cons_succ, List.setIfInBounds_toArray, List.set_cons_zero, List.set_cons_succ]
      refine wpAnyH_take (i := 14) (v := undef) rfl (by kernel_rfl) (by kernel_rfl) (by kernel_rfl) (fun _ _ _ h => h) (Or.inr ⟨by kernel_rfl, rfl⟩) hHeld ?_
      simp only [Act.put, List.getElem_toArray, List.getElem_cons_zero, List.getElem_cons_succ, List.setIfInBounds_toArray, List.set_cons_zero, List.set_cons_succ]
      refine wpAnyH_take (i := 15) (v := undef) rfl (by kernel_rfl) (by kernel_rfl) (by kernel_rfl) (fun _ _ _ h => h) (Or.inr ⟨by kernel_rfl, rfl⟩) hHeld ?_
      simp only [Act.put, List.getElem_toArray, List.getElem_cons_zero, List.getElem_cons_succ, List.setIfInBounds_toArray, List.set_cons_zero, List.set_cons_succ]
      refine wpAnyH_take (i := 16) (v := undef) rfl (by kernel_rfl) (by kernel_rfl) (by kernel_rfl) (fun _ _ _ h => h) (Or.inr ⟨by kernel_rfl, rfl⟩) hHeld ?_
      simp only [Act.put, List.getElem_toArray, List.getElem_cons_zero, List.getElem_cons_succ, List.setIfInBounds_toArray, List.set_cons_zero, List.set_cons_succ]
      refine wpAnyH_take (i := 17) (v := undef) rfl (by kernel_rfl) (by kernel_rfl) (by kernel_rfl) (fun _ _ _ h => h) (Or.inr ⟨by kernel_rfl, rfl⟩) hHeld ?_
      simp only [Act.put, List.getElem_toArray, List.getElem_cons_zero, List.getElem_cons_succ, List.setIfInBounds_toArray, List.set_cons_zero, List.set_cons_succ]
      refine wpAnyH_take (i := 18) (v := undef) rfl (by kernel_rfl) (by kernel_rfl) (by kernel_rfl) (fun _ _ _ h => h) (Or.inr ⟨by kernel_rfl, rfl⟩) hHeld ?_
      simp only [Act.put, List.getElem_toArray, List.getElem_cons_zero, List.getElem_cons_succ, List.setIfInBounds_toArray, List.set_cons_zero, List.set_cons_succ]
      refine wpAnyH_take (i := 19) (v := undef) rfl (by kernel_rfl) (by kernel_rfl) (by kernel_rfl) (fun _ _ _ h => h) (Or.inr ⟨by kernel_rfl, rfl⟩) hHeld ?_
      simp only [Act.put, List.getElem_toArray, List.getElem_cons_zero, List.getElem_cons_succ, List.setIfInBounds_toArray, List.set_cons_zero, List.set_cons_succ]
      refine wpAnyH_take (i := 20) (v := undef) rfl (by kernel_rfl) (by kernel_rfl) (by kernel_rfl) (fun _ _ _ h => h) (Or.inr ⟨by kernel_rfl, rfl⟩) hHeld ?_
      simp only [Act.put, List.getElem_toArray, List.getElem_cons_zero, List.getElem_cons_succ, List.setIfInBounds_toArray, List.set_cons_zero, List.set_cons_succ]
      refine wpAnyH_take (i := 21) (v := undef) rfl (by kernel_rfl) (by kernel_rfl) (by kernel_rfl) (fun _ _ _ h => h) (Or.inr ⟨by kernel_rfl, rfl⟩) hHeld ?_
      simp only [Act.put, List.getElem_toArray, List.getElem_cons_zero, List.getElem_cons_succ, List.setIfInBounds_toArray, List.set_cons_zero, List.set_cons_succ]
      refine wpAnyH_take (i := 22) (v := undef) rfl (by kernel_rfl) (by kernel_rfl) (by kernel_rfl) (fun _ _ _ h => h) (Or.inr ⟨by kernel_rfl, rfl⟩) hHeld ?_
      simp only [Act.put, List.getElem_toArray, List.getElem_cons_zero, List.getElem_cons_succ, List.setIfInBounds_toArray, List.set_cons_zero, List.set_cons_succ]
      refine wpAnyH_take (i := 23) (v := undef) rfl (by kernel_rfl) (by kernel_rfl) (by kernel_rfl) (fun _ _ _ h => h) (Or.inr ⟨by kernel_rfl, rfl⟩) hHeld ?_
      simp only [Act.put, List.getElem_toArray, List.getElem_cons_zero, List.getElem_cons_succ, List.setIfInBounds_toArray, List.set_cons_zero, List.set_cons_succ]
      refine wpAnyH_take (i := 24) (v := undef) rfl (by kernel_rfl) (by kernel_rfl) (by kernel_rfl) (fun _ _ _ h => h) (Or.inr ⟨by kernel_rfl, rfl⟩) hHeld ?_
      simp only [Act.put, List.getElem_toArray, List.getElem_cons_zero, List.getElem_cons_succ, List.setIfInBounds_toArray, List.set_cons_zero, List.set_cons_succ]
      refine wpAnyH_take (i := 25) (v := undef) rfl (by kernel_rfl) (by kernel_rfl) (by kernel_rfl) (fun _ _ _ h => h) (Or.inr ⟨by kernel_rfl, rfl⟩) hHeld ?_
      simp only [Act.put, List.getElem_toArray, List.getElem_cons_zero, List.getElem_cons_succ, List.setIfInBounds_toArray, List.set_cons_zero, List.set_cons_succ]
      refine wpAnyH_take (i := 26) (v := undef) rfl (by kernel_rfl) (by kernel_rfl) (by kernel_rfl) (fun _ _ _ h => h) (Or.inr ⟨by kernel_rfl, rfl⟩) hHeld ?_
      simp only [Act.put, List.getElem_toArray, List.getElem_cons_zero, List.getElem_cons_succ, List.setIfInBounds_toArray, List.set_cons_zero, List.set_cons_succ]
      refine wpAnyH_take (i := 27) (v := .bool false) rfl (by kernel_rfl) (by kernel_rfl) (by kernel_rfl) (fun _ _ _ h => h) (Or.inl ⟨by kernel_rfl, fun _ _ => by go_simp⟩) hHeld ?_
      simp only [Act.put, List.getElem_toArray, List.getElem_cons_zero, List.getElem_cons_succ, List.setIfInBounds_toArray, List.set_cons_zero, List.set_cons_succ]
      refine wpAnyH_take (i := 28) (v := .bool false) rfl (by kernel_rfl) (by kernel_rfl) (by kernel_rfl) (fun _ _ _ h => h) (Or.inl ⟨by kernel_rfl, fun _ _ => by go_simp⟩) hHeld ?_
      simp only [Act.put, List.getElem_toArray, List.getElem_cons_zero, List.getElem_cons_succ, List.setIfInBounds_toArray, List.set_cons_zero, List.set_cons_succ]
      refine wpAnyH_done (by kernel_rfl) ?_ _
      have HZ := hide (HB.out _ (HBA.out _ hHeld).2.2).2.2.2.2.2
      clear hHeld
      go_wp2
      go_ret
      exact ⟨by simp, HZ.out⟩
    | true =>
      cases P3 with
      | false =>
        refine wp_region_held_drew (S := fun W' => Below ((poW w ⟨rs, li, sc, dr, de, .slice (some ⟨b, o, none⟩) rs.length rc, .slice la li.length lc, .slice sa sc.length sc', .slice da dr.length dc⟩).alloc (.cells #[.string an, .string av] 46)).heap.size ((poW w ⟨rs, li, sc, dr, de, .slice (some ⟨b, o, none⟩) rs.length rc, .slice la li.length lc, .slice sa sc.length sc', .slice da dr.length dc⟩).alloc (.cells #[.string an, .string av] 46)) W') (by kernel_rfl) HY.out (fun hHeld => ?_)
        refine wpAnyH_take (i := 0) (v := .int .i64 (k : Int)) rfl (by kernel_rfl) (by kernel_rfl) (by kernel_rfl) (fun _ _ _ h => h) (Or.inl ⟨by kernel_rfl, fun _ _ => by go_simp⟩) hHeld ?_
        simp only [Act.put, List.getElem_toArray, List.getElem_cons_zero, List.getElem_cons_succ, List.setIfInBounds_toArray, List.set_cons_zero, List.set_cons_succ]
        refine wpAnyH_take (i := 1) (v := .bool true) rfl (by kernel_rfl) (by kernel_rfl) (by kernel_rfl) (fun _ _ _ h => h) (Or.inl ⟨by kernel_rfl, fun _ _ => by go_simp⟩) hHeld ?_
        simp only [Act.put, List.getElem_toArray, List.getElem_cons_zero, List.getElem_cons_succ, List.setIfInBounds_toArray, List.set_cons_zero, List.set_cons_succ]
        refine wpAnyH_take (i := 2) (v := .bool true) rfl (by kernel_rfl) (by kernel_rfl) (by kernel_rfl) (fun _ _ _ h => h) (Or.inl ⟨by kernel_rfl, fun _ _ => by go_simp⟩) hHeld ?_
        simp only [Act.put, List.getElem_toArray, List.getElem_cons_zero, List.getElem_cons_succ, List.setIfInBounds_toArray, List.set_cons_zero, List.set_cons_succ]
        refine wpAnyH_take (i := 3) (v := ?_) rfl (by kernel_rfl) (by kernel_rfl) (by kernel_rfl) (fun _ _ _ h => h) (Or.inl ⟨by kernel_rfl, ?_⟩) hHeld ?_
        rotate_left
        · intro W hSw
          clear hSw
          go_simp <;> with_reducible rfl
        simp only [Act.put, List.getElem_toArray, List.getElem_cons_zero, List.getElem_cons_succ, List.setIfInBounds_toArray, List.set_cons_zero, List.set_cons_succ]
        refine wpAnyH_take (i := 4) (v := ?_) rfl (by kernel_rfl) (by kernel_rfl) (by kernel_rfl) (fun _ _ _ h => h) (Or.inl ⟨by kernel_rfl, ?_⟩) hHeld ?_
        rotate_left
        · intro W hSw
          have c0 := (HB.out _ (HBA.out _ hSw).2.2).1
          clear hSw
          go_simp <;> with_reducible rfl
        simp only [Act.put, List.getElem_toArray, List.getElem_cons_zero, List.getElem_cons_succ, List.setIfInBounds_toArray, List.set_cons_zero, List.set_cons_succ]
        refine wpAnyH_take (i := 5) (v := ?_) rfl (by kernel_rfl) (by kernel_rfl) (by kernel_rfl) (fun _ _ _ h => h) (Or.inl ⟨by kernel_rfl, ?_⟩) hHeld ?_
        rotate_left
        · intro W hSw
          clear hSw
          go_simp <;> with_reducible rfl
        simp only [Act.put, List.getElem_toArray, List.getElem_cons_zero, List.getElem_cons_succ, List.setIfInBounds_toArray, List.set_cons_zero, List.set_cons_succ]
        refine wpAnyH_take (i := 6) (v := ?_) rfl (by kernel_rfl) (by kernel_rfl) (by kernel_rfl) (fun _ _ _ h => h) (Or.inl ⟨by kernel_rfl, ?_⟩) hHeld ?_
        rotate_left
        · intro W hSw
          clear hSw
          go_simp <;> with_reducible rfl
        simp only [Act.put, List.getElem_toArray, List.getElem_cons_zero, List.getElem_cons_succ, List.setIfInBounds_toArray, List.set_cons_zero, List.set_cons_succ]
        refine wpAnyH_take (i := 7) (v := ?_) rfl (by kernel_rfl) (by kernel_rfl) (by kernel_rfl) (fun _ _ _ h => h) (Or.inl ⟨by kernel_rfl, ?_⟩) hHeld ?_
        rotate_left
        · intro W hSw
          clear hSw
          go_simp <;> with_reducible rfl
        simp only [Act.put, List.getElem_toArray, List.getElem_cons_zero, List.getElem_cons_succ, List.setIfInBounds_toArray, List.set_cons_zero, List.set_cons_succ]
        refine wpAnyH_take (i := 8) (v := ?_) rfl (by kernel_rfl) (by kernel_rfl) (by kernel_rfl) (fun _ _ _ h => h) (Or.inl ⟨by kernel_rfl, ?_⟩) hHeld ?_
        rotate_left
        · intro W hSw
          obtain ⟨d0, d1⟩ := HQ.out _ (HB.out _ (HBA.out _ hSw).2.2).2.2.2.2.2
          clear hSw
          go_simp <;> with_reducible rfl
        simp only [Act.put, List.getElem_toArray, List.getElem_cons_zero, List.getElem_cons_succ, List.setIfInBounds_toArray, List.set_cons_zero, List.set_cons_succ]
        refine wpAnyH_take (i := 9) (v := ?_) rfl (by kernel_rfl) (by kernel_rfl) (by kernel_rfl) (fun _ _ _ h => h) (Or.inl ⟨by kernel_rfl, ?_⟩) hHeld ?_
        rotate_left
        · intro W hSw
          clear hSw
          go_simp <;> with_reducible rfl
        simp only [Act.put, List.getElem_toArray, List.getElem_cons_zero, List.getElem_cons_succ, List.setIfInBounds_toArray, List.set_cons_zero, List.set_cons_succ]
        refine wpAnyH_take (i := 10) (v := ?_) rfl (by kernel_rfl) (by kernel_rfl) (by kernel_rfl) (fun _ _ _ h => h) (Or.inl ⟨by kernel_rfl, ?_⟩) hHeld ?_
        rotate_left
        · intro W hSw
          have a0 := (HBA.out _ hSw).1
          clear hSw
          go_simp <;> with_reducible rfl
        simp only [Act.put, List.getElem_toArray, List.getElem_cons_zero, List.getElem_cons_succ, List.setIfInBounds_toArray, List.set_cons_zero, List.set_cons_succ]
        have BD := hide (HB.out _ (HBA.out _ hHeld).2.2).2.2.2.2.2
        refine wpAnyH_ready (rs := [11]) (by kernel_rfl) (by simp) ?_
        refine AllReadyH.cons rfl (fun K hK => ?_) AllReadyH.nil
        go_simp
        go_wp2_with (first | (go_at_call 35; refine (H2r.out _ BD.out).mono ?_; rintro e x2 ⟨rfl, rfl⟩))
        refine hK.out _ _ ?_ (fun hHeld => ?_)
        · exact hHeld
        clear hK K
        try simp only [Act.put, List.getElem_toArray, List.getElem_cons_zero, List.getElem_cons_succ, List.setIfInBounds_toArray, List.set_cons_zero, List.set_cons_succ]
        clear BD
        try clear b9
        refine wpAnyH_take (i := 12) (v := .bool true) rfl (by kernel_rfl) (by kernel_rfl) (by kernel_rfl) (fun _ _ _ h => h) (Or.inl ⟨by kernel_rfl, fun _ _ => by go_simp⟩) hHeld ?_
        simp only [Act.put, List.getElem_toArray, List.getElem_cons_zero, List.getElem_cons_succ, List.setIfInBounds_toArray, List.set_cons_zero, List.set_cons_succ]
        refine wpAnyH_take (i := 13) (v := .bool true) rfl (by kernel_rfl) (by kernel_rfl) (by kernel_rfl) (fun _ _ _ h => h) (Or.inl ⟨by kernel_rfl, fun _ _ => by go_simp⟩) hHeld ?_
        simp only [Act.put, List.getElem_toArray, List.getElem_cons_zero, List.getElem_cons_succ, List.setIfInBounds_toArray, List.set_cons_zero, List.set_cons_succ]
        refine wpAnyH_take (i := 14) (v := ?_) rfl (by kernel_rfl) (by kernel_rfl) (by kernel_rfl) (fun _ _ _ h => h) (Or.inl ⟨by kernel_rfl, ?_⟩) hHeld ?_
        rotate_left
        · intro W hSw
          clear hSw
          go_simp <;> with_reducible rfl
        simp only [Act.put, List.getElem_toArray, List.getElem_cons_zero, List.getElem_cons_succ, List.setIfInBounds_toArray, List.set_cons_zero, List.set_cons_succ]
        refine wpAnyH_take (i := 15) (v := ?_) rfl (by kernel_rfl) (by kernel_rfl) (by kernel_rfl) (fun _ _ _ h => h) (Or.inl ⟨by kernel_rfl, ?_⟩) hHeld ?_
        rotate_left
        · intro W hSw
          have c1 := (HB.out _ (HBA.out _ hSw).2.2).2.1
          clear hSw
          go_simp <;> with_reducible rfl
        simp only [Act.put, List.getElem_toArray, List.getElem_cons_zero, List.getElem_cons_succ, List.setIfInBounds_toArray, List.set_cons_zero, List.set_cons_succ]
        refine wpAnyH_take (i := 16) (v := ?_) rfl (by kernel_rfl) (by kernel_rfl) (by kernel_rfl) (fun _ _ _ h => h) (Or.inl ⟨by kernel_rfl, ?_⟩) hHeld ?_
        rotate_left
        · intro W hSw
          clear hSw
          go_simp <;> with_reducible rfl
        simp only [Act.put, List.getElem_toArray, List.getElem_cons_zero, List.getElem_cons_succ, List.setIfInBounds_toArray, List.set_cons_zero, List.set_cons_succ]
        refine wpAnyH_take (i := 17) (v := ?_) rfl (by kernel_rfl) (by kernel_rfl) (by kernel_rfl) (fun _ _ _ h => h) (Or.inl ⟨by kernel_rfl, ?_⟩) hHeld ?_
        rotate_left
        · intro W hSw
          have a0 := (HBA.out _ hSw).1
          clear hSw
          go_simp <;> with_reducible rfl
        simp only [Act.put, List.getElem_toArray, List.getElem_cons_zero, List.getElem_cons_succ, List.setIfInBounds_toArray, List.set_cons_zero, List.set_cons_succ]
        have BD := hide (HB.out _ (HBA.out _ hHeld).2.2).2.2.2.2.2
        refine wpAnyH_ready (rs := [18]) (by kernel_rfl) (by simp) ?_
        refine AllReadyH.cons rfl (fun K hK => ?_) AllReadyH.nil
        go_simp
        go_wp2_with (first | (go_at_call 35; refine (H3.out _ BD.out).mono ?_; rintro e x2 ⟨rfl, rfl⟩))
        refine hK.out _ _ ?_ (fun hHeld => ?_)
        · exact hHeld
        clear hK K
        try simp only [Act.put, List.getElem_toArray, List.getElem_cons_zero, List.getElem_cons_succ, List.setIfInBounds_toArray, List.set_cons_zero, List.set_cons_succ]
        clear BD
        try clear b9
        refine wpAnyH_take (i := 19) (v := .bool true) rfl (by kernel_rfl) (by kernel_rfl) (by kernel_rfl) (fun _ _ _ h => h) (Or.inl ⟨by kernel_rfl, fun _ _ => by go_simp⟩) hHeld ?_
        simp only [Act.put, List.getElem_toArray, List.getElem_cons_zero, List.getElem_cons_succ, List.setIfInBounds_toArray, List.set_cons_zero, List.set_cons_succ]
        refine wpAnyH_take (i := 20) (v := .bool true) rfl (by kernel_rfl) (by kernel_rfl) (by kernel_rfl) (fun _ _ _ h => h) (Or.inl ⟨by kernel_rfl, fun _ _ => by go_simp⟩) hHeld ?_
        simp only [Act.put, List.getElem_toArray, List.getElem_cons_zero, List.getElem_cons_succ, List.setIfInBounds_toArray, List.set_cons_zero, List.set_cons_succ]
        refine wpAnyH_take (i := 21) (v := undef) rfl (by kernel_rfl) (by kernel_rfl) (by kernel_rfl) (fun _ _ _ h => h) (Or.inr ⟨by kernel_rfl, rfl⟩) hHeld ?_
        simp only [Act.put, List.getElem_toArray, List.getElem_cons_zero, List.getElem_cons_succ, List.setIfInBounds_toArray, List.set_cons_zero, List.set_cons_succ]
        refine wpAnyH_take (i := 22) (v := undef) rfl (by kernel_rfl) (by kernel_rfl) (by kernel_rfl) (fun _ _ _ h => h) (Or.inr ⟨by kernel_rfl, rfl⟩) hHeld ?_
        simp only [Act.put, List.getElem_toArray, List.getElem_cons_zero, List.getElem_cons_succ, List.setIfInBounds_toArray, List.set_cons_zero, List.set_cons_succ]
        refine wpAnyH_take (i := 23) (v := undef) rfl (by kernel_rfl) (by kernel_rfl) (by kernel_rfl) (fun _ _ _ h => h) (Or.inr ⟨by kernel_rfl, rfl⟩) hHeld ?_
        simp only [Act.put, List.getElem_toArray, List.getElem_cons_zero, List.getElem_cons_succ, List.setIfInBounds_toArray, List.set_cons_zero, List.set_cons_succ]
        refine wpAnyH_take (i := 24) (v := undef) rfl (by kernel_rfl) (by kernel_rfl) (by kernel_rfl) (fun _ _ _ h => h) (Or.inr ⟨by kernel_rfl, rfl⟩) hHeld ?_
        simp only [Act.put, List.getElem_toArray, List.getElem_cons_zero, List.getElem_cons_succ, List.setIfInBounds_toArray, List.set_cons_zero, List.set_cons_succ]
        refine wpAnyH_take (i := 25) (v := undef) rfl (by kernel_rfl) (by kernel_rfl) (by kernel_rfl) (fun _ _ _ h => h) (Or.inr ⟨by kernel_rfl, rfl⟩) hHeld ?_
        simp only [Act.put, List.getElem_toArray, List.getElem_cons_zero, List.getElem_cons_succ, List.setIfInBounds_toArray, List.set_cons_zero, List.set_cons_succ]
        refine wpAnyH_take (i := 26) (v := .bool true) rfl (by kernel_rfl) (by kernel_rfl) (by kernel_rfl) (fun _ _ _ h => h) (Or.inl ⟨by kernel_rfl, fun _ _ => by go_simp⟩) hHeld ?_
        simp only [Act.put, List.getElem_toArray, List.getElem_cons_zero, List.getElem_cons_succ, List.setIfInBounds_toArray, List.set_cons_zero, List.set_cons_succ]
        refine wpAnyH_take (i := 27) (v := .bool true) rfl (by kernel_rfl) (by kernel_rfl) (by kernel_rfl) (fun _ _ _ h => h) (Or.inl ⟨by kernel_rfl, fun _ _ => by go_simp⟩) hHeld ?_
        simp only [Act.put, List.getElem_toArray, List.getElem_cons_zero, List.getElem_cons_succ, List.setIfInBounds_toArray, List.set_cons_zero, List.set_cons_succ]
        refine wpAnyH_take (i := 28) (v := .bool true) rfl (by kernel_rfl) (by kernel_rfl) (by kernel_rfl) (fun _ _ _ h => h) (Or.inl ⟨by kernel_rfl, fun _ _ => by go_simp⟩) hHeld ?_
        simp only [Act.put, List.getElem_toArray, List.getElem_cons_zero, List.getElem_cons_succ, List.setIfInBounds_toArray, List.set_cons_zero, List.set_cons_succ]
        refine wpAnyH_done (by kernel_rfl) ?_ _
        have HZ := hide (HB.out _ (HBA.out _ hHeld).2.2).2.2.2.2.2
        clear hHeld
        go_wp2
        go_ret
        exact ⟨by simp, HZ.out⟩
      | true =>
        cases P4 with
        | false =>
          refine wp_region_held_drew (S := fun W' => Below ((poW w ⟨rs, li, sc, dr, de, .slice (some ⟨b, o, none⟩) rs.length rc, .slice la li.length lc, .slice sa sc.length sc', .slice da dr.length dc⟩).alloc (.cells #[.string an, .string av] 46)).heap.size ((poW w ⟨rs, li, sc, dr, de, .slice (some ⟨b, o, none⟩) rs.length rc, .slice la li.length lc, .slice sa sc.length sc', .slice da dr.length dc⟩).alloc (.cells #[.string an, .string av] 46)) W') (by kernel_rfl) HY.out (fun hHeld => ?_)
          refine wpAnyH_take (i := 0) (v := .int .i64 (k : Int)) rfl (by kernel_rfl) (by kernel_rfl) (by kernel_rfl) (fun _ _ _ h => h) (Or.inl ⟨by kernel_rfl, fun _ _ => by go_simp⟩) hHeld ?_
          simp only [Act.put, List.getElem_toArray, List.getElem_cons_zero, List.getElem_cons_succ, List.setIfInBounds_toArray, List.set_cons_zero, List.set_cons_succ]
          refine wpAnyH_take (i := 1) (v := .bool true) rfl (by kernel_rfl) (by kernel_rfl) (by kernel_rfl) (fun _ _ _ h => h) (Or.inl ⟨by kernel_rfl, fun _ _ => by go_simp⟩) hHeld ?_
          simp only [Act.put, List.getElem_toArray, List.getElem_cons_zero, List.getElem_cons_succ, List.setIfInBounds_toArray, List.set_cons_zero, List.set_cons_succ]
          refine wpAnyH_take (i := 2) (v := .bool true) rfl (by kernel_rfl) (by kernel_rfl) (by kernel_rfl) (fun _ _ _ h => h) (Or.inl ⟨by kernel_rfl, fun _ _ => by go_simp⟩) hHeld ?_
          simp only [Act.put, List.getElem_toArray, List.getElem_cons_zero, List.getElem_cons_succ, List.setIfInBounds_toArray, List.set_cons_zero, List.set_cons_succ]
          refine wpAnyH_take (i := 3) (v := ?_) rfl (by kernel_rfl) (by kernel_rfl) (by kernel_rfl) (fun _ _ _ h => h) (Or.inl ⟨by kernel_rfl, ?_⟩) hHeld ?_
          rotate_left
          · intro W hSw
            clear hSw
            go_simp <;> with_reducible rfl
          simp only [Act.put, List.getElem_toArray, List.getElem_cons_zero, List.getElem_cons_succ, List.setIfInBounds_toArray, List.set_cons_zero, List.set_cons_succ]
          refine wpAnyH_take (i := 4) (v := ?_) rfl (by kernel_rfl) (by kernel_rfl) (by kernel_rfl) (fun _ _ _ h => h) (Or.inl ⟨by kernel_rfl, ?_⟩) hHeld ?_
          rotate_left
          · intro W hSw
            have c0 := (HB.out _ (HBA.out _ hSw).2.2).1
            clear hSw
            go_simp <;> with_reducible rfl
          simp only [Act.put, List.getElem_toArray, List.getElem_cons_zero, List.getElem_cons_succ, List.setIfInBounds_toArray, List.set_cons_zero, List.set_cons_succ]
          refine wpAnyH_take (i := 5) (v := ?_) rfl (by kernel_rfl) (by kernel_rfl) (by kernel_rfl) (fun _ _ _ h => h) (Or.inl ⟨by kernel_rfl, ?_⟩) hHeld ?_
          rotate_left
          · intro W hSw
            clear hSw
            go_simp <;> with_reducible rfl
          simp only [Act.put, List.getElem_toArray, List.getElem_cons_zero, List.getElem_cons_succ, List.setIfInBounds_toArray, List.set_cons_zero, List.set_cons_succ]
          refine wpAnyH_take (i := 6) (v := ?_) rfl (by kernel_rfl) (by kernel_rfl) (by kernel_rfl) (fun _ _ _ h => h) (Or.inl ⟨by kernel_rfl, ?_⟩) hHeld ?_
          rotate_left
          · intro W hSw
            clear hSw
            go_simp <;> with_reducible rfl
          simp only [Act.put, List.getElem_toArray, List.getElem_cons_zero, List.getElem_cons_succ, List.setIfInBounds_toArray, List.set_cons_zero, List.set_cons_succ]
          refine wpAnyH_take (i := 7) (v := ?_) rfl (by kernel_rfl) (by kernel_rfl) (by kernel_rfl) (fun _ _ _ h => h) (Or.inl ⟨by kernel_rfl, ?_⟩) hHeld ?_
          rotate_left
          · intro W hSw
            clear hSw
            go_simp <;> with_reducible rfl
          simp only [Act.put, List.getElem_toArray, List.getElem_cons_zero, List.getElem_cons_succ, List.setIfInBounds_toArray, List.set_cons_zero, List.set_cons_succ]
          refine wpAnyH_take (i := 8) (v := ?_) rfl (by kernel_rfl) (by kernel_rfl) (by kernel_rfl) (fun _ _ _ h => h) (Or.inl ⟨by kernel_rfl, ?_⟩) hHeld ?_
          rotate_left
          · intro W hSw
            obtain ⟨d0, d1⟩ := HQ.out _ (HB.out _ (HBA.out _ hSw).2.2).2.2.2.2.2
            clear hSw
            go_simp <;> with_reducible rfl
          simp only [Act.put, List.getElem_toArray, List.getElem_cons_zero, List.getElem_cons_succ, List.setIfInBounds_toArray, List.set_cons_zero, List.set_cons_succ]
          refine wpAnyH_take (i := 9) (v := ?_) rfl (by kernel_rfl) (by kernel_rfl) (by kernel_rfl) (fun _ _ _ h => h) (Or.inl ⟨by kernel_rfl, ?_⟩) hHeld ?_
          rotate_left
          · intro W hSw
            clear hSw
            go_simp <;> with_reducible rfl
          simp only [Act.put, List.getElem_toArray, List.getElem_cons_zero, List.getElem_cons_succ, List.setIfInBounds_toArray, List.set_cons_zero, List.set_cons_succ]
          refine wpAnyH_take (i := 10) (v := ?_) rfl (by kernel_rfl) (by kernel_rfl) (by kernel_rfl) (fun _ _ _ h => h) (Or.inl ⟨by kernel_rfl, ?_⟩) hHeld ?_
          rotate_left
          · intro W hSw
            have a0 := (HBA.out _ hSw).1
            clear hSw
            go_simp <;> with_reducible rfl
          simp only [Act.put, List.getElem_toArray, List.getElem_cons_zero, List.getElem_cons_succ, List.setIfInBounds_toArray, List.set_cons_zero, List.set_cons_succ]
          have BD := hide (HB.out _ (HBA.out _ hHeld).2.2).2.2.2.2.2
          refine wpAnyH_ready (rs := [11]) (by kernel_rfl) (by simp) ?_
          refine AllReadyH.cons rfl (fun K hK => ?_) AllReadyH.nil
          go_simp
          go_wp2_with (first | (go_at_call 35; refine (H2r.out _ BD.out).mono ?_; rintro e x2 ⟨rfl, rfl⟩))
          refine hK.out _ _ ?_ (fun hHeld => ?_)
          · exact hHeld
          clear hK K
          try simp only [Act.put, List.getElem_toArray, List.getElem_cons_zero, List.getElem_cons_succ, List.setIfInBounds_toArray, List.set_cons_zero, List.set_cons_succ]
          clear BD
          try clear b9
          refine wpAnyH_take (i := 12) (v := .bool true) rfl (by kernel_rfl) (by kernel_rfl) (by kernel_rfl) (fun _ _ _ h => h) (Or.inl ⟨by kernel_rfl, fun _ _ => by go_simp⟩) hHeld ?_
          simp only [Act.put, List.getElem_toArray, List.getElem_cons_zero, List.getElem_cons_succ, List.setIfInBounds_toArray, List.set_cons_zero, List.set_cons_succ]
          refine wpAnyH_take (i := 13) (v := .bool true) rfl (by kernel_rfl) (by kernel_rfl) (by kernel_rfl) (fun _ _ _ h => h) (Or.inl ⟨by kernel_rfl, fun _ _ => by go_simp⟩) hHeld ?_
          simp only [Act.put, List.getElem_toArray, List.getElem_cons_zero, List.getElem_cons_succ, List.setIfInBounds_toArray, List.set_cons_zero, List.set_cons_succ]
          refine wpAnyH_take (i := 14) (v := ?_) rfl (by kernel_rfl) (by kernel_rfl) (by kernel_rfl) (fun _ _ _ h => h) (Or.inl ⟨by kernel_rfl, ?_⟩) hHeld ?_
          rotate_left
          · intro W hSw
            clear hSw
            go_simp <;> with_reducible rfl
          simp only [Act.put, List.getElem_toArray, List.getElem_cons_zero, List.getElem_cons_succ, List.setIfInBounds_toArray, List.set_cons_zero, List.set_cons_succ]
          refine wpAnyH_take (i := 15) (v := ?_) rfl (by kernel_rfl) (by kernel_rfl) (by kernel_rfl) (fun _ _ _ h => h) (Or.inl ⟨by kernel_rfl, ?_⟩) hHeld ?_
          rotate_left
          · intro W hSw
            have c1 := (HB.out _ (HBA.out _ hSw).2.2).2.1
            clear hSw
            go_simp <;> with_reducible rfl
          simp only [Act.put, List.getElem_toArray, List.getElem_cons_zero, List.getElem_cons_succ, List.setIfInBounds_toArray, List.set_cons_zero, List.set_cons_succ]
          refine wpAnyH_take (i := 16) (v := ?_) rfl (by kernel_rfl) (by kernel_rfl) (by kernel_rfl) (fun _ _ _ h => h) (Or.inl ⟨by kernel_rfl, ?_⟩) hHeld ?_
          rotate_left
          · intro W hSw
            clear hSw
            go_simp <;> with_reducible rfl
          simp only [Act.put, List.getElem_toArray, List.getElem_cons_zero, List.getElem_cons_succ, List.setIfInBounds_toArray, List.set_cons_zero, List.set_cons_succ]
          refine wpAnyH_take (i := 17) (v := ?_) rfl (by kernel_rfl) (by kernel_rfl) (by kernel_rfl) (fun _ _ _ h => h) (Or.inl ⟨by kernel_rfl, ?_⟩) hHeld ?_
          rotate_left
          · intro W hSw
            have a0 := (HBA.out _ hSw).1
            clear hSw
            go_simp <;> with_reducible rfl
          simp only [Act.put, List.getElem_toArray, List.getElem_cons_zero, List.getElem_cons_succ, List.setIfInBounds_toArray, List.set_cons_zero, List.set_cons_succ]
          have BD := hide (HB.out _ (HBA.out _ hHeld).2.2).2.2.2.2.2
          refine wpAnyH_ready (rs := [18]) (by kernel_rfl) (by simp) ?_
          refine AllReadyH.cons rfl (fun K hK => ?_) AllReadyH.nil
          go_simp
          go_wp2_with (first | (go_at_call 35; refine (H3.out _ BD.out).mono ?_; rintro e x2 ⟨rfl, rfl⟩))
          refine hK.out _ _ ?_ (fun hHeld => ?_)
          · exact hHeld
          clear hK K
          try simp only [Act.put, List.getElem_toArray, List.getElem_cons_zero, List.getElem_cons_succ, List.setIfInBounds_toArray, List.set_cons_zero, List.set_cons_succ]
          clear BD
          try clear b9
          refine wpAnyH_take (i := 19) (v := .bool false) rfl (by kernel_rfl) (by kernel_rfl) (by kernel_rfl) (fun _ _ _ h => h) (Or.inl ⟨by kernel_rfl, fun _ _ => by go_simp⟩) hHeld ?_
          simp only [Act.put, List.getElem_toArray, List.getElem_cons_zero, List.getElem_cons_succ, List.setIfInBounds_toArray, List.set_cons_zero, List.set_cons_succ]
          refine wpAnyH_take (i := 20) (v := .bool false) rfl (by kernel_rfl) (by kernel_rfl) (by kernel_rfl) (fun _ _ _ h => h) (Or.inl ⟨by kernel_rfl, fun _ _ => by go_simp⟩) hHeld ?_
          simp only [Act.put, List.getElem_toArray, List.getElem_cons_zero, List.getElem_cons_succ, List.setIfInBounds_toArray, List.set_cons_zero, List.set_cons_succ]
          refine wpAnyH_take (i := 21) (v := ?_) rfl (by kernel_rfl) (by kernel_rfl) (by kernel_rfl) (fun _ _ _ h => h) (Or.inl ⟨by kernel_rfl, ?_⟩) hHeld ?_
          rotate_left
          · intro W hSw
            clear hSw
            go_simp <;> with_reducible rfl
          simp only [Act.put, List.getElem_toArray, List.getElem_cons_zero, List.getElem_cons_succ, List.setIfInBounds_toArray, List.set_cons_zero, List.set_cons_succ]
          refine wpAnyH_take (i := 22) (v := ?_) rfl (by kernel_rfl) (by kernel_rfl) (by kernel_rfl) (fun _ _ _ h => h) (Or.inl ⟨by kernel_rfl, ?_⟩) hHeld ?_
          rotate_left
          · intro W hSw
            have a1 := (HBA.out _ hSw).2.1
            clear hSw
            go_simp <;> with_reducible rfl
          simp only [Act.put, List.getElem_toArray, List.getElem_cons_zero, List.getElem_cons_succ, List.setIfInBounds_toArray, List.set_cons_zero, List.set_cons_succ]
          refine wpAnyH_take (i := 23) (v := ?_) rfl (by kernel_rfl) (by kernel_rfl) (by kernel_rfl) (fun _ _ _ h => h) (Or.inl ⟨by kernel_rfl, ?_⟩) hHeld ?_
          rotate_left
          · intro W hSw
            clear hSw
            go_simp <;> with_reducible rfl
          simp only [Act.put, List.getElem_toArray, List.getElem_cons_zero, List.getElem_cons_succ, List.setIfInBounds_toArray, List.set_cons_zero, List.set_cons_succ]
          refine wpAnyH_take (i := 24) (v := ?_) rfl (by kernel_rfl) (by kernel_rfl) (by kernel_rfl) (fun _ _ _ h => h) (Or.inl ⟨by kernel_rfl, ?_⟩) hHeld ?_
          rotate_left
          · intro W hSw
            have c2 := (HB.out _ (HBA.out _ hSw).2.2).2.2.1
            clear hSw
            go_simp <;> with_reducible rfl
          simp only [Act.put, List.getElem_toArray, List.getElem_cons_zero, List.getElem_cons_succ, List.setIfInBounds_toArray, List.set_cons_zero, List.set_cons_succ]
          have BD := hide (HB.out _ (HBA.out _ hHeld).2.2).2.2.2.2.2
          refine wpAnyH_ready (rs := [25]) (by kernel_rfl) (by simp) ?_
          refine AllReadyH.cons rfl (fun K hK => ?_) AllReadyH.nil
          go_simp
          go_wp2_with (first | (go_at_call 62; refine (H4.out _ BD.out).mono ?_; rintro e x2 ⟨rfl, b9⟩))
          refine hK.out _ _ ?_ (fun hHeld => ?_)
          · exact Below.trans hHeld (b9.mono hHeld.size)
          clear hK K
          try simp only [Act.put, List.getElem_toArray, List.getElem_cons_zero, List.getElem_cons_succ, List.setIfInBounds_toArray, List.set_cons_zero, List.set_cons_succ]
          clear BD
          try clear b9
          refine wpAnyH_take (i := 26) (v := .bool false) rfl (by kernel_rfl) (by kernel_rfl) (by kernel_rfl) (fun _ _ _ h => h) (Or.inl ⟨by kernel_rfl, fun _ _ => by go_simp⟩) hHeld ?_
          simp only [Act.put, List.getElem_toArray, List.getElem_cons_zero, List.getElem_cons_succ, List.setIfInBounds_toArray, List.set_cons_zero, List.set_cons_succ]
          refine wpAnyH_take (i := 27) (v := .bool false) rfl (by kernel_rfl) (by kernel_rfl) (by kernel_rfl) (fun _ _ _ h => h) (Or.inl ⟨by kernel_rfl, fun _ _ => by go_simp⟩) hHeld ?_
          simp only [Act.put, List.getElem_toArray, List.getElem_cons_zero, List.getElem_cons_succ, List.setIfInBounds_toArray, List.set_cons_zero, List.set_cons_succ]
          refine wpAnyH_take (i := 28) (v := .bool false) rfl (by kernel_rfl) (by kernel_rfl) (by kernel_rfl) (fun _ _ _ h => h) (Or.inl ⟨by kernel_rfl, fun _ _ => by go_simp⟩) hHeld ?_
          simp only [Act.put, List.getElem_toArray, List.getElem_cons_zero, List.getElem_cons_succ, List.setIfInBounds_toArray, List.set_cons_zero, List.set_cons_succ]
          refine wpAnyH_done (by kernel_rfl) ?_ _
          have HZ := hide (HB.out _ (HBA.out _ hHeld).2.2).2.2.2.2.2
          clear hHeld
          go_wp2
          go_ret
          exact ⟨by simp, HZ.out⟩
        | true =>
          refine wp_region_held_drew (S := fun W' => Below ((poW w ⟨rs, li, sc, dr, de, .slice (some ⟨b, o, none⟩) rs.length rc, .slice la li.length lc, .slice sa sc.length sc', .slice da dr.length dc⟩).alloc (.cells #[.string an, .string av] 46)).heap.size ((poW w ⟨rs, li, sc, dr, de, .slice (some ⟨b, o, none⟩) rs.length rc, .slice la li.length lc, .slice sa sc.length sc', .slice da dr.length dc⟩).alloc (.cells #[.string an, .string av] 46)) W') (by kernel_rfl) HY.out (fun hHeld => ?_)
          refine wpAnyH_take (i := 0) (v := .int .i64 (k : Int)) rfl (by kernel_rfl) (by kernel_rfl) (by kernel_rfl) (fun _ _ _ h => h) (Or.inl ⟨by kernel_rfl, fun _ _ => by go_simp⟩) hHeld ?_
          simp only [Act.put, List.getElem_toArray, List.getElem_cons_zero, List.getElem_cons_succ, List.setIfInBounds_toArray, List.set_cons_zero, List.set_cons_succ]
          refine wpAnyH_take (i := 1) (v := .bool true) rfl (by kernel_rfl) (by kernel_rfl) (by kernel_rfl) (fun _ _ _ h => h) (Or.inl ⟨by kernel_rfl, fun _ _ => by go_simp⟩) hHeld ?_
          simp only [Act.put, List.getElem_toArray, List.getElem_cons_zero, List.getElem_cons_succ, List.setIfInBounds_toArray, List.set_cons_zero, List.set_cons_succ]
          refine wpAnyH_take (i := 2) (v := .bool true) rfl (by kernel_rfl) (by kernel_rfl) (by kernel_rfl) (fun _ _ _ h => h) (Or.inl ⟨by kernel_rfl, fun _ _ => by go_simp⟩) hHeld ?_
          simp only [Act.put, List.getElem_toArray, List.getElem_cons_zero, List.getElem_cons_succ, List.setIfInBounds_toArray, List.set_cons_zero, List.set_cons_succ]
          refine wpAnyH_take (i := 3) (v := ?_) rfl (by kernel_rfl) (by kernel_rfl) (by kernel_rfl) (fun _ _ _ h => h) (Or.inl ⟨by kernel_rfl, ?_⟩) hHeld ?_
          rotate_left
          · intro W hSw
            clear hSw
            go_simp <;> with_reducible rfl
          simp only [Act.put, List.getElem_toArray, List.getElem_cons_zero, List.getElem_cons_succ, List.setIfInBounds_toArray, List.set_cons_zero, List.set_cons_succ]
          refine wpAnyH_take (i := 4) (v := ?_) rfl (by kernel_rfl) (by kernel_rfl) (by kernel_rfl) (fun _ _ _ h => h) (Or.inl ⟨by kernel_rfl, ?_⟩) hHeld ?_
          rotate_left
          · intro W hSw
            have c0 := (HB.out _ (HBA.out _ hSw).2.2).1
            clear hSw
            go_simp <;> with_reducible rfl
          simp only [Act.put, List.getElem_toArray, List.getElem_cons_zero, List.getElem_cons_succ, List.setIfInBounds_toArray, List.set_cons_zero, List.set_cons_succ]
          refine wpAnyH_take (i := 5) (v := ?_) rfl (by kernel_rfl) (by kernel_rfl) (by kernel_rfl) (fun _ _ _ h => h) (Or.inl ⟨by kernel_rfl, ?_⟩) hHeld ?_
          rotate_left
          · intro W hSw
            clear hSw
            go_simp <;> with_reducible rfl
          simp only [Act.put, List.getElem_toArray, List.getElem_cons_zero, List.getElem_cons_succ, List.setIfInBounds_toArray, List.set_cons_zero, List.set_cons_succ]
          refine wpAnyH_take (i := 6) (v := ?_) rfl (by kernel_rfl) (by kernel_rfl) (by kernel_rfl) (fun _ _ _ h => h) (Or.inl ⟨by kernel_rfl, ?_⟩) hHeld ?_
          rotate_left
          · intro W hSw
            clear hSw
            go_simp <;> with_reducible rfl
          simp only [Act.put, List.getElem_toArray, List.getElem_cons_zero, List.getElem_cons_succ, List.setIfInBounds_toArray, List.set_cons_zero, List.set_cons_succ]
          refine wpAnyH_take (i := 7) (v := ?_) rfl (by kernel_rfl) (by kernel_rfl) (by kernel_rfl) (fun _ _ _ h => h) (Or.inl ⟨by kernel_rfl, ?_⟩) hHeld ?_
          rotate_left
          · intro W hSw
            clear hSw
            go_simp <;> with_reducible rfl
          simp only [Act.put, List.getElem_toArray, List.getElem_cons_zero, List.getElem_cons_succ, List.setIfInBounds_toArray, List.set_cons_zero, List.set_cons_succ]
          refine wpAnyH_take (i := 8) (v := ?_) rfl (by kernel_rfl) (by kernel_rfl) (by kernel_rfl) (fun _ _ _ h => h) (Or.inl ⟨by kernel_rfl, ?_⟩) hHeld ?_
          rotate_left
          · intro W hSw
            obtain ⟨d0, d1⟩ := HQ.out _ (HB.out _ (HBA.out _ hSw).2.2).2.2.2.2.2
            clear hSw
            go_simp <;> with_reducible rfl
          simp only [Act.put, List.getElem_toArray, List.getElem_cons_zero, List.getElem_cons_succ, List.setIfInBounds_toArray, List.set_cons_zero, List.set_cons_succ]
          refine wpAnyH_take (i := 9) (v := ?_) rfl (by kernel_rfl) (by kernel_rfl) (by kernel_rfl) (fun _ _ _ h => h) (Or.inl ⟨by kernel_rfl, ?_⟩) hHeld ?_
          rotate_left
          · intro W hSw
            clear hSw
            go_simp <;> with_reducible rfl
          simp only [Act.put, List.getElem_toArray, List.getElem_cons_zero, List.getElem_cons_succ, List.setIfInBounds_toArray, List.set_cons_zero, List.set_cons_succ]
          refine wpAnyH_take (i := 10) (v := ?_) rfl (by kernel_rfl) (by kernel_rfl) (by kernel_rfl) (fun _ _ _ h => h) (Or.inl ⟨by kernel_rfl, ?_⟩) hHeld ?_
          rotate_left
          · intro W hSw
            have a0 := (HBA.out _ hSw).1
            clear hSw
            go_simp <;> with_reducible rfl
          simp only [Act.put, List.getElem_toArray, List.getElem_cons_zero, List.getElem_cons_succ, List.setIfInBounds_toArray, List.set_cons_zero, List.set_cons_succ]
          have BD := hide (HB.out _ (HBA.out _ hHeld).2.2).2.2.2.2.2
          refine wpAnyH_ready (rs := [11]) (by kernel_rfl) (by simp) ?_
          refine AllReadyH.cons rfl (fun K hK => ?_) AllReadyH.nil
          go_simp
          go_wp2_with (first | (go_at_call 35; refine (H2r.out _ BD.out).mono ?_; rintro e x2 ⟨rfl, rfl⟩))
          refine hK.out _ _ ?_ (fun hHeld => ?_)
          · exact hHeld
          clear hK K
          try simp only [Act.put, List.getElem_toArray, List.getElem_cons_zero, List.getElem_cons_succ, List.setIfInBounds_toArray, List.set_cons_zero, List.set_cons_succ]
          clear BD
          try clear b9
          refine wpAnyH_take (i := 12) (v := .bool true) rfl (by kernel_rfl) (by kernel_rfl) (by kernel_rfl) (fun _ _ _ h => h) (Or.inl ⟨by kernel_rfl, fun _ _ => by go_simp⟩) hHeld ?_
          simp only [Act.put, List.getElem_toArray, List.getElem_cons_zero, List.getElem_cons_succ, List.setIfInBounds_toArray, List.set_cons_zero, List.set_cons_succ]
          refine wpAnyH_take (i := 13) (v := .bool true) rfl (by kernel_rfl) (by kernel_rfl) (by kernel_rfl) (fun _ _ _ h => h) (Or.inl ⟨by kernel_rfl, fun _ _ => by go_simp⟩) hHeld ?_
          simp only [Act.put, List.getElem_toArray, List.getElem_cons_zero, List.getElem_cons_succ, List.setIfInBounds_toArray, List.set_cons_zero, List.set_cons_succ]
          refine wpAnyH_take (i := 14) (v := ?_) rfl (by kernel_rfl) (by kernel_rfl) (by kernel_rfl) (fun _ _ _ h => h) (Or.inl ⟨by kernel_rfl, ?_⟩) hHeld ?_
          rotate_left
          · intro W hSw
            clear hSw
            go_simp <;> with_reducible rfl
          simp only [Act.put, List.getElem_toArray, List.getElem_cons_zero, List.getElem_cons_succ, List.setIfInBounds_toArray, List.set_cons_zero, List.set_cons_succ]
          refine wpAnyH_take (i := 15) (v := ?_) rfl (by kernel_rfl) (by kernel_rfl) (by kernel_rfl) (fun _ _ _ h => h) (Or.inl ⟨by kernel_rfl, ?_⟩) hHeld ?_
          rotate_left
          · intro W hSw
            have c1 := (HB.out _ (HBA.out _ hSw).2.2).2.1
            clear hSw
            go_simp <;> with_reducible rfl
          simp only [Act.put, List.getElem_toArray, List.getElem_cons_zero, List.getElem_cons_succ, List.setIfInBounds_toArray, List.set_cons_zero, List.set_cons_succ]
          refine wpAnyH_take (i := 16) (v := ?_) rfl (by kernel_rfl) (by kernel_rfl) (by kernel_rfl) (fun _ _ _ h => h) (Or.inl ⟨by kernel_rfl, ?_⟩) hHeld ?_
          rotate_left
          · intro W hSw
            clear hSw
            go_simp <;> with_reducible rfl
          simp only [Act.put, List.getElem_toArray, List.getElem_cons_zero, List.getElem_cons_succ, List.setIfInBounds_toArray, List.set_cons_zero, List.set_cons_succ]
          refine wpAnyH_take (i := 17) (v := ?_) rfl (by kernel_rfl) (by kernel_rfl) (by kernel_rfl) (fun _ _ _ h => h) (Or.inl ⟨by kernel_rfl, ?_⟩) hHeld ?_
          rotate_left
          · intro W hSw
            have a0 := (HBA.out _ hSw).1
            clear hSw
            go_simp <;> with_reducible rfl
          simp only [Act.put, List.getElem_toArray, List.getElem_cons_zero, List.getElem_cons_succ, List.setIfInBounds_toArray, List.set_cons_zero, List.set_cons_succ]
          have BD := hide (HB.out _ (HBA.out _ hHeld).2.2).2.2.2.2.2
          refine wpAnyH_ready (rs := [18]) (by kernel_rfl) (by simp) ?_
          refine AllReadyH.cons rfl (fun K hK => ?_) AllReadyH.nil
          go_simp
          go_wp2_with (first | (go_at_call 35; refine (H3.out _ BD.out).mono ?_; rintro e x2 ⟨rfl, rfl⟩))
          refine hK.out _ _ ?_ (fun hHeld => ?_)
          · exact hHeld
          clear hK K
          try simp only [Act.put, List.getElem_toArray, List.getElem_cons_zero, List.getElem_cons_succ, List.setIfInBounds_toArray, List.set_cons_zero, List.set_cons_succ]
          clear BD
          try clear b9
          refine wpAnyH_take (i := 19) (v := .bool false) rfl (by kernel_rfl) (by kernel_rfl) (by kernel_rfl) (fun _ _ _ h => h) (Or.inl ⟨by kernel_rfl, fun _ _ => by go_simp⟩) hHeld ?_
          simp only [Act.put, List.getElem_toArray, List.getElem_cons_zero, List.getElem_cons_succ, List.setIfInBounds_toArray, List.set_cons_zero, List.set_cons_succ]
          refine wpAnyH_take (i := 20) (v := .bool false) rfl (by kernel_rfl) (by kernel_rfl) (by kernel_rfl) (fun _ _ _ h => h) (Or.inl ⟨by kernel_rfl, fun _ _ => by go_simp⟩) hHeld ?_
          simp only [Act.put, List.getElem_toArray, List.getElem_cons_zero, List.getElem_cons_succ, List.setIfInBounds_toArray, List.set_cons_zero, List.set_cons_succ]
          refine wpAnyH_take (i := 21) (v := ?_) rfl (by kernel_rfl) (by kernel_rfl) (by kernel_rfl) (fun _ _ _ h => h) (Or.inl ⟨by kernel_rfl, ?_⟩) hHeld ?_
          rotate_left
          · intro W hSw
            clear hSw
            go_simp <;> with_reducible rfl
          simp only [Act.put, List.getElem_toArray, List.getElem_cons_zero, List.getElem_cons_succ, List.setIfInBounds_toArray, List.set_cons_zero, List.set_cons_succ]
          refine wpAnyH_take (i := 22) (v := ?_) rfl (by kernel_rfl) (by kernel_rfl) (by kernel_rfl) (fun _ _ _ h => h) (Or.inl ⟨by kernel_rfl, ?_⟩) hHeld ?_
          rotate_left
          · intro W hSw
            have a1 := (HBA.out _ hSw).2.1
            clear hSw
            go_simp <;> with_reducible rfl
          simp only [Act.put, List.getElem_toArray, List.getElem_cons_zero, List.getElem_cons_succ, List.setIfInBounds_toArray, List.set_cons_zero, List.set_cons_succ]
          refine wpAnyH_take (i := 23) (v := ?_) rfl (by kernel_rfl) (by kernel_rfl) (by kernel_rfl) (fun _ _ _ h => h) (Or.inl ⟨by kernel_rfl, ?_⟩) hHeld ?_
          rotate_left
          · intro W hSw
            clear hSw
            go_simp <;> with_reducible rfl
          simp only [Act.put, List.getElem_toArray, List.getElem_cons_zero, List.getElem_cons_succ, List.setIfInBounds_toArray, List.set_cons_zero, List.set_cons_succ]
          refine wpAnyH_take (i := 24) (v := ?_) rfl (by kernel_rfl) (by kernel_rfl) (by kernel_rfl) (fun _ _ _ h => h) (Or.inl ⟨by kernel_rfl, ?_⟩) hHeld ?_
          rotate_left
          · intro W hSw
            have c2 := (HB.out _ (HBA.out _ hSw).2.2).2.2.1
            clear hSw
            go_simp <;> with_reducible rfl
          simp only [Act.put, List.getElem_toArray, List.getElem_cons_zero, List.getElem_cons_succ, List.setIfInBounds_toArray, List.set_cons_zero, List.set_cons_succ]
          have BD := hide (HB.out _ (HBA.out _ hHeld).2.2).2.2.2.2.2
          refine wpAnyH_ready (rs := [25]) (by kernel_rfl) (by simp) ?_
          refine AllReadyH.cons rfl (fun K hK => ?_) AllReadyH.nil
          go_simp
          go_wp2_with (first | (go_at_call 62; refine (H4.out _ BD.out).mono ?_; rintro e x2 ⟨rfl, b9⟩))
          refine hK.out _ _ ?_ (fun hHeld => ?_)
          · exact Below.trans hHeld (b9.mono hHeld.size)
          clear hK K
          try simp only [Act.put, List.getElem_toArray, List.getElem_cons_zero, List.getElem_cons_succ, List.setIfInBounds_toArray, List.set_cons_zero, List.set_cons_succ]
          clear BD
          try clear b9
          refine wpAnyH_take (i := 26) (v := .bool true) rfl (by kernel_rfl) (by kernel_rfl) (by kernel_rfl) (fun _ _ _ h => h) (Or.inl ⟨by kernel_rfl, fun _ _ => by go_simp⟩) hHeld ?_
          simp only [Act.put, List.getElem_toArray, List.getElem_cons_zero, List.getElem_cons_succ, List.setIfInBounds_toArray, List.set_cons_zero, List.set_cons_succ]
          refine wpAnyH_take (i := 27) (v := .bool true) rfl (by kernel_rfl) (by kernel_rfl) (by kernel_rfl) (fun _ _ _ h => h) (Or.inl ⟨by kernel_rfl, fun _ _ => by go_simp⟩) hHeld ?_
          simp only [Act.put, List.getElem_toArray, List.getElem_cons_zero, List.getElem_cons_succ, List.setIfInBounds_toArray, List.set_cons_zero, List.set_cons_succ]
          refine wpAnyH_take (i := 28) (v := .bool true) rfl (by kernel_rfl) (by kernel_rfl) (by kernel_rfl) (fun _ _ _ h => h) (Or.inl ⟨by kernel_rfl, fun _ _ => by go_simp⟩) hHeld ?_
          simp only [Act.put, List.getElem_toArray, List.getElem_cons_zero, List.getElem_cons_succ, List.setIfInBounds_toArray, List.set_cons_zero, List.set_cons_succ]
          refine wpAnyH_done (by kernel_rfl) ?_ _
          have HZ := hide (HB.out _ (HBA.out _ hHeld).2.2).2.2.2.2.2
          clear hHeld
          go_wp2
          go_ret
          exact ⟨by simp, HZ.out⟩
end Go.Proofs.YthopnliaikkhbaaGreatDoor
