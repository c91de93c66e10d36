import Derived.Test.YtpppdfjdngmaoaaGreatDoorKc04
import Derived.Test.YtpppdfjdngmaoaaGreatDoorKc07
import Derived.Deep.RegionWith
set_option linter.unusedVariables false
set_option linter.unusedSimpArgs false
set_option maxRecDepth 100000
set_option maxHeartbeats 8000000
namespace Go.Proofs.YtpppdfjdngmaoaaGreatDoor.G5
open Go.RowKit
def OkT : {k : Nat} → NT k → Prop
  | 0, _ => True
  | k + 1, t => t.nd.attrs.length ≤ 9223372036854775807 ∧ t.kids.length ≤ 9223372036854775807 ∧ ∀ x ∈ t.kids, OkT x
def OkTs {k : Nat} (ks : List (NT k)) : Prop := ∀ x ∈ ks, OkT x
theorem OkTs.get {k : Nat} {ks : List (NT k)} (h : OkTs ks) (j : Nat) (hj : j < ks.length) : OkT ks[j] := h _ (List.getElem_mem hj)
theorem IsK.below {B : Nat → Prop} {w W : World} {k : Nat} {ks : List (NT k)} {kv : Value} (hB : ∀ k, B k → k < w.heap.size) (h : IsK B w ks kv) (hb : Below w.heap.size w W) : IsK B W ks kv := by
  rcases h with h | ⟨b, o, cap, e1, e2, e3, e4⟩
  · exact .inl h
  · refine .inr ⟨b, o, cap, e1, e2, e3, ?_⟩
    rcases e3 with rfl | e3
    · trivial
    · exact IsNs.keep (fun k hk => hb.block k (hB k hk)) (fun _ h => h) b e3 o ks e4
def SameN {k : Nat} (t : NT k) : Prop := ∀ (B : Nat → Prop) (va vb : List Value) (w : World), (∀ k, B k → k < w.heap.size) → IsN B w t va → IsN B w t vb → Calls Tryz.prog 40 #[.agg va.toArray, .agg vb.toArray] w fun e w' => e = .returned (.bool true) ∧ Below w.heap.size w w'
theorem IsN.form {B : Nat → Prop} {w : World} : ∀ {k : Nat} {t : NT k} {vs : List Value}, IsN B w t vs → ∃ (k s : Int) (nm : ByteArray) (a1 : Option Addr) (n1 c1 : Nat) (tx : ByteArray) (a2 : Option Addr) (n2 c2 : Nat), vs = [.int .i64 k, .int .i64 s, .string nm, .slice a1 n1 c1, .string tx, .slice a2 n2 c2]
  | 0, t, _, _ => t.none
  | k + 1, t, vs, h => by
    rw [t.form, isN_iff] at h
    obtain ⟨av, kv, rfl, hA, hK⟩ := h
    obtain ⟨a1, c1, rfl⟩ := isA_form hA.1
    obtain ⟨a3, c3, rfl⟩ := isK_form hK
    exact ⟨_, _, _, _, _, _, _, _, _, _, rfl⟩
end Go.Proofs.YtpppdfjdngmaoaaGreatDoor.G5
namespace Go.Proofs.YtpppdfjdngmaoaaGreatDoor.G5
open Go.RowKit
def eqTs {k j : Nat} (a : List (NT k)) (b : List (NT j)) : Bool := eqG (fun x y => eqT x y) a b
def SameN2 {k j : Nat} (t : NT k) (u : NT j) : Prop := ∀ (B : Nat → Prop) (va vb : List Value) (w : World), (∀ k, B k → k < w.heap.size) → IsN B w t va → IsN B w u vb → Calls Tryz.prog 40 #[.agg va.toArray, .agg vb.toArray] w fun e w' => e = .returned (.bool (eqT t u)) ∧ Below w.heap.size w w'
def SameNs2 {k j : Nat} (ts : List (NT k)) (us : List (NT j)) : Prop := ∀ (B : Nat → Prop) (va vb : Value) (w : World), (∀ k, B k → k < w.heap.size) → IsK B w ts va → IsK B w us vb → Calls Tryz.prog 27 #[va, vb] w fun e w' => e = .returned (.bool (eqTs ts us)) ∧ Below w.heap.size w w'
theorem str_ne {a b : List UInt8} (h : ¬ a = b) : ¬ (⟨a.toArray⟩ : ByteArray).toList = (⟨b.toArray⟩ : ByteArray).toList := fun h2 => h (by rw [Lib.toList_data, Lib.toList_data, str_data, str_data] at h2; exact h2)
theorem same_step2 {k j : Nat} (d e : ND) (ks : List (NT k)) (js : List (NT j)) (ha : d.attrs.length ≤ 9223372036854775807) (hb : e.attrs.length ≤ 9223372036854775807) (ih : SameNs2 ks js) : SameN2 (NT.mk d ks) (NT.mk e js) := by
  intro B va vb w hB h1 h2
  rw [isN_iff] at h1 h2
  obtain ⟨av1, kv1, rfl, hA1, hK1⟩ := h1
  obtain ⟨av2, kv2, rfl, hA2, hK2⟩ := h2
  obtain ⟨a1, c1, rfl⟩ := isA_form hA1.1
  obtain ⟨a2, c2, rfl⟩ := isA_form hA2.1
  obtain ⟨a3, c3, rfl⟩ := isK_form hK1
  obtain ⟨a4, c4, rfl⟩ := isK_form hK2
  unfold nodeC
  have b0 := below_alloc w (.cells #[.int .i64 d.kind, .int .i64 d.space, .string ⟨d.name.toArray⟩, .slice a1 d.attrs.length c1, .string ⟨d.text.toArray⟩, .slice a3 ks.length c3] 46)
  have b1 := b0.alloc b0.size (.cells #[.int .i64 e.kind, .int .i64 e.space, .string ⟨e.name.toArray⟩, .slice a2 e.attrs.length c2, .string ⟨e.text.toArray⟩, .slice a4 js.length c4] 46)
  have HA := hide (attrs_any (.slice a1 d.attrs.length c1) (.slice a2 e.attrs.length c2) d.attrs e.attrs ha hb _ (hA1.1.below b1) (hA2.1.below b1))
  have K1 := hide ((Kept.new w [.int .i64 d.kind, .int .i64 d.space, .string ⟨d.name.toArray⟩, .slice a1 d.attrs.length c1, .string ⟨d.text.toArray⟩, .slice a3 ks.length c3] 46).alloc (.cells #[.int .i64 e.kind, .int .i64 e.space, .string ⟨e.name.toArray⟩, .slice a2 e.attrs.length c2, .string ⟨e.text.toArray⟩, .slice a4 js.length c4] 46))
  have K2 := hide (Kept.new (w.alloc (.cells #[.int .i64 d.kind, .int .i64 d.space, .string ⟨d.name.toArray⟩, .slice a1 d.attrs.length c1, .string ⟨d.text.toArray⟩, .slice a3 ks.length c3] 46)) [.int .i64 e.kind, .int .i64 e.space, .string ⟨e.name.toArray⟩, .slice a2 e.attrs.length c2, .string ⟨e.text.toArray⟩, .slice a4 js.length c4] 46)
  have HB1 := hide b1
  have HS : Hid (∀ W, Below w.heap.size w W → Calls Tryz.prog 27 #[.slice a3 ks.length c3, .slice a4 js.length c4] W fun e w' => e = .returned (.bool (eqTs ks js)) ∧ Below W.heap.size W w') := hide fun W hb => ih B _ _ W (fun k hk => Nat.lt_of_lt_of_le (hB k hk) hb.size) (hK1.below hB hb) (hK2.below hB hb)
  have HR : Hid (eqT (NT.mk d ks) (NT.mk e js) = (d.kind == e.kind && d.space == e.space && d.name == e.name && d.attrs == e.attrs && d.text == e.text && eqTs ks js)) := hide rfl
  generalize eqT (NT.mk d ks) (NT.mk e js) = R at *
  clear b0 b1 hA1 hA2 hK1 hK2 ih hB
  generalize (d.attrs == e.attrs) = ra at *
  generalize d.attrs.length = al at *
  generalize e.attrs.length = bl at *
  generalize ks.length = kl at *
  generalize js.length = jl at *
  generalize eqTs ks js = es at *
  generalize d.kind = kd at *
  generalize e.kind = ke at *
  generalize d.space = sd at *
  generalize e.space = se at *
  generalize d.name = dn at *
  generalize e.name = en at *
  generalize d.text = dt at *
  generalize e.text = et at *
  by_cases h1 : kd = ke
  · subst h1
    by_cases h2 : sd = se
    · subst h2
      by_cases h3 : dn = en
      · subst h3
        generalize (⟨dn.toArray⟩ : ByteArray) = nm at *
        by_cases h4 : dt = et
        · subst h4
          have hT : Hid (R = (ra && es)) := hide (by rw [HR.out]; simp)
          clear HR
          generalize (⟨dt.toArray⟩ : ByteArray) = tx at *
          go_enter Tryz.func40, Tryz.ntmps40
          go_wp2_with fail
          refine HA.out.mono ?_
          rintro e x1 ⟨rfl, b2⟩
          have q1 := K1.out.below b2
          have q2 := K2.out.below b2
          have s4 : x1.cell? ⟨w.heap.size, 4, none⟩ = some (.string tx) := q1.1 4
          have s5 : x1.cell? ⟨w.heap.size, 5, none⟩ = some (.slice a3 kl c3) := q1.1 5
          have t4 : x1.cell? ⟨w.heap.size + 1, 4, none⟩ = some (.string tx) := by have := q2.1 4; simpa using this
          have t5 : x1.cell? ⟨w.heap.size + 1, 5, none⟩ = some (.slice a4 jl c4) := by have := q2.1 5; simpa using this
          have HB2 := hide (HB1.out.trans (b2.mono HB1.out.size))
          clear b2 q1 q2 K1 K2 HB1
          by_cases hra : ra = true
          · subst hra
            go_wp2_with fail
            refine (HS.out _ HB2.out).mono ?_
            rintro e x2 ⟨rfl, b3⟩
            have HB3 := hide (HB2.out.trans (b3.mono HB2.out.size))
            clear b3 s4 s5 t4 t5
            go_wp2
            go_ret
            exact ⟨ret_bool (by rw [hT.out]; rfl), HB3.out⟩
          · have hra := Bool.eq_false_iff.2 hra
            subst hra
            go_wp2
            go_ret
            exact ⟨ret_bool (by rw [hT.out]; rfl), HB2.out⟩
        · have hT : Hid (R = false) := hide (by rw [HR.out, beq_eq_false_iff_ne.2 h4]; simp)
          have g4 := str_ne h4
          clear h4 HR
          generalize (⟨dt.toArray⟩ : ByteArray) = tx at *
          generalize (⟨et.toArray⟩ : ByteArray) = ty at *
          go_enter Tryz.func40, Tryz.ntmps40
          go_wp2_with fail
          refine HA.out.mono ?_
          rintro e x1 ⟨rfl, b2⟩
          have q1 := K1.out.below b2
          have q2 := K2.out.below b2
          have s4 : x1.cell? ⟨w.heap.size, 4, none⟩ = some (.string tx) := q1.1 4
          have t4 : x1.cell? ⟨w.heap.size + 1, 4, none⟩ = some (.string ty) := by have := q2.1 4; simpa using this
          have HB2 := hide (HB1.out.trans (b2.mono HB1.out.size))
          clear b2 q1 q2 K1 K2 HB1
          by_cases hra : ra = true
          · subst hra
            go_wp2
            go_ret
            exact ⟨ret_bool hT.out.symm, HB2.out⟩
          · have hra := Bool.eq_false_iff.2 hra
            subst hra
            go_wp2
            go_ret
            exact ⟨ret_bool hT.out.symm, HB2.out⟩
      · have hT : Hid (R = false) := hide (by rw [HR.out, beq_eq_false_iff_ne.2 h3]; simp)
        have g3 := str_ne h3
        clear HR HA HS K1 K2 h3
        generalize (⟨dn.toArray⟩ : ByteArray) = nm at *
        generalize (⟨en.toArray⟩ : ByteArray) = ny at *
        generalize (⟨dt.toArray⟩ : ByteArray) = tx at *
        generalize (⟨et.toArray⟩ : ByteArray) = ty at *
        go_enter Tryz.func40, Tryz.ntmps40
        go_wp2
        go_ret
        exact ⟨ret_bool hT.out.symm, HB1.out⟩
    · have hT : Hid (R = false) := hide (by rw [HR.out, beq_eq_false_iff_ne.2 h2]; simp)
      have g2 : (sd == se) = false := beq_eq_false_iff_ne.2 h2
      clear HR HA HS K1 K2 h2
      generalize (⟨dn.toArray⟩ : ByteArray) = nm at *
      generalize (⟨en.toArray⟩ : ByteArray) = ny at *
      generalize (⟨dt.toArray⟩ : ByteArray) = tx at *
      generalize (⟨et.toArray⟩ : ByteArray) = ty at *
      go_enter Tryz.func40, Tryz.ntmps40
      go_wp2
      go_ret
      exact ⟨ret_bool hT.out.symm, HB1.out⟩
  · have hT : Hid (R = false) := hide (by rw [HR.out, beq_eq_false_iff_ne.2 h1]; simp)
    have g1 : (kd == ke) = false := beq_eq_false_iff_ne.2 h1
    clear HR HA HS K1 K2 h1
    generalize (⟨dn.toArray⟩ : ByteArray) = nm at *
    generalize (⟨en.toArray⟩ : ByteArray) = ny at *
    generalize (⟨dt.toArray⟩ : ByteArray) = tx at *
    generalize (⟨et.toArray⟩ : ByteArray) = ty at *
    go_enter Tryz.func40, Tryz.ntmps40
    go_wp2
    go_ret
    exact ⟨ret_bool hT.out.symm, HB1.out⟩
theorem sames_step2 {k j : Nat} (ts : List (NT k)) (us : List (NT j)) (hl : ts.length ≤ 9223372036854775807) (hl2 : us.length ≤ 9223372036854775807) (ih : ∀ i (h1 : i < ts.length) (h2 : i < us.length), SameN2 ts[i] us[i]) : SameNs2 ts us := by
  intro B va vb w hB h1 h2
  have H1 := hide h1
  have H2 := hide h2
  obtain ⟨a1, c1, rfl⟩ := isK_form h1
  obtain ⟨a2, c2, rfl⟩ := isK_form h2
  have HBB := hide hB
  have HIH := hide ih
  clear h1 h2 ih hB
  by_cases hle : ts.length = us.length
  · have HR : Hid (∀ i, i ≤ ts.length → True) := hide fun _ _ => trivial
    generalize hR : eqTs ts us = R
    have HRR : Hid (eqG (fun x y => eqT x y) (ts.drop 0) (us.drop 0) = R) := hide (by simpa [eqTs] using hR)
    have HLE := hide hle
    have H2 : Hid (IsK B w us (.slice a2 ts.length c2)) := hide (by rw [hle]; exact H2.out)
    rw [show (Value.slice a2 us.length c2) = .slice a2 ts.length c2 by rw [hle]]
    clear hR HR hle hl2
    go_enter Tryz.func27, Tryz.ntmps27
    go_wp2
    go_loopw [5] (fun ti wr => ∃ k : Nat, k ≤ ts.length ∧ ti = .int .i64 (k : Int) ∧ Below w.heap.size w wr ∧ Hid (eqG (fun x y => eqT x y) (ts.drop k) (us.drop k) = R)) (fun ti _ => ts.length - (intOf ti).toNat)
    case atStart => exact ⟨0, by omega, rfl, Below.refl _ _, HRR⟩
    case round =>
      clear HRR
      obtain ⟨k, hk, rfl, bw, HQ⟩ := hrel
      have HBW := hide bw
      by_cases hlt : k < ts.length
      · have hlt2 : (k : Int) < ts.length := by omega
        have hlu : k < us.length := by have := HLE.out; omega
        have k1 := H1.out.below HBB.out bw
        have k2 := H2.out.below HBB.out bw
        rcases k1 with ⟨_, h0⟩ | ⟨b1, o1, cap1, e1, _, _, hn1⟩
        · rw [h0] at hlt; simp at hlt
        rcases k2 with ⟨_, h0⟩ | ⟨b2, o2, cap2, e2, _, _, hn2⟩
        · rw [h0] at hlu; simp at hlu
        injection e1 with e1 _ e1c
        injection e2 with e2 e2n e2c
        subst e1 e2 e1c e2c
        clear e2n
        obtain ⟨vs1, g1, n1⟩ := IsNs.get o1 ts hn1 k hlt
        obtain ⟨vs2, g2, n2⟩ := IsNs.get o2 us hn2 k hlu
        have HS := hide (fun W (hb : Below wr.heap.size wr W) => HIH.out k hlt hlu B vs1 vs2 W (fun j hj => Nat.lt_of_lt_of_le (HBB.out j hj) (Nat.le_trans bw.size hb.size)) (n1.on fun j hj => hb.block j (Nat.lt_of_lt_of_le (HBB.out j hj) bw.size)) (n2.on fun j hj => hb.block j (Nat.lt_of_lt_of_le (HBB.out j hj) bw.size)))
        have HQ2 : Hid ((eqT ts[k] us[k] && eqG (fun x y => eqT x y) (ts.drop (k + 1)) (us.drop (k + 1))) = R) := hide (by rw [← HQ.out, eqG_drop _ ts us k hlt hlu])
        obtain ⟨q1, q2, q3, q4, q5, q6, q7, q8, q9, q10, rfl⟩ := n1.form
        obtain ⟨p1, p2, p3, p4, p5, p6, p7, p8, p9, p10, rfl⟩ := n2.form
        have u0 : wr.cell? ⟨b1, o1 + k * 6, none⟩ = some (.int .i64 q1) := g1 0 (by omega)
        have u1 : wr.cell? ⟨b1, o1 + k * 6 + 1, none⟩ = some (.int .i64 q2) := g1 1 (by omega)
        have u2 : wr.cell? ⟨b1, o1 + k * 6 + 2, none⟩ = some (.string q3) := g1 2 (by omega)
        have u3 : wr.cell? ⟨b1, o1 + k * 6 + 3, none⟩ = some (.slice q4 q5 q6) := g1 3 (by omega)
        have u4 : wr.cell? ⟨b1, o1 + k * 6 + 4, none⟩ = some (.string q7) := g1 4 (by omega)
        have u5 : wr.cell? ⟨b1, o1 + k * 6 + 5, none⟩ = some (.slice q8 q9 q10) := g1 5 (by omega)
        have v0 : wr.cell? ⟨b2, o2 + k * 6, none⟩ = some (.int .i64 p1) := g2 0 (by omega)
        have v1 : wr.cell? ⟨b2, o2 + k * 6 + 1, none⟩ = some (.int .i64 p2) := g2 1 (by omega)
        have v2 : wr.cell? ⟨b2, o2 + k * 6 + 2, none⟩ = some (.string p3) := g2 2 (by omega)
        have v3 : wr.cell? ⟨b2, o2 + k * 6 + 3, none⟩ = some (.slice p4 p5 p6) := g2 3 (by omega)
        have v4 : wr.cell? ⟨b2, o2 + k * 6 + 4, none⟩ = some (.string p7) := g2 4 (by omega)
        have v5 : wr.cell? ⟨b2, o2 + k * 6 + 5, none⟩ = some (.slice p8 p9 p10) := g2 5 (by omega)
        have HD := hide ((Below.refl wr.heap.size wr).drew)
        clear g1 g2 n1 n2 hn1 hn2 bw HQ
        by_cases hone : eqT ts[k] us[k] = true
        · simp only [hone] at HS HQ2
          clear hone
          go_wp2_with fail
          go_region_with (go_at_call 40; refine (HS.out _ HD.out).mono ?_; rintro e x1 ⟨rfl, b1⟩; have HX := hide (HBW.out.trans ((HD.out.trans (b1.mono (Nat.le_refl _))).mono HBW.out.size)); clear b1)
          all_goals
            go_wp2
            go_roundw
            case rel => exact ⟨k + 1, by omega, by go_num, HX.out, hide (by simpa using HQ2.out)⟩
            case measure => simp [intOf]; omega
        · have hone := Bool.eq_false_iff.2 hone
          simp only [hone] at HS HQ2
          clear hone
          go_wp2_with fail
          go_region_with (go_at_call 40; refine (HS.out _ HD.out).mono ?_; rintro e x1 ⟨rfl, b1⟩; have HX := hide (HBW.out.trans ((HD.out.trans (b1.mono (Nat.le_refl _))).mono HBW.out.size)); clear b1)
          all_goals
            go_wp2
            go_ret
            exact ⟨ret_bool (by have := HQ2.out; simpa using this), HX.out⟩
      · have hlt2 : ¬ (k : Int) < ts.length := by omega
        have HF : Hid (R = true) := hide (by
          have := HLE.out
          rw [← HQ.out, List.drop_of_length_le (by omega), List.drop_of_length_le (by omega)]
          rfl)
        clear bw HQ
        go_wp2
        go_ret
        exact ⟨ret_bool HF.out.symm, HBW.out⟩
  · have hne : eqTs ts us = false := eqG_len _ _ _ hle
    rw [hne]
    have hleq : ((ts.length : Int) == (us.length : Int)) = false := beq_eq_false_iff_ne.2 (by omega)
    clear H1 H2 HIH hne
    go_enter Tryz.func27, Tryz.ntmps27
    go_wp2
    go_ret
    exact ⟨rfl, Below.refl _ _⟩
theorem same_two : ∀ {k : Nat} (t : NT k) {j : Nat} (u : NT j), OkT t → OkT u → SameN2 t u
  | 0, t, _, _, _, _ => t.none
  | k + 1, _, 0, u, _, _ => u.none
  | k + 1, t, j + 1, u, h, h2 => by
    rw [t.form, u.form]
    exact same_step2 t.nd u.nd t.kids u.kids h.1 h2.1 (sames_step2 t.kids u.kids h.2.1 h2.2.1 fun i h3 h4 => same_two _ _ (h.2.2 _ (List.getElem_mem h3)) (h2.2.2 _ (List.getElem_mem h4)))
end Go.Proofs.YtpppdfjdngmaoaaGreatDoor.G5
namespace Go.Proofs.YtpppdfjdngmaoaaGreatDoor.G5
open Go.RowKit
theorem manyTs_app {k : Nat} (a b : List (NT k)) : countTs (a ++ b) = countTs a + countTs b := by
  unfold countTs
  rw [List.map_append, List.sum_append]
theorem manyTs_take {k : Nat} (ks : List (NT (k + 1))) (i : Nat) (h : i < ks.length) : countTs (ks.take (i + 1)) = countTs (ks.take i) + 1 + countTs ks[i].kids := by
  rw [List.take_succ_eq_append_getElem h, manyTs_app, Nat.add_assoc]
  congr 1
theorem manyTs_le {k : Nat} (ks : List (NT k)) (i : Nat) : countTs (ks.take i) ≤ countTs ks := by
  have := manyTs_app (ks.take i) (ks.drop i)
  rw [List.take_append_drop] at this
  omega
theorem manyTs_len {k : Nat} : ∀ (ks : List (NT (k + 1))), ks.length ≤ countTs ks
  | [] => Nat.zero_le _
  | x :: r => by
    have h := manyTs_len r
    have : countTs (x :: r) = 1 + countTs x.kids + countTs r := rfl
    rw [List.length_cons, this]
    omega
theorem IsK.kid {B : Nat → Prop} {w : World} {k : Nat} {ts : List (NT (k + 1))} {b o : Nat} (h : IsNs B w b o ts) (i : Nat) (hi : i < ts.length) : ∃ (a : Option Addr) (c : Nat), w.cell? ⟨b, o + i * 6 + 5, none⟩ = some (.slice a ts[i].kids.length c) ∧ w.cell? ⟨b, o + i * 6, none⟩ = some (.int .i64 ts[i].nd.kind) ∧ IsK B w ts[i].kids (.slice a ts[i].kids.length c) := by
  obtain ⟨vs, g, n⟩ := IsNs.get o ts h i hi
  rw [ts[i].form, isN_iff] at n
  obtain ⟨av, kv, rfl, hA, hK⟩ := n
  obtain ⟨a, c, rfl⟩ := isK_form hK
  exact ⟨a, c, g 5 (by omega), g 0 (by omega), hK⟩
def ManyNs {k : Nat} (ts : List (NT k)) : Prop := ∀ (B : Nat → Prop) (va : Value) (w : World), (∀ k, B k → k < w.heap.size) → IsK B w ts va → Calls Tryz.prog 14 #[va] w fun e w' => e = .returned (.int .i64 (countTs ts : Int)) ∧ Below w.heap.size w w'
theorem many_step {k : Nat} (ts : List (NT (k + 1))) (hct : countTs ts ≤ 1000000) (ih : ∀ i (h : i < ts.length), ManyNs ts[i].kids) : ManyNs ts := by
  intro B va w hB h1
  have H1 := hide h1
  obtain ⟨a1, c1, rfl⟩ := isK_form h1
  have HBB := hide hB
  have HIH := hide ih
  have HTA := hide (manyTs_take ts)
  have HLE := hide (manyTs_le ts)
  have hln : ts.length ≤ 1000000 := Nat.le_trans (manyTs_len ts) hct
  clear h1 ih hB
  go_enter Tryz.func14, Tryz.ntmps14
  go_wp2
  go_loopw [3, 4] (fun v3 v4 wr => ∃ i : Nat, v4 = .int .i64 (i : Int) ∧ i ≤ ts.length ∧ v3 = .int .i64 (countTs (ts.take i) : Int) ∧ Hid (Below w.heap.size w wr)) (fun _ v4 _ => ts.length - (intOf v4).toNat)
  case atStart => exact ⟨0, rfl, by omega, rfl, hide (Below.refl _ _)⟩
  case round =>
    obtain ⟨i, rfl, hi, rfl, HBW⟩ := hrel
    have hle := HLE.out i
    by_cases hlt : i < ts.length
    · have hlt2 : (i : Int) < ts.length := by omega
      have k1 := H1.out.below HBB.out HBW.out
      rcases k1 with ⟨_, h0⟩ | ⟨b1, o1, cap1, e1, _, _, hn1⟩
      · rw [h0] at hlt; simp at hlt
      injection e1 with e1 _ e1c
      subst e1 e1c
      obtain ⟨ka, kc, u5, _, hk⟩ := IsK.kid hn1 i hlt
      have hta := HTA.out i hlt
      have hle2 := HLE.out (i + 1)
      have HC := hide (HIH.out i hlt B _ wr (fun j hj => Nat.lt_of_lt_of_le (HBB.out j hj) HBW.out.size) hk)
      have HTT : Hid ((countTs (ts.take (i + 1)) : Int) = countTs (ts.take i) + 1 + countTs ts[i].kids) := hide (by omega)
      have hb1 : countTs (ts.take i) ≤ 1000000 := by omega
      have hb2 : countTs ts[i].kids ≤ 1000000 := by omega
      clear hn1 hta hle hle2 hk
      generalize countTs ts[i].kids = ci at *
      generalize ts[i].kids.length = kl at *
      generalize hcs : countTs (ts.take i) = cs at *
      go_wp2_with fail
      refine HC.out.mono ?_
      rintro e x1 ⟨rfl, b1⟩
      have HBN := hide (HBW.out.trans (b1.mono HBW.out.size))
      clear b1 u5
      go_wp2
      go_roundw
      case rel => exact ⟨i + 1, by go_num, by omega, by rw [HTT.out], HBN⟩
      case measure => simp [intOf]; omega
    · have hlt2 : ¬ (i : Int) < ts.length := by omega
      have hke : ts.take i = ts := List.take_of_length_le (by omega)
      rw [hke]
      clear hle hke
      go_wp2
      go_ret
      exact ⟨ret_int (by omega), HBW.out⟩
theorem isK_up {B : Nat → Prop} {w : World} {ts : List (NT 0)} {va : Value} (h : IsK B w ts va) : ts = [] ∧ IsK B w ([] : List (NT 1)) va := by
  have h0 : ts = [] := by
    cases ts with
    | nil => rfl
    | cons x r => exact x.none
  subst h0
  refine ⟨rfl, ?_⟩
  rcases h with ⟨h1, _⟩ | ⟨b, o, cap, e1, e2, _, _⟩
  · exact .inl ⟨h1, rfl⟩
  · exact .inr ⟨b, o, cap, e1, e2, .inl rfl, trivial⟩
theorem many_any : ∀ {k : Nat} (ts : List (NT k)), countTs ts ≤ 1000000 → ManyNs ts
  | 0, ts, _ => by
    intro B va w hB h
    obtain ⟨rfl, h2⟩ := isK_up h
    exact many_step ([] : List (NT 1)) (Nat.zero_le _) (fun i hi => by simp at hi) B va w hB h2
  | k + 1, ts, h => many_step ts h fun i hi => many_any _ (by
    have h1 := manyTs_take ts i hi
    have h2 := manyTs_le ts (i + 1)
    omega)
def deepTs {k : Nat} (ts : List (NT k)) : Nat := maxG (fun x => deepT x) ts
theorem deepTs_take {k : Nat} (ts : List (NT (k + 1))) (i : Nat) (h : i < ts.length) : deepTs (ts.take (i + 1)) = max (deepTs (ts.take i)) (deepTs ts[i].kids + (if ts[i].nd.kind = 1 then 1 else 0)) := maxG_take _ ts i h
theorem deepTs_le {k : Nat} : ∀ (ts : List (NT k)), deepTs ts ≤ k
  | [] => Nat.zero_le _
  | x :: r => by
    have h1 := deepTs_le r
    have h2 := deep_le x
    show max (deepT x) (deepTs r) ≤ k
    omega
theorem deepT_count : ∀ {k : Nat} (t : NT k), deepT t ≤ countT t
  | 0, t => t.none
  | k + 1, t => by
    have key : ∀ l : List (NT k), maxG (fun x => deepT x) l ≤ countTs l := by
      intro l
      induction l with
      | nil => exact Nat.zero_le _
      | cons x r ih =>
        have h1 := deepT_count x
        have h2 : countTs (x :: r) = countT x + countTs r := by unfold countTs; rw [List.map_cons, List.sum_cons]
        show max (deepT x) (maxG (fun x => deepT x) r) ≤ _
        omega
    have h1 := key t.kids
    have h2 : countT t = 1 + countTs t.kids := rfl
    have h3 : deepT t = maxG (fun x => deepT x) t.kids + (if t.nd.kind = 1 then 1 else 0) := rfl
    rw [h2, h3]
    split <;> omega
theorem deepTs_count {k : Nat} : ∀ (ts : List (NT k)), deepTs ts ≤ countTs ts
  | [] => Nat.zero_le _
  | x :: r => by
    have h1 := deepTs_count r
    have h2 := deepT_count x
    have h3 : countTs (x :: r) = countT x + countTs r := by unfold countTs; rw [List.map_cons, List.sum_cons]
    show max (deepT x) (deepTs r) ≤ _
    omega
def DeepNs {k : Nat} (ts : List (NT k)) : Prop := ∀ (B : Nat → Prop) (va : Value) (w : World), (∀ k, B k → k < w.heap.size) → IsK B w ts va → Calls Tryz.prog 16 #[va] w fun e w' => e = .returned (.int .i64 (deepTs ts : Int)) ∧ Below w.heap.size w w'
theorem deep_step {k : Nat} (ts : List (NT (k + 1))) (hl : ts.length ≤ 1000000) (hct : countTs ts ≤ 1000000) (ih : ∀ i (h : i < ts.length), DeepNs ts[i].kids) : DeepNs ts := by
  intro B va w hB h1
  have H1 := hide h1
  obtain ⟨a1, c1, rfl⟩ := isK_form h1
  have HBB := hide hB
  have HIH := hide ih
  have HTA := hide (deepTs_take ts)
  have HLE : Hid (∀ i, deepTs (ts.take i) ≤ 1000000) := hide fun i => Nat.le_trans (deepTs_count _) (Nat.le_trans (manyTs_le ts i) hct)
  have HLK : Hid (∀ i (h : i < ts.length), deepTs ts[i].kids ≤ 999999) := hide fun i h => by
    have h1 := manyTs_take ts i h
    have h2 := manyTs_le ts (i + 1)
    have h3 := deepTs_count ts[i].kids
    omega
  clear hct
  clear h1 ih hB
  go_enter Tryz.func16, Tryz.ntmps16
  go_wp2
  go_loopw [3, 4] (fun v3 v4 wr => ∃ i : Nat, v4 = .int .i64 (i : Int) ∧ i ≤ ts.length ∧ v3 = .int .i64 (deepTs (ts.take i) : Int) ∧ Hid (Below w.heap.size w wr)) (fun _ v4 _ => ts.length - (intOf v4).toNat)
  case atStart => exact ⟨0, rfl, by omega, rfl, hide (Below.refl _ _)⟩
  case round =>
    obtain ⟨i, rfl, hi, rfl, HBW⟩ := hrel
    have hle := HLE.out i
    by_cases hlt : i < ts.length
    · have hlt2 : (i : Int) < ts.length := by omega
      have k1 := H1.out.below HBB.out HBW.out
      rcases k1 with ⟨_, h0⟩ | ⟨b1, o1, cap1, e1, _, _, hn1⟩
      · rw [h0] at hlt; simp at hlt
      injection e1 with e1 _ e1c
      subst e1 e1c
      obtain ⟨ka, kc, u5, u0, hk⟩ := IsK.kid hn1 i hlt
      have hta := HTA.out i hlt
      have hb2 := HLK.out i hlt
      have HC := hide (HIH.out i hlt B _ wr (fun j hj => Nat.lt_of_lt_of_le (HBB.out j hj) HBW.out.size) hk)
      have HTT := hide hta
      clear hn1 hta hk
      generalize deepTs ts[i].kids = ci at *
      generalize ts[i].kids.length = kl at *
      generalize ts[i].nd.kind = kd at *
      generalize hcs : deepTs (ts.take i) = cs at *
      go_wp2_with fail
      refine HC.out.mono ?_
      rintro e x1 ⟨rfl, b1⟩
      have HBN := hide (HBW.out.trans (b1.mono HBW.out.size))
      have u0' := (b1.cell (cell_lt u0)).trans u0
      clear b1 u5 u0
      by_cases hkd : kd = 1
      · subst hkd
        by_cases hgt : cs < ci + 1
        · have hgt2 : (cs : Int) < (ci : Int) + 1 := by omega
          have HV : Hid (deepTs (ts.take (i + 1)) = ci + 1) := hide (by rw [HTT.out, if_pos rfl]; omega)
          go_wp2
          go_roundw
          case rel => exact ⟨i + 1, by go_num, by omega, by rw [HV.out]; go_num, HBN⟩
          case measure => simp [intOf]; omega
        · have hgt2 : ¬ (cs : Int) < (ci : Int) + 1 := by omega
          have HV : Hid (deepTs (ts.take (i + 1)) = cs) := hide (by rw [HTT.out, if_pos rfl]; omega)
          go_wp2
          go_roundw
          case rel => exact ⟨i + 1, by go_num, by omega, by rw [HV.out], HBN⟩
          case measure => simp [intOf]; omega
      · have hkd2 : (kd == 1) = false := beq_eq_false_iff_ne.2 hkd
        by_cases hgt : cs < ci
        · have hgt2 : (cs : Int) < (ci : Int) := by omega
          have HV : Hid (deepTs (ts.take (i + 1)) = ci) := hide (by rw [HTT.out, if_neg hkd]; omega)
          go_wp2
          go_roundw
          case rel => exact ⟨i + 1, by go_num, by omega, by rw [HV.out], HBN⟩
          case measure => simp [intOf]; omega
        · have hgt2 : ¬ (cs : Int) < (ci : Int) := by omega
          have HV : Hid (deepTs (ts.take (i + 1)) = cs) := hide (by rw [HTT.out, if_neg hkd]; omega)
          go_wp2
          go_roundw
          case rel => exact ⟨i + 1, by go_num, by omega, by rw [HV.out], HBN⟩
          case measure => simp [intOf]; omega
    · have hlt2 : ¬ (i : Int) < ts.length := by omega
      have hke : ts.take i = ts := List.take_of_length_le (by omega)
      rw [hke] at hle ⊢
      clear hke
      go_wp2
      go_ret
      exact ⟨ret_int (by omega), HBW.out⟩
theorem deep_any : ∀ {k : Nat} (ts : List (NT k)), countTs ts ≤ 1000000 → DeepNs ts
  | 0, ts, _ => by
    intro B va w hB h
    obtain ⟨rfl, h2⟩ := isK_up h
    exact deep_step ([] : List (NT 1)) (Nat.zero_le _) (Nat.zero_le _) (fun i hi => by simp at hi) B va w hB h2
  | k + 1, ts, h => deep_step ts (Nat.le_trans (manyTs_len ts) h) h fun i hi => deep_any _ (by
    have h1 := manyTs_take ts i hi
    have h2 := manyTs_le ts (i + 1)
    omega)
end Go.Proofs.YtpppdfjdngmaoaaGreatDoor.G5
namespace Go.Proofs.YtpppdfjdngmaoaaGreatDoor.G5
open Go.RowKit
def fewG {α : Type} (f : Nat → α → Nat) (bound : Nat) : Nat → List α → Nat
  | n, [] => n
  | n, x :: r => if n < bound then fewG f bound (n + 1 + f (bound - n) x) r else n
theorem fewG_le {α : Type} {f : Nat → α → Nat} {bound d : Nat} (hf : ∀ b x, f b x ≤ b + d) : ∀ (n : Nat) (l : List α), n ≤ bound + d + 1 → fewG f bound n l ≤ bound + d + 1
  | n, [], h => h
  | n, x :: r, h => by
    unfold fewG
    split
    · have := hf (bound - n) x
      exact fewG_le hf _ r (by omega)
    · exact h
theorem fewG_at {α : Type} (f : Nat → α → Nat) (bound n : Nat) (l : List α) (i : Nat) (hi : i < l.length) (hn : n < bound) : fewG f bound n (l.drop i) = fewG f bound (n + 1 + f (bound - n) l[i]) (l.drop (i + 1)) := by
  rw [List.drop_eq_getElem_cons hi, fewG, if_pos hn]
theorem fewG_end {α : Type} (f : Nat → α → Nat) (bound n : Nat) (hn : ¬ n < bound) : ∀ (l : List α), fewG f bound n l = n
  | [] => rfl
  | x :: r => by rw [fewG, if_neg hn]
theorem fewG_ge {α : Type} (f : Nat → α → Nat) (bound : Nat) : ∀ (n : Nat) (l : List α), n ≤ fewG f bound n l
  | n, [] => Nat.le_refl _
  | n, x :: r => by
    unfold fewG
    split
    · have := fewG_ge f bound (n + 1 + f (bound - n) x) r
      omega
    · exact Nat.le_refl _
def fewL : (deep bound : Nat) → {k : Nat} → List (NT k) → Nat
  | 0, bound, _, _ => bound
  | deep + 1, bound, 0, _ => 0
  | deep + 1, bound, k + 1, ts => fewG (fun b x => fewL deep b x.kids) bound 0 ts
theorem fewL_le : ∀ (deep bound : Nat) {k : Nat} (ts : List (NT k)), fewL deep bound ts ≤ bound + deep
  | 0, bound, _, _ => Nat.le_refl _
  | deep + 1, bound, 0, _ => Nat.zero_le _
  | deep + 1, bound, k + 1, ts => fewG_le (fun b x => fewL_le deep b x.kids) 0 ts (Nat.zero_le _)
theorem fewG_few {α : Type} {f g : Nat → α → Nat} {bound : Nat} {c : α → Nat} (hf : ∀ b x, f b x < b → c x = f b x) : ∀ (n : Nat) (l : List α), fewG f bound n l < bound → fewG f bound n l = n + (l.map fun x => 1 + c x).sum
  | n, [], _ => rfl
  | n, x :: r, h => by
    have hn : n < bound := by
      have := fewG_ge f bound n (x :: r)
      omega
    rw [fewG, if_pos hn] at h ⊢
    have h2 := fewG_ge f bound (n + 1 + f (bound - n) x) r
    have h3 := hf (bound - n) x (by omega)
    rw [fewG_few (g := g) hf _ r h, ← h3, List.map_cons, List.sum_cons]
    omega
theorem few_count : ∀ (deep bound : Nat) {k : Nat} (ts : List (NT k)), fewL deep bound ts < bound → countTs ts = fewL deep bound ts
  | 0, bound, _, _, h => absurd h (Nat.lt_irrefl _)
  | deep + 1, bound, 0, ts, h => by
    cases ts with
    | nil => rfl
    | cons x r => exact x.none
  | deep + 1, bound, k + 1, ts, h => by
    have := fewG_few (g := fun _ _ => 0) (c := fun x : NT (k + 1) => countTs x.kids) (fun b x hx => few_count deep b x.kids hx) 0 ts h
    show countTs ts = fewG (fun b x => fewL deep b x.kids) bound 0 ts
    rw [this, Nat.zero_add]
    rfl
def FewNs (deep : Nat) {k : Nat} (ts : List (NT k)) : Prop := ∀ (B : Nat → Prop) (va : Value) (w : World) (bound : Nat), bound ≤ 300 → (∀ k, B k → k < w.heap.size) → IsK B w ts va → Calls Tryz.prog 9 #[va, .int .i64 (bound : Int), .int .i64 (deep : Int)] w fun e w' => e = .returned (.int .i64 (fewL deep bound ts : Int)) ∧ Below w.heap.size w w'
theorem few_none {k : Nat} (ts : List (NT k)) : FewNs 0 ts := by
  intro B va w bound hb hB h
  obtain ⟨a1, c1, rfl⟩ := isK_form h
  clear h hB
  go_enter Tryz.func9, Tryz.ntmps9
  go_wp2
  go_ret
  exact ⟨rfl, Below.refl _ _⟩
theorem few_step {k : Nat} (deep : Nat) (hd : deep ≤ 100) (ts : List (NT (k + 1))) (hl : ts.length ≤ 9223372036854775807) (ih : ∀ i (h : i < ts.length), FewNs deep ts[i].kids) : FewNs (deep + 1) ts := by
  intro B va w bound hbd hB h1
  have H1 := hide h1
  obtain ⟨a1, c1, rfl⟩ := isK_form h1
  have HBB := hide hB
  have HIH := hide ih
  have HLE : Hid (∀ b (x : NT (k + 1)), fewL deep b x.kids ≤ b + deep) := hide fun b x => fewL_le deep b x.kids
  have HRR : Hid (fewG (fun b x => fewL deep b x.kids) bound 0 (ts.drop 0) = fewL (deep + 1) bound ts) := hide (by rw [List.drop_zero]; rfl)
  generalize fewL (deep + 1) bound ts = R at *
  have hd0 : ((deep : Int) + 1 == 0) = false := beq_eq_false_iff_ne.2 (by omega)
  clear h1 ih hB
  rw [show ((deep + 1 : Nat) : Int) = (deep : Int) + 1 by omega]
  go_enter Tryz.func9, Tryz.ntmps9
  go_wp2
  go_loopw [7, 8] (fun vn vi wr => ∃ i n : Nat, vi = .int .i64 (i : Int) ∧ i ≤ ts.length ∧ vn = .int .i64 (n : Int) ∧ n ≤ bound + deep + 1 ∧ Hid (fewG (fun b x => fewL deep b x.kids) bound n (ts.drop i) = R) ∧ Hid (Below w.heap.size w wr)) (fun _ vi _ => ts.length - (intOf vi).toNat)
  case atStart => exact ⟨0, 0, rfl, by omega, rfl, by omega, HRR, hide (Below.refl _ _)⟩
  case round =>
    clear HRR
    obtain ⟨i, n, rfl, hi, rfl, hn, HQ, HBW⟩ := hrel
    by_cases hlt : i < ts.length
    · have hlt2 : (i : Int) < ts.length := by omega
      by_cases hnb : n < bound
      · have hnb2 : (n : Int) < bound := by omega
        have k1 := H1.out.below HBB.out HBW.out
        rcases k1 with ⟨_, h0⟩ | ⟨b1, o1, cap1, e1, _, _, hn1⟩
        · rw [h0] at hlt; simp at hlt
        injection e1 with e1 _ e1c
        subst e1 e1c
        obtain ⟨ka, kc, u5, _, hk⟩ := IsK.kid hn1 i hlt
        have hce := HLE.out (bound - n) ts[i]
        have HC := hide (HIH.out i hlt B _ wr (bound - n) (by omega) (fun j hj => Nat.lt_of_lt_of_le (HBB.out j hj) HBW.out.size) hk)
        rw [show ((bound - n : Nat) : Int) = (bound : Int) - n by omega] at HC
        have HQ2 : Hid (fewG (fun b x => fewL deep b x.kids) bound (n + 1 + fewL deep (bound - n) ts[i].kids) (ts.drop (i + 1)) = R) := hide (by rw [← HQ.out, fewG_at _ bound n ts i hlt hnb])
        clear hn1 hk HQ
        generalize fewL deep (bound - n) ts[i].kids = ci at *
        generalize ts[i].kids.length = kl at *
        go_wp2_with fail
        refine HC.out.mono ?_
        rintro e x1 ⟨rfl, b1⟩
        have HBN := hide (HBW.out.trans (b1.mono HBW.out.size))
        clear b1 u5
        go_wp2
        go_roundw
        case rel => exact ⟨i + 1, n + 1 + ci, by go_num, by omega, by go_num, by omega, HQ2, HBN⟩
        case measure => simp [intOf]; omega
      · have hnb2 : ¬ (n : Int) < bound := by omega
        have HF : Hid (R = n) := hide (by rw [← HQ.out, fewG_end _ _ _ hnb])
        clear HQ
        go_wp2
        go_ret
        exact ⟨ret_int (by have := HF.out; omega), HBW.out⟩
    · have hlt2 : ¬ (i : Int) < ts.length := by omega
      have HF : Hid (R = n) := hide (by
        rw [← HQ.out, List.drop_of_length_le (by omega)]
        rfl)
      clear HQ
      go_wp2
      go_ret
      exact ⟨ret_int (by have := HF.out; omega), HBW.out⟩
theorem few_any : ∀ (deep : Nat) (hd : deep ≤ 100) {k : Nat} (ts : List (NT k)), ts.length ≤ 9223372036854775807 → OkTs ts → FewNs deep ts
  | 0, _, _, ts, _, _ => few_none ts
  | deep + 1, hd, 0, ts, _, _ => by
    intro B va w bound hbd hB h
    obtain ⟨rfl, h2⟩ := isK_up h
    exact few_step deep (by omega) ([] : List (NT 1)) (Nat.zero_le _) (fun i hi => by simp at hi) B va w bound hbd hB h2
  | deep + 1, hd, k + 1, ts, hl, h => few_step deep (by omega) ts hl fun i hi => few_any deep (by omega) _ (h _ (List.getElem_mem hi)).2.1 (h _ (List.getElem_mem hi)).2.2
end Go.Proofs.YtpppdfjdngmaoaaGreatDoor.G5
