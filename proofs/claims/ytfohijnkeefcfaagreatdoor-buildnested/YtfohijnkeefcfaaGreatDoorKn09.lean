import Derived.Test.YtfohijnkeefcfaaGreatDoorKn01
import Derived.Test.YtfohijnkeefcfaaGreatDoorKn04
import Derived.Test.YtfohijnkeefcfaaGreatDoorKn06
import Derived.Test.YtfohijnkeefcfaaGreatDoorKn07
import Derived.Test.YtfohijnkeefcfaaGreatDoorKn08
import Derived.Deep.RegionWith
set_option linter.unusedVariables false
set_option linter.unusedSimpArgs false
set_option maxRecDepth 100000
set_option maxHeartbeats 8000000
namespace Go.Proofs.YtfohijnkeefcfaaGreatDoor.G5
open Go.RowKit
def OkT : {k : Nat} -> NT k -> Prop
  | 0, _ => True
  | k + 1, t => t.nd.attrs.length <= 9223372036854775807 /\ t.kids.length <= 9223372036854775807 /\ ∀ x ∈ t.kids, OkT x
def OkTs {k : Nat} (ks : List (NT k)) : Prop := ∀ x ∈ ks, OkT x
theorem IsK.below {B : Nat -> Prop} {w W : World} {k : Nat} {ks : List (NT k)} {kv : Value} (hB : ∀ k, B k -> k < w.heap.size) (h : IsK B w ks kv) (hb : Below w.heap.size w W) : IsK B W ks kv := by
  rcases h with h | ⟨b, o, cap, e1, e2, e3, e4⟩
  · exact .inl h
  · refine .inr ⟨b, o, cap, e1, e2, e3, ?_⟩
    rcases e3 with rfl | e3
    · trivial
    · exact IsNs.keep (fun k hk => hb.block k (hB k hk)) (fun _ h => h) b e3 o ks e4
theorem IsN.form {B : Nat -> Prop} {w : World} : ∀ {k : Nat} {t : NT k} {vs : List Value}, IsN B w t vs -> ∃ (k s : Int) (nm : ByteArray) (a1 : Option Addr) (n1 c1 : Nat) (tx : ByteArray) (a2 : Option Addr) (n2 c2 : Nat), vs = [.int .i64 k, .int .i64 s, .string nm, .slice a1 n1 c1, .string tx, .slice a2 n2 c2]
  | 0, t, _, _ => t.none
  | k + 1, t, vs, h => by
    rw [t.form, isN_iff] at h
    obtain ⟨av, kv, rfl, hA, hK⟩ := h
    obtain ⟨a1, c1, rfl⟩ := isA_form hA.1
    obtain ⟨a3, c3, rfl⟩ := isK_form hK
    exact ⟨_, _, _, _, _, _, _, _, _, _, rfl⟩
end Go.Proofs.YtfohijnkeefcfaaGreatDoor.G5
namespace Go.Proofs.YtfohijnkeefcfaaGreatDoor.G5
open Go.RowKit
def eqTs {k j : Nat} (a : List (NT k)) (b : List (NT j)) : Bool := eqG (fun x y => eqT x y) a b
def SameN2 {k j : Nat} (t : NT k) (u : NT j) : Prop := ∀ (B : Nat -> Prop) (va vb : List Value) (w : World), (∀ k, B k -> k < w.heap.size) -> IsN B w t va -> IsN B w u vb -> Calls Tryz.prog 38 #[.agg va.toArray, .agg vb.toArray] w fun e w' => e = .returned (.bool (eqT t u)) /\ Below w.heap.size w w'
def SameNs2 {k j : Nat} (ts : List (NT k)) (us : List (NT j)) : Prop := ∀ (B : Nat -> Prop) (va vb : Value) (w : World), (∀ k, B k -> k < w.heap.size) -> IsK B w ts va -> IsK B w us vb -> Calls Tryz.prog 22 #[va, vb] w fun e w' => e = .returned (.bool (eqTs ts us)) /\ Below w.heap.size w w'
theorem str_ne {a b : List UInt8} (h : ¬ a = b) : ¬ (⟨a.toArray⟩ : ByteArray).toList = (⟨b.toArray⟩ : ByteArray).toList := fun h2 => h (by rw [Lib.toList_data, Lib.toList_data, str_data, str_data] at h2; exact h2)
theorem same_step2 {k j : Nat} (d e : ND) (ks : List (NT k)) (js : List (NT j)) (ha : d.attrs.length <= 9223372036854775807) (hb : e.attrs.length <= 9223372036854775807) (ih : SameNs2 ks js) : SameN2 (NT.mk d ks) (NT.mk e js) := by
  intro B va vb w hB h1 h2
  rw [isN_iff] at h1 h2
  obtain ⟨av1, kv1, rfl, hA1, hK1⟩ := h1
  obtain ⟨av2, kv2, rfl, hA2, hK2⟩ := h2
  obtain ⟨a1, c1, rfl⟩ := isA_form hA1.1
  obtain ⟨a2, c2, rfl⟩ := isA_form hA2.1
  obtain ⟨a3, c3, rfl⟩ := isK_form hK1
  obtain ⟨a4, c4, rfl⟩ := isK_form hK2
  unfold nodeC
  have b0 := below_alloc w (.cells #[.int .i64 d.kind, .int .i64 d.space, .string ⟨d.name.toArray⟩, .slice a1 d.attrs.length c1, .string ⟨d.text.toArray⟩, .slice a3 ks.length c3] 45)
  have b1 := b0.alloc b0.size (.cells #[.int .i64 e.kind, .int .i64 e.space, .string ⟨e.name.toArray⟩, .slice a2 e.attrs.length c2, .string ⟨e.text.toArray⟩, .slice a4 js.length c4] 45)
  have HA := hide (attrs_any (.slice a1 d.attrs.length c1) (.slice a2 e.attrs.length c2) d.attrs e.attrs ha hb _ (hA1.1.below b1) (hA2.1.below b1))
  have K1 := hide ((Kept.new w [.int .i64 d.kind, .int .i64 d.space, .string ⟨d.name.toArray⟩, .slice a1 d.attrs.length c1, .string ⟨d.text.toArray⟩, .slice a3 ks.length c3] 45).alloc (.cells #[.int .i64 e.kind, .int .i64 e.space, .string ⟨e.name.toArray⟩, .slice a2 e.attrs.length c2, .string ⟨e.text.toArray⟩, .slice a4 js.length c4] 45))
  have K2 := hide (Kept.new (w.alloc (.cells #[.int .i64 d.kind, .int .i64 d.space, .string ⟨d.name.toArray⟩, .slice a1 d.attrs.length c1, .string ⟨d.text.toArray⟩, .slice a3 ks.length c3] 45)) [.int .i64 e.kind, .int .i64 e.space, .string ⟨e.name.toArray⟩, .slice a2 e.attrs.length c2, .string ⟨e.text.toArray⟩, .slice a4 js.length c4] 45)
  have HB1 := hide b1
  have HS : Hid (∀ W, Below w.heap.size w W -> Calls Tryz.prog 22 #[.slice a3 ks.length c3, .slice a4 js.length c4] W fun e w' => e = .returned (.bool (eqTs ks js)) /\ Below W.heap.size W w') := hide fun W hb => ih B _ _ W (fun k hk => Nat.lt_of_lt_of_le (hB k hk) hb.size) (hK1.below hB hb) (hK2.below hB hb)
  have HR : Hid (eqT (NT.mk d ks) (NT.mk e js) = (d.kind == e.kind && d.space == e.space && d.name == e.name && d.attrs == e.attrs && d.text == e.text && eqTs ks js)) := hide rfl
  generalize eqT (NT.mk d ks) (NT.mk e js) = R at *
  clear b0 b1 hA1 hA2 hK1 hK2 ih hB
  generalize (d.attrs == e.attrs) = ra at *
  generalize d.attrs.length = al at *
  generalize e.attrs.length = bl at *
  generalize ks.length = kl at *
  generalize js.length = jl at *
  generalize eqTs ks js = es at *
  generalize d.kind = kd at *
  generalize e.kind = ke at *
  generalize d.space = sd at *
  generalize e.space = se at *
  generalize d.name = dn at *
  generalize e.name = en at *
  generalize d.text = dt at *
  generalize e.text = et at *
  by_cases h1 : kd = ke
  · subst h1
    by_cases h2 : sd = se
    · subst h2
      by_cases h3 : dn = en
      · subst h3
        generalize (⟨dn.toArray⟩ : ByteArray) = nm at *
        by_cases h4 : dt = et
        · subst h4
          have hT : Hid (R = (ra && es)) := hide (by rw [HR.out]; simp)
          clear HR
          generalize (⟨dt.toArray⟩ : ByteArray) = tx at *
          go_enter Tryz.func38, Tryz.ntmps38
          go_wp2_with fail
          refine HA.out.mono ?_
          rintro e x1 ⟨rfl, b2⟩
          have q1 := K1.out.below b2
          have q2 := K2.out.below b2
          have s4 : x1.cell? ⟨w.heap.size, 4, none⟩ = some (.string tx) := q1.1 4
          have s5 : x1.cell? ⟨w.heap.size, 5, none⟩ = some (.slice a3 kl c3) := q1.1 5
          have t4 : x1.cell? ⟨w.heap.size + 1, 4, none⟩ = some (.string tx) := by have := q2.1 4; simpa using this
          have t5 : x1.cell? ⟨w.heap.size + 1, 5, none⟩ = some (.slice a4 jl c4) := by have := q2.1 5; simpa using this
          have HB2 := hide (HB1.out.trans (b2.mono HB1.out.size))
          clear b2 q1 q2 K1 K2 HB1
          by_cases hra : ra = true
          · subst hra
            go_wp2_with fail
            refine (HS.out _ HB2.out).mono ?_
            rintro e x2 ⟨rfl, b3⟩
            have HB3 := hide (HB2.out.trans (b3.mono HB2.out.size))
            clear b3 s4 s5 t4 t5
            go_wp2
            go_ret
            exact ⟨ret_bool (by rw [hT.out]; rfl), HB3.out⟩
          · have hra := Bool.eq_false_iff.2 hra
            subst hra
            go_wp2
            go_ret
            exact ⟨ret_bool (by rw [hT.out]; rfl), HB2.out⟩
        · have hT : Hid (R = false) := hide (by rw [HR.out, beq_eq_false_iff_ne.2 h4]; simp)
          have g4 := str_ne h4
          clear h4 HR
          generalize (⟨dt.toArray⟩ : ByteArray) = tx at *
          generalize (⟨et.toArray⟩ : ByteArray) = ty at *
          go_enter Tryz.func38, Tryz.ntmps38
          go_wp2_with fail
          refine HA.out.mono ?_
          rintro e x1 ⟨rfl, b2⟩
          have q1 := K1.out.below b2
          have q2 := K2.out.below b2
          have s4 : x1.cell? ⟨w.heap.size, 4, none⟩ = some (.string tx) := q1.1 4
          have t4 : x1.cell? ⟨w.heap.size + 1, 4, none⟩ = some (.string ty) := by have := q2.1 4; simpa using this
          have HB2 := hide (HB1.out.trans (b2.mono HB1.out.size))
          clear b2 q1 q2 K1 K2 HB1
          by_cases hra : ra = true
          · subst hra
            go_wp2
            go_ret
            exact ⟨ret_bool hT.out.symm, HB2.out⟩
          · have hra := Bool.eq_false_iff.2 hra
            subst hra
            go_wp2
            go_ret
            exact ⟨ret_bool hT.out.symm, HB2.out⟩
      · have hT : Hid (R = false) := hide (by rw [HR.out, beq_eq_false_iff_ne.2 h3]; simp)
        have g3 := str_ne h3
        clear HR HA HS K1 K2 h3
        generalize (⟨dn.toArray⟩ : ByteArray) = nm at *
        generalize (⟨en.toArray⟩ : ByteArray) = ny at *
        generalize (⟨dt.toArray⟩ : ByteArray) = tx at *
        generalize (⟨et.toArray⟩ : ByteArray) = ty at *
        go_enter Tryz.func38, Tryz.ntmps38
        go_wp2
        go_ret
        exact ⟨ret_bool hT.out.symm, HB1.out⟩
    · have hT : Hid (R = false) := hide (by rw [HR.out, beq_eq_false_iff_ne.2 h2]; simp)
      have g2 : (sd == se) = false := beq_eq_false_iff_ne.2 h2
      clear HR HA HS K1 K2 h2
      generalize (⟨dn.toArray⟩ : ByteArray) = nm at *
      generalize (⟨en.toArray⟩ : ByteArray) = ny at *
      generalize (⟨dt.toArray⟩ : ByteArray) = tx at *
      generalize (⟨et.toArray⟩ : ByteArray) = ty at *
      go_enter Tryz.func38, Tryz.ntmps38
      go_wp2
      go_ret
      exact ⟨ret_bool hT.out.symm, HB1.out⟩
  · have hT : Hid (R = false) := hide (by rw [HR.out, beq_eq_false_iff_ne.2 h1]; simp)
    have g1 : (kd == ke) = false := beq_eq_false_iff_ne.2 h1
    clear HR HA HS K1 K2 h1
    generalize (⟨dn.toArray⟩ : ByteArray) = nm at *
    generalize (⟨en.toArray⟩ : ByteArray) = ny at *
    generalize (⟨dt.toArray⟩ : ByteArray) = tx at *
    generalize (⟨et.toArray⟩ : ByteArray) = ty at *
    go_enter Tryz.func38, Tryz.ntmps38
    go_wp2
    go_ret
    exact ⟨ret_bool hT.out.symm, HB1.out⟩
theorem sames_step2 {k j : Nat} (ts : List (NT k)) (us : List (NT j)) (hl : ts.length <= 9223372036854775807) (hl2 : us.length <= 9223372036854775807) (ih : ∀ i (h1 : i < ts.length) (h2 : i < us.length), SameN2 ts[i] us[i]) : SameNs2 ts us := by
  intro B va vb w hB h1 h2
  have H1 := hide h1
  have H2 := hide h2
  obtain ⟨a1, c1, rfl⟩ := isK_form h1
  obtain ⟨a2, c2, rfl⟩ := isK_form h2
  have HBB := hide hB
  have HIH := hide ih
  clear h1 h2 ih hB
  by_cases hle : ts.length = us.length
  · have HR : Hid (∀ i, i <= ts.length -> True) := hide fun _ _ => trivial
    generalize hR : eqTs ts us = R
    have HRR : Hid (eqG (fun x y => eqT x y) (ts.drop 0) (us.drop 0) = R) := hide (by simpa [eqTs] using hR)
    have HLE := hide hle
    have H2 : Hid (IsK B w us (.slice a2 ts.length c2)) := hide (by rw [hle]; exact H2.out)
    rw [show (Value.slice a2 us.length c2) = .slice a2 ts.length c2 by rw [hle]]
    clear hR HR hle hl2
    go_enter Tryz.func22, Tryz.ntmps22
    go_wp2
    go_loopw [5] (fun ti wr => ∃ k : Nat, k <= ts.length /\ ti = .int .i64 (k : Int) /\ Below w.heap.size w wr /\ Hid (eqG (fun x y => eqT x y) (ts.drop k) (us.drop k) = R)) (fun ti _ => ts.length - (intOf ti).toNat)
    case atStart => exact ⟨0, by omega, rfl, Below.refl _ _, HRR⟩
    case round =>
      clear HRR
      obtain ⟨k, hk, rfl, bw, HQ⟩ := hrel
      have HBW := hide bw
      by_cases hlt : k < ts.length
      · have hlt2 : (k : Int) < ts.length := by omega
        have hlu : k < us.length := by have := HLE.out; omega
        have k1 := H1.out.below HBB.out bw
        have k2 := H2.out.below HBB.out bw
        rcases k1 with ⟨_, h0⟩ | ⟨b1, o1, cap1, e1, _, _, hn1⟩
        · rw [h0] at hlt; simp at hlt
        rcases k2 with ⟨_, h0⟩ | ⟨b2, o2, cap2, e2, _, _, hn2⟩
        · rw [h0] at hlu; simp at hlu
        injection e1 with e1 _ e1c
        injection e2 with e2 e2n e2c
        subst e1 e2 e1c e2c
        clear e2n
        obtain ⟨vs1, g1, n1⟩ := IsNs.get o1 ts hn1 k hlt
        obtain ⟨vs2, g2, n2⟩ := IsNs.get o2 us hn2 k hlu
        have HS := hide (fun W (hb : Below wr.heap.size wr W) => HIH.out k hlt hlu B vs1 vs2 W (fun j hj => Nat.lt_of_lt_of_le (HBB.out j hj) (Nat.le_trans bw.size hb.size)) (n1.on fun j hj => hb.block j (Nat.lt_of_lt_of_le (HBB.out j hj) bw.size)) (n2.on fun j hj => hb.block j (Nat.lt_of_lt_of_le (HBB.out j hj) bw.size)))
        have HQ2 : Hid ((eqT ts[k] us[k] && eqG (fun x y => eqT x y) (ts.drop (k + 1)) (us.drop (k + 1))) = R) := hide (by rw [<- HQ.out, eqG_drop _ ts us k hlt hlu])
        obtain ⟨q1, q2, q3, q4, q5, q6, q7, q8, q9, q10, rfl⟩ := n1.form
        obtain ⟨p1, p2, p3, p4, p5, p6, p7, p8, p9, p10, rfl⟩ := n2.form
        have u0 : wr.cell? ⟨b1, o1 + k * 6, none⟩ = some (.int .i64 q1) := g1 0 (by omega)
        have u1 : wr.cell? ⟨b1, o1 + k * 6 + 1, none⟩ = some (.int .i64 q2) := g1 1 (by omega)
        have u2 : wr.cell? ⟨b1, o1 + k * 6 + 2, none⟩ = some (.string q3) := g1 2 (by omega)
        have u3 : wr.cell? ⟨b1, o1 + k * 6 + 3, none⟩ = some (.slice q4 q5 q6) := g1 3 (by omega)
        have u4 : wr.cell? ⟨b1, o1 + k * 6 + 4, none⟩ = some (.string q7) := g1 4 (by omega)
        have u5 : wr.cell? ⟨b1, o1 + k * 6 + 5, none⟩ = some (.slice q8 q9 q10) := g1 5 (by omega)
        have v0 : wr.cell? ⟨b2, o2 + k * 6, none⟩ = some (.int .i64 p1) := g2 0 (by omega)
        have v1 : wr.cell? ⟨b2, o2 + k * 6 + 1, none⟩ = some (.int .i64 p2) := g2 1 (by omega)
        have v2 : wr.cell? ⟨b2, o2 + k * 6 + 2, none⟩ = some (.string p3) := g2 2 (by omega)
        have v3 : wr.cell? ⟨b2, o2 + k * 6 + 3, none⟩ = some (.slice p4 p5 p6) := g2 3 (by omega)
        have v4 : wr.cell? ⟨b2, o2 + k * 6 + 4, none⟩ = some (.string p7) := g2 4 (by omega)
        have v5 : wr.cell? ⟨b2, o2 + k * 6 + 5, none⟩ = some (.slice p8 p9 p10) := g2 5 (by omega)
        have HD := hide ((Below.refl wr.heap.size wr).drew)
        clear g1 g2 n1 n2 hn1 hn2 bw HQ
        by_cases hone : eqT ts[k] us[k] = true
        · simp only [hone] at HS HQ2
          clear hone
          go_wp2_with fail
          go_region_with (go_at_call 38; refine (HS.out _ HD.out).mono ?_; rintro e x1 ⟨rfl, b1⟩; have HX := hide (HBW.out.trans ((HD.out.trans (b1.mono (Nat.le_refl _))).mono HBW.out.size)); clear b1)
          all_goals
            go_wp2
            go_roundw
            case rel => exact ⟨k + 1, by omega, by go_num, HX.out, hide (by simpa using HQ2.out)⟩
            case measure => simp [intOf]; omega
        · have hone := Bool.eq_false_iff.2 hone
          simp only [hone] at HS HQ2
          clear hone
          go_wp2_with fail
          go_region_with (go_at_call 38; refine (HS.out _ HD.out).mono ?_; rintro e x1 ⟨rfl, b1⟩; have HX := hide (HBW.out.trans ((HD.out.trans (b1.mono (Nat.le_refl _))).mono HBW.out.size)); clear b1)
          all_goals
            go_wp2
            go_ret
            exact ⟨ret_bool (by have := HQ2.out; simpa using this), HX.out⟩
      · have hlt2 : ¬ (k : Int) < ts.length := by omega
        have HF : Hid (R = true) := hide (by
          have := HLE.out
          rw [<- HQ.out, List.drop_of_length_le (by omega), List.drop_of_length_le (by omega)]
          rfl)
        clear bw HQ
        go_wp2
        go_ret
        exact ⟨ret_bool HF.out.symm, HBW.out⟩
  · have hne : eqTs ts us = false := eqG_len _ _ _ hle
    rw [hne]
    have hleq : ((ts.length : Int) == (us.length : Int)) = false := beq_eq_false_iff_ne.2 (by omega)
    clear H1 H2 HIH hne
    go_enter Tryz.func22, Tryz.ntmps22
    go_wp2
    go_ret
    exact ⟨rfl, Below.refl _ _⟩
theorem same_two : ∀ {k : Nat} (t : NT k) {j : Nat} (u : NT j), OkT t -> OkT u -> SameN2 t u
  | 0, t, _, _, _, _ => t.none
  | k + 1, _, 0, u, _, _ => u.none
  | k + 1, t, j + 1, u, h, h2 => by
    rw [t.form, u.form]
    exact same_step2 t.nd u.nd t.kids u.kids h.1 h2.1 (sames_step2 t.kids u.kids h.2.1 h2.2.1 fun i h3 h4 => same_two _ _ (h.2.2 _ (List.getElem_mem h3)) (h2.2.2 _ (List.getElem_mem h4)))
end Go.Proofs.YtfohijnkeefcfaaGreatDoor.G5
namespace Go.Proofs.YtfohijnkeefcfaaGreatDoor.P9
open Go.RowKit
def ampE : List UInt8 := [38, 97, 109, 112, 59]
def ltE : List UInt8 := [38, 108, 116, 59]
def gtE : List UInt8 := [38, 103, 116, 59]
def quotE : List UInt8 := [38, 113, 117, 111, 116, 59]
def nbspE : List UInt8 := [38, 110, 98, 115, 112, 59]
def oneB (attr : Bool) (c : UInt8) : List UInt8 := if c = 38 then ampE else if c = 60 then ltE else if c = 62 then gtE else if c = 34 /\ attr = true then quotE else [c]
def escG (attr : Bool) : Bool -> List UInt8 -> List UInt8
  | _, [] => []
  | true, _ :: r => escG attr false r
  | false, c :: r => if c = 194 /\ r.head? = some 160 then nbspE ++ escG attr true r else oneB attr c ++ escG attr false r
def escL (attr : Bool) (l : List UInt8) : List UInt8 := escG attr false l
theorem oneB_len (attr : Bool) (c : UInt8) : 1 <= (oneB attr c).length /\ (oneB attr c).length <= 6 := by
  unfold oneB
  split
  · decide
  · split
    · decide
    · split
      · decide
      · split
        · decide
        · simp
theorem escG_len (attr : Bool) : ∀ (b : Bool) (l : List UInt8), (escG attr b l).length <= 6 * l.length
  | b, [] => by cases b <;> simp [escG]
  | true, c :: r => by
    have := escG_len attr false r
    rw [escG, List.length_cons]
    omega
  | false, c :: r => by
    have h1 := escG_len attr false r
    have h2 := escG_len attr true r
    have h3 := oneB_len attr c
    rw [escG]
    split
    · rw [List.length_append, List.length_cons]
      simp only [nbspE, List.length_cons, List.length_nil]
      omega
    · rw [List.length_append, List.length_cons]
      omega
theorem escL_len (attr : Bool) (l : List UInt8) : (escL attr l).length <= 6 * l.length := escG_len attr false l
theorem lits_no : ∀ x ∈ ampE ++ ltE ++ gtE ++ quotE ++ nbspE, x ≠ 60 /\ x ≠ 62 /\ x ≠ 34 := by decide +kernel
theorem oneB_no (attr : Bool) (c x : UInt8) (h : x ∈ oneB attr c) : x ≠ 60 /\ x ≠ 62 /\ (attr = true -> x ≠ 34) := by
  unfold oneB at h
  split at h
  · obtain ⟨a, b, c⟩ := lits_no x (by simp [h]); exact ⟨a, b, fun _ => c⟩
  · split at h
    · obtain ⟨a, b, c⟩ := lits_no x (by simp [h]); exact ⟨a, b, fun _ => c⟩
    · split at h
      · obtain ⟨a, b, c⟩ := lits_no x (by simp [h]); exact ⟨a, b, fun _ => c⟩
      · split at h
        · obtain ⟨a, b, c⟩ := lits_no x (by simp [h]); exact ⟨a, b, fun _ => c⟩
        · rename_i h1 h2 h3 h4
          obtain rfl : x = c := by simpa using h
          exact ⟨h2, h3, fun ha e => h4 ⟨e, ha⟩⟩
theorem nbsp_no (x : UInt8) (h : x ∈ nbspE) : x ≠ 60 /\ x ≠ 62 /\ x ≠ 34 := by
  revert x; decide +kernel
theorem escG_no (attr : Bool) : ∀ (b : Bool) (l : List UInt8) (x : UInt8), x ∈ escG attr b l -> x ≠ 60 /\ x ≠ 62 /\ (attr = true -> x ≠ 34)
  | b, [], x, h => by cases b <;> simp [escG] at h
  | true, c :: r, x, h => by
    rw [escG] at h
    exact escG_no attr false r x h
  | false, c :: r, x, h => by
    rw [escG] at h
    split at h
    · rcases List.mem_append.1 h with h | h
      · obtain ⟨a, b, c⟩ := nbsp_no x h
        exact ⟨a, b, fun _ => c⟩
      · exact escG_no attr true r x h
    · rcases List.mem_append.1 h with h | h
      · exact oneB_no attr c x h
      · exact escG_no attr false r x h
theorem escL_no (attr : Bool) (l : List UInt8) (x : UInt8) (h : x ∈ escL attr l) : x ≠ 60 /\ x ≠ 62 /\ (attr = true -> x ≠ 34) := escG_no attr false l x h
def attrW (a : List UInt8 × List UInt8) : List UInt8 := 32 :: (a.1 ++ (61 :: 34 :: (escL true a.2 ++ [34])))
def attrsW (aa : List (List UInt8 × List UInt8)) : List UInt8 := aa.flatMap attrW
def voidE (d : G5.ND) : Bool := (d.space == 0) && S6.isL 1 d.name
def plainT : List UInt8 := [112, 108, 97, 105, 110, 116, 101, 120, 116]
def rawE (d : G5.ND) : Bool := (d.space == 0) && (S6.isL 2 d.name || d.name == plainT)
def headE (d : G5.ND) : List UInt8 := 60 :: (d.name ++ (attrsW d.attrs ++ [62]))
def footE (d : G5.ND) : List UInt8 := 60 :: 47 :: (d.name ++ [62])
def textW (raw : Bool) (t : List UInt8) : List UInt8 := if raw then t else escL false t
def commentW (t : List UInt8) : List UInt8 := [60, 33, 45, 45] ++ (t ++ [45, 45, 62])
def printT : {k : Nat} -> Bool -> G5.NT k -> List UInt8
  | 0, _, _ => []
  | k + 1, raw, t => if t.nd.kind = 2 then textW raw t.nd.text else if t.nd.kind = 3 then commentW t.nd.text else if t.nd.kind = 1 then (if voidE t.nd then headE t.nd else headE t.nd ++ (t.kids.flatMap (fun x => printT (rawE t.nd) x) ++ footE t.nd)) else []
def printTs {k : Nat} (raw : Bool) (ts : List (G5.NT k)) : List UInt8 := ts.flatMap (fun x => printT raw x)
theorem printT_mk {k : Nat} (raw : Bool) (t : G5.NT (k + 1)) : printT raw t = if t.nd.kind = 2 then textW raw t.nd.text else if t.nd.kind = 3 then commentW t.nd.text else if t.nd.kind = 1 then (if voidE t.nd then headE t.nd else headE t.nd ++ (printTs (rawE t.nd) t.kids ++ footE t.nd)) else [] := rfl
theorem printTs_app {k : Nat} (raw : Bool) (a b : List (G5.NT k)) : printTs raw (a ++ b) = printTs raw a ++ printTs raw b := by
  unfold printTs
  rw [List.flatMap_append]
def sizeA (a : List UInt8 × List UInt8) : Nat := 1 + a.1.length + a.2.length
def sizeAs (aa : List (List UInt8 × List UInt8)) : Nat := (aa.map sizeA).sum
def sizeT : {k : Nat} -> G5.NT k -> Nat
  | 0, _ => 0
  | k + 1, t => 1 + t.nd.name.length + t.nd.text.length + sizeAs t.nd.attrs + (t.kids.map fun x => sizeT x).sum
def sizeTs {k : Nat} (ts : List (G5.NT k)) : Nat := (ts.map fun x => sizeT x).sum
theorem sizeT_mk {k : Nat} (t : G5.NT (k + 1)) : sizeT t = 1 + t.nd.name.length + t.nd.text.length + sizeAs t.nd.attrs + sizeTs t.kids := rfl
theorem sizeTs_app {k : Nat} (a b : List (G5.NT k)) : sizeTs (a ++ b) = sizeTs a + sizeTs b := by
  unfold sizeTs
  rw [List.map_append, List.sum_append]
theorem sizeTs_at {k : Nat} (ts : List (G5.NT k)) (i : Nat) (h : i < ts.length) : sizeTs (ts.drop i) = sizeT ts[i] + sizeTs (ts.drop (i + 1)) := by
  rw [List.drop_eq_getElem_cons h]
  rfl
theorem sizeTs_mem {k : Nat} (ts : List (G5.NT k)) (i : Nat) (h : i < ts.length) : sizeT ts[i] <= sizeTs ts := by
  have h1 := sizeTs_at ts i h
  have h2 := sizeTs_app (ts.take i) (ts.drop i)
  rw [List.take_append_drop] at h2
  omega
theorem attrW_len (a : List UInt8 × List UInt8) : (attrW a).length <= 6 * sizeA a := by
  have := escL_len true a.2
  unfold attrW sizeA
  simp only [List.length_cons, List.length_append, List.length_nil]
  omega
theorem attrsW_len : ∀ (aa : List (List UInt8 × List UInt8)), (attrsW aa).length <= 6 * sizeAs aa
  | [] => Nat.le_refl _
  | a :: r => by
    have h1 := attrsW_len r
    have h2 := attrW_len a
    have e1 : attrsW (a :: r) = attrW a ++ attrsW r := rfl
    have e2 : sizeAs (a :: r) = sizeA a + sizeAs r := by unfold sizeAs; rw [List.map_cons, List.sum_cons]
    rw [e1, e2, List.length_append]
    omega
theorem printG_len {k : Nat} {raw : Bool} (h : ∀ (raw : Bool) (x : G5.NT k), (printT raw x).length <= 7 * sizeT x) : ∀ (ts : List (G5.NT k)), (printTs raw ts).length <= 7 * sizeTs ts
  | [] => Nat.le_refl _
  | x :: r => by
    have h1 := printG_len (raw := raw) h r
    have h2 := h raw x
    have e1 : printTs raw (x :: r) = printT raw x ++ printTs raw r := rfl
    have e2 : sizeTs (x :: r) = sizeT x + sizeTs r := by unfold sizeTs; rw [List.map_cons, List.sum_cons]
    rw [e1, e2, List.length_append]
    omega
theorem printT_len : ∀ {k : Nat} (raw : Bool) (t : G5.NT k), (printT raw t).length <= 7 * sizeT t
  | 0, _, _ => Nat.zero_le _
  | k + 1, raw, t => by
    have h1 := printG_len (raw := rawE t.nd) (fun raw x => printT_len raw x) t.kids
    have h2 := attrsW_len t.nd.attrs
    have h3 := escL_len false t.nd.text
    rw [printT_mk, sizeT_mk]
    split
    · unfold textW
      split
      · omega
      · omega
    · split
      · unfold commentW
        simp only [List.length_append, List.length_cons, List.length_nil]
        omega
      · split
        · split
          · unfold headE
            simp only [List.length_append, List.length_cons, List.length_nil]
            omega
          · unfold headE footE
            simp only [List.length_append, List.length_cons, List.length_nil]
            omega
        · exact Nat.zero_le _
theorem printTs_len {k : Nat} (raw : Bool) (ts : List (G5.NT k)) : (printTs raw ts).length <= 7 * sizeTs ts := printG_len (fun raw x => printT_len raw x) ts
def tallG {α : Type} (f : α -> Nat) : List α -> Nat
  | [] => 0
  | x :: r => max (f x) (tallG f r)
def tallT : {k : Nat} -> G5.NT k -> Nat
  | 0, _ => 0
  | k + 1, t => 1 + tallG (fun x => tallT x) t.kids
def tallTs {k : Nat} (ts : List (G5.NT k)) : Nat := tallG (fun x => tallT x) ts
end Go.Proofs.YtfohijnkeefcfaaGreatDoor.P9
namespace Go.Proofs.YtfohijnkeefcfaaGreatDoor.P9
open S4 (entriesE codeL longL longK_eq code_all refL decL decL_nil decL_amp decL_other)
theorem amp_last : entriesE.all (fun e => (decide ((e.1 ++ [59]).length <= 4) || !((e.1 ++ [59]).take 4 == [97, 109, 112, 59])) && (decide (e.1.length <= 4) || !(e.1.take 4 == [97, 109, 112, 59]))) = true := by decide +kernel
theorem ref_amp (attr : Bool) (r : List UInt8) : refL attr ([97, 109, 112, 59] ++ r) = ([38], 5) := by
  have hl : longL ([97, 109, 112, 59] ++ r) = some (38, 4) := by
    refine longK_eq 8 _ 4 38 (by omega) (by omega) (by simp) (by show codeL [97, 109, 112, 59] = _; decide +kernel) ?_
    intro m h1 h2 h3
    cases hc : codeL (([97, 109, 112, 59] ++ r).take m) with
    | none => rfl
    | some c =>
      have := code_all (fun n => decide (n.length <= 4) || !(n.take 4 == [97, 109, 112, 59])) amp_last _ c hc
      simp only [Bool.or_eq_true, decide_eq_true_eq] at this
      rcases this with h | h
      · rw [List.length_take] at h; omega
      · rw [List.take_take, show min 4 m = 4 by omega] at h
        exact absurd h (by simp)
  unfold refL
  rw [if_neg (by simp), hl]
  simp only
  rw [if_neg (by simp)]
  decide +kernel
theorem dec_amp (attr : Bool) (X : List UInt8) : decL attr (ampE ++ X) = [38] ++ decL attr X := by
  show decL attr (38 :: ([97, 109, 112, 59] ++ X)) = _
  rw [decL_amp, ref_amp]
  rfl
theorem lt_last : entriesE.all (fun e => (decide ((e.1 ++ [59]).length <= 3) || !((e.1 ++ [59]).take 3 == [108, 116, 59])) && (decide (e.1.length <= 3) || !(e.1.take 3 == [108, 116, 59]))) = true := by decide +kernel
theorem ref_lt (attr : Bool) (r : List UInt8) : refL attr ([108, 116, 59] ++ r) = ([60], 4) := by
  have hl : longL ([108, 116, 59] ++ r) = some (60, 3) := by
    refine longK_eq 8 _ 3 60 (by omega) (by omega) (by simp) (by show codeL [108, 116, 59] = _; decide +kernel) ?_
    intro m h1 h2 h3
    cases hc : codeL (([108, 116, 59] ++ r).take m) with
    | none => rfl
    | some c =>
      have := code_all (fun n => decide (n.length <= 3) || !(n.take 3 == [108, 116, 59])) lt_last _ c hc
      simp only [Bool.or_eq_true, decide_eq_true_eq] at this
      rcases this with h | h
      · rw [List.length_take] at h; omega
      · rw [List.take_take, show min 3 m = 3 by omega] at h
        exact absurd h (by simp)
  unfold refL
  rw [if_neg (by simp), hl]
  simp only
  rw [if_neg (by simp)]
  decide +kernel
theorem dec_lt (attr : Bool) (X : List UInt8) : decL attr (ltE ++ X) = [60] ++ decL attr X := by
  show decL attr (38 :: ([108, 116, 59] ++ X)) = _
  rw [decL_amp, ref_lt]
  rfl
theorem gt_last : entriesE.all (fun e => (decide ((e.1 ++ [59]).length <= 3) || !((e.1 ++ [59]).take 3 == [103, 116, 59])) && (decide (e.1.length <= 3) || !(e.1.take 3 == [103, 116, 59]))) = true := by decide +kernel
theorem ref_gt (attr : Bool) (r : List UInt8) : refL attr ([103, 116, 59] ++ r) = ([62], 4) := by
  have hl : longL ([103, 116, 59] ++ r) = some (62, 3) := by
    refine longK_eq 8 _ 3 62 (by omega) (by omega) (by simp) (by show codeL [103, 116, 59] = _; decide +kernel) ?_
    intro m h1 h2 h3
    cases hc : codeL (([103, 116, 59] ++ r).take m) with
    | none => rfl
    | some c =>
      have := code_all (fun n => decide (n.length <= 3) || !(n.take 3 == [103, 116, 59])) gt_last _ c hc
      simp only [Bool.or_eq_true, decide_eq_true_eq] at this
      rcases this with h | h
      · rw [List.length_take] at h; omega
      · rw [List.take_take, show min 3 m = 3 by omega] at h
        exact absurd h (by simp)
  unfold refL
  rw [if_neg (by simp), hl]
  simp only
  rw [if_neg (by simp)]
  decide +kernel
theorem dec_gt (attr : Bool) (X : List UInt8) : decL attr (gtE ++ X) = [62] ++ decL attr X := by
  show decL attr (38 :: ([103, 116, 59] ++ X)) = _
  rw [decL_amp, ref_gt]
  rfl
theorem quot_last : entriesE.all (fun e => (decide ((e.1 ++ [59]).length <= 5) || !((e.1 ++ [59]).take 5 == [113, 117, 111, 116, 59])) && (decide (e.1.length <= 5) || !(e.1.take 5 == [113, 117, 111, 116, 59]))) = true := by decide +kernel
theorem ref_quot (attr : Bool) (r : List UInt8) : refL attr ([113, 117, 111, 116, 59] ++ r) = ([34], 6) := by
  have hl : longL ([113, 117, 111, 116, 59] ++ r) = some (34, 5) := by
    refine longK_eq 8 _ 5 34 (by omega) (by omega) (by simp) (by show codeL [113, 117, 111, 116, 59] = _; decide +kernel) ?_
    intro m h1 h2 h3
    cases hc : codeL (([113, 117, 111, 116, 59] ++ r).take m) with
    | none => rfl
    | some c =>
      have := code_all (fun n => decide (n.length <= 5) || !(n.take 5 == [113, 117, 111, 116, 59])) quot_last _ c hc
      simp only [Bool.or_eq_true, decide_eq_true_eq] at this
      rcases this with h | h
      · rw [List.length_take] at h; omega
      · rw [List.take_take, show min 5 m = 5 by omega] at h
        exact absurd h (by simp)
  unfold refL
  rw [if_neg (by simp), hl]
  simp only
  rw [if_neg (by simp)]
  decide +kernel
theorem dec_quot (attr : Bool) (X : List UInt8) : decL attr (quotE ++ X) = [34] ++ decL attr X := by
  show decL attr (38 :: ([113, 117, 111, 116, 59] ++ X)) = _
  rw [decL_amp, ref_quot]
  rfl
theorem nbsp_last : entriesE.all (fun e => (decide ((e.1 ++ [59]).length <= 5) || !((e.1 ++ [59]).take 5 == [110, 98, 115, 112, 59])) && (decide (e.1.length <= 5) || !(e.1.take 5 == [110, 98, 115, 112, 59]))) = true := by decide +kernel
theorem ref_nbsp (attr : Bool) (r : List UInt8) : refL attr ([110, 98, 115, 112, 59] ++ r) = ([194, 160], 6) := by
  have hl : longL ([110, 98, 115, 112, 59] ++ r) = some (160, 5) := by
    refine longK_eq 8 _ 5 160 (by omega) (by omega) (by simp) (by show codeL [110, 98, 115, 112, 59] = _; decide +kernel) ?_
    intro m h1 h2 h3
    cases hc : codeL (([110, 98, 115, 112, 59] ++ r).take m) with
    | none => rfl
    | some c =>
      have := code_all (fun n => decide (n.length <= 5) || !(n.take 5 == [110, 98, 115, 112, 59])) nbsp_last _ c hc
      simp only [Bool.or_eq_true, decide_eq_true_eq] at this
      rcases this with h | h
      · rw [List.length_take] at h; omega
      · rw [List.take_take, show min 5 m = 5 by omega] at h
        exact absurd h (by simp)
  unfold refL
  rw [if_neg (by simp), hl]
  simp only
  rw [if_neg (by simp)]
  decide +kernel
theorem dec_nbsp (attr : Bool) (X : List UInt8) : decL attr (nbspE ++ X) = [194, 160] ++ decL attr X := by
  show decL attr (38 :: ([110, 98, 115, 112, 59] ++ X)) = _
  rw [decL_amp, ref_nbsp]
  rfl
theorem dec_one (attr : Bool) (c : UInt8) (X : List UInt8) : decL attr (oneB attr c ++ X) = c :: decL attr X := by
  unfold oneB
  split
  · next h => rw [dec_amp, h]; rfl
  · next h0 =>
    split
    · next h => rw [dec_lt, h]; rfl
    · split
      · next h => rw [dec_gt, h]; rfl
      · split
        · next h => rw [dec_quot, h.1]; rfl
        · exact decL_other attr c X h0
theorem dec_escG (attr : Bool) : ∀ (b : Bool) (l : List UInt8), decL attr (escG attr b l) = if b then l.tail else l
  | true, [] => by rw [escG]; exact decL_nil attr
  | false, [] => by rw [escG]; exact decL_nil attr
  | true, c :: r => by
    have := dec_escG attr false r
    rw [escG, this]
    rfl
  | false, c :: r => by
    have h1 := dec_escG attr false r
    have h2 := dec_escG attr true r
    rw [escG]
    split
    · next h =>
      rw [dec_nbsp, h2]
      obtain ⟨rfl, hr⟩ := h
      cases r with
      | nil => simp at hr
      | cons d s =>
        obtain rfl : d = 160 := by simpa using hr
        rfl
    · rw [dec_one, h1]
      rfl
theorem dec_esc (attr : Bool) (l : List UInt8) : decL attr (escL attr l) = l := dec_escG attr false l
end Go.Proofs.YtfohijnkeefcfaaGreatDoor.P9
namespace Go.Proofs.YtfohijnkeefcfaaGreatDoor.S4
theorem escP_no (v : List UInt8) : (34 : UInt8) ∉ P9.escL true v := fun h => (P9.escL_no true v 34 h).2.2 rfl rfl
def wroteP : List (List UInt8 × List UInt8) -> List UInt8
  | [] => []
  | a :: r => 32 :: (a.1 ++ 61 :: 34 :: (P9.escL true a.2 ++ 34 :: wroteP r))
theorem value_quotedP (v q : List UInt8) : valueL (34 :: (P9.escL true v ++ 34 :: q)) = (v, q) := by
  unfold valueL
  simp only
  rw [if_neg (by decide), if_pos (by decide), findR_one 34 _ _ (escP_no v), P9.dec_esc]
  rfl
theorem loop_oneP (k : Nat) (az : List (List UInt8 × List UInt8)) (n v q : List UInt8) (hn : n ≠ []) (hs : n.all smallC = true) (hnew : n ∉ namesA az) :
    loopT (k + 1) az (32 :: (n ++ 61 :: 34 :: (P9.escL true v ++ 34 :: q))) = loopT k (az ++ [(n, v)]) q := by
  cases n with
  | nil => exact absurd rfl hn
  | cons c m =>
    have hs2 := hs
    simp only [List.all_cons, Bool.and_eq_true] at hs2
    obtain ⟨s1, s2, s3, s4, s5, s6⟩ := small_name c hs2.1
    have hd : (32 :: (c :: m ++ 61 :: 34 :: (P9.escL true v ++ 34 :: q))).dropWhile passB = c :: (m ++ 61 :: 34 :: (P9.escL true v ++ 34 :: q)) := by
      rw [List.dropWhile_cons, if_pos (by decide), List.cons_append, List.dropWhile_cons, s6]
      rfl
    have h62 : c ≠ 62 := by
      rintro rfl
      exact absurd hs2.1 (by decide)
    obtain ⟨t1, t2⟩ := tw_app attrB m 61 (34 :: (P9.escL true v ++ 34 :: q)) (all_of _ _ m hs2.2 fun x hx => (small_name x hx).2.1) (by decide)
    have hsp : (61 :: 34 :: (P9.escL true v ++ 34 :: q)).dropWhile isSp = 61 :: 34 :: (P9.escL true v ++ 34 :: q) := by
      rw [List.dropWhile_cons, if_neg (by decide)]
    have hsp2 : (34 :: (P9.escL true v ++ 34 :: q)).dropWhile isSp = 34 :: (P9.escL true v ++ 34 :: q) := by
      rw [List.dropWhile_cons, if_neg (by decide)]
    rw [loopT, hd]
    simp only
    rw [if_neg h62, t1, t2, hsp]
    simp only
    rw [if_pos trivial, hsp2, value_quotedP, small_lower _ hs, addA_new _ _ hnew]
theorem loop_allP : ∀ (bs az : List (List UInt8 × List UInt8)) (k : Nat) (q : List UInt8), okA bs -> (namesA (az ++ bs)).Nodup -> loopT (bs.length + k) az (wroteP bs ++ q) = loopT k (az ++ bs) q
  | [], az, k, q, _, _ => by simp [wroteP]
  | a :: r, az, k, q, hok, hnd => by
    have h1 := hok a (by simp)
    have hnew : a.1 ∉ namesA az := by
      unfold namesA at hnd ⊢
      rw [List.map_append] at hnd
      intro hm
      exact (List.nodup_append.1 hnd).2.2 a.1 hm a.1 (by simp) rfl
    have ih := loop_allP r (az ++ [a]) k q (fun b hb => hok b (by simp [hb])) (by rw [List.append_assoc]; exact hnd)
    show loopT (r.length + 1 + k) az (32 :: (a.1 ++ 61 :: 34 :: (P9.escL true a.2 ++ 34 :: wroteP r)) ++ q) = _
    have e : 32 :: (a.1 ++ 61 :: 34 :: (P9.escL true a.2 ++ 34 :: wroteP r)) ++ q = 32 :: (a.1 ++ 61 :: 34 :: (P9.escL true a.2 ++ 34 :: (wroteP r ++ q))) := by simp
    rw [e, show r.length + 1 + k = (r.length + k) + 1 by omega, loop_oneP _ _ _ _ _ h1.1 h1.2 hnew, show az ++ [(a.1, a.2)] = az ++ [a] from rfl, ih, List.append_assoc]
    rfl
theorem wroteP_head (bs : List (List UInt8 × List UInt8)) (closed : Bool) (q : List UInt8) (hq : q = [] \/ ∃ r, q = 62 :: r) : wroteP bs ++ (strokeL closed ++ q) = [] \/ ∃ x r, wroteP bs ++ (strokeL closed ++ q) = x :: r /\ nameB x = false := by
  cases bs with
  | cons a r => exact .inr ⟨32, _, rfl, by decide⟩
  | nil =>
    cases closed
    · rcases hq with rfl | ⟨r, rfl⟩
      · exact .inl rfl
      · exact .inr ⟨62, r, rfl, by decide⟩
    · exact .inr ⟨47, q, rfl, by decide⟩
theorem wroteP_len : ∀ bs : List (List UInt8 × List UInt8), bs.length <= (wroteP bs).length
  | [] => Nat.le_refl _
  | a :: r => by
    have := wroteP_len r
    simp [wroteP]
    omega
theorem tag_backP (n : List UInt8) (bs : List (List UInt8 × List UInt8)) (closed : Bool) (rest : List UInt8) (hn : n ≠ []) (hs : n.all smallC = true) (hok : okA bs) (hnd : (namesA bs).Nodup) :
    nextR 0 [] false (60 :: (n ++ (wroteP bs ++ (strokeL closed ++ 62 :: rest)))) = ({ kind := 2, name := n, attrs := bs, closed := closed }, rest) := by
  rw [data_start n _ hn hs]
  have ht := tw_name n (wroteP bs ++ (strokeL closed ++ 62 :: rest)) hs (wroteP_head bs closed _ (.inr ⟨rest, rfl⟩))
  have hl := wroteP_len bs
  have hk : (n ++ (wroteP bs ++ (strokeL closed ++ 62 :: rest))).length + 1 = bs.length + ((n ++ (wroteP bs ++ (strokeL closed ++ 62 :: rest))).length - bs.length + 1) := by
    simp only [List.length_append]
    omega
  have h : tagL (n ++ (wroteP bs ++ (strokeL closed ++ 62 :: rest))) = some ({ kind := 2, name := n, attrs := bs, closed := closed }, rest) := by
    unfold tagL
    rw [ht.1, ht.2, hk, loop_allP bs [] _ _ hok (by simpa using hnd), List.nil_append, loop_end, small_lower n hs]
    rfl
  unfold endedL
  rw [h]
  rfl
theorem attrs_wrote : ∀ aa : List (List UInt8 × List UInt8), P9.attrsW aa = wroteP aa
  | [] => rfl
  | a :: r => by
    have h := attrs_wrote r
    have e : P9.attrsW (a :: r) = P9.attrW a ++ P9.attrsW r := rfl
    rw [e, h]
    unfold P9.attrW
    simp [wroteP]
theorem start_back (n : List UInt8) (aa : List (List UInt8 × List UInt8)) (rest : List UInt8) (hn : n ≠ []) (hs : n.all smallC = true) (hok : okA aa) (hnd : (namesA aa).Nodup) :
    nextR 0 [] false (60 :: (n ++ (P9.attrsW aa ++ (62 :: rest)))) = ({ kind := 2, name := n, attrs := aa }, rest) := by
  have := tag_backP n aa false rest hn hs hok hnd
  rw [<- attrs_wrote] at this
  exact this
end Go.Proofs.YtfohijnkeefcfaaGreatDoor.S4
namespace Go.Proofs.YtfohijnkeefcfaaGreatDoor
open S4 (Tok nextR)
abbrev Ev := Nat × Bs × List (Bs × Bs)
def textE (e : Ev) : Bs := if e.1 = 0 then P9.escL false e.2.1 else if e.1 = 1 then 60 :: (e.2.1 ++ (P9.attrsW e.2.2 ++ [62])) else shutT e.2.1
def textEs (l : List Ev) : Bs := l.flatMap textE
def tokE (e : Ev) : Tok := if e.1 = 0 then { kind := 1, text := e.2.1 } else if e.1 = 1 then startA e.2.1 e.2.2 else stopOf e.2.1
def goodE : List Ev -> List Bs -> Prop
  | [], _ => True
  | e :: r, st => if e.1 = 0 then e.2.1 ≠ [] /\ (∀ x, r.head? = some x -> x.1 ≠ 0) /\ goodE r st
    else if e.1 = 1 then (e.2.1 = divN \/ e.2.1 = spanN) /\ S4.okA e.2.2 /\ (S4.namesA e.2.2).Nodup /\ st.length < 60 /\ goodE r (st ++ [e.2.1])
    else (e.2.1 = divN \/ e.2.1 = spanN) /\ ∃ st', st = st' ++ [e.2.1] /\ goodE r st'
def stepF (e : Ev) (F : FL) (ps : List (Nat × Bs)) : FL × List (Nat × Bs) := if e.1 = 0 then (txtF F (ps.length + 1) e.2.1, ps) else if e.1 = 1 then (F ++ [(ps.length + 1, { kind := 1, name := e.2.1, attrs := e.2.2 })], ps ++ [(F.length, e.2.1)]) else (F, ps.dropLast)
theorem textEs_cons (e : Ev) (r : List Ev) : textEs (e :: r) = textE e ++ textEs r := rfl
theorem escG_ge (attr : Bool) : ∀ (b : Bool) (l : Bs), l.length <= (P9.escG attr b l).length + (if b then 1 else 0)
  | true, [] => by simp
  | false, [] => by simp [P9.escG]
  | true, c :: r => by
    have := escG_ge attr false r
    rw [P9.escG]
    simp at this ⊢
    omega
  | false, c :: r => by
    have h1 := escG_ge attr false r
    have h2 := escG_ge attr true r
    have h3 := P9.oneB_len attr c
    rw [P9.escG]
    split
    · simp [P9.nbspE] at h2 ⊢
      omega
    · simp at h1 ⊢
      omega
theorem escL_ge (attr : Bool) (l : Bs) : l.length <= (P9.escL attr l).length := by
  have := escG_ge attr false l
  show l.length <= (P9.escG attr false l).length
  simpa using this
theorem escL_ne (attr : Bool) (l : Bs) (h : l ≠ []) : P9.escL attr l ≠ [] := fun e => h (List.eq_nil_of_length_eq_zero (by have := escL_ge attr l; rw [e] at this; simpa using this))
theorem mk_tag (nm X r : Bs) (hn : nm = divN \/ nm = spanN) : Mk (60 :: (nm ++ X) ++ r) := by rcases hn with rfl | rfl <;> exact .inr rfl
theorem mk_ev (r : List Ev) (st : List Bs) (hg : goodE r st) (hx : ∀ x, r.head? = some x -> x.1 ≠ 0) : Mk (textEs r) := by
  cases r with
  | nil => exact .inl rfl
  | cons e r =>
    have h0 := hx e rfl
    rw [textEs_cons]
    unfold textE
    rw [if_neg h0]
    unfold goodE at hg
    rw [if_neg h0] at hg
    by_cases h1 : e.1 = 1
    · rw [if_pos h1] at hg ⊢
      exact mk_tag e.2.1 _ _ hg.1
    · rw [if_neg h1] at hg ⊢
      exact mk_shut e.2.1 _ hg.1
theorem small_dn (nm : Bs) (hn : nm = divN \/ nm = spanN) : nm ≠ [] /\ nm.all S4.smallC = true := by rcases hn with rfl | rfl <;> exact ⟨by decide, by decide +kernel⟩
theorem ev_next (e : Ev) (r : List Ev) (st : List Bs) (hg : goodE (e :: r) st) : nextR 0 [] false (textEs (e :: r)) = (tokE e, textEs r) := by
  rw [textEs_cons]
  unfold goodE at hg
  unfold textE tokE
  by_cases h0 : e.1 = 0
  · rw [if_pos h0] at hg ⊢
    rw [if_pos h0]
    obtain ⟨hne, hx, hg2⟩ := hg
    rw [next_text (P9.escL false e.2.1) (textEs r) (escL_ne false _ hne) (fun c hc => (P9.escL_no false _ c hc).1) (mk_ev r st hg2 hx), P9.dec_esc]
  · rw [if_neg h0] at hg ⊢
    rw [if_neg h0]
    by_cases h1 : e.1 = 1
    · rw [if_pos h1] at hg ⊢
      rw [if_pos h1]
      obtain ⟨hn, hok, hnd, _, _⟩ := hg
      obtain ⟨q1, q2⟩ := small_dn e.2.1 hn
      have := S4.start_back e.2.1 e.2.2 (textEs r) q1 q2 hok hnd
      have e2 : 60 :: (e.2.1 ++ (P9.attrsW e.2.2 ++ [62])) ++ textEs r = 60 :: (e.2.1 ++ (P9.attrsW e.2.2 ++ (62 :: textEs r))) := by simp
      rw [e2, this]
      rfl
    · rw [if_neg h1] at hg ⊢
      rw [if_neg h1]
      exact next_shut e.2.1 (textEs r) hg.1
theorem names_last {ps : List (Nat × Bs)} {st : List Bs} {nm : Bs} (h : ps.map (·.2) = st ++ [nm]) : ∃ qs i, ps = qs ++ [(i, nm)] /\ qs.map (·.2) = st := by
  rcases List.eq_nil_or_concat ps with rfl | ⟨qs, p, rfl⟩
  · simp at h
  · rw [List.concat_eq_append, List.map_append] at h
    obtain ⟨h1, h2⟩ := List.append_inj' h rfl
    obtain ⟨i, n⟩ := p
    obtain rfl : n = nm := by simpa using h2
    exact ⟨qs, i, List.concat_eq_append, h1⟩
theorem ev_take (e : Ev) (r : List Ev) {F : FL} {ps : List (Nat × Bs)} (h : OkF F ps) (hl : F.length < 2000) (hg : goodE (e :: r) (ps.map (·.2))) :
    takeB (stB F ps) (tokE e) = stB (stepF e F ps).1 (stepF e F ps).2 /\ OkF (stepF e F ps).1 (stepF e F ps).2 /\ goodE r ((stepF e F ps).2.map (·.2)) /\ (stepF e F ps).1.length <= F.length + 1 := by
  unfold goodE at hg
  unfold tokE stepF
  by_cases h0 : e.1 = 0
  · rw [if_pos h0] at hg
    rw [if_pos h0, if_pos h0]
    exact ⟨take_text h hl e.2.1, (text_step h hl e.2.1).2, hg.2.2, (txt_len F _ _).2⟩
  · rw [if_neg h0] at hg
    rw [if_neg h0, if_neg h0]
    by_cases h1 : e.1 = 1
    · rw [if_pos h1] at hg
      rw [if_pos h1, if_pos h1]
      obtain ⟨hn, hok, hnd, hd, hg2⟩ := hg
      rw [List.length_map] at hd
      refine ⟨take_startA h hl hd e.2.1 e.2.2 hn, h.pushA e.2.1 e.2.2 hn, ?_, by simp⟩
      rw [List.map_append]
      exact hg2
    · rw [if_neg h1] at hg
      rw [if_neg h1, if_neg h1]
      obtain ⟨hn, st', hst, hg2⟩ := hg
      obtain ⟨qs, i, rfl, hq⟩ := names_last hst
      rw [List.dropLast_concat]
      exact ⟨take_stop i e.2.1 hn, h.pop, by rw [hq]; exact hg2, Nat.le_succ _⟩
def runE : List Ev -> FL -> List (Nat × Bs) -> FL × List (Nat × Bs)
  | [], F, ps => (F, ps)
  | e :: r, F, ps => runE r (stepF e F ps).1 (stepF e F ps).2
theorem tokE_kind (e : Ev) : (tokE e).kind ≠ 0 := by
  unfold tokE startA stopOf
  split
  · simp
  · split <;> simp
theorem ev_run : ∀ (ev : List Ev) (F : FL) (ps : List (Nat × Bs)) (k : Nat), OkF F ps -> F.length + ev.length < 2000 -> goodE ev (ps.map (·.2)) -> ev.length <= k -> runB k (stB F ps) (textEs ev) = stB (runE ev F ps).1 (runE ev F ps).2
  | [], F, ps, k, h, _, _, _ => run_end k F ps
  | e :: r, F, ps, 0, _, _, _, hk => by simp at hk
  | e :: r, F, ps, k + 1, h, hl, hg, hk => by
    rw [List.length_cons] at hl hk
    obtain ⟨q1, q2, q3, q4⟩ := ev_take e r h (by omega) hg
    rw [run_step k F ps _ _ _ (ev_next e r _ hg) (tokE_kind e), q1, ev_run r _ _ k q2 (by omega) q3 (by omega)]
    rfl
theorem textE_ge (e : Ev) (r : List Ev) (st : List Bs) (hg : goodE (e :: r) st) : 1 <= (textE e).length := by
  unfold goodE at hg
  unfold textE
  by_cases h0 : e.1 = 0
  · rw [if_pos h0] at hg ⊢
    have := escL_ge false e.2.1
    have h2 : 0 < e.2.1.length := List.length_pos_iff.2 hg.1
    omega
  · rw [if_neg h0]
    split
    · simp
    · simp [shutT]
theorem textEs_ge : ∀ (ev : List Ev) (st : List Bs), goodE ev st -> ev.length <= (textEs ev).length
  | [], _, _ => Nat.zero_le _
  | e :: r, st, hg => by
    have h1 := textE_ge e r st hg
    have h2 : ∃ st', goodE r st' := by
      unfold goodE at hg
      split at hg
      · exact ⟨st, hg.2.2⟩
      · split at hg
        · exact ⟨_, hg.2.2.2.2⟩
        · obtain ⟨_, st', _, h⟩ := hg
          exact ⟨st', h⟩
    obtain ⟨st', h3⟩ := h2
    have h4 := textEs_ge r st' h3
    rw [textEs_cons, List.length_append, List.length_cons]
    omega
theorem ev_build (ev : List Ev) (hl : ev.length < 1000) (hg : goodE ev []) : buildL (textEs ev) = stB (runE ev [(0, {})] []).1 (runE ev [(0, {})] []).2 := by
  unfold buildL
  rw [start_eq]
  exact ev_run ev _ _ _ start_ok (by simp; omega) hg (by have := textEs_ge ev [] hg; omega)
end Go.Proofs.YtfohijnkeefcfaaGreatDoor
namespace Go.Proofs.YtfohijnkeefcfaaGreatDoor
open S5 (ND TR WF kidsAt nodeAt)
theorem lay_wf (F : FL) : WF (layF F) where
  inb := fun i k h => by
    rw [kids_lay] at h
    obtain ⟨h1, h2⟩ := kidsF_lt h
    rw [lay_len]
    omega
  nodup := fun i => by
    rw [kids_lay]
    exact List.Pairwise.sublist List.filter_sublist List.nodup_range
  once := fun i j k h1 h2 => by
    rw [kids_lay] at h1 h2
    unfold kidsF at h1 h2
    obtain ⟨a1, a2, a3⟩ := (kidF_iff F i k).1 (List.mem_filter.1 h1).2
    obtain ⟨b1, b2, b3⟩ := (kidF_iff F j k).1 (List.mem_filter.1 h2).2
    rcases Nat.lt_trichotomy i j with h | h | h
    · have := a3 j h b1
      omega
    · exact h
    · have := b3 i h a1
      omega
  rank := ⟨fun i => i, fun i k h => by
    rw [kids_lay] at h
    exact (kidsF_lt h).1⟩
def elemX (d : ND) : Prop := d.kind = 1 /\ d.space = 0 /\ (d.name = divN \/ d.name = spanN) /\ d.text = []
def textX (d : ND) : Prop := d.kind = 2 /\ d.text ≠ [] /\ d.name = [] /\ d.attrs = []
structure XF (F : FL) (ps : List (Nat × Bs)) : Prop where
  pos : 0 < F.length
  root : ndF F 0 = {}
  node : ∀ i, 1 <= i -> i < F.length -> elemX (ndF F i) \/ textX (ndF F i)
  path : ∀ p ∈ ps, 1 <= p.1 /\ p.1 < F.length /\ (ndF F p.1).kind = 1 /\ (ndF F p.1).space = 0 /\ (ndF F p.1).name = p.2 /\ (p.2 = divN \/ p.2 = spanN)
theorem dn_free (nm w : Bs) (h : nm = divN \/ nm = spanN) : fitsL nm w = true := by
  have a : ∀ n : Bs, S6.amongL ofCell n = false -> (n == [116, 114]) = false -> S6.amongL ownN n = false -> (n == [99, 111, 108]) = false -> fitsL n w = true := by
    intro n h1 h2 h3 h4
    unfold fitsL
    rw [h1, h2, h3, h4]
    rfl
  rcases h with rfl | rfl
  · exact a _ (by decide +kernel) (by decide +kernel) (by decide +kernel) (by decide +kernel)
  · exact a _ (by decide +kernel) (by decide +kernel) (by decide +kernel) (by decide +kernel)
theorem dn_hold (nm : Bs) (h : nm = divN \/ nm = spanN) : S6.isL 1 nm = false := by rcases h with rfl | rfl <;> decide +kernel
theorem dn_some (nm : Bs) (h : nm = divN \/ nm = spanN) : nm ≠ [] := by rcases h with rfl | rfl <;> decide
theorem inv_st {F : FL} {ps : List (Nat × Bs)} (h : OkF F ps) (hx : XF F ps) (hl : F.length <= 2000) : Inv (stB F ps) where
  t := {
    wf := lay_wf F
    pos := by show 1 <= (layF F).length; rw [lay_len]; exact hx.pos
    max := by show (layF F).length <= 2000; rw [lay_len]; exact hl
    root := by show nodeAt (layF F) 0 = _; rw [node_lay]; exact hx.root
    node := fun i h1 h2 => by
      have h2 : i < (layF F).length := h2
      rw [lay_len] at h2
      show NodeOk (nodeAt (layF F) i)
      rw [node_lay]
      rcases hx.node i h1 h2 with e | e
      · exact .inl ⟨e.1, dn_some _ e.2.2.1, e.2.2.2⟩
      · exact .inr (.inl e)
    edge := fun p c hc => by
      have hc : c ∈ kidsAt (layF F) p := hc
      show EdgeOk (nodeAt (layF F) p) (nodeAt (layF F) c)
      rw [node_lay, node_lay]
      rw [kids_lay] at hc
      obtain ⟨c1, c2⟩ := kidsF_lt hc
      unfold kidsF at hc
      obtain ⟨a1, a2, a3⟩ := (kidF_iff F p c).1 (List.mem_filter.1 hc).2
      refine ⟨?_, fun hk hs => ?_⟩
      · rcases Nat.eq_zero_or_pos p with rfl | hp
        · rw [hx.root]
          exact .inl ⟨rfl, rfl, rfl⟩
        · rcases hx.node p hp (by omega) with e | e
          · exact .inr ⟨e.1, fun _ => dn_hold _ e.2.2.1⟩
          · exfalso
            have := h.txt p (by omega) e.1
            rcases Nat.lt_or_ge (p + 1) c with g | g
            · have := a3 (p + 1) (by omega) g
              omega
            · have e3 : c = p + 1 := by omega
              rw [e3] at a2
              omega
      · rcases hx.node c (by omega) c2 with e | e
        · exact dn_free _ _ e.2.2.1
        · rw [e.1] at hk
          exact absurd hk (by decide) }
  o := {
    hd := rfl
    tie := fun i o ho => by
      have ho : (ps.map fun p => (⟨p.1, 0, p.2⟩ : OM))[i]? = some o := ho
      rw [List.getElem?_map] at ho
      cases hp : ps[i]? with
      | none => rw [hp] at ho; cases ho
      | some p =>
        rw [hp] at ho
        have ho : (⟨p.1, 0, p.2⟩ : OM) = o := by simpa using ho
        subst ho
        obtain ⟨h1, h2, h3, h4, h5, h6⟩ := hx.path p (List.mem_of_getElem? hp)
        show 1 <= p.1 /\ p.1 < (layF F).length /\ (nodeAt (layF F) p.1).kind = 1 /\ (nodeAt (layF F) p.1).space = 0 /\ (nodeAt (layF F) p.1).name = p.2 /\ ((0 : Int) = 0 -> S6.isL 1 p.2 = false)
        rw [node_lay, lay_len]
        exact ⟨h1, h2, h3, h4, h5, fun _ => dn_hold _ h6⟩
    adj := fun i a b ha hb => by
      have hb : (ps.map fun p => (⟨p.1, 0, p.2⟩ : OM))[i]? = some b := hb
      rw [List.getElem?_map] at hb
      cases hp : ps[i]? with
      | none => rw [hp] at hb; cases hb
      | some p =>
        rw [hp] at hb
        have hb : (⟨p.1, 0, p.2⟩ : OM) = b := by simpa using hb
        subst hb
        exact fun _ => dn_free _ _ (hx.path p (List.mem_of_getElem? hp)).2.2.2.2.2 }
  m := fun m hm => by cases hm
theorem xf_start : XF [(0, {})] [] := ⟨by simp, rfl, fun i h1 h2 => by simp at h2; omega, fun p hp => by cases hp⟩
theorem XF.add {F : FL} {ps : List (Nat × Bs)} (hx : XF F ps) (D : Nat) (d : ND) (hd : elemX d \/ textX d) : XF (F ++ [(D, d)]) ps where
  pos := by simp
  root := by rw [nd_app F _ 0 hx.pos]; exact hx.root
  node := fun i h1 h2 => by
    rw [List.length_append, List.length_singleton] at h2
    rcases Nat.lt_or_ge i F.length with h | h
    · rw [nd_app F _ i h]
      exact hx.node i h1 h
    · have e : i = F.length := by omega
      rw [e, nd_new]
      exact hd
  path := fun p hp => by
    obtain ⟨h1, h2, h3⟩ := hx.path p hp
    rw [nd_app F _ _ h2, List.length_append]
    exact ⟨h1, by omega, h3⟩
theorem xf_step (e : Ev) (r : List Ev) {F : FL} {ps : List (Nat × Bs)} (hx : XF F ps) (hg : goodE (e :: r) (ps.map (·.2))) : XF (stepF e F ps).1 (stepF e F ps).2 := by
  unfold goodE at hg
  unfold stepF
  by_cases h0 : e.1 = 0
  · rw [if_pos h0] at hg
    rw [if_pos h0]
    show XF (txtF F (ps.length + 1) e.2.1) ps
    unfold txtF
    split
    · rename_i hc
      have hp := hx.pos
      have hne : 1 <= F.length - 1 := by
        rcases Nat.eq_zero_or_pos (F.length - 1) with h | h
        · rw [h, hx.root] at hc
          exact absurd hc.1 (by decide)
        · exact h
      have hn : ∀ j (d : Nat × ND), j ≠ F.length - 1 -> ndF (F.set (F.length - 1) d) j = ndF F j := fun j d hj => by
        unfold ndF
        rw [List.getElem?_set_ne (Ne.symm hj)]
      refine ⟨by rw [List.length_set]; exact hp, by rw [hn 0 _ (by omega)]; exact hx.root, fun i h1 h2 => ?_, fun p hpp => ?_⟩
      · rw [List.length_set] at h2
        by_cases hi : i = F.length - 1
        · rw [hi, nd_set F _ _ _ (by omega)]
          rcases hx.node (F.length - 1) hne (by omega) with g | g
          · rw [g.1] at hc
            exact absurd hc.1 (by decide)
          · exact .inr ⟨g.1, fun e2 => hg.1 (List.append_eq_nil_iff.1 e2).2, g.2.2⟩
        · rw [hn i _ hi]
          exact hx.node i h1 h2
      · obtain ⟨h1, h2, h3, h4⟩ := hx.path p hpp
        have hi : p.1 ≠ F.length - 1 := fun e2 => by
          rw [e2, hc.1] at h3
          exact absurd h3 (by decide)
        rw [hn _ _ hi, List.length_set]
        exact ⟨h1, h2, h3, h4⟩
    · exact hx.add _ _ (.inr ⟨rfl, hg.1, rfl, rfl⟩)
  · rw [if_neg h0] at hg
    rw [if_neg h0]
    by_cases h1 : e.1 = 1
    · rw [if_pos h1] at hg
      rw [if_pos h1]
      have ha := hx.add (ps.length + 1) { kind := 1, name := e.2.1, attrs := e.2.2 } (.inl ⟨rfl, rfl, hg.1, rfl⟩)
      refine ⟨ha.pos, ha.root, ha.node, fun p hp => ?_⟩
      rcases List.mem_append.1 hp with hp | hp
      · exact ha.path p hp
      · obtain rfl : p = (F.length, e.2.1) := by simpa using hp
        show 1 <= F.length /\ _
        rw [nd_new]
        exact ⟨hx.pos, by simp, rfl, rfl, rfl, hg.1⟩
    · rw [if_neg h1]
      exact ⟨hx.pos, hx.root, hx.node, fun p hp => hx.path p (List.dropLast_subset _ hp)⟩
end Go.Proofs.YtfohijnkeefcfaaGreatDoor
