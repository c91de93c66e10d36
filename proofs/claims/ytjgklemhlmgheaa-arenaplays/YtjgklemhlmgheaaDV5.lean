/- The document's Value, walked. -/
import Derived.Test.YtjgklemhlmgheaaVT5
import Derived.Test.YtjgklemhlmgheaaWalkI5
import Derived.Test.YtjgklemhlmgheaaWalkC5
import Derived.Deep.RegionHeld2
set_option linter.unusedVariables false
set_option linter.unusedSimpArgs false
namespace Go.Proofs.Ytjgklemhlmgheaa
open Go.RowKit

structure Kd (wr Y : World) (q : Nat) {j : Nat} (t : NT j) (vs : List Value) : Prop where
  bel : Below wr.heap.size wr Y
  node : IsN (fun k => wr.heap.size ≤ k) Y t vs
  cells : ∀ i, Y.cell? ⟨q, i, none⟩ = vs[i]?
theorem kid_new {wr y : World} {j : Nat} {t : NT j} {vs : List Value} (hb : Below wr.heap.size wr y) (hN : IsN (fun k => wr.heap.size ≤ k) y t vs) : Kd wr (y.alloc (.cells vs.toArray 41)) y.heap.size t vs :=
  ⟨hb.trans ((below_alloc _ _).mono hb.size), IsN.keep (fun k hk => Below.heap_alloc _ _ _ hk.2) (fun k hk => hk.1) _ _ (IsN.tight _ _ hN), (Kept.new y vs _).1⟩
theorem kid_set {wr y : World} {j : Nat} {t : NT j} {m : Nat} {v0 v1 v2 v3 v4 v5 : Value} (hb : Below wr.heap.size wr y) (hm : m = wr.heap.size + 1) (hk : Kept y wr.heap.size zeroC6) (hN : IsN (fun k => m ≤ k) y t [v0, v1, v2, v3, v4, v5]) : Kd wr (set6 y wr.heap.size v0 v1 v2 v3 v4 v5) wr.heap.size t [v0, v1, v2, v3, v4, v5] :=
  ⟨set6_below hb (Nat.le_refl _) _ _ _ _ _ _, IsN.keep (fun k hk => set6_other _ _ _ _ _ _ _ _ k (by omega)) (fun k hk => by omega) _ _ hN, ((((((hk.set 0 (by simp [zeroC6]) v0).set 1 (by simp [zeroC6]) v1).set 2 (by simp [zeroC6]) v2).set 3 (by simp [zeroC6]) v3).set 4 (by simp [zeroC6]) v4).set 5 (by simp [zeroC6]) v5).1⟩
def ValD (T : TR) (rv : Value) (n : Nat) : Prop := ∀ (w : World), IsT w rv T → Calls Try.prog 16 #[.agg #[rv], .int .i64 (n : Int)] w fun e w' => (∃ vs, e = .returned (.agg vs.toArray) ∧ IsN (fun k => w.heap.size ≤ k) w' (valueL T n) vs) ∧ Below w.heap.size w w'
set_option maxRecDepth 10000 in
set_option maxHeartbeats 1000000 in
theorem dvalue_step {T : TR} (hW : WF T) (hz : T.length ≤ 1000000) (ha : ∀ i, (nodeAt T i).attrs.length ≤ 1000000) (rv : Value) (n : Nat) (hn : n < T.length) (ih : ∀ x ∈ kidsAt T n, ValD T rv x) : ValD T rv n := by
  intro w hT
  have HVE := hide (hW.value_eq hn)
  have HIH := hide ih
  have HIS := hide (fun W (h : IsT W rv T) => is_any rv T (n : Int) W h)
  rw [show decide (0 ≤ (n : Int) ∧ (n : Int) < T.length) = true by simp; omega] at HIS
  have HT := hide hT
  obtain ⟨b, o, cap, rfl, hcap, hit⟩ := hT
  obtain ⟨av, kv, hA, hI, hcs⟩ := hit n hn
  have hnd : T[n].1 = nodeAt T n := by unfold nodeAt; rw [List.getElem?_eq_getElem hn]; rfl
  rw [← kidsAt_get hn] at hI
  rw [hnd] at hA hcs
  obtain ⟨ka, kc, rfl⟩ := isI_form hI
  obtain ⟨aa, ac, rfl⟩ := isV_form (.inl hA)
  have hkl : (kidsAt T n).length ≤ 1000000 := by have := hW.kids_len n; omega
  have hai : (nodeAt T n).attrs.length ≤ 1000000 := ha n
  have hni : (n : Int) < T.length := by omega
  have HCS := hide hcs
  have HA0 := hide hA
  have HI0 := hide hI
  obtain ⟨W0, hW0⟩ : ∃ W0, W0 = w.alloc (.cells #[.slice (some ⟨b, o, none⟩) T.length cap] 27) := ⟨_, rfl⟩
  have hsz : W0.heap.size = w.heap.size + 1 := by rw [hW0]; simp
  have HB0 := hide (below_alloc w (.cells #[.slice (some ⟨b, o, none⟩) T.length cap] 27))
  have HKT := hide (Kept.new w [.slice (some ⟨b, o, none⟩) T.length cap] 27)
  rw [← hW0] at HB0 HKT
  have HB1 := hide (below_alloc W0 (.cells #[.int .i64 0, .int .i64 0, .string ⟨#[]⟩, .slice none 0 0, .string ⟨#[]⟩, .slice none 0 0] 41))
  have HK1 : Hid (Kept (W0.alloc (.cells #[.int .i64 0, .int .i64 0, .string ⟨#[]⟩, .slice none 0 0, .string ⟨#[]⟩, .slice none 0 0] 41)) W0.heap.size zeroC6) := hide (Kept.new W0 zeroC6 41)
  clear hit hA hI hcs hnd ih ha hW
  generalize kidsAt T n = ks at *
  generalize nodeAt T n = d at *
  go_enter Try.func16, Try.ntmps16
  go_wp2_with fail
  rw [← hsz, ← hW0]
  clear hW0
  have hTT := HT.out.below HB0.out |>.below HB1.out
  refine (HIS.out _ hTT).mono ?_
  rintro e x1 ⟨rfl, b1⟩
  have B1 := hide (HB1.out.trans (b1.mono HB1.out.size))
  have BW := hide (HB0.out.trans (B1.out.mono HB0.out.size))
  have K1 := Kept.below (v := .int .i64 0) (cs := [.int .i64 0, .string ⟨#[]⟩, .slice none 0 0, .string ⟨#[]⟩, .slice none 0 0]) HK1.out b1
  have hx1 : W0.heap.size < x1.heap.size := cell_lt (K1.1 0)
  have t0 : x1.cell? ⟨w.heap.size, 0, none⟩ = some (.slice (some ⟨b, o, none⟩) T.length cap) := (B1.out.cell (cell_lt (HKT.out.1 0))).trans (HKT.out.1 0)
  have hcx : ∀ i v, (itC d (.slice aa d.attrs.length ac) (.slice ka ks.length kc))[i]? = some v → i < 7 → x1.cell? ⟨b, o + n * 7 + i, none⟩ = some v := fun i v hv hi => by
    have h0 := HCS.out i hi
    rw [hv] at h0
    exact (BW.out.cell (cell_lt h0)).trans h0
  have i0 := hcx 0 _ rfl (by omega)
  have i1 := hcx 1 _ rfl (by omega)
  have i2 := hcx 2 _ rfl (by omega)
  have i3 := hcx 3 _ rfl (by omega)
  have i4 := hcx 4 _ rfl (by omega)
  have i5 := hcx 5 _ rfl (by omega)
  simp only [Nat.add_zero] at i0
  have bx := below_alloc x1 (.cells #[.int .i64 d.kind, .int .i64 d.space, .string ⟨d.name.toArray⟩, .slice aa d.attrs.length ac, .string ⟨d.text.toArray⟩, .slice none 0 0] 41)
  obtain ⟨v1, w1, hr1, ho1, hb1⟩ := copy_attrs (x1.alloc (.cells #[.int .i64 d.kind, .int .i64 d.space, .string ⟨d.name.toArray⟩, .slice aa d.attrs.length ac, .string ⟨d.text.toArray⟩, .slice none 0 0] 41)) (.slice aa d.attrs.length ac) d.attrs ((IsV.below (.inl HA0.out) BW.out).below bx) hai
  have KP0 : Kept (x1.alloc (.cells #[.int .i64 d.kind, .int .i64 d.space, .string ⟨d.name.toArray⟩, .slice aa d.attrs.length ac, .string ⟨d.text.toArray⟩, .slice none 0 0] 41)) x1.heap.size (nodeC d (.slice aa d.attrs.length ac) (.slice none 0 0)) := Kept.new x1 (nodeC d (.slice aa d.attrs.length ac) (.slice none 0 0)) 41
  have KP1 : Kept w1 x1.heap.size (nodeC d (.slice aa d.attrs.length ac) (.slice none 0 0)) := Kept.below (v := .int .i64 d.kind) (cs := [.int .i64 d.space, .string ⟨d.name.toArray⟩, .slice aa d.attrs.length ac, .string ⟨d.text.toArray⟩, .slice none 0 0]) KP0 hb1
  have hb2 : Below x1.heap.size x1 w1 := bx.trans (hb1.mono bx.size)
  have hxs : (x1.alloc (.cells #[.int .i64 d.kind, .int .i64 d.space, .string ⟨d.name.toArray⟩, .slice aa d.attrs.length ac, .string ⟨d.text.toArray⟩, .slice none 0 0] 41)).heap.size = x1.heap.size + 1 := by simp
  obtain ⟨a1, c1, rfl⟩ := owns_form ho1
  have HVS : Hid (VS (j := T.length + 1) W0 x1.heap.size d (.slice a1 d.attrs.length c1) (.slice none 0 0) [] (w1.setCell ⟨x1.heap.size, 3, none⟩ (.slice a1 d.attrs.length c1))) := hide (by
    have hot : ∀ k, k ≠ x1.heap.size → (w1.setCell ⟨x1.heap.size, 3, none⟩ (.slice a1 d.attrs.length c1)).heap[k]? = w1.heap[k]? := fun k hk => Below.heap_setCell _ _ _ _ hk
    refine ⟨(B1.out.trans (hb2.mono B1.out.size)).setCell (p := ⟨x1.heap.size, 3, none⟩) (Nat.le_of_lt hx1) _, KP1.set 3 (by simp [nodeC]) _, (K1.keep (hb2.block _ hx1)).keep (hot _ (by omega)), ?_, ⟨⟨[], rfl, World.ownsRow_nil _ _ _ _, by intro j h1; simp at h1⟩⟩, hx1⟩
    have hAB : IsAB (fun k => W0.heap.size < k ∧ k ≠ x1.heap.size ∧ (Value.slice none 0 0).ownBlock ≠ some k) w1 (.slice a1 d.attrs.length c1) d.attrs := ⟨owns_isA ho1, .inr fun k e => ⟨by have := (ho1.lt k e).1; omega, by have := (ho1.lt k e).1; omega, by intro h; cases h⟩⟩
    exact hAB.keep fun k hk => hot k hk.2.1)
  have u3 : w1.cell? ⟨x1.heap.size, 3, none⟩ = some (.slice aa d.attrs.length ac) := KP1.1 3
  have uf : w1.frozen? ⟨x1.heap.size, 3, none⟩ = false := KP1.2 3
  have u3a : ((x1.alloc (.cells #[.int .i64 d.kind, .int .i64 d.space, .string ⟨d.name.toArray⟩, .slice aa d.attrs.length ac, .string ⟨d.text.toArray⟩, .slice none 0 0] 41)).alloc (.cells #[] 80)).cell? ⟨x1.heap.size, 3, none⟩ = some (.slice aa d.attrs.length ac) := ((below_alloc _ _).cell (cell_lt (KP0.1 3))).trans (KP0.1 3)
  have u3b : (x1.alloc (.cells #[.int .i64 d.kind, .int .i64 d.space, .string ⟨d.name.toArray⟩, .slice aa d.attrs.length ac, .string ⟨d.text.toArray⟩, .slice none 0 0] 41)).cell? ⟨x1.heap.size, 3, none⟩ = some (.slice aa d.attrs.length ac) := KP0.1 3
  rw [hxs] at hr1
  have HR1 := hide hr1
  clear b1 hTT hcx K1 bx KP0 KP1 hb1 hb2 ho1 hr1
  go_wp2_with (with_reducible refine wpList_append_run rfl _ _ 31 rfl (.slice (some ⟨x1.heap.size + 1, 0, none⟩) 0 0) (.slice aa d.attrs.length ac) _ w1 rfl rfl HR1.out ?_)
  clear HR1 u3 uf u3a u3b i0 i1 i2 i3 i4 i5 t0 hxs
  generalize (w1.setCell ⟨x1.heap.size, 3, none⟩ (.slice a1 d.attrs.length c1)) = X at *
  generalize x1.heap.size = p at *
  go_loopw [6, 7] (fun vi v7 wr => ∃ (i : Nat) (kvv : Value), vi = .int .i64 (i : Int) ∧ i ≤ ks.length ∧ Hid (VS W0 p d (.slice a1 d.attrs.length c1) kvv ((ks.take i).map (valueL T)) wr ∧ ∃ a n c, kvv = .slice a n c)) (fun vi _ _ => ks.length - (intOf vi).toNat)
  case atStart => exact ⟨0, .slice none 0 0, rfl, by omega, hide ⟨HVS.out, _, _, _, rfl⟩⟩
  case round =>
    clear HVS
    obtain ⟨i, kvv, rfl, hi, HV⟩ := hrel
    obtain ⟨hV, qa, qn, qc, rfl⟩ := HV.out
    have HBR := hide (HB0.out.trans (hV.bel.mono HB0.out.size))
    have t0 : wr.cell? ⟨w.heap.size, 0, none⟩ = some (.slice (some ⟨b, o, none⟩) T.length cap) := (hV.bel.cell (cell_lt (HKT.out.1 0))).trans (HKT.out.1 0)
    have c6 : wr.cell? ⟨b, o + n * 7 + 6, none⟩ = some (.slice ka ks.length kc) := by
      have h0 : w.cell? ⟨b, o + n * 7 + 6, none⟩ = some (.slice ka ks.length kc) := HCS.out 6 (by omega)
      exact (HBR.out.cell (cell_lt h0)).trans h0
    by_cases hlt : i < ks.length
    · have hlt2 : (i : Int) < ks.length := by omega
      obtain ⟨kb, ko, rfl, hkc⟩ := (HI0.out.below HBR.out).at (by omega)
      have ck := hkc i hlt
      have HD := hide (Below.refl wr.heap.size wr).drew
      have HVAL := hide (HIH.out ks[i] (List.getElem_mem hlt))
      have HTK : Hid ((ks.take (i + 1)).map (valueL T) = (ks.take i).map (valueL T) ++ [valueL T ks[i]]) := hide (by rw [List.take_succ_eq_append_getElem hlt, List.map_append]; rfl)
      have hmi : ((ks.take i).map (valueL T)).length ≤ 1000000 := by rw [List.length_map, List.length_take]; omega
      have k5 : wr.cell? ⟨p, 5, none⟩ = some (.slice qa qn qc) := hV.kp.1 5
      obtain ⟨x, hx⟩ : ∃ x, x = ks[i] := ⟨_, rfl⟩
      rw [← hx] at ck HVAL HTK
      have HSS : Hid (∀ W', Below wr.heap.size wr W' → (W'.cell? ⟨w.heap.size, 0, none⟩ = some (.slice (some ⟨b, o, none⟩) T.length cap) ∧ W'.cell? ⟨b, o + n * 7 + 6, none⟩ = some (.slice (some ⟨kb, ko, none⟩) ks.length kc) ∧ W'.cell? ⟨kb, ko + i, none⟩ = some (.int .i64 (x : Int)))) := hide fun W' hb => ⟨(hb.cell (cell_lt t0)).trans t0, (hb.cell (cell_lt c6)).trans c6, (hb.cell (cell_lt ck)).trans ck⟩
      have HVA := hide (fun W' (hb : Below wr.heap.size wr W') => HVAL.out W' ((HT.out.below HBR.out).below hb))
      have HD2 : Hid (Below wr.heap.size wr (wr.drew.alloc (.cells #[.int .i64 0, .int .i64 0, .string ⟨#[]⟩, .slice none 0 0, .string ⟨#[]⟩, .slice none 0 0] 41))) := hide (HD.out.trans ((below_alloc wr.drew _).mono HD.out.size))
      have HVV := hide hV
      have HHX := hide hx
      have HMI := hide hmi
      clear hkc hV HV hmi hx HVAL
      go_wp2_with fail
      go_region_held2 (fun W' => W'.cell? ⟨w.heap.size, 0, none⟩ = some (.slice (some ⟨b, o, none⟩) T.length cap) ∧ W'.cell? ⟨b, o + n * 7 + 6, none⟩ = some (.slice (some ⟨kb, ko, none⟩) ks.length kc) ∧ W'.cell? ⟨kb, ko + i, none⟩ = some (.int .i64 (x : Int))) (first | with_reducible exact HSS.out _ HD.out | with_reducible exact HSS.out _ HD2.out | with_reducible exact HSS.out _ HY1.out | with_reducible exact HSS.out _ HYa.out | with_reducible exact HSS.out _ HYs.out | exact HSS.out _ HD2.out) (first | (go_at_call 16; refine (HVA.out _ HD.out).mono ?_; rintro e y1 ⟨⟨vs, rfl, hN⟩, b1⟩; have HY1 := hide (HD.out.trans b1); obtain ⟨q1, q2, q3, q4, q5, q6, q7, q8, q9, q10, rfl⟩ := hN.form; have HYa : Hid (Below wr.heap.size wr (y1.alloc (.cells #[.int .i64 0, .int .i64 0, .string ⟨#[]⟩, .slice none 0 0, .string ⟨#[]⟩, .slice none 0 0] 41))) := hide (HY1.out.trans ((below_alloc _ _).mono HY1.out.size)); have HYs : Hid (Below wr.heap.size wr (y1.alloc (.cells #[.int .i64 q1, .int .i64 q2, .string q3, .slice q4 q5 q6, .string q7, .slice q8 q9 q10] 41))) := hide (HY1.out.trans ((below_alloc _ _).mono HY1.out.size)); have HKD := hide (kid_new HY1.out hN); clear b1 hN) | (go_at_call 16; refine (HVA.out _ HD2.out).mono ?_; rintro e y1 ⟨⟨vs, rfl, hN⟩, b1⟩; have HY1 := hide (HD2.out.trans (b1.mono HD2.out.size)); obtain ⟨q1, q2, q3, q4, q5, q6, q7, q8, q9, q10, rfl⟩ := hN.form; have HYs : Hid (Below wr.heap.size wr ((((((y1.setCell ⟨wr.heap.size, 0, none⟩ (.int .i64 q1)).setCell ⟨wr.heap.size, 1, none⟩ (.int .i64 q2)).setCell ⟨wr.heap.size, 2, none⟩ (.string q3)).setCell ⟨wr.heap.size, 3, none⟩ (.slice q4 q5 q6)).setCell ⟨wr.heap.size, 4, none⟩ (.string q7)).setCell ⟨wr.heap.size, 5, none⟩ (.slice q8 q9 q10))) := hide (set6_below HY1.out (Nat.le_refl _) _ _ _ _ _ _); have HKK := hide (Kept.below (v := .int .i64 0) (cs := [.int .i64 0, .string ⟨#[]⟩, .slice none 0 0, .string ⟨#[]⟩, .slice none 0 0]) (Kept.new wr.drew zeroC6 41) b1); have z0 : y1.cell? ⟨wr.heap.size, 0, none⟩ = some (.int .i64 0) := HKK.out.1 0; have z1 : y1.cell? ⟨wr.heap.size, 1, none⟩ = some (.int .i64 0) := HKK.out.1 1; have z2 : y1.cell? ⟨wr.heap.size, 2, none⟩ = some (.string ⟨#[]⟩) := HKK.out.1 2; have z3 : y1.cell? ⟨wr.heap.size, 3, none⟩ = some (.slice none 0 0) := HKK.out.1 3; have z4 : y1.cell? ⟨wr.heap.size, 4, none⟩ = some (.string ⟨#[]⟩) := HKK.out.1 4; have z5 : y1.cell? ⟨wr.heap.size, 5, none⟩ = some (.slice none 0 0) := HKK.out.1 5; have zf : ∀ o, y1.frozen? ⟨wr.heap.size, o, none⟩ = false := HKK.out.2; have HKD := hide (kid_set HY1.out (by simp) HKK.out hN); clear b1 hN))
      · have HKE : Hid (Kd wr (y1.alloc (.cells #[.int .i64 q1, .int .i64 q2, .string q3, .slice q4 q5 q6, .string q7, .slice q8 q9 q10] 41)) y1.heap.size (valueL T x) [.int .i64 q1, .int .i64 q2, .string q3, .slice q4 q5 q6, .string q7, .slice q8 q9 q10]) := HKD
        clear HKD HYa HYs HY1
        generalize (y1.alloc (.cells #[.int .i64 q1, .int .i64 q2, .string q3, .slice q4 q5 q6, .string q7, .slice q8 q9 q10] 41)) = Y at *
        generalize y1.heap.size = qq at *
        have d0 : Y.cell? ⟨qq, 0, none⟩ = some (.int .i64 q1) := HKE.out.cells 0
        have d1 : Y.cell? ⟨qq, 1, none⟩ = some (.int .i64 q2) := HKE.out.cells 1
        have d2 : Y.cell? ⟨qq, 2, none⟩ = some (.string q3) := HKE.out.cells 2
        have d3 : Y.cell? ⟨qq, 3, none⟩ = some (.slice q4 q5 q6) := HKE.out.cells 3
        have d4 : Y.cell? ⟨qq, 4, none⟩ = some (.string q7) := HKE.out.cells 4
        have d5 : Y.cell? ⟨qq, 5, none⟩ = some (.slice q8 q9 q10) := HKE.out.cells 5
        have k5y : Y.cell? ⟨p, 5, none⟩ = some (.slice qa qn qc) := (HKE.out.bel.cell (cell_lt k5)).trans k5
        obtain ⟨v', w', hr, u1, u2, ⟨ra, rn, rc, rfl⟩, hV'⟩ := HVV.out.step HKE.out.bel HKE.out.node HMI.out
        rw [← HTK.out] at hV'
        have k5a : (Y.alloc (.cells #[.int .i64 q1, .int .i64 q2, .string q3, .slice q4 q5 q6, .string q7, .slice q8 q9 q10] 41)).cell? ⟨p, 5, none⟩ = some (.slice qa qn qc) := ((below_alloc Y _).cell (cell_lt k5y)).trans k5y
        have HVN := hide hV'
        have HR := hide hr
        clear hr hV' HKE t0 c6 ck k5
        go_wp2_with (with_reducible refine wpList_append_run rfl _ _ 39 rfl (.slice qa qn qc) (.slice (some ⟨Y.heap.size, 0, none⟩) 1 1) _ w' rfl rfl HR.out ?_)
        go_roundw
        case rel => exact ⟨i + 1, .slice ra rn rc, by go_num, by omega, hide ⟨HVN.out, _, _, _, rfl⟩⟩
        case measure => simp [intOf]; omega
      · have HKE : Hid (Kd wr ((((((y1.setCell ⟨wr.heap.size, 0, none⟩ (.int .i64 q1)).setCell ⟨wr.heap.size, 1, none⟩ (.int .i64 q2)).setCell ⟨wr.heap.size, 2, none⟩ (.string q3)).setCell ⟨wr.heap.size, 3, none⟩ (.slice q4 q5 q6)).setCell ⟨wr.heap.size, 4, none⟩ (.string q7)).setCell ⟨wr.heap.size, 5, none⟩ (.slice q8 q9 q10)) wr.heap.size (valueL T x) [.int .i64 q1, .int .i64 q2, .string q3, .slice q4 q5 q6, .string q7, .slice q8 q9 q10]) := HKD
        clear HKD HYs HY1 HKK z0 z1 z2 z3 z4 z5 zf
        generalize ((((((y1.setCell ⟨wr.heap.size, 0, none⟩ (.int .i64 q1)).setCell ⟨wr.heap.size, 1, none⟩ (.int .i64 q2)).setCell ⟨wr.heap.size, 2, none⟩ (.string q3)).setCell ⟨wr.heap.size, 3, none⟩ (.slice q4 q5 q6)).setCell ⟨wr.heap.size, 4, none⟩ (.string q7)).setCell ⟨wr.heap.size, 5, none⟩ (.slice q8 q9 q10)) = Y at *
        have d0 : Y.cell? ⟨wr.heap.size, 0, none⟩ = some (.int .i64 q1) := HKE.out.cells 0
        have d1 : Y.cell? ⟨wr.heap.size, 1, none⟩ = some (.int .i64 q2) := HKE.out.cells 1
        have d2 : Y.cell? ⟨wr.heap.size, 2, none⟩ = some (.string q3) := HKE.out.cells 2
        have d3 : Y.cell? ⟨wr.heap.size, 3, none⟩ = some (.slice q4 q5 q6) := HKE.out.cells 3
        have d4 : Y.cell? ⟨wr.heap.size, 4, none⟩ = some (.string q7) := HKE.out.cells 4
        have d5 : Y.cell? ⟨wr.heap.size, 5, none⟩ = some (.slice q8 q9 q10) := HKE.out.cells 5
        have k5y : Y.cell? ⟨p, 5, none⟩ = some (.slice qa qn qc) := (HKE.out.bel.cell (cell_lt k5)).trans k5
        obtain ⟨v', w', hr, u1, u2, ⟨ra, rn, rc, rfl⟩, hV'⟩ := HVV.out.step HKE.out.bel HKE.out.node HMI.out
        rw [← HTK.out] at hV'
        have k5a : (Y.alloc (.cells #[.int .i64 q1, .int .i64 q2, .string q3, .slice q4 q5 q6, .string q7, .slice q8 q9 q10] 41)).cell? ⟨p, 5, none⟩ = some (.slice qa qn qc) := ((below_alloc Y _).cell (cell_lt k5y)).trans k5y
        have HVN := hide hV'
        have HR := hide hr
        clear hr hV' HKE t0 c6 ck k5
        go_wp2_with (with_reducible refine wpList_append_run rfl _ _ 39 rfl (.slice qa qn qc) (.slice (some ⟨Y.heap.size, 0, none⟩) 1 1) _ w' rfl rfl HR.out ?_)
        go_roundw
        case rel => exact ⟨i + 1, .slice ra rn rc, by go_num, by omega, hide ⟨HVN.out, _, _, _, rfl⟩⟩
        case measure => simp [intOf]; omega
    · have hlt2 : ¬ (i : Int) < ks.length := by omega
      have hke : ks.take i = ks := List.take_of_length_le (by omega)
      rw [hke] at hV
      obtain ⟨hN, hB⟩ := hV.done
      rw [← HVE.out] at hN; replace hN := IsN.lift _ _ hN
      have j0 : wr.cell? ⟨W0.heap.size, 0, none⟩ = some (.int .i64 0) := hV.kq.1 0
      have j1 : wr.cell? ⟨W0.heap.size, 1, none⟩ = some (.int .i64 0) := hV.kq.1 1
      have j2 : wr.cell? ⟨W0.heap.size, 2, none⟩ = some (.string ⟨#[]⟩) := hV.kq.1 2
      have j3 : wr.cell? ⟨W0.heap.size, 3, none⟩ = some (.slice none 0 0) := hV.kq.1 3
      have j4 : wr.cell? ⟨W0.heap.size, 4, none⟩ = some (.string ⟨#[]⟩) := hV.kq.1 4
      have j5 : wr.cell? ⟨W0.heap.size, 5, none⟩ = some (.slice none 0 0) := hV.kq.1 5
      have jf : ∀ o, wr.frozen? ⟨W0.heap.size, o, none⟩ = false := hV.kq.2
      have k0 : wr.cell? ⟨p, 0, none⟩ = some (.int .i64 d.kind) := hV.kp.1 0
      have k1 : wr.cell? ⟨p, 1, none⟩ = some (.int .i64 d.space) := hV.kp.1 1
      have k2 : wr.cell? ⟨p, 2, none⟩ = some (.string ⟨d.name.toArray⟩) := hV.kp.1 2
      have k3 : wr.cell? ⟨p, 3, none⟩ = some (.slice a1 d.attrs.length c1) := hV.kp.1 3
      have k4 : wr.cell? ⟨p, 4, none⟩ = some (.string ⟨d.text.toArray⟩) := hV.kp.1 4
      have k5 : wr.cell? ⟨p, 5, none⟩ = some (.slice qa qn qc) := hV.kp.1 5
      have hBB := HB0.out.trans (hB.mono HB0.out.size)
      have hNN := hN.mono (C := fun k => w.heap.size ≤ k) (fun k hk => by omega)
      rw [hsz] at hBB hNN j0 j1 j2 j3 j4 j5 jf
      have HF := hide (And.intro hNN hBB)
      clear hN hB hV HV hke hBB hNN
      go_wp2
      refine bodyPost_ret (v := .agg #[.int .i64 d.kind, .int .i64 d.space, .string ⟨d.name.toArray⟩, .slice a1 d.attrs.length c1, .string ⟨d.text.toArray⟩, .slice qa qn qc]) ?_ rfl ⟨⟨_, rfl, HF.out.1⟩, HF.out.2⟩
      rw [results_cell_one rfl]
      go_simp
end Go.Proofs.Ytjgklemhlmgheaa
