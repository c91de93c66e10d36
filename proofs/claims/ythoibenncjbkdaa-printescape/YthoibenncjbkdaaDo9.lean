/- What the document's own one and Fragment answer, of whatever nodes; nothing that was there is written. -/
import Derived.Test.YthoibenncjbkdaaCa9
import Derived.Test.YthoibenncjbkdaaEm9
import Derived.Test.YthoibenncjbkdaaS6WalkI
set_option linter.unusedVariables false
set_option linter.unusedSimpArgs false
set_option maxRecDepth 4000
namespace Go.Proofs.Ythoibenncjbkdaa
open Go.RowKit

theorem sizeTs_lenA : ∀ {k : Nat} (ts : List (S5.NT k)), ts.length ≤ sizeTs ts
  | 0, [] => Nat.zero_le _
  | 0, x :: r => x.none
  | k + 1, ts => sizeTs_len ts
def KidOk {k : Nat} (t : S5.NT k) : Prop := ∀ (Bk : Nat → Prop) (vs : List Value) (raw : Bool) (w : World), (∀ j, Bk j → j < w.heap.size) → S5.IsN Bk w t vs → sizeT t ≤ 1000000 →
  Calls Try.prog 15 #[.agg vs.toArray, .bool raw] w fun e w' => e = .returned (.string ⟨(printT raw t).toArray⟩) ∧ Below w.heap.size w w'
def OneOk {k : Nat} (t : S5.NT (k + 1)) : Prop := ∀ (Bk : Nat → Prop) (av kv : Value) (raw : Bool) (w : World), (∀ j, Bk j → j < w.heap.size) → S5.IsN Bk w t [.int .i64 t.nd.kind, .int .i64 t.nd.space, .string ⟨t.nd.name.toArray⟩, av, .string ⟨t.nd.text.toArray⟩, kv] → sizeT t ≤ 1000000 →
  Calls Try.prog 15 #[.agg #[.int .i64 t.nd.kind, .int .i64 t.nd.space, .string ⟨t.nd.name.toArray⟩, av, .string ⟨t.nd.text.toArray⟩, kv], .bool raw] w fun e w' => e = .returned (.string ⟨(printT raw t).toArray⟩) ∧ Below w.heap.size w w'
set_option maxHeartbeats 1000000 in
theorem one_text (sp : Int) (nm tx : ByteArray) (av kv : Value) (raw : Bool) (hs : tx.size ≤ 1000000) (w : World) :
    Calls Try.prog 15 #[.agg #[.int .i64 2, .int .i64 sp, .string nm, av, .string tx, kv], .bool raw] w fun e w' => e = .returned (.string ⟨(textW raw tx.data.toList).toArray⟩) ∧ Below w.heap.size w w' := by
  have HE := hide (rescape_any tx hs false)
  unfold textW
  cases raw
  · generalize escL false tx.data.toList = out at *
    go_enter Try.func15, Try.ntmps15
    go_wp2_with fail
    refine (HE.out _).mono ?_
    rintro e w1 ⟨rfl, rfl⟩
    go_wp2
    go_ret
    exact ⟨rfl, S5.below_alloc w _⟩
  · simp only [if_true]
    rw [show (⟨tx.data.toList.toArray⟩ : ByteArray) = tx from (S5.str_of tx _ rfl).symm]
    go_enter Try.func15, Try.ntmps15
    go_wp2
    go_ret
    exact ⟨rfl, S5.below_alloc w _⟩
set_option maxHeartbeats 1000000 in
theorem one_comment (sp : Int) (nm tx : ByteArray) (av kv : Value) (raw : Bool) (hs : tx.size ≤ 1000000) (w : World) :
    Calls Try.prog 15 #[.agg #[.int .i64 3, .int .i64 sp, .string nm, av, .string tx, kv], .bool raw] w fun e w' => e = .returned (.string ⟨(commentW tx.data.toList).toArray⟩) ∧ Below w.heap.size w w' := by
  have HX : Hid ((⟨#[60, 33, 45, 45]⟩ : ByteArray) ++ tx ++ (⟨#[45, 45, 62]⟩ : ByteArray) = ⟨(commentW tx.data.toList).toArray⟩) := hide (S5.str_of _ _ (by
    rw [S5.str_app _ _ _ _ (S5.str_app _ _ _ _ rfl rfl) rfl]
    unfold commentW
    rw [List.append_assoc]))
  generalize (⟨(commentW tx.data.toList).toArray⟩ : ByteArray) = out at *
  go_enter Try.func15, Try.ntmps15
  go_wp2
  go_ret
  exact ⟨by rw [← HX.out]; rfl, S5.below_alloc w _⟩
set_option maxHeartbeats 1000000 in
theorem one_other (kd sp : Int) (h1 : kd ≠ 1) (h2 : kd ≠ 2) (h3 : kd ≠ 3) (nm tx : ByteArray) (av kv : Value) (raw : Bool) (w : World) :
    Calls Try.prog 15 #[.agg #[.int .i64 kd, .int .i64 sp, .string nm, av, .string tx, kv], .bool raw] w fun e w' => e = .returned (.string ⟨#[]⟩) ∧ Below w.heap.size w w' := by
  have e1 : (kd == 1) = false := beq_eq_false_iff_ne.2 h1
  have e2 : (kd == 2) = false := beq_eq_false_iff_ne.2 h2
  have e3 : (kd == 3) = false := beq_eq_false_iff_ne.2 h3
  go_enter Try.func15, Try.ntmps15
  go_wp2
  go_ret
  exact ⟨rfl, S5.below_alloc w _⟩
set_option maxHeartbeats 1000000 in
theorem one_elem {k : Nat} (t : S5.NT (k + 1)) (hk1 : t.nd.kind = 1) (ih : ∀ i (h : i < t.kids.length), KidOk t.kids[i]) : OneOk t := by
  intro Bk av kv raw w hB hN hs
  have hm := sizeT_mk t
  rw [hm] at hs
  clear hm
  have hprint : printT raw t = if voidE t.nd then headE t.nd else headE t.nd ++ (printTs (rawE t.nd) t.kids ++ footE t.nd) := by
    rw [printT_mk, if_neg (by omega), if_neg (by omega), if_pos hk1]
  rw [hprint]
  clear hprint
  rw [t.form, S5.isN_iff] at hN
  obtain ⟨av2, kv2, e0, hA, hK⟩ := hN
  unfold S5.nodeC at e0
  simp only [List.cons.injEq, and_true, true_and, S5.NT.nd, S5.NT.mk] at e0
  obtain ⟨rfl, rfl⟩ := e0
  have hA2 : S5.IsAB Bk w av t.nd.attrs := hA
  have hK2 : S5.IsK Bk w t.kids kv := hK
  clear hA hK
  have HIH := hide ih
  clear ih
  have hkl := sizeTs_lenA t.kids
  have hpk := printTs_len (rawE t.nd) t.kids
  generalize t.kids = ks at *
  generalize t.nd = d at *
  obtain ⟨kd, sp, nm, aa, tx⟩ := d
  simp only at *
  subst hk1
  obtain ⟨a1, c1, rfl⟩ := S5.isA_form hA2.1
  obtain ⟨a2, c2, rfl⟩ := S5.isK_form hK2
  have hnz : (⟨nm.toArray⟩ : ByteArray).size = nm.length := by rw [S5.size_list, S5.str_data]
  have hal := sizeAs_len aa
  have haw := attrsW_len aa
  have HAT := hide (attrsW_take aa)
  have HAL := hide (attrsW_le aa)
  have HSM := hide (sizeAs_mem aa)
  have HA := hide hA2
  have HK := hide hK2
  have HB := hide hB
  unfold voidE rawE headE footE at *
  simp only at *
  have HND := hide (S5.str_data nm)
  have HV := hide (S6.ris_any 1 ⟨nm.toArray⟩)
  rw [S5.str_data] at HV
  have HI := hide (S6.ris_any 2 ⟨nm.toArray⟩)
  rw [S5.str_data] at HI
  clear hA2 hK2 hB
  generalize (⟨nm.toArray⟩ : ByteArray) = nb at *
  generalize (⟨tx.toArray⟩ : ByteArray) = tb at *
  have hw0 : Below w.heap.size w (w.alloc (.cells #[.int .i64 1, .int .i64 sp, .string nb, .slice a1 aa.length c1, .string tb, .slice a2 ks.length c2] 34)) := S5.below_alloc w _
  have HW0 := hide hw0
  clear hw0
  generalize hO : (if (sp == 0 && S6.isL 1 nm) = true then 60 :: (nm ++ (attrsW aa ++ [62])) else 60 :: (nm ++ (attrsW aa ++ [62])) ++ (printTs (sp == 0 && (S6.isL 2 nm || nm == plainT)) ks ++ 60 :: 47 :: (nm ++ [62]))) = OUT at *
  have HO := hide hO
  clear hO
  go_enter Try.func15, Try.ntmps15
  go_wp2
  go_loopw [5, 6] (fun vs vi wr => ∃ (i : Nat) (x : ByteArray), vi = .int .i64 i ∧ vs = .string x ∧ i ≤ aa.length ∧ Hid (x.data.toList = 60 :: nm ++ attrsW (aa.take i)) ∧ Hid (Below (w.alloc (.cells #[.int .i64 1, .int .i64 sp, .string nb, .slice a1 aa.length c1, .string tb, .slice a2 ks.length c2] 34)).heap.size (w.alloc (.cells #[.int .i64 1, .int .i64 sp, .string nb, .slice a1 aa.length c1, .string tb, .slice a2 ks.length c2] 34)) wr)) (fun _ vi _ => aa.length - (intOf vi).toNat)
  case atStart => exact ⟨0, ⟨#[60]⟩ ++ nb, rfl, rfl, Nat.zero_le _, hide (by rw [S5.str_app _ _ [60] nm rfl HND.out]; show _ = [60] ++ nm ++ []; rw [List.append_nil]), hide (Below.refl _ _)⟩
  case round =>
    obtain ⟨i, x, rfl, rfl, hi, HX, HBW⟩ := hrel
    have hle := HAL.out i
    have hxz : x.size = 1 + nm.length + (attrsW (aa.take i)).length := by
      rw [S5.size_list, HX.out]
      simp only [List.length_append, List.length_cons]
      omega
    have n3 : wr.cell? ⟨w.heap.size, 3, none⟩ = some (.slice a1 aa.length c1) := box_kept HBW.out 3
    by_cases hli : i < aa.length
    · have hli2 : (i : Int) < aa.length := by omega
      have k1 := isA_keepB HB.out HA.out (HW0.out.trans (HBW.out.mono HW0.out.size))
      rcases k1.1 with ⟨_, h0⟩ | ⟨b1, o1, cap1, e1, _, hc⟩
      · rw [h0] at hli; simp at hli
      injection e1 with e1 _ e1c
      subst e1 e1c
      obtain ⟨u0, u1⟩ := hc i hli
      have hsm := HSM.out i hli
      have haz : (⟨aa[i].1.toArray⟩ : ByteArray).size = aa[i].1.length := by rw [S5.size_list, S5.str_data]
      have hvz : (⟨aa[i].2.toArray⟩ : ByteArray).size = aa[i].2.length := by rw [S5.size_list, S5.str_data]
      have hel := escL_len true aa[i].2
      have HE : Hid (∀ W : World, Calls Try.prog 11 #[.string ⟨aa[i].2.toArray⟩, .bool true] W fun e w' => e = .returned (.string ⟨(escL true aa[i].2).toArray⟩) ∧ w' = W) := hide fun W => by
        have := rescape_any ⟨aa[i].2.toArray⟩ (by unfold sizeA at hsm; omega) true W
        rwa [S5.str_data] at this
      have hez : (⟨(escL true aa[i].2).toArray⟩ : ByteArray).size = (escL true aa[i].2).length := by rw [S5.size_list, S5.str_data]
      have HEQ : Hid (∀ y : ByteArray, y = x ++ ⟨#[32]⟩ ++ ⟨aa[i].1.toArray⟩ ++ ⟨#[61, 34]⟩ ++ ⟨(escL true aa[i].2).toArray⟩ ++ ⟨#[34]⟩ → y.data.toList = 60 :: nm ++ attrsW (aa.take (i + 1))) := hide (by
        rintro y rfl
        rw [HAT.out i hli, S5.str_app _ _ _ _ (S5.str_app _ _ _ _ (S5.str_app _ _ _ _ (S5.str_app _ _ _ _ (S5.str_app _ _ _ _ HX.out rfl) (S5.str_data _)) rfl) (S5.str_data _)) rfl]
        unfold attrW
        simp only [List.append_assoc, List.cons_append, List.nil_append])
      unfold sizeA at hsm
      have hz1 : (⟨aa[i].1.toArray⟩ : ByteArray).size ≤ 1000000 := by omega
      have hz2 : (⟨(escL true aa[i].2).toArray⟩ : ByteArray).size ≤ 6000000 := by omega
      have hz3 : x.size ≤ 7000000 := by omega
      clear hle hxz k1 hc hsm haz hvz hez hel
      generalize (⟨aa[i].1.toArray⟩ : ByteArray) = an at *
      generalize (⟨aa[i].2.toArray⟩ : ByteArray) = avl at *
      generalize (⟨(escL true aa[i].2).toArray⟩ : ByteArray) = es at *
      have HS : Hid (∀ W, Below wr.heap.size wr W → W.cell? ⟨w.heap.size, 3, none⟩ = some (.slice (some ⟨b1, o1, none⟩) aa.length c1) ∧ W.cell? ⟨b1, o1 + i * 2, none⟩ = some (.string an) ∧ W.cell? ⟨b1, o1 + i * 2 + 1, none⟩ = some (.string avl)) := hide (fun W hb => ⟨(hb.cell (S5.cell_lt n3)).trans n3, (hb.cell (S5.cell_lt u0)).trans u0, (hb.cell (S5.cell_lt u1)).trans u1⟩)
      have DD := hide (Below.refl wr.heap.size wr).drew
      have r1 : ¬ 9223372036854775807 < x.size + 1 := by omega
      have r2 : ¬ 9223372036854775807 < x.size + 1 + an.size := by omega
      have r3 : ¬ 9223372036854775807 < x.size + 1 + an.size + 2 := by omega
      have r4 : ¬ 9223372036854775807 < x.size + 1 + an.size + 2 + es.size := by omega
      have r5 : ¬ 9223372036854775807 < x.size + 1 + an.size + 2 + es.size + 1 := by omega
      clear u0 u1
      go_wp2_with fail
      clear n3
      go_region_held2 (fun W' => W'.cell? ⟨w.heap.size, 3, none⟩ = some (.slice (some ⟨b1, o1, none⟩) aa.length c1) ∧ W'.cell? ⟨b1, o1 + i * 2, none⟩ = some (.string an) ∧ W'.cell? ⟨b1, o1 + i * 2 + 1, none⟩ = some (.string avl)) (first | with_reducible exact HS.out _ DD.out) (first | (go_at_call 11; refine (HE.out _).mono ?_; rintro e x1 ⟨rfl, rfl⟩))
      all_goals go_wp2
      all_goals go_roundw
      case rel => exact ⟨i + 1, _, by go_num, rfl, by omega, hide (HEQ.out _ rfl), hide (HBW.out.trans (DD.out.mono HBW.out.size))⟩
      case measure => simp [intOf]; omega
    · have hli2 : ¬ (i : Int) < aa.length := by omega
      have hke : aa.take i = aa := List.take_of_length_le (by omega)
      rw [hke] at HX hle hxz
      clear hke hle HAT HAL HSM
      generalize hHD : (60 :: (nm ++ (attrsW aa ++ [62]))) = HD at *
      have HXD : Hid ((x ++ ⟨#[62]⟩ : ByteArray).data.toList = HD) := hide (by rw [S5.str_app _ _ _ _ HX.out rfl, ← hHD]; simp)
      have hhl : HD.length = nm.length + (attrsW aa).length + 2 := by
        rw [← hHD]
        simp only [List.length_cons, List.length_append, List.length_nil]
        omega
      clear hHD HX
      have r1 : ¬ 9223372036854775807 < x.size + 1 := by omega
      have hpl : Hid (∀ j, (printTs (sp == 0 && (S6.isL 2 nm || nm == plainT)) (ks.take j)).length ≤ 7 * sizeTs ks) := hide (fun j => by
        have h1 := printTs_len (sp == 0 && (S6.isL 2 nm || nm == plainT)) (ks.take j)
        have h2 := sizeTs_app (ks.take j) (ks.drop j)
        rw [List.take_append_drop] at h2
        omega)
      have n1 : wr.cell? ⟨w.heap.size, 1, none⟩ = some (.int .i64 sp) := box_kept HBW.out 1
      have n2 : wr.cell? ⟨w.heap.size, 2, none⟩ = some (.string nb) := box_kept HBW.out 2
      have HCE : Hid (∀ W, Below wr.heap.size wr W → W.cell? ⟨w.heap.size, 2, none⟩ = some (.string nb)) := hide (fun W hb => (hb.cell (S5.cell_lt n2)).trans n2)
      have hxy : (nb.toList == [112, 108, 97, 105, 110, 116, 101, 120, 116]) = (nm == plainT) := by rw [Lib.toList_data, HND.out]; rfl
      generalize hRW : (sp == 0 && (S6.isL 2 nm || nm == plainT)) = RW at *
      generalize (nm == plainT) = PL at *
      generalize S6.isL 1 nm = V at *
      generalize S6.isL 2 nm = I2 at *
      generalize hZ : (sp == 0) = Z at *
      have HRW := hide hRW
      clear hRW
      clear hxz
      generalize wr = w8 at *
      cases Z
      · obtain rfl : false = RW := HRW.out
        go_wp2
        clear n1 n2 n3
        have HB0 := hide (Below.refl _ _ : Below w8.heap.size w8 _)
        go_loopw [5, 9] (fun vs vi wr => ∃ (j : Nat) (y : ByteArray), vi = .int .i64 j ∧ vs = .string y ∧ j ≤ ks.length ∧ Hid (y.data.toList = HD ++ printTs false (ks.take j)) ∧ Hid (Below w8.heap.size w8 wr)) (fun _ vi _ => ks.length - (intOf vi).toNat)
        case atStart => exact ⟨0, _, rfl, rfl, Nat.zero_le _, hide (by rw [HXD.out]; show _ = HD ++ []; rw [List.append_nil]), HB0⟩
        case round =>
          obtain ⟨j, y, rfl, rfl, hj, HY, HBK⟩ := hrel
          have hpj := hpl.out j
          have hyz : y.size = HD.length + (printTs false (ks.take j)).length := by rw [S5.size_list, HY.out, List.length_append]
          have HBF := hide (HBW.out.trans (HBK.out.mono HBW.out.size))
          have n5 : wr.cell? ⟨w.heap.size, 5, none⟩ = some (.slice a2 ks.length c2) := box_kept HBF.out 5
          by_cases hjl : j < ks.length
          · have hjl2 : (j : Int) < ks.length := by omega
            have k1 := isK_keepB HB.out HK.out (HW0.out.trans (HBF.out.mono HW0.out.size))
            rcases k1 with ⟨_, h0⟩ | ⟨b2, o2, cap2, e2, _, _, hn2⟩
            · rw [h0] at hjl; simp at hjl
            injection e2 with e2 _ e2c
            subst e2 e2c
            obtain ⟨vs, g, hN⟩ := S5.IsNs.get o2 ks hn2 j hjl
            obtain ⟨q1, q2, q3, q4, q5, q6, q7, q8, q9, q10, rfl⟩ := hN.form
            have g0 : wr.cell? ⟨b2, o2 + j * 6, none⟩ = some (.int .i64 q1) := g 0 (by omega)
            have g1 : wr.cell? ⟨b2, o2 + j * 6 + 1, none⟩ = some (.int .i64 q2) := g 1 (by omega)
            have g2 : wr.cell? ⟨b2, o2 + j * 6 + 2, none⟩ = some (.string q3) := g 2 (by omega)
            have g3 : wr.cell? ⟨b2, o2 + j * 6 + 3, none⟩ = some (.slice q4 q5 q6) := g 3 (by omega)
            have g4 : wr.cell? ⟨b2, o2 + j * 6 + 4, none⟩ = some (.string q7) := g 4 (by omega)
            have g5 : wr.cell? ⟨b2, o2 + j * 6 + 5, none⟩ = some (.slice q8 q9 q10) := g 5 (by omega)
            have hsj := sizeTs_mem ks j hjl
            have hBk : ∀ q, Bk q → q < wr.heap.size := fun q hq => Nat.lt_of_lt_of_le (HB.out q hq) (Nat.le_trans HW0.out.size HBF.out.size)
            have HC := hide (HIH.out j hjl Bk _ false wr hBk hN (by omega))
            have hlk := printT_len false ks[j]
            have hkz : (⟨(printT false ks[j]).toArray⟩ : ByteArray).size = (printT false ks[j]).length := by rw [S5.size_list, S5.str_data]
            have HEQ : Hid ((y ++ ⟨(printT false ks[j]).toArray⟩ : ByteArray).data.toList = HD ++ printTs false (ks.take (j + 1))) := hide (by
              rw [S5.str_app _ _ _ _ HY.out (S5.str_data _), printTs_take false ks j hjl, List.append_assoc])
            have r2 : ¬ 9223372036854775807 < y.size + (⟨(printT false ks[j]).toArray⟩ : ByteArray).size := by omega
            clear g hN hn2 hBk hyz hpj hlk hkz hsj
            generalize (⟨(printT false ks[j]).toArray⟩ : ByteArray) = z at *
            go_wp2_with fail
            refine HC.out.mono ?_
            rintro e w9 ⟨rfl, b9⟩
            have HBN := hide (HBK.out.trans (b9.mono HBK.out.size))
            clear b9 g0 g1 g2 g3 g4 g5 n5
            go_wp2
            go_roundw
            case rel => exact ⟨j + 1, _, by go_num, rfl, by omega, HEQ, HBN⟩
            case measure => simp [intOf]; omega
          · have hjl2 : ¬ (j : Int) < ks.length := by omega
            have hke : ks.take j = ks := List.take_of_length_le (by omega)
            rw [hke] at HY hyz hpj
            clear hke
            have m2 := HCE.out wr HBK.out
            have r3 : ¬ 9223372036854775807 < y.size + 2 := by omega
            have r4 : ¬ 9223372036854775807 < y.size + 2 + nb.size := by omega
            have r5 : ¬ 9223372036854775807 < y.size + 2 + nb.size + 1 := by omega
            have HF : Hid ((y ++ ⟨#[60, 47]⟩ ++ nb ++ ⟨#[62]⟩ : ByteArray) = ⟨OUT.toArray⟩) := hide (S5.str_of _ _ (by
              rw [← HO.out, S5.str_app _ _ _ _ (S5.str_app _ _ _ _ (S5.str_app _ _ _ _ HY.out rfl) HND.out) rfl]
              simp))
            clear hyz hpj
            go_wp2
            go_ret
            exact ⟨by rw [← HF.out]; rfl, HW0.out.trans (HBF.out.mono HW0.out.size)⟩
      · cases V
        · cases I2
          · cases PL
            · obtain rfl : false = RW := HRW.out
              go_wp2_with fail
              refine (HV.out _).mono ?_
              rintro e w4 ⟨rfl, b4⟩
              have n4 := HCE.out w4 b4
              go_wp2_with fail
              refine (HI.out _).mono ?_
              rintro e w5 ⟨rfl, b5⟩
              have n6 := HCE.out w5 (b4.trans (b5.mono b4.size))
              go_wp2
              clear n1 n2 n3
              have HB0 := hide (b4.trans (b5.mono b4.size) : Below w8.heap.size w8 _)
              go_loopw [5, 9] (fun vs vi wr => ∃ (j : Nat) (y : ByteArray), vi = .int .i64 j ∧ vs = .string y ∧ j ≤ ks.length ∧ Hid (y.data.toList = HD ++ printTs false (ks.take j)) ∧ Hid (Below w8.heap.size w8 wr)) (fun _ vi _ => ks.length - (intOf vi).toNat)
              case atStart => exact ⟨0, _, rfl, rfl, Nat.zero_le _, hide (by rw [HXD.out]; show _ = HD ++ []; rw [List.append_nil]), HB0⟩
              case round =>
                obtain ⟨j, y, rfl, rfl, hj, HY, HBK⟩ := hrel
                have hpj := hpl.out j
                have hyz : y.size = HD.length + (printTs false (ks.take j)).length := by rw [S5.size_list, HY.out, List.length_append]
                have HBF := hide (HBW.out.trans (HBK.out.mono HBW.out.size))
                have n5 : wr.cell? ⟨w.heap.size, 5, none⟩ = some (.slice a2 ks.length c2) := box_kept HBF.out 5
                by_cases hjl : j < ks.length
                · have hjl2 : (j : Int) < ks.length := by omega
                  have k1 := isK_keepB HB.out HK.out (HW0.out.trans (HBF.out.mono HW0.out.size))
                  rcases k1 with ⟨_, h0⟩ | ⟨b2, o2, cap2, e2, _, _, hn2⟩
                  · rw [h0] at hjl; simp at hjl
                  injection e2 with e2 _ e2c
                  subst e2 e2c
                  obtain ⟨vs, g, hN⟩ := S5.IsNs.get o2 ks hn2 j hjl
                  obtain ⟨q1, q2, q3, q4, q5, q6, q7, q8, q9, q10, rfl⟩ := hN.form
                  have g0 : wr.cell? ⟨b2, o2 + j * 6, none⟩ = some (.int .i64 q1) := g 0 (by omega)
                  have g1 : wr.cell? ⟨b2, o2 + j * 6 + 1, none⟩ = some (.int .i64 q2) := g 1 (by omega)
                  have g2 : wr.cell? ⟨b2, o2 + j * 6 + 2, none⟩ = some (.string q3) := g 2 (by omega)
                  have g3 : wr.cell? ⟨b2, o2 + j * 6 + 3, none⟩ = some (.slice q4 q5 q6) := g 3 (by omega)
                  have g4 : wr.cell? ⟨b2, o2 + j * 6 + 4, none⟩ = some (.string q7) := g 4 (by omega)
                  have g5 : wr.cell? ⟨b2, o2 + j * 6 + 5, none⟩ = some (.slice q8 q9 q10) := g 5 (by omega)
                  have hsj := sizeTs_mem ks j hjl
                  have hBk : ∀ q, Bk q → q < wr.heap.size := fun q hq => Nat.lt_of_lt_of_le (HB.out q hq) (Nat.le_trans HW0.out.size HBF.out.size)
                  have HC := hide (HIH.out j hjl Bk _ false wr hBk hN (by omega))
                  have hlk := printT_len false ks[j]
                  have hkz : (⟨(printT false ks[j]).toArray⟩ : ByteArray).size = (printT false ks[j]).length := by rw [S5.size_list, S5.str_data]
                  have HEQ : Hid ((y ++ ⟨(printT false ks[j]).toArray⟩ : ByteArray).data.toList = HD ++ printTs false (ks.take (j + 1))) := hide (by
                    rw [S5.str_app _ _ _ _ HY.out (S5.str_data _), printTs_take false ks j hjl, List.append_assoc])
                  have r2 : ¬ 9223372036854775807 < y.size + (⟨(printT false ks[j]).toArray⟩ : ByteArray).size := by omega
                  clear g hN hn2 hBk hyz hpj hlk hkz hsj
                  generalize (⟨(printT false ks[j]).toArray⟩ : ByteArray) = z at *
                  go_wp2_with fail
                  refine HC.out.mono ?_
                  rintro e w9 ⟨rfl, b9⟩
                  have HBN := hide (HBK.out.trans (b9.mono HBK.out.size))
                  clear b9 g0 g1 g2 g3 g4 g5 n5
                  go_wp2
                  go_roundw
                  case rel => exact ⟨j + 1, _, by go_num, rfl, by omega, HEQ, HBN⟩
                  case measure => simp [intOf]; omega
                · have hjl2 : ¬ (j : Int) < ks.length := by omega
                  have hke : ks.take j = ks := List.take_of_length_le (by omega)
                  rw [hke] at HY hyz hpj
                  clear hke
                  have m2 := HCE.out wr HBK.out
                  have r3 : ¬ 9223372036854775807 < y.size + 2 := by omega
                  have r4 : ¬ 9223372036854775807 < y.size + 2 + nb.size := by omega
                  have r5 : ¬ 9223372036854775807 < y.size + 2 + nb.size + 1 := by omega
                  have HF : Hid ((y ++ ⟨#[60, 47]⟩ ++ nb ++ ⟨#[62]⟩ : ByteArray) = ⟨OUT.toArray⟩) := hide (S5.str_of _ _ (by
                    rw [← HO.out, S5.str_app _ _ _ _ (S5.str_app _ _ _ _ (S5.str_app _ _ _ _ HY.out rfl) HND.out) rfl]
                    simp))
                  clear hyz hpj
                  go_wp2
                  go_ret
                  exact ⟨by rw [← HF.out]; rfl, HW0.out.trans (HBF.out.mono HW0.out.size)⟩
            · obtain rfl : true = RW := HRW.out
              go_wp2_with fail
              refine (HV.out _).mono ?_
              rintro e w4 ⟨rfl, b4⟩
              have n4 := HCE.out w4 b4
              go_wp2_with fail
              refine (HI.out _).mono ?_
              rintro e w5 ⟨rfl, b5⟩
              have n6 := HCE.out w5 (b4.trans (b5.mono b4.size))
              go_wp2
              clear n1 n2 n3
              have HB0 := hide (b4.trans (b5.mono b4.size) : Below w8.heap.size w8 _)
              go_loopw [5, 9] (fun vs vi wr => ∃ (j : Nat) (y : ByteArray), vi = .int .i64 j ∧ vs = .string y ∧ j ≤ ks.length ∧ Hid (y.data.toList = HD ++ printTs true (ks.take j)) ∧ Hid (Below w8.heap.size w8 wr)) (fun _ vi _ => ks.length - (intOf vi).toNat)
              case atStart => exact ⟨0, _, rfl, rfl, Nat.zero_le _, hide (by rw [HXD.out]; show _ = HD ++ []; rw [List.append_nil]), HB0⟩
              case round =>
                obtain ⟨j, y, rfl, rfl, hj, HY, HBK⟩ := hrel
                have hpj := hpl.out j
                have hyz : y.size = HD.length + (printTs true (ks.take j)).length := by rw [S5.size_list, HY.out, List.length_append]
                have HBF := hide (HBW.out.trans (HBK.out.mono HBW.out.size))
                have n5 : wr.cell? ⟨w.heap.size, 5, none⟩ = some (.slice a2 ks.length c2) := box_kept HBF.out 5
                by_cases hjl : j < ks.length
                · have hjl2 : (j : Int) < ks.length := by omega
                  have k1 := isK_keepB HB.out HK.out (HW0.out.trans (HBF.out.mono HW0.out.size))
                  rcases k1 with ⟨_, h0⟩ | ⟨b2, o2, cap2, e2, _, _, hn2⟩
                  · rw [h0] at hjl; simp at hjl
                  injection e2 with e2 _ e2c
                  subst e2 e2c
                  obtain ⟨vs, g, hN⟩ := S5.IsNs.get o2 ks hn2 j hjl
                  obtain ⟨q1, q2, q3, q4, q5, q6, q7, q8, q9, q10, rfl⟩ := hN.form
                  have g0 : wr.cell? ⟨b2, o2 + j * 6, none⟩ = some (.int .i64 q1) := g 0 (by omega)
                  have g1 : wr.cell? ⟨b2, o2 + j * 6 + 1, none⟩ = some (.int .i64 q2) := g 1 (by omega)
                  have g2 : wr.cell? ⟨b2, o2 + j * 6 + 2, none⟩ = some (.string q3) := g 2 (by omega)
                  have g3 : wr.cell? ⟨b2, o2 + j * 6 + 3, none⟩ = some (.slice q4 q5 q6) := g 3 (by omega)
                  have g4 : wr.cell? ⟨b2, o2 + j * 6 + 4, none⟩ = some (.string q7) := g 4 (by omega)
                  have g5 : wr.cell? ⟨b2, o2 + j * 6 + 5, none⟩ = some (.slice q8 q9 q10) := g 5 (by omega)
                  have hsj := sizeTs_mem ks j hjl
                  have hBk : ∀ q, Bk q → q < wr.heap.size := fun q hq => Nat.lt_of_lt_of_le (HB.out q hq) (Nat.le_trans HW0.out.size HBF.out.size)
                  have HC := hide (HIH.out j hjl Bk _ true wr hBk hN (by omega))
                  have hlk := printT_len true ks[j]
                  have hkz : (⟨(printT true ks[j]).toArray⟩ : ByteArray).size = (printT true ks[j]).length := by rw [S5.size_list, S5.str_data]
                  have HEQ : Hid ((y ++ ⟨(printT true ks[j]).toArray⟩ : ByteArray).data.toList = HD ++ printTs true (ks.take (j + 1))) := hide (by
                    rw [S5.str_app _ _ _ _ HY.out (S5.str_data _), printTs_take true ks j hjl, List.append_assoc])
                  have r2 : ¬ 9223372036854775807 < y.size + (⟨(printT true ks[j]).toArray⟩ : ByteArray).size := by omega
                  clear g hN hn2 hBk hyz hpj hlk hkz hsj
                  generalize (⟨(printT true ks[j]).toArray⟩ : ByteArray) = z at *
                  go_wp2_with fail
                  refine HC.out.mono ?_
                  rintro e w9 ⟨rfl, b9⟩
                  have HBN := hide (HBK.out.trans (b9.mono HBK.out.size))
                  clear b9 g0 g1 g2 g3 g4 g5 n5
                  go_wp2
                  go_roundw
                  case rel => exact ⟨j + 1, _, by go_num, rfl, by omega, HEQ, HBN⟩
                  case measure => simp [intOf]; omega
                · have hjl2 : ¬ (j : Int) < ks.length := by omega
                  have hke : ks.take j = ks := List.take_of_length_le (by omega)
                  rw [hke] at HY hyz hpj
                  clear hke
                  have m2 := HCE.out wr HBK.out
                  have r3 : ¬ 9223372036854775807 < y.size + 2 := by omega
                  have r4 : ¬ 9223372036854775807 < y.size + 2 + nb.size := by omega
                  have r5 : ¬ 9223372036854775807 < y.size + 2 + nb.size + 1 := by omega
                  have HF : Hid ((y ++ ⟨#[60, 47]⟩ ++ nb ++ ⟨#[62]⟩ : ByteArray) = ⟨OUT.toArray⟩) := hide (S5.str_of _ _ (by
                    rw [← HO.out, S5.str_app _ _ _ _ (S5.str_app _ _ _ _ (S5.str_app _ _ _ _ HY.out rfl) HND.out) rfl]
                    simp))
                  clear hyz hpj
                  go_wp2
                  go_ret
                  exact ⟨by rw [← HF.out]; rfl, HW0.out.trans (HBF.out.mono HW0.out.size)⟩
          · obtain rfl : true = RW := HRW.out
            go_wp2_with fail
            refine (HV.out _).mono ?_
            rintro e w4 ⟨rfl, b4⟩
            have n4 := HCE.out w4 b4
            go_wp2_with fail
            refine (HI.out _).mono ?_
            rintro e w5 ⟨rfl, b5⟩
            have n6 := HCE.out w5 (b4.trans (b5.mono b4.size))
            go_wp2
            clear n1 n2 n3
            have HB0 := hide (b4.trans (b5.mono b4.size) : Below w8.heap.size w8 _)
            go_loopw [5, 9] (fun vs vi wr => ∃ (j : Nat) (y : ByteArray), vi = .int .i64 j ∧ vs = .string y ∧ j ≤ ks.length ∧ Hid (y.data.toList = HD ++ printTs true (ks.take j)) ∧ Hid (Below w8.heap.size w8 wr)) (fun _ vi _ => ks.length - (intOf vi).toNat)
            case atStart => exact ⟨0, _, rfl, rfl, Nat.zero_le _, hide (by rw [HXD.out]; show _ = HD ++ []; rw [List.append_nil]), HB0⟩
            case round =>
              obtain ⟨j, y, rfl, rfl, hj, HY, HBK⟩ := hrel
              have hpj := hpl.out j
              have hyz : y.size = HD.length + (printTs true (ks.take j)).length := by rw [S5.size_list, HY.out, List.length_append]
              have HBF := hide (HBW.out.trans (HBK.out.mono HBW.out.size))
              have n5 : wr.cell? ⟨w.heap.size, 5, none⟩ = some (.slice a2 ks.length c2) := box_kept HBF.out 5
              by_cases hjl : j < ks.length
              · have hjl2 : (j : Int) < ks.length := by omega
                have k1 := isK_keepB HB.out HK.out (HW0.out.trans (HBF.out.mono HW0.out.size))
                rcases k1 with ⟨_, h0⟩ | ⟨b2, o2, cap2, e2, _, _, hn2⟩
                · rw [h0] at hjl; simp at hjl
                injection e2 with e2 _ e2c
                subst e2 e2c
                obtain ⟨vs, g, hN⟩ := S5.IsNs.get o2 ks hn2 j hjl
                obtain ⟨q1, q2, q3, q4, q5, q6, q7, q8, q9, q10, rfl⟩ := hN.form
                have g0 : wr.cell? ⟨b2, o2 + j * 6, none⟩ = some (.int .i64 q1) := g 0 (by omega)
                have g1 : wr.cell? ⟨b2, o2 + j * 6 + 1, none⟩ = some (.int .i64 q2) := g 1 (by omega)
                have g2 : wr.cell? ⟨b2, o2 + j * 6 + 2, none⟩ = some (.string q3) := g 2 (by omega)
                have g3 : wr.cell? ⟨b2, o2 + j * 6 + 3, none⟩ = some (.slice q4 q5 q6) := g 3 (by omega)
                have g4 : wr.cell? ⟨b2, o2 + j * 6 + 4, none⟩ = some (.string q7) := g 4 (by omega)
                have g5 : wr.cell? ⟨b2, o2 + j * 6 + 5, none⟩ = some (.slice q8 q9 q10) := g 5 (by omega)
                have hsj := sizeTs_mem ks j hjl
                have hBk : ∀ q, Bk q → q < wr.heap.size := fun q hq => Nat.lt_of_lt_of_le (HB.out q hq) (Nat.le_trans HW0.out.size HBF.out.size)
                have HC := hide (HIH.out j hjl Bk _ true wr hBk hN (by omega))
                have hlk := printT_len true ks[j]
                have hkz : (⟨(printT true ks[j]).toArray⟩ : ByteArray).size = (printT true ks[j]).length := by rw [S5.size_list, S5.str_data]
                have HEQ : Hid ((y ++ ⟨(printT true ks[j]).toArray⟩ : ByteArray).data.toList = HD ++ printTs true (ks.take (j + 1))) := hide (by
                  rw [S5.str_app _ _ _ _ HY.out (S5.str_data _), printTs_take true ks j hjl, List.append_assoc])
                have r2 : ¬ 9223372036854775807 < y.size + (⟨(printT true ks[j]).toArray⟩ : ByteArray).size := by omega
                clear g hN hn2 hBk hyz hpj hlk hkz hsj
                generalize (⟨(printT true ks[j]).toArray⟩ : ByteArray) = z at *
                go_wp2_with fail
                refine HC.out.mono ?_
                rintro e w9 ⟨rfl, b9⟩
                have HBN := hide (HBK.out.trans (b9.mono HBK.out.size))
                clear b9 g0 g1 g2 g3 g4 g5 n5
                go_wp2
                go_roundw
                case rel => exact ⟨j + 1, _, by go_num, rfl, by omega, HEQ, HBN⟩
                case measure => simp [intOf]; omega
              · have hjl2 : ¬ (j : Int) < ks.length := by omega
                have hke : ks.take j = ks := List.take_of_length_le (by omega)
                rw [hke] at HY hyz hpj
                clear hke
                have m2 := HCE.out wr HBK.out
                have r3 : ¬ 9223372036854775807 < y.size + 2 := by omega
                have r4 : ¬ 9223372036854775807 < y.size + 2 + nb.size := by omega
                have r5 : ¬ 9223372036854775807 < y.size + 2 + nb.size + 1 := by omega
                have HF : Hid ((y ++ ⟨#[60, 47]⟩ ++ nb ++ ⟨#[62]⟩ : ByteArray) = ⟨OUT.toArray⟩) := hide (S5.str_of _ _ (by
                  rw [← HO.out, S5.str_app _ _ _ _ (S5.str_app _ _ _ _ (S5.str_app _ _ _ _ HY.out rfl) HND.out) rfl]
                  simp))
                clear hyz hpj
                go_wp2
                go_ret
                exact ⟨by rw [← HF.out]; rfl, HW0.out.trans (HBF.out.mono HW0.out.size)⟩
        · have HF : Hid ((x ++ ⟨#[62]⟩ : ByteArray) = ⟨OUT.toArray⟩) := hide (S5.str_of _ _ (by rw [HXD.out, ← HO.out]; rfl))
          go_wp2_with fail
          refine (HV.out _).mono ?_
          rintro e w4 ⟨rfl, b4⟩
          have n4 := HCE.out w4 b4
          go_wp2
          go_ret
          exact ⟨by rw [← HF.out]; rfl, HW0.out.trans ((HBW.out.trans (b4.mono HBW.out.size)).mono HW0.out.size)⟩
end Go.Proofs.Ythoibenncjbkdaa
