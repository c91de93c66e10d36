import Derived.Test.YtpppdfjdngmaoaaGreatDoorKh12
import Derived.Deep.RegionHeld2
set_option linter.unusedVariables false
set_option linter.unusedSimpArgs false
set_option maxRecDepth 100000
set_option maxHeartbeats 8000000
namespace Go.Proofs.YtpppdfjdngmaoaaGreatDoor.P9
open Go.RowKit
theorem attrsW_take (aa : G5.AttrL) (i : Nat) (h : i < aa.length) : attrsW (aa.take (i + 1)) = attrsW (aa.take i) ++ attrW aa[i] := by
  unfold attrsW
  rw [List.take_succ_eq_append_getElem h, List.flatMap_append]
  simp
theorem attrsW_le (aa : G5.AttrL) (i : Nat) : (attrsW (aa.take i)).length ≤ (attrsW aa).length := by
  have : attrsW aa = attrsW (aa.take i) ++ attrsW (aa.drop i) := by
    unfold attrsW
    rw [← List.flatMap_append, List.take_append_drop]
  rw [this, List.length_append]
  omega
theorem sizeAs_mem (aa : G5.AttrL) (i : Nat) (h : i < aa.length) : sizeA aa[i] ≤ sizeAs aa := by
  have h1 := sizeAs_take aa i h
  have h2 : sizeAs aa = sizeAs (aa.take (i + 1)) + sizeAs (aa.drop (i + 1)) := by
    unfold sizeAs
    rw [← List.sum_append, ← List.map_append, List.take_append_drop]
  omega
theorem sizeAs_len : ∀ (aa : G5.AttrL), aa.length ≤ sizeAs aa
  | [] => Nat.zero_le _
  | a :: r => by
    have h := sizeAs_len r
    have : sizeAs (a :: r) = sizeA a + sizeAs r := by unfold sizeAs; rw [List.map_cons, List.sum_cons]
    rw [List.length_cons, this]
    unfold sizeA
    omega
theorem box_wrote {w W : World} {cs : Array Value} {B b : Nat} {acc x : List UInt8} (h : Wrote B b acc x (w.alloc (.cells cs 46)) W) (hb : b < w.heap.size) (j : Nat) : W.cell? ⟨w.heap.size, j, none⟩ = cs[j]? := by
  have := h.2.2 w.heap.size _ (new_heap w _) (fun e => by simp at e; omega) (fun c fz e => by cases e)
  exact Lib.cell_of_heap this j
theorem box_more {B b : Nat} {acc x : List UInt8} {w W : World} (h : Wrote B b acc x w W) {k : Nat} {cs : Array Value} {T : TypeId} {fr : Nat × Nat} (hk : w.heap[k]? = some (.cells cs T fr)) (hb : k ≠ b) (hT : T ≠ tU) : W.heap[k]? = some (.cells cs T fr) :=
  h.2.2 k _ hk (fun e => hb (by simpa using e)) (fun c fz e => by cases e; exact hT rfl)
theorem isA_keepB {Bk : Nat → Prop} {w W : World} {B : Nat} {aa : G5.AttrL} {v : Value} (hB : ∀ k, Bk k → k < B) (h : G5.IsAB Bk w v aa) (hb : Below B w W) : G5.IsAB Bk W v aa := h.keep fun k hk => hb.block k (hB k hk)
theorem Wrote.ahead {B b : Nat} {acc x : List UInt8} {w w1 w2 : World} (h : Wrote B b acc x w w1) (hb : Below w1.heap.size w1 w2) : Wrote B b acc x w w2 :=
  ⟨h.1.below hb, h.2.1.trans (hb.mono h.1.2), h.2.2.trans (ok_below hb)⟩
theorem elem_step {k : Nat} (t : G5.NT (k + 1)) (ih : ListOk t.kids) : ElemOk t := by
  intro Bk B b acc av kv w hP hB hN hk1 hs hl
  have hm := sizeT_mk t
  rw [hm] at hs hl
  clear hm
  have hprint : printT false t = if voidE t.nd then headE t.nd else headE t.nd ++ (printTs (rawE t.nd) t.kids ++ footE t.nd) := by
    rw [printT_mk, if_neg (by omega), if_neg (by omega), if_pos hk1]
  rw [hprint]
  clear hprint
  rw [t.form, G5.isN_iff] at hN
  obtain ⟨av2, kv2, e0, hA, hK⟩ := hN
  unfold G5.nodeC at e0
  simp only [List.cons.injEq, and_true, true_and, G5.NT.nd, G5.NT.mk] at e0
  obtain ⟨rfl, rfl⟩ := e0
  have hA2 : G5.IsAB Bk w av t.nd.attrs := hA
  have hK2 : G5.IsK Bk w t.kids kv := hK
  clear hA hK
  have hpk := printTs_len (rawE t.nd) t.kids
  generalize hkd : t.kids = ks at *
  generalize t.nd = d at *
  clear hkd
  obtain ⟨kd, sp, nm, aa, tx⟩ := d
  simp only at *
  subst hk1
  obtain ⟨a1, c1, rfl⟩ := G5.isA_form hA2.1
  obtain ⟨a2, c2, rfl⟩ := G5.isK_form hK2
  have hnz : (⟨nm.toArray⟩ : ByteArray).size = nm.length := by rw [G5.size_list, G5.str_data]
  have hlt := pr_lt hP
  have hal := sizeAs_len aa
  have haw := attrsW_len aa
  have HAT := hide (attrsW_take aa)
  have HAL := hide (attrsW_le aa)
  have HSM := hide (sizeAs_mem aa)
  have HA := hide hA2
  have HK := hide hK2
  have HB := hide hB
  have HP := hide hP
  have HIH := hide ih
  unfold voidE rawE headE footE at *
  simp only at *
  have HND := hide (G5.str_data nm)
  have HV := hide (S6.is_any 1 ⟨nm.toArray⟩)
  rw [G5.str_data] at HV
  have HTW := hide (textsWithin_p 1 sp ⟨nm.toArray⟩ ⟨tx.toArray⟩ (.slice a1 aa.length c1) (.slice a2 ks.length c2))
  rw [G5.str_data] at HTW
  have HH := hide (html_p 1 sp ⟨nm.toArray⟩ ⟨tx.toArray⟩ (.slice a1 aa.length c1) (.slice a2 ks.length c2))
  clear hA2 hK2 hB hP ih
  generalize (⟨nm.toArray⟩ : ByteArray) = nb at *
  generalize (⟨tx.toArray⟩ : ByteArray) = tb at *
  have hw0 : Below w.heap.size w (w.alloc (.cells #[.int .i64 1, .int .i64 sp, .string nb, .slice a1 aa.length c1, .string tb, .slice a2 ks.length c2] 46)) := G5.below_alloc w _
  have HP0 := hide (HP.out.below hw0)
  have HW0 := hide hw0
  clear hw0
  generalize hO : (if (sp == 0 && S6.isL 1 nm) = true then 60 :: (nm ++ (attrsW aa ++ [62])) else 60 :: (nm ++ (attrsW aa ++ [62])) ++ (printTs (sp == 0 && (S6.isL 2 nm || nm == plainT)) ks ++ 60 :: 47 :: (nm ++ [62]))) = OUT at *
  have HO := hide hO
  clear hO
  go_enter Tryz.func69, Tryz.ntmps69
  go_wp2_with fail
  refine (put2 HP0.out ⟨#[60]⟩ nb (by show _ + (1 + _) ≤ _; omega) (by simp)).mono ?_
  rintro e w1 ⟨rfl, h1⟩
  have d3 := box_wrote h1 hlt 3
  rw [HND.out] at h1
  have H1 := hide h1
  clear h1
  go_wp2
  go_loopw [14] (fun i wr => ∃ k : Nat, k ≤ aa.length ∧ i = .int .i64 k ∧ Hid (Wrote B b acc (60 :: nm ++ attrsW (aa.take k)) (w.alloc (.cells #[.int .i64 1, .int .i64 sp, .string nb, .slice a1 aa.length c1, .string tb, .slice a2 ks.length c2] 46)) wr)) (fun i _ => aa.length - (intOf i).toNat)
  case atStart => exact ⟨0, Nat.zero_le _, rfl, hide (by show Wrote B b acc ((60 :: nm) ++ []) _ _; rw [List.append_nil]; exact H1.out)⟩
  case round =>
    obtain ⟨i, hi, rfl, HW⟩ := hrel
    have hbw := HW.out.2.1
    have hPb := HW.out.1.2
    have HX := hide (box_more HW.out (new_heap w _) (by omega) (by decide))
    by_cases hli : i < aa.length
    · have hli2 : (i : Int) < aa.length := by omega
      have k1 := isA_keepB HB.out HA.out ((HW0.out.mono HP.out.2).trans hbw)
      rcases k1.1 with ⟨_, h0⟩ | ⟨b1, o1, cap1, e1, _, hc⟩
      · rw [h0] at hli; simp at hli
      injection e1 with e1 _ e1c
      subst e1 e1c
      obtain ⟨u0, u1⟩ := hc i hli
      have hsm := HSM.out i hli
      have hle := HAL.out i
      have hle2 := HAL.out (i + 1)
      have hat := HAT.out i hli
      rw [hat, List.length_append] at hle2
      have haz : (⟨aa[i].1.toArray⟩ : ByteArray).size = aa[i].1.length := by rw [G5.size_list, G5.str_data]
      have hvz : (⟨aa[i].2.toArray⟩ : ByteArray).size = aa[i].2.length := by rw [G5.size_list, G5.str_data]
      have HE : Hid (∀ W : World, Calls Tryz.prog 35 #[.string ⟨aa[i].2.toArray⟩, .bool true] W fun e w' => e = .returned (.string ⟨(escL true aa[i].2).toArray⟩) ∧ Below W.heap.size W w') := hide fun W => by
        have := escape_any ⟨aa[i].2.toArray⟩ (by unfold sizeA at hsm; omega) true W
        rwa [G5.str_data] at this
      have hez : (⟨(escL true aa[i].2).toArray⟩ : ByteArray).size = (escL true aa[i].2).length := by rw [G5.size_list, G5.str_data]
      have hlen : (attrW aa[i]).length = 1 + (aa[i].1.length + (2 + ((escL true aa[i].2).length + 1))) := by
        unfold attrW
        simp only [List.length_cons, List.length_append, List.length_nil]
        omega
      have HEQ : Hid (attrW aa[i] = [32] ++ ((⟨aa[i].1.toArray⟩ : ByteArray).data.toList ++ ([61, 34] ++ ((⟨(escL true aa[i].2).toArray⟩ : ByteArray).data.toList ++ [34])))) := hide (by
        rw [G5.str_data, G5.str_data]
        rfl)
      have HAT2 := hide hat
      have HLEN := hide hlen
      have hroom : (acc ++ (60 :: nm ++ attrsW (aa.take i))).length + (attrW aa[i]).length ≤ 140737488355328 := by
        simp only [List.length_append, List.length_cons] at *
        omega
      rw [hlen] at hroom
      clear hat hlen hle hle2 k1 hc HLEN hsm
      generalize (⟨aa[i].1.toArray⟩ : ByteArray) = an at *
      generalize (⟨aa[i].2.toArray⟩ : ByteArray) = avl at *
      generalize (⟨(escL true aa[i].2).toArray⟩ : ByteArray) = es at *
      rw [← haz, ← hez] at hroom
      clear haz hvz hez
      obtain ⟨X0, hX0⟩ : ∃ X0, wr.alloc (.cells #[.string an, .string avl] 66) = X0 := ⟨_, rfl⟩
      have hX1 : Below wr.heap.size wr X0 := by rw [← hX0]; exact G5.below_alloc wr _
      have hX2 : X0.heap[wr.heap.size]? = some (.cells #[.string an, .string avl] 66) := by rw [← hX0]; exact new_heap wr _
      have hX3 : X0.heap.size = wr.heap.size + 1 := by rw [← hX0]; simp
      have HS : Hid (∀ W, Below X0.heap.size X0 W → W.cell? ⟨wr.heap.size, 0, none⟩ = some (.string an) ∧ W.cell? ⟨wr.heap.size, 1, none⟩ = some (.string avl)) := hide (fun W hb => by
        have h := hb.block wr.heap.size (by omega)
        rw [hX2] at h
        exact ⟨Lib.cell_of_heap h 0, Lib.cell_of_heap h 1⟩)
      have HPX : Hid (∀ W, Below X0.heap.size X0 W → Pr B b (acc ++ (60 :: nm ++ attrsW (aa.take i))) W) := hide (fun W hb => (HW.out.1.below hX1).below hb)
      have HFIN : Hid (∀ W, Below X0.heap.size X0 W → Below wr.heap.size wr W) := hide (fun W hb => hX1.trans (hb.mono hX1.size))
      have hwb : b < wr.heap.size := by have := HW.out.2.1.size; have := HW0.out.size; exact pr_lt HW.out.1
      have HS2 : Hid (∀ W W2 x y, Below X0.heap.size X0 W → Wrote B b x y W W2 → W2.cell? ⟨wr.heap.size, 0, none⟩ = some (.string an) ∧ W2.cell? ⟨wr.heap.size, 1, none⟩ = some (.string avl)) := hide (fun W W2 x y hb hw => by
        have h := hb.block wr.heap.size (by omega)
        rw [hX2] at h
        have h2 := box_more hw h (by omega) (by decide)
        exact ⟨Lib.cell_of_heap h2 0, Lib.cell_of_heap h2 1⟩)
      have DD := hide (Below.refl X0.heap.size X0).drew
      clear hX1 hX2 hX3
      go_wp2_with fail
      try rw [hX0]
      clear hX0
      go_region_held2 (fun W' => W'.cell? ⟨wr.heap.size, 0, none⟩ = some (.string an) ∧ W'.cell? ⟨wr.heap.size, 1, none⟩ = some (.string avl)) (first | with_reducible exact HS.out _ DD.out | with_reducible exact HS.out _ B3.out | with_reducible exact HS.out _ B4.out | with_reducible exact HS2.out _ _ _ _ B3.out H5.out) (first | (go_at_call 35; refine (HE.out _).mono ?_; rintro e x1 ⟨rfl, b3⟩; have B3 := hide (DD.out.trans (b3.mono (Nat.le_refl _))); have B4 := hide (B3.out.alloc B3.out.size (.cells #[.string ⟨#[32]⟩, .string an, .string ⟨#[61, 34]⟩, .string es, .string ⟨#[34]⟩] 9)); clear b3) | (go_at_call 55; refine (put5 (HPX.out _ B3.out) ⟨#[32]⟩ an ⟨#[61, 34]⟩ es ⟨#[34]⟩ (by exact hroom) rfl).mono ?_; rintro e x2 ⟨rfl, h5⟩; have H5 := hide h5; clear h5))
      have HN : Hid (Wrote B b acc (60 :: nm ++ attrsW (aa.take (i + 1))) (w.alloc (.cells #[.int .i64 1, .int .i64 sp, .string nb, .slice (some ⟨b1, o1, none⟩) aa.length c1, .string tb, .slice a2 ks.length c2] 46)) x2) := hide (by
        have h5 := H5.out
        rw [HAT2.out, HEQ.out, ← List.append_assoc]
        exact HW.out.trans (h5.behind (HFIN.out _ B3.out) hPb))
      go_wp2
      go_roundw
      case rel => exact ⟨i + 1, by omega, by go_num, HN⟩
      case measure => simp [intOf]; omega
    · have hli2 : ¬ (i : Int) < aa.length := by omega
      have hke : aa.take i = aa := List.take_of_length_le (by omega)
      rw [hke] at HW
      clear hke HX
      have hr1 : (acc ++ (60 :: nm ++ attrsW aa)).length + (⟨#[62]⟩ : ByteArray).size ≤ 140737488355328 := by
        show _ + 1 ≤ _
        simp only [List.length_append, List.length_cons]
        omega
      go_wp2_with fail
      refine (put1 HW.out.1 ⟨#[62]⟩ hr1 rfl).mono ?_
      rintro e w2 ⟨rfl, h2⟩
      have H2 : Hid (Wrote B b acc (60 :: (nm ++ (attrsW aa ++ [62]))) (w.alloc (.cells #[.int .i64 1, .int .i64 sp, .string nb, .slice a1 aa.length c1, .string tb, .slice a2 ks.length c2] 46)) w2) := hide (by
        have := HW.out.trans h2
        have e : (60 :: nm ++ attrsW aa ++ (⟨#[62]⟩ : ByteArray).data.toList) = 60 :: (nm ++ (attrsW aa ++ [62])) := by simp
        rwa [e] at this)
      have hbk := box_more H2.out (new_heap w _) (by omega) (by decide)
      have hbl : w.heap.size < w2.heap.size := (Array.getElem?_eq_some_iff.1 hbk).1
      have HBX : Hid (∀ W', Below w2.heap.size w2 W' → W'.cell? ⟨w.heap.size, 0, none⟩ = some (.int .i64 1) ∧ W'.cell? ⟨w.heap.size, 1, none⟩ = some (.int .i64 sp) ∧ W'.cell? ⟨w.heap.size, 2, none⟩ = some (.string nb) ∧ W'.cell? ⟨w.heap.size, 3, none⟩ = some (.slice a1 aa.length c1) ∧ W'.cell? ⟨w.heap.size, 4, none⟩ = some (.string tb) ∧ W'.cell? ⟨w.heap.size, 5, none⟩ = some (.slice a2 ks.length c2)) := hide (fun W' hb => by
        have h := hb.block w.heap.size hbl
        rw [hbk] at h
        exact ⟨Lib.cell_of_heap h 0, Lib.cell_of_heap h 1, Lib.cell_of_heap h 2, Lib.cell_of_heap h 3, Lib.cell_of_heap h 4, Lib.cell_of_heap h 5⟩)
      have HBX2 : Hid (∀ W W' x y, Below w2.heap.size w2 W → Wrote B b x y W W' → W'.cell? ⟨w.heap.size, 0, none⟩ = some (.int .i64 1) ∧ W'.cell? ⟨w.heap.size, 1, none⟩ = some (.int .i64 sp) ∧ W'.cell? ⟨w.heap.size, 2, none⟩ = some (.string nb) ∧ W'.cell? ⟨w.heap.size, 3, none⟩ = some (.slice a1 aa.length c1) ∧ W'.cell? ⟨w.heap.size, 4, none⟩ = some (.string tb) ∧ W'.cell? ⟨w.heap.size, 5, none⟩ = some (.slice a2 ks.length c2)) := hide (fun W W' x y hb hw => by
        have h := hb.block w.heap.size hbl
        rw [hbk] at h
        have h := box_more hw h (by omega) (by decide)
        exact ⟨Lib.cell_of_heap h 0, Lib.cell_of_heap h 1, Lib.cell_of_heap h 2, Lib.cell_of_heap h 3, Lib.cell_of_heap h 4, Lib.cell_of_heap h 5⟩)
      generalize hHD : (60 :: (nm ++ (attrsW aa ++ [62]))) = HD at *
      have hhl : HD.length = nm.length + (attrsW aa).length + 2 := by
        rw [← hHD]
        simp only [List.length_cons, List.length_append, List.length_nil]
        omega
      clear hHD
      generalize (sp == 0 && (S6.isL 2 nm || nm == plainT)) = RW at *
      have hl2 : (acc ++ HD).length + 7 * sizeTs ks ≤ 140737488355328 := by
        rw [List.length_append]
        omega
      have HLI : Hid (∀ W, Below w2.heap.size w2 W → Calls Tryz.prog 36 #[.pointer (some ⟨b, 0, none⟩), .slice a2 ks.length c2, wayOfTexts RW] W fun e w' => e = .returned (.tuple #[]) ∧ Wrote B b (acc ++ HD) (printTs RW ks) W w') := hide (fun W hb => HIH.out Bk B b (acc ++ HD) _ RW W (H2.out.1.below hb) HB.out (isK_keepB HB.out HK.out (((HW0.out.mono HP.out.2).trans H2.out.2.1).trans (hb.mono H2.out.1.2))) (by omega) hl2)
      have hroom2 : (acc ++ HD ++ printTs RW ks).length + (2 + (nb.size + 1)) ≤ 140737488355328 := by
        rw [List.length_append, List.length_append]
        omega
      have HDONE : Hid (∀ W W1 W2, Below w2.heap.size w2 W → Wrote B b (acc ++ HD) (printTs RW ks) W W1 → Wrote B b (acc ++ HD ++ printTs RW ks) ((⟨#[60, 47]⟩ : ByteArray).data.toList ++ (nb.data.toList ++ (⟨#[62]⟩ : ByteArray).data.toList)) W1 W2 → Wrote B b acc (HD ++ (printTs RW ks ++ (60 :: 47 :: (nm ++ [62])))) w W2) := hide (fun W W1 W2 hb h5 h6 => by
        have := (H2.out.trans ((h5.trans h6).behind hb H2.out.1.2)).behind HW0.out HP.out.2
        rw [HND.out] at this
        exact this)
      have HVD : Hid (∀ W, Below w2.heap.size w2 W → Wrote B b acc HD w W) := hide (fun W hb => (H2.out.ahead hb).behind HW0.out HP.out.2)
      clear h2 hbk hbl hhl hl2 hpk hr1
      generalize S6.isL 1 nm = V at *
      generalize (sp == 0) = Z at *
      obtain ⟨q0, q1, q2, q3, q4, q5⟩ := HBX.out w2 (Below.refl _ _)
      cases Z
      · go_wp2_with fail
        refine (HH.out _).mono ?_
        rintro e w3 ⟨rfl, b3⟩
        clear q0 q1 q2 q3 q4 q5
        have B1 := hide (b3 : Below w2.heap.size w2 w3)
        have DD := hide (B1.out.drew)
        obtain ⟨q0, q1, q2, q3, q4, q5⟩ := HBX.out _ B1.out
        clear q0 q1 q2 q3 q4 q5
        go_wp2_with fail
        go_region_held2 (fun W' => W'.cell? ⟨w.heap.size, 0, none⟩ = some (.int .i64 1) ∧ W'.cell? ⟨w.heap.size, 1, none⟩ = some (.int .i64 sp) ∧ W'.cell? ⟨w.heap.size, 2, none⟩ = some (.string nb) ∧ W'.cell? ⟨w.heap.size, 3, none⟩ = some (.slice a1 aa.length c1) ∧ W'.cell? ⟨w.heap.size, 4, none⟩ = some (.string tb) ∧ W'.cell? ⟨w.heap.size, 5, none⟩ = some (.slice a2 ks.length c2)) (first | with_reducible exact HBX.out _ DD.out | with_reducible exact HBX.out _ B3.out | with_reducible exact HBX2.out _ _ _ _ B3.out H5.out) (first | (go_at_call 97; refine (HTW.out _).mono ?_; rintro e x1 ⟨rfl, b3⟩; have B3 := hide (DD.out.trans (b3.mono DD.out.size)); clear b3) | (go_at_call 36; refine (HLI.out _ B3.out).mono ?_; rintro e x2 ⟨rfl, h5⟩; have H5 := hide h5; clear h5))
        obtain ⟨q0, q1, q2, q3, q4, q5⟩ := HBX2.out _ _ _ _ B3.out H5.out
        clear q0 q1 q3 q4 q5
        go_wp2_with fail
        refine (put3 H5.out.1 ⟨#[60, 47]⟩ nb ⟨#[62]⟩ (by have := hroom2; exact this) rfl).mono ?_
        rintro e x3 ⟨rfl, h6⟩
        have H6 := hide h6
        clear h6
        go_wp2
        go_end0
        exact ⟨rfl, by rw [← HO.out]; exact HDONE.out _ _ _ B3.out H5.out H6.out⟩
      · cases V
        · go_wp2_with fail
          refine (HH.out _).mono ?_
          rintro e w3 ⟨rfl, b3⟩
          clear q0 q1 q2 q3 q4 q5
          obtain ⟨q0, q1, q2, q3, q4, q5⟩ := HBX.out w3 b3
          clear q0 q1 q3 q4 q5
          go_wp2_with fail
          refine (HV.out _).mono ?_
          rintro e w4 ⟨rfl, b4⟩
          clear q2
          have B1 := hide (b3.trans (b4.mono b3.size) : Below w2.heap.size w2 w4)
          have DD := hide (B1.out.drew)
          obtain ⟨q0, q1, q2, q3, q4, q5⟩ := HBX.out _ B1.out
          clear q0 q1 q2 q3 q4 q5
          go_wp2_with fail
          go_region_held2 (fun W' => W'.cell? ⟨w.heap.size, 0, none⟩ = some (.int .i64 1) ∧ W'.cell? ⟨w.heap.size, 1, none⟩ = some (.int .i64 sp) ∧ W'.cell? ⟨w.heap.size, 2, none⟩ = some (.string nb) ∧ W'.cell? ⟨w.heap.size, 3, none⟩ = some (.slice a1 aa.length c1) ∧ W'.cell? ⟨w.heap.size, 4, none⟩ = some (.string tb) ∧ W'.cell? ⟨w.heap.size, 5, none⟩ = some (.slice a2 ks.length c2)) (first | with_reducible exact HBX.out _ DD.out | with_reducible exact HBX.out _ B3.out | with_reducible exact HBX2.out _ _ _ _ B3.out H5.out) (first | (go_at_call 97; refine (HTW.out _).mono ?_; rintro e x1 ⟨rfl, b3⟩; have B3 := hide (DD.out.trans (b3.mono DD.out.size)); clear b3) | (go_at_call 36; refine (HLI.out _ B3.out).mono ?_; rintro e x2 ⟨rfl, h5⟩; have H5 := hide h5; clear h5))
          obtain ⟨q0, q1, q2, q3, q4, q5⟩ := HBX2.out _ _ _ _ B3.out H5.out
          clear q0 q1 q3 q4 q5
          go_wp2_with fail
          refine (put3 H5.out.1 ⟨#[60, 47]⟩ nb ⟨#[62]⟩ (by have := hroom2; exact this) rfl).mono ?_
          rintro e x3 ⟨rfl, h6⟩
          have H6 := hide h6
          clear h6
          go_wp2
          go_end0
          exact ⟨rfl, by rw [← HO.out]; exact HDONE.out _ _ _ B3.out H5.out H6.out⟩
        · go_wp2_with fail
          refine (HH.out _).mono ?_
          rintro e w3 ⟨rfl, b3⟩
          clear q0 q1 q2 q3 q4 q5
          obtain ⟨q0, q1, q2, q3, q4, q5⟩ := HBX.out w3 b3
          clear q0 q1 q3 q4 q5
          go_wp2_with fail
          refine (HV.out _).mono ?_
          rintro e w4 ⟨rfl, b4⟩
          clear q2
          go_wp2
          refine bodyPost_ret (results_none rfl _ _ _) rfl ?_
          exact ⟨rfl, by rw [← HO.out]; exact HVD.out _ (b3.trans (b4.mono b3.size))⟩
end Go.Proofs.YtpppdfjdngmaoaaGreatDoor.P9
namespace Go.Proofs.YtpppdfjdngmaoaaGreatDoor.P9
open Go.RowKit
theorem list_any : ∀ {k : Nat} (ts : List (G5.NT k)), ListOk ts
  | 0, ts => by
    intro Bk B b acc va raw w hP hB hK hs hl
    obtain ⟨rfl, h2⟩ := G5.isK_up hK
    exact list_step ([] : List (G5.NT 1)) (fun i hi => by simp at hi) Bk B b acc va raw w hP hB h2 (Nat.zero_le _) (by rw [sizeTs_nil] at hl ⊢; exact hl)
  | k + 1, ts => list_step ts fun i hi => elem_step ts[i] (list_any _)
theorem fragment_any {k : Nat} (ts : List (G5.NT k)) (Bk : Nat → Prop) (va : Value) (w : World) (hB : ∀ j, Bk j → j < w.heap.size) (hK : G5.IsK Bk w ts va) (hs : sizeTs ts ≤ 1000000) :
    Calls Tryz.prog 24 #[va] w fun e w' => e = .returned (.string ⟨(printTs false ts).toArray⟩) ∧ Below w.heap.size w w' := by
  have HL := hide (list_any ts Bk w.heap.size w.heap.size [] va false _ (Pr.fresh w) hB (isK_keepB hB hK (G5.below_alloc w _)) hs (by rw [List.length_nil]; omega))
  obtain ⟨a1, c1, rfl⟩ := G5.isK_form hK
  clear hK hB
  generalize printTs false ts = out at *
  go_enter Tryz.func24, Tryz.ntmps24
  go_wp2_with fail
  refine HL.out.mono ?_
  rintro e w1 ⟨rfl, h1⟩
  have HW := hide h1
  clear h1
  go_wp2_with fail
  refine (string_any w.heap.size w.heap.size out _ HW.out.1.1 HW.out.1.2).mono ?_
  rintro e w2 ⟨rfl, b2⟩
  go_wp2
  go_ret
  exact ⟨rfl, ((G5.below_alloc w _).trans HW.out.2.1).trans b2⟩
end Go.Proofs.YtpppdfjdngmaoaaGreatDoor.P9
namespace Go.Proofs.YtpppdfjdngmaoaaGreatDoor.P9
open Go.RowKit
def aliveN : List (G5.NT 2) := [.mk ⟨1, 0, [97], [([98], [34])], []⟩ [.mk ⟨2, 0, [], [], [60]⟩ []]]
theorem alive_print : printTs false aliveN = [60, 97, 32, 98, 61, 34, 38, 113, 117, 111, 116, 59, 34, 62, 38, 108, 116, 59, 60, 47, 97, 62] := by decide +kernel
theorem alive_size : sizeTs aliveN ≤ 1000000 := by decide +kernel
theorem alive_esc : escL false [34] = [34] := by decide +kernel
theorem old_heap (w : World) (o : Obj) (k : Nat) (h : k < w.heap.size) : (w.alloc o).heap[k]? = w.heap[k]? := (G5.below_alloc w o).block k h
abbrev cA : Array Value := #[.string ⟨#[98]⟩, .string ⟨#[34]⟩]
abbrev cK : Array Value := #[.int .i64 2, .int .i64 0, .string ⟨#[]⟩, .slice none 0 0, .string ⟨#[60]⟩, .slice none 0 0]
abbrev cL (n : Nat) : Array Value := #[.int .i64 1, .int .i64 0, .string ⟨#[97]⟩, .slice (some ⟨n, 0, none⟩) 1 1, .string ⟨#[]⟩, .slice (some ⟨n + 1, 0, none⟩) 1 1]
theorem alive_lies (w : World) : G5.IsK (fun k => k < w.heap.size + 3) (((w.alloc (.cells cA 66)).alloc (.cells cK 46)).alloc (.cells (cL w.heap.size) 46)) aliveN (.slice (some ⟨w.heap.size + 1 + 1, 0, none⟩) 1 1) := by
  generalize hW : (((w.alloc (.cells cA 66)).alloc (.cells cK 46)).alloc (.cells (cL w.heap.size) 46)) = W
  have h0 : W.heap[w.heap.size]? = some (.cells cA 66 (0, 0)) := by
    rw [← hW, old_heap _ _ _ (by simp; omega), old_heap _ _ _ (by simp), new_heap]
  have h1 : W.heap[w.heap.size + 1]? = some (.cells cK 46 (0, 0)) := by
    have := new_heap (w.alloc (.cells cA 66)) (.cells cK 46)
    rw [show (w.alloc (.cells cA 66)).heap.size = w.heap.size + 1 by simp] at this
    rw [← hW, old_heap _ _ _ (by simp), this]
  have h2 : W.heap[w.heap.size + 1 + 1]? = some (.cells (cL w.heap.size) 46 (0, 0)) := by
    have := new_heap ((w.alloc (.cells cA 66)).alloc (.cells cK 46)) (.cells (cL w.heap.size) 46)
    rw [show ((w.alloc (.cells cA 66)).alloc (.cells cK 46)).heap.size = w.heap.size + 1 + 1 by simp] at this
    rw [← hW, this]
  clear hW
  refine .inr ⟨_, 0, 1, rfl, Nat.le_refl _, .inr (by omega), ⟨⟨(cL w.heap.size).toList, fun i hi => ?_, ?_⟩, trivial⟩⟩
  · rw [Nat.zero_add, Lib.cell_of_heap h2]
    simp
  · refine ⟨.slice (some ⟨w.heap.size, 0, none⟩) 1 1, .slice (some ⟨w.heap.size + 1, 0, none⟩) 1 1, rfl, ⟨.inr ⟨_, 0, 1, rfl, Nat.le_refl _, fun j hj => ?_⟩, .inr fun k e => ?_⟩, .inr ⟨_, 0, 1, rfl, Nat.le_refl _, .inr (by omega), ⟨⟨cK.toList, fun i hi => ?_, ?_⟩, trivial⟩⟩⟩
    · have hj0 : j = 0 := by
        have : j < 1 := hj
        omega
      subst hj0
      exact ⟨by rw [Lib.cell_of_heap h0]; rfl, by rw [Lib.cell_of_heap h0]; rfl⟩
    · have : w.heap.size = k := by simpa [Value.ownBlock] using e
      omega
    · rw [Nat.zero_add, Lib.cell_of_heap h1]
      simp
    · exact ⟨.slice none 0 0, .slice none 0 0, rfl, ⟨.inl ⟨⟨_, _, rfl⟩, rfl⟩, .inl rfl⟩, .inl ⟨⟨_, _, rfl⟩, rfl⟩⟩
theorem alive_first (w : World) : Calls Tryz.prog 24 #[.slice (some ⟨w.heap.size + 1 + 1, 0, none⟩) 1 1] (((w.alloc (.cells cA 66)).alloc (.cells cK 46)).alloc (.cells (cL w.heap.size) 46)) fun e w' => e = .returned (.string ⟨#[60, 97, 32, 98, 61, 34, 38, 113, 117, 111, 116, 59, 34, 62, 38, 108, 116, 59, 60, 47, 97, 62]⟩) ∧ Below w.heap.size w w' := by
  refine (fragment_any aliveN _ _ _ (fun j hj => ?_) (alive_lies w) alive_size).mono ?_
  · simp
    omega
  · rintro e w' ⟨rfl, hb⟩
    rw [alive_print]
    exact ⟨rfl, ((((Below.refl _ w).alloc (Nat.le_refl _) _).alloc (by simp) _).alloc (by simp; omega) _).trans (hb.mono (by simp; omega))⟩
theorem alive_p (w : World) : Calls Tryz.prog 23 #[] w fun e w' => e = .returned (.bool true) ∧ Below w.heap.size w w' := by
  have H1 := hide (alive_first w)
  have H2 : Hid (∀ W : World, Calls Tryz.prog 35 #[.string ⟨#[34]⟩, .bool false] W fun e w' => e = .returned (.string ⟨#[34]⟩) ∧ Below W.heap.size W w') := hide fun W => by
    have := escape_any ⟨#[34]⟩ (by decide) false W
    rw [show (⟨#[34]⟩ : ByteArray).data.toList = [34] from rfl, alive_esc] at this
    exact this
  go_enter Tryz.func23, Tryz.ntmps23
  go_wp2_with fail
  refine H1.out.mono ?_
  rintro e w1 ⟨rfl, b1⟩
  go_wp2_with fail
  refine (H2.out _).mono ?_
  rintro e w2 ⟨rfl, b2⟩
  go_wp2
  go_ret
  exact ⟨rfl, b1.trans (b2.mono b1.size)⟩
end Go.Proofs.YtpppdfjdngmaoaaGreatDoor.P9
