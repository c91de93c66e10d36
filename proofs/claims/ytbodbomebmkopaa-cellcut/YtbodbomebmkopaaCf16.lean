/- What the document's Encode answers. -/
import Derived.Test.YtbodbomebmkopaaCd16
set_option linter.unusedVariables false
set_option linter.unusedSimpArgs false
set_option maxRecDepth 40000
namespace Go.Proofs.Ytbodbomebmkopaa
open Go.RowKit

abbrev clW (w : World) (c : CL) (dv : Value) : World := w.alloc (.cells (clC c dv) 25)
theorem alloc_newC (w : World) (o : Obj) : (w.alloc o).heap[w.heap.size]? = some o := by show (Array.push w.heap o)[w.heap.size]? = _; simp
theorem cl_box (w : World) (c : CL) (dv : Value) {x : World} (h : Below (clW w c dv).heap.size (clW w c dv) x) : x.heap[w.heap.size]? = some (.cells (clC c dv) 25 (0, 0)) ∧ Below w.heap.size w x := by
  have hb := below_alloc w (.cells (clC c dv) 25)
  exact ⟨(h.block w.heap.size (by simp)).trans (alloc_newC w _), hb.trans (h.mono hb.size)⟩
theorem cl_cells {w : World} {A : Nat} {c : CL} {dv : Value} (h : w.heap[A]? = some (.cells (clC c dv) 25 (0, 0))) : w.cell? ⟨A, 0, none⟩ = some (.int .u64 (c.ep : Int)) ∧ w.cell? ⟨A, 1, none⟩ = some (.int .u64 (c.li : Int)) ∧ w.cell? ⟨A, 2, none⟩ = some (.int .i64 c.part) ∧ w.cell? ⟨A, 3, none⟩ = some (.int .i64 c.of) ∧ w.cell? ⟨A, 4, none⟩ = some dv := by
  refine ⟨?_, ?_, ?_, ?_, ?_⟩ <;> simp [World.cell?, h, clC]
theorem own_baseY {w : World} {B C n : Nat} {t : TypeId} {v : Value} {l : List Value} (h : w.ownsRow B t 1 v n l) (hc : C ≤ B) : w.ownsRow C t 1 v n l := by
  refine ⟨h.1, ?_⟩
  rcases h.2 with h2 | ⟨g, cap, cur, h1, h2, h3⟩
  · exact .inl h2
  · exact .inr ⟨g, cap, cur, h1, Nat.le_trans hc h2, h3⟩
set_option maxHeartbeats 1000000 in
theorem renc_not (c : CL) (dv : Value) (w : World) (hC : IsC w c dv) (hn : ¬ mayC c) : Calls Try.prog 11 #[clA c dv] w fun e w' => e = .returned (.tuple #[.slice none 0 0, .int .i64 1]) ∧ Below w.heap.size w w' := by
  have HM := hide (rmay_any c dv (clW w c dv) (hC.below (below_alloc w _)))
  rw [decide_eq_false hn] at HM
  have HBX := hide (fun x (b : Below (clW w c dv).heap.size (clW w c dv) x) => (cl_box w c dv b).2)
  obtain ⟨a, k, rfl⟩ := hC.d.form
  obtain ⟨ep, li, part, of, data⟩ := c
  simp only [] at *
  generalize data.length = m at *
  clear hC hn
  go_enter Try.func11, Try.ntmps11
  go_wp2_with fail
  refine HM.out.mono ?_
  rintro e w1 ⟨rfl, b1⟩
  have BW := hide (HBX.out _ b1)
  clear b1 HM HBX
  go_wp2
  go_ret2
  exact ⟨rfl, BW.out⟩
set_option maxHeartbeats 4000000 in
theorem renc_may (c : CL) (dv : Value) (w : World) (hC : IsC w c dv) (hm : mayC c) : Calls Try.prog 11 #[clA c dv] w fun e w' => (∃ v, e = .returned (.tuple #[v, .int .i64 0]) ∧ w'.ownsRow w.heap.size 5 1 v 64 (Lib.byteCells (encC c))) ∧ Below w.heap.size w w' := by
  have HM := hide (rmay_any c dv (clW w c dv) (hC.below (below_alloc w _)))
  rw [decide_eq_true hm] at HM
  have HBX := hide (fun x (b : Below (clW w c dv).heap.size (clW w c dv) x) => cl_box w c dv b)
  have HD := hide (fun x (b : Below (clW w c dv).heap.size (clW w c dv) x) => hC.d.below (cl_box w c dv b).2)
  have HCE := hide (fun x (b : Below (clW w c dv).heap.size (clW w c dv) x) => cl_cells (cl_box w c dv b).1)
  obtain ⟨h1, h2, h3, h4⟩ := hm
  obtain ⟨p, hp⟩ : ∃ p : Nat, c.part = (p : Int) := ⟨c.part.toNat, by omega⟩
  obtain ⟨q, hq⟩ : ∃ q : Nat, c.of = (q : Int) := ⟨c.of.toNat, by omega⟩
  have hep := hC.ep
  have hli := hC.li
  obtain ⟨a, k, rfl⟩ := hC.d.form
  obtain ⟨ep, li, part, of, data⟩ := c
  simp only [] at *
  subst hp hq
  clear hC
  have hpl : p < 65536 := by omega
  have hql : q < 65536 := by omega
  clear h1 h2 h3
  go_enter Try.func11, Try.ntmps11
  go_wp2_with fail
  refine HM.out.mono ?_
  rintro e w1 ⟨rfl, b1⟩
  generalize hW0 : clW w ⟨ep, li, (p : Int), (q : Int), data⟩ (.slice a data.length k) = W0 at *
  have hsz0 : W0.heap.size = w.heap.size + 1 := by rw [← hW0]; simp
  have HSZ : Hid (w.heap.size ≤ W0.heap.size) := hide (by omega)
  obtain ⟨c0, c1, c2, c3, c4⟩ := HCE.out _ b1
  clear HM
  have HP := hide (fun W v l n k hn hk (bW : Below W0.heap.size W0 W) hl hO => (rput_any v l n k hn hk W W0.heap.size bW.size hl hO).mono fun e w' (hh : ∃ v', e = .returned v' ∧ w'.ownsRow W0.heap.size 5 1 v' (l ++ putB n k).length (Lib.byteCells (l ++ putB n k)) ∧ Below W0.heap.size W w') => (by
    obtain ⟨v', rfl, ho, hb⟩ := hh
    obtain ⟨va, vc, rfl⟩ := owns_formY ho
    exact ⟨va, vc, rfl, hide ho, bW.trans hb⟩ : ∃ va vc, e = .returned (.slice va (l ++ putB n k).length vc) ∧ Hid (w'.ownsRow W0.heap.size 5 1 (.slice va (l ++ putB n k).length vc) (l ++ putB n k).length (Lib.byteCells (l ++ putB n k))) ∧ Below W0.heap.size W0 w'))
  have HP1 := hide (HP.out w1 (.slice none 0 0) [] ep 8 hep (by decide) b1 (by simp) ⟨rfl, .inl ⟨rfl, rfl⟩⟩)
  have e8 : ([] ++ putB ep 8 : Bs).length = 8 := by rw [List.nil_append, put_len]
  rw [e8] at HP1
  clear b1
  go_wp2_with fail
  refine HP1.out.mono ?_
  rintro e w2 ⟨va, vc, rfl, HO, b2⟩
  clear HP1 c0 c1 c2 c3 c4
  obtain ⟨c0, c1, c2, c3, c4⟩ := HCE.out _ b2
  have HP2 := hide (HP.out w2 _ ([] ++ putB ep 8) li 8 hli (by decide) b2 (by omega) (by rw [e8]; exact HO.out))
  have e16 : ([] ++ putB ep 8 ++ putB li 8 : Bs).length = 16 := by rw [List.length_append, e8, put_len]
  rw [e16] at HP2
  clear b2 HO
  go_wp2_with fail
  refine HP2.out.mono ?_
  rintro e w3 ⟨va, vc, rfl, HO, b3⟩
  clear HP2 c0 c1 c2 c3 c4
  obtain ⟨c0, c1, c2, c3, c4⟩ := HCE.out _ b3
  have HP3 := hide (HP.out w3 _ ([] ++ putB ep 8 ++ putB li 8) p 2 (by omega) (by decide) b3 (by omega) (by rw [e16]; exact HO.out))
  have e18 : ([] ++ putB ep 8 ++ putB li 8 ++ putB p 2 : Bs).length = 18 := by rw [List.length_append, e16, put_len]
  rw [e18] at HP3
  clear b3 HO
  go_wp2_with fail
  refine HP3.out.mono ?_
  rintro e w4 ⟨va, vc, rfl, HO, b4⟩
  clear HP3 c0 c1 c2 c3 c4
  obtain ⟨c0, c1, c2, c3, c4⟩ := HCE.out _ b4
  have HP4 := hide (HP.out w4 _ ([] ++ putB ep 8 ++ putB li 8 ++ putB p 2) q 2 (by omega) (by decide) b4 (by omega) (by rw [e18]; exact HO.out))
  have e20 : ([] ++ putB ep 8 ++ putB li 8 ++ putB p 2 ++ putB q 2 : Bs).length = 20 := by rw [List.length_append, e18, put_len]
  rw [e20] at HP4
  clear b4 HO
  go_wp2_with fail
  refine HP4.out.mono ?_
  rintro e w5 ⟨va, vc, rfl, HO, b5⟩
  clear HP4 c0 c1 c2 c3 c4
  obtain ⟨c0, c1, c2, c3, c4⟩ := HCE.out _ b5
  have HP5 := hide (HP.out w5 _ ([] ++ putB ep 8 ++ putB li 8 ++ putB p 2 ++ putB q 2) data.length 1 (by omega) (by decide) b5 (by omega) (by rw [e20]; exact HO.out))
  have e21 : ([] ++ putB ep 8 ++ putB li 8 ++ putB p 2 ++ putB q 2 ++ putB data.length 1 : Bs).length = 21 := by rw [List.length_append, e20, put_len]
  rw [e21] at HP5
  clear b5 HO
  go_wp2_with fail
  refine HP5.out.mono ?_
  rintro e w6 ⟨va, vc, rfl, HO, b6⟩
  clear HP5 c0 c1 c2 c3 c4
  obtain ⟨c0, c1, c2, c3, c4⟩ := HCE.out _ b6
  generalize hL6 : ([] ++ putB ep 8 ++ putB li 8 ++ putB p 2 ++ putB q 2 ++ putB data.length 1 : Bs) = L6 at *
  obtain ⟨ya, yc, w7, hr, ho, hb⟩ := append_isY w6 W0.heap.size _ _ L6 data (by rw [e21]; exact HO.out) (HD.out _ b6) (by omega) (by omega) (by omega) b6.size
  have b7 := b6.trans hb
  have HO7 := hide ho
  have HRUN := hide hr
  have hlen7 : (L6 ++ data).length = 21 + data.length := by rw [List.length_append, e21]
  clear hr ho hb HO b6
  generalize hL7 : L6 ++ data = L7 at *
  generalize hdl : data.length = dl at *
  rw [hlen7] at HRUN HO7
  go_wp2_with (at_builtin; refine wpList_append_run rfl _ _ 23 rfl _ _ _ _ rfl rfl HRUN.out ?_)
  have HE : Hid (∀ j, j = 39 - dl → L7 ++ List.replicate j 0 = bodyC ⟨ep, li, (p : Int), (q : Int), data⟩) := hide (by
    intro j hj
    rw [bodyC, headC, ← hL7, ← hL6, hj, ← hdl]
    simp only [List.nil_append, List.append_assoc, Int.toNat_natCast])
  have HEN : Hid (encC ⟨ep, li, (p : Int), (q : Int), data⟩ = bodyC ⟨ep, li, (p : Int), (q : Int), data⟩ ++ putB (sumB (bodyC ⟨ep, li, (p : Int), (q : Int), data⟩)).toNat 4) := hide rfl
  have HEL : Hid ((bodyC ⟨ep, li, (p : Int), (q : Int), data⟩).length = 60) := hide (body_len _ (by show data.length ≤ 39; omega))
  generalize hEN : encC ⟨ep, li, (p : Int), (q : Int), data⟩ = EN at *
  have HENq := hide hEN
  clear hEN
  generalize bodyC ⟨ep, li, (p : Int), (q : Int), data⟩ = BO at *
  clear c0 c1 c2 c3 c4 HCE HD HRUN e8 e16 e18 e20 e21 hL6 hL7 hdl
  go_loopw [4] (fun bv wr => ∃ (j : Nat) (a : Option Addr) (c : Nat), bv = .slice a (21 + dl + j) c ∧ 21 + dl + j ≤ 60 ∧ Hid (wr.ownsRow W0.heap.size 5 1 (.slice a (21 + dl + j) c) (21 + dl + j) (Lib.byteCells (L7 ++ List.replicate j 0))) ∧ Hid (Below W0.heap.size W0 wr)) (fun bv _ => match bv with | .slice _ n _ => 60 - n | _ => 0)
  case atStart => exact ⟨0, ya, yc, rfl, by omega, hide (by rw [List.replicate_zero, List.append_nil]; exact HO7.out), hide b7⟩
  case round =>
    obtain ⟨j, oa, oc, rfl, hj, HO, HB⟩ := hrel
    by_cases hlt : 21 + dl + j < 60
    · have hlt2 : ((21 + dl + j : Nat) : Int) < 60 := by omega
      obtain ⟨v', w', hr, ho, hb⟩ := append_byte wr W0.heap.size (21 + dl + j) _ _ 0 HO.out (by omega) HB.out.size
      rw [List.append_assoc, ← List.replicate_succ'] at ho
      obtain ⟨va, vc, rfl⟩ := owns_formY ho
      have HRUN := hide hr
      have HO2 := hide ho
      have HB2 := hide (HB.out.trans hb)
      clear hr ho hb HO HB
      generalize hN : 21 + dl + j = N at *
      go_wp2_with (at_builtin; refine wpList_append_run rfl _ _ 23 rfl _ _ _ _ rfl rfl HRUN.out ?_)
      go_roundw
      case rel => exact ⟨j + 1, va, vc, by rw [← Nat.add_assoc, hN], by omega, by rw [← Nat.add_assoc, hN]; exact HO2, HB2⟩
      case measure => simp only []; omega
    · have hN : 21 + dl + j = 60 := by omega
      have hbo := HE.out j (by omega)
      have hO := HO.out
      rw [hbo, hN, ← HEL.out] at hO
      have HS := hide (rsum_any _ BO wr (owns_isY hO) (by rw [HEL.out]; decide))
      have HP2 := hide (fun hs => HP.out wr _ BO (sumB BO).toNat 4 hs (by decide) HB.out (by rw [HEL.out]; decide) hO)
      have hsl := (sumB BO).isLt
      rw [← HEN.out, show EN.length = 64 by rw [HEN.out, List.length_append, HEL.out, put_len]] at HP2
      rw [HEL.out] at HS HP2
      clear hO HO HB hbo HE HEN HEL HP HO7 b7 hlt
      generalize (sumB BO).toNat = S at *
      rw [hN]
      clear hN hj
      go_wp2_with fail
      refine HS.out.mono ?_
      rintro e w8 ⟨rfl, rfl⟩
      go_wp2_with fail
      refine (HP2.out (by omega)).mono ?_
      rintro e w9 ⟨va, vc, rfl, HO, b9⟩
      have HF := hide (HBX.out _ b9)
      go_wp2
      go_ret2
      exact ⟨⟨.slice va 64 vc, rfl, by rw [HENq.out]; exact own_baseY HO.out HSZ.out⟩, HF.out.2⟩
end Go.Proofs.Ytbodbomebmkopaa
