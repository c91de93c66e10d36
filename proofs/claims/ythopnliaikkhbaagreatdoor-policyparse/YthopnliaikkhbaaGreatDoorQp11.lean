/- What the document's Parse answers. -/
import Derived.Test.YthopnliaikkhbaaGreatDoorQo11
set_option linter.unusedVariables false
set_option linter.unusedSimpArgs false
set_option maxRecDepth 4000
namespace Go.Proofs.YthopnliaikkhbaaGreatDoor
open Go.RowKit

set_option maxHeartbeats 8000000 in
/-- What the document's own Parse answers. -/
theorem rparse_any (s : ByteArray) (hs : s.size ≤ 1000000) (w : World) :
    Calls Tryz.prog 8 #[.string s] w fun e w' => ParseD w (parseP s.data.toList) e w' := by
  have hL : s.data.toList.length = s.size := (size_list s).symm
  by_cases hl : 2000 < s.size
  · have hli : (2000 : Int) < s.size := by omega
    have e : parseP s.data.toList = ({}, 0, 4) := by unfold parseP; rw [← size_list, if_pos hl]
    rw [e]
    have HK := hide (parse_zero (n := 0) (e := 4) (below_alloc w (.cells (poC zeroPV) 26)))
    clear hl e hL
    go_enter Tryz.func8, Tryz.ntmps8
    go_wp2
    refine bodyPost_ret (v := .tuple #[poA zeroPV, .int .i64 ((0 : Nat) : Int), .int .i64 4]) ?_ rfl HK.out
    simp [results, Tryz.results8, go_sem, zeroPV]
  · have hli : ¬ (2000 : Int) < s.size := by omega
    have hsz : s.size ≤ 2000 := by omega
    generalize hR : readK 0 {} (linesL s.data.toList) = R
    rw [parse_ans _ (by omega), hR]
    generalize hAN : ansR R = AN
    have HAN := hide hAN
    have HR : Hid (readK 0 {} (linesK (midW s.data.toList 0 0) (s.data.toList.drop 0)) = R) := hide (by rw [midW_self, List.drop_zero]; exact hR)
    have hb0 := below_alloc w (.cells (poC zeroPV) 26)
    have hb1 := hb0.trans ((below_alloc (w.alloc (.cells (poC zeroPV) 26)) (.cells (poC zeroPV) 26)).mono hb0.size)
    have P0 : PS w zeroPV ((w.alloc (.cells (poC zeroPV) 26)).alloc (.cells (poC zeroPV) 26)) := by
      have s1 : (w.alloc (.cells (poC zeroPV) 26)).heap.size = w.heap.size + 1 := by simp
      refine ⟨((below_alloc (w.alloc (.cells (poC zeroPV) 26)) (.cells (poC zeroPV) 26)).block _ (by omega)).trans (heap_alloc_new w _), ?_, isPo_zero _, hb1, by simp⟩
      rw [← s1]
      exact heap_alloc_new _ _
    have HP0 := hide P0
    have HLN : Hid (∀ (q : PV) W (t : ByteArray), t.size ≤ 4000 → IsPo W q → CapQ q → sizeP q.po ≤ 9000 → Calls Tryz.prog 18 #[poA q, .string t] W fun e w' => LineD W (lineL q.po t.data.toList) e w') := hide (fun q W t h1 h2 h3 h4 => rline_any q t h1 W h2 h3 h4)
    clear hl hAN hb0 hb1 P0
    go_enter Tryz.func8, Tryz.ntmps8
    go_wp2
    go_loopw [6, 7, 8] (fun fv nv iv wr => ∃ (k f m : Nat) (q : PV), k ≤ s.size + 1 ∧ f ≤ k ∧ m ≤ k ∧ fv = .int .i64 f ∧ nv = .int .i64 m ∧ iv = .int .i64 k ∧ Hid (PS w q wr) ∧ Hid (CapQ q) ∧ Hid (2 * sizeP q.po ≤ f ∧ ShortP 2000 q.po) ∧ Hid (k ≤ s.size → readK m q.po (linesK (midW s.data.toList f k) (s.data.toList.drop k)) = R) ∧ Hid (k = s.size + 1 → R = .inl q.po)) (fun _ _ iv _ => s.size + 1 - (intOf iv).toNat)
    case atStart => exact ⟨0, 0, 0, zeroPV, by omega, Nat.le_refl _, Nat.le_refl _, rfl, rfl, rfl, HP0, hide ⟨cap_nil, cap_nil, cap_nil, fun r hr => by cases hr⟩, hide ⟨Nat.le_refl _, short_none _⟩, hide (fun _ => HR.out), hide (fun h => by omega)⟩
    case round =>
      clear HR HP0 hR
      obtain ⟨k, f, m, q, hk, hfk, hmk, rfl, rfl, rfl, HP, HC, HZ, HK, HE⟩ := hrel
      by_cases hle : k ≤ s.size
      · have hle2 : (k : Int) ≤ s.size := by omega
        have hnow := HK.out hle
        by_cases hon : ∃ h : k < s.size, s[k].toNat ≠ 10
        · obtain ⟨hlt, hne⟩ := hon
          have hlt2 : (k : Int) < s.size := by omega
          have hg : s.data.toList[k]'(by omega) ≠ 10 := by
            have e : s.data.toList[k]'(by omega) = s[k] := by simp; rfl
            rw [e]
            intro e2
            exact hne (by rw [e2]; rfl)
          rw [lines_on _ f k hfk (by omega) hg] at hnow
          have HK2 := hide (fun (_ : k + 1 ≤ s.size) => hnow)
          have HE2 : Hid (k + 1 = s.size + 1 → R = .inl q.po) := hide (fun h => by omega)
          have q1 : ((s[k].toNat : Int) != 10) = true := by rw [bne_iff_ne]; omega
          clear hnow HK HE hg hne HLN HAN
          go_wp2
          go_roundw
          case rel => exact ⟨k + 1, f, m, q, by omega, by omega, by omega, rfl, rfl, by go_num, HP, HC, HZ, HK2, HE2⟩
          case measure => simp [intOf]; omega
        · have hmid : (s.extract f k).data.toList = midW s.data.toList f k := midW_is s f k
          have hml : (midW s.data.toList f k).length ≤ k - f := by unfold midW; rw [List.length_take]; omega
          have hxs : (s.extract f k).size ≤ 2000 := by rw [size_list, hmid]; omega
          obtain ⟨hz1, hz2⟩ := HZ.out
          have hrest : ∃ L, linesK (midW s.data.toList f k) (s.data.toList.drop k) = midW s.data.toList f k :: L ∧ (k + 1 ≤ s.size → L = linesK (midW s.data.toList (k + 1) (k + 1)) (s.data.toList.drop (k + 1))) ∧ (k = s.size → L = []) := by
            rcases Nat.lt_or_ge k s.size with h | h
            · have hg : s.data.toList[k]'(by omega) = 10 := by
                have e : s.data.toList[k]'(by omega) = s[k] := by simp; rfl
                rw [e]
                have : s[k].toNat = 10 := by
                  rcases Nat.decEq s[k].toNat 10 with h2 | h2
                  · exact absurd ⟨h, h2⟩ hon
                  · exact h2
                exact UInt8.toNat_inj.1 this
              refine ⟨_, lines_stop _ f k hfk (by omega) hg, fun _ => by rw [midW_self], fun e => by omega⟩
            · obtain rfl : k = s.size := by omega
              refine ⟨[], ?_, fun h => by omega, fun _ => rfl⟩
              rw [← hL]
              exact lines_last _ f
          obtain ⟨L, hL1, hL2, hL3⟩ := hrest
          rw [hL1, readK] at hnow
          have HCL := hide (fun W (b : PS w q W) => HLN.out q W (s.extract f k) (by omega) b.i HC.out (by omega))
          rw [hmid] at HCL
          have HP1 := HP.out
          obtain ⟨y0, y1, y2, y3, y4, _⟩ := box5P HP1.p
          rcases Nat.lt_or_ge k s.size with hlt | hge
          · have h10 : s[k].toNat = 10 := by
              rcases Nat.decEq s[k].toNat 10 with h2 | h2
              · exact absurd ⟨hlt, h2⟩ hon
              · exact h2
            cases hLR : lineL q.po (midW s.data.toList f k) with
            | none =>
              rw [hLR] at hnow HCL
              simp only [] at hnow
              have han := HAN.out
              rw [← hnow] at han
              simp only [ansR] at han
              subst han
              have ba := below_alloc wr (.cells (poC zeroPV) 26)
              have hws := HP1.s
              have LA : Hid (Calls Tryz.prog 18 #[poA q, .string (s.extract f k)] (wr.alloc (.cells (poC zeroPV) 26)).drew fun e w2 => ∃ (A0 A1 A2 A3 : Option Addr) (N0 N1 N2 N3 D0 D1 D2 D3 : Nat) (rs' : List RV) (li' sc2 dr' : List Bs) (de' : Int), e = .returned (.tuple #[.agg #[.slice A0 N0 D0, .slice A1 N1 D1, .slice A2 N2 D2, .slice A3 N3 D3, .int .i64 de'], .bool false]) ∧ w2.cell? ⟨wr.heap.size, 0, none⟩ = some (.slice none 0 0) ∧ w2.cell? ⟨wr.heap.size, 1, none⟩ = some (.slice none 0 0) ∧ w2.cell? ⟨wr.heap.size, 2, none⟩ = some (.slice none 0 0) ∧ w2.cell? ⟨wr.heap.size, 3, none⟩ = some (.slice none 0 0) ∧ w2.cell? ⟨wr.heap.size, 4, none⟩ = some (.int .i64 0) ∧ w2.frozen? ⟨wr.heap.size, 0, none⟩ = false ∧ w2.frozen? ⟨wr.heap.size, 1, none⟩ = false ∧ w2.frozen? ⟨wr.heap.size, 2, none⟩ = false ∧ w2.frozen? ⟨wr.heap.size, 3, none⟩ = false ∧ w2.frozen? ⟨wr.heap.size, 4, none⟩ = false ∧ Hid (NB w q ⟨rs', li', sc2, dr', de', .slice A0 N0 D0, .slice A1 N1 D1, .slice A2 N2 D2, .slice A3 N3 D3⟩ wr.heap.size (set5 w2 wr.heap.size (.slice A0 N0 D0) (.slice A1 N1 D1) (.slice A2 N2 D2) (.slice A3 N3 D3) (.int .i64 de')))) := hide ((HCL.out _ (HP1.below ba).drew).mono fun e w2 h => by
                obtain ⟨q', bb, h1, h2, h3, h4, h5⟩ := h
                simp only [] at h2
                have hz0 : w2.heap[wr.heap.size]? = some (.cells (poC zeroPV) 26 (0, 0)) := (h5.block wr.heap.size (by show _ < (wr.alloc (.cells (poC zeroPV) 26)).heap.size; simp)).trans (heap_alloc_new wr _)
                obtain ⟨u0, u1, u2, u3, u4, u5, u6, u7, u8, u9⟩ := box5P hz0
                have nb := nb_of (q' := q') (W := w2) (((HP1.below ba).drew).below h5) hz0 (by omega) h3
                rw [h2] at h1
                obtain ⟨rs', li', sc2, dr', de', rv', lv', sv', dv'⟩ := q'
                obtain ⟨A0, D0, c0⟩ : ∃ a c, rv' = .slice a rs'.length c := h3.r.form
                obtain ⟨A1, D1, c1⟩ : ∃ a c, lv' = .slice a li'.length c := h3.l.form
                obtain ⟨A2, D2, c2⟩ : ∃ a c, sv' = .slice a sc2.length c := h3.s.form
                obtain ⟨A3, D3, c3⟩ : ∃ a c, dv' = .slice a dr'.length c := h3.d.form
                subst c0 c1 c2 c3
                exact ⟨A0, A1, A2, A3, rs'.length, li'.length, sc2.length, dr'.length, D0, D1, D2, D3, rs', li', sc2, dr', de', h1, u0, u1, u2, u3, u4, u5, u6, u7, u8, u9, hide nb⟩)
              have LB : Hid (Calls Tryz.prog 18 #[poA q, .string (s.extract f k)] wr.drew fun e w2 => ∃ (A0 A1 A2 A3 : Option Addr) (N0 N1 N2 N3 D0 D1 D2 D3 : Nat) (rs' : List RV) (li' sc2 dr' : List Bs) (de' : Int), e = .returned (.tuple #[.agg #[.slice A0 N0 D0, .slice A1 N1 D1, .slice A2 N2 D2, .slice A3 N3 D3, .int .i64 de'], .bool false]) ∧ Hid (NB w q ⟨rs', li', sc2, dr', de', .slice A0 N0 D0, .slice A1 N1 D1, .slice A2 N2 D2, .slice A3 N3 D3⟩ w2.heap.size (w2.alloc (.cells #[.slice A0 N0 D0, .slice A1 N1 D1, .slice A2 N2 D2, .slice A3 N3 D3, .int .i64 de'] 26)))) := hide ((HCL.out _ HP1.drew).mono fun e w2 h => by
                obtain ⟨q', bb, h1, h2, h3, h4, h5⟩ := h
                simp only [] at h2
                have nb := nb_alloc (q' := q') (HP1.drew.below h5) h3
                rw [h2] at h1
                obtain ⟨rs', li', sc2, dr', de', rv', lv', sv', dv'⟩ := q'
                obtain ⟨A0, D0, c0⟩ : ∃ a c, rv' = .slice a rs'.length c := h3.r.form
                obtain ⟨A1, D1, c1⟩ : ∃ a c, lv' = .slice a li'.length c := h3.l.form
                obtain ⟨A2, D2, c2⟩ : ∃ a c, sv' = .slice a sc2.length c := h3.s.form
                obtain ⟨A3, D3, c3⟩ : ∃ a c, dv' = .slice a dr'.length c := h3.d.form
                subst c0 c1 c2 c3
                exact ⟨A0, A1, A2, A3, rs'.length, li'.length, sc2.length, dr'.length, D0, D1, D2, D3, rs', li', sc2, dr', de', h1, hide nb⟩)
              have yb := HP1.drew
              obtain ⟨z0, z1, z2, z3, z4, _⟩ := box5P yb.p
              have yc := (HP1.below ba).drew
              obtain ⟨t0, t1, t2, t3, t4, _⟩ := box5P yc.p
              obtain ⟨a0, d0, e0⟩ := HP1.i.r.form
              obtain ⟨a1, d1, e1⟩ := HP1.i.l.form
              obtain ⟨a2, d2, e2⟩ := HP1.i.s.form
              obtain ⟨a3, d3, e3⟩ := HP1.i.d.form
              have hf0 : (f : Int) ≤ k := by omega
              have hk1 : (k : Int) ≤ s.size := by omega
              have q1 : (k : Int) < s.size := by omega
              have q2 : ((s[k].toNat : Int) != 10) = false := by rw [h10]; rfl
              clear HK HE HLN HAN hnow HP HC HZ HP1 HCL hL yb yc ba hL1 hL2 hL3 hz1 hz2 hml hxs hmid hLR hon
              obtain ⟨rs, li, sc, dr, de, rv, lv, sv, dv⟩ := q
              simp only [] at e0 e1 e2 e3 y0 y1 y2 y3 y4 z0 z1 z2 z3 z4 t0 t1 t2 t3 t4 LA LB
              subst e0 e1 e2 e3
              generalize rs.length = n0 at *
              generalize li.length = n1 at *
              generalize sc.length = n2 at *
              generalize dr.length = n3 at *
              simp only [zeroPV] at t0 t1 t2 t3 t4 LA
              go_wp2_with fail
              go_region_law (first | (refine step_call_enter rfl 18 #[.agg #[.slice a0 n0 d0, .slice a1 n1 d1, .slice a2 n2 d2, .slice a3 n3 d3, .int .i64 de], .string (s.extract f k)] ?_ LA.out ?_; go_simp; intro e w2 hh; obtain ⟨A0, A1, A2, A3, N0, N1, N2, N3, D0, D1, D2, D3, rs', li', sc2, dr', de', rfl, u0, u1, u2, u3, u4, v0, v1, v2, v3, v4, NX⟩ := hh; refine ⟨_, rfl, ?_⟩) | (refine step_call_enter rfl 18 #[.agg #[.slice a0 n0 d0, .slice a1 n1 d1, .slice a2 n2 d2, .slice a3 n3 d3, .int .i64 de], .string (s.extract f k)] ?_ LB.out ?_; go_simp; intro e w2 hh; obtain ⟨A0, A1, A2, A3, N0, N1, N2, N3, D0, D1, D2, D3, rs', li', sc2, dr', de', rfl, NX⟩ := hh; refine ⟨_, rfl, ?_⟩))
              all_goals clear LA LB
              all_goals obtain ⟨r0, r1, r2, r3, r4, g0, g1, g2, g3, g4⟩ := box5P NX.out.z
              all_goals obtain ⟨p0, p1, p2, p3, p4, k0, k1', k2, k3, k4⟩ := box5P NX.out.p
              all_goals obtain ⟨m0, m1, m2, m3, m4, _⟩ := box5P NX.out.n
              all_goals simp only [zeroPV] at r0 r1 r2 r3 r4 p0 p1 p2 p3 p4 m0 m1 m2 m3 m4
              all_goals have ZZ := hide (NX.out.bad (m + 1))
              all_goals clear NX
              all_goals go_wp2
              all_goals refine bodyPost_ret (v := .tuple #[poA zeroPV, .int .i64 ((m + 1 : Nat) : Int), .int .i64 7]) ?_ rfl (ZZ.out _ _ _ _ _)
              all_goals simp [results, Tryz.results8, go_sem, zeroPV, r0, r1, r2, r3, r4]
            | some p' =>
              rw [hLR] at hnow HCL
              simp only [] at hnow
              have ba := below_alloc wr (.cells (poC zeroPV) 26)
              have hws := HP1.s
              have LA : Hid (Calls Tryz.prog 18 #[poA q, .string (s.extract f k)] (wr.alloc (.cells (poC zeroPV) 26)).drew fun e w2 => ∃ (A0 A1 A2 A3 : Option Addr) (N0 N1 N2 N3 D0 D1 D2 D3 : Nat) (rs' : List RV) (li' sc2 dr' : List Bs) (de' : Int), e = .returned (.tuple #[.agg #[.slice A0 N0 D0, .slice A1 N1 D1, .slice A2 N2 D2, .slice A3 N3 D3, .int .i64 de'], .bool true]) ∧ w2.cell? ⟨wr.heap.size, 0, none⟩ = some (.slice none 0 0) ∧ w2.cell? ⟨wr.heap.size, 1, none⟩ = some (.slice none 0 0) ∧ w2.cell? ⟨wr.heap.size, 2, none⟩ = some (.slice none 0 0) ∧ w2.cell? ⟨wr.heap.size, 3, none⟩ = some (.slice none 0 0) ∧ w2.cell? ⟨wr.heap.size, 4, none⟩ = some (.int .i64 0) ∧ w2.frozen? ⟨wr.heap.size, 0, none⟩ = false ∧ w2.frozen? ⟨wr.heap.size, 1, none⟩ = false ∧ w2.frozen? ⟨wr.heap.size, 2, none⟩ = false ∧ w2.frozen? ⟨wr.heap.size, 3, none⟩ = false ∧ w2.frozen? ⟨wr.heap.size, 4, none⟩ = false ∧ Hid (CapQ ⟨rs', li', sc2, dr', de', .slice A0 N0 D0, .slice A1 N1 D1, .slice A2 N2 D2, .slice A3 N3 D3⟩) ∧ Hid (PV.po ⟨rs', li', sc2, dr', de', .slice A0 N0 D0, .slice A1 N1 D1, .slice A2 N2 D2, .slice A3 N3 D3⟩ = p') ∧ Hid (NB w q ⟨rs', li', sc2, dr', de', .slice A0 N0 D0, .slice A1 N1 D1, .slice A2 N2 D2, .slice A3 N3 D3⟩ wr.heap.size (set5 w2 wr.heap.size (.slice A0 N0 D0) (.slice A1 N1 D1) (.slice A2 N2 D2) (.slice A3 N3 D3) (.int .i64 de')))) := hide ((HCL.out _ (HP1.below ba).drew).mono fun e w2 h => by
                obtain ⟨q', bb, h1, h2, h3, h4, h5⟩ := h
                simp only [] at h2
                have hz0 : w2.heap[wr.heap.size]? = some (.cells (poC zeroPV) 26 (0, 0)) := (h5.block wr.heap.size (by show _ < (wr.alloc (.cells (poC zeroPV) 26)).heap.size; simp)).trans (heap_alloc_new wr _)
                obtain ⟨u0, u1, u2, u3, u4, u5, u6, u7, u8, u9⟩ := box5P hz0
                have nb := nb_of (q' := q') (W := w2) (((HP1.below ba).drew).below h5) hz0 (by omega) h3
                rw [h2.1] at h1
                obtain ⟨rs', li', sc2, dr', de', rv', lv', sv', dv'⟩ := q'
                obtain ⟨A0, D0, c0⟩ : ∃ a c, rv' = .slice a rs'.length c := h3.r.form
                obtain ⟨A1, D1, c1⟩ : ∃ a c, lv' = .slice a li'.length c := h3.l.form
                obtain ⟨A2, D2, c2⟩ : ∃ a c, sv' = .slice a sc2.length c := h3.s.form
                obtain ⟨A3, D3, c3⟩ : ∃ a c, dv' = .slice a dr'.length c := h3.d.form
                subst c0 c1 c2 c3
                exact ⟨A0, A1, A2, A3, rs'.length, li'.length, sc2.length, dr'.length, D0, D1, D2, D3, rs', li', sc2, dr', de', h1, u0, u1, u2, u3, u4, u5, u6, u7, u8, u9, hide h4, hide h2.2, hide nb⟩)
              have LB : Hid (Calls Tryz.prog 18 #[poA q, .string (s.extract f k)] wr.drew fun e w2 => ∃ (A0 A1 A2 A3 : Option Addr) (N0 N1 N2 N3 D0 D1 D2 D3 : Nat) (rs' : List RV) (li' sc2 dr' : List Bs) (de' : Int), e = .returned (.tuple #[.agg #[.slice A0 N0 D0, .slice A1 N1 D1, .slice A2 N2 D2, .slice A3 N3 D3, .int .i64 de'], .bool true]) ∧ Hid (CapQ ⟨rs', li', sc2, dr', de', .slice A0 N0 D0, .slice A1 N1 D1, .slice A2 N2 D2, .slice A3 N3 D3⟩) ∧ Hid (PV.po ⟨rs', li', sc2, dr', de', .slice A0 N0 D0, .slice A1 N1 D1, .slice A2 N2 D2, .slice A3 N3 D3⟩ = p') ∧ Hid (NB w q ⟨rs', li', sc2, dr', de', .slice A0 N0 D0, .slice A1 N1 D1, .slice A2 N2 D2, .slice A3 N3 D3⟩ w2.heap.size (w2.alloc (.cells #[.slice A0 N0 D0, .slice A1 N1 D1, .slice A2 N2 D2, .slice A3 N3 D3, .int .i64 de'] 26)))) := hide ((HCL.out _ HP1.drew).mono fun e w2 h => by
                obtain ⟨q', bb, h1, h2, h3, h4, h5⟩ := h
                simp only [] at h2
                have nb := nb_alloc (q' := q') (HP1.drew.below h5) h3
                rw [h2.1] at h1
                obtain ⟨rs', li', sc2, dr', de', rv', lv', sv', dv'⟩ := q'
                obtain ⟨A0, D0, c0⟩ : ∃ a c, rv' = .slice a rs'.length c := h3.r.form
                obtain ⟨A1, D1, c1⟩ : ∃ a c, lv' = .slice a li'.length c := h3.l.form
                obtain ⟨A2, D2, c2⟩ : ∃ a c, sv' = .slice a sc2.length c := h3.s.form
                obtain ⟨A3, D3, c3⟩ : ∃ a c, dv' = .slice a dr'.length c := h3.d.form
                subst c0 c1 c2 c3
                exact ⟨A0, A1, A2, A3, rs'.length, li'.length, sc2.length, dr'.length, D0, D1, D2, D3, rs', li', sc2, dr', de', h1, hide h4, hide h2.2, hide nb⟩)
              have yb := HP1.drew
              obtain ⟨z0, z1, z2, z3, z4, _⟩ := box5P yb.p
              have yc := (HP1.below ba).drew
              obtain ⟨t0, t1, t2, t3, t4, _⟩ := box5P yc.p
              obtain ⟨a0, d0, e0⟩ := HP1.i.r.form
              obtain ⟨a1, d1, e1⟩ := HP1.i.l.form
              obtain ⟨a2, d2, e2⟩ := HP1.i.s.form
              obtain ⟨a3, d3, e3⟩ := HP1.i.d.form
              have hsz2 := fun (q' : PV) (h : q'.po = p') => line_size (N := 2000) (show lineL q.po (midW s.data.toList f k) = some q'.po by rw [hLR, h]) (by omega)
              have HSZ : Hid (∀ q' : PV, q'.po = p' → 2 * sizeP q'.po ≤ k + 1 ∧ ShortP 2000 q'.po) := hide (fun q' h => ⟨by have := (hsz2 q' h).1; omega, (hsz2 q' h).2 hz2⟩)
              have HNX : Hid (∀ q' : PV, q'.po = p' → (k + 1 ≤ s.size → readK (m + 1) q'.po (linesK (midW s.data.toList (k + 1) (k + 1)) (s.data.toList.drop (k + 1))) = R) ∧ (k + 1 = s.size + 1 → R = .inl q'.po)) := hide (fun q' h => ⟨fun h2 => by rw [h, ← hL2 h2]; exact hnow, fun h2 => by omega⟩)
              have hf0 : (f : Int) ≤ k := by omega
              have hk1 : (k : Int) ≤ s.size := by omega
              have q1 : (k : Int) < s.size := by omega
              have q2 : ((s[k].toNat : Int) != 10) = false := by rw [h10]; rfl
              clear HK HE HLN HAN hnow HP HC HZ HP1 HCL hL yb yc ba hL1 hL2 hL3 hz1 hz2 hml hxs hmid hLR hon hsz2
              obtain ⟨rs, li, sc, dr, de, rv, lv, sv, dv⟩ := q
              simp only [] at e0 e1 e2 e3 y0 y1 y2 y3 y4 z0 z1 z2 z3 z4 t0 t1 t2 t3 t4 LA LB
              subst e0 e1 e2 e3
              generalize rs.length = n0 at *
              generalize li.length = n1 at *
              generalize sc.length = n2 at *
              generalize dr.length = n3 at *
              simp only [zeroPV] at t0 t1 t2 t3 t4 LA
              go_wp2_with fail
              go_region_law (first | (refine step_call_enter rfl 18 #[.agg #[.slice a0 n0 d0, .slice a1 n1 d1, .slice a2 n2 d2, .slice a3 n3 d3, .int .i64 de], .string (s.extract f k)] ?_ LA.out ?_; go_simp; intro e w2 hh; obtain ⟨A0, A1, A2, A3, N0, N1, N2, N3, D0, D1, D2, D3, rs', li', sc2, dr', de', rfl, u0, u1, u2, u3, u4, v0, v1, v2, v3, v4, HCq, HPq, NX⟩ := hh; refine ⟨_, rfl, ?_⟩) | (refine step_call_enter rfl 18 #[.agg #[.slice a0 n0 d0, .slice a1 n1 d1, .slice a2 n2 d2, .slice a3 n3 d3, .int .i64 de], .string (s.extract f k)] ?_ LB.out ?_; go_simp; intro e w2 hh; obtain ⟨A0, A1, A2, A3, N0, N1, N2, N3, D0, D1, D2, D3, rs', li', sc2, dr', de', rfl, HCq, HPq, NX⟩ := hh; refine ⟨_, rfl, ?_⟩))
              all_goals clear LA LB
              all_goals obtain ⟨r0, r1, r2, r3, r4, g0, g1, g2, g3, g4⟩ := box5P NX.out.z
              all_goals obtain ⟨p0, p1, p2, p3, p4, k0, k1', k2, k3, k4⟩ := box5P NX.out.p
              all_goals obtain ⟨m0, m1, m2, m3, m4, _⟩ := box5P NX.out.n
              all_goals simp only [zeroPV] at r0 r1 r2 r3 r4 p0 p1 p2 p3 p4 m0 m1 m2 m3 m4
              all_goals have HF := hide NX.out.fin
              all_goals have HSQ := hide (HSZ.out _ HPq.out)
              all_goals have HNQ := HNX.out _ HPq.out
              all_goals have HN1 := hide HNQ.1
              all_goals have HN2 := hide HNQ.2
              all_goals clear NX HNQ HNX HSZ
              all_goals go_wp2
              all_goals go_roundw
              all_goals first | exact ⟨k + 1, k + 1, m + 1, ⟨rs', li', sc2, dr', de', .slice A0 N0 D0, .slice A1 N1 D1, .slice A2 N2 D2, .slice A3 N3 D3⟩, by omega, Nat.le_refl _, by omega, by go_num, by go_num, by go_num, HF, HCq, HSQ, HN1, HN2⟩ | (simp [intOf]; omega)
          · cases hLR : lineL q.po (midW s.data.toList f k) with
            | none =>
              rw [hLR] at hnow HCL
              simp only [] at hnow
              have han := HAN.out
              rw [← hnow] at han
              simp only [ansR] at han
              subst han
              have ba := below_alloc wr (.cells (poC zeroPV) 26)
              have hws := HP1.s
              have LA : Hid (Calls Tryz.prog 18 #[poA q, .string (s.extract f k)] (wr.alloc (.cells (poC zeroPV) 26)).drew fun e w2 => ∃ (A0 A1 A2 A3 : Option Addr) (N0 N1 N2 N3 D0 D1 D2 D3 : Nat) (rs' : List RV) (li' sc2 dr' : List Bs) (de' : Int), e = .returned (.tuple #[.agg #[.slice A0 N0 D0, .slice A1 N1 D1, .slice A2 N2 D2, .slice A3 N3 D3, .int .i64 de'], .bool false]) ∧ w2.cell? ⟨wr.heap.size, 0, none⟩ = some (.slice none 0 0) ∧ w2.cell? ⟨wr.heap.size, 1, none⟩ = some (.slice none 0 0) ∧ w2.cell? ⟨wr.heap.size, 2, none⟩ = some (.slice none 0 0) ∧ w2.cell? ⟨wr.heap.size, 3, none⟩ = some (.slice none 0 0) ∧ w2.cell? ⟨wr.heap.size, 4, none⟩ = some (.int .i64 0) ∧ w2.frozen? ⟨wr.heap.size, 0, none⟩ = false ∧ w2.frozen? ⟨wr.heap.size, 1, none⟩ = false ∧ w2.frozen? ⟨wr.heap.size, 2, none⟩ = false ∧ w2.frozen? ⟨wr.heap.size, 3, none⟩ = false ∧ w2.frozen? ⟨wr.heap.size, 4, none⟩ = false ∧ Hid (NB w q ⟨rs', li', sc2, dr', de', .slice A0 N0 D0, .slice A1 N1 D1, .slice A2 N2 D2, .slice A3 N3 D3⟩ wr.heap.size (set5 w2 wr.heap.size (.slice A0 N0 D0) (.slice A1 N1 D1) (.slice A2 N2 D2) (.slice A3 N3 D3) (.int .i64 de')))) := hide ((HCL.out _ (HP1.below ba).drew).mono fun e w2 h => by
                obtain ⟨q', bb, h1, h2, h3, h4, h5⟩ := h
                simp only [] at h2
                have hz0 : w2.heap[wr.heap.size]? = some (.cells (poC zeroPV) 26 (0, 0)) := (h5.block wr.heap.size (by show _ < (wr.alloc (.cells (poC zeroPV) 26)).heap.size; simp)).trans (heap_alloc_new wr _)
                obtain ⟨u0, u1, u2, u3, u4, u5, u6, u7, u8, u9⟩ := box5P hz0
                have nb := nb_of (q' := q') (W := w2) (((HP1.below ba).drew).below h5) hz0 (by omega) h3
                rw [h2] at h1
                obtain ⟨rs', li', sc2, dr', de', rv', lv', sv', dv'⟩ := q'
                obtain ⟨A0, D0, c0⟩ : ∃ a c, rv' = .slice a rs'.length c := h3.r.form
                obtain ⟨A1, D1, c1⟩ : ∃ a c, lv' = .slice a li'.length c := h3.l.form
                obtain ⟨A2, D2, c2⟩ : ∃ a c, sv' = .slice a sc2.length c := h3.s.form
                obtain ⟨A3, D3, c3⟩ : ∃ a c, dv' = .slice a dr'.length c := h3.d.form
                subst c0 c1 c2 c3
                exact ⟨A0, A1, A2, A3, rs'.length, li'.length, sc2.length, dr'.length, D0, D1, D2, D3, rs', li', sc2, dr', de', h1, u0, u1, u2, u3, u4, u5, u6, u7, u8, u9, hide nb⟩)
              have LB : Hid (Calls Tryz.prog 18 #[poA q, .string (s.extract f k)] wr.drew fun e w2 => ∃ (A0 A1 A2 A3 : Option Addr) (N0 N1 N2 N3 D0 D1 D2 D3 : Nat) (rs' : List RV) (li' sc2 dr' : List Bs) (de' : Int), e = .returned (.tuple #[.agg #[.slice A0 N0 D0, .slice A1 N1 D1, .slice A2 N2 D2, .slice A3 N3 D3, .int .i64 de'], .bool false]) ∧ Hid (NB w q ⟨rs', li', sc2, dr', de', .slice A0 N0 D0, .slice A1 N1 D1, .slice A2 N2 D2, .slice A3 N3 D3⟩ w2.heap.size (w2.alloc (.cells #[.slice A0 N0 D0, .slice A1 N1 D1, .slice A2 N2 D2, .slice A3 N3 D3, .int .i64 de'] 26)))) := hide ((HCL.out _ HP1.drew).mono fun e w2 h => by
                obtain ⟨q', bb, h1, h2, h3, h4, h5⟩ := h
                simp only [] at h2
                have nb := nb_alloc (q' := q') (HP1.drew.below h5) h3
                rw [h2] at h1
                obtain ⟨rs', li', sc2, dr', de', rv', lv', sv', dv'⟩ := q'
                obtain ⟨A0, D0, c0⟩ : ∃ a c, rv' = .slice a rs'.length c := h3.r.form
                obtain ⟨A1, D1, c1⟩ : ∃ a c, lv' = .slice a li'.length c := h3.l.form
                obtain ⟨A2, D2, c2⟩ : ∃ a c, sv' = .slice a sc2.length c := h3.s.form
                obtain ⟨A3, D3, c3⟩ : ∃ a c, dv' = .slice a dr'.length c := h3.d.form
                subst c0 c1 c2 c3
                exact ⟨A0, A1, A2, A3, rs'.length, li'.length, sc2.length, dr'.length, D0, D1, D2, D3, rs', li', sc2, dr', de', h1, hide nb⟩)
              have yb := HP1.drew
              obtain ⟨z0, z1, z2, z3, z4, _⟩ := box5P yb.p
              have yc := (HP1.below ba).drew
              obtain ⟨t0, t1, t2, t3, t4, _⟩ := box5P yc.p
              obtain ⟨a0, d0, e0⟩ := HP1.i.r.form
              obtain ⟨a1, d1, e1⟩ := HP1.i.l.form
              obtain ⟨a2, d2, e2⟩ := HP1.i.s.form
              obtain ⟨a3, d3, e3⟩ := HP1.i.d.form
              have hf0 : (f : Int) ≤ k := by omega
              have hk1 : (k : Int) ≤ s.size := by omega
              have q1 : ¬ (k : Int) < s.size := by omega
              clear HK HE HLN HAN hnow HP HC HZ HP1 HCL hL yb yc ba hL1 hL2 hL3 hz1 hz2 hml hxs hmid hLR hon
              obtain ⟨rs, li, sc, dr, de, rv, lv, sv, dv⟩ := q
              simp only [] at e0 e1 e2 e3 y0 y1 y2 y3 y4 z0 z1 z2 z3 z4 t0 t1 t2 t3 t4 LA LB
              subst e0 e1 e2 e3
              generalize rs.length = n0 at *
              generalize li.length = n1 at *
              generalize sc.length = n2 at *
              generalize dr.length = n3 at *
              simp only [zeroPV] at t0 t1 t2 t3 t4 LA
              go_wp2_with fail
              go_region_law (first | (refine step_call_enter rfl 18 #[.agg #[.slice a0 n0 d0, .slice a1 n1 d1, .slice a2 n2 d2, .slice a3 n3 d3, .int .i64 de], .string (s.extract f k)] ?_ LA.out ?_; go_simp; intro e w2 hh; obtain ⟨A0, A1, A2, A3, N0, N1, N2, N3, D0, D1, D2, D3, rs', li', sc2, dr', de', rfl, u0, u1, u2, u3, u4, v0, v1, v2, v3, v4, NX⟩ := hh; refine ⟨_, rfl, ?_⟩) | (refine step_call_enter rfl 18 #[.agg #[.slice a0 n0 d0, .slice a1 n1 d1, .slice a2 n2 d2, .slice a3 n3 d3, .int .i64 de], .string (s.extract f k)] ?_ LB.out ?_; go_simp; intro e w2 hh; obtain ⟨A0, A1, A2, A3, N0, N1, N2, N3, D0, D1, D2, D3, rs', li', sc2, dr', de', rfl, NX⟩ := hh; refine ⟨_, rfl, ?_⟩))
              all_goals clear LA LB
              all_goals obtain ⟨r0, r1, r2, r3, r4, g0, g1, g2, g3, g4⟩ := box5P NX.out.z
              all_goals obtain ⟨p0, p1, p2, p3, p4, k0, k1', k2, k3, k4⟩ := box5P NX.out.p
              all_goals obtain ⟨m0, m1, m2, m3, m4, _⟩ := box5P NX.out.n
              all_goals simp only [zeroPV] at r0 r1 r2 r3 r4 p0 p1 p2 p3 p4 m0 m1 m2 m3 m4
              all_goals have ZZ := hide (NX.out.bad (m + 1))
              all_goals clear NX
              all_goals go_wp2
              all_goals refine bodyPost_ret (v := .tuple #[poA zeroPV, .int .i64 ((m + 1 : Nat) : Int), .int .i64 7]) ?_ rfl (ZZ.out _ _ _ _ _)
              all_goals simp [results, Tryz.results8, go_sem, zeroPV, r0, r1, r2, r3, r4]
            | some p' =>
              rw [hLR] at hnow HCL
              simp only [] at hnow
              have ba := below_alloc wr (.cells (poC zeroPV) 26)
              have hws := HP1.s
              have LA : Hid (Calls Tryz.prog 18 #[poA q, .string (s.extract f k)] (wr.alloc (.cells (poC zeroPV) 26)).drew fun e w2 => ∃ (A0 A1 A2 A3 : Option Addr) (N0 N1 N2 N3 D0 D1 D2 D3 : Nat) (rs' : List RV) (li' sc2 dr' : List Bs) (de' : Int), e = .returned (.tuple #[.agg #[.slice A0 N0 D0, .slice A1 N1 D1, .slice A2 N2 D2, .slice A3 N3 D3, .int .i64 de'], .bool true]) ∧ w2.cell? ⟨wr.heap.size, 0, none⟩ = some (.slice none 0 0) ∧ w2.cell? ⟨wr.heap.size, 1, none⟩ = some (.slice none 0 0) ∧ w2.cell? ⟨wr.heap.size, 2, none⟩ = some (.slice none 0 0) ∧ w2.cell? ⟨wr.heap.size, 3, none⟩ = some (.slice none 0 0) ∧ w2.cell? ⟨wr.heap.size, 4, none⟩ = some (.int .i64 0) ∧ w2.frozen? ⟨wr.heap.size, 0, none⟩ = false ∧ w2.frozen? ⟨wr.heap.size, 1, none⟩ = false ∧ w2.frozen? ⟨wr.heap.size, 2, none⟩ = false ∧ w2.frozen? ⟨wr.heap.size, 3, none⟩ = false ∧ w2.frozen? ⟨wr.heap.size, 4, none⟩ = false ∧ Hid (CapQ ⟨rs', li', sc2, dr', de', .slice A0 N0 D0, .slice A1 N1 D1, .slice A2 N2 D2, .slice A3 N3 D3⟩) ∧ Hid (PV.po ⟨rs', li', sc2, dr', de', .slice A0 N0 D0, .slice A1 N1 D1, .slice A2 N2 D2, .slice A3 N3 D3⟩ = p') ∧ Hid (NB w q ⟨rs', li', sc2, dr', de', .slice A0 N0 D0, .slice A1 N1 D1, .slice A2 N2 D2, .slice A3 N3 D3⟩ wr.heap.size (set5 w2 wr.heap.size (.slice A0 N0 D0) (.slice A1 N1 D1) (.slice A2 N2 D2) (.slice A3 N3 D3) (.int .i64 de')))) := hide ((HCL.out _ (HP1.below ba).drew).mono fun e w2 h => by
                obtain ⟨q', bb, h1, h2, h3, h4, h5⟩ := h
                simp only [] at h2
                have hz0 : w2.heap[wr.heap.size]? = some (.cells (poC zeroPV) 26 (0, 0)) := (h5.block wr.heap.size (by show _ < (wr.alloc (.cells (poC zeroPV) 26)).heap.size; simp)).trans (heap_alloc_new wr _)
                obtain ⟨u0, u1, u2, u3, u4, u5, u6, u7, u8, u9⟩ := box5P hz0
                have nb := nb_of (q' := q') (W := w2) (((HP1.below ba).drew).below h5) hz0 (by omega) h3
                rw [h2.1] at h1
                obtain ⟨rs', li', sc2, dr', de', rv', lv', sv', dv'⟩ := q'
                obtain ⟨A0, D0, c0⟩ : ∃ a c, rv' = .slice a rs'.length c := h3.r.form
                obtain ⟨A1, D1, c1⟩ : ∃ a c, lv' = .slice a li'.length c := h3.l.form
                obtain ⟨A2, D2, c2⟩ : ∃ a c, sv' = .slice a sc2.length c := h3.s.form
                obtain ⟨A3, D3, c3⟩ : ∃ a c, dv' = .slice a dr'.length c := h3.d.form
                subst c0 c1 c2 c3
                exact ⟨A0, A1, A2, A3, rs'.length, li'.length, sc2.length, dr'.length, D0, D1, D2, D3, rs', li', sc2, dr', de', h1, u0, u1, u2, u3, u4, u5, u6, u7, u8, u9, hide h4, hide h2.2, hide nb⟩)
              have LB : Hid (Calls Tryz.prog 18 #[poA q, .string (s.extract f k)] wr.drew fun e w2 => ∃ (A0 A1 A2 A3 : Option Addr) (N0 N1 N2 N3 D0 D1 D2 D3 : Nat) (rs' : List RV) (li' sc2 dr' : List Bs) (de' : Int), e = .returned (.tuple #[.agg #[.slice A0 N0 D0, .slice A1 N1 D1, .slice A2 N2 D2, .slice A3 N3 D3, .int .i64 de'], .bool true]) ∧ Hid (CapQ ⟨rs', li', sc2, dr', de', .slice A0 N0 D0, .slice A1 N1 D1, .slice A2 N2 D2, .slice A3 N3 D3⟩) ∧ Hid (PV.po ⟨rs', li', sc2, dr', de', .slice A0 N0 D0, .slice A1 N1 D1, .slice A2 N2 D2, .slice A3 N3 D3⟩ = p') ∧ Hid (NB w q ⟨rs', li', sc2, dr', de', .slice A0 N0 D0, .slice A1 N1 D1, .slice A2 N2 D2, .slice A3 N3 D3⟩ w2.heap.size (w2.alloc (.cells #[.slice A0 N0 D0, .slice A1 N1 D1, .slice A2 N2 D2, .slice A3 N3 D3, .int .i64 de'] 26)))) := hide ((HCL.out _ HP1.drew).mono fun e w2 h => by
                obtain ⟨q', bb, h1, h2, h3, h4, h5⟩ := h
                simp only [] at h2
                have nb := nb_alloc (q' := q') (HP1.drew.below h5) h3
                rw [h2.1] at h1
                obtain ⟨rs', li', sc2, dr', de', rv', lv', sv', dv'⟩ := q'
                obtain ⟨A0, D0, c0⟩ : ∃ a c, rv' = .slice a rs'.length c := h3.r.form
                obtain ⟨A1, D1, c1⟩ : ∃ a c, lv' = .slice a li'.length c := h3.l.form
                obtain ⟨A2, D2, c2⟩ : ∃ a c, sv' = .slice a sc2.length c := h3.s.form
                obtain ⟨A3, D3, c3⟩ : ∃ a c, dv' = .slice a dr'.length c := h3.d.form
                subst c0 c1 c2 c3
                exact ⟨A0, A1, A2, A3, rs'.length, li'.length, sc2.length, dr'.length, D0, D1, D2, D3, rs', li', sc2, dr', de', h1, hide h4, hide h2.2, hide nb⟩)
              have yb := HP1.drew
              obtain ⟨z0, z1, z2, z3, z4, _⟩ := box5P yb.p
              have yc := (HP1.below ba).drew
              obtain ⟨t0, t1, t2, t3, t4, _⟩ := box5P yc.p
              obtain ⟨a0, d0, e0⟩ := HP1.i.r.form
              obtain ⟨a1, d1, e1⟩ := HP1.i.l.form
              obtain ⟨a2, d2, e2⟩ := HP1.i.s.form
              obtain ⟨a3, d3, e3⟩ := HP1.i.d.form
              have hsz2 := fun (q' : PV) (h : q'.po = p') => line_size (N := 2000) (show lineL q.po (midW s.data.toList f k) = some q'.po by rw [hLR, h]) (by omega)
              have HSZ : Hid (∀ q' : PV, q'.po = p' → 2 * sizeP q'.po ≤ k + 1 ∧ ShortP 2000 q'.po) := hide (fun q' h => ⟨by have := (hsz2 q' h).1; omega, (hsz2 q' h).2 hz2⟩)
              have HNX : Hid (∀ q' : PV, q'.po = p' → (k + 1 ≤ s.size → readK (m + 1) q'.po (linesK (midW s.data.toList (k + 1) (k + 1)) (s.data.toList.drop (k + 1))) = R) ∧ (k + 1 = s.size + 1 → R = .inl q'.po)) := hide (fun q' h => ⟨fun h2 => by omega, fun h2 => by rw [h, ← hnow, hL3 (by omega), readK]⟩)
              have hf0 : (f : Int) ≤ k := by omega
              have hk1 : (k : Int) ≤ s.size := by omega
              have q1 : ¬ (k : Int) < s.size := by omega
              clear HK HE HLN HAN hnow HP HC HZ HP1 HCL hL yb yc ba hL1 hL2 hL3 hz1 hz2 hml hxs hmid hLR hon hsz2
              obtain ⟨rs, li, sc, dr, de, rv, lv, sv, dv⟩ := q
              simp only [] at e0 e1 e2 e3 y0 y1 y2 y3 y4 z0 z1 z2 z3 z4 t0 t1 t2 t3 t4 LA LB
              subst e0 e1 e2 e3
              generalize rs.length = n0 at *
              generalize li.length = n1 at *
              generalize sc.length = n2 at *
              generalize dr.length = n3 at *
              simp only [zeroPV] at t0 t1 t2 t3 t4 LA
              go_wp2_with fail
              go_region_law (first | (refine step_call_enter rfl 18 #[.agg #[.slice a0 n0 d0, .slice a1 n1 d1, .slice a2 n2 d2, .slice a3 n3 d3, .int .i64 de], .string (s.extract f k)] ?_ LA.out ?_; go_simp; intro e w2 hh; obtain ⟨A0, A1, A2, A3, N0, N1, N2, N3, D0, D1, D2, D3, rs', li', sc2, dr', de', rfl, u0, u1, u2, u3, u4, v0, v1, v2, v3, v4, HCq, HPq, NX⟩ := hh; refine ⟨_, rfl, ?_⟩) | (refine step_call_enter rfl 18 #[.agg #[.slice a0 n0 d0, .slice a1 n1 d1, .slice a2 n2 d2, .slice a3 n3 d3, .int .i64 de], .string (s.extract f k)] ?_ LB.out ?_; go_simp; intro e w2 hh; obtain ⟨A0, A1, A2, A3, N0, N1, N2, N3, D0, D1, D2, D3, rs', li', sc2, dr', de', rfl, HCq, HPq, NX⟩ := hh; refine ⟨_, rfl, ?_⟩))
              all_goals clear LA LB
              all_goals obtain ⟨r0, r1, r2, r3, r4, g0, g1, g2, g3, g4⟩ := box5P NX.out.z
              all_goals obtain ⟨p0, p1, p2, p3, p4, k0, k1', k2, k3, k4⟩ := box5P NX.out.p
              all_goals obtain ⟨m0, m1, m2, m3, m4, _⟩ := box5P NX.out.n
              all_goals simp only [zeroPV] at r0 r1 r2 r3 r4 p0 p1 p2 p3 p4 m0 m1 m2 m3 m4
              all_goals have HF := hide NX.out.fin
              all_goals have HSQ := hide (HSZ.out _ HPq.out)
              all_goals have HNQ := HNX.out _ HPq.out
              all_goals have HN1 := hide HNQ.1
              all_goals have HN2 := hide HNQ.2
              all_goals clear NX HNQ HNX HSZ
              all_goals go_wp2
              all_goals go_roundw
              all_goals first | exact ⟨k + 1, k + 1, m + 1, ⟨rs', li', sc2, dr', de', .slice A0 N0 D0, .slice A1 N1 D1, .slice A2 N2 D2, .slice A3 N3 D3⟩, by omega, Nat.le_refl _, by omega, by go_num, by go_num, by go_num, HF, HCq, HSQ, HN1, HN2⟩ | (simp [intOf]; omega)
      · have hle2 : ¬ (k : Int) ≤ s.size := by omega
        have hr := HE.out (by omega)
        have hz := HZ.out
        have HP1 := HP.out
        obtain ⟨y0, y1, y2, y3, y4, _⟩ := box5P HP1.p
        have hcap := cap_small HC.out (by omega) hz.2
        have HCK := hide (rcheck_any q hcap wr HP1.i)
        have HEN := hide (fun W (b : Below wr.heap.size wr W) => (HP1.below b))
        have HED := hide (fun W (b : Below wr.heap.size wr W) => ps_end (HP1.below b) hcap)
        have HEZ := hide (fun W (b : Below wr.heap.size wr W) (c : Int) v0 v1 v2 v3 v4 => parse_zero (n := 0) (e := c) (below_set5G (Nat.le_refl _) (HP1.below b).b v0 v1 v2 v3 v4))
        have han := HAN.out
        rw [hr] at han
        simp only [ansR] at han
        obtain ⟨a0, d0, e0⟩ := HP1.i.r.form
        obtain ⟨a1, d1, e1⟩ := HP1.i.l.form
        obtain ⟨a2, d2, e2⟩ := HP1.i.s.form
        obtain ⟨a3, d3, e3⟩ := HP1.i.d.form
        clear HK HE HLN HAN hr hz HP HC HZ HP1 hcap hL
        generalize hpo : q.po = po at *
        generalize checkP po = c at *
        obtain ⟨rs, li, sc, dr, de, rv, lv, sv, dv⟩ := q
        simp only [] at e0 e1 e2 e3 y0 y1 y2 y3 y4 HCK HEN HED HEZ
        subst e0 e1 e2 e3
        generalize rs.length = n0 at *
        generalize li.length = n1 at *
        generalize sc.length = n2 at *
        generalize dr.length = n3 at *
        by_cases hc : c = 0
        · subst hc
          rw [if_pos rfl] at han
          subst han
          go_wp2_with fail
          refine HCK.out.mono ?_
          rintro e w2 ⟨rfl, b2⟩
          have ps := HEN.out w2 b2
          have ZZ := hide (HED.out w2 b2)
          obtain ⟨x0, x1, x2, x3, x4, f0, f1, f2, f3, f4⟩ := box5P ps.z
          obtain ⟨y0, y1, y2, y3, y4, _⟩ := box5P ps.p
          simp only [zeroPV] at x0 x1 x2 x3 x4 y0 y1 y2 y3 y4
          clear ps HEN HED HEZ HCK b2
          go_wp2
          refine bodyPost_ret (v := .tuple #[.agg #[.slice a0 n0 d0, .slice a1 n1 d1, .slice a2 n2 d2, .slice a3 n3 d3, .int .i64 de], .int .i64 ((0 : Nat) : Int), .int .i64 0]) ?_ rfl (ZZ.out _ _ _ _ _)
          simp [results, Tryz.results8, go_sem, x0, x1, x2, x3, x4]
        · have hci : (c != 0) = true := by rw [bne_iff_ne]; exact hc
          rw [if_neg hc] at han
          subst han
          go_wp2_with fail
          refine HCK.out.mono ?_
          rintro e w2 ⟨rfl, b2⟩
          have ps := HEN.out w2 b2
          have ZZ := hide (HEZ.out w2 b2 c)
          obtain ⟨x0, x1, x2, x3, x4, f0, f1, f2, f3, f4⟩ := box5P ps.z
          simp only [zeroPV] at x0 x1 x2 x3 x4
          clear ps HEN HED HEZ HCK b2 hc
          go_wp2
          refine bodyPost_ret (v := .tuple #[poA zeroPV, .int .i64 ((0 : Nat) : Int), .int .i64 c]) ?_ rfl (ZZ.out _ _ _ _ _)
          simp [results, Tryz.results8, go_sem, zeroPV, x0, x1, x2, x3, x4]
end Go.Proofs.YthopnliaikkhbaaGreatDoor
