/- What the statements' do answers. -/
import Derived.Test.YtjgklemhlmgheaaDo5
set_option linter.unusedVariables false
set_option linter.unusedSimpArgs false
namespace Go.Proofs.Ytjgklemhlmgheaa
open Go.RowKit

/-- An act that is asked about, on two arenas. -/
structure Fit (T U : TR) (x : AV) : Prop where
  wt : WF T
  wu : WF U
  t0 : 0 < T.length
  tl : T.length ≤ 2000
  u0 : 0 < U.length
  ul : U.length ≤ 2000
  ta : ∀ i, (nodeAt T i).attrs.length ≤ 1000000 ∧ (nodeAt T i).text.length ≤ 1000000000
  ua : ∀ i, (nodeAt U i).attrs.length ≤ 1000000 ∧ (nodeAt U i).text.length ≤ 1000000000
  xs : x.s.size ≤ 60
  xa : x.aa.length ≤ 6
theorem dos_start {n0 : Nat} {w0 w : World} {pb : Nat} {b o cap : Nat} {T U : TR} (h : Both n0 w0 w pb (.slice (some ⟨b, o, none⟩) U.length cap) T U) (hn0 : n0 = w0.heap.size) (x : AV) (hV : IsV w0 x.av x.aa) (ha : x.aa.length ≤ 6) :
    ∃ v1 w1, (Builtin.append_ #[31, 31] 31 #[.slice (some ⟨w.heap.size + 1 + 1 + 1, 0, none⟩) 0 0, x.av]).run Try.prog ((((w.alloc (.cells #[.slice (some ⟨b, o, none⟩) U.length cap] 27)).alloc (.cells x.cells.toArray 33)).alloc (.cells #[.slice none 0 0] 27)).alloc (.cells #[] 80)) = .ok v1 w1 ∧ IsA w1 v1 x.aa ∧ (∃ a c, v1 = .slice a x.aa.length c) ∧ ∃ A B, DoS n0 w.heap.size w1.heap.size x v1 w0 A B w1 pb (.slice (some ⟨b, o, none⟩) U.length cap) T U := by
  obtain ⟨A, B, h1, h2, h3, h4⟩ := h.ex
  have b0 := below_alloc w (.cells #[.slice (some ⟨b, o, none⟩) U.length cap] 27)
  have b1 := b0.alloc b0.size (.cells x.cells.toArray 33)
  have b2 := b1.alloc b1.size (.cells #[.slice none 0 0] 27)
  have K0 := ((Kept.new w [.slice (some ⟨b, o, none⟩) U.length cap] 27).alloc (.cells x.cells.toArray 33)).alloc (.cells #[.slice none 0 0] 27)
  have K1 : Kept (((w.alloc (.cells #[.slice (some ⟨b, o, none⟩) U.length cap] 27)).alloc (.cells x.cells.toArray 33)).alloc (.cells #[.slice none 0 0] 27)) (w.alloc (.cells #[.slice (some ⟨b, o, none⟩) U.length cap] 27)).heap.size x.cells := Kept.alloc (v := .int .i64 x.k) (cs := [.int .i64 x.a, .int .i64 x.b, .int .i64 x.sp, .string x.s, x.av]) (Kept.new (w.alloc (.cells #[.slice (some ⟨b, o, none⟩) U.length cap] 27)) x.cells 33) (.cells #[.slice none 0 0] 27)
  have K2 := Kept.new ((w.alloc (.cells #[.slice (some ⟨b, o, none⟩) U.length cap] 27)).alloc (.cells x.cells.toArray 33)) [.slice none 0 0] 27
  rw [show (w.alloc (.cells #[.slice (some ⟨b, o, none⟩) U.length cap] 27)).heap.size = w.heap.size + 1 by simp] at K1
  rw [show ((w.alloc (.cells #[.slice (some ⟨b, o, none⟩) U.length cap] 27)).alloc (.cells x.cells.toArray 33)).heap.size = w.heap.size + 1 + 1 by simp] at K2
  have hs2 : (((w.alloc (.cells #[.slice (some ⟨b, o, none⟩) U.length cap] 27)).alloc (.cells x.cells.toArray 33)).alloc (.cells #[.slice none 0 0] 27)).heap.size = w.heap.size + 1 + 1 + 1 := by simp
  have hBw : Below w0.heap.size w0 w := hn0 ▸ h.bel
  have hVw : IsV w x.av x.aa := hV.below hBw
  obtain ⟨v1, w1, hr1, ho1, hb1⟩ := copy_attrs _ _ _ (hVw.below b2) (by omega)
  rw [hs2] at hr1 ho1
  have hm1 := hb1.size
  rw [hs2] at hm1
  have BB := b2.trans (hb1.mono b2.size)
  obtain ⟨a1, c1, hform⟩ := owns_form ho1
  refine ⟨v1, w1, hr1, owns_isA ho1, ⟨a1, c1, hform⟩, A, B, ⟨h1.below BB, h2.below BB, fun k hk => ?_, fun k hk => ?_, K0.below hb1, Kept.below (v := .int .i64 x.k) (cs := [.int .i64 x.a, .int .i64 x.b, .int .i64 x.sp, .string x.s, x.av]) K1 hb1, K2.below hb1, ⟨_, ho1⟩, fun k e => (ho1.lt k e).2, hV, h.bel.trans (BB.mono h.hn), hn0, h.hn, by omega, Nat.le_refl _⟩⟩
  · obtain ⟨a1, a2⟩ := h3 k hk
    exact ⟨a1, by omega, .inl a2⟩
  · obtain ⟨a1, a2, a3⟩ := h4 k hk
    exact ⟨a1, by omega, .inl a2, a3⟩
theorem copyD_len (T : TR) (z : Int) : T.length ≤ (copyD T z).1.length := by
  unfold copyD
  split
  · exact (makeL_len _ _).1
  · exact Nat.le_refl _
theorem str_id (s : ByteArray) : (⟨s.data.toList.toArray⟩ : ByteArray) = s := by simp
theorem dos_q {n0 q m : Nat} {x : AV} {vat : Value} {w0 : World} {A B : Nat → Prop} {w : World} {pb : Nat} {rv : Value} {T U : TR} (h : DoS n0 q m x vat w0 A B w pb rv T U) : w.cell? ⟨q, 0, none⟩ = some rv ∧ w.frozen? ⟨q, 0, none⟩ = false ∧ w.cell? ⟨q + 1, 0, none⟩ = some (.int .i64 x.k) ∧ w.cell? ⟨q + 1, 1, none⟩ = some (.int .i64 x.a) ∧ w.cell? ⟨q + 1, 2, none⟩ = some (.int .i64 x.b) ∧ w.cell? ⟨q + 1, 3, none⟩ = some (.int .i64 x.sp) ∧ w.cell? ⟨q + 1, 4, none⟩ = some (.string x.s) ∧ w.cell? ⟨q + 1, 5, none⟩ = some x.av ∧ w.cell? ⟨q + 1 + 1, 0, none⟩ = some (.slice none 0 0) ∧ w.frozen? ⟨q + 1 + 1, 0, none⟩ = false :=
  ⟨h.k4.1 0, h.k4.2 0, h.k5.1 0, h.k5.1 1, h.k5.1 2, h.k5.1 3, h.k5.1 4, h.k5.1 5, h.k6.1 0, h.k6.2 0⟩
set_option maxRecDepth 10000 in
set_option maxHeartbeats 8000000 in
theorem do_k0 {n0 : Nat} {w0 w : World} {pb : Nat} {rv : Value} {T U : TR} (hn0 : n0 = w0.heap.size) (k a b2 sp : Int) (s : ByteArray) (aa : AttrL) (av : Value) (hk : k ≠ 1 ∧ k ≠ 2 ∧ k ≠ 3 ∧ k ≠ 4 ∧ k ≠ 5 ∧ k ≠ 6 ∧ k ≠ 7 ∧ k ≠ 8 ∧ k ≠ 9) (F : Fit T U ⟨k, a, b2, sp, s, aa, av⟩) (hV : IsV w0 av aa) (h : Both n0 w0 w pb rv T U) :
    Calls Try.prog 12 #[.pointer (some ⟨pb, 0, none⟩), .agg #[rv], .agg #[.int .i64 k, .int .i64 a, .int .i64 b2, .int .i64 sp, .string s, av]] w fun e w' => ∃ rv', e = .returned (.tuple #[.agg #[rv'], .bool true]) ∧ Both n0 w0 w' pb rv' T U ∧ ∃ a m c, rv' = .slice a m c := by
  obtain ⟨b, o, cap, hrv⟩ : ∃ b o cap, rv = .slice (some ⟨b, o, none⟩) U.length cap := by
    obtain ⟨_, _, _, h2, _, _⟩ := h.ex
    obtain ⟨b, o, cap, _, e, _⟩ := h2
    exact ⟨b, o, cap, e⟩
  subst hrv
  obtain ⟨ava, avc, rfl⟩ := isV_form hV
  obtain ⟨v1, w1, hr1, hIA, ⟨va1, vc1, rfl⟩, A, B, D⟩ := dos_start h hn0 ⟨k, a, b2, sp, s, aa, .slice ava aa.length avc⟩ hV F.xa
  have HIA := hide hIA
  have hxa : aa.length ≤ 6 := F.xa
  have HR1 : Hid ((Builtin.append_ #[31, 31] 31 #[.slice (some ⟨w.heap.size + 1 + 1 + 1, 0, none⟩) 0 0, .slice ava aa.length avc]).run Try.prog ((((w.alloc (.cells #[.slice (some ⟨b, o, none⟩) U.length cap] 27)).alloc (.cells #[.int .i64 k, .int .i64 a, .int .i64 b2, .int .i64 sp, .string s, .slice ava aa.length avc] 33)).alloc (.cells #[.slice none 0 0] 27)).alloc (.cells #[] 80)) = .ok (.slice va1 aa.length vc1) w1) := hide hr1
  have HD1 := hide D
  clear hIA hr1 hV h hn0
  obtain ⟨k1, k2, k3, k4, k5, k6, k7, k8, k9⟩ := hk
  have j1 : (k == 1) = false := beq_eq_false_iff_ne.2 k1
  have j2 : (k == 2) = false := beq_eq_false_iff_ne.2 k2
  have j3 : (k == 3) = false := beq_eq_false_iff_ne.2 k3
  have j4 : (k == 4) = false := beq_eq_false_iff_ne.2 k4
  have j5 : (k == 5) = false := beq_eq_false_iff_ne.2 k5
  have j6 : (k == 6) = false := beq_eq_false_iff_ne.2 k6
  have j7 : (k == 7) = false := beq_eq_false_iff_ne.2 k7
  have j8 : (k == 8) = false := beq_eq_false_iff_ne.2 k8
  have j9 : (k == 9) = false := beq_eq_false_iff_ne.2 k9
  have bE := below_alloc (((w.alloc (.cells #[.slice (some ⟨b, o, none⟩) U.length cap] 27)).alloc (.cells #[.int .i64 k, .int .i64 a, .int .i64 b2, .int .i64 sp, .string s, .slice ava aa.length avc] 33)).alloc (.cells #[.slice none 0 0] 27)) (.cells #[] 80)
  obtain ⟨y4, y4f, y50, y51, y52, y53, y54, y55, y6, y6f⟩ := dos_q D
  have HD : Hid (∃ A B, DoS n0 w.heap.size w1.heap.size ⟨k, a, b2, sp, s, aa, .slice ava aa.length avc⟩ (.slice va1 aa.length vc1) w0 A B w1 pb (.slice (some ⟨b, o, none⟩) U.length cap) T U) := hide ⟨A, B, D⟩
  clear D bE HD1
  go_enter Try.func12, Try.ntmps12
  go_wp2_with (with_reducible refine wpList_append_run rfl _ _ 31 rfl (.slice (some ⟨w.heap.size + 1 + 1 + 1, 0, none⟩) 0 0) (.slice ava aa.length avc) _ w1 rfl rfl HR1.out ?_)
  generalize w1.heap.size = m at *
  go_loopw [13] (fun vi wr => ∃ i : Nat, vi = .int .i64 (i : Int) ∧ i ≤ aa.length ∧ Hid (∃ A B, DoS n0 w.heap.size m ⟨k, a, b2, sp, s, aa, .slice ava aa.length avc⟩ (.slice va1 aa.length vc1) w0 A B wr pb (.slice (some ⟨b, o, none⟩) U.length cap) T U)) (fun vi _ => aa.length - (intOf vi).toNat)
  case atStart => exact ⟨0, rfl, by omega, HD⟩
  case round =>
    clear HD
    obtain ⟨i, rfl, hii, HD⟩ := hrel
    obtain ⟨A5, B5, D5⟩ := HD.out
    by_cases hlt : i < aa.length
    · have hlt2 : (i : Int) < aa.length := by omega
      obtain ⟨xs, hx⟩ := D5.row
      rcases hx.2 with ⟨_, h0⟩ | ⟨g, cc, cur, hv, _⟩
      · have h00 : aa.length = 0 := h0
        omega
      injection hv with e1 _ e3
      subst e1 e3
      have hcl : ∃ u, wr.cell? ⟨g, i * 2 + 1, none⟩ = some u := by
        have hl2 : xs.length = aa.length * 2 := hx.1
        exact ⟨xs[i * 2 + 1]'(by omega), by rw [hx.cellAt (i * 2 + 1) (by show i * 2 + 1 < aa.length * 2; omega), List.getElem?_eq_getElem (by omega)]⟩
      obtain ⟨u, hcu⟩ := hcl
      have hfu := hx.frozenAt (i * 2 + 1)
      have HDN : Hid (∃ A B, DoS n0 w.heap.size m ⟨k, a, b2, sp, s, aa, .slice ava aa.length avc⟩ (.slice (some ⟨g, 0, none⟩) aa.length vc1) w0 A B (wr.setCell ⟨g, i * 2 + 1, none⟩ (.string ⟨#[115, 112, 111, 105, 108, 116]⟩)) pb (.slice (some ⟨b, o, none⟩) U.length cap) T U) := hide ⟨A5, B5, D5.spoil rfl _ _⟩
      clear hx HD D5
      go_wp2
      go_roundw
      case rel => exact ⟨i + 1, by go_num, by omega, HDN⟩
      case measure => simp [intOf]; omega
    · have hlt2 : ¬ (i : Int) < aa.length := by omega
      obtain ⟨y4, y4f, _, _, _, _, _, _, y6, y6f⟩ := dos_q D5
      have HBOTH := hide D5.done
      clear HD D5
      go_wp2
      refine bodyPost_ret (v := .tuple #[.agg #[.slice (some ⟨b, o, none⟩) U.length cap], .bool true]) ?_ rfl ⟨_, rfl, HBOTH.out, ⟨_, _, _, rfl⟩⟩
      rw [results_cell_tmp rfl]
      go_simp
set_option maxRecDepth 10000 in
set_option maxHeartbeats 8000000 in
theorem do_k1 {n0 : Nat} {w0 w : World} {pb : Nat} {rv : Value} {T U : TR} (hn0 : n0 = w0.heap.size) (a b2 sp : Int) (s : ByteArray) (aa : AttrL) (av : Value) (F : Fit T U ⟨1, a, b2, sp, s, aa, av⟩) (hV : IsV w0 av aa) (h : Both n0 w0 w pb rv T U) :
    Calls Try.prog 12 #[.pointer (some ⟨pb, 0, none⟩), .agg #[rv], .agg #[.int .i64 1, .int .i64 a, .int .i64 b2, .int .i64 sp, .string s, av]] w fun e w' => ∃ rv', e = .returned (.tuple #[.agg #[rv'], .bool ((makeL T { kind := 1, space := sp, name := s.data.toList, attrs := aa }).2 == (makeL U { kind := 1, space := sp, name := s.data.toList, attrs := aa }).2)]) ∧ Both n0 w0 w' pb rv' (makeL T { kind := 1, space := sp, name := s.data.toList, attrs := aa }).1 (makeL U { kind := 1, space := sp, name := s.data.toList, attrs := aa }).1 ∧ ∃ a m c, rv' = .slice a m c := by
  obtain ⟨b, o, cap, hrv⟩ : ∃ b o cap, rv = .slice (some ⟨b, o, none⟩) U.length cap := by
    obtain ⟨_, _, _, h2, _, _⟩ := h.ex
    obtain ⟨b, o, cap, _, e, _⟩ := h2
    exact ⟨b, o, cap, e⟩
  subst hrv
  obtain ⟨ava, avc, rfl⟩ := isV_form hV
  obtain ⟨v1, w1, hr1, hIA, ⟨va1, vc1, rfl⟩, A, B, D⟩ := dos_start h hn0 ⟨1, a, b2, sp, s, aa, .slice ava aa.length avc⟩ hV F.xa
  have HIA := hide hIA
  have hxa : aa.length ≤ 6 := F.xa
  have HR1 : Hid ((Builtin.append_ #[31, 31] 31 #[.slice (some ⟨w.heap.size + 1 + 1 + 1, 0, none⟩) 0 0, .slice ava aa.length avc]).run Try.prog ((((w.alloc (.cells #[.slice (some ⟨b, o, none⟩) U.length cap] 27)).alloc (.cells #[.int .i64 1, .int .i64 a, .int .i64 b2, .int .i64 sp, .string s, .slice ava aa.length avc] 33)).alloc (.cells #[.slice none 0 0] 27)).alloc (.cells #[] 80)) = .ok (.slice va1 aa.length vc1) w1) := hide hr1
  have HD1 := hide D
  clear hIA hr1 hV h hn0
  have HPROG := hide (element_p F.wt F.t0 F.tl (fun k hk => (D.hA k hk).2.1) sp s (.slice va1 aa.length vc1) aa (by have := F.xa; simp only at this; omega) HIA.out D.pt)
  have HDOC := hide (fun A B W (D : DoS n0 w.heap.size w1.heap.size ⟨1, a, b2, sp, s, aa, .slice ava aa.length avc⟩ (.slice va1 aa.length vc1) w0 A B W pb (.slice (some ⟨b, o, none⟩) U.length cap) (makeL T { kind := 1, space := sp, name := s.data.toList, attrs := aa }).1 U) => make_any (.slice (some ⟨b, o, none⟩) U.length cap) U { kind := 1, space := sp, name := s.data.toList, attrs := aa } (.slice ava aa.length avc) (.slice none 0 0) ⟨_, _, _, rfl⟩ (by have := F.ul; omega) (by have := F.xa; simp only at this ⊢; omega) B W (fun k hk => (D.hB k hk).2.1) D.tb D.isV)
  have hU' : 0 < (makeL U { kind := 1, space := sp, name := s.data.toList, attrs := aa }).1.length := Nat.lt_of_lt_of_le F.u0 ((makeL_len _ _).1)
  obtain ⟨y4, y4f, y50, y51, y52, y53, y54, y55, y6, y6f⟩ := dos_q D
  clear D F
  simp only [str_id] at HDOC
  unfold Made at HPROG
  generalize hM : makeL U { kind := 1, space := sp, name := s.data.toList, attrs := aa } = RM at *
  generalize hN : makeL T { kind := 1, space := sp, name := s.data.toList, attrs := aa } = RN at *
  obtain ⟨U', M⟩ := RM
  obtain ⟨T', N⟩ := RN
  simp only at hU'
  by_cases hNM : N = M
  · subst hNM
    have hbb : (N == N) = true := beq_self_eq_true N
    simp only [hbb]
    go_enter Try.func12, Try.ntmps12
    go_wp2_with (first | with_reducible refine wpList_append_run rfl _ _ 31 rfl (.slice (some ⟨w.heap.size + 1 + 1 + 1, 0, none⟩) 0 0) (.slice ava aa.length avc) _ w1 rfl rfl HR1.out ?_ | fail)
    refine HPROG.out.mono ?_
    rintro e w2 ⟨rfl, h2, h3⟩
    obtain ⟨A2, D2⟩ := HD1.out.prog h2 h3
    clear h2 h3 y4 y4f y50 y51 y52 y53 y54 y55 y6 y6f
    obtain ⟨y4, y4f, y50, y51, y52, y53, y54, y55, y6, y6f⟩ := dos_q D2
    have HD2 := hide D2
    have HDC := hide (HDOC.out A2 B w2 D2)
    clear D2 HDOC
    go_wp2_with fail
    refine HDC.out.mono ?_
    rintro e w3 ⟨⟨v3, h3, ⟨xa, xn, xc, rfl⟩, rfl⟩, b3⟩
    have x4 : w3.cell? ⟨w.heap.size, 0, none⟩ = some (.slice (some ⟨b, o, none⟩) U.length cap) := (b3.cell (cell_lt y4)).trans y4
    have x4f : w3.frozen? ⟨w.heap.size, 0, none⟩ = false := (b3.frozen (p := ⟨w.heap.size, 0, none⟩) (cell_lt y4)).trans y4f
    obtain ⟨B3, D3⟩ := HD2.out.doc hU' h3 b3
    have HD : Hid (∃ A B, DoS n0 w.heap.size w1.heap.size ⟨1, a, b2, sp, s, aa, .slice ava aa.length avc⟩ (.slice va1 aa.length vc1) w0 A B (w3.setCell ⟨w.heap.size, 0, none⟩ (.slice xa xn xc)) pb (.slice xa xn xc) T' U') := hide ⟨A2, B3, D3⟩
    clear D3 h3 b3 y4 y4f y50 y51 y52 y53 y54 y55 y6 y6f HD2 HDC HR1 HD1 HIA
    go_wp2_with fail
    generalize w3.setCell ⟨w.heap.size, 0, none⟩ (.slice xa xn xc) = W4 at *
    generalize w1.heap.size = m at *
    clear x4 x4f
    go_loopw [13] (fun vi wr => ∃ i : Nat, vi = .int .i64 (i : Int) ∧ i ≤ aa.length ∧ Hid (∃ A B, DoS n0 w.heap.size m ⟨1, a, b2, sp, s, aa, .slice ava aa.length avc⟩ (.slice va1 aa.length vc1) w0 A B wr pb (.slice xa xn xc) T' U')) (fun vi _ => aa.length - (intOf vi).toNat)
    case atStart => exact ⟨0, rfl, by omega, HD⟩
    case round =>
      clear HD
      obtain ⟨i, rfl, hii, HD⟩ := hrel
      obtain ⟨A5, B5, D5⟩ := HD.out
      by_cases hlt : i < aa.length
      · have hlt2 : (i : Int) < aa.length := by omega
        obtain ⟨xs, hx⟩ := D5.row
        rcases hx.2 with ⟨_, h0⟩ | ⟨g, cc, cur, hv, _⟩
        · have h00 : aa.length = 0 := h0
          omega
        injection hv with e1 _ e3
        subst e1 e3
        have hcl : ∃ u, wr.cell? ⟨g, i * 2 + 1, none⟩ = some u := by
          have hl2 : xs.length = aa.length * 2 := hx.1
          exact ⟨xs[i * 2 + 1]'(by omega), by rw [hx.cellAt (i * 2 + 1) (by show i * 2 + 1 < aa.length * 2; omega), List.getElem?_eq_getElem (by omega)]⟩
        obtain ⟨u, hcu⟩ := hcl
        have hfu := hx.frozenAt (i * 2 + 1)
        have HDN : Hid (∃ A B, DoS n0 w.heap.size m ⟨1, a, b2, sp, s, aa, .slice ava aa.length avc⟩ (.slice (some ⟨g, 0, none⟩) aa.length vc1) w0 A B (wr.setCell ⟨g, i * 2 + 1, none⟩ (.string ⟨#[115, 112, 111, 105, 108, 116]⟩)) pb (.slice xa xn xc) T' U') := hide ⟨A5, B5, D5.spoil rfl _ _⟩
        clear hx HD D5
        go_wp2
        go_roundw
        case rel => exact ⟨i + 1, by go_num, by omega, HDN⟩
        case measure => simp [intOf]; omega
      · have hlt2 : ¬ (i : Int) < aa.length := by omega
        obtain ⟨y4, y4f, _, _, _, _, _, _, y6, y6f⟩ := dos_q D5
        have HBOTH := hide D5.done
        clear HD D5
        go_wp2
        refine bodyPost_ret (v := .tuple #[.agg #[.slice xa xn xc], .bool true]) ?_ rfl ⟨_, rfl, HBOTH.out, ⟨_, _, _, rfl⟩⟩
        rw [results_cell_tmp rfl]
        go_simp
  · have hbb : (N == M) = false := beq_eq_false_iff_ne.2 hNM
    simp only [hbb]
    go_enter Try.func12, Try.ntmps12
    go_wp2_with (first | with_reducible refine wpList_append_run rfl _ _ 31 rfl (.slice (some ⟨w.heap.size + 1 + 1 + 1, 0, none⟩) 0 0) (.slice ava aa.length avc) _ w1 rfl rfl HR1.out ?_ | fail)
    refine HPROG.out.mono ?_
    rintro e w2 ⟨rfl, h2, h3⟩
    obtain ⟨A2, D2⟩ := HD1.out.prog h2 h3
    clear h2 h3 y4 y4f y50 y51 y52 y53 y54 y55 y6 y6f
    obtain ⟨y4, y4f, y50, y51, y52, y53, y54, y55, y6, y6f⟩ := dos_q D2
    have HD2 := hide D2
    have HDC := hide (HDOC.out A2 B w2 D2)
    clear D2 HDOC
    go_wp2_with fail
    refine HDC.out.mono ?_
    rintro e w3 ⟨⟨v3, h3, ⟨xa, xn, xc, rfl⟩, rfl⟩, b3⟩
    have x4 : w3.cell? ⟨w.heap.size, 0, none⟩ = some (.slice (some ⟨b, o, none⟩) U.length cap) := (b3.cell (cell_lt y4)).trans y4
    have x4f : w3.frozen? ⟨w.heap.size, 0, none⟩ = false := (b3.frozen (p := ⟨w.heap.size, 0, none⟩) (cell_lt y4)).trans y4f
    obtain ⟨B3, D3⟩ := HD2.out.doc hU' h3 b3
    have HD : Hid (∃ A B, DoS n0 w.heap.size w1.heap.size ⟨1, a, b2, sp, s, aa, .slice ava aa.length avc⟩ (.slice va1 aa.length vc1) w0 A B (w3.setCell ⟨w.heap.size, 0, none⟩ (.slice xa xn xc)) pb (.slice xa xn xc) T' U') := hide ⟨A2, B3, D3⟩
    clear D3 h3 b3 y4 y4f y50 y51 y52 y53 y54 y55 y6 y6f HD2 HDC HR1 HD1 HIA
    go_wp2_with fail
    generalize w3.setCell ⟨w.heap.size, 0, none⟩ (.slice xa xn xc) = W4 at *
    generalize w1.heap.size = m at *
    clear x4 x4f
    go_loopw [13] (fun vi wr => ∃ i : Nat, vi = .int .i64 (i : Int) ∧ i ≤ aa.length ∧ Hid (∃ A B, DoS n0 w.heap.size m ⟨1, a, b2, sp, s, aa, .slice ava aa.length avc⟩ (.slice va1 aa.length vc1) w0 A B wr pb (.slice xa xn xc) T' U')) (fun vi _ => aa.length - (intOf vi).toNat)
    case atStart => exact ⟨0, rfl, by omega, HD⟩
    case round =>
      clear HD
      obtain ⟨i, rfl, hii, HD⟩ := hrel
      obtain ⟨A5, B5, D5⟩ := HD.out
      by_cases hlt : i < aa.length
      · have hlt2 : (i : Int) < aa.length := by omega
        obtain ⟨xs, hx⟩ := D5.row
        rcases hx.2 with ⟨_, h0⟩ | ⟨g, cc, cur, hv, _⟩
        · have h00 : aa.length = 0 := h0
          omega
        injection hv with e1 _ e3
        subst e1 e3
        have hcl : ∃ u, wr.cell? ⟨g, i * 2 + 1, none⟩ = some u := by
          have hl2 : xs.length = aa.length * 2 := hx.1
          exact ⟨xs[i * 2 + 1]'(by omega), by rw [hx.cellAt (i * 2 + 1) (by show i * 2 + 1 < aa.length * 2; omega), List.getElem?_eq_getElem (by omega)]⟩
        obtain ⟨u, hcu⟩ := hcl
        have hfu := hx.frozenAt (i * 2 + 1)
        have HDN : Hid (∃ A B, DoS n0 w.heap.size m ⟨1, a, b2, sp, s, aa, .slice ava aa.length avc⟩ (.slice (some ⟨g, 0, none⟩) aa.length vc1) w0 A B (wr.setCell ⟨g, i * 2 + 1, none⟩ (.string ⟨#[115, 112, 111, 105, 108, 116]⟩)) pb (.slice xa xn xc) T' U') := hide ⟨A5, B5, D5.spoil rfl _ _⟩
        clear hx HD D5
        go_wp2
        go_roundw
        case rel => exact ⟨i + 1, by go_num, by omega, HDN⟩
        case measure => simp [intOf]; omega
      · have hlt2 : ¬ (i : Int) < aa.length := by omega
        obtain ⟨y4, y4f, _, _, _, _, _, _, y6, y6f⟩ := dos_q D5
        have HBOTH := hide D5.done
        clear HD D5
        go_wp2
        refine bodyPost_ret (v := .tuple #[.agg #[.slice xa xn xc], .bool false]) ?_ rfl ⟨_, rfl, HBOTH.out, ⟨_, _, _, rfl⟩⟩
        rw [results_cell_tmp rfl]
        go_simp
set_option maxRecDepth 10000 in
set_option maxHeartbeats 8000000 in
theorem do_k2 {n0 : Nat} {w0 w : World} {pb : Nat} {rv : Value} {T U : TR} (hn0 : n0 = w0.heap.size) (a b2 sp : Int) (s : ByteArray) (aa : AttrL) (av : Value) (F : Fit T U ⟨2, a, b2, sp, s, aa, av⟩) (hV : IsV w0 av aa) (h : Both n0 w0 w pb rv T U) :
    Calls Try.prog 12 #[.pointer (some ⟨pb, 0, none⟩), .agg #[rv], .agg #[.int .i64 2, .int .i64 a, .int .i64 b2, .int .i64 sp, .string s, av]] w fun e w' => ∃ rv', e = .returned (.tuple #[.agg #[rv'], .bool ((makeL T { kind := 2, text := s.data.toList }).2 == (makeL U { kind := 2, text := s.data.toList }).2)]) ∧ Both n0 w0 w' pb rv' (makeL T { kind := 2, text := s.data.toList }).1 (makeL U { kind := 2, text := s.data.toList }).1 ∧ ∃ a m c, rv' = .slice a m c := by
  obtain ⟨b, o, cap, hrv⟩ : ∃ b o cap, rv = .slice (some ⟨b, o, none⟩) U.length cap := by
    obtain ⟨_, _, _, h2, _, _⟩ := h.ex
    obtain ⟨b, o, cap, _, e, _⟩ := h2
    exact ⟨b, o, cap, e⟩
  subst hrv
  obtain ⟨ava, avc, rfl⟩ := isV_form hV
  obtain ⟨v1, w1, hr1, hIA, ⟨va1, vc1, rfl⟩, A, B, D⟩ := dos_start h hn0 ⟨2, a, b2, sp, s, aa, .slice ava aa.length avc⟩ hV F.xa
  have HIA := hide hIA
  have hxa : aa.length ≤ 6 := F.xa
  have HR1 : Hid ((Builtin.append_ #[31, 31] 31 #[.slice (some ⟨w.heap.size + 1 + 1 + 1, 0, none⟩) 0 0, .slice ava aa.length avc]).run Try.prog ((((w.alloc (.cells #[.slice (some ⟨b, o, none⟩) U.length cap] 27)).alloc (.cells #[.int .i64 2, .int .i64 a, .int .i64 b2, .int .i64 sp, .string s, .slice ava aa.length avc] 33)).alloc (.cells #[.slice none 0 0] 27)).alloc (.cells #[] 80)) = .ok (.slice va1 aa.length vc1) w1) := hide hr1
  have HD1 := hide D
  clear hIA hr1 hV h hn0
  have HPROG := hide (text_p F.wt F.t0 F.tl (fun k hk => (D.hA k hk).2.1) s (by have := F.xs; simp only at this; omega) D.pt)
  have HDOC := hide (fun A B W (D : DoS n0 w.heap.size w1.heap.size ⟨2, a, b2, sp, s, aa, .slice ava aa.length avc⟩ (.slice va1 aa.length vc1) w0 A B W pb (.slice (some ⟨b, o, none⟩) U.length cap) (makeL T { kind := 2, text := s.data.toList }).1 U) => make_any (.slice (some ⟨b, o, none⟩) U.length cap) U { kind := 2, text := s.data.toList } (.slice none 0 0) (.slice none 0 0) ⟨_, _, _, rfl⟩ (by have := F.ul; omega) (by simp) B W (fun k hk => (D.hB k hk).2.1) D.tb (.inl (.inl ⟨rfl, rfl⟩)))
  have hU' : 0 < (makeL U { kind := 2, text := s.data.toList }).1.length := Nat.lt_of_lt_of_le F.u0 ((makeL_len _ _).1)
  obtain ⟨y4, y4f, y50, y51, y52, y53, y54, y55, y6, y6f⟩ := dos_q D
  clear D F
  simp only [str_id] at HDOC
  unfold Made at HPROG
  generalize hM : makeL U { kind := 2, text := s.data.toList } = RM at *
  generalize hN : makeL T { kind := 2, text := s.data.toList } = RN at *
  obtain ⟨U', M⟩ := RM
  obtain ⟨T', N⟩ := RN
  simp only at hU'
  by_cases hNM : N = M
  · subst hNM
    have hbb : (N == N) = true := beq_self_eq_true N
    simp only [hbb]
    go_enter Try.func12, Try.ntmps12
    go_wp2_with (first | with_reducible refine wpList_append_run rfl _ _ 31 rfl (.slice (some ⟨w.heap.size + 1 + 1 + 1, 0, none⟩) 0 0) (.slice ava aa.length avc) _ w1 rfl rfl HR1.out ?_ | fail)
    refine HPROG.out.mono ?_
    rintro e w2 ⟨rfl, h2, h3⟩
    obtain ⟨A2, D2⟩ := HD1.out.prog h2 h3
    clear h2 h3 y4 y4f y50 y51 y52 y53 y54 y55 y6 y6f
    obtain ⟨y4, y4f, y50, y51, y52, y53, y54, y55, y6, y6f⟩ := dos_q D2
    have HD2 := hide D2
    have HDC := hide (HDOC.out A2 B w2 D2)
    clear D2 HDOC
    go_wp2_with fail
    refine HDC.out.mono ?_
    rintro e w3 ⟨⟨v3, h3, ⟨xa, xn, xc, rfl⟩, rfl⟩, b3⟩
    have x4 : w3.cell? ⟨w.heap.size, 0, none⟩ = some (.slice (some ⟨b, o, none⟩) U.length cap) := (b3.cell (cell_lt y4)).trans y4
    have x4f : w3.frozen? ⟨w.heap.size, 0, none⟩ = false := (b3.frozen (p := ⟨w.heap.size, 0, none⟩) (cell_lt y4)).trans y4f
    obtain ⟨B3, D3⟩ := HD2.out.doc hU' h3 b3
    have HD : Hid (∃ A B, DoS n0 w.heap.size w1.heap.size ⟨2, a, b2, sp, s, aa, .slice ava aa.length avc⟩ (.slice va1 aa.length vc1) w0 A B (w3.setCell ⟨w.heap.size, 0, none⟩ (.slice xa xn xc)) pb (.slice xa xn xc) T' U') := hide ⟨A2, B3, D3⟩
    clear D3 h3 b3 y4 y4f y50 y51 y52 y53 y54 y55 y6 y6f HD2 HDC HR1 HD1 HIA
    go_wp2_with fail
    generalize w3.setCell ⟨w.heap.size, 0, none⟩ (.slice xa xn xc) = W4 at *
    generalize w1.heap.size = m at *
    clear x4 x4f
    go_loopw [13] (fun vi wr => ∃ i : Nat, vi = .int .i64 (i : Int) ∧ i ≤ aa.length ∧ Hid (∃ A B, DoS n0 w.heap.size m ⟨2, a, b2, sp, s, aa, .slice ava aa.length avc⟩ (.slice va1 aa.length vc1) w0 A B wr pb (.slice xa xn xc) T' U')) (fun vi _ => aa.length - (intOf vi).toNat)
    case atStart => exact ⟨0, rfl, by omega, HD⟩
    case round =>
      clear HD
      obtain ⟨i, rfl, hii, HD⟩ := hrel
      obtain ⟨A5, B5, D5⟩ := HD.out
      by_cases hlt : i < aa.length
      · have hlt2 : (i : Int) < aa.length := by omega
        obtain ⟨xs, hx⟩ := D5.row
        rcases hx.2 with ⟨_, h0⟩ | ⟨g, cc, cur, hv, _⟩
        · have h00 : aa.length = 0 := h0
          omega
        injection hv with e1 _ e3
        subst e1 e3
        have hcl : ∃ u, wr.cell? ⟨g, i * 2 + 1, none⟩ = some u := by
          have hl2 : xs.length = aa.length * 2 := hx.1
          exact ⟨xs[i * 2 + 1]'(by omega), by rw [hx.cellAt (i * 2 + 1) (by show i * 2 + 1 < aa.length * 2; omega), List.getElem?_eq_getElem (by omega)]⟩
        obtain ⟨u, hcu⟩ := hcl
        have hfu := hx.frozenAt (i * 2 + 1)
        have HDN : Hid (∃ A B, DoS n0 w.heap.size m ⟨2, a, b2, sp, s, aa, .slice ava aa.length avc⟩ (.slice (some ⟨g, 0, none⟩) aa.length vc1) w0 A B (wr.setCell ⟨g, i * 2 + 1, none⟩ (.string ⟨#[115, 112, 111, 105, 108, 116]⟩)) pb (.slice xa xn xc) T' U') := hide ⟨A5, B5, D5.spoil rfl _ _⟩
        clear hx HD D5
        go_wp2
        go_roundw
        case rel => exact ⟨i + 1, by go_num, by omega, HDN⟩
        case measure => simp [intOf]; omega
      · have hlt2 : ¬ (i : Int) < aa.length := by omega
        obtain ⟨y4, y4f, _, _, _, _, _, _, y6, y6f⟩ := dos_q D5
        have HBOTH := hide D5.done
        clear HD D5
        go_wp2
        refine bodyPost_ret (v := .tuple #[.agg #[.slice xa xn xc], .bool true]) ?_ rfl ⟨_, rfl, HBOTH.out, ⟨_, _, _, rfl⟩⟩
        rw [results_cell_tmp rfl]
        go_simp
  · have hbb : (N == M) = false := beq_eq_false_iff_ne.2 hNM
    simp only [hbb]
    go_enter Try.func12, Try.ntmps12
    go_wp2_with (first | with_reducible refine wpList_append_run rfl _ _ 31 rfl (.slice (some ⟨w.heap.size + 1 + 1 + 1, 0, none⟩) 0 0) (.slice ava aa.length avc) _ w1 rfl rfl HR1.out ?_ | fail)
    refine HPROG.out.mono ?_
    rintro e w2 ⟨rfl, h2, h3⟩
    obtain ⟨A2, D2⟩ := HD1.out.prog h2 h3
    clear h2 h3 y4 y4f y50 y51 y52 y53 y54 y55 y6 y6f
    obtain ⟨y4, y4f, y50, y51, y52, y53, y54, y55, y6, y6f⟩ := dos_q D2
    have HD2 := hide D2
    have HDC := hide (HDOC.out A2 B w2 D2)
    clear D2 HDOC
    go_wp2_with fail
    refine HDC.out.mono ?_
    rintro e w3 ⟨⟨v3, h3, ⟨xa, xn, xc, rfl⟩, rfl⟩, b3⟩
    have x4 : w3.cell? ⟨w.heap.size, 0, none⟩ = some (.slice (some ⟨b, o, none⟩) U.length cap) := (b3.cell (cell_lt y4)).trans y4
    have x4f : w3.frozen? ⟨w.heap.size, 0, none⟩ = false := (b3.frozen (p := ⟨w.heap.size, 0, none⟩) (cell_lt y4)).trans y4f
    obtain ⟨B3, D3⟩ := HD2.out.doc hU' h3 b3
    have HD : Hid (∃ A B, DoS n0 w.heap.size w1.heap.size ⟨2, a, b2, sp, s, aa, .slice ava aa.length avc⟩ (.slice va1 aa.length vc1) w0 A B (w3.setCell ⟨w.heap.size, 0, none⟩ (.slice xa xn xc)) pb (.slice xa xn xc) T' U') := hide ⟨A2, B3, D3⟩
    clear D3 h3 b3 y4 y4f y50 y51 y52 y53 y54 y55 y6 y6f HD2 HDC HR1 HD1 HIA
    go_wp2_with fail
    generalize w3.setCell ⟨w.heap.size, 0, none⟩ (.slice xa xn xc) = W4 at *
    generalize w1.heap.size = m at *
    clear x4 x4f
    go_loopw [13] (fun vi wr => ∃ i : Nat, vi = .int .i64 (i : Int) ∧ i ≤ aa.length ∧ Hid (∃ A B, DoS n0 w.heap.size m ⟨2, a, b2, sp, s, aa, .slice ava aa.length avc⟩ (.slice va1 aa.length vc1) w0 A B wr pb (.slice xa xn xc) T' U')) (fun vi _ => aa.length - (intOf vi).toNat)
    case atStart => exact ⟨0, rfl, by omega, HD⟩
    case round =>
      clear HD
      obtain ⟨i, rfl, hii, HD⟩ := hrel
      obtain ⟨A5, B5, D5⟩ := HD.out
      by_cases hlt : i < aa.length
      · have hlt2 : (i : Int) < aa.length := by omega
        obtain ⟨xs, hx⟩ := D5.row
        rcases hx.2 with ⟨_, h0⟩ | ⟨g, cc, cur, hv, _⟩
        · have h00 : aa.length = 0 := h0
          omega
        injection hv with e1 _ e3
        subst e1 e3
        have hcl : ∃ u, wr.cell? ⟨g, i * 2 + 1, none⟩ = some u := by
          have hl2 : xs.length = aa.length * 2 := hx.1
          exact ⟨xs[i * 2 + 1]'(by omega), by rw [hx.cellAt (i * 2 + 1) (by show i * 2 + 1 < aa.length * 2; omega), List.getElem?_eq_getElem (by omega)]⟩
        obtain ⟨u, hcu⟩ := hcl
        have hfu := hx.frozenAt (i * 2 + 1)
        have HDN : Hid (∃ A B, DoS n0 w.heap.size m ⟨2, a, b2, sp, s, aa, .slice ava aa.length avc⟩ (.slice (some ⟨g, 0, none⟩) aa.length vc1) w0 A B (wr.setCell ⟨g, i * 2 + 1, none⟩ (.string ⟨#[115, 112, 111, 105, 108, 116]⟩)) pb (.slice xa xn xc) T' U') := hide ⟨A5, B5, D5.spoil rfl _ _⟩
        clear hx HD D5
        go_wp2
        go_roundw
        case rel => exact ⟨i + 1, by go_num, by omega, HDN⟩
        case measure => simp [intOf]; omega
      · have hlt2 : ¬ (i : Int) < aa.length := by omega
        obtain ⟨y4, y4f, _, _, _, _, _, _, y6, y6f⟩ := dos_q D5
        have HBOTH := hide D5.done
        clear HD D5
        go_wp2
        refine bodyPost_ret (v := .tuple #[.agg #[.slice xa xn xc], .bool false]) ?_ rfl ⟨_, rfl, HBOTH.out, ⟨_, _, _, rfl⟩⟩
        rw [results_cell_tmp rfl]
        go_simp
set_option maxRecDepth 10000 in
set_option maxHeartbeats 8000000 in
theorem do_k3 {n0 : Nat} {w0 w : World} {pb : Nat} {rv : Value} {T U : TR} (hn0 : n0 = w0.heap.size) (a b2 sp : Int) (s : ByteArray) (aa : AttrL) (av : Value) (F : Fit T U ⟨3, a, b2, sp, s, aa, av⟩) (hV : IsV w0 av aa) (h : Both n0 w0 w pb rv T U) :
    Calls Try.prog 12 #[.pointer (some ⟨pb, 0, none⟩), .agg #[rv], .agg #[.int .i64 3, .int .i64 a, .int .i64 b2, .int .i64 sp, .string s, av]] w fun e w' => ∃ rv', e = .returned (.tuple #[.agg #[rv'], .bool ((makeL T { kind := 3, text := s.data.toList }).2 == (makeL U { kind := 3, text := s.data.toList }).2)]) ∧ Both n0 w0 w' pb rv' (makeL T { kind := 3, text := s.data.toList }).1 (makeL U { kind := 3, text := s.data.toList }).1 ∧ ∃ a m c, rv' = .slice a m c := by
  obtain ⟨b, o, cap, hrv⟩ : ∃ b o cap, rv = .slice (some ⟨b, o, none⟩) U.length cap := by
    obtain ⟨_, _, _, h2, _, _⟩ := h.ex
    obtain ⟨b, o, cap, _, e, _⟩ := h2
    exact ⟨b, o, cap, e⟩
  subst hrv
  obtain ⟨ava, avc, rfl⟩ := isV_form hV
  obtain ⟨v1, w1, hr1, hIA, ⟨va1, vc1, rfl⟩, A, B, D⟩ := dos_start h hn0 ⟨3, a, b2, sp, s, aa, .slice ava aa.length avc⟩ hV F.xa
  have HIA := hide hIA
  have hxa : aa.length ≤ 6 := F.xa
  have HR1 : Hid ((Builtin.append_ #[31, 31] 31 #[.slice (some ⟨w.heap.size + 1 + 1 + 1, 0, none⟩) 0 0, .slice ava aa.length avc]).run Try.prog ((((w.alloc (.cells #[.slice (some ⟨b, o, none⟩) U.length cap] 27)).alloc (.cells #[.int .i64 3, .int .i64 a, .int .i64 b2, .int .i64 sp, .string s, .slice ava aa.length avc] 33)).alloc (.cells #[.slice none 0 0] 27)).alloc (.cells #[] 80)) = .ok (.slice va1 aa.length vc1) w1) := hide hr1
  have HD1 := hide D
  clear hIA hr1 hV h hn0
  have HPROG := hide (comment_p F.wt F.t0 F.tl (fun k hk => (D.hA k hk).2.1) s (by have := F.xs; simp only at this; omega) D.pt)
  have HDOC := hide (fun A B W (D : DoS n0 w.heap.size w1.heap.size ⟨3, a, b2, sp, s, aa, .slice ava aa.length avc⟩ (.slice va1 aa.length vc1) w0 A B W pb (.slice (some ⟨b, o, none⟩) U.length cap) (makeL T { kind := 3, text := s.data.toList }).1 U) => make_any (.slice (some ⟨b, o, none⟩) U.length cap) U { kind := 3, text := s.data.toList } (.slice none 0 0) (.slice none 0 0) ⟨_, _, _, rfl⟩ (by have := F.ul; omega) (by simp) B W (fun k hk => (D.hB k hk).2.1) D.tb (.inl (.inl ⟨rfl, rfl⟩)))
  have hU' : 0 < (makeL U { kind := 3, text := s.data.toList }).1.length := Nat.lt_of_lt_of_le F.u0 ((makeL_len _ _).1)
  obtain ⟨y4, y4f, y50, y51, y52, y53, y54, y55, y6, y6f⟩ := dos_q D
  clear D F
  simp only [str_id] at HDOC
  unfold Made at HPROG
  generalize hM : makeL U { kind := 3, text := s.data.toList } = RM at *
  generalize hN : makeL T { kind := 3, text := s.data.toList } = RN at *
  obtain ⟨U', M⟩ := RM
  obtain ⟨T', N⟩ := RN
  simp only at hU'
  by_cases hNM : N = M
  · subst hNM
    have hbb : (N == N) = true := beq_self_eq_true N
    simp only [hbb]
    go_enter Try.func12, Try.ntmps12
    go_wp2_with (first | with_reducible refine wpList_append_run rfl _ _ 31 rfl (.slice (some ⟨w.heap.size + 1 + 1 + 1, 0, none⟩) 0 0) (.slice ava aa.length avc) _ w1 rfl rfl HR1.out ?_ | fail)
    refine HPROG.out.mono ?_
    rintro e w2 ⟨rfl, h2, h3⟩
    obtain ⟨A2, D2⟩ := HD1.out.prog h2 h3
    clear h2 h3 y4 y4f y50 y51 y52 y53 y54 y55 y6 y6f
    obtain ⟨y4, y4f, y50, y51, y52, y53, y54, y55, y6, y6f⟩ := dos_q D2
    have HD2 := hide D2
    have HDC := hide (HDOC.out A2 B w2 D2)
    clear D2 HDOC
    go_wp2_with fail
    refine HDC.out.mono ?_
    rintro e w3 ⟨⟨v3, h3, ⟨xa, xn, xc, rfl⟩, rfl⟩, b3⟩
    have x4 : w3.cell? ⟨w.heap.size, 0, none⟩ = some (.slice (some ⟨b, o, none⟩) U.length cap) := (b3.cell (cell_lt y4)).trans y4
    have x4f : w3.frozen? ⟨w.heap.size, 0, none⟩ = false := (b3.frozen (p := ⟨w.heap.size, 0, none⟩) (cell_lt y4)).trans y4f
    obtain ⟨B3, D3⟩ := HD2.out.doc hU' h3 b3
    have HD : Hid (∃ A B, DoS n0 w.heap.size w1.heap.size ⟨3, a, b2, sp, s, aa, .slice ava aa.length avc⟩ (.slice va1 aa.length vc1) w0 A B (w3.setCell ⟨w.heap.size, 0, none⟩ (.slice xa xn xc)) pb (.slice xa xn xc) T' U') := hide ⟨A2, B3, D3⟩
    clear D3 h3 b3 y4 y4f y50 y51 y52 y53 y54 y55 y6 y6f HD2 HDC HR1 HD1 HIA
    go_wp2_with fail
    generalize w3.setCell ⟨w.heap.size, 0, none⟩ (.slice xa xn xc) = W4 at *
    generalize w1.heap.size = m at *
    clear x4 x4f
    go_loopw [13] (fun vi wr => ∃ i : Nat, vi = .int .i64 (i : Int) ∧ i ≤ aa.length ∧ Hid (∃ A B, DoS n0 w.heap.size m ⟨3, a, b2, sp, s, aa, .slice ava aa.length avc⟩ (.slice va1 aa.length vc1) w0 A B wr pb (.slice xa xn xc) T' U')) (fun vi _ => aa.length - (intOf vi).toNat)
    case atStart => exact ⟨0, rfl, by omega, HD⟩
    case round =>
      clear HD
      obtain ⟨i, rfl, hii, HD⟩ := hrel
      obtain ⟨A5, B5, D5⟩ := HD.out
      by_cases hlt : i < aa.length
      · have hlt2 : (i : Int) < aa.length := by omega
        obtain ⟨xs, hx⟩ := D5.row
        rcases hx.2 with ⟨_, h0⟩ | ⟨g, cc, cur, hv, _⟩
        · have h00 : aa.length = 0 := h0
          omega
        injection hv with e1 _ e3
        subst e1 e3
        have hcl : ∃ u, wr.cell? ⟨g, i * 2 + 1, none⟩ = some u := by
          have hl2 : xs.length = aa.length * 2 := hx.1
          exact ⟨xs[i * 2 + 1]'(by omega), by rw [hx.cellAt (i * 2 + 1) (by show i * 2 + 1 < aa.length * 2; omega), List.getElem?_eq_getElem (by omega)]⟩
        obtain ⟨u, hcu⟩ := hcl
        have hfu := hx.frozenAt (i * 2 + 1)
        have HDN : Hid (∃ A B, DoS n0 w.heap.size m ⟨3, a, b2, sp, s, aa, .slice ava aa.length avc⟩ (.slice (some ⟨g, 0, none⟩) aa.length vc1) w0 A B (wr.setCell ⟨g, i * 2 + 1, none⟩ (.string ⟨#[115, 112, 111, 105, 108, 116]⟩)) pb (.slice xa xn xc) T' U') := hide ⟨A5, B5, D5.spoil rfl _ _⟩
        clear hx HD D5
        go_wp2
        go_roundw
        case rel => exact ⟨i + 1, by go_num, by omega, HDN⟩
        case measure => simp [intOf]; omega
      · have hlt2 : ¬ (i : Int) < aa.length := by omega
        obtain ⟨y4, y4f, _, _, _, _, _, _, y6, y6f⟩ := dos_q D5
        have HBOTH := hide D5.done
        clear HD D5
        go_wp2
        refine bodyPost_ret (v := .tuple #[.agg #[.slice xa xn xc], .bool true]) ?_ rfl ⟨_, rfl, HBOTH.out, ⟨_, _, _, rfl⟩⟩
        rw [results_cell_tmp rfl]
        go_simp
  · have hbb : (N == M) = false := beq_eq_false_iff_ne.2 hNM
    simp only [hbb]
    go_enter Try.func12, Try.ntmps12
    go_wp2_with (first | with_reducible refine wpList_append_run rfl _ _ 31 rfl (.slice (some ⟨w.heap.size + 1 + 1 + 1, 0, none⟩) 0 0) (.slice ava aa.length avc) _ w1 rfl rfl HR1.out ?_ | fail)
    refine HPROG.out.mono ?_
    rintro e w2 ⟨rfl, h2, h3⟩
    obtain ⟨A2, D2⟩ := HD1.out.prog h2 h3
    clear h2 h3 y4 y4f y50 y51 y52 y53 y54 y55 y6 y6f
    obtain ⟨y4, y4f, y50, y51, y52, y53, y54, y55, y6, y6f⟩ := dos_q D2
    have HD2 := hide D2
    have HDC := hide (HDOC.out A2 B w2 D2)
    clear D2 HDOC
    go_wp2_with fail
    refine HDC.out.mono ?_
    rintro e w3 ⟨⟨v3, h3, ⟨xa, xn, xc, rfl⟩, rfl⟩, b3⟩
    have x4 : w3.cell? ⟨w.heap.size, 0, none⟩ = some (.slice (some ⟨b, o, none⟩) U.length cap) := (b3.cell (cell_lt y4)).trans y4
    have x4f : w3.frozen? ⟨w.heap.size, 0, none⟩ = false := (b3.frozen (p := ⟨w.heap.size, 0, none⟩) (cell_lt y4)).trans y4f
    obtain ⟨B3, D3⟩ := HD2.out.doc hU' h3 b3
    have HD : Hid (∃ A B, DoS n0 w.heap.size w1.heap.size ⟨3, a, b2, sp, s, aa, .slice ava aa.length avc⟩ (.slice va1 aa.length vc1) w0 A B (w3.setCell ⟨w.heap.size, 0, none⟩ (.slice xa xn xc)) pb (.slice xa xn xc) T' U') := hide ⟨A2, B3, D3⟩
    clear D3 h3 b3 y4 y4f y50 y51 y52 y53 y54 y55 y6 y6f HD2 HDC HR1 HD1 HIA
    go_wp2_with fail
    generalize w3.setCell ⟨w.heap.size, 0, none⟩ (.slice xa xn xc) = W4 at *
    generalize w1.heap.size = m at *
    clear x4 x4f
    go_loopw [13] (fun vi wr => ∃ i : Nat, vi = .int .i64 (i : Int) ∧ i ≤ aa.length ∧ Hid (∃ A B, DoS n0 w.heap.size m ⟨3, a, b2, sp, s, aa, .slice ava aa.length avc⟩ (.slice va1 aa.length vc1) w0 A B wr pb (.slice xa xn xc) T' U')) (fun vi _ => aa.length - (intOf vi).toNat)
    case atStart => exact ⟨0, rfl, by omega, HD⟩
    case round =>
      clear HD
      obtain ⟨i, rfl, hii, HD⟩ := hrel
      obtain ⟨A5, B5, D5⟩ := HD.out
      by_cases hlt : i < aa.length
      · have hlt2 : (i : Int) < aa.length := by omega
        obtain ⟨xs, hx⟩ := D5.row
        rcases hx.2 with ⟨_, h0⟩ | ⟨g, cc, cur, hv, _⟩
        · have h00 : aa.length = 0 := h0
          omega
        injection hv with e1 _ e3
        subst e1 e3
        have hcl : ∃ u, wr.cell? ⟨g, i * 2 + 1, none⟩ = some u := by
          have hl2 : xs.length = aa.length * 2 := hx.1
          exact ⟨xs[i * 2 + 1]'(by omega), by rw [hx.cellAt (i * 2 + 1) (by show i * 2 + 1 < aa.length * 2; omega), List.getElem?_eq_getElem (by omega)]⟩
        obtain ⟨u, hcu⟩ := hcl
        have hfu := hx.frozenAt (i * 2 + 1)
        have HDN : Hid (∃ A B, DoS n0 w.heap.size m ⟨3, a, b2, sp, s, aa, .slice ava aa.length avc⟩ (.slice (some ⟨g, 0, none⟩) aa.length vc1) w0 A B (wr.setCell ⟨g, i * 2 + 1, none⟩ (.string ⟨#[115, 112, 111, 105, 108, 116]⟩)) pb (.slice xa xn xc) T' U') := hide ⟨A5, B5, D5.spoil rfl _ _⟩
        clear hx HD D5
        go_wp2
        go_roundw
        case rel => exact ⟨i + 1, by go_num, by omega, HDN⟩
        case measure => simp [intOf]; omega
      · have hlt2 : ¬ (i : Int) < aa.length := by omega
        obtain ⟨y4, y4f, _, _, _, _, _, _, y6, y6f⟩ := dos_q D5
        have HBOTH := hide D5.done
        clear HD D5
        go_wp2
        refine bodyPost_ret (v := .tuple #[.agg #[.slice xa xn xc], .bool false]) ?_ rfl ⟨_, rfl, HBOTH.out, ⟨_, _, _, rfl⟩⟩
        rw [results_cell_tmp rfl]
        go_simp
set_option maxRecDepth 10000 in
set_option maxHeartbeats 8000000 in
theorem do_k4 {n0 : Nat} {w0 w : World} {pb : Nat} {rv : Value} {T U : TR} (hn0 : n0 = w0.heap.size) (a b2 sp : Int) (s : ByteArray) (aa : AttrL) (av : Value) (F : Fit T U ⟨4, a, b2, sp, s, aa, av⟩) (hV : IsV w0 av aa) (h : Both n0 w0 w pb rv T U) :
    Calls Try.prog 12 #[.pointer (some ⟨pb, 0, none⟩), .agg #[rv], .agg #[.int .i64 4, .int .i64 a, .int .i64 b2, .int .i64 sp, .string s, av]] w fun e w' => ∃ rv', e = .returned (.tuple #[.agg #[rv'], .bool ((copyL T a).2 == (copyD U a).2)]) ∧ Both n0 w0 w' pb rv' (copyL T a).1 (copyD U a).1 ∧ ∃ a m c, rv' = .slice a m c := by
  obtain ⟨b, o, cap, hrv⟩ : ∃ b o cap, rv = .slice (some ⟨b, o, none⟩) U.length cap := by
    obtain ⟨_, _, _, h2, _, _⟩ := h.ex
    obtain ⟨b, o, cap, _, e, _⟩ := h2
    exact ⟨b, o, cap, e⟩
  subst hrv
  obtain ⟨ava, avc, rfl⟩ := isV_form hV
  obtain ⟨v1, w1, hr1, hIA, ⟨va1, vc1, rfl⟩, A, B, D⟩ := dos_start h hn0 ⟨4, a, b2, sp, s, aa, .slice ava aa.length avc⟩ hV F.xa
  have HIA := hide hIA
  have hxa : aa.length ≤ 6 := F.xa
  have HR1 : Hid ((Builtin.append_ #[31, 31] 31 #[.slice (some ⟨w.heap.size + 1 + 1 + 1, 0, none⟩) 0 0, .slice ava aa.length avc]).run Try.prog ((((w.alloc (.cells #[.slice (some ⟨b, o, none⟩) U.length cap] 27)).alloc (.cells #[.int .i64 4, .int .i64 a, .int .i64 b2, .int .i64 sp, .string s, .slice ava aa.length avc] 33)).alloc (.cells #[.slice none 0 0] 27)).alloc (.cells #[] 80)) = .ok (.slice va1 aa.length vc1) w1) := hide hr1
  have HD1 := hide D
  clear hIA hr1 hV h hn0
  have HPROG := hide (copy_p F.wt F.t0 F.tl (fun k hk => (D.hA k hk).2.1) a (fun i => (F.ta i).1) D.pt)
  have HDOC := hide (fun A B W (D : DoS n0 w.heap.size w1.heap.size ⟨4, a, b2, sp, s, aa, .slice ava aa.length avc⟩ (.slice va1 aa.length vc1) w0 A B W pb (.slice (some ⟨b, o, none⟩) U.length cap) (copyL T a).1 U) => copy_any (.slice (some ⟨b, o, none⟩) U.length cap) U a (by have := F.ul; omega) (fun i => (F.ua i).1) B W (fun k hk => (D.hB k hk).2.1) D.tb)
  have hU' : 0 < (copyD U a).1.length := Nat.lt_of_lt_of_le F.u0 ((copyD_len _ _))
  obtain ⟨y4, y4f, y50, y51, y52, y53, y54, y55, y6, y6f⟩ := dos_q D
  clear D F
  generalize hM : copyD U a = RM at *
  generalize hN : copyL T a = RN at *
  obtain ⟨U', M⟩ := RM
  obtain ⟨T', N⟩ := RN
  simp only at hU'
  by_cases hNM : N = M
  · subst hNM
    have hbb : (N == N) = true := beq_self_eq_true N
    simp only [hbb]
    go_enter Try.func12, Try.ntmps12
    go_wp2_with (first | with_reducible refine wpList_append_run rfl _ _ 31 rfl (.slice (some ⟨w.heap.size + 1 + 1 + 1, 0, none⟩) 0 0) (.slice ava aa.length avc) _ w1 rfl rfl HR1.out ?_ | fail)
    refine HPROG.out.mono ?_
    rintro e w2 ⟨rfl, h2, h3⟩
    obtain ⟨A2, D2⟩ := HD1.out.prog h2 h3
    clear h2 h3 y4 y4f y50 y51 y52 y53 y54 y55 y6 y6f
    obtain ⟨y4, y4f, y50, y51, y52, y53, y54, y55, y6, y6f⟩ := dos_q D2
    have HD2 := hide D2
    have HDC := hide (HDOC.out A2 B w2 D2)
    clear D2 HDOC
    go_wp2_with fail
    refine HDC.out.mono ?_
    rintro e w3 ⟨⟨v3, h3, ⟨xa, xn, xc, rfl⟩, rfl⟩, b3⟩
    have x4 : w3.cell? ⟨w.heap.size, 0, none⟩ = some (.slice (some ⟨b, o, none⟩) U.length cap) := (b3.cell (cell_lt y4)).trans y4
    have x4f : w3.frozen? ⟨w.heap.size, 0, none⟩ = false := (b3.frozen (p := ⟨w.heap.size, 0, none⟩) (cell_lt y4)).trans y4f
    obtain ⟨B3, D3⟩ := HD2.out.doc hU' h3 b3
    have HD : Hid (∃ A B, DoS n0 w.heap.size w1.heap.size ⟨4, a, b2, sp, s, aa, .slice ava aa.length avc⟩ (.slice va1 aa.length vc1) w0 A B (w3.setCell ⟨w.heap.size, 0, none⟩ (.slice xa xn xc)) pb (.slice xa xn xc) T' U') := hide ⟨A2, B3, D3⟩
    clear D3 h3 b3 y4 y4f y50 y51 y52 y53 y54 y55 y6 y6f HD2 HDC HR1 HD1 HIA
    go_wp2_with fail
    generalize w3.setCell ⟨w.heap.size, 0, none⟩ (.slice xa xn xc) = W4 at *
    generalize w1.heap.size = m at *
    clear x4 x4f
    go_loopw [13] (fun vi wr => ∃ i : Nat, vi = .int .i64 (i : Int) ∧ i ≤ aa.length ∧ Hid (∃ A B, DoS n0 w.heap.size m ⟨4, a, b2, sp, s, aa, .slice ava aa.length avc⟩ (.slice va1 aa.length vc1) w0 A B wr pb (.slice xa xn xc) T' U')) (fun vi _ => aa.length - (intOf vi).toNat)
    case atStart => exact ⟨0, rfl, by omega, HD⟩
    case round =>
      clear HD
      obtain ⟨i, rfl, hii, HD⟩ := hrel
      obtain ⟨A5, B5, D5⟩ := HD.out
      by_cases hlt : i < aa.length
      · have hlt2 : (i : Int) < aa.length := by omega
        obtain ⟨xs, hx⟩ := D5.row
        rcases hx.2 with ⟨_, h0⟩ | ⟨g, cc, cur, hv, _⟩
        · have h00 : aa.length = 0 := h0
          omega
        injection hv with e1 _ e3
        subst e1 e3
        have hcl : ∃ u, wr.cell? ⟨g, i * 2 + 1, none⟩ = some u := by
          have hl2 : xs.length = aa.length * 2 := hx.1
          exact ⟨xs[i * 2 + 1]'(by omega), by rw [hx.cellAt (i * 2 + 1) (by show i * 2 + 1 < aa.length * 2; omega), List.getElem?_eq_getElem (by omega)]⟩
        obtain ⟨u, hcu⟩ := hcl
        have hfu := hx.frozenAt (i * 2 + 1)
        have HDN : Hid (∃ A B, DoS n0 w.heap.size m ⟨4, a, b2, sp, s, aa, .slice ava aa.length avc⟩ (.slice (some ⟨g, 0, none⟩) aa.length vc1) w0 A B (wr.setCell ⟨g, i * 2 + 1, none⟩ (.string ⟨#[115, 112, 111, 105, 108, 116]⟩)) pb (.slice xa xn xc) T' U') := hide ⟨A5, B5, D5.spoil rfl _ _⟩
        clear hx HD D5
        go_wp2
        go_roundw
        case rel => exact ⟨i + 1, by go_num, by omega, HDN⟩
        case measure => simp [intOf]; omega
      · have hlt2 : ¬ (i : Int) < aa.length := by omega
        obtain ⟨y4, y4f, _, _, _, _, _, _, y6, y6f⟩ := dos_q D5
        have HBOTH := hide D5.done
        clear HD D5
        go_wp2
        refine bodyPost_ret (v := .tuple #[.agg #[.slice xa xn xc], .bool true]) ?_ rfl ⟨_, rfl, HBOTH.out, ⟨_, _, _, rfl⟩⟩
        rw [results_cell_tmp rfl]
        go_simp
  · have hbb : (N == M) = false := beq_eq_false_iff_ne.2 hNM
    simp only [hbb]
    go_enter Try.func12, Try.ntmps12
    go_wp2_with (first | with_reducible refine wpList_append_run rfl _ _ 31 rfl (.slice (some ⟨w.heap.size + 1 + 1 + 1, 0, none⟩) 0 0) (.slice ava aa.length avc) _ w1 rfl rfl HR1.out ?_ | fail)
    refine HPROG.out.mono ?_
    rintro e w2 ⟨rfl, h2, h3⟩
    obtain ⟨A2, D2⟩ := HD1.out.prog h2 h3
    clear h2 h3 y4 y4f y50 y51 y52 y53 y54 y55 y6 y6f
    obtain ⟨y4, y4f, y50, y51, y52, y53, y54, y55, y6, y6f⟩ := dos_q D2
    have HD2 := hide D2
    have HDC := hide (HDOC.out A2 B w2 D2)
    clear D2 HDOC
    go_wp2_with fail
    refine HDC.out.mono ?_
    rintro e w3 ⟨⟨v3, h3, ⟨xa, xn, xc, rfl⟩, rfl⟩, b3⟩
    have x4 : w3.cell? ⟨w.heap.size, 0, none⟩ = some (.slice (some ⟨b, o, none⟩) U.length cap) := (b3.cell (cell_lt y4)).trans y4
    have x4f : w3.frozen? ⟨w.heap.size, 0, none⟩ = false := (b3.frozen (p := ⟨w.heap.size, 0, none⟩) (cell_lt y4)).trans y4f
    obtain ⟨B3, D3⟩ := HD2.out.doc hU' h3 b3
    have HD : Hid (∃ A B, DoS n0 w.heap.size w1.heap.size ⟨4, a, b2, sp, s, aa, .slice ava aa.length avc⟩ (.slice va1 aa.length vc1) w0 A B (w3.setCell ⟨w.heap.size, 0, none⟩ (.slice xa xn xc)) pb (.slice xa xn xc) T' U') := hide ⟨A2, B3, D3⟩
    clear D3 h3 b3 y4 y4f y50 y51 y52 y53 y54 y55 y6 y6f HD2 HDC HR1 HD1 HIA
    go_wp2_with fail
    generalize w3.setCell ⟨w.heap.size, 0, none⟩ (.slice xa xn xc) = W4 at *
    generalize w1.heap.size = m at *
    clear x4 x4f
    go_loopw [13] (fun vi wr => ∃ i : Nat, vi = .int .i64 (i : Int) ∧ i ≤ aa.length ∧ Hid (∃ A B, DoS n0 w.heap.size m ⟨4, a, b2, sp, s, aa, .slice ava aa.length avc⟩ (.slice va1 aa.length vc1) w0 A B wr pb (.slice xa xn xc) T' U')) (fun vi _ => aa.length - (intOf vi).toNat)
    case atStart => exact ⟨0, rfl, by omega, HD⟩
    case round =>
      clear HD
      obtain ⟨i, rfl, hii, HD⟩ := hrel
      obtain ⟨A5, B5, D5⟩ := HD.out
      by_cases hlt : i < aa.length
      · have hlt2 : (i : Int) < aa.length := by omega
        obtain ⟨xs, hx⟩ := D5.row
        rcases hx.2 with ⟨_, h0⟩ | ⟨g, cc, cur, hv, _⟩
        · have h00 : aa.length = 0 := h0
          omega
        injection hv with e1 _ e3
        subst e1 e3
        have hcl : ∃ u, wr.cell? ⟨g, i * 2 + 1, none⟩ = some u := by
          have hl2 : xs.length = aa.length * 2 := hx.1
          exact ⟨xs[i * 2 + 1]'(by omega), by rw [hx.cellAt (i * 2 + 1) (by show i * 2 + 1 < aa.length * 2; omega), List.getElem?_eq_getElem (by omega)]⟩
        obtain ⟨u, hcu⟩ := hcl
        have hfu := hx.frozenAt (i * 2 + 1)
        have HDN : Hid (∃ A B, DoS n0 w.heap.size m ⟨4, a, b2, sp, s, aa, .slice ava aa.length avc⟩ (.slice (some ⟨g, 0, none⟩) aa.length vc1) w0 A B (wr.setCell ⟨g, i * 2 + 1, none⟩ (.string ⟨#[115, 112, 111, 105, 108, 116]⟩)) pb (.slice xa xn xc) T' U') := hide ⟨A5, B5, D5.spoil rfl _ _⟩
        clear hx HD D5
        go_wp2
        go_roundw
        case rel => exact ⟨i + 1, by go_num, by omega, HDN⟩
        case measure => simp [intOf]; omega
      · have hlt2 : ¬ (i : Int) < aa.length := by omega
        obtain ⟨y4, y4f, _, _, _, _, _, _, y6, y6f⟩ := dos_q D5
        have HBOTH := hide D5.done
        clear HD D5
        go_wp2
        refine bodyPost_ret (v := .tuple #[.agg #[.slice xa xn xc], .bool false]) ?_ rfl ⟨_, rfl, HBOTH.out, ⟨_, _, _, rfl⟩⟩
        rw [results_cell_tmp rfl]
        go_simp
set_option maxRecDepth 10000 in
set_option maxHeartbeats 8000000 in
theorem do_k5 {n0 : Nat} {w0 w : World} {pb : Nat} {rv : Value} {T U : TR} (hn0 : n0 = w0.heap.size) (a b2 sp : Int) (s : ByteArray) (aa : AttrL) (av : Value) (F : Fit T U ⟨5, a, b2, sp, s, aa, av⟩) (hV : IsV w0 av aa) (h : Both n0 w0 w pb rv T U) :
    Calls Try.prog 12 #[.pointer (some ⟨pb, 0, none⟩), .agg #[rv], .agg #[.int .i64 5, .int .i64 a, .int .i64 b2, .int .i64 sp, .string s, av]] w fun e w' => ∃ rv', e = .returned (.tuple #[.agg #[rv'], .bool ((addZ T a s.data.toList).2 == (addZ U a s.data.toList).2)]) ∧ Both n0 w0 w' pb rv' (addZ T a s.data.toList).1 (addZ U a s.data.toList).1 ∧ ∃ a m c, rv' = .slice a m c := by
  obtain ⟨b, o, cap, hrv⟩ : ∃ b o cap, rv = .slice (some ⟨b, o, none⟩) U.length cap := by
    obtain ⟨_, _, _, h2, _, _⟩ := h.ex
    obtain ⟨b, o, cap, _, e, _⟩ := h2
    exact ⟨b, o, cap, e⟩
  subst hrv
  obtain ⟨ava, avc, rfl⟩ := isV_form hV
  obtain ⟨v1, w1, hr1, hIA, ⟨va1, vc1, rfl⟩, A, B, D⟩ := dos_start h hn0 ⟨5, a, b2, sp, s, aa, .slice ava aa.length avc⟩ hV F.xa
  have HIA := hide hIA
  have hxa : aa.length ≤ 6 := F.xa
  have HR1 : Hid ((Builtin.append_ #[31, 31] 31 #[.slice (some ⟨w.heap.size + 1 + 1 + 1, 0, none⟩) 0 0, .slice ava aa.length avc]).run Try.prog ((((w.alloc (.cells #[.slice (some ⟨b, o, none⟩) U.length cap] 27)).alloc (.cells #[.int .i64 5, .int .i64 a, .int .i64 b2, .int .i64 sp, .string s, .slice ava aa.length avc] 33)).alloc (.cells #[.slice none 0 0] 27)).alloc (.cells #[] 80)) = .ok (.slice va1 aa.length vc1) w1) := hide hr1
  have HD1 := hide D
  clear hIA hr1 hV h hn0
  have HPROG := hide (add_p F.wt (by have := F.tl; omega) a s (by have := F.xs; simp only at this; omega) (fun i => (F.ta i).2) D.pt)
  have HDOC := hide (fun A B W (D : DoS n0 w.heap.size w1.heap.size ⟨5, a, b2, sp, s, aa, .slice ava aa.length avc⟩ (.slice va1 aa.length vc1) w0 A B W pb (.slice (some ⟨b, o, none⟩) U.length cap) (addZ T a s.data.toList).1 U) => add_any (.slice (some ⟨b, o, none⟩) U.length cap) U a s (by have := F.xs; simp only at this; omega) (fun i => (F.ua i).2) (by have := F.ul; omega) B W (fun k hk => (D.hB k hk).2.1) D.tb)
  have hU' : 0 < (addZ U a s.data.toList).1.length := Nat.lt_of_lt_of_le F.u0 (Nat.le_of_eq (addZ_len _ _ _).symm)
  obtain ⟨y4, y4f, y50, y51, y52, y53, y54, y55, y6, y6f⟩ := dos_q D
  clear D F
  unfold Acted at HPROG
  generalize hM : addZ U a s.data.toList = RM at *
  generalize hN : addZ T a s.data.toList = RN at *
  obtain ⟨U', M⟩ := RM
  obtain ⟨T', N⟩ := RN
  simp only at hU'
  go_enter Try.func12, Try.ntmps12
  go_wp2_with (first | with_reducible refine wpList_append_run rfl _ _ 31 rfl (.slice (some ⟨w.heap.size + 1 + 1 + 1, 0, none⟩) 0 0) (.slice ava aa.length avc) _ w1 rfl rfl HR1.out ?_ | fail)
  refine HPROG.out.mono ?_
  rintro e w2 ⟨rfl, h2, h3⟩
  obtain ⟨A2, D2⟩ := HD1.out.prog h2 h3
  clear h2 h3 y4 y4f y50 y51 y52 y53 y54 y55 y6 y6f
  obtain ⟨y4, y4f, y50, y51, y52, y53, y54, y55, y6, y6f⟩ := dos_q D2
  have HD2 := hide D2
  have HDC := hide (HDOC.out A2 B w2 D2)
  clear D2 HDOC
  go_wp2_with fail
  refine HDC.out.mono ?_
  rintro e w3 ⟨⟨v3, h3, ⟨xa, xn, xc, rfl⟩, rfl⟩, b3⟩
  have x4 : w3.cell? ⟨w.heap.size, 0, none⟩ = some (.slice (some ⟨b, o, none⟩) U.length cap) := (b3.cell (cell_lt y4)).trans y4
  have x4f : w3.frozen? ⟨w.heap.size, 0, none⟩ = false := (b3.frozen (p := ⟨w.heap.size, 0, none⟩) (cell_lt y4)).trans y4f
  obtain ⟨B3, D3⟩ := HD2.out.doc hU' h3 b3
  have HD : Hid (∃ A B, DoS n0 w.heap.size w1.heap.size ⟨5, a, b2, sp, s, aa, .slice ava aa.length avc⟩ (.slice va1 aa.length vc1) w0 A B (w3.setCell ⟨w.heap.size, 0, none⟩ (.slice xa xn xc)) pb (.slice xa xn xc) T' U') := hide ⟨A2, B3, D3⟩
  clear D3 h3 b3 y4 y4f y50 y51 y52 y53 y54 y55 y6 y6f HD2 HDC HR1 HD1 HIA
  go_wp2_with fail
  generalize w3.setCell ⟨w.heap.size, 0, none⟩ (.slice xa xn xc) = W4 at *
  generalize w1.heap.size = m at *
  clear x4 x4f
  go_loopw [13] (fun vi wr => ∃ i : Nat, vi = .int .i64 (i : Int) ∧ i ≤ aa.length ∧ Hid (∃ A B, DoS n0 w.heap.size m ⟨5, a, b2, sp, s, aa, .slice ava aa.length avc⟩ (.slice va1 aa.length vc1) w0 A B wr pb (.slice xa xn xc) T' U')) (fun vi _ => aa.length - (intOf vi).toNat)
  case atStart => exact ⟨0, rfl, by omega, HD⟩
  case round =>
    clear HD
    obtain ⟨i, rfl, hii, HD⟩ := hrel
    obtain ⟨A5, B5, D5⟩ := HD.out
    by_cases hlt : i < aa.length
    · have hlt2 : (i : Int) < aa.length := by omega
      obtain ⟨xs, hx⟩ := D5.row
      rcases hx.2 with ⟨_, h0⟩ | ⟨g, cc, cur, hv, _⟩
      · have h00 : aa.length = 0 := h0
        omega
      injection hv with e1 _ e3
      subst e1 e3
      have hcl : ∃ u, wr.cell? ⟨g, i * 2 + 1, none⟩ = some u := by
        have hl2 : xs.length = aa.length * 2 := hx.1
        exact ⟨xs[i * 2 + 1]'(by omega), by rw [hx.cellAt (i * 2 + 1) (by show i * 2 + 1 < aa.length * 2; omega), List.getElem?_eq_getElem (by omega)]⟩
      obtain ⟨u, hcu⟩ := hcl
      have hfu := hx.frozenAt (i * 2 + 1)
      have HDN : Hid (∃ A B, DoS n0 w.heap.size m ⟨5, a, b2, sp, s, aa, .slice ava aa.length avc⟩ (.slice (some ⟨g, 0, none⟩) aa.length vc1) w0 A B (wr.setCell ⟨g, i * 2 + 1, none⟩ (.string ⟨#[115, 112, 111, 105, 108, 116]⟩)) pb (.slice xa xn xc) T' U') := hide ⟨A5, B5, D5.spoil rfl _ _⟩
      clear hx HD D5
      go_wp2
      go_roundw
      case rel => exact ⟨i + 1, by go_num, by omega, HDN⟩
      case measure => simp [intOf]; omega
    · have hlt2 : ¬ (i : Int) < aa.length := by omega
      obtain ⟨y4, y4f, _, _, _, _, _, _, y6, y6f⟩ := dos_q D5
      have HBOTH := hide D5.done
      clear HD D5
      go_wp2
      refine bodyPost_ret (v := .tuple #[.agg #[.slice xa xn xc], .bool (N == M)]) ?_ rfl ⟨_, rfl, HBOTH.out, ⟨_, _, _, rfl⟩⟩
      rw [results_cell_tmp rfl]
      go_simp
set_option maxRecDepth 10000 in
set_option maxHeartbeats 8000000 in
theorem do_k6 {n0 : Nat} {w0 w : World} {pb : Nat} {rv : Value} {T U : TR} (hn0 : n0 = w0.heap.size) (a b2 sp : Int) (s : ByteArray) (aa : AttrL) (av : Value) (F : Fit T U ⟨6, a, b2, sp, s, aa, av⟩) (hV : IsV w0 av aa) (h : Both n0 w0 w pb rv T U) :
    Calls Try.prog 12 #[.pointer (some ⟨pb, 0, none⟩), .agg #[rv], .agg #[.int .i64 6, .int .i64 a, .int .i64 b2, .int .i64 sp, .string s, av]] w fun e w' => ∃ rv', e = .returned (.tuple #[.agg #[rv'], .bool ((appendZ T a b2).2 == (appendZ U a b2).2)]) ∧ Both n0 w0 w' pb rv' (appendZ T a b2).1 (appendZ U a b2).1 ∧ ∃ a m c, rv' = .slice a m c := by
  obtain ⟨b, o, cap, hrv⟩ : ∃ b o cap, rv = .slice (some ⟨b, o, none⟩) U.length cap := by
    obtain ⟨_, _, _, h2, _, _⟩ := h.ex
    obtain ⟨b, o, cap, _, e, _⟩ := h2
    exact ⟨b, o, cap, e⟩
  subst hrv
  obtain ⟨ava, avc, rfl⟩ := isV_form hV
  obtain ⟨v1, w1, hr1, hIA, ⟨va1, vc1, rfl⟩, A, B, D⟩ := dos_start h hn0 ⟨6, a, b2, sp, s, aa, .slice ava aa.length avc⟩ hV F.xa
  have HIA := hide hIA
  have hxa : aa.length ≤ 6 := F.xa
  have HR1 : Hid ((Builtin.append_ #[31, 31] 31 #[.slice (some ⟨w.heap.size + 1 + 1 + 1, 0, none⟩) 0 0, .slice ava aa.length avc]).run Try.prog ((((w.alloc (.cells #[.slice (some ⟨b, o, none⟩) U.length cap] 27)).alloc (.cells #[.int .i64 6, .int .i64 a, .int .i64 b2, .int .i64 sp, .string s, .slice ava aa.length avc] 33)).alloc (.cells #[.slice none 0 0] 27)).alloc (.cells #[] 80)) = .ok (.slice va1 aa.length vc1) w1) := hide hr1
  have HD1 := hide D
  clear hIA hr1 hV h hn0
  have HPROG := hide (append_p F.wt (by have := F.tl; omega) a b2 D.pt)
  have HDOC := hide (fun A B W (D : DoS n0 w.heap.size w1.heap.size ⟨6, a, b2, sp, s, aa, .slice ava aa.length avc⟩ (.slice va1 aa.length vc1) w0 A B W pb (.slice (some ⟨b, o, none⟩) U.length cap) (appendZ T a b2).1 U) => append_any (.slice (some ⟨b, o, none⟩) U.length cap) U a b2 (by have := F.ul; omega) (fun i h => by rw [← kidsAt_get h]; have := F.wu.kids_len i; have := F.ul; omega) (fun i => by have := F.wu.kids_len i; have := F.ul; omega) F.wu B W (fun k hk => (D.hB k hk).2.1) D.tb)
  have hU' : 0 < (appendZ U a b2).1.length := Nat.lt_of_lt_of_le F.u0 (Nat.le_of_eq (appendZ_len _ _ _).symm)
  obtain ⟨y4, y4f, y50, y51, y52, y53, y54, y55, y6, y6f⟩ := dos_q D
  clear D F
  unfold Acted at HPROG
  generalize hM : appendZ U a b2 = RM at *
  generalize hN : appendZ T a b2 = RN at *
  obtain ⟨U', M⟩ := RM
  obtain ⟨T', N⟩ := RN
  simp only at hU'
  go_enter Try.func12, Try.ntmps12
  go_wp2_with (first | with_reducible refine wpList_append_run rfl _ _ 31 rfl (.slice (some ⟨w.heap.size + 1 + 1 + 1, 0, none⟩) 0 0) (.slice ava aa.length avc) _ w1 rfl rfl HR1.out ?_ | fail)
  refine HPROG.out.mono ?_
  rintro e w2 ⟨rfl, h2, h3⟩
  obtain ⟨A2, D2⟩ := HD1.out.prog h2 h3
  clear h2 h3 y4 y4f y50 y51 y52 y53 y54 y55 y6 y6f
  obtain ⟨y4, y4f, y50, y51, y52, y53, y54, y55, y6, y6f⟩ := dos_q D2
  have HD2 := hide D2
  have HDC := hide (HDOC.out A2 B w2 D2)
  clear D2 HDOC
  go_wp2_with fail
  refine HDC.out.mono ?_
  rintro e w3 ⟨⟨v3, h3, ⟨xa, xn, xc, rfl⟩, rfl⟩, b3⟩
  have x4 : w3.cell? ⟨w.heap.size, 0, none⟩ = some (.slice (some ⟨b, o, none⟩) U.length cap) := (b3.cell (cell_lt y4)).trans y4
  have x4f : w3.frozen? ⟨w.heap.size, 0, none⟩ = false := (b3.frozen (p := ⟨w.heap.size, 0, none⟩) (cell_lt y4)).trans y4f
  obtain ⟨B3, D3⟩ := HD2.out.doc hU' h3 b3
  have HD : Hid (∃ A B, DoS n0 w.heap.size w1.heap.size ⟨6, a, b2, sp, s, aa, .slice ava aa.length avc⟩ (.slice va1 aa.length vc1) w0 A B (w3.setCell ⟨w.heap.size, 0, none⟩ (.slice xa xn xc)) pb (.slice xa xn xc) T' U') := hide ⟨A2, B3, D3⟩
  clear D3 h3 b3 y4 y4f y50 y51 y52 y53 y54 y55 y6 y6f HD2 HDC HR1 HD1 HIA
  go_wp2_with fail
  generalize w3.setCell ⟨w.heap.size, 0, none⟩ (.slice xa xn xc) = W4 at *
  generalize w1.heap.size = m at *
  clear x4 x4f
  go_loopw [13] (fun vi wr => ∃ i : Nat, vi = .int .i64 (i : Int) ∧ i ≤ aa.length ∧ Hid (∃ A B, DoS n0 w.heap.size m ⟨6, a, b2, sp, s, aa, .slice ava aa.length avc⟩ (.slice va1 aa.length vc1) w0 A B wr pb (.slice xa xn xc) T' U')) (fun vi _ => aa.length - (intOf vi).toNat)
  case atStart => exact ⟨0, rfl, by omega, HD⟩
  case round =>
    clear HD
    obtain ⟨i, rfl, hii, HD⟩ := hrel
    obtain ⟨A5, B5, D5⟩ := HD.out
    by_cases hlt : i < aa.length
    · have hlt2 : (i : Int) < aa.length := by omega
      obtain ⟨xs, hx⟩ := D5.row
      rcases hx.2 with ⟨_, h0⟩ | ⟨g, cc, cur, hv, _⟩
      · have h00 : aa.length = 0 := h0
        omega
      injection hv with e1 _ e3
      subst e1 e3
      have hcl : ∃ u, wr.cell? ⟨g, i * 2 + 1, none⟩ = some u := by
        have hl2 : xs.length = aa.length * 2 := hx.1
        exact ⟨xs[i * 2 + 1]'(by omega), by rw [hx.cellAt (i * 2 + 1) (by show i * 2 + 1 < aa.length * 2; omega), List.getElem?_eq_getElem (by omega)]⟩
      obtain ⟨u, hcu⟩ := hcl
      have hfu := hx.frozenAt (i * 2 + 1)
      have HDN : Hid (∃ A B, DoS n0 w.heap.size m ⟨6, a, b2, sp, s, aa, .slice ava aa.length avc⟩ (.slice (some ⟨g, 0, none⟩) aa.length vc1) w0 A B (wr.setCell ⟨g, i * 2 + 1, none⟩ (.string ⟨#[115, 112, 111, 105, 108, 116]⟩)) pb (.slice xa xn xc) T' U') := hide ⟨A5, B5, D5.spoil rfl _ _⟩
      clear hx HD D5
      go_wp2
      go_roundw
      case rel => exact ⟨i + 1, by go_num, by omega, HDN⟩
      case measure => simp [intOf]; omega
    · have hlt2 : ¬ (i : Int) < aa.length := by omega
      obtain ⟨y4, y4f, _, _, _, _, _, _, y6, y6f⟩ := dos_q D5
      have HBOTH := hide D5.done
      clear HD D5
      go_wp2
      refine bodyPost_ret (v := .tuple #[.agg #[.slice xa xn xc], .bool (N == M)]) ?_ rfl ⟨_, rfl, HBOTH.out, ⟨_, _, _, rfl⟩⟩
      rw [results_cell_tmp rfl]
      go_simp
set_option maxRecDepth 10000 in
set_option maxHeartbeats 8000000 in
theorem do_k7 {n0 : Nat} {w0 w : World} {pb : Nat} {rv : Value} {T U : TR} (hn0 : n0 = w0.heap.size) (a b2 sp : Int) (s : ByteArray) (aa : AttrL) (av : Value) (F : Fit T U ⟨7, a, b2, sp, s, aa, av⟩) (hV : IsV w0 av aa) (h : Both n0 w0 w pb rv T U) :
    Calls Try.prog 12 #[.pointer (some ⟨pb, 0, none⟩), .agg #[rv], .agg #[.int .i64 7, .int .i64 a, .int .i64 b2, .int .i64 sp, .string s, av]] w fun e w' => ∃ rv', e = .returned (.tuple #[.agg #[rv'], .bool ((beforeZ T a b2).2 == (beforeZ U a b2).2)]) ∧ Both n0 w0 w' pb rv' (beforeZ T a b2).1 (beforeZ U a b2).1 ∧ ∃ a m c, rv' = .slice a m c := by
  obtain ⟨b, o, cap, hrv⟩ : ∃ b o cap, rv = .slice (some ⟨b, o, none⟩) U.length cap := by
    obtain ⟨_, _, _, h2, _, _⟩ := h.ex
    obtain ⟨b, o, cap, _, e, _⟩ := h2
    exact ⟨b, o, cap, e⟩
  subst hrv
  obtain ⟨ava, avc, rfl⟩ := isV_form hV
  obtain ⟨v1, w1, hr1, hIA, ⟨va1, vc1, rfl⟩, A, B, D⟩ := dos_start h hn0 ⟨7, a, b2, sp, s, aa, .slice ava aa.length avc⟩ hV F.xa
  have HIA := hide hIA
  have hxa : aa.length ≤ 6 := F.xa
  have HR1 : Hid ((Builtin.append_ #[31, 31] 31 #[.slice (some ⟨w.heap.size + 1 + 1 + 1, 0, none⟩) 0 0, .slice ava aa.length avc]).run Try.prog ((((w.alloc (.cells #[.slice (some ⟨b, o, none⟩) U.length cap] 27)).alloc (.cells #[.int .i64 7, .int .i64 a, .int .i64 b2, .int .i64 sp, .string s, .slice ava aa.length avc] 33)).alloc (.cells #[.slice none 0 0] 27)).alloc (.cells #[] 80)) = .ok (.slice va1 aa.length vc1) w1) := hide hr1
  have HD1 := hide D
  clear hIA hr1 hV h hn0
  have HPROG := hide (before_p F.wt (by have := F.tl; omega) a b2 D.pt)
  have HDOC := hide (fun A B W (D : DoS n0 w.heap.size w1.heap.size ⟨7, a, b2, sp, s, aa, .slice ava aa.length avc⟩ (.slice va1 aa.length vc1) w0 A B W pb (.slice (some ⟨b, o, none⟩) U.length cap) (beforeZ T a b2).1 U) => before_any (.slice (some ⟨b, o, none⟩) U.length cap) U a b2 (by have := F.ul; omega) F.wu B W (fun k hk => (D.hB k hk).2.1) D.tb)
  have hU' : 0 < (beforeZ U a b2).1.length := Nat.lt_of_lt_of_le F.u0 (Nat.le_of_eq (beforeZ_len _ _ _).symm)
  obtain ⟨y4, y4f, y50, y51, y52, y53, y54, y55, y6, y6f⟩ := dos_q D
  clear D F
  unfold Acted at HPROG
  generalize hM : beforeZ U a b2 = RM at *
  generalize hN : beforeZ T a b2 = RN at *
  obtain ⟨U', M⟩ := RM
  obtain ⟨T', N⟩ := RN
  simp only at hU'
  go_enter Try.func12, Try.ntmps12
  go_wp2_with (first | with_reducible refine wpList_append_run rfl _ _ 31 rfl (.slice (some ⟨w.heap.size + 1 + 1 + 1, 0, none⟩) 0 0) (.slice ava aa.length avc) _ w1 rfl rfl HR1.out ?_ | fail)
  refine HPROG.out.mono ?_
  rintro e w2 ⟨rfl, h2, h3⟩
  obtain ⟨A2, D2⟩ := HD1.out.prog h2 h3
  clear h2 h3 y4 y4f y50 y51 y52 y53 y54 y55 y6 y6f
  obtain ⟨y4, y4f, y50, y51, y52, y53, y54, y55, y6, y6f⟩ := dos_q D2
  have HD2 := hide D2
  have HDC := hide (HDOC.out A2 B w2 D2)
  clear D2 HDOC
  go_wp2_with fail
  refine HDC.out.mono ?_
  rintro e w3 ⟨⟨v3, h3, ⟨xa, xn, xc, rfl⟩, rfl⟩, b3⟩
  have x4 : w3.cell? ⟨w.heap.size, 0, none⟩ = some (.slice (some ⟨b, o, none⟩) U.length cap) := (b3.cell (cell_lt y4)).trans y4
  have x4f : w3.frozen? ⟨w.heap.size, 0, none⟩ = false := (b3.frozen (p := ⟨w.heap.size, 0, none⟩) (cell_lt y4)).trans y4f
  obtain ⟨B3, D3⟩ := HD2.out.doc hU' h3 b3
  have HD : Hid (∃ A B, DoS n0 w.heap.size w1.heap.size ⟨7, a, b2, sp, s, aa, .slice ava aa.length avc⟩ (.slice va1 aa.length vc1) w0 A B (w3.setCell ⟨w.heap.size, 0, none⟩ (.slice xa xn xc)) pb (.slice xa xn xc) T' U') := hide ⟨A2, B3, D3⟩
  clear D3 h3 b3 y4 y4f y50 y51 y52 y53 y54 y55 y6 y6f HD2 HDC HR1 HD1 HIA
  go_wp2_with fail
  generalize w3.setCell ⟨w.heap.size, 0, none⟩ (.slice xa xn xc) = W4 at *
  generalize w1.heap.size = m at *
  clear x4 x4f
  go_loopw [13] (fun vi wr => ∃ i : Nat, vi = .int .i64 (i : Int) ∧ i ≤ aa.length ∧ Hid (∃ A B, DoS n0 w.heap.size m ⟨7, a, b2, sp, s, aa, .slice ava aa.length avc⟩ (.slice va1 aa.length vc1) w0 A B wr pb (.slice xa xn xc) T' U')) (fun vi _ => aa.length - (intOf vi).toNat)
  case atStart => exact ⟨0, rfl, by omega, HD⟩
  case round =>
    clear HD
    obtain ⟨i, rfl, hii, HD⟩ := hrel
    obtain ⟨A5, B5, D5⟩ := HD.out
    by_cases hlt : i < aa.length
    · have hlt2 : (i : Int) < aa.length := by omega
      obtain ⟨xs, hx⟩ := D5.row
      rcases hx.2 with ⟨_, h0⟩ | ⟨g, cc, cur, hv, _⟩
      · have h00 : aa.length = 0 := h0
        omega
      injection hv with e1 _ e3
      subst e1 e3
      have hcl : ∃ u, wr.cell? ⟨g, i * 2 + 1, none⟩ = some u := by
        have hl2 : xs.length = aa.length * 2 := hx.1
        exact ⟨xs[i * 2 + 1]'(by omega), by rw [hx.cellAt (i * 2 + 1) (by show i * 2 + 1 < aa.length * 2; omega), List.getElem?_eq_getElem (by omega)]⟩
      obtain ⟨u, hcu⟩ := hcl
      have hfu := hx.frozenAt (i * 2 + 1)
      have HDN : Hid (∃ A B, DoS n0 w.heap.size m ⟨7, a, b2, sp, s, aa, .slice ava aa.length avc⟩ (.slice (some ⟨g, 0, none⟩) aa.length vc1) w0 A B (wr.setCell ⟨g, i * 2 + 1, none⟩ (.string ⟨#[115, 112, 111, 105, 108, 116]⟩)) pb (.slice xa xn xc) T' U') := hide ⟨A5, B5, D5.spoil rfl _ _⟩
      clear hx HD D5
      go_wp2
      go_roundw
      case rel => exact ⟨i + 1, by go_num, by omega, HDN⟩
      case measure => simp [intOf]; omega
    · have hlt2 : ¬ (i : Int) < aa.length := by omega
      obtain ⟨y4, y4f, _, _, _, _, _, _, y6, y6f⟩ := dos_q D5
      have HBOTH := hide D5.done
      clear HD D5
      go_wp2
      refine bodyPost_ret (v := .tuple #[.agg #[.slice xa xn xc], .bool (N == M)]) ?_ rfl ⟨_, rfl, HBOTH.out, ⟨_, _, _, rfl⟩⟩
      rw [results_cell_tmp rfl]
      go_simp
set_option maxRecDepth 10000 in
set_option maxHeartbeats 8000000 in
theorem do_k8 {n0 : Nat} {w0 w : World} {pb : Nat} {rv : Value} {T U : TR} (hn0 : n0 = w0.heap.size) (a b2 sp : Int) (s : ByteArray) (aa : AttrL) (av : Value) (F : Fit T U ⟨8, a, b2, sp, s, aa, av⟩) (hV : IsV w0 av aa) (h : Both n0 w0 w pb rv T U) :
    Calls Try.prog 12 #[.pointer (some ⟨pb, 0, none⟩), .agg #[rv], .agg #[.int .i64 8, .int .i64 a, .int .i64 b2, .int .i64 sp, .string s, av]] w fun e w' => ∃ rv', e = .returned (.tuple #[.agg #[rv'], .bool ((removeZ T a).2 == (removeZ U a).2)]) ∧ Both n0 w0 w' pb rv' (removeZ T a).1 (removeZ U a).1 ∧ ∃ a m c, rv' = .slice a m c := by
  obtain ⟨b, o, cap, hrv⟩ : ∃ b o cap, rv = .slice (some ⟨b, o, none⟩) U.length cap := by
    obtain ⟨_, _, _, h2, _, _⟩ := h.ex
    obtain ⟨b, o, cap, _, e, _⟩ := h2
    exact ⟨b, o, cap, e⟩
  subst hrv
  obtain ⟨ava, avc, rfl⟩ := isV_form hV
  obtain ⟨v1, w1, hr1, hIA, ⟨va1, vc1, rfl⟩, A, B, D⟩ := dos_start h hn0 ⟨8, a, b2, sp, s, aa, .slice ava aa.length avc⟩ hV F.xa
  have HIA := hide hIA
  have hxa : aa.length ≤ 6 := F.xa
  have HR1 : Hid ((Builtin.append_ #[31, 31] 31 #[.slice (some ⟨w.heap.size + 1 + 1 + 1, 0, none⟩) 0 0, .slice ava aa.length avc]).run Try.prog ((((w.alloc (.cells #[.slice (some ⟨b, o, none⟩) U.length cap] 27)).alloc (.cells #[.int .i64 8, .int .i64 a, .int .i64 b2, .int .i64 sp, .string s, .slice ava aa.length avc] 33)).alloc (.cells #[.slice none 0 0] 27)).alloc (.cells #[] 80)) = .ok (.slice va1 aa.length vc1) w1) := hide hr1
  have HD1 := hide D
  clear hIA hr1 hV h hn0
  have HPROG := hide (remove_p F.wt (by have := F.tl; omega) a D.pt)
  have HDOC := hide (fun A B W (D : DoS n0 w.heap.size w1.heap.size ⟨8, a, b2, sp, s, aa, .slice ava aa.length avc⟩ (.slice va1 aa.length vc1) w0 A B W pb (.slice (some ⟨b, o, none⟩) U.length cap) (removeZ T a).1 U) => remove_any (.slice (some ⟨b, o, none⟩) U.length cap) U a (by have := F.ul; omega) (fun i h => by rw [← kidsAt_get h]; have := F.wu.kids_len i; have := F.ul; omega) B W (fun k hk => (D.hB k hk).2.1) D.tb)
  have hU' : 0 < (removeZ U a).1.length := Nat.lt_of_lt_of_le F.u0 (Nat.le_of_eq (removeZ_len _ _).symm)
  obtain ⟨y4, y4f, y50, y51, y52, y53, y54, y55, y6, y6f⟩ := dos_q D
  clear D F
  unfold Acted at HPROG
  generalize hM : removeZ U a = RM at *
  generalize hN : removeZ T a = RN at *
  obtain ⟨U', M⟩ := RM
  obtain ⟨T', N⟩ := RN
  simp only at hU'
  go_enter Try.func12, Try.ntmps12
  go_wp2_with (first | with_reducible refine wpList_append_run rfl _ _ 31 rfl (.slice (some ⟨w.heap.size + 1 + 1 + 1, 0, none⟩) 0 0) (.slice ava aa.length avc) _ w1 rfl rfl HR1.out ?_ | fail)
  refine HPROG.out.mono ?_
  rintro e w2 ⟨rfl, h2, h3⟩
  obtain ⟨A2, D2⟩ := HD1.out.prog h2 h3
  clear h2 h3 y4 y4f y50 y51 y52 y53 y54 y55 y6 y6f
  obtain ⟨y4, y4f, y50, y51, y52, y53, y54, y55, y6, y6f⟩ := dos_q D2
  have HD2 := hide D2
  have HDC := hide (HDOC.out A2 B w2 D2)
  clear D2 HDOC
  go_wp2_with fail
  refine HDC.out.mono ?_
  rintro e w3 ⟨⟨v3, h3, ⟨xa, xn, xc, rfl⟩, rfl⟩, b3⟩
  have x4 : w3.cell? ⟨w.heap.size, 0, none⟩ = some (.slice (some ⟨b, o, none⟩) U.length cap) := (b3.cell (cell_lt y4)).trans y4
  have x4f : w3.frozen? ⟨w.heap.size, 0, none⟩ = false := (b3.frozen (p := ⟨w.heap.size, 0, none⟩) (cell_lt y4)).trans y4f
  obtain ⟨B3, D3⟩ := HD2.out.doc hU' h3 b3
  have HD : Hid (∃ A B, DoS n0 w.heap.size w1.heap.size ⟨8, a, b2, sp, s, aa, .slice ava aa.length avc⟩ (.slice va1 aa.length vc1) w0 A B (w3.setCell ⟨w.heap.size, 0, none⟩ (.slice xa xn xc)) pb (.slice xa xn xc) T' U') := hide ⟨A2, B3, D3⟩
  clear D3 h3 b3 y4 y4f y50 y51 y52 y53 y54 y55 y6 y6f HD2 HDC HR1 HD1 HIA
  go_wp2_with fail
  generalize w3.setCell ⟨w.heap.size, 0, none⟩ (.slice xa xn xc) = W4 at *
  generalize w1.heap.size = m at *
  clear x4 x4f
  go_loopw [13] (fun vi wr => ∃ i : Nat, vi = .int .i64 (i : Int) ∧ i ≤ aa.length ∧ Hid (∃ A B, DoS n0 w.heap.size m ⟨8, a, b2, sp, s, aa, .slice ava aa.length avc⟩ (.slice va1 aa.length vc1) w0 A B wr pb (.slice xa xn xc) T' U')) (fun vi _ => aa.length - (intOf vi).toNat)
  case atStart => exact ⟨0, rfl, by omega, HD⟩
  case round =>
    clear HD
    obtain ⟨i, rfl, hii, HD⟩ := hrel
    obtain ⟨A5, B5, D5⟩ := HD.out
    by_cases hlt : i < aa.length
    · have hlt2 : (i : Int) < aa.length := by omega
      obtain ⟨xs, hx⟩ := D5.row
      rcases hx.2 with ⟨_, h0⟩ | ⟨g, cc, cur, hv, _⟩
      · have h00 : aa.length = 0 := h0
        omega
      injection hv with e1 _ e3
      subst e1 e3
      have hcl : ∃ u, wr.cell? ⟨g, i * 2 + 1, none⟩ = some u := by
        have hl2 : xs.length = aa.length * 2 := hx.1
        exact ⟨xs[i * 2 + 1]'(by omega), by rw [hx.cellAt (i * 2 + 1) (by show i * 2 + 1 < aa.length * 2; omega), List.getElem?_eq_getElem (by omega)]⟩
      obtain ⟨u, hcu⟩ := hcl
      have hfu := hx.frozenAt (i * 2 + 1)
      have HDN : Hid (∃ A B, DoS n0 w.heap.size m ⟨8, a, b2, sp, s, aa, .slice ava aa.length avc⟩ (.slice (some ⟨g, 0, none⟩) aa.length vc1) w0 A B (wr.setCell ⟨g, i * 2 + 1, none⟩ (.string ⟨#[115, 112, 111, 105, 108, 116]⟩)) pb (.slice xa xn xc) T' U') := hide ⟨A5, B5, D5.spoil rfl _ _⟩
      clear hx HD D5
      go_wp2
      go_roundw
      case rel => exact ⟨i + 1, by go_num, by omega, HDN⟩
      case measure => simp [intOf]; omega
    · have hlt2 : ¬ (i : Int) < aa.length := by omega
      obtain ⟨y4, y4f, _, _, _, _, _, _, y6, y6f⟩ := dos_q D5
      have HBOTH := hide D5.done
      clear HD D5
      go_wp2
      refine bodyPost_ret (v := .tuple #[.agg #[.slice xa xn xc], .bool (N == M)]) ?_ rfl ⟨_, rfl, HBOTH.out, ⟨_, _, _, rfl⟩⟩
      rw [results_cell_tmp rfl]
      go_simp
set_option maxRecDepth 10000 in
set_option maxHeartbeats 8000000 in
theorem do_k9 {n0 : Nat} {w0 w : World} {pb : Nat} {rv : Value} {T U : TR} (hn0 : n0 = w0.heap.size) (a b2 sp : Int) (s : ByteArray) (aa : AttrL) (av : Value) (F : Fit T U ⟨9, a, b2, sp, s, aa, av⟩) (hV : IsV w0 av aa) (h : Both n0 w0 w pb rv T U) :
    Calls Try.prog 12 #[.pointer (some ⟨pb, 0, none⟩), .agg #[rv], .agg #[.int .i64 9, .int .i64 a, .int .i64 b2, .int .i64 sp, .string s, av]] w fun e w' => ∃ rv', e = .returned (.tuple #[.agg #[rv'], .bool ((moveZ T a b2).2 == (moveZ U a b2).2)]) ∧ Both n0 w0 w' pb rv' (moveZ T a b2).1 (moveZ U a b2).1 ∧ ∃ a m c, rv' = .slice a m c := by
  obtain ⟨b, o, cap, hrv⟩ : ∃ b o cap, rv = .slice (some ⟨b, o, none⟩) U.length cap := by
    obtain ⟨_, _, _, h2, _, _⟩ := h.ex
    obtain ⟨b, o, cap, _, e, _⟩ := h2
    exact ⟨b, o, cap, e⟩
  subst hrv
  obtain ⟨ava, avc, rfl⟩ := isV_form hV
  obtain ⟨v1, w1, hr1, hIA, ⟨va1, vc1, rfl⟩, A, B, D⟩ := dos_start h hn0 ⟨9, a, b2, sp, s, aa, .slice ava aa.length avc⟩ hV F.xa
  have HIA := hide hIA
  have hxa : aa.length ≤ 6 := F.xa
  have HR1 : Hid ((Builtin.append_ #[31, 31] 31 #[.slice (some ⟨w.heap.size + 1 + 1 + 1, 0, none⟩) 0 0, .slice ava aa.length avc]).run Try.prog ((((w.alloc (.cells #[.slice (some ⟨b, o, none⟩) U.length cap] 27)).alloc (.cells #[.int .i64 9, .int .i64 a, .int .i64 b2, .int .i64 sp, .string s, .slice ava aa.length avc] 33)).alloc (.cells #[.slice none 0 0] 27)).alloc (.cells #[] 80)) = .ok (.slice va1 aa.length vc1) w1) := hide hr1
  have HD1 := hide D
  clear hIA hr1 hV h hn0
  have HPROG := hide (move_p F.wt (by have := F.tl; omega) a b2 D.pt)
  have HDOC := hide (fun A B W (D : DoS n0 w.heap.size w1.heap.size ⟨9, a, b2, sp, s, aa, .slice ava aa.length avc⟩ (.slice va1 aa.length vc1) w0 A B W pb (.slice (some ⟨b, o, none⟩) U.length cap) (moveZ T a b2).1 U) => move_any (.slice (some ⟨b, o, none⟩) U.length cap) U a b2 (by have := F.ul; omega) F.wu B W (fun k hk => (D.hB k hk).2.1) D.tb)
  have hU' : 0 < (moveZ U a b2).1.length := Nat.lt_of_lt_of_le F.u0 (Nat.le_of_eq (moveZ_len _ _ _).symm)
  obtain ⟨y4, y4f, y50, y51, y52, y53, y54, y55, y6, y6f⟩ := dos_q D
  clear D F
  unfold Acted at HPROG
  generalize hM : moveZ U a b2 = RM at *
  generalize hN : moveZ T a b2 = RN at *
  obtain ⟨U', M⟩ := RM
  obtain ⟨T', N⟩ := RN
  simp only at hU'
  go_enter Try.func12, Try.ntmps12
  go_wp2_with (first | with_reducible refine wpList_append_run rfl _ _ 31 rfl (.slice (some ⟨w.heap.size + 1 + 1 + 1, 0, none⟩) 0 0) (.slice ava aa.length avc) _ w1 rfl rfl HR1.out ?_ | fail)
  refine HPROG.out.mono ?_
  rintro e w2 ⟨rfl, h2, h3⟩
  obtain ⟨A2, D2⟩ := HD1.out.prog h2 h3
  clear h2 h3 y4 y4f y50 y51 y52 y53 y54 y55 y6 y6f
  obtain ⟨y4, y4f, y50, y51, y52, y53, y54, y55, y6, y6f⟩ := dos_q D2
  have HD2 := hide D2
  have HDC := hide (HDOC.out A2 B w2 D2)
  clear D2 HDOC
  go_wp2_with fail
  refine HDC.out.mono ?_
  rintro e w3 ⟨⟨v3, h3, ⟨xa, xn, xc, rfl⟩, rfl⟩, b3⟩
  have x4 : w3.cell? ⟨w.heap.size, 0, none⟩ = some (.slice (some ⟨b, o, none⟩) U.length cap) := (b3.cell (cell_lt y4)).trans y4
  have x4f : w3.frozen? ⟨w.heap.size, 0, none⟩ = false := (b3.frozen (p := ⟨w.heap.size, 0, none⟩) (cell_lt y4)).trans y4f
  obtain ⟨B3, D3⟩ := HD2.out.doc hU' h3 b3
  have HD : Hid (∃ A B, DoS n0 w.heap.size w1.heap.size ⟨9, a, b2, sp, s, aa, .slice ava aa.length avc⟩ (.slice va1 aa.length vc1) w0 A B (w3.setCell ⟨w.heap.size, 0, none⟩ (.slice xa xn xc)) pb (.slice xa xn xc) T' U') := hide ⟨A2, B3, D3⟩
  clear D3 h3 b3 y4 y4f y50 y51 y52 y53 y54 y55 y6 y6f HD2 HDC HR1 HD1 HIA
  go_wp2_with fail
  generalize w3.setCell ⟨w.heap.size, 0, none⟩ (.slice xa xn xc) = W4 at *
  generalize w1.heap.size = m at *
  clear x4 x4f
  go_loopw [13] (fun vi wr => ∃ i : Nat, vi = .int .i64 (i : Int) ∧ i ≤ aa.length ∧ Hid (∃ A B, DoS n0 w.heap.size m ⟨9, a, b2, sp, s, aa, .slice ava aa.length avc⟩ (.slice va1 aa.length vc1) w0 A B wr pb (.slice xa xn xc) T' U')) (fun vi _ => aa.length - (intOf vi).toNat)
  case atStart => exact ⟨0, rfl, by omega, HD⟩
  case round =>
    clear HD
    obtain ⟨i, rfl, hii, HD⟩ := hrel
    obtain ⟨A5, B5, D5⟩ := HD.out
    by_cases hlt : i < aa.length
    · have hlt2 : (i : Int) < aa.length := by omega
      obtain ⟨xs, hx⟩ := D5.row
      rcases hx.2 with ⟨_, h0⟩ | ⟨g, cc, cur, hv, _⟩
      · have h00 : aa.length = 0 := h0
        omega
      injection hv with e1 _ e3
      subst e1 e3
      have hcl : ∃ u, wr.cell? ⟨g, i * 2 + 1, none⟩ = some u := by
        have hl2 : xs.length = aa.length * 2 := hx.1
        exact ⟨xs[i * 2 + 1]'(by omega), by rw [hx.cellAt (i * 2 + 1) (by show i * 2 + 1 < aa.length * 2; omega), List.getElem?_eq_getElem (by omega)]⟩
      obtain ⟨u, hcu⟩ := hcl
      have hfu := hx.frozenAt (i * 2 + 1)
      have HDN : Hid (∃ A B, DoS n0 w.heap.size m ⟨9, a, b2, sp, s, aa, .slice ava aa.length avc⟩ (.slice (some ⟨g, 0, none⟩) aa.length vc1) w0 A B (wr.setCell ⟨g, i * 2 + 1, none⟩ (.string ⟨#[115, 112, 111, 105, 108, 116]⟩)) pb (.slice xa xn xc) T' U') := hide ⟨A5, B5, D5.spoil rfl _ _⟩
      clear hx HD D5
      go_wp2
      go_roundw
      case rel => exact ⟨i + 1, by go_num, by omega, HDN⟩
      case measure => simp [intOf]; omega
    · have hlt2 : ¬ (i : Int) < aa.length := by omega
      obtain ⟨y4, y4f, _, _, _, _, _, _, y6, y6f⟩ := dos_q D5
      have HBOTH := hide D5.done
      clear HD D5
      go_wp2
      refine bodyPost_ret (v := .tuple #[.agg #[.slice xa xn xc], .bool (N == M)]) ?_ rfl ⟨_, rfl, HBOTH.out, ⟨_, _, _, rfl⟩⟩
      rw [results_cell_tmp rfl]
      go_simp
end Go.Proofs.Ytjgklemhlmgheaa
