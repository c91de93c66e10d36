/- The walk of SpacePlays. -/
import Derived.Test.YtkopfigagnagoaaPl18
set_option linter.unusedVariables false
set_option linter.unusedSimpArgs false
set_option maxRecDepth 40000
namespace Go.Proofs.Ytkopfigagnagoaa
open Go.RowKit

theorem pick_bound (n : Int) (k : Int) (hk : 0 < k) : 0 ≤ (n.tmod k + k).tmod k ∧ (n.tmod k + k).tmod k < k := by
  have h1 : -k < n.tmod k ∧ n.tmod k < k := by
    rcases Int.le_total 0 n with h | h
    · have := Int.tmod_lt_of_pos n hk
      have := Int.tmod_nonneg k h
      omega
    · have := Int.tmod_lt_of_pos n hk
      have h3 := Int.tmod_nonneg k (show 0 ≤ -n by omega)
      have h4 := Int.tmod_lt_of_pos (-n) hk
      rw [Int.neg_tmod] at h3 h4
      omega
  exact ⟨Int.tmod_nonneg k (by omega), Int.tmod_lt_of_pos _ hk⟩
def pickN (n k : Int) : Int := (n.tmod k + k).tmod k
set_option maxHeartbeats 1000000 in
theorem pick_any (n k : Int) (hk : 0 < k) (hk2 : k ≤ 1000000) (w : World) :
    Calls Try.prog 7 #[.int .i64 n, .int .i64 k] w fun e w' => e = .returned (.int .i64 (pickN n k)) ∧ w' = w := by
  have hb : -1000000 ≤ n.tmod k ∧ n.tmod k ≤ 1000000 := by
    have h1 : -k < n.tmod k ∧ n.tmod k < k := by
      rcases Int.le_total 0 n with h | h
      · have := Int.tmod_lt_of_pos n hk
        have := Int.tmod_nonneg k h
        omega
      · have := Int.tmod_lt_of_pos n hk
        have h3 := Int.tmod_nonneg k (show 0 ≤ -n by omega)
        have h4 := Int.tmod_lt_of_pos (-n) hk
        rw [Int.neg_tmod] at h3 h4
        omega
    omega
  have hk0 : (k == 0) = false := by rw [beq_eq_false_iff_ne]; omega
  have hk1 : (k == -1) = false := by rw [beq_eq_false_iff_ne]; omega
  have hk00 : ¬ k = 0 := by omega
  have hk11 : ¬ k = -1 := by omega
  unfold pickN
  generalize hm : n.tmod k = m at *
  have hw : wrap64 (m + k) = m + k := by unfold wrap64; omega
  go_enter Try.func7, Try.ntmps7
  go_wp2
  go_ret
  exact ⟨by first | rfl | simp_all, rfl⟩

/-- A script lies there. -/
def IsS (w : World) (v : Value) (l : List AV) : Prop := ((l = [] ∧ ∃ a c, v = .slice a 0 c) ∨ ∃ b o cap, v = .slice (some ⟨b, o, none⟩) l.length cap ∧ ∀ j (hj : j < l.length), w.cell? ⟨b, o + j * 3, none⟩ = some (.int .i64 l[j].kind) ∧ w.cell? ⟨b, o + j * 3 + 1, none⟩ = some (.int .i64 l[j].n) ∧ w.cell? ⟨b, o + j * 3 + 2, none⟩ = some l[j].lv) ∧ ∀ a ∈ l, IsZ w a.lv a.l ∧ a.l.length ≤ 9223372036854775807
theorem IsS.form {w : World} {v : Value} {l : List AV} (h : IsS w v l) : ∃ a c, v = .slice a l.length c := by
  rcases h.1 with ⟨rfl, a, c, rfl⟩ | ⟨b, o, cap, rfl, _⟩
  · exact ⟨_, _, rfl⟩
  · exact ⟨_, _, rfl⟩
theorem IsS.at_ {w : World} {a : Option Addr} {n c : Nat} {l : List AV} (h : IsS w (.slice a n c) l) (i : Nat) (x : AV) (hx : l[i]? = some x) :
    ∃ b o, a = some ⟨b, o, none⟩ ∧ (∀ y, Below w.heap.size w y → y.cell? ⟨b, o + i * 3, none⟩ = some (.int .i64 x.kind) ∧ y.cell? ⟨b, o + i * 3 + 1, none⟩ = some (.int .i64 x.n) ∧ y.cell? ⟨b, o + i * 3 + 2, none⟩ = some x.lv) ∧ IsZ w x.lv x.l ∧ x.l.length ≤ 9223372036854775807 := by
  obtain ⟨hi, rfl⟩ := List.getElem?_eq_some_iff.1 hx
  obtain ⟨h1, h2⟩ := h
  have hm := h2 _ (List.getElem_mem hi)
  rcases h1 with ⟨rfl, _⟩ | ⟨b, o, cap, e, hc⟩
  · simp at hi
  · injection e with e1
    obtain ⟨c0, c1, c2⟩ := hc i hi
    exact ⟨b, o, e1, fun y hb => ⟨(hb.cell (cell_lt c0)).trans c0, (hb.cell (cell_lt c1)).trans c1, (hb.cell (cell_lt c2)).trans c2⟩, hm⟩
theorem isZ_blk {w : World} {v : Value} {l : List Int} (h : IsZ w v l) (hl : l ≠ []) : ∀ k, v.ownBlock = some k → k < w.heap.size := by
  rcases h with ⟨h, _⟩ | ⟨b, o, cap, rfl, hc⟩
  · exact absurd h hl
  · intro k hk
    cases hk
    have h0 : 0 < l.length := List.length_pos_iff.2 hl
    exact cell_lt (hc 0 h0)
/-- The program's space, and the document's list beside it. -/
structure PS (w : World) (v : Value) (l : SL) (u : Value) (m : SL) (x : World) : Prop where
  k : ∃ A, IsK A x v l ∧ (∀ k, A k → w.heap.size ≤ k) ∧ ∀ k, u.ownBlock = some k → ¬ A k ∧ k < x.heap.size
  f : IsF x u m
  b : Below w.heap.size w x
theorem PS.below {w x y : World} {v u : Value} {l m : SL} (h : PS w v l u m x) (hb : Below x.heap.size x y) : PS w v l u m y := by
  obtain ⟨A, h1, h2, h3⟩ := h.k
  exact ⟨⟨A, h1.below hb, h2, fun k hk => ⟨(h3 k hk).1, Nat.lt_of_lt_of_le (h3 k hk).2 hb.size⟩⟩, h.f.below hb, h.b.trans (hb.mono h.b.size)⟩
theorem PS.told {w x y : World} {v u u' : Value} {l m m' : SL} (h : PS w v l u m x) (ht : ToldF x y u u' m') : PS w v l u' m' y := by
  obtain ⟨A, h1, h2, h3⟩ := h.k
  obtain ⟨t1, t2, t3⟩ := ht
  refine ⟨⟨A, h1.below t3, h2, fun k hk => ?_⟩, t1, h.b.trans (t3.mono h.b.size)⟩
  rcases t2 with rfl | t2
  · exact ⟨(h3 k hk).1, Nat.lt_of_lt_of_le (h3 k hk).2 t3.size⟩
  · exact ⟨fun ha => by have := h1.lt k ha; have := (t2 k hk).1; omega, (t2 k hk).2⟩
theorem PS.taken {w x : World} {v u : Value} {l m : SL} (h : PS w v l u m x) (hl : l.length ≤ 4096) (i : Int) : Calls Try.prog 16 #[v, .int .i64 i] x fun e y => e = .returned (.bool (takenS l i)) ∧ Hid (PS w v l u m y) := by
  obtain ⟨A, h1, _⟩ := h.k
  exact (ptaken_any A v l i x h1 hl).mono fun e y hh => ⟨hh.1, hide (h.below hh.2)⟩
theorem PS.free {w x : World} {v u : Value} {l m : SL} (h : PS w v l u m x) (hl : l.length ≤ 4096) : Calls Try.prog 14 #[v] x fun e y => e = .returned (.int .i64 (freeS l : Int)) ∧ Hid (PS w v l u m y) := by
  obtain ⟨A, h1, _⟩ := h.k
  exact (pfree_any A v l x h1 hl).mono fun e y hh => ⟨hh.1, hide (h.below hh.2)⟩
theorem PS.play {w x : World} {v u : Value} {l m : SL} (h : PS w v l u m x) (hl : l.length ≤ 4096) (a : AV) (hz : IsZ w a.lv a.l) (hzl : a.l.length ≤ 9223372036854775807) : Calls Try.prog 10 #[v, acA a] (acW x a) fun e y => e = .returned (.tuple #[.int .i64 (modelS l a).2.1, .int .i64 (modelS l a).2.2]) ∧ Hid (PS w v (modelS l a).1 u m y) ∧ Hid (y.heap[x.heap.size]? = some (.cells (acC a) 33 (0, 0))) := by
  have hbx := ac_box x a (Below.refl _ (acW x a))
  have h' := h.below hbx.2
  obtain ⟨A, h1, h2, h3⟩ := h.k
  have h1' := h1.below hbx.2
  refine (play_any A v l a (acW x a) h1' hl ⟨hz.below (h.b.trans (hbx.2.mono h.b.size)), fun h0 k hk ha => ?_, hzl⟩).mono ?_
  · have := isZ_blk hz h0 k hk
    have := h2 k ha
    omega
  · rintro e y ⟨rfl, A', k1, k2, k3⟩
    have hsx : (acW x a).heap.size = x.heap.size + 1 := by simp
    refine ⟨rfl, hide ⟨⟨A', k1, fun k hk => (k2 k hk).elim (h2 k) (fun h5 => ?_), fun k hk => ⟨fun ha => ?_, ?_⟩⟩, ?_, ?_⟩, hide ?_⟩
    · have := h'.b.size
      omega
    · have hu := h3 k hk
      rcases k2 k ha with h6 | h6
      · exact hu.1 h6
      · have := hu.2
        omega
    · have hu := h3 k hk
      have := k3.size
      omega
    · refine h'.f.keep fun k hk => k3.block k ?_ (h3 k hk).1
      have := (h3 k hk).2
      omega
    · exact h'.b.trans (k3.below h2 h'.b.size)
    · refine (k3.block x.heap.size (by omega) (fun ha => by have := h1.lt _ ha; omega)).trans hbx.1
theorem ac_cells {w : World} {b : Nat} {a : AV} (h : w.heap[b]? = some (.cells (acC a) 33 (0, 0))) : w.cell? ⟨b, 0, none⟩ = some (.int .i64 a.kind) ∧ w.cell? ⟨b, 1, none⟩ = some (.int .i64 a.n) ∧ w.cell? ⟨b, 2, none⟩ = some a.lv := by
  refine ⟨?_, ?_, ?_⟩ <;> simp [World.cell?, h, acC]
set_option maxHeartbeats 8000000 in
theorem spacePlays_walk (n : Int) (hn : (Lit.int .i64 n).wf = true) (sv : Value) (ss : List AV) (w : World) (hS : IsS w sv ss) (hSl : ss.length ≤ 9223372036854775807) :
    Calls Try.prog 3 #[.int .i64 n, sv] w fun e w' => e = .returned (.bool true) ∧ Below w.heap.size w w' := by
  obtain ⟨sa, sc, rfl⟩ := hS.form
  have HAL := hide alive_any
  have HPK := hide (pick_any n 40 (by decide) (by decide) w)
  obtain ⟨hp1, hp2⟩ := pick_bound n 40 (by decide)
  obtain ⟨q, hq⟩ : ∃ q : Nat, pickN n 40 = (q : Int) := ⟨(pickN n 40).toNat, by unfold pickN; omega⟩
  have hq40 : q < 40 := by unfold pickN at hq; omega
  rw [hq] at HPK
  clear hp1 hp2 hq
  have HA : Hid (∀ i, i < ss.length → ∃ (x : AV) (b o : Nat), sa = some ⟨b, o, none⟩ ∧ (∀ y, Below w.heap.size w y → y.cell? ⟨b, o + i * 3, none⟩ = some (.int .i64 x.kind) ∧ y.cell? ⟨b, o + i * 3 + 1, none⟩ = some (.int .i64 x.n) ∧ y.cell? ⟨b, o + i * 3 + 2, none⟩ = some x.lv) ∧ IsZ w x.lv x.l ∧ x.l.length ≤ 9223372036854775807) := hide (fun i hi => by
    obtain ⟨b, o, e, h1, h2⟩ := hS.at_ i _ (List.getElem?_eq_getElem hi)
    exact ⟨_, b, o, e, h1, h2⟩)
  have hw1 : wrap64 (1 + (q : Int)) = ((q + 1 : Nat) : Int) := by unfold wrap64; omega
  have HN := hide (live_new (q + 1) w (by omega))
  have HM := hide (fun x => rnew_ok (q + 1) x (by omega))
  have hnl : (newS (q + 1)).length = q + 1 := by unfold newS; rw [List.length_replicate]
  clear hS
  generalize hK : q + 1 = K at *
  have hK2 : (1 : Int) + (q : Int) = (K : Int) := by omega
  have hK40 : K ≤ 40 := by omega
  generalize ss.length = N at *
  go_enter Try.func3, Try.ntmps3
  go_wp2_with fail
  refine HPK.out.mono ?_
  rintro e w0 ⟨rfl, rfl⟩
  clear HPK
  go_wp2_with fail
  refine HN.out.mono ?_
  rintro e w1 ⟨pa, rfl, H1⟩
  clear HN
  go_wp2_with fail
  refine (HM.out w1).mono ?_
  rintro e w2 ⟨ua, uc, rfl, hf, hnf, hb2⟩
  have HP0 : Hid (PS w0 (.pointer (some pa)) (newS K) (.slice ua K uc) (newS K) w2 ∧ (newS K).length = K) := hide ⟨by
    obtain ⟨A, k1, k2⟩ := H1.out.k
    exact ⟨⟨A, k1.below hb2, k2, fun k hk => ⟨fun ha => by have := k1.lt k ha; have := (hnf k hk).1; omega, (hnf k hk).2⟩⟩, hf, H1.out.b.trans (hb2.mono H1.out.b.size)⟩, hnl⟩
  clear hf hnf hb2 H1 HM hnl hK hK2 hw1
  generalize newS K = L0 at *
  go_wp2
  go_loopw [8, 10] (fun vu vi wr => ∃ (i : Nat) (l : SL) (ua : Option Addr) (uc : Nat), vi = .int .i64 (i : Int) ∧ i ≤ N ∧ i ≤ 60 ∧ vu = .slice ua K uc ∧ Hid (PS w0 (.pointer (some pa)) l (.slice ua K uc) l wr ∧ l.length = K)) (fun _ vi _ => 60 - (intOf vi).toNat)
  case atStart => exact ⟨0, L0, ua, uc, rfl, Nat.zero_le _, by omega, rfl, HP0⟩
  case round =>
    clear HP0
    obtain ⟨i, l, ua, uc, rfl, hi, hi60, rfl, HP⟩ := hrel
    by_cases hgo : i < N ∧ i < 60
    · have g1 : (i : Int) < N := by omega
      have g2 : (i : Int) < 60 := by omega
      obtain ⟨x, b, o, rfl, hc, hz, hzl⟩ := HA.out i hgo.1
      obtain ⟨c0, c1, c2⟩ := hc wr HP.out.1.b
      obtain ⟨za, zc, hzf⟩ := hz.form
      by_cases h60 : 60 < x.l.length
      · have h60I : (60 : Int) < (x.l.length : Int) := by omega
        have HB := hide (HP.out.1.below (below_alloc wr (.cells (acC x) 33)))
        have HLN := hide HP.out.2
        rw [hzf] at c2
        obtain ⟨kind, an, al, alv⟩ := x
        simp only [] at *
        subst hzf
        clear hc hz hzl HP h60
        generalize al.length = zn at *
        go_wp2
        go_roundw
        case rel => exact ⟨i + 1, l, ua, uc, by go_num, by omega, by omega, rfl, hide ⟨HB.out, HLN.out⟩⟩
        case measure => simp [intOf]; omega
      · have h60I : ¬ (60 : Int) < (x.l.length : Int) := by omega
        have hl96 : l.length ≤ 4096 := by have := HP.out.2; omega
        have HPL := hide (HP.out.1.play hl96 x hz hzl)
        have HML := hide (model_len l x)
        have HLN := hide HP.out.2
        have HZ := hide hz
        have HAC := hide (fun (y : World) (hy : y.heap[wr.heap.size]? = some (.cells (acC x) 33 (0, 0))) => ac_cells hy)
        have HTK := hide (fun y m (hh : IsF y (.slice ua K uc) m) (hm : m.length ≤ 1000000) => rtake_any _ m y hh hm)
        have HGV := hide (fun y m (hh : IsF y (.slice ua K uc) m) (hm : m.length ≤ 1000000) => rgive_any _ m x.n y hh hm)
        have HON := hide (fun y m (hh : IsF y (.slice ua K uc) m) (hm : m.length ≤ 1000000) (hzz : IsZ y x.lv x.l) => ronly_any _ m x.lv x.l y hh hm hzz hzl)
        rw [hzf] at c2
        obtain ⟨kind, an, al, alv⟩ := x
        simp only [] at *
        subst hzf
        clear hc hz hzl HP
        generalize hal : al.length = zn at *
        go_wp2_with fail
        refine HPL.out.mono ?_
        rintro e y1 ⟨rfl, HP1, HX1⟩
        obtain ⟨d0, d1, d2⟩ := HAC.out y1 HX1.out
        try simp only [] at d0 d1 d2
        clear HPL c0 c1 c2 HAC
        rcases (by omega : kind = 1 ∨ (¬ kind = 1 ∧ kind = 2) ∨ (¬ kind = 1 ∧ ¬ kind = 2 ∧ kind = 3) ∨ (¬ kind = 1 ∧ ¬ kind = 2 ∧ ¬ kind = 3)) with hk1 | ⟨hk1, hk2⟩ | ⟨hk1, hk2, hk3⟩ | ⟨hk1, hk2, hk3⟩
        · subst hk1
          have hmd : modelS l ⟨1, an, al, .slice za zn zc⟩ = ((takeS l).1, ((takeS l).2.1 : Int), (takeS l).2.2) := by unfold modelS; rw [if_pos rfl]
          have hlk := HLN.out
          have HD1 := hide (HTK.out y1 l HP1.out.f (by omega))
          rw [hmd] at HP1 HML ⊢
          obtain ⟨T, hTT⟩ : ∃ T, takeS l = T := ⟨_, rfl⟩
          rw [hTT] at HD1 HP1 HML ⊢
          simp only [] at HP1 HML ⊢
          clear hTT hmd HTK HGV HON
          have HLT : Hid (T.1.length = K) := hide (by rw [HML.out]; exact hlk)
          have hT96 : T.1.length ≤ 4096 := by have := HLT.out; omega
          have HFR := hide (fun x u (hx : PS w0 (.pointer (some pa)) (T.1) u (T.1) x) => hx.free hT96)
          have HFD := hide (fun x u (hx : PS w0 (.pointer (some pa)) (T.1) u (T.1) x) => rfree_any u (T.1) x hx.f (by omega))
          have HTA := hide (fun x u j (hx : PS w0 (.pointer (some pa)) (T.1) u (T.1) x) => hx.taken hT96 j)
          have HTB := hide (fun x u j (hx : PS w0 (.pointer (some pa)) (T.1) u (T.1) x) => rtaken_any u (T.1) j x hx.f (by omega))
          clear HML hT96 hlk
          go_wp2_with fail
          refine HD1.out.mono ?_
          rintro e y2 ⟨u, rfl, ht⟩
          have hP2 := HP1.out.told ht
          obtain ⟨ua2, uc2, hu⟩ := hP2.f.form
          rw [HLT.out] at hu
          subst hu
          have HP2 := hide hP2
          clear ht hP2 HD1 HP1 d0 d1 d2 HX1
          generalize T.1 = TL at *
          generalize T.2.1 = t1 at *
          generalize T.2.2 = t2 at *
          have HFR1 := hide (HFR.out _ _ HP2.out)
          go_wp2_with fail
          refine HFR1.out.mono ?_
          rintro e y3 ⟨rfl, HP3⟩
          have HFD1 := hide (HFD.out _ _ HP3.out)
          clear HFR1 HP2
          go_wp2_with fail
          refine HFD1.out.mono ?_
          rintro e y4 ⟨rfl, rfl⟩
          clear HFD1 HFR HFD
          go_wp2
          generalize wr = wr0 at *
          go_loopw [16] (fun vj wr => ∃ z : Int, vj = .int .i64 z ∧ -1 ≤ z ∧ z ≤ (K : Int) + 1 ∧ Hid (PS w0 (.pointer (some pa)) TL (.slice ua2 K uc2) TL wr)) (fun vj _ => ((K : Int) + 1 - intOf vj).toNat)
          case atStart => exact ⟨-1, rfl, by omega, by omega, HP3⟩
          case round =>
            clear HP3
            obtain ⟨z, rfl, hz1, hz2, HP4⟩ := hrel
            by_cases hzk : z ≤ (K : Int)
            · have HT4 := hide (HTA.out _ _ z HP4.out)
              have hwz : wrap64 (z + 1) = z + 1 := by unfold wrap64; omega
              obtain ⟨tz, htz⟩ : ∃ t, takenS TL z = t := ⟨_, rfl⟩
              have HTZ := hide htz
              rw [htz] at HT4
              clear htz
              go_wp2_with fail
              refine HT4.out.mono ?_
              rintro e y5 ⟨rfl, HP5⟩
              have HT5 := hide (HTB.out _ _ z HP5.out)
              rw [HTZ.out] at HT5
              clear HT4 HP4 HTZ
              go_wp2_with fail
              refine HT5.out.mono ?_
              rintro e y6 ⟨rfl, rfl⟩
              clear HT5
              cases tz
              all_goals
                go_wp2
                go_roundw
                case rel => exact ⟨z + 1, by first | rfl | go_num, by omega, by omega, HP5⟩
                case measure => simp [intOf]; omega
            · have hzk2 : ¬ z ≤ (K : Int) := hzk
              clear HTA HTB
              go_wp2
              go_roundw
              case rel => exact ⟨i + 1, TL, ua2, uc2, by go_num, by omega, by omega, rfl, hide ⟨HP4.out, HLT.out⟩⟩
              case measure => simp [intOf]; omega
        · subst hk2
          have hmd : modelS l ⟨2, an, al, .slice za zn zc⟩ = ((giveS l an).1, 0, (giveS l an).2) := by unfold modelS; rw [if_neg (show ¬ (2 : Int) = 1 by decide), if_pos rfl]
          have hlk := HLN.out
          have HD1 := hide (HGV.out y1 l HP1.out.f (by omega))
          rw [hmd] at HP1 HML ⊢
          obtain ⟨T, hTT⟩ : ∃ T, giveS l an = T := ⟨_, rfl⟩
          rw [hTT] at HD1 HP1 HML ⊢
          simp only [] at HP1 HML ⊢
          clear hTT hmd HTK HGV HON
          have HLT : Hid (T.1.length = K) := hide (by rw [HML.out]; exact hlk)
          have hT96 : T.1.length ≤ 4096 := by have := HLT.out; omega
          have HFR := hide (fun x u (hx : PS w0 (.pointer (some pa)) (T.1) u (T.1) x) => hx.free hT96)
          have HFD := hide (fun x u (hx : PS w0 (.pointer (some pa)) (T.1) u (T.1) x) => rfree_any u (T.1) x hx.f (by omega))
          have HTA := hide (fun x u j (hx : PS w0 (.pointer (some pa)) (T.1) u (T.1) x) => hx.taken hT96 j)
          have HTB := hide (fun x u j (hx : PS w0 (.pointer (some pa)) (T.1) u (T.1) x) => rtaken_any u (T.1) j x hx.f (by omega))
          clear HML hT96 hlk
          go_wp2_with fail
          refine HD1.out.mono ?_
          rintro e y2 ⟨u, rfl, ht⟩
          have hP2 := HP1.out.told ht
          obtain ⟨ua2, uc2, hu⟩ := hP2.f.form
          rw [HLT.out] at hu
          subst hu
          have HP2 := hide hP2
          clear ht hP2 HD1 HP1 d0 d1 d2 HX1
          generalize T.1 = TL at *
          generalize T.2 = t2 at *
          have HFR1 := hide (HFR.out _ _ HP2.out)
          go_wp2_with fail
          refine HFR1.out.mono ?_
          rintro e y3 ⟨rfl, HP3⟩
          have HFD1 := hide (HFD.out _ _ HP3.out)
          clear HFR1 HP2
          go_wp2_with fail
          refine HFD1.out.mono ?_
          rintro e y4 ⟨rfl, rfl⟩
          clear HFD1 HFR HFD
          go_wp2
          generalize wr = wr0 at *
          go_loopw [16] (fun vj wr => ∃ z : Int, vj = .int .i64 z ∧ -1 ≤ z ∧ z ≤ (K : Int) + 1 ∧ Hid (PS w0 (.pointer (some pa)) TL (.slice ua2 K uc2) TL wr)) (fun vj _ => ((K : Int) + 1 - intOf vj).toNat)
          case atStart => exact ⟨-1, rfl, by omega, by omega, HP3⟩
          case round =>
            clear HP3
            obtain ⟨z, rfl, hz1, hz2, HP4⟩ := hrel
            by_cases hzk : z ≤ (K : Int)
            · have HT4 := hide (HTA.out _ _ z HP4.out)
              have hwz : wrap64 (z + 1) = z + 1 := by unfold wrap64; omega
              obtain ⟨tz, htz⟩ : ∃ t, takenS TL z = t := ⟨_, rfl⟩
              have HTZ := hide htz
              rw [htz] at HT4
              clear htz
              go_wp2_with fail
              refine HT4.out.mono ?_
              rintro e y5 ⟨rfl, HP5⟩
              have HT5 := hide (HTB.out _ _ z HP5.out)
              rw [HTZ.out] at HT5
              clear HT4 HP4 HTZ
              go_wp2_with fail
              refine HT5.out.mono ?_
              rintro e y6 ⟨rfl, rfl⟩
              clear HT5
              cases tz
              all_goals
                go_wp2
                go_roundw
                case rel => exact ⟨z + 1, by first | rfl | go_num, by omega, by omega, HP5⟩
                case measure => simp [intOf]; omega
            · have hzk2 : ¬ z ≤ (K : Int) := hzk
              clear HTA HTB
              go_wp2
              go_roundw
              case rel => exact ⟨i + 1, TL, ua2, uc2, by go_num, by omega, by omega, rfl, hide ⟨HP4.out, HLT.out⟩⟩
              case measure => simp [intOf]; omega
        · subst hk3
          have hmd : modelS l ⟨3, an, al, .slice za zn zc⟩ = ((onlyS l al).1, 0, (onlyS l al).2) := by unfold modelS; rw [if_neg (show ¬ (3 : Int) = 1 by decide), if_neg (show ¬ (3 : Int) = 2 by decide), if_pos rfl]
          have hlk := HLN.out
          have HD1 := hide (HON.out y1 l HP1.out.f (by omega) (HZ.out.below HP1.out.b))
          rw [hmd] at HP1 HML ⊢
          obtain ⟨T, hTT⟩ : ∃ T, onlyS l al = T := ⟨_, rfl⟩
          rw [hTT] at HD1 HP1 HML ⊢
          simp only [] at HP1 HML ⊢
          clear hTT hmd HTK HGV HON
          have HLT : Hid (T.1.length = K) := hide (by rw [HML.out]; exact hlk)
          have hT96 : T.1.length ≤ 4096 := by have := HLT.out; omega
          have HFR := hide (fun x u (hx : PS w0 (.pointer (some pa)) (T.1) u (T.1) x) => hx.free hT96)
          have HFD := hide (fun x u (hx : PS w0 (.pointer (some pa)) (T.1) u (T.1) x) => rfree_any u (T.1) x hx.f (by omega))
          have HTA := hide (fun x u j (hx : PS w0 (.pointer (some pa)) (T.1) u (T.1) x) => hx.taken hT96 j)
          have HTB := hide (fun x u j (hx : PS w0 (.pointer (some pa)) (T.1) u (T.1) x) => rtaken_any u (T.1) j x hx.f (by omega))
          clear HML hT96 hlk
          go_wp2_with fail
          refine HD1.out.mono ?_
          rintro e y2 ⟨u, rfl, ht⟩
          have hP2 := HP1.out.told ht
          obtain ⟨ua2, uc2, hu⟩ := hP2.f.form
          rw [HLT.out] at hu
          subst hu
          have HP2 := hide hP2
          clear ht hP2 HD1 HP1 d0 d1 d2 HX1
          generalize T.1 = TL at *
          generalize T.2 = t2 at *
          have HFR1 := hide (HFR.out _ _ HP2.out)
          go_wp2_with fail
          refine HFR1.out.mono ?_
          rintro e y3 ⟨rfl, HP3⟩
          have HFD1 := hide (HFD.out _ _ HP3.out)
          clear HFR1 HP2
          go_wp2_with fail
          refine HFD1.out.mono ?_
          rintro e y4 ⟨rfl, rfl⟩
          clear HFD1 HFR HFD
          go_wp2
          generalize wr = wr0 at *
          go_loopw [16] (fun vj wr => ∃ z : Int, vj = .int .i64 z ∧ -1 ≤ z ∧ z ≤ (K : Int) + 1 ∧ Hid (PS w0 (.pointer (some pa)) TL (.slice ua2 K uc2) TL wr)) (fun vj _ => ((K : Int) + 1 - intOf vj).toNat)
          case atStart => exact ⟨-1, rfl, by omega, by omega, HP3⟩
          case round =>
            clear HP3
            obtain ⟨z, rfl, hz1, hz2, HP4⟩ := hrel
            by_cases hzk : z ≤ (K : Int)
            · have HT4 := hide (HTA.out _ _ z HP4.out)
              have hwz : wrap64 (z + 1) = z + 1 := by unfold wrap64; omega
              obtain ⟨tz, htz⟩ : ∃ t, takenS TL z = t := ⟨_, rfl⟩
              have HTZ := hide htz
              rw [htz] at HT4
              clear htz
              go_wp2_with fail
              refine HT4.out.mono ?_
              rintro e y5 ⟨rfl, HP5⟩
              have HT5 := hide (HTB.out _ _ z HP5.out)
              rw [HTZ.out] at HT5
              clear HT4 HP4 HTZ
              go_wp2_with fail
              refine HT5.out.mono ?_
              rintro e y6 ⟨rfl, rfl⟩
              clear HT5
              cases tz
              all_goals
                go_wp2
                go_roundw
                case rel => exact ⟨z + 1, by first | rfl | go_num, by omega, by omega, HP5⟩
                case measure => simp [intOf]; omega
            · have hzk2 : ¬ z ≤ (K : Int) := hzk
              clear HTA HTB
              go_wp2
              go_roundw
              case rel => exact ⟨i + 1, TL, ua2, uc2, by go_num, by omega, by omega, rfl, hide ⟨HP4.out, HLT.out⟩⟩
              case measure => simp [intOf]; omega
        · have hmd : modelS l ⟨kind, an, al, .slice za zn zc⟩ = (l, 0, 0) := by unfold modelS; rw [if_neg hk1, if_neg hk2, if_neg hk3]
          have hlk := HLN.out
          have hk1b : (kind == 1) = false := by simp [hk1]
          have hk2b : (kind == 2) = false := by simp [hk2]
          have hk3b : (kind == 3) = false := by simp [hk3]
          rw [hmd] at HP1 HML ⊢
          simp only [] at HP1 HML ⊢
          clear HTK HGV HON hmd
          have HLT : Hid (l.length = K) := hide hlk
          have hT96 : l.length ≤ 4096 := by omega
          have HFR := hide (fun x u (hx : PS w0 (.pointer (some pa)) (l) u (l) x) => hx.free hT96)
          have HFD := hide (fun x u (hx : PS w0 (.pointer (some pa)) (l) u (l) x) => rfree_any u (l) x hx.f (by omega))
          have HTA := hide (fun x u j (hx : PS w0 (.pointer (some pa)) (l) u (l) x) => hx.taken hT96 j)
          have HTB := hide (fun x u j (hx : PS w0 (.pointer (some pa)) (l) u (l) x) => rtaken_any u (l) j x hx.f (by omega))
          clear HML hT96 hlk
          have HP2 := HP1
          clear HP1
          have hd0 := d0
          have HFR1 := hide (HFR.out _ _ HP2.out)
          go_wp2_with fail
          refine HFR1.out.mono ?_
          rintro e y3 ⟨rfl, HP3⟩
          have HFD1 := hide (HFD.out _ _ HP3.out)
          clear HFR1 HP2
          go_wp2_with fail
          refine HFD1.out.mono ?_
          rintro e y4 ⟨rfl, rfl⟩
          clear HFD1 HFR HFD
          go_wp2
          generalize wr = wr0 at *
          go_loopw [16] (fun vj wr => ∃ z : Int, vj = .int .i64 z ∧ -1 ≤ z ∧ z ≤ (K : Int) + 1 ∧ Hid (PS w0 (.pointer (some pa)) l (.slice ua K uc) l wr)) (fun vj _ => ((K : Int) + 1 - intOf vj).toNat)
          case atStart => exact ⟨-1, rfl, by omega, by omega, HP3⟩
          case round =>
            clear HP3
            obtain ⟨z, rfl, hz1, hz2, HP4⟩ := hrel
            by_cases hzk : z ≤ (K : Int)
            · have HT4 := hide (HTA.out _ _ z HP4.out)
              have hwz : wrap64 (z + 1) = z + 1 := by unfold wrap64; omega
              obtain ⟨tz, htz⟩ : ∃ t, takenS l z = t := ⟨_, rfl⟩
              have HTZ := hide htz
              rw [htz] at HT4
              clear htz
              go_wp2_with fail
              refine HT4.out.mono ?_
              rintro e y5 ⟨rfl, HP5⟩
              have HT5 := hide (HTB.out _ _ z HP5.out)
              rw [HTZ.out] at HT5
              clear HT4 HP4 HTZ
              go_wp2_with fail
              refine HT5.out.mono ?_
              rintro e y6 ⟨rfl, rfl⟩
              clear HT5
              cases tz
              all_goals
                go_wp2
                go_roundw
                case rel => exact ⟨z + 1, by first | rfl | go_num, by omega, by omega, HP5⟩
                case measure => simp [intOf]; omega
            · have hzk2 : ¬ z ≤ (K : Int) := hzk
              clear HTA HTB
              go_wp2
              go_roundw
              case rel => exact ⟨i + 1, l, ua, uc, by go_num, by omega, by omega, rfl, hide ⟨HP4.out, HLT.out⟩⟩
              case measure => simp [intOf]; omega
    · have g : ¬ (i < N ∧ i < 60) := hgo
      have hl96 : l.length ≤ 4096 := by have := HP.out.2; omega
      have HPP := hide HP.out.1
      have HTA := hide (fun x (hx : PS w0 (.pointer (some pa)) l (.slice ua K uc) l x) => hx.taken hl96 n)
      have HTB := hide (fun x (hx : PS w0 (.pointer (some pa)) l (.slice ua K uc) l x) => rtaken_any _ l n x hx.f (by omega))
      clear HP HA hgo hl96
      rcases (by omega : ¬ (i : Int) < N ∨ ((i : Int) < N ∧ ¬ (i : Int) < 60)) with g1 | ⟨g1, g2⟩
      all_goals
        clear g
        generalize takenS l n = T at *
        go_wp2_with fail
        refine (HAL.out _).mono ?_
        rintro e y2 ⟨rfl, hb2⟩
        have HP2 := hide (HPP.out.below hb2)
        have HT2 := hide (HTA.out _ HP2.out)
        clear hb2 HPP
        go_wp2_with fail
        refine HT2.out.mono ?_
        rintro e y3 ⟨rfl, HP3⟩
        have HT3 := hide (HTB.out _ HP3.out)
        clear HT2 HP2
        go_wp2_with fail
        refine HT3.out.mono ?_
        rintro e y4 ⟨rfl, rfl⟩
        have HE := hide HP3.out.b
        clear HT3 HP3 HTA HTB
        cases T
        all_goals
          go_wp2
          go_ret
          exact ⟨rfl, HE.out⟩
end Go.Proofs.Ytkopfigagnagoaa
