/- The program's within; lists copied. Nothing that was there is written. -/
import Derived.Test.YtjgklemhlmgheaaPB5
set_option linter.unusedVariables false
set_option linter.unusedSimpArgs false
namespace Go.Proofs.Ytjgklemhlmgheaa
open Go.RowKit

theorem within_self (T : TR) (a : Nat) : withinL T a a = true := by simp [withinL, withinK]
theorem within_on {T : TR} (h : WF T) {m a : Nat} (hm : m < T.length) (hne : ¬ m = a) : withinL T m a = (match parentN T m with | none => false | some p => withinL T p a) := by
  cases hp : parentN T m with
  | none =>
    show _ = false
    rw [Bool.eq_false_iff]
    intro hw
    have hu := (within_iff h hm).1 hw
    rcases hu.part with e | ⟨q, hk, _⟩
    · exact hne e
    · exact parent_none hp _ hk
  | some p =>
    have hk := parent_some hp
    show _ = withinL T p a
    rw [Bool.eq_iff_iff, within_iff h hm, within_iff h (kidsAt_lt hk)]
    constructor
    · intro hu
      rcases hu.part with e | ⟨q, hk2, hu2⟩
      · exact absurd e hne
      · rw [h.once p q m hk hk2]
        exact hu2
    · exact fun hu => .step hk hu
def upM (r : Nat → Nat) (v : Value) : Nat := if intOf v = -1 then 0 else r (intOf v).toNat + 1
theorem upM_nat (r : Nat → Nat) (m : Nat) : upM r (.int .i64 (m : Int)) = r m + 1 := by
  unfold upM
  rw [if_neg (by simp only [intOf]; omega)]
  rfl
set_option maxHeartbeats 1000000 in
theorem within_p {A : Nat → Prop} {w : World} {pb : Nat} {T : TR} (hW : WF T) (hz : T.length ≤ 1000000) (n a : Nat) (hn : n < T.length) (h : PT A w pb T) :
    Calls Try.prog 47 #[.pointer (some ⟨pb, 0, none⟩), .int .i64 (n : Int), .int .i64 (a : Int)] w fun e w' => e = .returned (.bool (withinL T n a)) ∧ Below w.heap.size w w' := by
  obtain ⟨r, hr, _⟩ := hW.ranked
  have HR := hide hr
  have HC := hide (fun m hm => h.cells m hm)
  obtain ⟨g, cap, c0, _⟩ := h.cells n hn
  have HC1 : Hid (∀ m, m < T.length → w.cell? ⟨g, m * 7 + 1, none⟩ = some (.int .i64 (parZ (parentN T m)))) := hide fun m hm => by
    obtain ⟨g', cap', d0, _, d1, _⟩ := HC.out m hm
    rw [c0] at d0
    injection d0 with d0
    injection d0 with d0
    injection d0 with d0
    injection d0 with d0
    subst d0
    exact d1
  have HS := hide (fun m (hm : m < T.length) (hne : ¬ m = a) => within_on hW hm hne)
  have HK := hide (fun m p (hp : parentN T m = some p) => kidsAt_lt (parent_some hp))
  have HRP := hide (fun m p (hp : parentN T m = some p) => hr p m (parent_some hp))
  generalize hR : withinL T n a = R
  have HR0 := hide hR
  clear hR hW h HC hr
  go_enter Try.func47, Try.ntmps47
  go_wp2_with fail
  go_loopw [1] (fun tn wr => Hid (wr = w) ∧ ((∃ m : Nat, tn = .int .i64 (m : Int) ∧ m < T.length ∧ Hid (withinL T m a = R)) ∨ (tn = .int .i64 (-1) ∧ Hid (R = false)))) (fun tn _ => upM r tn)
  case atStart => exact ⟨hide rfl, .inl ⟨n, rfl, hn, HR0⟩⟩
  case round =>
    clear HR0
    obtain ⟨hwr, hor⟩ := hrel
    have hwr2 := hwr.out
    subst hwr2
    clear hwr
    rcases hor with ⟨m, rfl, hm, hRm⟩ | ⟨rfl, hRf⟩
    · by_cases he : m = a
      · subst he
        have hmn : ¬ (m : Int) = -1 := by omega
        have hmn2 : ((m : Int) != -1) = true := bne_iff_ne.2 hmn
        have HT : Hid (true = R) := hide (by rw [← hRm.out, within_self])
        clear hRm
        go_wp2
        go_ret
        exact ⟨ret_bool HT.out, by first | exact Below.refl _ _ | exact below_drewN _ _⟩
      · have hmn : ¬ (m : Int) = -1 := by omega
        have hmn2 : ((m : Int) != -1) = true := bne_iff_ne.2 hmn
        have he2 : ¬ (m : Int) = (a : Int) := by omega
        have he3 : ((m : Int) != (a : Int)) = true := bne_iff_ne.2 he2
        have hmi : (m : Int) < T.length := by omega
        have c1 := HC1.out m hm
        have hs := HS.out m hm he
        cases hp : parentN T m with
        | none =>
          rw [hp] at c1 hs
          rw [parZ_none] at c1
          have HN : Hid (R = false) := hide (by rw [← hRm.out, hs])
          clear hs hRm
          go_wp2
          go_roundw
          case rel => exact ⟨by first | exact hide rfl | exact hide trivial, .inr ⟨rfl, HN⟩⟩
          case measure =>
            show upM r (.int .i64 (-1)) < upM r (.int .i64 (m : Int))
            rw [upM_nat]
            exact Nat.succ_pos _
        | some p =>
          rw [hp] at c1 hs
          rw [show parZ (some p) = (p : Int) from rfl] at c1
          have HN : Hid (withinL T p a = R) := hide (by rw [← hRm.out, hs])
          have HP := HK.out m p hp
          have HQ := HRP.out m p hp
          clear hs hRm
          go_wp2
          go_roundw
          case rel => exact ⟨by first | exact hide rfl | exact hide trivial, .inl ⟨p, rfl, HP, HN⟩⟩
          case measure =>
            show upM r (.int .i64 (p : Int)) < upM r (.int .i64 (m : Int))
            rw [upM_nat, upM_nat]
            omega
    · have ha : ¬ (-1 : Int) = (a : Int) := by omega
      have ha2 : ((-1 : Int) == (a : Int)) = false := beq_eq_false_iff_ne.2 ha
      go_wp2
      go_ret
      exact ⟨ret_bool hRf.out.symm, by first | exact Below.refl _ _ | exact below_drewN _ _⟩

/-- A list of numbers, copied behind none. -/
theorem copy_ints0 (W : World) (v : Value) (l : List Nat) (hI : IsI W v l) (hl : l.length ≤ 1000000) :
    ∃ v' w', (Builtin.append_ #[44, 44] 44 #[.slice none 0 0, v]).run Try.prog W = .ok v' w' ∧ w'.ownsRow W.heap.size 3 1 v' l.length (intCells l) ∧ Below W.heap.size W w' := by
  rcases hI with ⟨rfl, rfl⟩ | ⟨b, o, cap, rfl, hc, hcs⟩
  · refine ⟨.slice none 0 0, W, ?_, World.ownsRow_nil W _ _ _, Below.refl _ _⟩
    simp [Builtin.append_, run_underlying (Try.underlying44), sizeOf, typeInfo, show Try.prog.info? 3 = some Try.t3 from by kernel_rfl, Builtin.lenOf, Builtin.firstCells, loadCells, loadCellsFrom]
  · obtain ⟨v', w', hr, ho, hg, _⟩ := run_append_own (P := Try.prog) W W.heap.size 44 44 3 Try.t3 _ 1 8 Try.underlying44 (by kernel_rfl) rfl (by kernel_rfl) (by kernel_rfl) (by kernel_rfl) (by omega)
      (.slice none 0 0) 0 [] (World.ownsRow_nil W _ _ _) ⟨b, o, none⟩ l.length cap (intCells l) (by simp [intCells])
      (by
        intro j u hu
        rcases Nat.lt_or_ge j l.length with hj | hj
        · rw [intCells_get l j hj] at hu
          injection hu with hu
          subst hu
          rw [show (⟨b, o, none⟩ : Addr).add j = ⟨b, o + j, none⟩ by unfold Addr.add; split <;> simp_all]
          exact hcs j hj
        · rw [List.getElem?_eq_none (by rw [intCells_len]; exact hj)] at hu
          cases hu)
      (intCells_1c l) (by unfold maxLen; omega) (by omega) (Nat.le_refl _)
    rw [Nat.zero_add] at ho
    exact ⟨v', w', hr, ho, (Below.refl _ W).grown hg (Nat.le_refl _) (by intro k hk; cases hk)⟩
theorem copy_attrs0 (W : World) (v : Value) (aa : AttrL) (hI : IsA W v aa) (hl : aa.length ≤ 1000000) :
    ∃ v' w', (Builtin.append_ #[31, 31] 31 #[.slice none 0 0, v]).run Try.prog W = .ok v' w' ∧ w'.ownsRow W.heap.size 80 2 v' aa.length (attrCells aa) ∧ Below W.heap.size W w' := by
  rcases hI with ⟨rfl, rfl⟩ | ⟨b, o, cap, rfl, hc, hcs⟩
  · refine ⟨.slice none 0 0, W, ?_, World.ownsRow_nil W _ _ _, Below.refl _ _⟩
    simp [Builtin.append_, run_underlying (Try.underlying31), sizeOf, typeInfo, show Try.prog.info? 80 = some Try.t80 from by kernel_rfl, Builtin.lenOf, Builtin.firstCells, loadCells, loadCellsFrom]
  · obtain ⟨v', w', hr, ho, hg, _⟩ := run_append_own (P := Try.prog) W W.heap.size 31 31 80 Try.t80 _ 2 32 Try.underlying31 (by kernel_rfl) rfl (by kernel_rfl) (by kernel_rfl) (by kernel_rfl) (by omega)
      (.slice none 0 0) 0 [] (World.ownsRow_nil W _ _ _) ⟨b, o, none⟩ aa.length cap (attrCells aa) (attrCells_len aa)
      (by
        intro j u hu
        have hj : j < (attrCells aa).length := by
          rcases Nat.lt_or_ge j (attrCells aa).length with h | h
          · exact h
          · rw [List.getElem?_eq_none h] at hu; cases hu
        rw [attrCells_len] at hj
        obtain ⟨g1, g2⟩ := attrCells_get aa (j / 2) (by omega)
        obtain ⟨c1, c2⟩ := hcs (j / 2) (by omega)
        rw [show (⟨b, o, none⟩ : Addr).add j = ⟨b, o + j, none⟩ by unfold Addr.add; split <;> simp_all]
        by_cases e : j % 2 = 0
        · rw [show j / 2 * 2 = j by omega] at g1
          rw [hu] at g1
          rw [show o + j / 2 * 2 = o + j by omega] at c1
          rw [c1, g1]
        · rw [show j / 2 * 2 + 1 = j by omega] at g2
          rw [hu] at g2
          rw [show o + j / 2 * 2 + 1 = o + j by omega] at c2
          rw [c2, g2])
      (attrCells_1c aa) (by unfold maxLen; omega) (by omega) (Nat.le_refl _)
    rw [Nat.zero_add] at ho
    exact ⟨v', w', hr, ho, (Below.refl _ W).grown hg (Nat.le_refl _) (by intro k hk; cases hk)⟩
set_option maxHeartbeats 1000000 in
theorem copyI_p (v : Value) (l : List Nat) (hl : l.length ≤ 1000000) (w : World) (hI : IsI w v l) :
    Calls Try.prog 45 #[v] w fun e w' => (∃ v', e = .returned v' ∧ w'.ownsRow w.heap.size 3 1 v' l.length (intCells l)) ∧ Below w.heap.size w w' := by
  obtain ⟨v', w', hr, ho, hb⟩ := copy_ints0 w v l hI hl
  obtain ⟨a, c, rfl⟩ := isI_form hI
  obtain ⟨a2, c2, rfl⟩ := owns_form ho
  have HR := hide hr
  have HO := hide ho
  have HB := hide hb
  clear hr ho hb hI
  go_enter Try.func45, Try.ntmps45
  go_wp2_with (with_reducible refine wpList_append_run rfl _ _ 44 rfl (.slice none 0 0) (.slice a l.length c) _ w' rfl rfl HR.out ?_)
  go_ret
  exact ⟨⟨_, rfl, HO.out⟩, HB.out⟩
set_option maxHeartbeats 1000000 in
theorem copyA_p (v : Value) (aa : AttrL) (hl : aa.length ≤ 1000000) (w : World) (hI : IsA w v aa) :
    Calls Try.prog 52 #[v] w fun e w' => (∃ v', e = .returned v' ∧ w'.ownsRow w.heap.size 80 2 v' aa.length (attrCells aa)) ∧ Below w.heap.size w w' := by
  obtain ⟨v', w', hr, ho, hb⟩ := copy_attrs0 w v aa hI hl
  obtain ⟨a, c, rfl⟩ := isA_form hI
  obtain ⟨a2, c2, rfl⟩ := owns_form ho
  have HR := hide hr
  have HO := hide ho
  have HB := hide hb
  clear hr ho hb hI
  go_enter Try.func52, Try.ntmps52
  go_wp2_with (with_reducible refine wpList_append_run rfl _ _ 31 rfl (.slice none 0 0) (.slice a aa.length c) _ w' rfl rfl HR.out ?_)
  go_ret
  exact ⟨⟨_, rfl, HO.out⟩, HB.out⟩
set_option maxHeartbeats 1000000 in
theorem kids_p {A : Nat → Prop} {w : World} {pb : Nat} {T : TR} (hW : WF T) (hz : T.length ≤ 1000000) (z : Int) (h : PT A w pb T) :
    Calls Try.prog 17 #[.pointer (some ⟨pb, 0, none⟩), .int .i64 z] w fun e w' => (∃ v', e = .returned v' ∧ w'.ownsRow w.heap.size 3 1 v' (kidsZ T z).length (intCells (kidsZ T z))) ∧ Below w.heap.size w w' := by
  have HH := hide (has_p z h)
  rw [raw_len] at HH
  by_cases hzz : 0 ≤ z ∧ z < T.length
  · obtain ⟨n, rfl⟩ : ∃ n : Nat, z = (n : Int) := ⟨z.toNat, by omega⟩
    have hkz : kidsZ T (n : Int) = kidsAt T n := by unfold kidsZ; rw [if_pos hzz, Int.toNat_natCast]
    rw [hkz]
    rw [decide_eq_true hzz] at HH
    have hn : n < T.length := by omega
    have hni : (n : Int) < T.length := by omega
    obtain ⟨g, cap, rs, hR, hP⟩ := h
    have hl := map_len hR
    rw [raw_len] at hl
    have hn2 : n < rs.length := by omega
    have hrn := map_get hR n hn2 (by rw [raw_len]; exact hn)
    rw [raw_get] at hrn
    have hkid := hP.kid n hn2
    rw [hrn] at hkid
    have HPV := hide hP
    have hkid2 : w.ownsRow 0 3 1 rs[n].kv (kidsAt T n).length (intCells (kidsAt T n)) := hkid
    clear hkid
    have HK := hide hkid2
    have hkl : (kidsAt T n).length ≤ 1000000 := by have := hW.kids_len n; omega
    have HC2 : Hid (w.cell? ⟨g, n * 7 + 2, none⟩ = some rs[n].kv) := hide (hP.cellAt n hn2 2 (by omega))
    obtain ⟨a, c, hv⟩ := owns_form hkid2
    rw [hv] at HC2 HK
    have HCP := hide (fun W => copyI_p (.slice a (kidsAt T n).length c) (kidsAt T n) hkl W)
    have hl2 := hl
    clear hP hR hkid2 hv hW hrn hzz hkz
    generalize kidsAt T n = ks at *
    go_enter Try.func17, Try.ntmps17
    go_wp2_with fail
    refine HH.out.mono ?_
    rintro e w1 ⟨rfl, b1⟩
    have c0 := (HPV.out.below b1).tree
    rw [hl2] at c0
    have c2 : w1.cell? ⟨g, n * 7 + 2, none⟩ = some (.slice a ks.length c) := by rw [b1.cell (cell_lt HC2.out)]; exact HC2.out
    have B1 := hide b1
    have HI := hide (owns_isI (owns_below HK.out b1))
    clear b1
    go_wp2_with fail
    refine (HCP.out _ HI.out).mono ?_
    rintro e w2 ⟨⟨v', rfl, ho⟩, b2⟩
    have HO : Hid (w2.ownsRow w.heap.size 3 1 v' ks.length (intCells ks)) := hide (by
      refine ⟨ho.1, ?_⟩
      rcases ho.2 with h2 | ⟨g', cap', cur', e1, e2, e3⟩
      · exact .inl h2
      · exact .inr ⟨g', cap', cur', e1, Nat.le_trans B1.out.size e2, e3⟩)
    have HB2 := hide (B1.out.trans (b2.mono B1.out.size))
    obtain ⟨a2, c2', rfl⟩ := owns_form ho
    clear ho b2
    go_wp2
    go_ret
    exact ⟨⟨_, rfl, HO.out⟩, HB2.out⟩
  · rw [decide_eq_false hzz] at HH
    have hk0 : kidsZ T z = [] := by
      unfold kidsZ
      rw [if_neg hzz]
    rw [hk0]
    clear hzz hk0 hW h
    go_enter Try.func17, Try.ntmps17
    go_wp2_with fail
    refine HH.out.mono ?_
    rintro e w1 ⟨rfl, b1⟩
    have B1 := hide b1
    clear b1
    go_wp2
    go_ret
    exact ⟨⟨_, rfl, World.ownsRow_nil _ _ _ _⟩, by first | exact B1.out | exact B1.out.trans (below_drewN _ _)⟩
end Go.Proofs.Ytjgklemhlmgheaa
