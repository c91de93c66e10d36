/- The program's space: Give, Only, New, and no space. -/
import Derived.Test.YtkopfigagnagoaaHx18
set_option linter.unusedVariables false
set_option linter.unusedSimpArgs false
set_option maxRecDepth 4000
namespace Go.Proofs.Ytkopfigagnagoaa
open Go.RowKit

set_option maxHeartbeats 4000000 in
theorem pgive_any (A : Nat → Prop) (v : Value) (l : SL) (i : Int) (w : World) (hK : IsK A w v l) (hl : l.length ≤ 4096) : Calls Try.prog 20 #[v, .int .i64 i] w fun e w' => e = .returned (.int .i64 (giveS l i).2) ∧ KR IsK A w v (giveS l i).1 w' := by
  obtain ⟨b, tg, c, fv, fl, rfl, h⟩ := hK
  have HT := hide (ptaken_run A b tg c fv l fl i w h)
  unfold giveS
  cases ht : takenS l i
  · have HK : Hid (KR IsK A w (.pointer (some ⟨b, 0, none⟩)) l w) := hide ⟨A, ⟨b, tg, c, fv, fl, rfl, h⟩, Grew.refl _ _, ButA.refl _ _⟩
    rw [ht] at HT
    clear h ht
    simp only [Bool.false_eq_true, if_false]
    go_enter Try.func20, Try.ntmps20
    go_wp2_with fail
    refine HT.out.mono ?_
    rintro e w0 ⟨rfl, rfl⟩
    clear HT
    go_wp2
    go_ret
    exact ⟨rfl, HK.out⟩
  · have hin : 0 ≤ i ∧ i < (l.length : Int) ∧ l.getD i.toNat false = true := by
      have h5 := ht
      unfold takenS at h5
      simp only [Bool.and_eq_true, decide_eq_true_eq] at h5
      exact h5
    obtain ⟨k, rfl⟩ : ∃ k : Nat, i = (k : Int) := ⟨i.toNat, by omega⟩
    rw [Int.toNat_natCast] at hin
    have hk : k < l.length := by omega
    have hkt : l[k]? = some true := by
      have h5 := hin.2.2
      rw [List.getD_eq_getElem?_getD, List.getElem?_eq_getElem hk, Option.getD_some] at h5
      rw [List.getElem?_eq_getElem hk, h5]
    rw [ht] at HT
    rw [Int.toNat_natCast]
    simp only [if_true]
    have hcell : w.cell? ⟨tg, k, none⟩ = some (.bool l[k]) := by rw [h.row.cellAt k (by omega), boolsV_get l k hk]
    have hfr : w.frozen? ⟨tg, k, none⟩ = false := h.row.frozenAt k
    have c0 := h.nums.cell0
    have cF := h.nums.cell
    -- the world behind the store
    have hst : ∀ (x : World), x = w.setCell ⟨tg, k, none⟩ (.bool false) → NumS x (.slice (some ⟨tg, 0, none⟩) l.length c) b fv fl := fun x e => by
      subst e
      exact h.nums.keep (Below.heap_setCell _ _ _ _ (fun e => h.tb e.symm)) (fun j e => Below.heap_setCell _ _ _ _ (fun e2 => h.sep (by rw [e]; exact congrArg some e2)))
    have hfl : fl.length < 4096 := by
      have h1 := free_set_false l k hkt
      have h2 := free_le (l.set k false)
      rw [List.length_set] at h2
      have h3 := h.heap.len
      omega
    have HP := hide (nhpush_any _ b fv fl k (w.setCell ⟨tg, k, none⟩ (.bool false)) (hst _ rfl) hfl h.heap.heap)
    have HFIN : Hid (∀ w2 v' l', NumS w2 (.slice (some ⟨tg, 0, none⟩) l.length c) b v' l' → l'.Perm (fl ++ [k]) → HeapN l' l'.length → ButA (nb18 b fv) (w.setCell ⟨tg, k, none⟩ (.bool false)) w2 → (∀ j, v'.ownBlock = some j → fv.ownBlock = some j ∨ (w.setCell ⟨tg, k, none⟩ (.bool false)).heap.size ≤ j) →
        KR IsK A w (.pointer (some ⟨b, 0, none⟩)) (l.set k false) w2) := hide (fun w2 v' l' q1 q2 q3 q4 q5 => by
      have hz : (w.setCell ⟨tg, k, none⟩ (.bool false)).heap.size = w.heap.size := by simp [World.setCell]
      rw [hz] at q5
      have htl := h.lt tg h.inT
      have hh := h.heap.give k hkt q2 q3
      have hsep : v'.ownBlock ≠ some tg := fun e => (q5 tg e).elim h.sep (fun h5 => by omega)
      have hr2 := (h.row.stored k (.bool false)).1
      have e4 : (boolsV l).set k (.bool false) = boolsV (l.set k false) := by unfold boolsV; rw [List.map_set]
      rw [e4] at hr2
      have hr3 := ownsRow_keep hr2 (W := w2) fun j e => by
        have e2 : tg = j := by injection e
        subst e2
        exact q4.block tg (by rw [hz]; exact htl) (fun h5 => h5.elim h.tb h.sep)
      have hB1 : ButA A w (w.setCell ⟨tg, k, none⟩ (.bool false)) := ButA.setCell (a := ⟨tg, k, none⟩) (ButA.refl A w) (.inl h.inT) _
      have hB : ButA A w w2 := hB1.trans q4 fun j hj hb => hb.elim (fun e => e ▸ h.inB) (h.inF j)
      refine ⟨fun j => A j ∨ v'.ownBlock = some j, ⟨b, tg, c, v', l', rfl, ⟨?_, ?_, hh, h.tb, hsep, .inl h.inB, .inl h.inT, fun j e => .inr e, fun j hj => ?_, by rw [List.length_set]; exact h.le⟩⟩, fun j hj => hj.elim .inl (fun e => (q5 j e).elim (fun h5 => .inl (h.inF j h5)) .inr), hB⟩
      · rw [List.length_set]; exact q1
      · rw [List.length_set]; exact hr3
      · rcases hj with hj | hj
        · exact Nat.lt_of_lt_of_le (h.lt j hj) hB.size
        · exact (q1.row.lt j hj).2)
    clear h ht hin hst hfl hkt
    generalize l[k] = t at *
    generalize l.length = n at *
    have hk2 : (k : Int) < n := by omega
    go_enter Try.func20, Try.ntmps20
    go_wp2_with fail
    refine HT.out.mono ?_
    rintro e w0 ⟨rfl, rfl⟩
    clear HT
    go_wp2_with fail
    refine HP.out.mono ?_
    rintro e w2 ⟨rfl, v', l', q1, q2, q3, q4, q5⟩
    have HK := hide (HFIN.out w2 v' l' q1 q2 q3 q4 q5)
    clear HP HFIN q1 q2 q3 q4 q5
    go_wp2
    go_ret
    exact ⟨rfl, HK.out⟩
/-- What set leaves, of a space whose row of marks is new. -/
theorem SetS.space {A : Nat → Prop} {w w0 wr : World} {b tg n : Nat} {s : SL} {fv : Value} {l : List Nat} (h : SetS w0 wr b tg n n s n fv l) (hn : s.length = n) (hle : n ≤ 4096) (htb : tg ≠ b) (hA : A b) (hAl : ∀ k, A k → k < w.heap.size) (ht : w.heap.size ≤ tg) (h0 : ButA A w w0) (hl0 : tg < w0.heap.size) :
    KR IsK A w (.pointer (some ⟨b, 0, none⟩)) s wr := by
  subst hn
  have hsz := h0.size
  have hB : ButA A w wr := h0.trans h.but fun j hj e => by
    have : j = b := e
    rw [this]; exact hA
  refine ⟨fun k => A k ∨ k = tg ∨ fv.ownBlock = some k, ⟨b, tg, s.length, fv, l, rfl, ⟨h.nums, h.row, h.rise.heap, htb, fun e => by have := h.new tg e; omega, .inl hA, .inr (.inl rfl), fun k e => .inr (.inr e), fun k hk => ?_, hle⟩⟩, fun k hk => ?_, hB⟩
  · rcases hk with hk | hk | hk
    · exact Nat.lt_of_lt_of_le (hAl k hk) hB.size
    · rw [hk]; exact Nat.lt_of_lt_of_le hl0 h.but.size
    · exact (h.nums.row.lt k hk).2
  · rcases hk with hk | hk | hk
    · exact .inl hk
    · exact .inr (by omega)
    · have := h.new k hk
      exact .inr (by omega)
set_option maxHeartbeats 4000000 in
theorem pnew_ok (n : Nat) (w : World) (h : 1 ≤ n ∧ n ≤ 4096) : Calls Try.prog 8 #[.int .i64 (n : Int)] w fun e w' => ∃ a A, e = .returned (.tuple #[.pointer (some a), .int .i64 0]) ∧ IsK A w' (.pointer (some a)) (newS n) ∧ (∀ k, A k → w.heap.size ≤ k) ∧ Below w.heap.size w w' := by
  obtain ⟨x, hx⟩ : ∃ x, w.alloc (.cells #[.slice none 0 0, .slice none 0 0] 52) = x := ⟨_, rfl⟩
  have xb : x.heap[w.heap.size]? = some (.cells #[.slice none 0 0, .slice none 0 0] 52 (0, 0)) := by rw [← hx]; exact alloc_newS _ _
  have xs : x.heap.size = w.heap.size + 1 := by rw [← hx]; simp
  have hbx : Below w.heap.size w x := by rw [← hx]; exact below_alloc _ _
  obtain ⟨w1, hm, ho, hb⟩ := make_bools x n (by omega)
  have h1 : ¬ (n : Int) < 1 := by omega
  have h2 : ¬ 4096 < (n : Int) := by omega
  have wb : w1.heap[w.heap.size]? = some (.cells #[.slice none 0 0, .slice none 0 0] 52 (0, 0)) := (hb.block _ (by omega)).trans xb
  have hlr : (List.replicate n false).length = n := List.length_replicate
  have HS := hide (pset_any w.heap.size x.heap.size n n (List.replicate n false) w1 (.slice none 0 0) (.slice none 0 0) (by simp [World.cell?, wb]) (by simp [World.cell?, wb]) (by simp [World.frozen?, wb]) (by simp [World.frozen?, wb]) (by
    rcases ho.2 with ⟨h5, _⟩ | ⟨g, cap, cur, h5, h6, h7⟩
    · cases h5
    · exact ⟨ho.1, .inr ⟨g, cap, cur, h5, Nat.zero_le _, h7⟩⟩) hlr h.2 (by omega))
  have HFIN : Hid (∀ wr fv l, SetS w1 wr w.heap.size x.heap.size n n (List.replicate n false) n fv l → ∃ A, IsK A wr (.pointer (some ⟨w.heap.size, 0, none⟩)) (newS n) ∧ (∀ k, A k → w.heap.size ≤ k) ∧ Below w.heap.size w wr) := hide (fun wr fv l hS => by
    have hkr := SetS.space (A := fun k => k = w.heap.size) (w := x) hS hlr h.2 (by omega) rfl (fun k hk => by omega) (Nat.le_refl _) (ButA.of hb) (ho.lt _ rfl).2
    obtain ⟨A', k1, k2, k3⟩ := hkr
    exact ⟨A', k1, fun k hk => (k2 k hk).elim (fun e => by omega) (fun e => by omega), hbx.trans (k3.below (n := w.heap.size) (fun k hk => by omega) (by omega))⟩)
  have HX := hide hx
  clear hx xb wb hb ho hlr h hbx xs
  go_enter Try.func8, Try.ntmps8
  go_wp2_with fail
  rw [HX.out, hm]
  simp only [Result.andThen_ok, Oper.upon_value]
  go_wp2_with fail
  refine HS.out.mono ?_
  rintro e w2 ⟨rfl, fv, l, hS⟩
  have HF := hide (HFIN.out w2 fv l hS)
  clear HS HFIN hS hm
  go_wp2
  go_ret2
  obtain ⟨A, q1, q2, q3⟩ := HF.out
  exact ⟨_, A, rfl, q1, q2, q3⟩
set_option maxHeartbeats 1000000 in
theorem pnew_no (n : Int) (w : World) (h : ¬ (1 ≤ n ∧ n ≤ 4096)) : Calls Try.prog 8 #[.int .i64 n] w fun e w' => e = .returned (.tuple #[.pointer none, .int .i64 1]) ∧ Below w.heap.size w w' := by
  by_cases h1 : n < 1
  · clear h
    go_enter Try.func8, Try.ntmps8
    go_wp2
    go_ret2
    exact ⟨rfl, Below.refl _ _⟩
  · have h2 : 4096 < n := by omega
    clear h
    go_enter Try.func8, Try.ntmps8
    go_wp2
    go_ret2
    exact ⟨rfl, Below.refl _ _⟩
set_option maxHeartbeats 8000000 in
theorem ponly_any (A : Nat → Prop) (v : Value) (l : SL) (zv : Value) (of : List Int) (w : World) (hK : IsK A w v l) (hl : l.length ≤ 4096) (hZ : IsZ w zv of) (hO : of ≠ [] → Off A zv) (hz : of.length ≤ 9223372036854775807) : Calls Try.prog 21 #[v, zv] w fun e w' => e = .returned (.int .i64 (onlyS l of).2) ∧ KR IsK A w v (onlyS l of).1 w' := by
  obtain ⟨bb, tg, c, fv, fl, rfl, h⟩ := hK
  obtain ⟨za, zc, rfl⟩ := hZ.form
  obtain ⟨w1, hm, ho, hb⟩ := make_bools w l.length (by omega)
  have c00 := h.nums.cell0
  have HA : Hid (∀ i, i < of.length → ∃ z b o, of[i]? = some z ∧ za = some ⟨b, o, none⟩ ∧ ∀ W, Below w.heap.size w W → W.cell? ⟨b, o + i, none⟩ = some (.int .i64 z)) := hide (fun i hi => by
    obtain ⟨b, o, e, hc⟩ := hZ.at_ i _ (List.getElem?_eq_getElem hi)
    exact ⟨_, b, o, List.getElem?_eq_getElem hi, e, hc⟩)
  have HNO : Hid (onlyF l.length of (List.replicate l.length false) = none → onlyS l of = (l, 1)) := hide (fun h => by unfold onlyS; rw [h])
  have HYE : Hid (∀ o, onlyF l.length of (List.replicate l.length false) = some o → onlyS l of = (o, 0)) := hide (fun o h => by unfold onlyS; rw [h])
  have HST := hide (only_step l.length of)
  have HEN := hide (only_end l.length of)
  have HSM : Hid (∀ x, Below w.heap.size w x → KR IsK A w (.pointer (some ⟨bb, 0, none⟩)) l x) := hide (fun x hx => ⟨A, IsK.keep ⟨bb, tg, c, fv, fl, rfl, h⟩ (fun k hk => hx.block k (h.lt k hk)), Grew.refl _ _, ButA.of hx⟩)
  have HW0 : Hid (w1.ownsRow w.heap.size 4 1 (.slice (some ⟨w.heap.size, 0, none⟩) l.length l.length) l.length (boolsV (List.replicate l.length false))) := hide ho
  have HL0 : Hid (onlyF l.length (of.drop 0) (List.replicate l.length false) = onlyF l.length of (List.replicate l.length false) ∧ (List.replicate l.length false).length = l.length) := hide ⟨rfl, List.length_replicate⟩
  have HB0 := hide hb
  have hbb : bb < w.heap.size := h.lt bb h.inB
  have HSET : Hid (∀ (wr : World) (o : SL), Below w.heap.size w wr → wr.ownsRow w.heap.size 4 1 (.slice (some ⟨w.heap.size, 0, none⟩) l.length l.length) l.length (boolsV o) → o.length = l.length →
      Calls Try.prog 22 #[.pointer (some ⟨bb, 0, none⟩), .slice (some ⟨w.heap.size, 0, none⟩) l.length l.length] wr fun e w' => e = .returned (.tuple #[]) ∧ KR IsK A w (.pointer (some ⟨bb, 0, none⟩)) o w') := hide (fun wr o hbw hro hol => by
    have n1 := h.nums.keep (x := wr) (hbw.block bb hbb) (fun k e => hbw.block k (h.nums.row.lt k e).2)
    refine (pset_any bb w.heap.size l.length l.length o wr _ _ n1.cell0 n1.cell n1.frozen0 n1.frozen ?_ hol h.le (by omega)).mono ?_
    · rcases hro.2 with ⟨h5, _⟩ | ⟨g, cap, cur, h5, h6, h7⟩
      · cases h5
      · exact ⟨hro.1, .inr ⟨g, cap, cur, h5, Nat.zero_le _, h7⟩⟩
    · rintro e w' ⟨rfl, fv', l', hS⟩
      exact ⟨rfl, SetS.space hS hol h.le (by omega) h.inB h.lt (Nat.le_refl _) (ButA.of hbw) (hro.lt _ rfl).2⟩)
  generalize hR : onlyF l.length of (List.replicate l.length false) = R at *
  clear hR
  generalize hT : onlyS l of = T at *
  clear hT hZ ho hb h hO
  obtain ⟨O0, hO0⟩ : ∃ O, List.replicate l.length false = O := ⟨_, rfl⟩
  rw [hO0] at HW0 HL0
  clear hO0
  generalize l.length = n at *
  generalize of.length = m at *
  go_enter Try.func21, Try.ntmps21
  go_wp2
  go_loopw [18] (fun vi wr => ∃ (i : Nat) (o : SL), vi = .int .i64 (i : Int) ∧ i ≤ m ∧ Hid (wr.ownsRow w.heap.size 4 1 (.slice (some ⟨w.heap.size, 0, none⟩) n n) n (boolsV o)) ∧ Hid (onlyF n (of.drop i) o = R ∧ o.length = n) ∧ Hid (Below w.heap.size w wr)) (fun vi _ => m - (intOf vi).toNat)
  case atStart => exact ⟨0, O0, rfl, Nat.zero_le _, HW0, HL0, HB0⟩
  case round =>
    clear HW0 HL0 HB0
    obtain ⟨i, o, rfl, hi, HW, HL, HB⟩ := hrel
    by_cases hlt : i < m
    · have hlt2 : (i : Int) < m := by omega
      obtain ⟨z, b, p, hz2, rfl, hc⟩ := HA.out i hlt
      have hcell := hc wr HB.out
      have hst := HST.out i z o hz2
      rw [HL.out.1] at hst
      have HS := hide hst
      clear hst hz2 hc
      by_cases h0 : 0 ≤ z
      · by_cases h1 : z < (n : Int)
        · obtain ⟨k, rfl⟩ : ∃ k : Nat, z = (k : Int) := ⟨z.toNat, by omega⟩
          have hk : k < n := by omega
          obtain ⟨c1, c2, c3, c4⟩ := own_setS HW.out HL.out.2 k hk
          have hS := HS.out
          rw [decide_eq_true h0, decide_eq_true h1, Int.toNat_natCast] at hS
          have g0 : ¬ (k : Int) < 0 := by omega
          have g1 : ¬ (n : Int) ≤ (k : Int) := by omega
          cases hgo : o.getD k false
          · rw [hgo] at hS c1
            have hS2 : R = onlyF n (of.drop (i + 1)) (o.set k true) := hS
            have HW2 := hide c3
            have HL2 : Hid (onlyF n (of.drop (i + 1)) (o.set k true) = R ∧ (o.set k true).length = n) := hide ⟨hS2.symm, by rw [List.length_set]; exact HL.out.2⟩
            have HB2 := hide (HB.out.trans c4)
            clear hS hS2 HS HW HL c3 c4 HB hgo
            go_wp2
            go_roundw
            case rel => exact ⟨i + 1, _, by go_num, by omega, HW2, HL2, HB2⟩
            case measure => simp [intOf]; omega
          · rw [hgo] at hS c1
            have hS2 : R = none := hS
            have hT := HNO.out hS2
            subst hT
            have HF := hide (HSM.out wr HB.out)
            clear hS hS2 HS HW HL c3 c4 HB hgo HSM HYE HNO HST HEN HA
            go_wp2
            go_ret
            exact ⟨rfl, HF.out⟩
        · have hS := HS.out
          rw [decide_eq_true h0, decide_eq_false h1] at hS
          have hS2 : R = none := hS
          have hT := HNO.out hS2
          subst hT
          have HF := hide (HSM.out wr HB.out)
          have g0 : ¬ z < 0 := by omega
          have g1 : (n : Int) ≤ z := by omega
          clear hS hS2 HS HW HL HB HSM HYE HNO HST HEN HA h0 h1
          go_wp2
          go_ret
          exact ⟨rfl, HF.out⟩
      · have hS := HS.out
        rw [decide_eq_false h0] at hS
        have hS2 : R = none := hS
        have hT := HNO.out hS2
        subst hT
        have HF := hide (HSM.out wr HB.out)
        have g0 : z < 0 := by omega
        clear hS hS2 HS HW HL HB HSM HYE HNO HST HEN HA h0
        go_wp2
        go_ret
        exact ⟨rfl, HF.out⟩
    · have hlt2 : ¬ (i : Int) < m := by omega
      have hN := HEN.out i o (by omega)
      rw [HL.out.1] at hN
      have hT := HYE.out o hN
      subst hT
      have HC := hide (HSET.out wr o HB.out HW.out HL.out.2)
      clear HL hN HST HYE HNO HEN HA HSM HSET HB HW
      go_wp2_with fail
      refine HC.out.mono ?_
      rintro e w8 ⟨rfl, hk8⟩
      have HF := hide hk8
      clear HC hk8
      go_wp2
      go_ret
      exact ⟨rfl, HF.out⟩
set_option maxHeartbeats 1000000 in
theorem nil_free (w : World) : Calls Try.prog 14 #[.pointer none] w fun e w' => e = .returned (.int .i64 0) ∧ Below w.heap.size w w' := by
  go_enter Try.func14, Try.ntmps14
  go_wp2
  go_ret
  exact ⟨rfl, Below.refl _ _⟩
set_option maxHeartbeats 1000000 in
theorem nil_taken (i : Int) (w : World) : Calls Try.prog 16 #[.pointer none, .int .i64 i] w fun e w' => e = .returned (.bool false) ∧ Below w.heap.size w w' := by
  go_enter Try.func16, Try.ntmps16
  go_wp2
  go_ret
  exact ⟨rfl, Below.refl _ _⟩
set_option maxHeartbeats 1000000 in
theorem nil_only (a : Option Addr) (n c : Nat) (w : World) : Calls Try.prog 21 #[.pointer none, .slice a n c] w fun e w' => e = .returned (.int .i64 1) ∧ Below w.heap.size w w' := by
  go_enter Try.func21, Try.ntmps21
  go_wp2
  go_ret
  exact ⟨rfl, Below.refl _ _⟩
set_option maxHeartbeats 1000000 in
theorem nil_take (w : World) : Calls Try.prog 19 #[.pointer none] w fun e w' => (∃ z, e = .returned (.tuple #[.int .i64 z, .int .i64 3])) ∧ Below w.heap.size w w' := by
  have H := hide (nil_free w)
  go_enter Try.func19, Try.ntmps19
  go_wp2_with fail
  refine H.out.mono ?_
  rintro e w1 ⟨rfl, hb⟩
  have HB := hide hb
  clear H hb
  go_wp2
  go_ret2
  exact ⟨⟨_, rfl⟩, HB.out⟩
set_option maxHeartbeats 1000000 in
theorem nil_give (i : Int) (w : World) : Calls Try.prog 20 #[.pointer none, .int .i64 i] w fun e w' => e = .returned (.int .i64 1) ∧ Below w.heap.size w w' := by
  have H := hide (nil_taken i w)
  go_enter Try.func20, Try.ntmps20
  go_wp2_with fail
  refine H.out.mono ?_
  rintro e w1 ⟨rfl, hb⟩
  have HB := hide hb
  clear H hb
  go_wp2
  go_ret
  exact ⟨rfl, HB.out⟩
end Go.Proofs.Ytkopfigagnagoaa
