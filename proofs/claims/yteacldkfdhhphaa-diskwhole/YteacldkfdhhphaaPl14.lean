/- What the statements' play does to a disk of the program's. -/
import Derived.Test.YteacldkfdhhphaaPk14
set_option linter.unusedVariables false
set_option linter.unusedSimpArgs false
set_option maxRecDepth 40000
namespace Go.Proofs.Yteacldkfdhhphaa
open Go.RowKit

theorem IsK.below {A : Nat → Prop} {w x : World} {v : Value} {d : DM} (h : IsK A w v d) (hb : Below w.heap.size w x) : IsK A x v d := h.keep fun k hk => hb.block k (h.lt k hk)
theorem KR.of {A : Nat → Prop} {w w' : World} {v : Value} {d : DM} (h : IsK A w v d) (hb : Below w.heap.size w w') : KR IsK A w v d w' := ⟨A, h.below hb, Grew.refl _ _, ButA.of hb⟩
/-- Ahead of a call new blocks were laid. -/
theorem KR.after {A : Nat → Prop} {w w1 w' : World} {v : Value} {d : DM} (hb : Below w.heap.size w w1) (h : KR IsK A w1 v d w') : KR IsK A w v d w' := by
  obtain ⟨A', h1, h2, h3⟩ := h
  exact ⟨A', h1, fun k hk => (h2 k hk).elim .inl (fun h => .inr (Nat.le_trans hb.size h)), (ButA.of hb).trans h3 fun j _ h => h⟩
/-- While the bytes that were handed over, or told, are written over. -/
structure OverS (A : Nat → Prop) (w : World) (v : Value) (m : DM) (u : Value) (l : Bs) (x : World) : Prop where
  y : NewY w.heap.size x u l
  k : ∃ A', IsK A' x v m ∧ Grew A A' w.heap.size ∧ Off A' u
  b : ButA A w x
theorem OverS.done {A : Nat → Prop} {w x : World} {v u : Value} {m : DM} {l : Bs} (h : OverS A w v m u l x) : KR IsK A w v m x := by
  obtain ⟨A', h1, h2, h3⟩ := h.k
  exact ⟨A', h1, h2, h.b⟩
theorem OverS.step {A : Nat → Prop} {w x : World} {v : Value} {a : Option Addr} {n c : Nat} {m : DM} {l : Bs} (h : OverS A w v m (.slice a n c) l x) (i : Nat) (hi : i < l.length) (z : UInt8) :
    ∃ g o, a = some ⟨g, o, none⟩ ∧ (∃ old, x.cell? ⟨g, o + i, none⟩ = some old) ∧ x.frozen? ⟨g, o + i, none⟩ = false ∧ OverS A w v m (.slice a n c) (l.set i z) (x.setCell ⟨g, o + i, none⟩ (.int .u8 (z.toNat : Int))) := by
  obtain ⟨g, o, rfl, hn, hg, hg2, hc, hf, hy⟩ := h.y.at_ i hi z
  obtain ⟨A', h1, h2, h3⟩ := h.k
  refine ⟨g, o, rfl, ⟨_, hc⟩, hf, hy, ⟨A', h1.keep fun k hk => Below.heap_setCell _ _ _ _ (fun e => ?_), h2, h3⟩, h.b.setCell (.inr hg) _⟩
  subst e
  exact h3 _ rfl hk
theorem over_write {A : Nat → Prop} {w w1 w2 : World} {v u : Value} {m : DM} {l : Bs} (hA : ∀ k, A k → k < w.heap.size) (hb : Below w.heap.size w w1) (hy : NewY w.heap.size w1 u l) (h : KR IsK A w1 v m w2) : OverS A w v m u l w2 := by
  obtain ⟨A', h1, h2, h3⟩ := h
  have hk : ∀ k, u.ownBlock = some k → ¬ A k ∧ k < w1.heap.size := fun k hk => by
    obtain ⟨p1, p2⟩ := hy.blk k hk
    exact ⟨fun ha => by have := hA k ha; omega, p2⟩
  refine ⟨hy.keep h3.size fun k hkk => h3.block k (hk k hkk).2 (hk k hkk).1, ⟨A', h1, fun k hkk => (h2 k hkk).elim .inl (fun h => .inr (Nat.le_trans hb.size h)), fun k hkk ha => ?_⟩, (ButA.of hb).trans h3 fun j _ h => h⟩
  rcases h2 k ha with hh | hh
  · exact (hk k hkk).1 hh
  · have := (hk k hkk).2
    omega
theorem over_read {A : Nat → Prop} {w w1 : World} {v u : Value} {m : DM} {l : Bs} (hK : IsK A w v m) (hb : Below w.heap.size w w1) (hy : NewY w.heap.size w1 u l) : OverS A w v m u l w1 :=
  ⟨hy, ⟨A, hK.below hb, Grew.refl _ _, fun k hk ha => by have := (hy.blk k hk).1; have := hK.lt k ha; omega⟩, ButA.of hb⟩
abbrev acW (w : World) (a : AV) : World := w.alloc (.cells (acC a) 37)
/-- The act's box. -/
theorem ac_box (w : World) (a : AV) {x : World} (h : Below (acW w a).heap.size (acW w a) x) : x.heap[w.heap.size]? = some (.cells (acC a) 37 (0, 0)) ∧ Below w.heap.size w x := by
  have hb := below_alloc w (.cells (acC a) 37)
  exact ⟨(h.block w.heap.size (by simp)).trans (alloc_new w _), hb.trans (h.mono hb.size)⟩
/-- An act that may be asked about, and how it lies beside a disk. -/
structure ActK (A : Nat → Prop) (w : World) (a : AV) : Prop where
  y : IsY w a.bv a.b
  f : IsF w a.kv a.keep
  o : a.keep ≠ [] → Off A a.kv
  n : -9223372036854775808 ≤ a.n ∧ a.n ≤ 9223372036854775807
  b : a.b.length ≤ 300
  k : a.keep.length ≤ 300
set_option maxHeartbeats 8000000 in
theorem play_any (A : Nat → Prop) (v : Value) (d : DM) (a : AV) (w : World) (hK : IsK A w v d) (hF : Fit d) (hA : ActK A w a) :
    Calls Try.prog 13 #[v, acA a] w fun e w' => e = .returned (.int .i64 (modelD d a).2) ∧ KR IsK A w v (modelD d a).1 w' := by
  have hb0 := (ac_box w a (Below.refl _ (acW w a)))
  have hbw := hb0.2
  have hal : (acB a).length ≤ 300 := by
    unfold acB
    split
    · exact hA.b
    · rw [block_len]; omega
  have HT : Hid (∀ x, Below (acW w a).heap.size (acW w a) x → x.cell? ⟨w.heap.size, 0, none⟩ = some (.int .i64 a.kind) ∧ x.cell? ⟨w.heap.size, 1, none⟩ = some (.int .i64 a.n) ∧ x.cell? ⟨w.heap.size, 2, none⟩ = some a.bv ∧ x.cell? ⟨w.heap.size, 3, none⟩ = some (.bool a.short) ∧ x.cell? ⟨w.heap.size, 4, none⟩ = some a.kv) := hide (fun x h => ac_cells (ac_box w a h).1)
  have HB0 := hide (Below.refl (acW w a).heap.size (acW w a))
  have HBY : Hid (Calls Try.prog 28 #[acA a] (acW w a) fun e w1 => ∃ (p : Option Addr) (n c : Nat), e = .returned (.slice p n c) ∧ Hid (n = (acB a).length) ∧ Hid (NewY w.heap.size w1 (.slice p n c) (acB a)) ∧ Hid (Below (acW w a).heap.size (acW w a) w1)) := hide ((abytes_any a (acW w a) (hA.y.below hbw) (by have := hA.b; omega) (by obtain ⟨x, y, z⟩ := hA.f.form; exact ⟨_, _, _, z⟩)).mono fun e w1 hh => by
    obtain ⟨v, rfl, ho, hb⟩ := hh
    obtain ⟨p, c, rfl⟩ := owns_formG ho
    exact ⟨p, _, c, rfl, hide rfl, hide ((owns_newY ho).base (by simp)), hide hb⟩)
  have HWR : Hid (∀ w1 u, Below (acW w a).heap.size (acW w a) w1 → NewY w.heap.size w1 u (acB a) → Calls Try.prog 23 #[v, .int .i64 a.n, u] w1 fun e w2 => e = .returned (.int .i64 (writeD d a.n (acB a)).2) ∧ Hid (OverS A w v (writeD d a.n (acB a)).1 u (acB a) w2)) := hide (fun w1 u hb hy => (pwrite_any A v d a.n u (acB a) w1 (hK.below (ac_box w a hb).2) hF hy.isY (fun _ k hk ha => by have := (hy.blk k hk).1; have := hK.lt k ha; omega) (by omega)).mono fun e w2 hh => ⟨hh.1, hide (over_write hK.lt (ac_box w a hb).2 hy hh.2)⟩)
  have HFL : Hid (Calls Try.prog 25 #[v] (acW w a) fun e w2 => e = .returned (.int .i64 (flushD d).2) ∧ Hid (KR IsK A w v (flushD d).1 w2)) := hide ((pflush_any A v d _ (hK.below hbw) hF).mono fun e w2 hh => ⟨hh.1, hide (hh.2.after hbw)⟩)
  have HAM : Hid (Calls Try.prog 26 #[v, .int .i64 a.n] (acW w a) fun e w2 => e = .returned (.tuple #[]) ∧ Hid (KR IsK A w v (armD d a.n) w2)) := hide ((pfuse_any A v d a.n _ (hK.below hbw) hF hA.n).mono fun e w2 hh => ⟨hh.1, hide (hh.2.after hbw)⟩)
  have HCR : Hid (Calls Try.prog 22 #[v, a.kv] (acW w a) fun e w2 => e = .returned (.tuple #[]) ∧ Hid (KR IsK A w v (crashD d a.keep) w2)) := hide ((pcrash_any A v d a.kv a.keep _ (hK.below hbw) hF (hA.f.below hbw) hA.o (by have := hA.k; omega)).mono fun e w2 hh => ⟨hh.1, hide (hh.2.after hbw)⟩)
  have HRD : Hid (Calls Try.prog 15 #[v, .int .i64 a.n] (acW w a) fun e w2 => ∃ (p : Option Addr) (n c : Nat), e = .returned (.tuple #[.slice p n c, .int .i64 (readD d a.n).2]) ∧ Hid (n = (readD d a.n).1.length) ∧ Hid (OverS A w v d (.slice p n c) (readD d a.n).1 w2)) := hide ((pread_any A v d a.n _ (hK.below hbw) hF).mono fun e w2 hh => by
    obtain ⟨u, rfl, hy, hb2⟩ := hh
    obtain ⟨p, c, rfl⟩ := hy.form
    exact ⟨p, _, c, rfl, hide rfl, hide (over_read hK (ac_box w a hb2).2 (hy.base (by simp)))⟩)
  have HRL : (readD d a.n).1.length ≤ 100000000 := read_len hF.ok hF.s a.n
  have HSM := hide (KR.of hK hbw)
  unfold modelD
  generalize writeD d a.n (acB a) = RW at *
  generalize flushD d = RF at *
  generalize armD d a.n = RA at *
  generalize crashD d a.keep = RC at *
  generalize readD d a.n = RR at *
  obtain ⟨ap, rfl⟩ := hK.ptr
  obtain ⟨ba, bc, eb⟩ := hA.y.form
  obtain ⟨ka, kc, ek⟩ := hA.f.form
  clear hK hF hA hb0 hbw
  generalize hAB : acB a = AB at *
  clear hAB
  obtain ⟨kind, n, b, short, keep, bv, kv⟩ := a
  simp only [] at eb ek
  subst eb ek
  simp only [] at *
  generalize b.length = bl at *
  generalize keep.length = kl at *
  by_cases hk : kind = 1
  · subst hk
    rw [if_pos rfl]
    obtain ⟨z0, z1, z2, z3, z4⟩ := HT.out _ HB0.out
    clear HFL HAM HCR HRD HSM HRL
    go_enter Try.func13, Try.ntmps13
    go_wp2_with fail
    refine HBY.out.mono ?_
    rintro e w1 ⟨p, pn, pc, rfl, hpn, hy, hb1⟩
    have HW1 := hide (HWR.out w1 _ hb1.out hy.out)
    obtain ⟨z0, z1, z2, z3, z4⟩ := HT.out _ hb1.out
    clear HBY HWR HT HB0 hy hb1
    go_wp2_with fail
    refine HW1.out.mono ?_
    rintro e w2 ⟨rfl, HO⟩
    clear HW1
    go_wp2
    go_loopw [7] (fun vi wr => ∃ (i : Nat) (l : Bs), vi = .int .i64 (i : Int) ∧ i ≤ pn ∧ Hid (l.length = pn) ∧ Hid (OverS A w (.pointer (some ap)) RW.1 (.slice p pn pc) l wr)) (fun vi _ => pn - (intOf vi).toNat)
    case atStart => exact ⟨0, AB, rfl, Nat.zero_le _, hide hpn.out.symm, HO⟩
    case round =>
      clear HO
      obtain ⟨i, l, rfl, hi, hl, HO⟩ := hrel
      have hpn2 : pn ≤ 300 := by have := hpn.out; omega
      by_cases hlt : i < pn
      · have hlt2 : (i : Int) < pn := by omega
        obtain ⟨g, o, rfl, ⟨old, hold⟩, hfz, ho⟩ := HO.out.step i (by rw [hl.out]; exact hlt) 99
        have HO2 := hide ho
        have hl2 : Hid ((l.set i 99).length = pn) := hide (by rw [List.length_set]; exact hl.out)
        clear ho HO hpn
        go_wp2
        go_roundw
        case rel => exact ⟨i + 1, l.set i 99, by go_num, by omega, hl2, HO2⟩
        case measure => simp [intOf]; omega
      · have hlt2 : ¬ (i : Int) < pn := by omega
        have HZ := hide HO.out.done
        clear HO hpn hl
        go_wp2
        go_ret
        exact ⟨rfl, HZ.out⟩
  · rw [if_neg hk]
    have hb1 : (kind == 1) = false := by simp [hk]
    by_cases hk2 : kind = 2
    · subst hk2
      rw [if_pos rfl]
      obtain ⟨z0, z1, z2, z3, z4⟩ := HT.out _ HB0.out
      clear HBY HWR HSM HAM HCR HRD HT HB0
      go_enter Try.func13, Try.ntmps13
      go_wp2_with fail
      refine HFL.out.mono ?_
      rintro e w2 ⟨rfl, HZ⟩
      clear HFL
      go_wp2
      go_ret
      exact ⟨rfl, HZ.out⟩
    · rw [if_neg hk2]
      have hb2 : (kind == 2) = false := by simp [hk2]
      by_cases hk3 : kind = 3
      · subst hk3
        rw [if_pos rfl]
        obtain ⟨z0, z1, z2, z3, z4⟩ := HT.out _ HB0.out
        clear HBY HWR HSM HFL HCR HRD HT HB0
        go_enter Try.func13, Try.ntmps13
        go_wp2_with fail
        refine HAM.out.mono ?_
        rintro e w2 ⟨rfl, HZ⟩
        clear HAM
        go_wp2
        go_ret
        exact ⟨rfl, HZ.out⟩
      · rw [if_neg hk3]
        have hb3 : (kind == 3) = false := by simp [hk3]
        by_cases hk4 : kind = 4
        · subst hk4
          rw [if_pos rfl]
          obtain ⟨z0, z1, z2, z3, z4⟩ := HT.out _ HB0.out
          clear HBY HWR HSM HFL HAM HRD HT HB0
          go_enter Try.func13, Try.ntmps13
          go_wp2_with fail
          refine HCR.out.mono ?_
          rintro e w2 ⟨rfl, HZ⟩
          clear HCR
          go_wp2
          go_ret
          exact ⟨rfl, HZ.out⟩
        · rw [if_neg hk4]
          have hb4 : (kind == 4) = false := by simp [hk4]
          by_cases hk5 : kind = 5
          · subst hk5
            rw [if_pos rfl]
            obtain ⟨z0, z1, z2, z3, z4⟩ := HT.out _ HB0.out
            clear HBY HWR HSM HFL HAM HCR HT HB0
            obtain ⟨RB, RE⟩ := RR
            simp only [] at *
            go_enter Try.func13, Try.ntmps13
            go_wp2_with fail
            refine HRD.out.mono ?_
            rintro e w2 ⟨p, pn, pc, rfl, hpn, HO⟩
            clear HRD
            go_wp2
            go_loopw [10] (fun vi wr => ∃ (i : Nat) (l : Bs), vi = .int .i64 (i : Int) ∧ i ≤ pn ∧ Hid (l.length = pn) ∧ Hid (OverS A w (.pointer (some ap)) d (.slice p pn pc) l wr)) (fun vi _ => pn - (intOf vi).toNat)
            case atStart => exact ⟨0, RB, rfl, Nat.zero_le _, hide hpn.out.symm, HO⟩
            case round =>
              clear HO
              obtain ⟨i, l, rfl, hi, hl, HO⟩ := hrel
              have hpn2 : pn ≤ 100000000 := by have := hpn.out; omega
              by_cases hlt : i < pn
              · have hlt2 : (i : Int) < pn := by omega
                obtain ⟨g, o, rfl, ⟨old, hold⟩, hfz, ho⟩ := HO.out.step i (by rw [hl.out]; exact hlt) 98
                have HO2 := hide ho
                have hl2 : Hid ((l.set i 98).length = pn) := hide (by rw [List.length_set]; exact hl.out)
                clear ho HO hpn HRL
                go_wp2
                go_roundw
                case rel => exact ⟨i + 1, l.set i 98, by go_num, by omega, hl2, HO2⟩
                case measure => simp [intOf]; omega
              · have hlt2 : ¬ (i : Int) < pn := by omega
                have HZ := hide HO.out.done
                clear HO hpn hl HRL
                go_wp2
                go_ret
                exact ⟨rfl, HZ.out⟩
          · rw [if_neg hk5]
            have hb5 : (kind == 5) = false := by simp [hk5]
            obtain ⟨z0, z1, z2, z3, z4⟩ := HT.out _ HB0.out
            clear HBY HWR HFL HAM HCR HRD HT HB0 HRL
            go_enter Try.func13, Try.ntmps13
            go_wp2
            go_ret
            exact ⟨rfl, HSM.out⟩
end Go.Proofs.Yteacldkfdhhphaa
