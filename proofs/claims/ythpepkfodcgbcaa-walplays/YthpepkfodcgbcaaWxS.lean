import Derived.Test.YthpepkfodcgbcaaWxA
import Derived.Test.YthpepkfodcgbcaaWxM
import Derived.Test.YthpepkfodcgbcaaWq35
import Derived.Test.YthpepkfodcgbcaaWq11
import Derived.Test.YthpepkfodcgbcaaWxK
/- What the statements' own sectors answers. -/
set_option linter.unusedVariables false
set_option linter.unusedSimpArgs false
set_option maxRecDepth 40000
namespace Go.Proofs.Ythpepkfodcgbcaa
open Go.RowKit

/-- A sector: a cell's bytes, or noughts. -/
def oneB (l : List CL) (j : Nat) : Bs := match l[j]? with
  | some c => if mayC c then encC c else List.replicate 64 0
  | none => List.replicate 64 0
def secsB (l : List CL) (at_ : Nat) : Nat → Bs
  | 0 => []
  | i + 1 => secsB l at_ i ++ oneB l (at_ + i)
theorem oneB_len (l : List CL) (j : Nat) : (oneB l j).length = 64 := by
  unfold oneB
  split
  · next c _ =>
    split
    · next h => exact enc_len c h.2.2.2
    · exact List.length_replicate
  · exact List.length_replicate
theorem secsB_len (l : List CL) (at_ : Nat) : ∀ i, (secsB l at_ i).length = 64 * i
  | 0 => rfl
  | i + 1 => by rw [secsB, List.length_append, secsB_len l at_ i, oneB_len]; omega
set_option maxHeartbeats 8000000 in
theorem sectors_any (lv : Value) (l : List (CL × Value)) (at_ : Nat) (w : World) (hL : IsL w lv l) (hat : at_ ≤ 1000) (hl : l.length ≤ 9223372036854775807) :
    Calls Try.prog 33 #[lv, .int .i64 (at_ : Int)] w fun e w' => ∃ g c, e = .returned (.slice (some ⟨g, 0, none⟩) 256 c) ∧ w'.ownsRow w.heap.size 5 1 (.slice (some ⟨g, 0, none⟩) 256 c) 256 (Lib.byteCells (secsB (l.map Prod.fst) at_ 4)) ∧ Below w.heap.size w w' := by
  obtain ⟨la, lc, rfl⟩ := hL.form
  have HA : Hid (∀ i (hi : i < l.length), ∃ b o, la = some ⟨b, o, none⟩ ∧ ∃ c : CL, ∃ xa xc, (l.map Prod.fst)[i]? = some c ∧ ∀ x, Below w.heap.size w x → (x.cell? ⟨b, o + i * 5, none⟩ = some (.int .u64 (c.ep : Int)) ∧ x.cell? ⟨b, o + i * 5 + 1, none⟩ = some (.int .u64 (c.li : Int)) ∧ x.cell? ⟨b, o + i * 5 + 2, none⟩ = some (.int .i64 c.part) ∧ x.cell? ⟨b, o + i * 5 + 3, none⟩ = some (.int .i64 c.of) ∧ x.cell? ⟨b, o + i * 5 + 4, none⟩ = some (.slice xa c.data.length xc)) ∧ IsC x c (.slice xa c.data.length xc)) := hide (fun i hi => by
    obtain ⟨b, o, e, hc, hi2⟩ := hL.at_ i hi
    obtain ⟨xa, xc, ex⟩ := hi2.d.form
    refine ⟨b, o, e, l[i].1, xa, xc, by rw [List.getElem?_map, List.getElem?_eq_getElem hi]; rfl, fun x hb => ⟨?_, ?_⟩⟩
    · rw [← ex]; exact hc x hb
    · rw [← ex]; exact hi2.below hb)
  have HNO : Hid (∀ i, l.length ≤ i → oneB (l.map Prod.fst) i = List.replicate 64 0) := hide (fun i hi => by
    unfold oneB
    rw [List.getElem?_eq_none (by rw [List.length_map]; exact hi)])
  have HO0 : Hid ((w.alloc (.cells #[] 5)).ownsRow w.heap.size 5 1 (.slice (some ⟨w.heap.size, 0, none⟩) 0 0) 0 (Lib.byteCells [])) := hide ⟨rfl, .inr ⟨w.heap.size, 0, #[], rfl, Nat.le_refl _, alloc_newC w _, Nat.le_refl _, by decide, rfl, rfl⟩⟩
  have HB0 := hide (below_alloc w (.cells #[] 5))
  generalize hLM : l.map Prod.fst = LM at *
  clear hLM hL
  have HF : Hid (∀ x g c, x.ownsRow w.heap.size 5 1 (.slice (some ⟨g, 0, none⟩) (64 * 4) c) (64 * 4) (Lib.byteCells (secsB LM at_ 4)) → Below w.heap.size w x → (fun e w' => ∃ g c, e = .returned (.slice (some ⟨g, 0, none⟩) 256 c) ∧ w'.ownsRow w.heap.size 5 1 (.slice (some ⟨g, 0, none⟩) 256 c) 256 (Lib.byteCells (secsB LM at_ 4)) ∧ Below w.heap.size w w') (Ending.returned (.slice (some ⟨g, 0, none⟩) 256 c)) x) := hide (fun x g c h1 h2 => ⟨g, c, rfl, h1, h2⟩)
  generalize hP : (fun e w' => ∃ g c, e = .returned (.slice (some ⟨g, 0, none⟩) 256 c) ∧ w'.ownsRow w.heap.size 5 1 (.slice (some ⟨g, 0, none⟩) 256 c) 256 (Lib.byteCells (secsB LM at_ 4)) ∧ Below w.heap.size w w' : Ending → World → Prop) = PP at *
  clear hP
  generalize hll : l.length = ll at *
  go_enter Try.func33, Try.ntmps33
  go_wp2
  go_loopw [5, 6] (fun v5 v6 wr => ∃ (i g c n : Nat), v5 = .slice (some ⟨g, 0, none⟩) n c ∧ v6 = .int .i64 (i : Int) ∧ Hid (i ≤ 4 ∧ n = 64 * i) ∧ Hid (wr.ownsRow w.heap.size 5 1 (.slice (some ⟨g, 0, none⟩) n c) n (Lib.byteCells (secsB LM at_ i))) ∧ Hid (Below w.heap.size w wr)) (fun _ v6 _ => 4 - (intOf v6).toNat)
  case atStart => exact ⟨0, w.heap.size, 0, 0, rfl, rfl, hide ⟨by decide, rfl⟩, HO0, HB0⟩
  case round =>
    clear HO0 HB0
    obtain ⟨i, g, c, n, rfl, rfl, HI, HO, HB⟩ := hrel
    by_cases hlt : i < 4
    · have hlt2 : (i : Int) < 4 := by omega
      obtain ⟨w1, hmk, hYm, hbm⟩ := full_make (n := 64) wr (by decide)
      have HB1 := hide (HB.out.trans (hbm.mono HB.out.size))
      have HO1 := hide (owns_keepC HO.out hbm)
      have HYM := hide hYm
      have hwa : wrap64 ((at_ : Int) + (i : Int)) = ((at_ + i : Nat) : Int) := by unfold wrap64; omega
      have hwi : wrap64 ((i : Int) + 1) = (i : Int) + 1 := by unfold wrap64; omega
      change (Instr.makeSlice 43 (.int .i64 64) (.int .i64 64)).run Try.prog wr = _ at hmk
      -- what is put behind, whichever way
      have HPUSH : Hid (∀ x u, Below w1.heap.size w1 x → IsY x u (oneB LM (at_ + i)) → ∃ g' c' w', (Builtin.append_ #[43, 43] 43 #[.slice (some ⟨g, 0, none⟩) n c, u]).run Try.prog x = .ok (.slice (some ⟨g', 0, none⟩) (n + 64) c') w' ∧ Hid (w'.ownsRow w.heap.size 5 1 (.slice (some ⟨g', 0, none⟩) (n + 64) c') (n + 64) (Lib.byteCells (secsB LM at_ (i + 1)))) ∧ Hid (Below w.heap.size w w')) := hide (fun x u hx hu => by
        have hn : n = (secsB LM at_ i).length := by rw [secsB_len]; exact HI.out.2
        obtain ⟨g', c', w', hr, ho, hb⟩ := append_some x w.heap.size g n c u (secsB LM at_ i) (oneB LM (at_ + i)) hn (owns_keepC HO1.out hx) hu (by rw [secsB_len]; omega) (by rw [oneB_len]; decide) (Nat.le_trans HB1.out.size hx.size)
        rw [List.length_append, oneB_len, ← hn] at hr ho
        exact ⟨g', c', w', hr, hide ho, hide (HB1.out.trans ((hx.mono HB1.out.size).trans hb))⟩)
      have HI2 : Hid (i + 1 ≤ 4 ∧ n + 64 = 64 * (i + 1)) := hide ⟨hlt, by have := HI.out.2; omega⟩
      clear hbm hYm HO HO1 HI hlt
      by_cases hin : at_ + i < ll
      · have hin2 : ((at_ + i : Nat) : Int) < (ll : Int) := by omega
        obtain ⟨cb, co, rfl, cc, xa, xc, hcc, hcell⟩ := HA.out (at_ + i) hin
        obtain ⟨⟨k0, k1, k2, k3, k4⟩, kc⟩ := hcell w1 HB1.out
        by_cases h39 : cc.data.length ≤ 39
        · have h39i : (cc.data.length : Int) ≤ 39 := by omega
          have HE := hide (renc_any cc _ w1 kc)
          have HON : Hid (oneB LM (at_ + i) = if mayC cc then encC cc else List.replicate 64 0) := hide (by unfold oneB; rw [hcc])
          obtain ⟨ep, li, part, of, data⟩ := cc
          simp only at k0 k1 k2 k3 k4 h39i HE
          clear hcell kc h39 HA HNO hin hcc
          have hj : ((at_ + i : Nat) : Int) = (at_ : Int) + (i : Int) := by omega
          go_wp2_with fail
          refine HE.out.mono ?_
          rintro e w2 ⟨hb2, ⟨hnm, rfl⟩ | ⟨hm, ea, ek, rfl, ho⟩⟩
          · obtain ⟨g', c', w', hr, ho2, hb3⟩ := HPUSH.out w2 _ hb2 (by rw [HON.out, if_neg hnm]; exact HYM.out.below hb2)
            have HR := hide hr
            clear HE HPUSH hb2 hnm hr k0 k1 k2 k3 k4
            go_wp2_with (at_builtin; refine Lib.wpList_append_run _ rfl (.tmp 46) (.tmp 47) _ _ rfl _ _ rfl rfl _ _ HR.out ?_)
            go_roundw
            case rel => exact ⟨i + 1, g', c', n + 64, rfl, rfl, HI2, ho2, hb3⟩
            case measure => exact meas4 i HI2.out.1
          · have hel := enc_len ⟨ep, li, part, of, data⟩ hm.2.2.2
            have hyE : IsY w2 (.slice ea 64 ek) (encC ⟨ep, li, part, of, data⟩) := by
              have h5 := ho
              rw [show (64 : Nat) = (encC ⟨ep, li, part, of, data⟩).length from hel.symm] at h5
              have h6 := owns_isYB h5
              rw [hel] at h6
              exact h6
            obtain ⟨g', c', w', hr, ho2, hb3⟩ := HPUSH.out w2 _ hb2 (by rw [HON.out, if_pos hm]; exact hyE)
            have HR := hide hr
            clear HE HPUSH hb2 hm hr ho hel hyE k0 k1 k2 k3 k4
            go_wp2_with (at_builtin; refine Lib.wpList_append_run _ rfl (.tmp 46) (.tmp 47) _ _ rfl _ _ rfl rfl _ _ HR.out ?_)
            go_roundw
            case rel => exact ⟨i + 1, g', c', n + 64, rfl, rfl, HI2, ho2, hb3⟩
            case measure => exact meas4 i HI2.out.1
        · have h39i : ¬ (cc.data.length : Int) ≤ 39 := by omega
          have hnm : ¬ mayC cc := fun h => h39 h.2.2.2
          have hon : oneB LM (at_ + i) = List.replicate 64 0 := by unfold oneB; rw [hcc]; exact if_neg hnm
          obtain ⟨g', c', w', hr, ho2, hb3⟩ := HPUSH.out w1 _ (Below.refl _ _) (by rw [hon]; exact HYM.out)
          have HR := hide hr
          clear HPUSH hr hcell kc h39 HA HNO hin hcc hon hnm
          generalize cc.data.length = dl at *
          go_wp2_with (at_builtin; refine Lib.wpList_append_run _ rfl (.tmp 46) (.tmp 47) _ _ rfl _ _ rfl rfl _ _ HR.out ?_)
          go_roundw
          case rel => exact ⟨i + 1, g', c', n + 64, rfl, rfl, HI2, ho2, hb3⟩
          case measure => exact meas4 i HI2.out.1
      · have hin2 : ¬ ((at_ + i : Nat) : Int) < (ll : Int) := by omega
        have hon := HNO.out (at_ + i) (by omega)
        obtain ⟨g', c', w', hr, ho2, hb3⟩ := HPUSH.out w1 _ (Below.refl _ _) (by rw [hon]; exact HYM.out)
        have HR := hide hr
        clear HPUSH hr HA HNO hin hon
        go_wp2_with (at_builtin; refine Lib.wpList_append_run _ rfl (.tmp 46) (.tmp 47) _ _ rfl _ _ rfl rfl _ _ HR.out ?_)
        go_roundw
        case rel => exact ⟨i + 1, g', c', n + 64, rfl, rfl, HI2, ho2, hb3⟩
        case measure => exact meas4 i HI2.out.1
    · have hlt2 : ¬ (i : Int) < 4 := by omega
      have hi4 : i = 4 := by have := HI.out.1; omega
      have hn : n = 256 := by have := HI.out.2; omega
      subst hn
      have ho := HO.out
      rw [hi4] at ho
      have HFF := hide (HF.out wr g c ho HB.out)
      clear HF HO HB HA HNO ho hi4 hlt
      go_wp2
      exact HFF.out
end Go.Proofs.Ythpepkfodcgbcaa
/- WalReads: the program's disk with the document's in its box; a block written on both sides; what is opened. -/
set_option linter.unusedVariables false
set_option linter.unusedSimpArgs false
set_option maxRecDepth 40000
namespace Go.Proofs.Ythpepkfodcgbcaa
open Go.RowKit

theorem blk_ltW {x : World} {R : Nat} {o : Obj} (h : x.heap[R]? = some o) : R < x.heap.size := (Array.getElem?_eq_some_iff.1 h).1
/-- The program's disk, and the document's in its box. -/
structure WD (w : World) (v : Value) (d : DM) (R : Nat) (r : DV) (x : World) : Prop where
  k : ∃ A, IsK A x v d ∧ (∀ k, A k → w.heap.size ≤ k) ∧ ¬ A R
  c : x.heap[R]? = some (.cells (dkC r) 31 (0, 0))
  i : IsD x r
  b : Below w.heap.size w x
  r0 : w.heap.size ≤ R
theorem WD.below {w x y : World} {v : Value} {d : DM} {R : Nat} {r : DV} (h : WD w v d R r x) (hb : Below x.heap.size x y) : WD w v d R r y := by
  obtain ⟨A, h1, h2, h3⟩ := h.k
  exact ⟨⟨A, h1.below hb, h2, h3⟩, (hb.block R (blk_ltW h.c)).trans h.c, h.i.below hb, h.b.trans (hb.mono h.b.size), h.r0⟩
theorem WD.liv {w x : World} {v : Value} {d : DM} {R : Nat} {r : DV} (h : WD w v d R r x) : Liv w v d x := by
  obtain ⟨A, h1, h2, _⟩ := h.k
  exact ⟨⟨A, h1, h2⟩, h.b⟩
/-- The document's disk is laid into a new box. -/
theorem WD.start {w x : World} {v : Value} {d : DM} {r : DV} (h : Liv w v d x) (hi : IsD x r) : WD w v d x.heap.size r (x.alloc (.cells (dkC r) 31)) := by
  obtain ⟨A, h1, h2⟩ := h.k
  have hb := below_alloc x (.cells (dkC r) 31)
  exact ⟨⟨A, h1.below hb, h2, fun ha => by have := h1.lt _ ha; omega⟩, alloc_new x _, hi.below hb, (h.below hb).b, h.b.size⟩
theorem butA_set5 (x : World) (R : Nat) (v0 v1 v2 v3 v4 : Value) : ButA (fun k => k = R) x (set5 x R v0 v1 v2 v3 v4) :=
  ⟨by simp [set5, World.setCell], by simp [set5, World.setCell], by simp [set5, World.setCell], Nat.le_of_eq (set5_size x R v0 v1 v2 v3 v4).symm, fun k hk hn => set5_other x R v0 v1 v2 v3 v4 k hn⟩
/-- The document's disk is put into its box. -/
theorem WD.put {w x : World} {v : Value} {d : DM} {R : Nat} {r r' : DV} (h : WD w v d R r x) (hi : IsD x r') : WD w v d R r' (set5 x R r'.sv r'.lv (.int .i64 r'.m.left) (.bool r'.m.fuse) (.bool r'.m.off)) := by
  obtain ⟨A, h1, h2, h3⟩ := h.k
  have ho := set5_other x R r'.sv r'.lv (.int .i64 r'.m.left) (.bool r'.m.fuse) (.bool r'.m.off)
  have hs := set5_size x R r'.sv r'.lv (.int .i64 r'.m.left) (.bool r'.m.fuse) (.bool r'.m.off)
  have hbut := butA_set5 x R r'.sv r'.lv (.int .i64 r'.m.left) (.bool r'.m.fuse) (.bool r'.m.off)
  refine ⟨⟨A, h1.keep fun k ha => ho k (fun e => h3 (e ▸ ha)), h2, h3⟩, set5_dk h.c, hi.butA (fun k hk => by cases hk; exact noStr_dk h.i h.c) hbut, below_set5 h.r0 h.b _ _ _ _ _, h.r0⟩
theorem WD.off {w x y : World} {v u : Value} {d : DM} {R : Nat} {r : DV} (h : WD w v d R r x) (hy : ∀ k, k ≠ R → k < x.heap.size → y.heap[k]? = x.heap[k]?) (hu : ∀ k, u.ownBlock = some k → x.heap.size ≤ k) : ∃ A, IsK A y v d ∧ (∀ k, A k → w.heap.size ≤ k) ∧ ¬ A R ∧ Off A u := by
  obtain ⟨A, h1, h2, h3⟩ := h.k
  exact ⟨A, h1.keep fun k ha => hy k (fun e => h3 (e ▸ ha)) (h1.lt k ha), h2, h3, fun k hk ha => by have := hu k hk; have := h1.lt k ha; omega⟩
theorem wd_write {w x : World} {v : Value} {d : DM} {R : Nat} {r : DV} {n : Int} {u : Value} {b : Bs} (hF : Fit d) (h : WD w v d R r x) (hY : IsY x u b) (ho : ∃ A, IsK A x v d ∧ (∀ k, A k → w.heap.size ≤ k) ∧ ¬ A R ∧ Off A u) (hbl : b.length ≤ 1000000) :
    Calls Try.prog 35 #[v, .int .i64 n, u] x fun e y => e = .returned (.int .i64 (writeD d n b).2) ∧ Hid (WD w v (writeD d n b).1 R r y) := by
  obtain ⟨A, h1, h2, h3, h4⟩ := ho
  refine (pwrite_any A v d n u b x h1 hF hY (fun _ => h4) hbl).mono fun e y hh => ⟨hh.1, hide ?_⟩
  obtain ⟨A', k1, k2, k3⟩ := hh.2
  have hR := blk_ltW h.c
  exact ⟨⟨A', k1, fun k hk => (k2 k hk).elim (h2 k) (fun q => Nat.le_trans h.b.size q), fun ha => (k2 R ha).elim h3 (fun q => by omega)⟩, (k3.block R hR h3).trans h.c, h.i.butA (fun k hk => h1.ns k hk) k3, h.b.trans (k3.below h2 h.b.size), h.r0⟩
theorem wd_rwrite {w x : World} {v : Value} {d : DM} {R : Nat} {r : DV} {n : Int} {u : Value} {b : Bs} (hF : Fit r.m) (h : WD w v d R r x) (hY : IsY x u b) (hbl : b.length ≤ 1000000) :
    Calls Try.prog 34 #[dkA r, .int .i64 n, u] x fun e y => ∃ r' : DV, e = .returned (.tuple #[dkA r', .int .i64 (writeD r.m n b).2]) ∧ r'.m = (writeD r.m n b).1 ∧ Hid (IsD y r') ∧ Hid (WD w v d R r y) ∧ Hid (Below x.heap.size x y) := by
  have hl := hF.left
  refine (rwrite_any r n u b x h.i hY hF.ok hF.s hF.l hbl ⟨by omega, hl.2⟩).mono ?_
  rintro e y ⟨r', e1, e2, e3, e4⟩
  exact ⟨r', e1, e2, hide e3, hide (h.below e4), hide e4⟩
theorem wd_open_some {w x : World} {v : Value} {d : DM} {R : Nat} {r : DV} {first size : Int} {ep : Nat} {m : LM} (h : WD w v d R r x) (hF : Fit d) (hs : d.safe.length ≤ 800) (h1 : -9223372036854775808 ≤ first ∧ first ≤ 9223372036854775807) (h2 : -9223372036854775808 ≤ size ∧ size ≤ 9223372036854775807) (he : ep < 18446744073709551616) (hm : openW d first size ep = (some m, 0)) :
    Calls Try.prog 11 #[v, .int .i64 first, .int .i64 size, .int .u64 (ep : Int)] x fun e y => ∃ a, e = .returned (.tuple #[.pointer (some a), .int .i64 0]) ∧ Hid (LW w v (.pointer (some a)) d m y) ∧ Hid (WD w v d R r y) := by
  obtain ⟨B, k1, k2, _⟩ := h.k
  refine (popen_any B v d first size ep x k1 hF hs h1 h2 he).mono ?_
  rintro e y ⟨hb, ⟨E, e1, _⟩ | ⟨m', a, C, e1, rfl, hl, hc⟩⟩
  · rw [hm] at e1; cases e1
  · rw [hm] at e1
    cases e1
    refine ⟨a, rfl, hide ⟨⟨fun k => B k ∨ C k, ⟨B, C, k1.below hb, hl, fun k q1 q2 => ?_, fun k => Iff.rfl⟩, fun k hk => hk.elim (k2 k) (fun q => Nat.le_trans h.b.size (hc k q))⟩, h.b.trans (hb.mono h.b.size)⟩, hide (h.below hb)⟩
    have q3 := hc k q1
    have q4 := k1.lt k q2
    omega
theorem wd_open_none {w x : World} {v : Value} {d : DM} {R : Nat} {r : DV} {first size : Int} {ep : Nat} {E : Int} (h : WD w v d R r x) (hF : Fit d) (hs : d.safe.length ≤ 800) (h1 : -9223372036854775808 ≤ first ∧ first ≤ 9223372036854775807) (h2 : -9223372036854775808 ≤ size ∧ size ≤ 9223372036854775807) (he : ep < 18446744073709551616) (hm : openW d first size ep = (none, E)) :
    Calls Try.prog 11 #[v, .int .i64 first, .int .i64 size, .int .u64 (ep : Int)] x fun e y => e = .returned (.tuple #[.pointer none, .int .i64 E]) ∧ Hid (WD w v d R r y) := by
  obtain ⟨B, k1, k2, _⟩ := h.k
  refine (popen_any B v d first size ep x k1 hF hs h1 h2 he).mono ?_
  rintro e y ⟨hb, ⟨E', e1, rfl⟩ | ⟨m', a, C, e1, _⟩⟩
  · rw [hm] at e1
    cases e1
    exact ⟨rfl, hide (h.below hb)⟩
  · rw [hm] at e1; cases e1
theorem wd_ropen {w x : World} {v : Value} {d : DM} {R : Nat} {r : DV} {first size : Int} {ep : Nat} {o : Option LM} {E : Int} (h : WD w v d R r x) (hF : Fit r.m) (hs : r.m.safe.length ≤ 800) (h1 : -9223372036854775808 ≤ first ∧ first ≤ 9223372036854775807) (h2 : -9223372036854775808 ≤ size ∧ size ≤ 9223372036854775807) (he : ep < 18446744073709551616) (hm : openW r.m first size ep = (o, E)) :
    Calls Try.prog 12 #[dkA r, .int .i64 first, .int .i64 size, .int .u64 (ep : Int)] x fun e y => ∃ g : LgV, e = .returned (.tuple #[lgA g, .int .i64 E]) ∧ g.m = o.getD zeroLg.m ∧ Hid (IsG (fun _ => True) y g) ∧ Hid (Below x.heap.size x y) := by
  refine (ropen_any (fun _ => True) r first size ep x h.i hF.ok hs hF.l h1 h2 (fun _ _ => trivial) he).mono ?_
  rintro e y ⟨g, e1, e2, e3, e4⟩
  rw [hm] at e1 e2
  exact ⟨g, e1, e2, hide e3, hide e4⟩
/-- So many blocks are written on a calm disk. -/
structure Wrt (q i : Nat) (d : DM) : Prop where
  f : Fit d
  s : d.safe.length = 4 * (1 + q)
  l : d.l.length = 4 * i
  c : Calm d
theorem Wrt.start {q : Nat} (h : q < 12) : Wrt q 0 (newD (1 + q)) := ⟨Fit.new (by omega), by show (List.replicate ((1 + q) * 4) noughtB).length = _; rw [List.length_replicate]; omega, rfl, calm_new _⟩
theorem Wrt.step {q i : Nat} {d : DM} {b : Bs} (h : Wrt q i d) (hq : q < 12) (hi : i < 1 + q) (hb : b.length = 256) : (writeD d (i : Int) b).2 = 0 ∧ Wrt q (i + 1) (writeD d (i : Int) b).1 := by
  have hs := h.s
  have hll := h.l
  have hF := h.f.write (by omega) (i : Int) b
  have hw := write_in (d := d) (n := i) (b := b) (by omega) hb
  rw [spend_calm h.c] at hw
  simp only [if_true] at hw
  rw [hw] at hF ⊢
  refine ⟨rfl, hF, hs, ?_, h.c⟩
  show (d.l ++ piecesL i b).length = _
  rw [List.length_append, hll]
  show 4 * i + 4 = _
  omega
theorem open_fitZ {q i : Nat} {d : DM} {first size : Int} {ep : Nat} {m : LM} (h : Wrt q i d) (hq : q < 12) (hi : i ≤ 12) (he : ep < 18446744073709551616) (hm : openW d first size ep = (some m, 0)) : OkG m ∧ m.recs.length ≤ 100000 ∧ m.ep = ep := by
  have hr : isReg d first size = true := by
    cases hc : isReg d first size
    · rw [show openW d first size ep = (none, 1) from by unfold openW; rw [hc]; rfl] at hm
      cases hm
    · rfl
  unfold isReg at hr
  simp only [Bool.and_eq_true, decide_eq_true_eq] at hr
  have hs := h.s
  have hll := h.l
  obtain ⟨f, rfl⟩ : ∃ f : Nat, first = f := ⟨first.toNat, by omega⟩
  obtain ⟨s, rfl⟩ : ∃ s : Nat, size = s := ⟨size.toNat, by omega⟩
  have hf := open_fit h.f (by omega) (by omega) (by omega) he hm i (by omega)
  have hrecs := hf.1.recs
  have hle := hf.1.ok.le
  have hsz := hf.1.ok.size
  exact ⟨hf.1.ok, by omega, hf.2.2.2.1⟩
theorem open_or (d : DM) (first size : Int) (ep : Nat) : (∃ m, openW d first size ep = (some m, 0)) ∨ ∃ E, E ≠ 0 ∧ openW d first size ep = (none, E) := by
  unfold openW
  split
  · split
    · exact .inr ⟨9, by decide, rfl⟩
    · split
      · exact .inr ⟨8, by decide, rfl⟩
      · exact .inl ⟨_, rfl⟩
  · exact .inr ⟨1, by decide, rfl⟩
end Go.Proofs.Ythpepkfodcgbcaa
