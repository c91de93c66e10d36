/- The program's Move. -/
import Derived.Test.YtjgklemhlmgheaaPI5
set_option linter.unusedVariables false
set_option linter.unusedSimpArgs false
namespace Go.Proofs.Ytjgklemhlmgheaa
open Go.RowKit

theorem append_ints (W : World) (v x : Value) (l m : List Nat) (h : W.ownsRow 0 3 1 v l.length (intCells l)) (hx : IsI W x m) (hl : l.length ≤ 1000000) (hm : m.length ≤ 1000000) :
    ∃ v' w', (Builtin.append_ #[44, 44] 44 #[v, x]).run Try.prog W = .ok v' w' ∧ RowDone v W (l ++ m) (.returned v') w' := by
  have hll : (l ++ m).length = l.length + m.length := List.length_append
  rcases hx with ⟨rfl, rfl⟩ | ⟨b, o, cap, rfl, hc, hcs⟩
  · rw [List.append_nil]
    rcases h.2 with ⟨rfl, h0⟩ | ⟨g, cap, cur, rfl, hbg, hg, hnc, hcm, hcu, htake⟩
    · refine ⟨.slice none 0 0, W, ?_, _, rfl, h, fun k e => .inl e, ButA.refl _ _⟩
      simp [Builtin.append_, run_underlying (Try.underlying44), sizeOf, typeInfo, show Try.prog.info? 3 = some Try.t3 from by kernel_rfl, Builtin.lenOf, Builtin.firstCells, loadCells, loadCellsFrom]
    · have hr := run_append_room_src (P := Try.prog) W 44 44 44 3 Try.t3 Try.underlying44 (by kernel_rfl) g 0 l.length cap (.slice none 0 0) 0 [] (Src.ofNil _ Try.underlying44 0) (by omega) (by simp) (by simp)
      exact ⟨_, _, hr, _, rfl, h, fun k e => .inl e, ButA.refl _ _⟩
  · have hnews : ∀ j u, (intCells m)[j]? = some u → W.cell? ((⟨b, o, none⟩ : Addr).add j) = some u := by
      intro j u hu
      rcases Nat.lt_or_ge j m.length with hj | hj
      · rw [intCells_get m j hj] at hu
        injection hu with hu
        subst hu
        rw [show (⟨b, o, none⟩ : Addr).add j = ⟨b, o + j, none⟩ by unfold Addr.add; split <;> simp_all]
        exact hcs j hj
      · rw [List.getElem?_eq_none (by rw [intCells_len]; exact hj)] at hu
        cases hu
    obtain ⟨v', w', hr, ho, hg, hiff⟩ := run_append_own (P := Try.prog) W 0 44 44 3 Try.t3 _ 1 8 Try.underlying44 (by kernel_rfl) rfl (by kernel_rfl) (by kernel_rfl) (by kernel_rfl) (by omega)
      v l.length (intCells l) h ⟨b, o, none⟩ m.length cap (intCells m) (by simp [intCells]) hnews (intCells_1c m) (by unfold maxLen; omega) (by omega) (Nat.zero_le _)
    refine ⟨v', w', hr, v', rfl, ?_, ?_, ⟨hg.os, hg.tape, hg.output, hg.size, fun k hk hn => hg.block k hk (fun e => hn e.symm)⟩⟩
    · rw [hll, show intCells (l ++ m) = intCells l ++ intCells m by simp [intCells]]
      exact ho
    · by_cases h0 : v = .slice none 0 0 ∧ m.length = 0
      · rw [hiff.2 h0]
        intro k e
        cases e
      · exact append_where (P := Try.prog) W 44 44 44 3 Try.t3 _ 1 Try.underlying44 (by kernel_rfl) rfl (by kernel_rfl) v l.length (intCells l) h _ m.length (intCells m) (Src.ofSlice _ Try.underlying44 ⟨b, o, none⟩ m.length cap _ (by simp [intCells]) hnews (intCells_1c m)) (by unfold maxLen; omega) (by show _ * 8 ≤ _; omega) (fun e h1 => h0 ⟨e, h1⟩) v' w' hr
/-- The loop's state: the first k kids have their new parent. -/
structure MoveS (A : Nat → Prop) (w W1 : World) (pb g b : Nat) (R1 : List RN) (ks : List Nat) (k : Nat) (wr : World) : Prop where
  pg : PG A wr pb g (parAll R1 (ks.take k) (b : Int))
  same : ∀ j, j ≠ g → wr.heap[j]? = W1.heap[j]?
  bt : ButA A w wr
theorem MoveS.step {A : Nat → Prop} {w W1 : World} {pb g b : Nat} {R1 : List RN} {ks : List Nat} {k : Nat} {wr : World} (h : MoveS A w W1 pb g b R1 ks k wr) (hk : k < ks.length) (hx : ks[k] < R1.length) (hgA : A g) : MoveS A w W1 pb g b R1 ks (k + 1) (wr.setCell ⟨g, ks[k] * 7 + 1, none⟩ (.int .i64 (b : Int))) := by
  refine ⟨?_, fun j hj => (Below.heap_setCell _ _ _ _ hj).trans (h.same j hj), h.bt.setCell (.inl hgA) _⟩
  rw [parAll_take _ _ _ _ hk]
  exact h.pg.parTo ks[k] (by rw [parAll_len]; exact hx) (b : Int)
theorem PG.cells {A : Nat → Prop} {w : World} {pb g : Nat} {R : List RN} (h : PG A w pb g R) : ∃ cap, w.cell? ⟨pb, 0, none⟩ = some (.slice (some ⟨g, 0, none⟩) R.length cap) ∧ (∀ i (hi : i < R.length), w.cell? ⟨g, i * 7 + 1, none⟩ = some (.int .i64 R[i].par)) ∧ ∀ j, w.frozen? ⟨g, j, none⟩ = false := by
  obtain ⟨cap, rs, hR, hP⟩ := h
  have c0 := hP.tree
  have hl := map_len hR
  rw [hl] at c0
  refine ⟨cap, c0, fun i hi => ?_, hP.frz⟩
  rw [← map_get hR i (by omega) hi]
  exact hP.cellAt i (by omega) 1 (by omega)
set_option maxRecDepth 10000 in
set_option maxHeartbeats 4000000 in
theorem move_p {A : Nat → Prop} {w : World} {pb : Nat} {T : TR} (hW : WF T) (hz : T.length ≤ 1000000) (za zb : Int) (h : PT A w pb T) :
    Calls Try.prog 32 #[.pointer (some ⟨pb, 0, none⟩), .int .i64 za, .int .i64 zb] w (Acted A w pb (moveZ T za zb)) := by
  have HPT := hide h
  have HI1 := hide (fun W (hP : PT A W pb T) => has_p za hP)
  have HI2 := hide (fun W (hP : PT A W pb T) => has_p zb hP)
  rw [raw_len] at HI1 HI2
  have B1 := hide (Below.refl w.heap.size w)
  unfold moveZ
  by_cases hp : inT T za
  · rw [show decide (0 ≤ za ∧ za < T.length) = true from decide_eq_true hp] at HI1
    by_cases hc : inT T zb
    · rw [show decide (0 ≤ zb ∧ zb < T.length) = true from decide_eq_true hc] at HI2
      rw [if_pos ⟨hp, hc⟩]
      obtain ⟨a, rfl⟩ : ∃ a : Nat, za = (a : Int) := ⟨za.toNat, by unfold inT at hp; omega⟩
      obtain ⟨b, rfl⟩ : ∃ b : Nat, zb = (b : Int) := ⟨zb.toNat, by unfold inT at hc; omega⟩
      have hal : a < T.length := by unfold inT at hp; omega
      have hbl : b < T.length := by unfold inT at hc; omega
      have hai : (a : Int) < T.length := by omega
      have hbi : (b : Int) < T.length := by omega
      rw [Int.toNat_natCast, Int.toNat_natCast]
      clear hp hc
      obtain ⟨g, hG⟩ := h
      have HG := hide hG
      obtain ⟨cap, c0, _, _⟩ := hG.cells
      rw [raw_len] at c0
      have HC0 := hide c0
      have HWI := hide (fun W (hP : PT A W pb T) => within_p hW hz b a hbl hP)
      have HHO : Hid (∀ W, Below w.heap.size w W → Calls Try.prog 50 #[.pointer (some ⟨g, b * 7, none⟩)] W fun e w' => e = .returned (.bool (holdsL T b)) ∧ Below W.heap.size W w') := hide fun W bb => by
        have := holds_p (hG.below bb) b (by rw [raw_len]; exact hbl)
        rw [raw_get] at this
        exact this
      clear c0 hG
      cases hh : holdsL T b with
      | false =>
        rw [hh] at HHO
        rw [Bool.false_and, if_neg (by decide)]
        clear hW
        go_enter Try.func32, Try.ntmps32
        go_wp2_with fail
        refine (HI1.out _ (HPT.out.below B1.out)).mono ?_
        rintro e x1 ⟨rfl, b1⟩
        replace B1 := hide (B1.out.trans (b1.mono B1.out.size))
        clear b1
        go_wp2_with fail
        refine (HI2.out _ (HPT.out.below B1.out)).mono ?_
        rintro e x2 ⟨rfl, b1⟩
        replace B1 := hide (B1.out.trans (b1.mono B1.out.size))
        try clear d0
        have d0 := (B1.out.cell (cell_lt HC0.out)).trans HC0.out
        clear b1
        go_wp2_with fail
        refine (HHO.out _ (B1.out)).mono ?_
        rintro e x3 ⟨rfl, b1⟩
        replace B1 := hide (B1.out.trans (b1.mono B1.out.size))
        try clear d0
        clear b1
        go_wp2_with fail
        have HF := hide (acted_same HPT.out B1.out)
        go_ret
        exact ⟨rfl, HF.out.1, HF.out.2⟩
      | true =>
        rw [hh] at HHO
        rw [Bool.true_and]
        cases hw : withinL T b a with
        | true =>
          rw [hw] at HWI
          rw [Bool.not_true, if_neg (by decide)]
          clear hW
          go_enter Try.func32, Try.ntmps32
          go_wp2_with fail
          refine (HI1.out _ (HPT.out.below B1.out)).mono ?_
          rintro e x1 ⟨rfl, b1⟩
          replace B1 := hide (B1.out.trans (b1.mono B1.out.size))
          clear b1
          go_wp2_with fail
          refine (HI2.out _ (HPT.out.below B1.out)).mono ?_
          rintro e x2 ⟨rfl, b1⟩
          replace B1 := hide (B1.out.trans (b1.mono B1.out.size))
          try clear d0
          have d0 := (B1.out.cell (cell_lt HC0.out)).trans HC0.out
          clear b1
          go_wp2_with fail
          refine (HHO.out _ (B1.out)).mono ?_
          rintro e x3 ⟨rfl, b1⟩
          replace B1 := hide (B1.out.trans (b1.mono B1.out.size))
          try clear d0
          clear b1
          go_wp2_with fail
          refine (HWI.out _ (HPT.out.below B1.out)).mono ?_
          rintro e x4 ⟨rfl, b1⟩
          replace B1 := hide (B1.out.trans (b1.mono B1.out.size))
          clear b1
          go_wp2_with fail
          have HF := hide (acted_same HPT.out B1.out)
          go_ret
          exact ⟨rfl, HF.out.1, HF.out.2⟩
        | false =>
          rw [hw] at HWI
          rw [Bool.not_false, if_pos rfl]
          have hu : ¬ Up T a b := fun hup => by rw [(within_iff hW hbl).2 hup] at hw; cases hw
          have hab : ¬ a = b := fun e => hu (e ▸ .refl)
          have HRAW := hide (move_raw hW hal hbl hu)
          have hkl := hW.kids_len a
          have hkl2 := hW.kids_len b
          have HIN := hide (fun x (hx : x ∈ kidsAt T a) => (hW.inb a x hx).2)
          clear hu hW
          go_enter Try.func32, Try.ntmps32
          go_wp2_with fail
          refine (HI1.out _ (HPT.out.below B1.out)).mono ?_
          rintro e x1 ⟨rfl, b1⟩
          replace B1 := hide (B1.out.trans (b1.mono B1.out.size))
          clear b1
          go_wp2_with fail
          refine (HI2.out _ (HPT.out.below B1.out)).mono ?_
          rintro e x2 ⟨rfl, b1⟩
          replace B1 := hide (B1.out.trans (b1.mono B1.out.size))
          try clear d0
          have d0 := (B1.out.cell (cell_lt HC0.out)).trans HC0.out
          clear b1
          go_wp2_with fail
          refine (HHO.out _ (B1.out)).mono ?_
          rintro e x3 ⟨rfl, b1⟩
          replace B1 := hide (B1.out.trans (b1.mono B1.out.size))
          try clear d0
          have d0 := (B1.out.cell (cell_lt HC0.out)).trans HC0.out
          clear b1
          go_wp2_with fail
          refine (HWI.out _ (HPT.out.below B1.out)).mono ?_
          rintro e x4 ⟨rfl, b1⟩
          replace B1 := hide (B1.out.trans (b1.mono B1.out.size))
          try clear d0
          have d0 := (B1.out.cell (cell_lt HC0.out)).trans HC0.out
          clear b1
          have hG4 := HG.out.below B1.out
          obtain ⟨cap4, rs, hR, hP⟩ := hG4
          have hlr := map_len hR
          rw [raw_len] at hlr
          have ha2 : a < rs.length := by omega
          have hrn := map_get hR a ha2 (by rw [raw_len]; exact hal)
          rw [raw_get] at hrn
          have hka : x4.ownsRow 0 3 1 rs[a].kv (kidsAt T a).length (intCells (kidsAt T a)) := by
            have := hP.kid a ha2
            rw [hrn] at this
            exact this
          have e2 : x4.cell? ⟨g, a * 7 + 2, none⟩ = some rs[a].kv := hP.cellAt a ha2 2 (by omega)
          have e2f : x4.frozen? ⟨g, a * 7 + 2, none⟩ = false := hP.frz _
          obtain ⟨ka, kc, ek⟩ := owns_form hka
          have hgA : A g := hP.inA .row g rfl
          have hG1 : PG (andNew A w.heap.size) (x4.setCell ⟨g, a * 7 + 2, none⟩ (.slice none 0 0)) pb g (setKids (rawOf T) a []) := (hP.kidsTo hR a ha2 (ButA.refl _ _) (.slice none 0 0) [] (World.ownsRow_nil _ _ _ _) (by intro k e; cases e)).mono (by
            rintro k (h | h)
            · exact .inl h
            · exact .inr (Nat.le_trans B1.out.size h))
          have hkg : ∀ k, rs[a].kv.ownBlock = some k → k ≠ g := fun k e1 e3 => by
            have := hP.sep (.kid a) .row k (by rw [slot_kid pb g rs a ha2]; exact e1) (by rw [e3]; rfl)
            cases this
          have hI1 : (x4.setCell ⟨g, a * 7 + 2, none⟩ (.slice none 0 0)).ownsRow 0 3 1 rs[a].kv (kidsAt T a).length (intCells (kidsAt T a)) := ownsRow_keep hka fun k e => Below.heap_setCell _ _ _ _ (hkg k e)
          have hBT : ButA A w (x4.setCell ⟨g, a * 7 + 2, none⟩ (.slice none 0 0)) := (ButA.of B1.out).setCell (.inl hgA) _
          rw [ek] at e2 hI1 hkg
          have HM0 : Hid (MoveS (andNew A w.heap.size) w (x4.setCell ⟨g, a * 7 + 2, none⟩ (.slice none 0 0)) pb g b (setKids (rawOf T) a []) (kidsAt T a) 0 (x4.setCell ⟨g, a * 7 + 2, none⟩ (.slice none 0 0))) := hide ⟨hG1, fun _ _ => rfl, hBT.mono fun k h => .inl h⟩
          have HI0 := hide hI1
          have HKG := hide hkg
          have HBT := hide hBT
          have hgs : x4.heap.size = (x4.setCell ⟨g, a * 7 + 2, none⟩ (.slice none 0 0)).heap.size := by simp [World.setCell]
          clear hka ek hG1 hkg hI1 hBT hP hR hrn
          go_wp2_with fail
          generalize x4.setCell ⟨g, a * 7 + 2, none⟩ (.slice none 0 0) = W1 at *
          have hksl : (kidsAt T a).length ≤ 1000000 := by omega
          go_loopw [9, 54] (fun v9 vi wr => ∃ k : Nat, vi = .int .i64 (k : Int) ∧ k ≤ (kidsAt T a).length ∧ Hid (MoveS (andNew A w.heap.size) w W1 pb g b (setKids (rawOf T) a []) (kidsAt T a) k wr)) (fun _ vi _ => (kidsAt T a).length - (intOf vi).toNat)
          case atStart => exact ⟨0, rfl, by omega, HM0⟩
          case round =>
            clear e2 e2f d0
            obtain ⟨k, rfl, hkk, HM⟩ := hrel
            obtain ⟨capr, r0, r1, rf⟩ := HM.out.pg.cells
            rw [parAll_len, modR_len, raw_len] at r0
            by_cases hlt : k < (kidsAt T a).length
            · have hlt2 : (k : Int) < (kidsAt T a).length := by omega
              have hIr : wr.ownsRow 0 3 1 (.slice ka (kidsAt T a).length kc) (kidsAt T a).length (intCells (kidsAt T a)) := ownsRow_keep HI0.out fun j e => HM.out.same j (HKG.out j e)
              obtain ⟨kb, ko, rfl, hkc⟩ := (owns_isI hIr).at (by omega)
              have ck := hkc k hlt
              have hxl : (kidsAt T a)[k] < T.length := HIN.out _ (List.getElem_mem hlt)
              have hxi : ((kidsAt T a)[k] : Int) < T.length := by omega
              obtain ⟨qq, q1⟩ : ∃ qq : Int, wr.cell? ⟨g, (kidsAt T a)[k] * 7 + 1, none⟩ = some (.int .i64 qq) := ⟨_, r1 (kidsAt T a)[k] (by rw [parAll_len, modR_len, raw_len]; exact hxl)⟩
              have qf := rf ((kidsAt T a)[k] * 7 + 1)
              have HMN := hide (HM.out.step hlt (by rw [modR_len, raw_len]; exact hxl) (.inl hgA))
              generalize (kidsAt T a)[k] = x at *
              clear hIr hkc r1 rf HM HI0 HKG HM0
              go_wp2
              go_roundw
              case rel => exact ⟨k + 1, by go_num, by omega, HMN⟩
              case measure => simp [intOf]; omega
            · have hlt2 : ¬ (k : Int) < (kidsAt T a).length := by omega
              have hke : k = (kidsAt T a).length := by omega
              have hM := HM.out
              rw [hke] at hM
              have hpg := hM.pg
              rw [List.take_length] at hpg
              have hIr : wr.ownsRow 0 3 1 (.slice ka (kidsAt T a).length kc) (kidsAt T a).length (intCells (kidsAt T a)) := ownsRow_keep HI0.out fun j e => hM.same j (HKG.out j e)
              obtain ⟨capz, rz, hRz, hPz⟩ := hpg
              have hlz := map_len hRz
              rw [parAll_len, modR_len, raw_len] at hlz
              have hb2 : b < rz.length := by omega
              have hrz := map_get hRz b hb2 (by rw [parAll_len, modR_len, raw_len]; exact hbl)
              rw [parAll_get, modR_get, raw_get, if_neg hab] at hrz
              have hkz : rz[b].rn.kids = kidsAt T b := by
                rw [hrz]
                split <;> rfl
              have hkb := hPz.kid b hb2
              rw [hkz] at hkb
              have z0 := hPz.tree
              rw [hlz] at z0
              have z2 : wr.cell? ⟨g, b * 7 + 2, none⟩ = some rz[b].kv := hPz.cellAt b hb2 2 (by omega)
              have z2f : wr.frozen? ⟨g, b * 7 + 2, none⟩ = false := hPz.frz _
              obtain ⟨v', w', hr, v2, hv2, hown, hfr, hbt⟩ := append_ints wr.drew rz[b].kv (.slice ka (kidsAt T a).length kc) (kidsAt T b) (kidsAt T a) (ownsRow_keep hkb fun _ _ => rfl) (owns_isI (ownsRow_keep hIr fun _ _ => rfl)) (by omega) (by omega)
              injection hv2 with hv2
              subst hv2
              have hb0 : ButA (fun k => rz[b].kv.ownBlock = some k) wr w' := ⟨hbt.os, hbt.tape, hbt.output, hbt.size, hbt.block⟩
              have hne : ∀ sl, sl ≠ Sl.kid b → ∀ k, slotB pb g rz sl = some k → w'.heap[k]? = wr.heap[k]? := fun sl hsl k e => hb0.block k (hPz.lt sl k e) fun e2 => hsl (hPz.sep sl (.kid b) k e (by rw [slot_kid pb g rz b hb2]; exact e2))
              have z0' : w'.cell? ⟨pb, 0, none⟩ = some (.slice (some ⟨g, 0, none⟩) T.length capz) := cell_same (hne .tree (by simp) pb rfl) z0
              have z2' : w'.cell? ⟨g, b * 7 + 2, none⟩ = some rz[b].kv := cell_same (hne .row (by simp) g rfl) z2
              have z2f' : w'.frozen? ⟨g, b * 7 + 2, none⟩ = false := by rw [World.frozen?_of_block (a := ⟨g, b * 7 + 2, none⟩) (hne .row (by simp) g rfl)]; exact z2f
              have hfin := hPz.kidsTo hRz b hb2 hb0 v' _ hown hfr
              rw [HRAW.out] at hfin
              have HF : Hid (PT (andNew A w.heap.size) (w'.setCell ⟨g, b * 7 + 2, none⟩ v') pb (moveL T a b) ∧ ButA A w (w'.setCell ⟨g, b * 7 + 2, none⟩ v')) := hide ⟨⟨g, hfin.mono (by
                rintro k ((h | h) | h)
                · exact .inl h
                · exact .inr h
                · exact .inr (Nat.le_trans hM.bt.size h))⟩, by
                have h1 : ButA A w wr := ⟨hM.bt.os, hM.bt.tape, hM.bt.output, hM.bt.size, fun k hk hn => hM.bt.block k hk (fun h => h.elim hn (by omega))⟩
                exact (h1.trans' (hb0.mono fun k e => hPz.inA (.kid b) k (by rw [slot_kid pb g rz b hb2]; exact e))).setCell (.inl hgA) _⟩
              obtain ⟨za, zc, ez⟩ := owns_form hkb
              obtain ⟨za2, zc2, ez2⟩ := owns_form hown
              rw [ez] at z2 z2' hr
              subst ez2
              have HR := hide hr
              clear hr hown hfr hbt hb0 hne hfin hPz hkb ez hM hIr HM r0 r1 rf hRz hrz hkz HM0 HI0 HKG HIN HRAW HBT HG HC0 HPT HI1 HI2 HWI HHO
              generalize (kidsAt T b).length = bl at *
              generalize (kidsAt T b ++ kidsAt T a).length = bl2 at *
              go_wp2_with fail
              go_region_law (refine step_append_run rfl (.tmp 81) (.tmp 82) 44 44 rfl (.slice za bl zc) (.slice ka (kidsAt T a).length kc) (by simp [Act.eval, Act.put]) (by simp [Act.eval, Act.put]) HR.out ?_)
              all_goals
                go_wp2
                go_ret
                exact ⟨rfl, HF.out.1, HF.out.2⟩
    · rw [show decide (0 ≤ zb ∧ zb < T.length) = false from decide_eq_false hc] at HI2
      rw [if_neg (fun h => hc h.2)]
      clear hW h hp hc
      go_enter Try.func32, Try.ntmps32
      go_wp2_with fail
      refine (HI1.out _ (HPT.out.below B1.out)).mono ?_
      rintro e x1 ⟨rfl, b1⟩
      replace B1 := hide (B1.out.trans (b1.mono B1.out.size))
      clear b1
      go_wp2_with fail
      refine (HI2.out _ (HPT.out.below B1.out)).mono ?_
      rintro e x2 ⟨rfl, b1⟩
      replace B1 := hide (B1.out.trans (b1.mono B1.out.size))
      clear b1
      go_wp2_with fail
      have HF := hide (acted_same HPT.out B1.out)
      go_ret
      exact ⟨rfl, HF.out.1, HF.out.2⟩
  · rw [show decide (0 ≤ za ∧ za < T.length) = false from decide_eq_false hp] at HI1
    rw [if_neg (fun h => hp h.1)]
    clear hW h hp
    go_enter Try.func32, Try.ntmps32
    go_wp2_with fail
    refine (HI1.out _ (HPT.out.below B1.out)).mono ?_
    rintro e x1 ⟨rfl, b1⟩
    replace B1 := hide (B1.out.trans (b1.mono B1.out.size))
    clear b1
    go_wp2_with fail
    have HF := hide (acted_same HPT.out B1.out)
    go_ret
    exact ⟨rfl, HF.out.1, HF.out.2⟩
end Go.Proofs.Ytjgklemhlmgheaa
