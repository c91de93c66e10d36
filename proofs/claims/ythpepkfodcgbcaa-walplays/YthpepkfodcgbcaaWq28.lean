import Derived.Test.YthpepkfodcgbcaaWq27
import Derived.Deep.RegionHeld2
/- What the program's write does: the loop. -/
set_option linter.unusedVariables false
set_option linter.unusedSimpArgs false
set_option maxRecDepth 40000
namespace Go.Proofs.Ythpepkfodcgbcaa
open Go.RowKit

theorem at_fit {first at_ : Nat} (h1 : first ≤ 10000) (h2 : at_ ≤ 40000) : (at_ : Int).tdiv 4 = ((at_ / 4 : Nat) : Int) ∧ (at_ : Int) / 4 = ((at_ / 4 : Nat) : Int) ∧ (at_ : Int).tmod 4 = ((at_ % 4 : Nat) : Int) ∧ (at_ : Int) % 4 = ((at_ % 4 : Nat) : Int) ∧ wrap64 ((first : Int) + ((at_ / 4 : Nat) : Int)) = (first : Int) + ((at_ / 4 : Nat) : Int) ∧ IntKind.i64.wrap ((first : Int) + ((at_ / 4 : Nat) : Int)) = (first : Int) + ((at_ / 4 : Nat) : Int) ∧ IntKind.i64.wrap ((at_ / 4 : Nat) : Int) = ((at_ / 4 : Nat) : Int) := by
  refine ⟨by rw [Int.tdiv_eq_ediv_of_nonneg (by omega)]; rfl, rfl, by rw [Int.tmod_eq_emod_of_nonneg (by omega)]; rfl, rfl, ?_, ?_, ?_⟩
  · unfold wrap64
    omega
  · rw [IntKind.wrap_i64]
    omega
  · rw [IntKind.wrap_i64]
    omega
def WBIn (B : Nat → Prop) (w : World) (dp : Addr) (d : DM) (A : Nat) (XS : List Bs) (RES : DM × Int) (k : Nat) (E : Int) (w' : World) : Prop := (E = 0 ∧ ∃ D', Hid (PutS d A XS RES k D') ∧ Hid (KR IsK B w (.pointer (some dp)) D' w')) ∨ ((E == 0) = false ∧ Hid (E = RES.2) ∧ Hid (KR IsK B w (.pointer (some dp)) RES.1 w'))
def WBlockR (B : Nat → Prop) (w : World) (dp : Addr) (d : DM) (A : Nat) (XS : List Bs) (RES : DM × Int) (k : Nat) (e : Ending) (w' : World) : Prop := ∃ E : Int, e = .returned (.int .i64 E) ∧ WBIn B w dp d A XS RES k E w'
theorem min_fit {k r L at_ my first en : Nat} (hmy : my = min (4 - (first * 4 + en + k) % 4) (L - k)) (hat : at_ = en + k) (hrk : r + k = L) (hr : 0 < r) : (first * 4 + en + k) % 4 = at_ % 4 ∧ (first * 4 + en + k) / 4 = first + at_ / 4 ∧ my ≤ r ∧ 0 < my ∧ my ≤ 4 ∧ at_ % 4 + my ≤ 4 ∧ min (4 - ((at_ % 4 : Nat) : Int)) (r : Int) = (my : Int) ∧ k + my ≤ L ∧ k < L := by
  subst hat
  have e4 : (first * 4 + en + k) % 4 = (en + k) % 4 := by omega
  have e5 : (first * 4 + en + k) / 4 = first + (en + k) / 4 := by omega
  have h4 : (en + k) % 4 < 4 := by omega
  rw [e4] at hmy
  refine ⟨e4, e5, ?_⟩
  generalize (en + k) % 4 = f at *
  clear e4 e5
  omega
theorem write_step {B : Nat → Prop} {a : Nat} {dp : Addr} {d : DM} {first en : Nat} {l : List (CL × Value)} {w : World} {g o0 c0 : Nat} {RES : DM × Int} (hF : Fit d) (hl : d.l.length ≤ 90000) (hkeep : ∀ x, ButA B w x → IsL x (.slice (some ⟨g, o0, none⟩) l.length c0) l) (hm : ∀ y ∈ l, mayC y.1) (hin : first * 4 + en + l.length ≤ d.safe.length) (hln : l.length ≤ 1000) (hx64 : ∀ x ∈ l.map (fun y => encC y.1), x.length = 64)
    (hBX : ∀ x D, KR IsK B w (.pointer (some dp)) D x → x.cell? ⟨a, 0, none⟩ = some (.pointer (some dp)) ∧ x.cell? ⟨a, 1, none⟩ = some (.int .i64 (first : Int))) {k r o c at_ : Nat} {D : DM} {x : World} (hat : at_ = en + k) (hrk : r + k = l.length) (hr : 0 < r) (hrc : r ≤ c) (ho : o = o0 + k * 5) (hP : PutS d (first * 4 + en) (l.map fun y => encC y.1) RES k D) (hKR : KR IsK B w (.pointer (some dp)) D x) :
      ∃ my : Nat, min (4 - ((at_ % 4 : Nat) : Int)) (r : Int) = (my : Int) ∧ 0 < my ∧ my ≤ r ∧ my ≤ 4 ∧
        Hid (Calls Try.prog 65 #[.pointer (some ⟨a, 0, none⟩), .int .i64 ((first : Int) + ((at_ / 4 : Nat) : Int)), .int .i64 ((at_ % 4 : Nat) : Int), .slice (some ⟨g, o, none⟩) my c] x.drew (WBlockR B w dp d (first * 4 + en) (l.map fun y => encC y.1) RES (k + my))) ∧
        (∀ W, (Instr.slice 69 (.slice (some ⟨g, o, none⟩) r c) none (some (.int .i64 (my : Int))) none).run Try.prog W = .ok (.slice (some ⟨g, o, none⟩) my c) W) ∧
        ∃ o' c', (∀ W, (Instr.slice 69 (.slice (some ⟨g, o, none⟩) r c) (some (.int .i64 (my : Int))) none none).run Try.prog W = .ok (.slice (some ⟨g, o', none⟩) (r - my) c') W) ∧ r - my ≤ c' ∧ (0 < r - my → o' = o0 + (k + my) * 5) := by
  have hxl : (l.map fun y => encC y.1).length = l.length := List.length_map ..
  obtain ⟨my, hmy⟩ : ∃ my, my = min (4 - (first * 4 + en + k) % 4) (l.length - k) := ⟨_, rfl⟩
  obtain ⟨e4, e5, m1, m2, m3, m4, m5, m6, m7⟩ := min_fit hmy hat hrk hr
  have hps := hP.step hF.ok hx64 (by rw [hxl]; exact m7) (by rw [hxl]; exact hin) hl (by rw [hxl]; exact hln) rfl
  rw [hxl, ← hmy, e4, e5, ← List.map_drop, ← List.map_take] at hps
  refine ⟨my, m5, m2, m1, m3, hide ?_, fun W => subL_h W g o r c my m1 hrc, ?_⟩
  · obtain ⟨B1, q1, q2, q3⟩ := hKR
    have hsx : D.safe.length = d.safe.length := hP.safe
    have hIx : IsL x.drew (.slice (some ⟨g, o0, none⟩) l.length c0) l := hkeep x.drew q3.drew
    have hIp := hIx.part k (k + my) o c (Nat.le_add_right _ _) m6 (fun _ => ho)
    rw [Nat.add_sub_cancel_left] at hIp
    have hxd : x.drew.cell? ⟨a, 0, none⟩ = some (.pointer (some dp)) := (hBX x D ⟨B1, q1, q2, q3⟩).1
    have hn4 : (first + at_ / 4) * 4 + 4 ≤ D.safe.length := by
      have := hF.ok.four
      clear hps hIp hIx hP hkeep hm hx64 hBX m5
      omega
    have hlp : ((l.drop k).take my).length = my := by rw [List.length_take, List.length_drop]; omega
    have hpb := pblock_any B1 a dp D (first + at_ / 4) (at_ % 4) (.slice (some ⟨g, o, none⟩) my c) ((l.drop k).take my) x.drew hxd (q1.keep fun _ _ => rfl) hP.fit hn4 hIp (fun y hy => hm y (List.mem_of_mem_drop (List.mem_of_mem_take hy))) (by rw [hlp]; exact m4)
    rw [show ((first : Int) + ((at_ / 4 : Nat) : Int)) = ((first + at_ / 4 : Nat) : Int) from rfl]
    generalize writeD D ((first + at_ / 4 : Nat) : Int) (blkL D (first + at_ / 4) (at_ % 4) (((l.drop k).take my).map fun y => encC y.1)) = W at hpb hps
    refine hpb.mono ?_
    rintro e w' ⟨he, hk'⟩
    have hk2 : KR IsK B w (.pointer (some dp)) W.1 w' := by
      obtain ⟨B2, k1, k2, k3⟩ := hk'
      refine ⟨B2, k1, q2.trans k2 q3.size, q3.drew.trans k3 fun j hj hb => ?_⟩
      rcases q2 j hb with h | h
      · exact h
      · exact absurd hj (Nat.not_lt.2 h)
    refine ⟨W.2, he, ?_⟩
    by_cases h0 : W.2 = 0
    · exact .inl ⟨h0, W.1, hide (hps.1 h0), hide hk2⟩
    · have hr2 := hps.2 h0
      exact .inr ⟨beq_eq_false_iff_ne.2 h0, hide (by rw [hr2]), hide (by rw [hr2]; exact hk2)⟩
  · obtain ⟨o', c', h1, h2, h3⟩ := subL_l g o r c my m1 hrc
    exact ⟨o', c', h1, h2, fun hh => by rw [h3 (by omega), ho]; omega⟩
theorem wf1 {at_ en k r L : Nat} (h1 : at_ = en + k) (h2 : r + k = L) (he : en ≤ 20000) (hl : L ≤ 1000) : at_ ≤ 40000 := by omega
theorem wf2 {at_ en k r L my : Nat} (h1 : at_ = en + k) (h2 : r + k = L) (h3 : my ≤ r) : at_ + my = en + (k + my) ∧ (r - my) + (k + my) = L := by omega
theorem wf3 {at_ en k r L my : Nat} (h1 : at_ = en + k) (h2 : r + k = L) (h3 : my ≤ r) (h4 : 0 < my) : en + L - (intOf (Value.int .i64 ((at_ : Int) + (my : Int)))).toNat < en + L - (intOf (Value.int .i64 (at_ : Int))).toNat := by
  simp only [intOf]
  omega
theorem wf4 {at_ my fr : Nat} (h1 : at_ ≤ 40000) (h2 : my ≤ 4) (h3 : fr < 4) : wrap64 (4 - (fr : Int)) = 4 - (fr : Int) ∧ wrap64 ((at_ : Int) + (my : Int)) = (at_ : Int) + (my : Int) := by
  unfold wrap64
  omega
set_option maxHeartbeats 16000000 in
theorem pwrite_all (B : Nat → Prop) (a : Nat) (dp : Addr) (d : DM) (first en : Nat) (lv : Value) (l : List (CL × Value)) (w : World) (x0 : w.cell? ⟨a, 0, none⟩ = some (.pointer (some dp))) (x1 : w.cell? ⟨a, 1, none⟩ = some (.int .i64 (first : Int))) (x5 : w.cell? ⟨a, 5, none⟩ = some (.int .i64 (en : Int))) (ha : ¬ B a) (hK : IsK B w (.pointer (some dp)) d) (hF : Fit d) (hl : d.l.length ≤ 90000)
    (hI : IsL w lv l) (hcap : ∀ a n c, lv = .slice a n c → n ≤ c) (hkeep : ∀ x, ButA B w x → IsL x lv l) (hm : ∀ y ∈ l, mayC y.1) (h0 : 0 < l.length) (hin : first * 4 + en + l.length ≤ d.safe.length) (hln : l.length ≤ 1000) (hf : first ≤ 10000) (hen : en ≤ 20000) :
    Calls Try.prog 46 #[.pointer (some ⟨a, 0, none⟩), lv] w (BlockR B w (.pointer (some dp)) (writesW (laidW (nowD d) (first * 4 + en) (l.map fun y => encC y.1)) d ((first * 4 + en + (l.map fun y => encC y.1).length - 1) / 4 + 1 - (first * 4 + en) / 4) ((first * 4 + en) / 4))) := by
  have hxl : (l.map fun y => encC y.1).length = l.length := List.length_map ..
  have hx64 : ∀ x ∈ l.map (fun y => encC y.1), x.length = 64 := fun x hx => by
    obtain ⟨y, hy, rfl⟩ := List.mem_map.1 hx
    exact enc_len _ (hm y hy).2.2.2
  have HS0 := hide (puts_start (d0 := d) (A := first * 4 + en) (xs := l.map fun y => encC y.1) hF (by rw [hxl]; exact h0))
  obtain ⟨la, c0, rfl⟩ := hI.form
  obtain ⟨g, o0, ela, hat0⟩ := hI.at_ 0 h0
  clear hat0
  subst ela
  have hc0 : l.length ≤ c0 := hcap _ _ _ rfl
  have hK0 : KR IsK B w (.pointer (some dp)) d w := ⟨B, hK, Grew.refl _ _, ButA.refl _ _⟩
  have HK0 := hide hK0
  have hBX : ∀ x D, KR IsK B w (.pointer (some dp)) D x → x.cell? ⟨a, 0, none⟩ = some (.pointer (some dp)) ∧ x.cell? ⟨a, 1, none⟩ = some (.int .i64 (first : Int)) := fun x D hx => by
    obtain ⟨_, _, _, h3⟩ := hx
    have hb := h3.block a (cell_lt x0) ha
    exact ⟨(cell_blk hb 0).trans x0, (cell_blk hb 1).trans x1⟩
  have HBXA := hide hBX
  have HEND : Hid (∀ RES : DM × Int, ∀ x, KR IsK B w (.pointer (some dp)) RES.1 x → BlockR B w (.pointer (some dp)) RES (.returned (.int .i64 RES.2)) x) := hide (fun RES x h => ⟨rfl, h⟩)
  generalize hRES : writesW (laidW (nowD d) (first * 4 + en) (l.map fun y => encC y.1)) d ((first * 4 + en + (l.map fun y => encC y.1).length - 1) / 4 + 1 - (first * 4 + en) / 4) ((first * 4 + en) / 4) = RES at *
  clear hRES
  have HSTEP := hide (fun (k r o c at_ : Nat) (D : DM) (x : World) h1 h2 h3 h4 h5 h6 h7 => write_step (a := a) (RES := RES) (k := k) (r := r) (o := o) (c := c) (at_ := at_) (D := D) (x := x) hF hl hkeep hm hin hln hx64 hBX h1 h2 h3 h4 h5 h6 h7)
  have HX0 := hide (And.intro x0 x1)
  have HHF := hide hf
  have HHE := hide hen
  have HLN := hide hln
  have HSD := hide (fun D (h : PutS d (first * 4 + en) (l.map fun y => encC y.1) RES l.length D) => h.done hxl.symm)
  clear hK hF hl hI hcap hkeep hm hin hln hxl hx64 hK0 hBX ha hf hen
  generalize hLL : l.length = L at *
  clear hLL
  generalize l.map (fun y => encC y.1) = XS at *
  have en0 : (en : Int) = ((en : Nat) : Int) := rfl
  go_enter Try.func46, Try.ntmps46
  go_wp2
  go_loopw [1, 5] (fun vc va wr => ∃ (k r o c at_ : Nat) (D : DM), va = .int .i64 (at_ : Int) ∧ vc = .slice (some ⟨g, o, none⟩) r c ∧ Hid (at_ = en + k ∧ r + k = L ∧ r ≤ c ∧ (0 < r → o = o0 + k * 5)) ∧ Hid (PutS d (first * 4 + en) XS RES k D) ∧ Hid (KR IsK B w (.pointer (some dp)) D wr)) (fun _ va _ => en + L - (intOf va).toNat)
  case atStart => exact ⟨0, L, o0, c0, en, d, rfl, rfl, hide ⟨rfl, rfl, hc0, fun _ => rfl⟩, HS0, HK0⟩
  case round =>
    clear HS0 HK0 hc0
    obtain ⟨k, r, o, c, at_, D, rfl, rfl, HA, HP, HK⟩ := hrel
    by_cases hr0 : 0 < r
    · have hr2 : (0 : Int) < (r : Int) := Int.ofNat_lt.2 hr0
      obtain ⟨my, hmn, hmy0, hmyr, hmy4, HWB, hsl, o', c', hsl2, hrc2, ho2⟩ := HSTEP.out k r o c at_ D wr HA.out.1 HA.out.2.1 hr0 HA.out.2.2.1 (HA.out.2.2.2 hr0) HP.out HK.out
      have HSL := hide hsl
      have HSL2 := hide hsl2
      have hat := wf1 HA.out.1 HA.out.2.1 HHE.out HLN.out
      obtain ⟨f1, f2, f3, f4, f5, f6, f7⟩ := at_fit HHF.out hat
      obtain ⟨qq, hqq⟩ : ∃ qq, qq = at_ / 4 := ⟨_, rfl⟩
      obtain ⟨fr, hfr⟩ : ∃ fr, fr = at_ % 4 := ⟨_, rfl⟩
      rw [← hqq] at f1 f2 f5 f6 f7 HWB
      rw [← hfr] at f3 f4 hmn HWB
      have hfr4 : fr < 4 := by rw [hfr]; exact Nat.mod_lt _ (by decide)
      obtain ⟨hwf, hadd⟩ := wf4 hat hmy4 hfr4
      have HQ := hide (And.intro f1 (And.intro f2 (And.intro f5 (And.intro f6 f7))))
      obtain ⟨x0, x1⟩ := HBXA.out wr D HK.out
      have HBX : Hid (∀ (y : World) (E : Int), WBIn B w dp d (first * 4 + en) XS RES (k + my) E y → y.cell? ⟨a, 0, none⟩ = some (.pointer (some dp)) ∧ y.cell? ⟨a, 1, none⟩ = some (.int .i64 (first : Int))) := hide (fun y E h => h.elim (fun ⟨_, D', _, h2⟩ => HBXA.out y D' h2.out) (fun ⟨_, _, h2⟩ => HBXA.out y RES.1 h2.out))
      have HA2 : Hid (at_ + my = en + (k + my) ∧ (r - my) + (k + my) = L) := hide (wf2 HA.out.1 HA.out.2.1 hmyr)
      have HOC := hide (And.intro hrc2 ho2)
      have HMS := hide (wf3 HA.out.1 HA.out.2.1 hmyr hmy0)
      clear hsl hsl2 hqq hfr f1 f2 f5 f6 f7 hrc2 ho2 HSTEP HSD hat HA HP HK
      go_wp2_with fail
      refine wp_region_held_drew (S := fun W' => (fun W : World => W.cell? ⟨a, 1, none⟩ = some (.int .i64 (first : Int))) W') (by kernel_rfl) x1 (fun hHeld => ?_)
      refine wpAnyH_take (i := 0) (v := ?_) rfl (by kernel_rfl) (by kernel_rfl) (by kernel_rfl) (fun _ _ _ h => h) (Or.inl ⟨by kernel_rfl, ?_⟩) hHeld ?_
      rotate_left
      · intro W hSw
        clear hSw
        go_simp <;> with_reducible rfl
      simp only [Act.put, List.getElem_toArray, List.getElem_cons_zero, List.getElem_cons_succ, List.setIfInBounds_toArray, List.set_cons_zero, List.set_cons_succ]
      refine wpAnyH_take (i := 1) (v := ?_) rfl (by kernel_rfl) (by kernel_rfl) (by kernel_rfl) (fun _ _ _ h => h) (Or.inl ⟨by kernel_rfl, ?_⟩) hHeld ?_
      rotate_left
      · intro W hSw
        clear hSw
        go_simp <;> with_reducible rfl
      simp only [Act.put, List.getElem_toArray, List.getElem_cons_zero, List.getElem_cons_succ, List.setIfInBounds_toArray, List.set_cons_zero, List.set_cons_succ]
      refine wpAnyH_take (i := 2) (v := ?_) rfl (by kernel_rfl) (by kernel_rfl) (by kernel_rfl) (fun _ _ _ h => h) (Or.inl ⟨by kernel_rfl, ?_⟩) hHeld ?_
      rotate_left
      · intro W hSw
        clear hSw
        go_simp <;> with_reducible rfl
      simp only [Act.put, List.getElem_toArray, List.getElem_cons_zero, List.getElem_cons_succ, List.setIfInBounds_toArray, List.set_cons_zero, List.set_cons_succ]
      refine wpAnyH_take (i := 3) (v := ?_) rfl (by kernel_rfl) (by kernel_rfl) (by kernel_rfl) (fun _ _ _ h => h) (Or.inl ⟨by kernel_rfl, ?_⟩) hHeld ?_
      rotate_left
      · intro W hSw
        clear hSw
        go_simp <;> with_reducible rfl
      simp only [Act.put, List.getElem_toArray, List.getElem_cons_zero, List.getElem_cons_succ, List.setIfInBounds_toArray, List.set_cons_zero, List.set_cons_succ]
      refine wpAnyH_take (i := 4) (v := ?_) rfl (by kernel_rfl) (by kernel_rfl) (by kernel_rfl) (fun _ _ _ h => h) (Or.inl ⟨by kernel_rfl, ?_⟩) hHeld ?_
      rotate_left
      · intro W hSw
        have hc := hSw
        clear hSw
        go_simp <;> with_reducible rfl
      simp only [Act.put, List.getElem_toArray, List.getElem_cons_zero, List.getElem_cons_succ, List.setIfInBounds_toArray, List.set_cons_zero, List.set_cons_succ]
      refine wpAnyH_take (i := 5) (v := ?_) rfl (by kernel_rfl) (by kernel_rfl) (by kernel_rfl) (fun _ _ _ h => h) (Or.inl ⟨by kernel_rfl, ?_⟩) hHeld ?_
      rotate_left
      · intro W hSw
        clear hSw
        go_simp <;> with_reducible rfl
      simp only [Act.put, List.getElem_toArray, List.getElem_cons_zero, List.getElem_cons_succ, List.setIfInBounds_toArray, List.set_cons_zero, List.set_cons_succ]
      refine wpAnyH_take (i := 6) (v := ?_) rfl (by kernel_rfl) (by kernel_rfl) (by kernel_rfl) (fun _ _ _ h => h) (Or.inl ⟨by kernel_rfl, ?_⟩) hHeld ?_
      rotate_left
      · intro W hSw
        have h1 := HQ.out.1
        have h2 := HQ.out.2.1
        have h3 := HQ.out.2.2.2.2
        clear hSw
        go_simp <;> with_reducible rfl
      simp only [Act.put, List.getElem_toArray, List.getElem_cons_zero, List.getElem_cons_succ, List.setIfInBounds_toArray, List.set_cons_zero, List.set_cons_succ]
      refine wpAnyH_take (i := 7) (v := ?_) rfl (by kernel_rfl) (by kernel_rfl) (by kernel_rfl) (fun _ _ _ h => h) (Or.inl ⟨by kernel_rfl, ?_⟩) hHeld ?_
      rotate_left
      · intro W hSw
        have h3 := HQ.out.2.2.1
        have h4 := HQ.out.2.2.2.1
        clear hSw
        go_simp <;> with_reducible rfl
      simp only [Act.put, List.getElem_toArray, List.getElem_cons_zero, List.getElem_cons_succ, List.setIfInBounds_toArray, List.set_cons_zero, List.set_cons_succ]
      refine wpAnyH_take (i := 8) (v := ?_) rfl (by kernel_rfl) (by kernel_rfl) (by kernel_rfl) (fun _ _ _ h => h) (Or.inl ⟨by kernel_rfl, ?_⟩) hHeld ?_
      rotate_left
      · intro W hSw
        clear hSw
        go_simp <;> with_reducible rfl
      simp only [Act.put, List.getElem_toArray, List.getElem_cons_zero, List.getElem_cons_succ, List.setIfInBounds_toArray, List.set_cons_zero, List.set_cons_succ]
      refine wpAnyH_take (i := 9) (v := ?_) rfl (by kernel_rfl) (by kernel_rfl) (by kernel_rfl) (fun _ _ _ h => h) (Or.inl ⟨by kernel_rfl, ?_⟩) hHeld ?_
      rotate_left
      · intro W hSw
        clear hSw
        go_simp <;> with_reducible rfl
      simp only [Act.put, List.getElem_toArray, List.getElem_cons_zero, List.getElem_cons_succ, List.setIfInBounds_toArray, List.set_cons_zero, List.set_cons_succ]
      refine wpAnyH_take (i := 10) (v := ?_) rfl (by kernel_rfl) (by kernel_rfl) (by kernel_rfl) (fun _ _ _ h => h) (Or.inl ⟨by kernel_rfl, ?_⟩) hHeld ?_
      rotate_left
      · intro W hSw
        clear hSw
        go_simp <;> with_reducible rfl
      simp only [Act.put, List.getElem_toArray, List.getElem_cons_zero, List.getElem_cons_succ, List.setIfInBounds_toArray, List.set_cons_zero, List.set_cons_succ]
      refine wpAnyH_take (i := 11) (v := ?_) rfl (by kernel_rfl) (by kernel_rfl) (by kernel_rfl) (fun _ _ _ h => h) (Or.inl ⟨by kernel_rfl, ?_⟩) hHeld ?_
      rotate_left
      · intro W hSw
        have hs := HSL.out
        clear hSw
        go_simp <;> with_reducible rfl
      simp only [Act.put, List.getElem_toArray, List.getElem_cons_zero, List.getElem_cons_succ, List.setIfInBounds_toArray, List.set_cons_zero, List.set_cons_succ]
      refine wpAnyH_ready (rs := [12]) (by kernel_rfl) (by simp) ?_
      refine AllReadyH.cons rfl (fun K hK => ?_) AllReadyH.nil
      go_simp
      refine HWB.out.mono ?_
      rintro e y ⟨E, rfl, hk⟩
      refine hK.out _ _ ?_ (fun hHeld => ?_)
      · exact (HBX.out y E hk).2
      clear hK K
      try simp only [Act.put, List.getElem_toArray, List.getElem_cons_zero, List.getElem_cons_succ, List.setIfInBounds_toArray, List.set_cons_zero, List.set_cons_succ]
      refine wpAnyH_take (i := 13) (v := ?_) rfl (by kernel_rfl) (by kernel_rfl) (by kernel_rfl) (fun _ _ _ h => h) (Or.inl ⟨by kernel_rfl, ?_⟩) hHeld ?_
      rotate_left
      · intro W hSw
        clear hSw
        go_simp <;> with_reducible rfl
      simp only [Act.put, List.getElem_toArray, List.getElem_cons_zero, List.getElem_cons_succ, List.setIfInBounds_toArray, List.set_cons_zero, List.set_cons_succ]
      refine wpAnyH_done (by kernel_rfl) ?_ _
      rcases hk with ⟨rfl, D', HP2, HK2⟩ | ⟨he, HE, HK2⟩
      · have hs2 := HSL2.out
        clear HSL HWB HBX HQ HBXA hmn f3 f4 hfr4 hwf HSL2 hmy4
        go_wp2
        go_roundw
        case rel => exact ⟨k + my, r - my, o', c', at_ + my, D', by go_num, rfl, hide ⟨HA2.out.1, HA2.out.2, HOC.out.1, HOC.out.2⟩, HP2, HK2⟩
        case measure => rw [hadd]; exact HMS.out
      · have hf := HEND.out RES y HK2.out
        rw [← HE.out] at hf
        have HF := hide hf
        clear HSL HSL2 HWB HBX HQ HBXA HEND HE HK2 hf
        go_wp2
        go_ret
        exact HF.out
    · obtain rfl : r = 0 := Nat.eq_zero_of_not_pos hr0
      have hkl : k = L := by rw [← HA.out.2.1, Nat.zero_add]
      subst hkl
      have he := HSD.out D HP.out
      have hf := HEND.out RES wr (by rw [he]; exact HK.out)
      rw [he] at hf
      have HF := hide hf
      have HRE := hide he
      clear HSTEP HSD HBXA HEND HA HP HK hf he hr0
      go_wp2
      go_ret
      rw [HRE.out]
      exact HF.out
end Go.Proofs.Ythpepkfodcgbcaa
