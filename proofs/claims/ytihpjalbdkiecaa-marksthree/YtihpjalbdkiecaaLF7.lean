/- MarksThree's walk. -/
import Derived.Test.YtihpjalbdkiecaaLC7
import Derived.BigQuiet
import Derived.Deep.QuietTactic
set_option linter.unusedVariables false
set_option linter.unusedSimpArgs false
namespace Go.Proofs.Ytihpjalbdkiecaa
open Go.RowKit

/-- The first k, pushed one behind the other. -/
def pushes (l : List MV) : Nat → List MV
  | 0 => []
  | k + 1 => match l[k]? with
    | some m => pushL (pushes l k) m
    | none => pushes l k
theorem pushes_step (l : List MV) (k : Nat) (h : k < l.length) : pushes l (k + 1) = pushL (pushes l k) l[k] := by
  rw [pushes, List.getElem?_eq_getElem h]
theorem pushes_three (l : List MV) : ∀ k, k ≤ l.length → Three (pushes l k) := by
  intro k
  induction k with
  | zero => exact fun _ => three_nil
  | succ k ih =>
    intro h
    rw [pushes_step l k (by omega)]
    exact three_push _ _ (ih (by omega))
theorem pushes_length (l : List MV) : ∀ k, k ≤ l.length → (pushes l k).length ≤ k := by
  intro k
  induction k with
  | zero => exact fun _ => Nat.le_refl _
  | succ k ih =>
    intro h
    rw [pushes_step l k (by omega)]
    have := push_length (pushes l k) l[k]
    have := ih (by omega)
    omega
theorem pushes_mem (l : List MV) (x : MV) : ∀ k, k ≤ l.length → x ∈ pushes l k → x ∈ l := by
  intro k
  induction k with
  | zero => intro _ h; cases h
  | succ k ih =>
    intro h hx
    rw [pushes_step l k (by omega)] at hx
    rcases push_mem _ _ _ hx with hx | rfl
    · exact ih (by omega) hx
    · exact List.getElem_mem _
theorem push_end (l : List MV) (m : MV) : 0 < (pushL l m).length ∧ ∀ h : (pushL l m).length - 1 < (pushL l m).length, (pushL l m)[(pushL l m).length - 1] = m := by
  obtain ⟨r, hr⟩ := push_last l m
  rw [hr]
  refine ⟨by simp, fun h => ?_⟩
  simp
theorem stop_here (P : List MV) (t : Nat) (h : t < P.length) (hb : behindL P ≤ t + 1) (h0 : P[t].id = 0) : t + 1 = behindL P := by
  obtain ⟨g1, g2⟩ := behind_spec markerM P P.length (Nat.le_refl _)
  rcases Nat.lt_or_ge t (behindL P) with h1 | h1
  · omega
  · have := g1 t h h1 h
    simp [markerM, h0] at this
theorem go_on (P : List MV) (t : Nat) (h : t < P.length) (hb : behindL P ≤ t + 1) (h0 : P[t].id ≠ 0) : behindL P ≤ t := by
  obtain ⟨g1, g2⟩ := behind_spec markerM P P.length (Nat.le_refl _)
  rcases Nat.lt_or_ge t (behindL P) with h1 | h1
  · have := g2 t h (by show t + 1 = behindL P; omega)
    simp [markerM, h0] at this
  · exact h1
theorem str_ext (X Y : ByteArray) (h : (X.toList == Y.toList) = true) : X = Y := by
  have h := beq_iff_eq.1 h
  rw [Lib.toList_data, Lib.toList_data] at h
  cases X
  cases Y
  simpa [Array.toList_inj] using h

set_option maxRecDepth 10000 in
set_option maxHeartbeats 4000000 in
theorem three_ok (v : Value) (l : List MV) (hs : smallL l = true) (w : World) (hM : RowM w v l) (hOk : OkM w l) :
    Calls Try.prog 7 #[v] w fun e w' => e = .returned (.bool true) ∧ Below w.heap.size w w' := by
  have H1 := hide alive_any
  have HSM := hide (small_any v l w hM hOk)
  rw [hs] at HSM
  obtain ⟨hl40, ha6⟩ := (small_iff l).1 hs
  have HPU := hide (fun k (hk : k < l.length) out x (b : Below w.heap.size w x) (h : RowM x out (pushes l k)) => push_p out (pushes l k) ⟨by have := pushes_length l k (by omega); omega, fun y hy => by have := ha6 y (pushes_mem l y k (by omega) hy); omega⟩ l[k] (by have := ha6 l[k] (List.getElem_mem hk); omega) x h (fun y hy => (hOk y (pushes_mem l y k (by omega) hy)).below b) ((hOk l[k] (List.getElem_mem hk)).below b))
  have HAL := hide (fun (p q : MV) (hp : p ∈ l) (hq : q ∈ l) x (b : Below w.heap.size w x) => alike_p p.av q.av p.aa q.aa (by have := ha6 p hp; omega) (by have := ha6 q hq; omega) x ((hOk p hp).below b) ((hOk q hq).below b))
  have HQF := hide (fun (p : MV) (hp : p ∈ l) => isQ_form (hOk p hp))
  have HPM := hide (fun k (hk : k ≤ l.length) x (hx : x ∈ pushes l k) => pushes_mem l x k hk hx)
  have HTH := hide (fun k (hk : k ≤ l.length) => pushes_three l k hk)
  have HLN := hide (fun k (hk : k ≤ l.length) => pushes_length l k hk)
  obtain ⟨a, c, rfl⟩ := rowM_form hM
  have HM := hide hM
  obtain ⟨N, hN⟩ : ∃ N, N = l.length := ⟨_, rfl⟩
  rw [← hN] at HM HSM hl40 ⊢
  have HNL := hide hN
  clear hM hOk hs ha6 hN
  have HP0 : Hid (RowM w (.slice none 0 0) (pushes l 0)) := hide (.inl ⟨rfl, _, _, rfl⟩)
  go_enter Try.func7, Try.ntmps7
  go_wp2_with fail
  refine HSM.out.mono ?_
  rintro e x0 ⟨rfl, rfl⟩
  go_wp2_with fail
  go_loopw [3, 4] (fun ov i wr => ∃ (k n : Nat) (ao : Option Addr) (co : Nat), k ≤ N ∧ i = .int .i64 (k : Int) ∧ ov = .slice ao n co ∧ Hid (RowM wr (.slice ao n co) (pushes l k)) ∧ Hid (Below x0.heap.size x0 wr)) (fun _ i _ => N - (intOf i).toNat)
  case atStart => exact ⟨0, 0, none, 0, Nat.zero_le _, rfl, rfl, HP0, hide (Below.refl _ _)⟩
  case round =>
    obtain ⟨k, n, ao, co, hk, rfl, rfl, HR, BW⟩ := hrel
    generalize wr = wq at *
    by_cases hltN : k < N
    · have hlt : k < l.length := by rw [← HNL.out]; exact hltN
      have hlt2 : (k : Int) < N := by omega
      obtain ⟨b, o, rfl, c0, c1, c2⟩ := (HM.out.below BW.out).get k hlt
      have HPk := hide (HPU.out k hlt (.slice ao n co) wq BW.out HR.out)
      have hst := pushes_step l k hlt
      have hend := push_end (pushes l k) l[k]
      rw [← hst] at HPk hend
      have hmk : l[k] ∈ l := List.getElem_mem hlt
      obtain ⟨qa, qc, hqa⟩ := HQF.out l[k] hmk
      have HTK := hide (HTH.out (k + 1) (by rw [← HNL.out]; omega) l[k])
      have HLK := hide (HLN.out (k + 1) (by rw [← HNL.out]; omega))
      have HALK := hide (fun t (ht : t < (pushes l (k + 1)).length) => HAL.out (pushes l (k + 1))[t] l[k] (HPM.out (k + 1) (by rw [← HNL.out]; omega) _ (List.getElem_mem ht)) hmk)
      have HQK := hide (fun t (ht : t < (pushes l (k + 1)).length) => HQF.out (pushes l (k + 1))[t] (HPM.out (k + 1) (by rw [← HNL.out]; omega) _ (List.getElem_mem ht)))
      have HML : Hid (∀ W', Below x0.heap.size x0 W' → W'.cell? ⟨b, o + k * 3, none⟩ = some (.int .i64 l[k].id) ∧ W'.cell? ⟨b, o + k * 3 + 1, none⟩ = some (.string l[k].nm) ∧ W'.cell? ⟨b, o + k * 3 + 2, none⟩ = some l[k].av) := hide fun W' h => by
        obtain ⟨b', o', e, h0, h1, h2⟩ := (HM.out.below h).get k hlt
        simp only [Option.some.injEq, Addr.mk.injEq, and_true] at e
        obtain ⟨rfl, rfl⟩ := e
        exact ⟨h0, h1, h2⟩
      have HLIKE : Hid (∀ x : MV, likeM l[k] x = (x.nm.toList == l[k].nm.toList && alikeL x.aa l[k].aa)) := hide fun x => by rw [Lib.toList_data, Lib.toList_data]; rfl
      have HBT := hide (fun t h hb h0 => stop_here (pushes l (k + 1)) t h hb h0)
      have HGO := hide (fun t h hb h0 => go_on (pushes l (k + 1)) t h hb h0)
      have hbl := behind_len (pushes l (k + 1))
      have HCE := hide (cnt_end (likeM l[k]) (pushes l (k + 1)))
      have HCH := hide (cnt_hit (likeM l[k]) (pushes l (k + 1)))
      have HCM := hide (cnt_miss (likeM l[k]) (pushes l (k + 1)))
      have HCL := hide (cnt_le (likeM l[k]) (pushes l (k + 1)))
      have HT3 : Hid (cntK (likeM l[k]) (pushes l (k + 1)) (behindL (pushes l (k + 1))) ≤ 3) := HTK
      rw [hqa] at HPk HML c2 HALK
      generalize hPP : pushes l (k + 1) = P at *
      generalize cntK (likeM l[k]) P = CK at *
      generalize behindL P = B at *
      obtain ⟨M, hM1⟩ : ∃ M, P.length = M + 1 := ⟨P.length - 1, by have := hend.1; omega⟩
      have hlast : ∀ h : M < P.length, P[M] = l[k] := fun h => by
        have h2 := hend.2 (by omega)
        have e : P.length - 1 = M := by omega
        simp only [e] at h2
        exact h2
      have HLAST := hide hlast
      have HM1 := hide hM1
      have hM40 : M ≤ 40 := by have := HLK.out; omega
      rw [hM1] at hbl HCE HCL
      have HPP := hide hPP
      have hlk0 := HLIKE.out
      generalize hid : l[k].id = id at *
      generalize hnm : l[k].nm = nm at *
      generalize l[k].aa.length = ql at *
      have HID := hide hid
      have HNM := hide hnm
      clear hst hmk hqa hend hlast hPP HTK HLK hlk0 hid hnm
      go_wp2_with fail
      refine HPk.out.mono ?_
      rintro e x1 ⟨⟨v1, rfl, hN1⟩, b1⟩
      obtain ⟨a1, c1', rfl⟩ := new_form hN1
      have HR1 := hide hN1.row
      have B1 := hide (BW.out.trans (b1.mono BW.out.size))
      rw [HM1.out]
      rw [HM1.out] at HR1
      obtain ⟨b2, o2, ea, g0, g1, g2⟩ := HR1.out.get M (by rw [HM1.out]; omega)
      subst ea
      have hPM := HLAST.out (by rw [HM1.out]; omega)
      obtain ⟨d0, d1, d2⟩ := HML.out _ B1.out
      rw [hPM, HID.out] at g0
      rw [hPM, HNM.out] at g1
      have hne := ne_int ((M : Int) + 1) 0 (by omega)
      have e1 : IntKind.i64.wrap (((M + 1 : Nat) : Int) - 1) = (M : Int) := by rw [IntKind.wrap_i64]; omega
      have e2 : IntKind.i64.wrap (M : Int) = (M : Int) := by rw [IntKind.wrap_i64]; omega
      have hMl : (M : Int) < (M : Int) + 1 := by omega
      clear hN1 b1 HR g2 hPM
      go_wp2_with fail
      go_quiet (fail)
      go_wp2_with fail
      have DD : Hid (Below x0.heap.size x0 (x1.drewN nq)) := hide (below_drewN B1.out nq)
      have HRd : Hid (RowM (x1.drewN nq) (.slice (some ⟨b2, o2, none⟩) (M + 1) c1') P) := hide (HR1.out.below (below_drewN (Below.refl _ _) nq))
      generalize x1.drewN nq = x2 at *
      clear g0 g1 d0 d1 d2 HR1 B1 hne e1 e2
      go_loopw [5, 6] (fun cn ti wr => ∃ t : Nat, B ≤ t ∧ t ≤ M + 1 ∧ cn = .int .i64 (CK t : Int) ∧ ti = .int .i64 ((t : Int) - 1) ∧ Hid (Below x0.heap.size x0 wr) ∧ Hid (RowM wr (.slice (some ⟨b2, o2, none⟩) (M + 1) c1') P)) (fun _ ti _ => (intOf ti + 1).toNat)
      case atStart => exact ⟨M + 1, hbl, Nat.le_refl _, by rw [HCE.out]; rfl, by go_num, DD, HRd⟩
      case round =>
        obtain ⟨t, hBt, htM, rfl, rfl, BX, HX⟩ := hrel
        have hck := HCL.out t
        cases t with
        | zero =>
          obtain rfl : B = 0 := by omega
          have h3 : ¬ ((3 : Int) < (CK 0 : Int)) := by have := HT3.out; omega
          clear HT3 HCH HCM HCE
          go_wp2
          go_roundw
          case rel => exact ⟨k + 1, M + 1, some ⟨b2, o2, none⟩, c1', by omega, by go_num, rfl, hide (by rw [HPP.out]; exact HX.out), BX⟩
          case measure => simp [intOf]; omega
        | succ j =>
          have hj : j < P.length := by rw [HM1.out]; omega
          have hjM : (j : Int) < (M : Int) + 1 := by omega
          obtain ⟨b3, o3, e3, g0, g1, g2⟩ := HX.out.get j hj
          simp only [Option.some.injEq, Addr.mk.injEq, and_true] at e3
          obtain ⟨rfl, rfl⟩ := e3
          have hstop := HBT.out j hj hBt
          have hgo := HGO.out j hj hBt
          have hlk := HLIKE.out P[j]
          have f1 := HCH.out j hj
          have f2 := HCM.out j hj
          rw [hlk] at f1 f2
          have HAT := hide (HALK.out j hj)
          obtain ⟨ra, rc, hra⟩ := HQK.out j hj
          have HSC0 : Hid (∀ W', Below x0.heap.size x0 W' → RowM W' (.slice (some ⟨b2, o2, none⟩) (M + 1) c1') P → W'.cell? ⟨b2, o2 + j * 3 + 1, none⟩ = some (.string P[j].nm) ∧ W'.cell? ⟨b2, o2 + j * 3 + 2, none⟩ = some P[j].av ∧ W'.cell? ⟨b, o + k * 3 + 1, none⟩ = some (.string nm) ∧ W'.cell? ⟨b, o + k * 3 + 2, none⟩ = some (.slice qa ql qc)) := hide fun W' h hx => by
            obtain ⟨-, p1, p2⟩ := HML.out W' h
            obtain ⟨b', o', e, -, h1, h2⟩ := hx.get j hj
            simp only [Option.some.injEq, Addr.mk.injEq, and_true] at e
            obtain ⟨rfl, rfl⟩ := e
            exact ⟨h1, h2, p1, p2⟩
          rw [hra] at HAT HSC0 g2
          generalize alikeL P[j].aa l[k].aa = AL at *
          generalize P[j].nm = X at *
          generalize P[j].aa.length = rl at *
          generalize P[j].id = idj at *
          have e1 : ((j + 1 : Nat) : Int) - 1 = (j : Int) := by omega
          rw [e1]
          have F1 := hide f1
          have F2 := hide f2
          clear f1 f2 hlk hra hj e1
          by_cases h0 : idj = 0
          · subst h0
            have hB := hstop rfl
            have h3 : ¬ ((3 : Int) < (CK (j + 1) : Int)) := by have := HT3.out; rw [← hB] at this; omega
            clear hstop hgo HT3 F1 F2 hB
            go_wp2
            go_roundw
            case rel => exact ⟨k + 1, M + 1, some ⟨b2, o2, none⟩, c1', by omega, by go_num, rfl, hide (by rw [HPP.out]; exact HX.out), BX⟩
            case measure => simp [intOf]; omega
          · have hB := hgo h0
            have h0' := ne_int idj 0 h0
            clear hstop hgo
            have DX := hide BX.out.drew
            have HXD := hide (HX.out.below (Below.refl wr.heap.size wr).drew)
            have HAT2 := hide (HAT.out wr.drew DX.out)
            cases hX : (X.toList == nm.toList) with
            | false =>
              have HF : Hid ((CK (j + 1) : Int) = (CK j : Int)) := hide (by rw [F2.out (by rw [hX, Bool.false_and])])
              obtain ⟨d0, d1, d2⟩ := HML.out _ BX.out
              clear F1 F2
              go_wp2_with fail
              go_region
              all_goals (try go_wp2)
              all_goals go_roundw
              case rel => exact ⟨j, by omega, by omega, by rw [HF.out], by go_num, DX, HXD⟩
              case measure => simp [intOf]
            | true =>
              obtain rfl : X = nm := str_ext X nm hX
              have HSC := HSC0
              clear g1 g2
              cases AL with
              | false =>
                have HF : Hid ((CK (j + 1) : Int) = (CK j : Int)) := hide (by rw [F2.out (by rw [hX]; rfl)])
                clear F1 F2
                go_wp2_with fail
                go_region_held2 (fun W' => W'.cell? ⟨b2, o2 + j * 3 + 1, none⟩ = some (.string X) ∧ W'.cell? ⟨b2, o2 + j * 3 + 2, none⟩ = some (.slice ra rl rc) ∧ W'.cell? ⟨b, o + k * 3 + 1, none⟩ = some (.string X) ∧ W'.cell? ⟨b, o + k * 3 + 2, none⟩ = some (.slice qa ql qc)) (first | with_reducible exact HSC.out _ DX.out HXD.out | with_reducible exact HSC.out _ B3.out HX3.out) (first | (go_at_call 10; refine HAT2.out.mono ?_; rintro e w3 ⟨rfl, b3⟩; have B3 := hide (DX.out.trans (b3.mono DX.out.size)); have HX3 := hide (HXD.out.below b3); clear b3))
                go_wp2
                go_roundw
                case rel => exact ⟨j, by omega, by omega, by rw [HF.out], by go_num, B3, HX3⟩
                case measure => simp [intOf]
              | true =>
                have HF : Hid ((CK j : Int) = (CK (j + 1) : Int) + 1) := hide (by rw [F1.out (by rw [hX]; rfl)]; omega)
                clear F1 F2
                go_wp2_with fail
                go_region_held2 (fun W' => W'.cell? ⟨b2, o2 + j * 3 + 1, none⟩ = some (.string X) ∧ W'.cell? ⟨b2, o2 + j * 3 + 2, none⟩ = some (.slice ra rl rc) ∧ W'.cell? ⟨b, o + k * 3 + 1, none⟩ = some (.string X) ∧ W'.cell? ⟨b, o + k * 3 + 2, none⟩ = some (.slice qa ql qc)) (first | with_reducible exact HSC.out _ DX.out HXD.out | with_reducible exact HSC.out _ B3.out HX3.out) (first | (go_at_call 10; refine HAT2.out.mono ?_; rintro e w3 ⟨rfl, b3⟩; have B3 := hide (DX.out.trans (b3.mono DX.out.size)); have HX3 := hide (HXD.out.below b3); clear b3))
                go_wp2
                go_roundw
                case rel => exact ⟨j, by omega, by omega, by rw [HF.out], by go_num, B3, HX3⟩
                case measure => simp [intOf]
    · have hlt2 : ¬ (k : Int) < N := by omega
      go_wp2_with fail
      refine (H1.out _).mono ?_
      rintro e w4 ⟨rfl, b4⟩
      go_wp2
      go_ret
      exact ⟨rfl, BW.out.trans (b4.mono BW.out.size)⟩
set_option maxHeartbeats 1000000 in
theorem marksThree_walk (v : Value) (l : List MV) (w : World) (hM : RowM w v l) (hOk : OkM w l) :
    Calls Try.prog 7 #[v] w fun e w' => e = .returned (.bool true) ∧ Below w.heap.size w w' := by
  by_cases hs : smallL l = true
  · exact three_ok v l hs w hM hOk
  · have H1 := hide alive_any
    have HSM := hide (small_any v l w hM hOk)
    rw [Bool.eq_false_iff.2 hs] at HSM
    obtain ⟨a, c, rfl⟩ := rowM_form hM
    clear hM hOk hs
    go_enter Try.func7, Try.ntmps7
    go_wp2_with fail
    refine HSM.out.mono ?_
    rintro e x0 ⟨rfl, rfl⟩
    go_wp2_with fail
    refine (H1.out _).mono ?_
    rintro e w1 ⟨rfl, b1⟩
    go_wp2
    go_ret
    exact ⟨rfl, b1⟩
end Go.Proofs.Ytihpjalbdkiecaa
