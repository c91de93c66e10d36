import Derived.Test.YtlfjmgniflkapaaGreatDoorWalkI4
import Derived.Test.YtlfjmgniflkapaaGreatDoorWalkH4
import Derived.Test.YtlfjmgniflkapaaGreatDoorTagL
/- Lists of attributes that the call makes: their cells, and an append to one. -/
set_option linter.unusedVariables false
set_option linter.unusedSimpArgs false
namespace Go.Proofs.YtlfjmgniflkapaaGreatDoor
open Go.RowKit

end Go.Proofs.YtlfjmgniflkapaaGreatDoor
/- What stands in the world while the document's own tag reads on: the answer's block, the token's, its attributes. -/
set_option linter.unusedVariables false
set_option linter.unusedSimpArgs false
namespace Go.Proofs.YtlfjmgniflkapaaGreatDoor
open Go.RowKit

structure TagS (w wr : World) (G : Nat) (nm : ByteArray) (sv : Value) (aa : AttrL) : Prop where
  bel : Below w.heap.size w wr
  lt : w.heap.size < G
  lt2 : G < wr.heap.size
  res : ∀ o, wr.cell? ⟨w.heap.size, o, none⟩ = tok0[o]?
  resf : ∀ o, wr.frozen? ⟨w.heap.size, o, none⟩ = false
  c0 : wr.cell? ⟨G, 0, none⟩ = some (.int .i64 0)
  c1 : wr.cell? ⟨G, 1, none⟩ = some (.string nm)
  c2 : wr.cell? ⟨G, 2, none⟩ = some sv
  c3 : wr.cell? ⟨G, 3, none⟩ = some (.bool false)
  c4 : wr.cell? ⟨G, 4, none⟩ = some (.string ⟨#[]⟩)
  cf : ∀ o, wr.frozen? ⟨G, o, none⟩ = false
  own : wr.ownsRow (G + 1) 50 2 sv aa.length (attrCells aa)
theorem TagS.below {w wr W : World} {G : Nat} {nm : ByteArray} {sv : Value} {aa : AttrL} (h : TagS w wr G nm sv aa) (hb : Below wr.heap.size wr W) : TagS w W G nm sv aa where
  bel := h.bel.trans (hb.mono h.bel.size)
  lt := h.lt
  lt2 := Nat.lt_of_lt_of_le h.lt2 hb.size
  res := fun o => by rw [hb.cell (p := ⟨w.heap.size, o, none⟩) (Nat.lt_trans h.lt h.lt2)]; exact h.res o
  resf := fun o => by rw [hb.frozen (p := ⟨w.heap.size, o, none⟩) (Nat.lt_trans h.lt h.lt2)]; exact h.resf o
  c0 := by rw [hb.cell (p := ⟨G, 0, none⟩) h.lt2]; exact h.c0
  c1 := by rw [hb.cell (p := ⟨G, 1, none⟩) h.lt2]; exact h.c1
  c2 := by rw [hb.cell (p := ⟨G, 2, none⟩) h.lt2]; exact h.c2
  c3 := by rw [hb.cell (p := ⟨G, 3, none⟩) h.lt2]; exact h.c3
  c4 := by rw [hb.cell (p := ⟨G, 4, none⟩) h.lt2]; exact h.c4
  cf := fun o => by rw [hb.frozen (p := ⟨G, o, none⟩) h.lt2]; exact h.cf o
  own := owns_below h.own hb
/-- Behind an append: the list is another one, and stored in the token. -/
theorem TagS.put {w wr W : World} {G : Nat} {nm : ByteArray} {sv sv' : Value} {aa aa' : AttrL} (h : TagS w wr G nm sv aa) (hb : Below (G + 1) wr W) (ho : W.ownsRow (G + 1) 50 2 sv' aa'.length (attrCells aa')) : TagS w (W.setCell ⟨G, 2, none⟩ sv') G nm sv' aa' := by
  have hr : w.heap.size < G + 1 := by have := h.lt; omega
  have hW : G < W.heap.size := Nat.lt_of_lt_of_le h.lt2 hb.size
  have d2 : W.cell? ⟨G, 2, none⟩ = some sv := by rw [hb.cell (p := ⟨G, 2, none⟩) (Nat.lt_succ_self G)]; exact h.c2
  refine { bel := (h.bel.trans (hb.mono (Nat.le_of_lt hr))).setCell (Nat.le_of_lt h.lt) _, lt := h.lt, lt2 := ?_, res := fun o => ?_, resf := fun o => ?_, c0 := ?_, c1 := ?_, c2 := ?_, c3 := ?_, c4 := ?_, cf := fun o => ?_, own := ?_ }
  · simpa [World.setCell] using hW
  · rw [set_other _ _ _ _ (fun e => by have := congrArg Addr.block e; simp at this; have := h.lt; omega), hb.cell (p := ⟨w.heap.size, o, none⟩) hr]
    exact h.res o
  · rw [World.frozen?_setCell, hb.frozen (p := ⟨w.heap.size, o, none⟩) hr]
    exact h.resf o
  · rw [set_other _ _ _ _ (fun e => by have := congrArg Addr.off e; simp at this), hb.cell (p := ⟨G, 0, none⟩) (Nat.lt_succ_self G)]
    exact h.c0
  · rw [set_other _ _ _ _ (fun e => by have := congrArg Addr.off e; simp at this), hb.cell (p := ⟨G, 1, none⟩) (Nat.lt_succ_self G)]
    exact h.c1
  · exact set_same _ _ _ _ d2
  · rw [set_other _ _ _ _ (fun e => by have := congrArg Addr.off e; simp at this), hb.cell (p := ⟨G, 3, none⟩) (Nat.lt_succ_self G)]
    exact h.c3
  · rw [set_other _ _ _ _ (fun e => by have := congrArg Addr.off e; simp at this), hb.cell (p := ⟨G, 4, none⟩) (Nat.lt_succ_self G)]
    exact h.c4
  · rw [World.frozen?_setCell, hb.frozen (p := ⟨G, o, none⟩) (Nat.lt_succ_self G)]
    exact h.cf o
  · refine ⟨ho.1, ?_⟩
    rcases ho.2 with h2 | ⟨g, cap, cur, h1, h2, h3, h4⟩
    · exact .inl h2
    · refine .inr ⟨g, cap, cur, h1, h2, ?_, h4⟩
      rw [Below.heap_setCell W ⟨G, 2, none⟩ sv' g (by show g ≠ G; omega)]
      exact h3
end Go.Proofs.YtlfjmgniflkapaaGreatDoor
/- What the document's own tag answers; nothing that was there is written. -/
set_option linter.unusedVariables false
set_option linter.unusedSimpArgs false
namespace Go.Proofs.YtlfjmgniflkapaaGreatDoor
open Go.RowKit

set_option maxHeartbeats 4000000 in
set_option maxRecDepth 50000 in
theorem tag_any (s : ByteArray) (hs : s.size ≤ 100000) (p : Nat) (hp : p ≤ s.size) (w : World) :
    Calls Tryz.prog 35 #[.string s, .int .i64 (p : Int)] w fun e w' => Below w.heap.size w w' ∧ match tailT [] ((s.data.toList.drop p).dropWhile nameB) with
      | none => e = .returned (.tuple #[tokV { kind := 0 } (.slice none 0 0), .int .i64 0, .bool false])
      | some (aa, cl, V) => ∃ sv, IsA w' sv aa ∧ (∀ k, sv.ownBlock = some k → w.heap.size ≤ k) ∧ e = .returned (.tuple #[tokV { kind := 0, name := lowerL ((s.data.toList.drop p).takeWhile nameB), closed := cl } sv, .int .i64 (s.size - V.length : Nat), .bool true]) := by
  have hU := upTo_any s ⟨#[47, 62]⟩ (by omega) (by decide) p hp
  rw [show (⟨#[47, 62]⟩ : ByteArray).data.toList = [47, 62] from rfl, upto_name] at hU
  have hap := List.takeWhile_append_dropWhile (p := nameB) (l := s.data.toList.drop p)
  have hcut := cut_at s p hp _ _ hap
  have hback := drop_back s p hp _ _ hap
  have hl2 := congrArg List.length hap
  rw [List.length_append, List.length_drop, ← size_list] at hl2
  generalize (s.data.toList.drop p).takeWhile nameB = T at *
  generalize (s.data.toList.drop p).dropWhile nameB = V0 at *
  have hE1 : p ≤ s.size - V0.length := hcut.2
  have hE2 : s.size - V0.length ≤ s.size := by omega
  have hlo := rlower_any ⟨T.toArray⟩ (by rw [size_list, str_data]; omega)
  rw [str_data, ← hcut.1] at hlo
  have HLO := hide hlo
  have HU := hide hU
  have HBK := hide hback.1
  generalize s.size - V0.length = E at *
  generalize hnm : (⟨(lowerL T).toArray⟩ : ByteArray) = nm at *
  have HNM := hide hnm
  clear hcut hap hl2 hlo hU hback hnm
  generalize hRR : tailT [] V0 = RR
  have HRR := hide hRR
  clear hRR
  have HSP := hide rspace_any
  have HU3 : Hid (∀ k, k ≤ s.size → ∀ w, Calls Tryz.prog 55 #[.string s, .int .i64 (k : Int), .string ⟨#[47, 62, 61]⟩] w fun e w' => e = .returned (.int .i64 (s.size - ((s.data.toList.drop k).dropWhile attrB).length : Nat)) ∧ Below w.heap.size w w') := hide (fun k hk w => by
    have h := upTo_any s ⟨#[47, 62, 61]⟩ (by omega) (by decide) k hk w
    rw [show (⟨#[47, 62, 61]⟩ : ByteArray).data.toList = [47, 62, 61] from rfl, upto_attr] at h
    exact h)
  have HSC := hide (fun k (hk : k ≤ s.size) => space4_any s (by omega) k hk)
  have HVL := hide (fun k (hk : k ≤ s.size) => value_any s hs k hk)
  go_enter Tryz.func35, Tryz.ntmps35
  go_wp2_with fail
  refine (HU.out _).mono ?_
  rintro e w1 ⟨rfl, b1⟩
  go_wp2_with fail
  refine (HLO.out _).mono ?_
  rintro e w2 ⟨rfl, b2⟩
  have b12 := b1.trans (b2.mono b1.size)
  have hw2 : w.heap.size < w2.heap.size := by have := b12.size; simp at this; omega
  obtain ⟨hcell, hfz⟩ := bcell b12
  have HS0 : Hid (TagS w (w2.alloc (.cells #[.int .i64 0, .string nm, .slice none 0 0, .bool false, .string ⟨#[]⟩] 29)) w2.heap.size nm (.slice none 0 0) []) := by
    refine hide ?_
    refine { bel := ((below_alloc w _).trans (b12.mono (by simp))).alloc (Nat.le_of_lt hw2) _, lt := hw2, lt2 := by simp, res := fun o => ?_, resf := fun o => ?_, c0 := by rw [World.cell?_alloc_mark]; rfl, c1 := by rw [World.cell?_alloc_mark]; rfl, c2 := by rw [World.cell?_alloc_mark]; rfl, c3 := by rw [World.cell?_alloc_mark]; rfl, c4 := by rw [World.cell?_alloc_mark]; rfl, cf := fun o => ?_, own := World.ownsRow_nil _ _ _ _ }
    · rw [(below_alloc w2 _).cell (p := ⟨w.heap.size, o, none⟩) hw2, hcell w.heap.size o (by simp), World.cell?_alloc_mark]
      simp [tok0]
    · rw [(below_alloc w2 _).frozen (p := ⟨w.heap.size, o, none⟩) hw2, hfz w.heap.size o (by simp)]
      simp
    · simp
  clear hcell hfz b1 b2 b12 HU HLO
  generalize hG : w2.heap.size = G at *
  go_wp2
  go_loopw [1, 7] (fun ta te wr => ∃ (k : Nat) (aa : AttrL) (sv : Value), ta = .int .i64 (k : Int) ∧ k ≤ s.size ∧ aa.length ≤ k ∧ TagS w wr G nm sv aa ∧ Hid (tailT aa (s.data.toList.drop k) = RR)) (fun ta _ _ => s.size - (intOf ta).toNat)
  case atStart =>
    refine ⟨E, [], .slice none 0 0, rfl, hE2, by simp, HS0.out, hide ?_⟩
    rw [HBK.out]
    exact HRR.out
  case round =>
    obtain ⟨k, aa, sv, rfl, hk, hak, hT, HK⟩ := hrel
    have HT := hide hT
    clear hT
    go_wp2
    go_loop [1, 9] (fun ta ts => ∃ (j : Nat) (st : Bool), ta = .int .i64 (j : Int) ∧ ts = .bool st ∧ k ≤ j ∧ j ≤ s.size ∧ Hid ((s.data.toList.drop j).dropWhile passB = (s.data.toList.drop k).dropWhile passB) ∧ Hid (strokeF st (s.data.toList.drop j) = strokeB (s.data.toList.drop k))) (fun ta _ => s.size - (intOf ta).toNat)
    case atStart => exact ⟨k, false, rfl, rfl, Nat.le_refl _, hk, hide rfl, hide (strokeF_start _)⟩
    case round =>
      obtain ⟨j, st, rfl, rfl, hkj, hj, HJ, HST⟩ := hrel
      by_cases hlt : j < s.size
      · have hlt2 : (j : Int) < s.size := by omega
        have hps := pass_step s j hlt
        have hdc := drop_cons s j hlt
        have hix := index4_at s j (j : Int) rfl hlt
        have HQ := hide (HSP.out (s[j]).toNat)
        by_cases hpb : passB s[j] = true
        · rw [if_pos hpb] at hps
          have HJ2 : Hid ((s.data.toList.drop (j + 1)).dropWhile passB = (s.data.toList.drop k).dropWhile passB) := hide (by rw [← hps]; exact HJ.out)
          have HS2 : Hid (strokeF (s[j] == 47) (s.data.toList.drop (j + 1)) = strokeB (s.data.toList.drop k)) := hide (by rw [← HST.out, hdc, strokeF_step _ _ _ hpb])
          by_cases h47 : s[j] = 47
          · have hb : (s[j] == 47) = true := by rw [h47]; rfl
            have hsp : spaceN (s[j]).toNat = false := by rw [h47]; decide
            rw [hb] at HS2
            rw [hsp] at HQ
            have hn : (s[j]).toNat = 47 := by rw [h47]; rfl
            rw [hn] at HQ hix
            clear hps hdc hpb hb hsp h47 hn HJ HST
            go_wp2_with fail
            refine (HQ.out _).mono ?_
            rintro e w1 ⟨rfl, rfl⟩
            go_wp2
            go_round
            case rel => exact ⟨j + 1, true, by go_num, rfl, by omega, by omega, HJ2, HS2⟩
            case measure => simp [intOf]; omega
          · have hb : (s[j] == 47) = false := beq_eq_false_iff_ne.2 h47
            have hsp : spaceN (s[j]).toNat = true := by
              have := hpb
              unfold passB isSp at this
              rw [hb, Bool.or_false] at this
              exact this
            have hne : (s[j]).toNat ≠ 47 := fun h => h47 (UInt8.toNat_inj.1 h)
            have e47 := ne_lit _ 47 (by omega : ((s[j]).toNat : Int) ≠ 47)
            rw [hb] at HS2
            rw [hsp] at HQ
            generalize (s[j]).toNat = cc at *
            clear hps hdc hpb hb hsp h47 hne HJ HST
            go_wp2_with fail
            refine (HQ.out _).mono ?_
            rintro e w1 ⟨rfl, rfl⟩
            go_wp2
            go_round
            case rel => exact ⟨j + 1, false, by go_num, rfl, by omega, by omega, HJ2, HS2⟩
            case measure => simp [intOf]; omega
        · have hpb2 : passB s[j] = false := by simpa using hpb
          rw [if_neg hpb] at hps
          have HD : Hid ((s.data.toList.drop k).dropWhile passB = s[j] :: s.data.toList.drop (j + 1)) := hide (by rw [← HJ.out, hps, hdc])
          have HST2 : Hid (st = strokeB (s.data.toList.drop k)) := hide (by rw [← HST.out, strokeF_stop _ _ (.inr ⟨_, _, hdc, hpb2⟩)])
          have hsp : spaceN (s[j]).toNat = false := by
            have := hpb2
            unfold passB isSp at this
            simp only [Bool.or_eq_false_iff] at this
            exact this.1
          have h47 : (s[j]).toNat ≠ 47 := fun h => by
            have := hpb2
            unfold passB at this
            rw [UInt8.toNat_inj.1 (show (s[j]).toNat = (47 : UInt8).toNat from h)] at this
            simp at this
          have e47 := ne_lit _ 47 (by omega : ((s[j]).toNat : Int) ≠ 47)
          rw [hsp] at HQ
          clear hps hpb hpb2 hsp HJ HST
          by_cases h62 : (s[j]).toNat = 62
          · have hRE : RR = some (aa, st, s.data.toList.drop (j + 1)) := by
              rw [← HK.out, tail_end aa _ _ (by rw [HD.out, UInt8.toNat_inj.1 (show (s[j]).toNat = (62 : UInt8).toNat from h62)]), HST2.out]
            have hjn : ((s.size - (s.data.toList.drop (j + 1)).length : Nat) : Int) = (j : Int) + 1 := by rw [List.length_drop, ← size_list]; omega
            clear HD hdc
            generalize s.data.toList.drop (j + 1) = V at *
            have HJN := hide hjn
            clear hjn
            subst hRE
            rw [h62] at hix HQ
            obtain ⟨bel, lt, lt2, res, resf, c0, c1, c2, c3, c4, cf, own⟩ := HT.out
            obtain ⟨sa, sc, rfl⟩ := owns_form own
            clear HK HRR HSP h47 e47
            have r0 := res 0
            have r1 := res 1
            have r2 := res 2
            have r3 := res 3
            have r4 := res 4
            simp only [tok0, List.getElem?_cons_zero, List.getElem?_cons_succ] at r0 r1 r2 r3 r4
            have HOWN := hide own
            clear res own
            go_wp2_with fail
            refine (HQ.out _).mono ?_
            rintro e w1 ⟨rfl, rfl⟩
            go_wp2
            refine bodyPost_ret (v := .tuple #[tokV { kind := 0, name := lowerL T, closed := st } (.slice sa aa.length sc), .int .i64 (s.size - V.length : Nat), .bool true]) ?_ rfl ⟨below_set5b (bel.setCell (Nat.le_of_lt lt) _) _ _ _ _ _, _, owns_isA (owns_set (owns_set (owns_set (owns_set (owns_set (owns_set HOWN.out _ _ (Nat.lt_succ_self G)) _ _ (by show w.heap.size < G + 1; omega)) _ _ (by show w.heap.size < G + 1; omega)) _ _ (by show w.heap.size < G + 1; omega)) _ _ (by show w.heap.size < G + 1; omega)) _ _ (by show w.heap.size < G + 1; omega)), (fun k hk => by have := (HOWN.out.lt k hk).1; omega), rfl⟩
            rw [HJN.out]
            unfold tokV
            rw [HNM.out]
            simp [results, Tryz.results35, go_sem, r0, r1, r2, r3, r4, c0, c1, c2, c3, c4]
          · have hc62 : s[j] ≠ 62 := fun h => h62 (by rw [h]; rfl)
            have e62 := ne_lit _ 62 (by omega : ((s[j]).toNat : Int) ≠ 62)
            have hapA := List.takeWhile_append_dropWhile (p := attrB) (l := s.data.toList.drop (j + 1))
            have hbkA := dw_back attrB s (j + 1) (by omega)
            have hcutA := cut_at s j hj (s[j] :: (s.data.toList.drop (j + 1)).takeWhile attrB) ((s.data.toList.drop (j + 1)).dropWhile attrB) (by rw [List.cons_append, hapA, ← hdc])
            have hu3 := HU3.out (j + 1) (by omega)
            have hlenN : (⟨(s[j] :: (s.data.toList.drop (j + 1)).takeWhile attrB).toArray⟩ : ByteArray).size ≤ 1000000 := by
              rw [← hcutA.1, ByteArray.size_extract]; omega
            have hlw : ∀ w, Calls Tryz.prog 33 #[.string (s.extract j (s.size - ((s.data.toList.drop (j + 1)).dropWhile attrB).length))] w fun e w' => e = .returned (.string ⟨(lowerL (s[j] :: (s.data.toList.drop (j + 1)).takeWhile attrB)).toArray⟩) ∧ Below w.heap.size w w' := by
              intro w
              rw [hcutA.1]
              exact rlower_any _ hlenN w
            have hTP := tail_plain aa _ _ _ HD.out hc62
            have hTV := fun r4 => tail_value aa _ _ _ r4 HD.out hc62
            rw [HK.out] at hTP hTV
            generalize lowerL (s[j] :: (s.data.toList.drop (j + 1)).takeWhile attrB) = NL at *
            have hE2a : j + 1 ≤ s.size - ((s.data.toList.drop (j + 1)).dropWhile attrB).length := hbkA.2.1
            have hE2b : s.size - ((s.data.toList.drop (j + 1)).dropWhile attrB).length ≤ s.size := hbkA.2.2.1
            have hsc := HSC.out (s.size - ((s.data.toList.drop (j + 1)).dropWhile attrB).length) hE2b
            rw [hbkA.1] at hsc
            have hbkS := dw_back isSp s _ hE2b
            rw [hbkA.1] at hbkS
            generalize (s.data.toList.drop (j + 1)).dropWhile attrB = V1 at *
            generalize V1.dropWhile isSp = QQ at *
            have hK1 : s.size - V1.length ≤ s.size - QQ.length := hbkS.2.1
            have hK2 : s.size - QQ.length ≤ s.size := hbkS.2.2.1
            have HQD := hide hbkS.1
            have HU4 := hide hu3
            have HLW := hide hlw
            have HSC4 := hide hsc
            have HTP := hide hTP
            have HTV := hide hTV
            clear hu3 hlw hsc hTP hTV hbkS hbkA hcutA hapA hlenN HD hdc hc62 h62 HK HRR HST2
            generalize s.size - V1.length = E2 at *
            generalize s.size - QQ.length = K2 at *
            go_wp2_with fail
            refine (HQ.out _).mono ?_
            rintro e w1 ⟨rfl, rfl⟩
            go_wp2_with fail
            refine (HU4.out _).mono ?_
            rintro e wu ⟨rfl, bu⟩
            go_wp2_with fail
            refine (HLW.out _).mono ?_
            rintro e wl ⟨rfl, bl⟩
            have hTl := (HT.out.below bu).below bl
            have HTL := hide hTl
            obtain ⟨_, ltl, lt2l, _, _, _, _, c2l, _, _, _, ownl⟩ := hTl
            have hne : ¬ wl.heap.size = G := by omega
            have hne2 : ¬ G = wl.heap.size := by omega
            clear ownl
            by_cases hq : QQ.head? = some 61
            · have hKs : K2 < s.size := by
                by_cases h : K2 < s.size
                · exact h
                · have h0 := HQD.out
                  rw [drop_end s K2 (by omega)] at h0
                  rw [← h0] at hq
                  simp at hq
              have hQc : QQ = 61 :: s.data.toList.drop (K2 + 1) ∧ (s[K2]).toNat = 61 := by
                have h0 := HQD.out
                rw [drop_cons s K2 hKs] at h0
                rw [← h0] at hq ⊢
                simp only [List.head?_cons, Option.some.injEq] at hq
                rw [hq]
                exact ⟨rfl, rfl⟩
              have hnx := HTV.out _ hQc.1
              have hbk3 := dw_back isSp s (K2 + 1) (by omega)
              have hsc3 := HSC.out (K2 + 1) (by omega)
              have hvl := HVL.out _ hbk3.2.2.1
              have hbk4 := value_back s _ hbk3.2.2.1
              rw [hbk3.1] at hvl hbk4
              generalize (s.data.toList.drop (K2 + 1)).dropWhile isSp = V3 at *
              rw [← hbk4.1] at hnx
              have hx1 : K2 + 1 ≤ s.size - V3.length := hbk3.2.1
              have hx2 : s.size - V3.length ≤ s.size - (valueL V3).2.length := hbk4.2.1
              have hx3 : s.size - (valueL V3).2.length ≤ s.size := hbk4.2.2.1
              have HNX := hide hnx.symm
              have HS3 := hide hsc3
              have HV3 := hide hvl
              clear hnx HTP HTV hbk3 hbk4 hsc3 hvl hq HQD
              generalize (valueL V3).1 = XL at *
              generalize s.size - (valueL V3).2.length = K4 at *
              generalize s.size - V3.length = K3 at *
              have hKlt : (K2 : Int) < s.size := by omega
              have hixK := index4_at s K2 (K2 : Int) rfl hKs
              rw [hQc.2] at hixK
              clear hQc
              have hK1c : ((K2 + 1 : Nat) : Int) = (K2 : Int) + 1 := by omega
              go_wp2_with fail
              refine (HSC4.out _).mono ?_
              rintro e w3 ⟨rfl, rfl⟩
              go_wp2_with fail
              refine (HS3.out _).mono ?_
              rintro e w3 ⟨rfl, rfl⟩
              go_wp2_with fail
              refine (HV3.out _).mono ?_
              rintro e wv ⟨rfl, bv⟩
              have bX : Below wl.heap.size wl wv := (below_alloc wl _).trans (bv.mono (by simp))
              have hTX := HTL.out.below bX
              have c2x := hTX.c2
              obtain ⟨hcv, hfv⟩ := bcell bv
              have hA0x : wv.cell? ⟨wl.heap.size, 0, none⟩ = some (.string ⟨NL.toArray⟩) := by rw [hcv _ _ (by simp), World.cell?_alloc_mark]; rfl
              have hA1x : wv.cell? ⟨wl.heap.size, 1, none⟩ = some (.string ⟨#[]⟩) := by rw [hcv _ _ (by simp), World.cell?_alloc_mark]; rfl
              have hfAx : wv.frozen? ⟨wl.heap.size, 1, none⟩ = false := by rw [hfv _ _ (by simp)]; simp
              have HBX := hide bX
              clear hcv hfv bv bX hTX c2l
              go_wp2_with fail
              generalize hY : wv.setCell ⟨wl.heap.size, 1, none⟩ (.string ⟨XL.toArray⟩) = Y
              have bY : Below wl.heap.size wl Y := by rw [← hY]; exact HBX.out.setCell (Nat.le_refl _) _
              have hTY := HTL.out.below bY
              have hA0 : Y.cell? ⟨wl.heap.size, 0, none⟩ = some (.string ⟨NL.toArray⟩) := by rw [← hY, set_other _ _ _ _ (fun e => by have := congrArg Addr.off e; simp at this)]; exact hA0x
              have hA1 : Y.cell? ⟨wl.heap.size, 1, none⟩ = some (.string ⟨XL.toArray⟩) := by rw [← hY]; exact set_same _ _ _ _ hA1x
              clear hY bY c2x hA0x hA1x hfAx HBX HTL HSC4 HU4 HLW HT HQ HS3 HV3
              have HGT := hide (get_any sv aa (by omega) ⟨NL.toArray⟩ Y (owns_isA hTY.own))
              have hgs : Hid (∀ x : List UInt8, addA aa (NL, x) = if (getA aa NL).isSome then aa else aa ++ [(NL, x)]) := hide (fun x => rfl)
              have HGT' : Hid (Calls Tryz.prog 58 #[sv, .string ⟨NL.toArray⟩] Y fun e w' => e = .returned (.tuple #[.string (gotS (getA aa NL)), .bool (getA aa NL).isSome]) ∧ w' = Y) := HGT
              clear HGT
              refine HGT'.out.mono ?_
              rintro e w5 ⟨rfl, rfl⟩
              clear HGT'
              generalize (getA aa NL).isSome = has at *
              generalize gotS (getA aa NL) = gg at *
              cases has
              · have hadd : addA aa (NL, XL) = aa ++ [(NL, XL)] := hgs.out _
                rw [hadd] at HNX
                obtain ⟨v', w', hr, ho, hb⟩ := append_attr w5 (G + 1) aa.length sv aa (NL, XL) hTY.own (by omega) hTY.lt2
                have ho' : w'.ownsRow (G + 1) 50 2 v' (aa ++ [(NL, XL)]).length (attrCells (aa ++ [(NL, XL)])) := by rw [List.length_append]; exact ho
                have hput := hTY.put hb ho'
                have HPUT := hide hput
                have hc2 : w'.cell? ⟨G, 2, none⟩ = some sv := by rw [hb.cell (p := ⟨G, 2, none⟩) (Nat.lt_succ_self G)]; exact hTY.c2
                have hf2 : w'.frozen? ⟨G, 2, none⟩ = false := by rw [hb.frozen (p := ⟨G, 2, none⟩) (Nat.lt_succ_self G)]; exact hTY.cf 2
                have hc5 := hTY.c2
                obtain ⟨va, vc, rfl⟩ := owns_form ho'
                have eln : (aa ++ [(NL, XL)]).length = aa.length + 1 := by simp
                rw [eln] at HPUT
                rw [eln] at hr
                clear eln
                have HR := hide hr
                clear hr ho ho' hput hadd hgs hTY hb
                go_wp2_with (with_reducible refine wpList_append_run rfl _ _ 27 rfl sv (.slice (some ⟨w5.heap.size, 0, none⟩) 1 1) _ w' rfl rfl HR.out ?_)
                go_roundw
                case rel => exact ⟨K4, aa ++ [(NL, XL)], _, rfl, by omega, by simp; omega, HPUT.out, HNX⟩
                case measure => simp [intOf]; omega
              · have hadd : addA aa (NL, XL) = aa := hgs.out _
                rw [hadd] at HNX
                have HPUT := hide hTY
                clear hTY hadd hgs
                go_wp2
                go_roundw
                case rel => exact ⟨K4, aa, sv, rfl, by omega, by omega, HPUT.out, HNX⟩
                case measure => simp [intOf]; omega
            · have hnx := HTP.out hq
              rw [← HQD.out] at hnx
              have HNX := hide hnx.symm
              clear hnx HTP HTV
              have hK61 : ∀ (h : K2 < s.size), (s[K2]).toNat ≠ 61 := fun h h61 => by
                rw [← HQD.out, drop_cons s K2 h, UInt8.toNat_inj.1 (show (s[K2]).toNat = (61 : UInt8).toNat from h61)] at hq
                exact hq rfl
              by_cases hK : K2 < s.size
              · have hKlt : (K2 : Int) < s.size := by omega
                have e61 := ne_lit _ 61 (by have := hK61 hK; omega : ((s[K2]).toNat : Int) ≠ 61)
                have hixK := index4_at s K2 (K2 : Int) rfl hK
                generalize (s[K2]).toNat = c61 at *
                clear hK61 hq HQD
                go_wp2_with fail
                refine (HSC4.out _).mono ?_
                rintro e w3 ⟨rfl, rfl⟩
                go_wp2_with fail
                generalize hY : wl.alloc (.cells #[.string ⟨NL.toArray⟩, .string ⟨#[]⟩] 50) = Y
                have bY : Below wl.heap.size wl Y := by rw [← hY]; exact below_alloc wl _
                have hTY := HTL.out.below bY
                have hA0 : Y.cell? ⟨wl.heap.size, 0, none⟩ = some (.string ⟨NL.toArray⟩) := by rw [← hY, World.cell?_alloc_mark]; rfl
                have hA1 : Y.cell? ⟨wl.heap.size, 1, none⟩ = some (.string ⟨#[]⟩) := by rw [← hY, World.cell?_alloc_mark]; rfl
                clear hY bY c2l HTL HSC4 HU4 HLW HT HQ
                have HGT := hide (get_any sv aa (by omega) ⟨NL.toArray⟩ Y (owns_isA hTY.own))
                have hgs : Hid (∀ x : List UInt8, addA aa (NL, x) = if (getA aa NL).isSome then aa else aa ++ [(NL, x)]) := hide (fun x => rfl)
                have HGT' : Hid (Calls Tryz.prog 58 #[sv, .string ⟨NL.toArray⟩] Y fun e w' => e = .returned (.tuple #[.string (gotS (getA aa NL)), .bool (getA aa NL).isSome]) ∧ w' = Y) := HGT
                clear HGT
                refine HGT'.out.mono ?_
                rintro e w5 ⟨rfl, rfl⟩
                clear HGT'
                generalize (getA aa NL).isSome = has at *
                generalize gotS (getA aa NL) = gg at *
                cases has
                · have hadd : addA aa (NL, []) = aa ++ [(NL, [])] := hgs.out _
                  rw [hadd] at HNX
                  obtain ⟨v', w', hr, ho, hb⟩ := append_attr w5 (G + 1) aa.length sv aa (NL, []) hTY.own (by omega) hTY.lt2
                  have ho' : w'.ownsRow (G + 1) 50 2 v' (aa ++ [(NL, [])]).length (attrCells (aa ++ [(NL, [])])) := by rw [List.length_append]; exact ho
                  have hput := hTY.put hb ho'
                  have HPUT := hide hput
                  have hc2 : w'.cell? ⟨G, 2, none⟩ = some sv := by rw [hb.cell (p := ⟨G, 2, none⟩) (Nat.lt_succ_self G)]; exact hTY.c2
                  have hf2 : w'.frozen? ⟨G, 2, none⟩ = false := by rw [hb.frozen (p := ⟨G, 2, none⟩) (Nat.lt_succ_self G)]; exact hTY.cf 2
                  have hc5 := hTY.c2
                  obtain ⟨va, vc, rfl⟩ := owns_form ho'
                  have eln : (aa ++ [(NL, [])]).length = aa.length + 1 := by simp
                  rw [eln] at HPUT
                  rw [eln] at hr
                  clear eln
                  have HR := hide hr
                  clear hr ho ho' hput hadd hgs hTY hb
                  go_wp2_with (with_reducible refine wpList_append_run rfl _ _ 27 rfl sv (.slice (some ⟨w5.heap.size, 0, none⟩) 1 1) _ w' rfl rfl HR.out ?_)
                  go_roundw
                  case rel => exact ⟨K2, aa ++ [(NL, [])], _, rfl, by omega, by simp; omega, HPUT.out, HNX⟩
                  case measure => simp [intOf]; omega
                · have hadd : addA aa (NL, []) = aa := hgs.out _
                  rw [hadd] at HNX
                  have HPUT := hide hTY
                  clear hTY hadd hgs
                  go_wp2
                  go_roundw
                  case rel => exact ⟨K2, aa, sv, rfl, by omega, by omega, HPUT.out, HNX⟩
                  case measure => simp [intOf]; omega
              · have hKlt : ¬ (K2 : Int) < s.size := by omega
                clear hK61 hq HQD
                go_wp2_with fail
                refine (HSC4.out _).mono ?_
                rintro e w3 ⟨rfl, rfl⟩
                go_wp2_with fail
                generalize hY : wl.alloc (.cells #[.string ⟨NL.toArray⟩, .string ⟨#[]⟩] 50) = Y
                have bY : Below wl.heap.size wl Y := by rw [← hY]; exact below_alloc wl _
                have hTY := HTL.out.below bY
                have hA0 : Y.cell? ⟨wl.heap.size, 0, none⟩ = some (.string ⟨NL.toArray⟩) := by rw [← hY, World.cell?_alloc_mark]; rfl
                have hA1 : Y.cell? ⟨wl.heap.size, 1, none⟩ = some (.string ⟨#[]⟩) := by rw [← hY, World.cell?_alloc_mark]; rfl
                clear hY bY c2l HTL HSC4 HU4 HLW HT HQ
                have HGT := hide (get_any sv aa (by omega) ⟨NL.toArray⟩ Y (owns_isA hTY.own))
                have hgs : Hid (∀ x : List UInt8, addA aa (NL, x) = if (getA aa NL).isSome then aa else aa ++ [(NL, x)]) := hide (fun x => rfl)
                have HGT' : Hid (Calls Tryz.prog 58 #[sv, .string ⟨NL.toArray⟩] Y fun e w' => e = .returned (.tuple #[.string (gotS (getA aa NL)), .bool (getA aa NL).isSome]) ∧ w' = Y) := HGT
                clear HGT
                refine HGT'.out.mono ?_
                rintro e w5 ⟨rfl, rfl⟩
                clear HGT'
                generalize (getA aa NL).isSome = has at *
                generalize gotS (getA aa NL) = gg at *
                cases has
                · have hadd : addA aa (NL, []) = aa ++ [(NL, [])] := hgs.out _
                  rw [hadd] at HNX
                  obtain ⟨v', w', hr, ho, hb⟩ := append_attr w5 (G + 1) aa.length sv aa (NL, []) hTY.own (by omega) hTY.lt2
                  have ho' : w'.ownsRow (G + 1) 50 2 v' (aa ++ [(NL, [])]).length (attrCells (aa ++ [(NL, [])])) := by rw [List.length_append]; exact ho
                  have hput := hTY.put hb ho'
                  have HPUT := hide hput
                  have hc2 : w'.cell? ⟨G, 2, none⟩ = some sv := by rw [hb.cell (p := ⟨G, 2, none⟩) (Nat.lt_succ_self G)]; exact hTY.c2
                  have hf2 : w'.frozen? ⟨G, 2, none⟩ = false := by rw [hb.frozen (p := ⟨G, 2, none⟩) (Nat.lt_succ_self G)]; exact hTY.cf 2
                  have hc5 := hTY.c2
                  obtain ⟨va, vc, rfl⟩ := owns_form ho'
                  have eln : (aa ++ [(NL, [])]).length = aa.length + 1 := by simp
                  rw [eln] at HPUT
                  rw [eln] at hr
                  clear eln
                  have HR := hide hr
                  clear hr ho ho' hput hadd hgs hTY hb
                  go_wp2_with (with_reducible refine wpList_append_run rfl _ _ 27 rfl sv (.slice (some ⟨w5.heap.size, 0, none⟩) 1 1) _ w' rfl rfl HR.out ?_)
                  go_roundw
                  case rel => exact ⟨K2, aa ++ [(NL, [])], _, rfl, by omega, by simp; omega, HPUT.out, HNX⟩
                  case measure => simp [intOf]; omega
                · have hadd : addA aa (NL, []) = aa := hgs.out _
                  rw [hadd] at HNX
                  have HPUT := hide hTY
                  clear hTY hadd hgs
                  go_wp2
                  go_roundw
                  case rel => exact ⟨K2, aa, sv, rfl, by omega, by omega, HPUT.out, HNX⟩
                  case measure => simp [intOf]; omega
      · have HD : Hid ((s.data.toList.drop k).dropWhile passB = []) := hide (by rw [← HJ.out, drop_end s j (by omega)]; rfl)
        have hRN : RR = none := by rw [← HK.out, tail_none aa _ HD.out]
        subst hRN
        have hlt2 : ¬ (j : Int) < s.size := by omega
        obtain ⟨bel, _, _, res, resf, _, _, _, _, _, _, _⟩ := HT.out
        clear HD HK HRR HJ HST HSP
        have r0 := res 0
        have r1 := res 1
        have r2 := res 2
        have r3 := res 3
        have r4 := res 4
        simp only [tok0, List.getElem?_cons_zero, List.getElem?_cons_succ] at r0 r1 r2 r3 r4
        clear res
        go_wp2
        refine bodyPost_ret (v := .tuple #[tokV { kind := 0 } (.slice none 0 0), .int .i64 0, .bool false]) ?_ rfl ⟨below_set5b bel _ _ _ _ _, rfl⟩
        first | (rw [results_cell_tmp rfl]; go_simp; rfl) | (simp [results, Tryz.results35, go_sem, r0, r1, r2, r3, r4]; rfl) | trace_state
end Go.Proofs.YtlfjmgniflkapaaGreatDoor
/- What the document's own ended answers; nothing that was there is written. -/
set_option linter.unusedVariables false
set_option linter.unusedSimpArgs false
namespace Go.Proofs.YtlfjmgniflkapaaGreatDoor
open Go.RowKit

set_option maxHeartbeats 1000000 in
theorem ended_any (s : ByteArray) (hs : s.size ≤ 100000) (p : Nat) (hp : p ≤ s.size) (stop : Bool) (w : World) :
    Calls Tryz.prog 16 #[.string s, .int .i64 (p : Int), .int .i64 (if stop then 3 else 2)] w fun e w' => TokAt w w' e s (endedL (s.data.toList.drop p) stop) ∧ Below w.heap.size w w' := by
  have hT := tag_any s hs p hp
  have hE : endedL (s.data.toList.drop p) stop = match tailT [] ((s.data.toList.drop p).dropWhile nameB) with
      | none => ({ kind := 0 }, [])
      | some (aa, cl, V) => if stop then ({ kind := 3, name := lowerL ((s.data.toList.drop p).takeWhile nameB) }, V) else ({ kind := 2, name := lowerL ((s.data.toList.drop p).takeWhile nameB), attrs := aa, closed := cl }, V) := by
    unfold endedL
    rw [tagL_tail]
    cases tailT [] ((s.data.toList.drop p).dropWhile nameB) <;> rfl
  rw [hE]
  clear hE
  generalize lowerL ((s.data.toList.drop p).takeWhile nameB) = NL at *
  cases hR : tailT [] ((s.data.toList.drop p).dropWhile nameB) with
  | none =>
    rw [hR] at hT
    have HT : Hid (∀ w, Calls Tryz.prog 35 #[.string s, .int .i64 (p : Int)] w fun e w' => Below w.heap.size w w' ∧ e = .returned (.tuple #[tokV { kind := 0 } (.slice none 0 0), .int .i64 0, .bool false])) := hide hT
    clear hT hR
    cases stop
    all_goals
      go_enter Tryz.func16, Tryz.ntmps16
      go_wp2_with fail
      refine (HT.out _).mono ?_
      rintro e w1 ⟨b1, rfl⟩
      obtain ⟨hcell, hfz⟩ := bcell b1
      have hz : w.heap.size < w1.heap.size := by have := b1.size; simp at this; omega
      have HB1 := hide b1
      clear b1
      unfold tokV
      go_wp2_with fail
      refine bodyPost_ret (v := .tuple #[tokV { kind := 0 } (.slice none 0 0), .int .i64 (s.size : Int)]) ?_ rfl ⟨⟨.slice none 0 0, .inl ⟨rfl, rfl⟩, (fun k hk => by cases hk), rfl⟩, ?_⟩
      · rw [results_cell_tmp rfl]
        go_simp
        rfl
      · have h := below_set5 _ HB1.out (.int .i64 0) (.string ⟨#[]⟩) (.slice none 0 0) (.bool false) (.string ⟨#[]⟩)
        exact h.alloc h.size _
  | some x =>
    obtain ⟨aa, cl, V⟩ := x
    rw [hR] at hT
    have HT : Hid (∀ w, Calls Tryz.prog 35 #[.string s, .int .i64 (p : Int)] w fun e w' => Below w.heap.size w w' ∧ ∃ sv, IsA w' sv aa ∧ (∀ k, sv.ownBlock = some k → w.heap.size ≤ k) ∧ e = .returned (.tuple #[tokV { kind := 0, name := NL, closed := cl } sv, .int .i64 (s.size - V.length : Nat), .bool true])) := hide hT
    clear hT hR
    cases stop
    · go_enter Tryz.func16, Tryz.ntmps16
      go_wp2_with fail
      refine (HT.out _).mono ?_
      rintro e w1 ⟨b1, sv, hA, hob, rfl⟩
      obtain ⟨hcell, hfz⟩ := bcell b1
      have hz : w.heap.size < w1.heap.size := by have := b1.size; simp at this; omega
      have HB1 := hide b1
      have HA := hide hA
      have hob2 : ∀ k, sv.ownBlock = some k → w.heap.size + 1 ≤ k := fun k hk => by have := hob k hk; simp at this; omega
      have HOB := hide hob2
      obtain ⟨sa, sn, sc, rfl⟩ : ∃ a n c, sv = .slice a n c := by
        rcases hA with ⟨h, _⟩ | ⟨b, o, cap, h, _⟩
        · exact ⟨_, _, _, h⟩
        · exact ⟨_, _, _, h⟩
      clear b1 hA hob hob2
      unfold tokV
      go_wp2_with fail
      refine bodyPost_ret (v := .tuple #[tokV { kind := 2, name := NL, closed := cl } (.slice sa sn sc), .int .i64 (s.size - V.length : Nat)]) ?_ rfl ⟨⟨.slice sa sn sc, ?_, (fun k hk => by have := HOB.out k hk; omega), rfl⟩, ?_⟩
      · rw [results_cell_tmp rfl]
        go_simp
        rfl
      · have hn : ∀ k, (Value.slice sa sn sc).ownBlock = some k → k ≠ w.heap.size := fun k hk => by have := HOB.out k hk; omega
        exact (((((HA.out.set _ _ hn).set _ _ hn).set _ _ hn).set _ _ hn).set _ _ hn).alloc _
      · have h := below_set5 _ HB1.out (.int .i64 2) (.string ⟨NL.toArray⟩) (.slice sa sn sc) (.bool cl) (.string ⟨#[]⟩)
        exact h.alloc h.size _
    · go_enter Tryz.func16, Tryz.ntmps16
      go_wp2_with fail
      refine (HT.out _).mono ?_
      rintro e w1 ⟨b1, sv, hA, hob, rfl⟩
      obtain ⟨hcell, hfz⟩ := bcell b1
      have hz : w.heap.size < w1.heap.size := by have := b1.size; simp at this; omega
      have HB1 := hide b1
      have HA := hide hA
      have hob2 : ∀ k, sv.ownBlock = some k → w.heap.size + 1 ≤ k := fun k hk => by have := hob k hk; simp at this; omega
      have HOB := hide hob2
      obtain ⟨sa, sn, sc, rfl⟩ : ∃ a n c, sv = .slice a n c := by
        rcases hA with ⟨h, _⟩ | ⟨b, o, cap, h, _⟩
        · exact ⟨_, _, _, h⟩
        · exact ⟨_, _, _, h⟩
      clear b1 hA hob hob2
      unfold tokV
      go_wp2_with fail
      refine bodyPost_ret (v := .tuple #[tokV { kind := 3, name := NL } (.slice none 0 0), .int .i64 (s.size - V.length : Nat)]) ?_ rfl ⟨⟨.slice none 0 0, .inl ⟨rfl, rfl⟩, (fun k hk => by cases hk), rfl⟩, ?_⟩
      · rw [results_cell_tmp rfl]
        go_simp
        rfl
      · have h := below_set5 _ HB1.out (.int .i64 3) (.string ⟨NL.toArray⟩) (.slice none 0 0) (.bool false) (.string ⟨#[]⟩)
        first | exact h.alloc h.size _ | exact (h.alloc h.size _).alloc (h.alloc h.size _).size _ | trace_state
end Go.Proofs.YtlfjmgniflkapaaGreatDoor
