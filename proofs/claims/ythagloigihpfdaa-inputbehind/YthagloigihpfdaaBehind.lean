/- Proved: for every text and every list of bytes InputBehind answers true: behind a right text bytes are decoded as alone, neither beginning with the mark, at most 300 bytes each; beyond that the live question is answered as fixed. Conditions: none beyond the given row's. -/
import Derived.Test.YthagloigihpfdaaDecodes
set_option linter.unusedVariables false
namespace Go.Proofs.Ythagloigihpfdaa
open Go.ChangeShapes Go.WideShapes Go.ChangeAt Go.RowKit
open Go.ChangeMaps (open_string shut_string)

theorem decode_str (t : ByteArray) (v : Value) (ht : t.size ≤ 1000000) (w : World) (hv : (convert 22 9 v).run Try.prog w = .ok (.string t) w) :
    Calls Try.prog 7 #[v] w fun e w' => e = .returned (.string ⟨(DecL t.data.toList).toArray⟩) ∧ Below w.heap.size w w' :=
  decode_any t.data.toList v (by rw [← size_list]; exact ht) w hv
theorem str_data (l : List UInt8) : (⟨l.toArray⟩ : ByteArray).data.toList = l := rfl

/-- string(b), in this world and wherever nothing of it was written. -/
def Reads (w : World) (v : Value) (t : ByteArray) : Prop := ∀ W, Below w.heap.size w W → (convert 22 9 v).run Try.prog W = .ok (.string t) W
theorem IsB.reads {w : World} {v : Value} {t : ByteArray} (h : IsB w v t.data.toList) : Reads w v t := fun W hb => (h.below hb).conv

set_option maxHeartbeats 1000000 in
theorem behind_walk (s t : ByteArray) (a : Option Addr) (len cap : Nat) (hlen : t.size = len) (w : World) (hb : Reads w (.slice a len cap) t) :
    Calls Try.prog 5 #[.string s, .slice a len cap] w fun e w' => e = .returned (.bool true) ∧ Below w.heap.size w w' := by
  have H1 := hide alive_any
  by_cases hs : 300 < s.size
  · have hs2 : (300 : Int) < s.size := by omega
    clear hs hlen hb
    go_enter Try.func5, Try.ntmps5
    go_wp2_with fail
    refine (H1.out _).mono ?_
    rintro e wz ⟨rfl, bz⟩
    go_wp2
    go_ret
    exact ⟨rfl, bz⟩
  · have hs2 : ¬ (300 : Int) < s.size := by omega
    by_cases ht : 300 < len
    · have ht2 : (300 : Int) < len := by omega
      clear hs hlen hb ht
      go_enter Try.func5, Try.ntmps5
      go_wp2_with fail
      refine (H1.out _).mono ?_
      rintro e wz ⟨rfl, bz⟩
      go_wp2
      go_ret
      exact ⟨rfl, bz⟩
    · have ht2 : ¬ (300 : Int) < len := by omega
      have ht3 : t.size ≤ 300 := by omega
      have M1 := hide (marked_any s (by omega))
      have M2 := hide (marked_any t (by omega))
      have hcv := hb w (Below.refl _ _)
      have M3 := hide (marked_any (s ++ t) (by rw [ByteArray.size_append]; omega))
      rw [str_app s t _ _ rfl rfl] at M3
      have HB := hide hb
      clear hlen hb
      cases m1 : markedL s.data.toList
      · rw [m1] at M1
        cases m2 : markedL t.data.toList
        · rw [m2] at M2
          cases m3 : markedL (s.data.toList ++ t.data.toList)
          · rw [m3] at M3
            have V1 := hide (valid_any s (by unfold maxLen; omega))
            cases hv : validL s.data.toList
            · rw [hv] at V1
              clear hs ht m1 m2 m3 hv
              go_enter Try.func5, Try.ntmps5
              go_wp2_with fail
              refine (M1.out _).mono ?_
              rintro e w1 ⟨rfl, rfl⟩
              go_wp2_with fail
              refine (M2.out _).mono ?_
              rintro e w2 ⟨rfl, rfl⟩
              go_wp2_with fail
              refine (M3.out _).mono ?_
              rintro e w3 ⟨rfl, rfl⟩
              go_wp2_with fail
              refine (V1.out _).mono ?_
              rintro e w4 ⟨rfl, b4⟩
              go_wp2_with fail
              refine (H1.out _).mono ?_
              rintro e w5 ⟨rfl, b5⟩
              go_wp2
              go_ret
              exact ⟨rfl, b4.trans (b5.mono b4.size)⟩
            · rw [hv] at V1
              have hbeh : DecL (s ++ t).data.toList = s.data.toList ++ DecL t.data.toList := by
                rw [str_app s t _ _ rfl rfl]; exact DecL_behind s.data.toList t.data.toList m3 m2 hv
              have heq : ((⟨(DecL (s ++ t).data.toList).toArray⟩ : ByteArray).toList == (s ++ (⟨(DecL t.data.toList).toArray⟩ : ByteArray)).toList) = true := by
                rw [Lib.toList_data, Lib.toList_data, str_app s ⟨(DecL t.data.toList).toArray⟩ _ _ rfl (str_data _), hbeh]
                simp
              have hdz : (⟨(DecL t.data.toList).toArray⟩ : ByteArray).size ≤ 900 := by
                rw [size_list, str_data]
                have h1 := decL_length (stripL t.data.toList)
                have h2 : (stripL t.data.toList).length ≤ t.data.toList.length := by
                  unfold stripL; split
                  · simp
                  · exact Nat.le_refl _
                rw [← size_list] at h2
                unfold DecL
                omega
              have D1 := hide (fun (v : Value) (W : World) (h : (convert 22 9 v).run Try.prog W = .ok (.string (s ++ t)) W) => decode_str (s ++ t) v (by rw [ByteArray.size_append]; omega) W h)
              have D2 := hide (fun (v : Value) (W : World) (h : (convert 22 9 v).run Try.prog W = .ok (.string t) W) => decode_str t v (by omega) W h)
              generalize (⟨(DecL (s ++ t).data.toList).toArray⟩ : ByteArray) = X1 at *
              generalize (⟨(DecL t.data.toList).toArray⟩ : ByteArray) = X2 at *
              have HEQ := hide heq
              clear hs ht m1 m2 m3 hv hbeh heq
              go_enter Try.func5, Try.ntmps5
              go_wp2_with fail
              refine (M1.out _).mono ?_
              rintro e w1 ⟨rfl, rfl⟩
              go_wp2_with fail
              refine (M2.out _).mono ?_
              rintro e w2 ⟨rfl, rfl⟩
              go_wp2_with fail
              refine (M3.out _).mono ?_
              rintro e w3 ⟨rfl, rfl⟩
              go_wp2_with fail
              refine (V1.out _).mono ?_
              rintro e w4 ⟨rfl, b4⟩
              go_wp2_with fail
              refine (H1.out _).mono ?_
              rintro e w5 ⟨rfl, b5⟩
              have c5 := b4.trans (b5.mono b4.size)
              have k5 := HB.out w5 c5
              obtain ⟨v6, w6, k6, hv6, b6⟩ := conv_string w5 (s ++ t)
              have c6 := c5.trans (b6.mono c5.size)
              have HV6 := hide hv6.conv
              clear hcv hv6
              go_wp2_with fail
              refine (D1.out _ _ HV6.out).mono ?_
              rintro e w7 ⟨rfl, b7⟩
              have c7 := c6.trans (b7.mono c6.size)
              clear k5 k6
              go_wp2_with fail
              refine (D2.out _ _ (HB.out w7 c7)).mono ?_
              rintro e w8 ⟨rfl, b8⟩
              have heq := HEQ.out
              go_wp2
              go_ret
              exact ⟨rfl, c7.trans (b8.mono c7.size)⟩
          · rw [m3] at M3
            clear hs ht m1 m2 m3
            go_enter Try.func5, Try.ntmps5
            go_wp2_with fail
            refine (M1.out _).mono ?_
            rintro e w1 ⟨rfl, rfl⟩
            go_wp2_with fail
            refine (M2.out _).mono ?_
            rintro e w2 ⟨rfl, rfl⟩
            go_wp2_with fail
            refine (M3.out _).mono ?_
            rintro e w3 ⟨rfl, rfl⟩
            go_wp2_with fail
            refine (H1.out _).mono ?_
            rintro e wz ⟨rfl, bz⟩
            go_wp2
            go_ret
            exact ⟨rfl, bz⟩
        · rw [m2] at M2
          clear hs ht m1 m2
          go_enter Try.func5, Try.ntmps5
          go_wp2_with fail
          refine (M1.out _).mono ?_
          rintro e w1 ⟨rfl, rfl⟩
          go_wp2_with fail
          refine (M2.out _).mono ?_
          rintro e w2 ⟨rfl, rfl⟩
          go_wp2_with fail
          refine (H1.out _).mono ?_
          rintro e wz ⟨rfl, bz⟩
          go_wp2
          go_ret
          exact ⟨rfl, bz⟩
      · rw [m1] at M1
        clear hs ht m1
        go_enter Try.func5, Try.ntmps5
        go_wp2_with fail
        refine (M1.out _).mono ?_
        rintro e w1 ⟨rfl, rfl⟩
        go_wp2_with fail
        refine (H1.out _).mono ?_
        rintro e wz ⟨rfl, bz⟩
        go_wp2
        go_ret
        exact ⟨rfl, bz⟩

set_option maxRecDepth 100000 in
theorem behind_lifted (os : Os) (started : os.Started) (H : Type) (enc : TypeId × Value → H) :
    ReturnsInHanded {} Try.checked os 5 .any (Rows.inputBehindSpec.pre6 enc Try.prog Try.f5 Rows.inputBehindRow.domain false) (Rows.inputBehindSpec.post enc Try.prog Try.f5 false true false false) := by
  refine returnsInHanded_of_change (C := Try.checked) ownD started (by kernel_rfl) Try.func5
    (ChangeSpec.witness6 (enc := enc) (C := Try.checked) false ⟨#[], #[.string ByteArray.empty, .slice none 0 0], []⟩ 8 (by kernel_rfl) (by kernel_rfl) (by kernel_rfl) (by kernel_rfl)) ?_
  intro W base args ds gs before hval0 hW hcnd _
  have hval : ∀ (j : Nat) t v, Try.f5.params[j]? = some t → args[j]? = some v → Value.okWide Try.prog W .any base t v := hval0
  have hW' := hW
  obtain ⟨p, q, hA0, hV, rfl, hfz, hnd⟩ := hW
  have hA : DataW.TrodAll enc Try.prog W 0 (fun _ => true) true Try.f5.params.toList args.toList ds p := hA0
  rw [Try.params5] at hA hval
  obtain ⟨v0, vs0, d0, ds0, p0, q0, hargs, rfl, rfl, h0, r0⟩ := trodAll_cons hA
  obtain ⟨v1, vs1, d1, ds1, p1, q1, rfl, rfl, rfl, h1, r1⟩ := trodAll_cons r0
  obtain ⟨rfl, rfl, rfl⟩ := trodAll_nil r1
  obtain rfl : args = #[v0, v1] := by cases args; simp_all
  obtain ⟨rfl, rfl⟩ := trodVars_none hV
  obtain ⟨a0, rfl, rfl, rfl, w0⟩ := open_string Try.underlying9 (hval 0 9 v0 rfl rfl) h0
  obtain ⟨a1, len1, cap1, rfl⟩ := okWide_slice Try.underlying22 (hval 1 22 v1 rfl rfl)
  have k1 := h1
  have lt1 : ∀ x ∈ p1, x.block < W.heap.size := by obtain ⟨m, hm⟩ := k1; exact DataW.trod_lt m _ _ _ hm
  obtain ⟨z1, w1⟩ : ∃ zs, IsRow W a1 len1 cap1 zs := by
    obtain ⟨fuel, hf⟩ := h1
    rcases open_ints Try.underlying22 Try.underlying5 (by kernel_rfl) hf with ⟨hcs, _⟩ | ⟨x, l, c, zs, hcs, _, hl, hm, hz, _, hcell, hwz⟩
    · simp [Value.cells] at hcs
      obtain ⟨rfl, rfl, rfl⟩ := hcs
      exact ⟨[], .inl ⟨rfl, rfl, rfl, rfl⟩⟩
    · simp [Value.cells] at hcs
      obtain ⟨rfl, rfl, rfl⟩ := hcs
      exact ⟨zs, .inr ⟨_, rfl, hl, hm, by simpa using hz, hcell, hwz⟩⟩
  clear hA0 hval0
  obtain ⟨l, hl, hb⟩ := isRow_isB W a1 len1 cap1 z1 w1
  refine (behind_walk a0 ⟨l.toArray⟩ a1 len1 cap1 (by rw [size_list]; exact hl) W (IsB.reads (t := ⟨l.toArray⟩) hb)).mono fun e W' ⟨he, bel⟩ => ?_
  subst he
  exact ⟨_, rfl, _, _, _, [], _, [], hW', trodAll_mk1 (shut_bool Try.underlying4 _), (trodAll_cons_mk (shut_string Try.underlying9 w0) (trodAll_cons_mk (Below.trod laidOutD (by kernel_rfl) (of_decide_eq_true (by kernel_rfl)) k1 bel lt1) trodAll_mk0)), rfl, bel.frame _, fun h => by cases h⟩

theorem inputBehind_holds : Rows.InputBehindSaid :=
  OpenClaim.holds_of_wide 5 Try.f5 rfl rfl rfl rfl rfl rfl rfl ⟨rfl, rfl, rfl, rfl, rfl⟩ rfl rfl rfl rfl rfl (by kernel_rfl) Try.func5 (by kernel_rfl)
    (of_decide_eq_true (by kernel_rfl)) (by unfold Func.isWrapper; first | (rw [if_pos (by decide +kernel)]; kernel_rfl) | (rw [if_neg (by decide +kernel)]; exact ⟨rfl, rfl⟩))
    (fun os started H enc _ => behind_lifted os started H enc)
end Go.Proofs.Ythagloigihpfdaa
