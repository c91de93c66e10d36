/- The program's New, Remove, Append, Before. -/
import Derived.Test.YtjgklemhlmgheaaPF5
import Derived.Test.YtjgklemhlmgheaaOps5
set_option linter.unusedVariables false
set_option linter.unusedSimpArgs false
namespace Go.Proofs.Ytjgklemhlmgheaa
open Go.RowKit

/-- What an act on the arena leaves. -/
def Acted (A : Nat → Prop) (w : World) (pb : Nat) (r : TR × Int) (e : Ending) (w' : World) : Prop := e = .returned (.int .i64 r.2) ∧ PT (andNew A w.heap.size) w' pb r.1 ∧ ButA A w w'
theorem acted_same {A : Nat → Prop} {w w1 : World} {pb : Nat} {T : TR} (h : PT A w pb T) (b : Below w.heap.size w w1) : PT (andNew A w.heap.size) w1 pb T ∧ ButA A w w1 := ⟨(h.below b).mono fun k h => .inl h, ButA.of b⟩
set_option maxHeartbeats 1000000 in
theorem pnew_p (w : World) : Calls Try.prog 9 #[] w fun e w' => (∃ pb, e = .returned (.pointer (some ⟨pb, 0, none⟩)) ∧ PT (fun k => w.heap.size ≤ k ∧ k < w'.heap.size) w' pb newL) ∧ Below w.heap.size w w' := by
  go_enter Try.func9, Try.ntmps9
  go_wp2
  go_ret
  have b0 := below_alloc w (.cells #[.int .i64 0, .int .i64 (-1), .slice none 0 0, .int .i64 0, .string ⟨#[]⟩, .slice none 0 0, .slice none 0 0] 66)
  have hb := b0.alloc b0.size (.cells #[.slice (some ⟨w.heap.size, 0, none⟩) 1 1] 69)
  have hg := heap_alloc2_old w (.cells #[.int .i64 0, .int .i64 (-1), .slice none 0 0, .int .i64 0, .string ⟨#[]⟩, .slice none 0 0, .slice none 0 0] 66) (.cells #[.slice (some ⟨w.heap.size, 0, none⟩) 1 1] 69)
  have hp := heap_alloc2_new w (.cells #[.int .i64 0, .int .i64 (-1), .slice none 0 0, .int .i64 0, .string ⟨#[]⟩, .slice none 0 0, .slice none 0 0] 66) (.cells #[.slice (some ⟨w.heap.size, 0, none⟩) 1 1] 69)
  have hs : ((w.alloc (.cells #[.int .i64 0, .int .i64 (-1), .slice none 0 0, .int .i64 0, .string ⟨#[]⟩, .slice none 0 0, .slice none 0 0] 66)).alloc (.cells #[.slice (some ⟨w.heap.size, 0, none⟩) 1 1] 69)).heap.size = w.heap.size + 1 + 1 := by simp
  refine ⟨⟨w.heap.size + 1, rfl, w.heap.size, 1, [⟨⟨{}, -1, []⟩, .slice none 0 0, .slice none 0 0, .slice none 0 0⟩], by rw [new_raw]; rfl, ?_⟩, hb⟩
  have sl : ∀ s k, slotB (w.heap.size + 1) w.heap.size [⟨⟨{}, -1, []⟩, .slice none 0 0, .slice none 0 0, .slice none 0 0⟩] s = some k → (s = .tree ∧ k = w.heap.size + 1) ∨ (s = .row ∧ k = w.heap.size) := by
    intro s k e
    cases s using Sl.ind with
    | tree => exact .inl ⟨rfl, by simpa [slotB] using e.symm⟩
    | row => exact .inr ⟨rfl, by simpa [slotB] using e.symm⟩
    | kid i => cases i <;> simp [slotB, Value.ownBlock] at e
    | att i => cases i <;> simp [slotB, Value.ownBlock] at e
    | txt i => cases i <;> simp [slotB, Value.ownBlock] at e
  refine ⟨by simp only [World.cell?, hp]; rfl, by simp only [World.frozen?, hp]; simp, ⟨rfl, .inr ⟨w.heap.size, 1, _, rfl, Nat.zero_le _, hg, Nat.le_refl _, by unfold maxLen; decide, rfl, rfl⟩⟩, fun i hi => ?_, fun i hi => ?_, fun i hi k e => ?_, fun i hi => ?_, ?_, ?_⟩
  · obtain rfl : i = 0 := by simpa using hi
    exact World.ownsRow_nil _ _ _ _
  · obtain rfl : i = 0 := by simpa using hi
    exact .inl ⟨rfl, rfl⟩
  · obtain rfl : i = 0 := by simpa using hi
    cases e
  · obtain rfl : i = 0 := by simpa using hi
    exact ownB_nil _
  · intro s t k e1 e2
    rcases sl s k e1 with ⟨a1, a2⟩ | ⟨a1, a2⟩ <;> rcases sl t k e2 with ⟨b1, b2⟩ | ⟨b1, b2⟩
    · rw [a1, b1]
    · omega
    · omega
    · rw [a1, b1]
  · intro s k e
    rw [hs]
    rcases sl s k e with ⟨_, a2⟩ | ⟨_, a2⟩ <;> omega
set_option maxHeartbeats 1000000 in
theorem remove_p {A : Nat → Prop} {w : World} {pb : Nat} {T : TR} (hW : WF T) (hz : T.length ≤ 1000000) (z : Int) (h : PT A w pb T) :
    Calls Try.prog 24 #[.pointer (some ⟨pb, 0, none⟩), .int .i64 z] w (Acted A w pb (removeZ T z)) := by
  have HH := hide (has_p z h)
  rw [raw_len] at HH
  have HPT := hide h
  unfold removeZ
  by_cases hzz : inT T z
  · rw [if_pos hzz]
    rw [show decide (0 ≤ z ∧ z < T.length) = true from decide_eq_true hzz] at HH
    obtain ⟨n, rfl⟩ : ∃ n : Nat, z = (n : Int) := ⟨z.toNat, by unfold inT at hzz; omega⟩
    have hn : n < T.length := by unfold inT at hzz; omega
    have hni : (n : Int) < T.length := by omega
    rw [Int.toNat_natCast]
    obtain ⟨g, cap, c0, _, c1, _⟩ := h.cells n hn
    have HC0 := hide c0
    have HC1 := hide c1
    have HT := hide (fun W (hP : PT A W pb T) => takeOut_p hW hz n hn hP)
    clear h c0 c1 hW hzz
    cases hp : parentN T n with
    | none =>
      rw [hp] at HC1
      rw [parZ_none] at HC1
      rw [show (none : Option Nat).isSome = false from rfl, if_neg (by decide)]
      go_enter Try.func24, Try.ntmps24
      go_wp2_with fail
      refine HH.out.mono ?_
      rintro e w1 ⟨rfl, b1⟩
      have d0 := (b1.cell (cell_lt HC0.out)).trans HC0.out
      have d1 := (b1.cell (cell_lt HC1.out)).trans HC1.out
      have HF := hide (acted_same HPT.out b1)
      clear b1
      go_wp2
      go_ret
      exact ⟨rfl, HF.out.1, HF.out.2⟩
    | some p =>
      rw [hp] at HC1
      rw [show parZ (some p) = (p : Int) from rfl] at HC1
      rw [show (some p).isSome = true from rfl, if_pos rfl]
      have hpn : ¬ (p : Int) = -1 := by omega
      have hpb2 : ((p : Int) == -1) = false := beq_eq_false_iff_ne.2 hpn
      go_enter Try.func24, Try.ntmps24
      go_wp2_with fail
      refine HH.out.mono ?_
      rintro e w1 ⟨rfl, b1⟩
      have d0 := (b1.cell (cell_lt HC0.out)).trans HC0.out
      have d1 := (b1.cell (cell_lt HC1.out)).trans HC1.out
      have B1 := hide b1
      clear b1
      go_wp2_with fail
      refine (HT.out w1 (HPT.out.below B1.out)).mono ?_
      rintro e w2 ⟨rfl, h2, h3⟩
      have HF : Hid (PT (andNew A w.heap.size) w2 pb (outL T n) ∧ ButA A w w2) := hide ⟨h2.mono (by
        rintro k (h | h)
        · exact .inl h
        · exact .inr (Nat.le_trans B1.out.size h)), (ButA.of B1.out).trans h3 fun j _ h => h⟩
      clear h2 h3 d0 d1
      go_wp2
      go_ret
      exact ⟨rfl, HF.out.1, HF.out.2⟩
  · rw [if_neg hzz]
    rw [show decide (0 ≤ z ∧ z < T.length) = false from decide_eq_false hzz] at HH
    clear hzz hW h
    go_enter Try.func24, Try.ntmps24
    go_wp2_with fail
    refine HH.out.mono ?_
    rintro e w1 ⟨rfl, b1⟩
    have HF := hide (acted_same HPT.out b1)
    clear b1
    go_wp2
    go_ret
    exact ⟨rfl, HF.out.1, HF.out.2⟩
/-! Append, Before. -/
set_option maxRecDepth 10000 in
set_option maxHeartbeats 2000000 in
theorem append_p {A : Nat → Prop} {w : World} {pb : Nat} {T : TR} (hW : WF T) (hz : T.length ≤ 1000000) (zp zc : Int) (h : PT A w pb T) :
    Calls Try.prog 26 #[.pointer (some ⟨pb, 0, none⟩), .int .i64 zp, .int .i64 zc] w (Acted A w pb (appendZ T zp zc)) := by
  have HPT := hide h
  have HI1 := hide (fun W (hP : PT A W pb T) => has_p zp hP)
  have HI2 := hide (fun W (hP : PT A W pb T) => has_p zc hP)
  rw [raw_len] at HI1 HI2
  have B1 := hide (Below.refl w.heap.size w)
  unfold appendZ
  by_cases hp : inT T zp
  · rw [show decide (0 ≤ zp ∧ zp < T.length) = true from decide_eq_true hp] at HI1
    by_cases hc : inT T zc
    · rw [show decide (0 ≤ zc ∧ zc < T.length) = true from decide_eq_true hc] at HI2
      rw [if_pos ⟨hp, hc⟩]
      obtain ⟨p, rfl⟩ : ∃ p : Nat, zp = (p : Int) := ⟨zp.toNat, by unfold inT at hp; omega⟩
      obtain ⟨c, rfl⟩ : ∃ c : Nat, zc = (c : Int) := ⟨zc.toNat, by unfold inT at hc; omega⟩
      have hpl : p < T.length := by unfold inT at hp; omega
      have hcl : c < T.length := by unfold inT at hc; omega
      have hpi : (p : Int) < T.length := by omega
      rw [Int.toNat_natCast, Int.toNat_natCast]
      clear hp hc
      obtain ⟨g, cap, c0, hG, c1, ck, _⟩ := h.cells p hpl
      have HC0 := hide c0
      have HWI := hide (fun W (hP : PT A W pb T) => within_p hW hz p c hpl hP)
      have HTO := hide (fun W (hP : PT A W pb T) => takeOut_p hW hz c hcl hP)
      have HC1 := hide ck
      have HHO : Hid (∀ W, Below w.heap.size w W → Calls Try.prog 50 #[.pointer (some ⟨g, p * 7, none⟩)] W fun e w' => e = .returned (.bool (holdsL T p)) ∧ Below W.heap.size W w') := hide fun W b => by
        have := holds_p (hG.below b) p (by rw [raw_len]; exact hpl)
        rw [raw_get] at this
        exact this
      clear c0 c1 ck hG
      cases hh : holdsL T p with
      | false =>
        rw [hh] at HHO
        rw [Bool.false_and, if_neg (by decide)]
        clear hW h
        go_enter Try.func26, Try.ntmps26
        go_wp2_with fail
        refine (HI1.out _ (HPT.out.below B1.out)).mono ?_
        rintro e x1 ⟨rfl, b1⟩
        replace B1 := hide (B1.out.trans (b1.mono B1.out.size))
        clear b1
        go_wp2_with fail
        refine (HI2.out _ (HPT.out.below B1.out)).mono ?_
        rintro e x2 ⟨rfl, b1⟩
        replace B1 := hide (B1.out.trans (b1.mono B1.out.size))
        try clear d0 d1
        have d0 := (B1.out.cell (cell_lt HC0.out)).trans HC0.out
        have d1 := (B1.out.cell (cell_lt HC1.out)).trans HC1.out
        clear b1
        go_wp2_with fail
        refine (HHO.out _ B1.out).mono ?_
        rintro e x3 ⟨rfl, b1⟩
        replace B1 := hide (B1.out.trans (b1.mono B1.out.size))
        try clear d0 d1
        clear b1
        go_wp2_with fail
        have HF := hide (acted_same HPT.out B1.out)
        go_ret
        exact ⟨rfl, HF.out.1, HF.out.2⟩
      | true =>
        rw [hh] at HHO
        rw [Bool.true_and]
        by_cases hc0 : c = 0
        · subst hc0
          rw [if_neg (by simp)]
          clear hW h
          go_enter Try.func26, Try.ntmps26
          go_wp2_with fail
          refine (HI1.out _ (HPT.out.below B1.out)).mono ?_
          rintro e x4 ⟨rfl, b1⟩
          replace B1 := hide (B1.out.trans (b1.mono B1.out.size))
          clear b1
          go_wp2_with fail
          refine (HI2.out _ (HPT.out.below B1.out)).mono ?_
          rintro e x5 ⟨rfl, b1⟩
          replace B1 := hide (B1.out.trans (b1.mono B1.out.size))
          try clear d0 d1
          have d0 := (B1.out.cell (cell_lt HC0.out)).trans HC0.out
          have d1 := (B1.out.cell (cell_lt HC1.out)).trans HC1.out
          clear b1
          go_wp2_with fail
          refine (HHO.out _ B1.out).mono ?_
          rintro e x6 ⟨rfl, b1⟩
          replace B1 := hide (B1.out.trans (b1.mono B1.out.size))
          try clear d0 d1
          clear b1
          go_wp2_with fail
          have HF := hide (acted_same HPT.out B1.out)
          go_ret
          exact ⟨rfl, HF.out.1, HF.out.2⟩
        · have hc0' : ¬ (c : Int) = 0 := by omega
          have hc0b : ((c : Int) == 0) = false := beq_eq_false_iff_ne.2 hc0'
          rw [hc0b, Bool.not_false, Bool.true_and]
          cases hw : withinL T p c with
          | true =>
            rw [hw] at HWI
            rw [Bool.not_true, if_neg (by decide)]
            clear hW h
            go_enter Try.func26, Try.ntmps26
            go_wp2_with fail
            refine (HI1.out _ (HPT.out.below B1.out)).mono ?_
            rintro e x7 ⟨rfl, b1⟩
            replace B1 := hide (B1.out.trans (b1.mono B1.out.size))
            clear b1
            go_wp2_with fail
            refine (HI2.out _ (HPT.out.below B1.out)).mono ?_
            rintro e x8 ⟨rfl, b1⟩
            replace B1 := hide (B1.out.trans (b1.mono B1.out.size))
            try clear d0 d1
            have d0 := (B1.out.cell (cell_lt HC0.out)).trans HC0.out
            have d1 := (B1.out.cell (cell_lt HC1.out)).trans HC1.out
            clear b1
            go_wp2_with fail
            refine (HHO.out _ B1.out).mono ?_
            rintro e x9 ⟨rfl, b1⟩
            replace B1 := hide (B1.out.trans (b1.mono B1.out.size))
            try clear d0 d1
            clear b1
            go_wp2_with fail
            refine (HWI.out _ (HPT.out.below B1.out)).mono ?_
            rintro e x10 ⟨rfl, b1⟩
            replace B1 := hide (B1.out.trans (b1.mono B1.out.size))
            clear b1
            go_wp2_with fail
            have HF := hide (acted_same HPT.out B1.out)
            go_ret
            exact ⟨rfl, HF.out.1, HF.out.2⟩
          | false =>
            rw [hw] at HWI
            rw [Bool.not_false, if_pos rfl]
            have hu : ¬ Up T c p := fun hup => by rw [(within_iff hW hpl).2 hup] at hw; cases hw
            have HRAW := hide (append_raw hW hpl hcl (by omega) hu)
            have hkl := (hW.out c).kids_len p
            rw [out_len] at hkl
            have HKL := hide hkl
            clear hW h hu hkl
            go_enter Try.func26, Try.ntmps26
            go_wp2_with fail
            refine (HI1.out _ (HPT.out.below B1.out)).mono ?_
            rintro e x11 ⟨rfl, b1⟩
            replace B1 := hide (B1.out.trans (b1.mono B1.out.size))
            clear b1
            go_wp2_with fail
            refine (HI2.out _ (HPT.out.below B1.out)).mono ?_
            rintro e x12 ⟨rfl, b1⟩
            replace B1 := hide (B1.out.trans (b1.mono B1.out.size))
            try clear d0 d1
            have d0 := (B1.out.cell (cell_lt HC0.out)).trans HC0.out
            have d1 := (B1.out.cell (cell_lt HC1.out)).trans HC1.out
            clear b1
            go_wp2_with fail
            refine (HHO.out _ B1.out).mono ?_
            rintro e x13 ⟨rfl, b1⟩
            replace B1 := hide (B1.out.trans (b1.mono B1.out.size))
            try clear d0 d1
            clear b1
            go_wp2_with fail
            refine (HWI.out _ (HPT.out.below B1.out)).mono ?_
            rintro e x14 ⟨rfl, b1⟩
            replace B1 := hide (B1.out.trans (b1.mono B1.out.size))
            clear b1
            go_wp2_with fail
            refine (HTO.out _ (HPT.out.below B1.out)).mono ?_
            rintro e y1 ⟨rfl, h2, h3⟩
            have hB3 : ButA A w y1 := (ButA.of B1.out).trans h3 fun j _ h => h
            have HB3 := hide hB3
            have h2' := h2.mono (B := andNew A w.heap.size) (by
              rintro k (h | h)
              · exact .inl h
              · exact .inr (Nat.le_trans B1.out.size h))
            have HP2 := hide h2'
            have hol : p < (rawOf (outL T c)).length := by rw [raw_len, out_len]; exact hpl
            have hks : (rawOf (outL T c))[p].kids = kidsAt (outL T c) p := by rw [raw_get]; rfl
            have HPU := hide (put_p (R := rawOf (outL T c)) (by rw [raw_len, out_len]; exact hz) p (kidsAt (outL T c) p).length c hol (by rw [raw_len, out_len]; exact hcl) (by rw [hks]; exact Nat.le_refl _) (by rw [hks]; have := HKL.out; omega) h2')
            rw [hks] at HPU
            rw [show insL (kidsAt (outL T c) p) (kidsAt (outL T c) p).length c = kidsAt (outL T c) p ++ [c] by simp [insL], HRAW.out] at HPU
            obtain ⟨g2, cap2, rs2, hR2, hP2⟩ := h2'
            have hl2 := map_len hR2
            rw [raw_len, out_len] at hl2
            have hp2 : p < rs2.length := by omega
            have e0 := hP2.tree
            rw [hl2] at e0
            have e2 : y1.cell? ⟨g2, p * 7 + 2, none⟩ = some rs2[p].kv := hP2.cellAt p hp2 2 (by omega)
            have hk2 := hP2.kid p hp2
            rw [map_get hR2 p hp2 hol, hks] at hk2
            obtain ⟨ka, kc, ek⟩ := owns_form hk2
            rw [ek] at e2
            clear h2 h3 hB3 hk2 ek hP2 hR2 hks
            generalize (kidsAt (outL T c) p).length = m at *
            try clear d0 d1
            go_wp2_with fail
            refine HPU.out.mono ?_
            rintro e y2 ⟨rfl, h4, h5⟩
            have HF : Hid (PT (andNew A w.heap.size) y2 pb (appendL T p c) ∧ ButA A w y2) := hide ⟨PT.mono h4 (by
              rintro k ((h | h) | h)
              · exact .inl h
              · exact .inr h
              · exact .inr (Nat.le_trans HB3.out.size h)), HB3.out.trans' h5⟩
            clear h4 h5 e0 e2
            go_wp2
            go_ret
            exact ⟨rfl, HF.out.1, HF.out.2⟩
    · rw [show decide (0 ≤ zc ∧ zc < T.length) = false from decide_eq_false hc] at HI2
      rw [if_neg (fun h => hc h.2)]
      clear hW h hp hc
      go_enter Try.func26, Try.ntmps26
      go_wp2_with fail
      refine (HI1.out _ (HPT.out.below B1.out)).mono ?_
      rintro e x15 ⟨rfl, b1⟩
      replace B1 := hide (B1.out.trans (b1.mono B1.out.size))
      clear b1
      go_wp2_with fail
      refine (HI2.out _ (HPT.out.below B1.out)).mono ?_
      rintro e x16 ⟨rfl, b1⟩
      replace B1 := hide (B1.out.trans (b1.mono B1.out.size))
      clear b1
      go_wp2_with fail
      have HF := hide (acted_same HPT.out B1.out)
      go_ret
      exact ⟨rfl, HF.out.1, HF.out.2⟩
  · rw [show decide (0 ≤ zp ∧ zp < T.length) = false from decide_eq_false hp] at HI1
    rw [if_neg (fun h => hp h.1)]
    clear hW h hp
    go_enter Try.func26, Try.ntmps26
    go_wp2_with fail
    refine (HI1.out _ (HPT.out.below B1.out)).mono ?_
    rintro e x17 ⟨rfl, b1⟩
    replace B1 := hide (B1.out.trans (b1.mono B1.out.size))
    clear b1
    go_wp2_with fail
    have HF := hide (acted_same HPT.out B1.out)
    go_ret
    exact ⟨rfl, HF.out.1, HF.out.2⟩
set_option maxRecDepth 10000 in
set_option maxHeartbeats 2000000 in
theorem before_p {A : Nat → Prop} {w : World} {pb : Nat} {T : TR} (hW : WF T) (hz : T.length ≤ 1000000) (zp zc : Int) (h : PT A w pb T) :
    Calls Try.prog 25 #[.pointer (some ⟨pb, 0, none⟩), .int .i64 zp, .int .i64 zc] w (Acted A w pb (beforeZ T zp zc)) := by
  have HPT := hide h
  have HI1 := hide (fun W (hP : PT A W pb T) => has_p zp hP)
  have HI2 := hide (fun W (hP : PT A W pb T) => has_p zc hP)
  rw [raw_len] at HI1 HI2
  have B1 := hide (Below.refl w.heap.size w)
  unfold beforeZ
  by_cases hp : inT T zp
  · rw [show decide (0 ≤ zp ∧ zp < T.length) = true from decide_eq_true hp] at HI1
    by_cases hc : inT T zc
    · rw [show decide (0 ≤ zc ∧ zc < T.length) = true from decide_eq_true hc] at HI2
      rw [if_pos ⟨hp, hc⟩]
      obtain ⟨p, rfl⟩ : ∃ p : Nat, zp = (p : Int) := ⟨zp.toNat, by unfold inT at hp; omega⟩
      obtain ⟨c, rfl⟩ : ∃ c : Nat, zc = (c : Int) := ⟨zc.toNat, by unfold inT at hc; omega⟩
      have hpl : p < T.length := by unfold inT at hp; omega
      have hcl : c < T.length := by unfold inT at hc; omega
      have hpi : (p : Int) < T.length := by omega
      rw [Int.toNat_natCast, Int.toNat_natCast]
      clear hp hc
      obtain ⟨g, cap, c0, hG, c1, ck, _⟩ := h.cells p hpl
      have HC0 := hide c0
      have HWI := hide (fun W (hP : PT A W pb T) => within_p hW hz p c hpl hP)
      have HTO := hide (fun W (hP : PT A W pb T) => takeOut_p hW hz c hcl hP)
      have HC1 := hide c1
      clear c0 c1 ck hG
      cases hp : parentN T p with
      | none =>
        rw [hp] at HC1
        rw [parZ_none] at HC1
        simp only []
        clear hW h
        go_enter Try.func25, Try.ntmps25
        go_wp2_with fail
        refine (HI1.out _ (HPT.out.below B1.out)).mono ?_
        rintro e x18 ⟨rfl, b1⟩
        replace B1 := hide (B1.out.trans (b1.mono B1.out.size))
        clear b1
        go_wp2_with fail
        refine (HI2.out _ (HPT.out.below B1.out)).mono ?_
        rintro e x19 ⟨rfl, b1⟩
        replace B1 := hide (B1.out.trans (b1.mono B1.out.size))
        try clear d0 d1
        have d0 := (B1.out.cell (cell_lt HC0.out)).trans HC0.out
        have d1 := (B1.out.cell (cell_lt HC1.out)).trans HC1.out
        clear b1
        go_wp2_with fail
        have HF := hide (acted_same HPT.out B1.out)
        go_ret
        exact ⟨rfl, HF.out.1, HF.out.2⟩
      | some u =>
        rw [hp] at HC1
        rw [show parZ (some u) = (u : Int) from rfl] at HC1
        simp only []
        have hun : ¬ (u : Int) = -1 := by omega
        have hub : ((u : Int) == -1) = false := beq_eq_false_iff_ne.2 hun
        have hrm := parent_some hp
        have hul := kidsAt_lt hrm
        have hui : (u : Int) < T.length := by omega
        by_cases hc0 : c = 0
        · subst hc0
          rw [if_neg (by simp)]
          clear hW h hrm hp
          go_enter Try.func25, Try.ntmps25
          go_wp2_with fail
          refine (HI1.out _ (HPT.out.below B1.out)).mono ?_
          rintro e x20 ⟨rfl, b1⟩
          replace B1 := hide (B1.out.trans (b1.mono B1.out.size))
          clear b1
          go_wp2_with fail
          refine (HI2.out _ (HPT.out.below B1.out)).mono ?_
          rintro e x21 ⟨rfl, b1⟩
          replace B1 := hide (B1.out.trans (b1.mono B1.out.size))
          try clear d0 d1
          have d0 := (B1.out.cell (cell_lt HC0.out)).trans HC0.out
          have d1 := (B1.out.cell (cell_lt HC1.out)).trans HC1.out
          clear b1
          go_wp2_with fail
          have HF := hide (acted_same HPT.out B1.out)
          go_ret
          exact ⟨rfl, HF.out.1, HF.out.2⟩
        · have hc0' : ¬ (c : Int) = 0 := by omega
          have hc0b : ((c : Int) == 0) = false := beq_eq_false_iff_ne.2 hc0'
          rw [hc0b, Bool.not_false, Bool.true_and]
          cases hw : withinL T p c with
          | true =>
            rw [hw] at HWI
            rw [Bool.not_true, if_neg (by decide)]
            clear hW h hrm hp
            go_enter Try.func25, Try.ntmps25
            go_wp2_with fail
            refine (HI1.out _ (HPT.out.below B1.out)).mono ?_
            rintro e x22 ⟨rfl, b1⟩
            replace B1 := hide (B1.out.trans (b1.mono B1.out.size))
            clear b1
            go_wp2_with fail
            refine (HI2.out _ (HPT.out.below B1.out)).mono ?_
            rintro e x23 ⟨rfl, b1⟩
            replace B1 := hide (B1.out.trans (b1.mono B1.out.size))
            try clear d0 d1
            have d0 := (B1.out.cell (cell_lt HC0.out)).trans HC0.out
            have d1 := (B1.out.cell (cell_lt HC1.out)).trans HC1.out
            clear b1
            go_wp2_with fail
            refine (HWI.out _ (HPT.out.below B1.out)).mono ?_
            rintro e x24 ⟨rfl, b1⟩
            replace B1 := hide (B1.out.trans (b1.mono B1.out.size))
            clear b1
            go_wp2_with fail
            have HF := hide (acted_same HPT.out B1.out)
            go_ret
            exact ⟨rfl, HF.out.1, HF.out.2⟩
          | false =>
            rw [hw] at HWI
            rw [Bool.not_false, if_pos rfl]
            have hu : ¬ Up T c p := fun hup => by rw [(within_iff hW hpl).2 hup] at hw; cases hw
            have HRAW := hide (before_raw hW hrm hcl (by omega) hu)
            have hkl := (hW.out c).kids_len u
            rw [out_len] at hkl
            have hnd := (hW.out c).nodup u
            have hne : ¬ p = c := fun e => hu (e ▸ .refl)
            have hro : p ∈ kidsAt (outL T c) u := by
              rw [kids_out hW, List.mem_filter]
              exact ⟨hrm, by simp [hne]⟩
            obtain ⟨i, hi, hii⟩ := List.mem_iff_getElem.1 hro
            have HIN := hide (ahead_ins p c _ i hi hii hnd)
            have HND := hide hnd
            have HKL := hide hkl
            have HII := hide hii
            have HI := hide hi
            clear hW h hu hkl hnd hro hii hrm hp
            go_enter Try.func25, Try.ntmps25
            go_wp2_with fail
            refine (HI1.out _ (HPT.out.below B1.out)).mono ?_
            rintro e x25 ⟨rfl, b1⟩
            replace B1 := hide (B1.out.trans (b1.mono B1.out.size))
            clear b1
            go_wp2_with fail
            refine (HI2.out _ (HPT.out.below B1.out)).mono ?_
            rintro e x26 ⟨rfl, b1⟩
            replace B1 := hide (B1.out.trans (b1.mono B1.out.size))
            try clear d0 d1
            have d0 := (B1.out.cell (cell_lt HC0.out)).trans HC0.out
            have d1 := (B1.out.cell (cell_lt HC1.out)).trans HC1.out
            clear b1
            go_wp2_with fail
            refine (HWI.out _ (HPT.out.below B1.out)).mono ?_
            rintro e x27 ⟨rfl, b1⟩
            replace B1 := hide (B1.out.trans (b1.mono B1.out.size))
            clear b1
            go_wp2_with fail
            refine (HTO.out _ (HPT.out.below B1.out)).mono ?_
            rintro e y1 ⟨rfl, h2, h3⟩
            have hB3 : ButA A w y1 := (ButA.of B1.out).trans h3 fun j _ h => h
            have HB3 := hide hB3
            have h2' := h2.mono (B := andNew A w.heap.size) (by
              rintro k (h | h)
              · exact .inl h
              · exact .inr (Nat.le_trans B1.out.size h))
            have hol : u < (rawOf (outL T c)).length := by rw [raw_len, out_len]; exact hul
            have hks : (rawOf (outL T c))[u].kids = kidsAt (outL T c) u := by rw [raw_get]; rfl
            have HPU := hide (put_p (R := rawOf (outL T c)) (by rw [raw_len, out_len]; exact hz) u i c hol (by rw [raw_len, out_len]; exact hcl) (by rw [hks]; exact Nat.le_of_lt HI.out) (by rw [hks]; have := HKL.out; omega) h2')
            rw [hks] at HPU
            rw [show insL (kidsAt (outL T c) u) i c = aheadL p c (kidsAt (outL T c) u) from HIN.out.symm, HRAW.out] at HPU
            obtain ⟨g2, hG2⟩ := h2'
            have hPL := placeOf_p hG2 u hol i (by rw [hks]; exact HI.out) (by rw [hks]; exact HND.out) (by rw [hks]; have := HKL.out; omega)
            simp only [hks] at hPL
            rw [HII.out] at hPL
            have HPL := hide hPL
            obtain ⟨cap2, rs2, hR2, hP2⟩ := hG2
            have hl2 := map_len hR2
            rw [raw_len, out_len] at hl2
            have e0 := hP2.tree
            rw [hl2] at e0
            clear h2 h3 hB3 hP2 hR2 hks hPL
            try clear d0 d1
            go_wp2_with fail
            refine HPL.out.mono ?_
            rintro e y3 ⟨rfl, rfl⟩
            go_wp2_with fail
            refine HPU.out.mono ?_
            rintro e y2 ⟨rfl, h4, h5⟩
            have HF : Hid (PT (andNew A w.heap.size) y2 pb (beforeL T u p c) ∧ ButA A w y2) := hide ⟨PT.mono h4 (by
              rintro k ((h | h) | h)
              · exact .inl h
              · exact .inr h
              · exact .inr (Nat.le_trans HB3.out.size h)), HB3.out.trans' h5⟩
            clear h4 h5 e0
            go_wp2
            go_ret
            exact ⟨rfl, HF.out.1, HF.out.2⟩
    · rw [show decide (0 ≤ zc ∧ zc < T.length) = false from decide_eq_false hc] at HI2
      rw [if_neg (fun h => hc h.2)]
      clear hW h hp hc
      go_enter Try.func25, Try.ntmps25
      go_wp2_with fail
      refine (HI1.out _ (HPT.out.below B1.out)).mono ?_
      rintro e x28 ⟨rfl, b1⟩
      replace B1 := hide (B1.out.trans (b1.mono B1.out.size))
      clear b1
      go_wp2_with fail
      refine (HI2.out _ (HPT.out.below B1.out)).mono ?_
      rintro e x29 ⟨rfl, b1⟩
      replace B1 := hide (B1.out.trans (b1.mono B1.out.size))
      clear b1
      go_wp2_with fail
      have HF := hide (acted_same HPT.out B1.out)
      go_ret
      exact ⟨rfl, HF.out.1, HF.out.2⟩
  · rw [show decide (0 ≤ zp ∧ zp < T.length) = false from decide_eq_false hp] at HI1
    rw [if_neg (fun h => hp h.1)]
    clear hW h hp
    go_enter Try.func25, Try.ntmps25
    go_wp2_with fail
    refine (HI1.out _ (HPT.out.below B1.out)).mono ?_
    rintro e x30 ⟨rfl, b1⟩
    replace B1 := hide (B1.out.trans (b1.mono B1.out.size))
    clear b1
    go_wp2_with fail
    have HF := hide (acted_same HPT.out B1.out)
    go_ret
    exact ⟨rfl, HF.out.1, HF.out.2⟩
end Go.Proofs.Ytjgklemhlmgheaa
