import Derived.Test.YtpppdfjdngmaoaaGreatDoorKc09
import Derived.Test.YtpppdfjdngmaoaaGreatDoorKc19
import Derived.BigQuiet
import Derived.Deep.QuietTactic
set_option linter.unusedVariables false
set_option linter.unusedSimpArgs false
set_option maxRecDepth 100000
set_option maxHeartbeats 8000000
namespace Go.Proofs.YtpppdfjdngmaoaaGreatDoor.S5
open Go.RowKit
def Acted (A : Nat → Prop) (w : World) (pb : Nat) (r : TR × Int) (e : Ending) (w' : World) : Prop := e = .returned (.int .i64 r.2) ∧ PT (andNew A w.heap.size) w' pb r.1 ∧ ButA A w w'
theorem acted_same {A : Nat → Prop} {w w1 : World} {pb : Nat} {T : TR} (h : PT A w pb T) (b : Below w.heap.size w w1) : PT (andNew A w.heap.size) w1 pb T ∧ ButA A w w1 := ⟨(h.below b).mono fun k h => .inl h, ButA.of b⟩
theorem pnew_p (w : World) : Calls Tryz.prog 41 #[] w fun e w' => (∃ pb, e = .returned (.pointer (some ⟨pb, 0, none⟩)) ∧ PT (fun k => w.heap.size ≤ k ∧ k < w'.heap.size) w' pb newL) ∧ Below w.heap.size w w' := by
  go_enter Tryz.func41, Tryz.ntmps41
  go_wp2
  go_ret
  have b0 := below_alloc w (.cells #[.int .i64 0, .int .i64 (-1), .slice none 0 0, .int .i64 0, .string ⟨#[]⟩, .slice none 0 0, .slice none 0 0] 94)
  have hb := b0.alloc b0.size (.cells #[.slice (some ⟨w.heap.size, 0, none⟩) 1 1] 97)
  have hg := heap_alloc2_old w (.cells #[.int .i64 0, .int .i64 (-1), .slice none 0 0, .int .i64 0, .string ⟨#[]⟩, .slice none 0 0, .slice none 0 0] 94) (.cells #[.slice (some ⟨w.heap.size, 0, none⟩) 1 1] 97)
  have hp := heap_alloc2_new w (.cells #[.int .i64 0, .int .i64 (-1), .slice none 0 0, .int .i64 0, .string ⟨#[]⟩, .slice none 0 0, .slice none 0 0] 94) (.cells #[.slice (some ⟨w.heap.size, 0, none⟩) 1 1] 97)
  have hs : ((w.alloc (.cells #[.int .i64 0, .int .i64 (-1), .slice none 0 0, .int .i64 0, .string ⟨#[]⟩, .slice none 0 0, .slice none 0 0] 94)).alloc (.cells #[.slice (some ⟨w.heap.size, 0, none⟩) 1 1] 97)).heap.size = w.heap.size + 1 + 1 := by simp
  refine ⟨⟨w.heap.size + 1, rfl, w.heap.size, 1, [⟨⟨{}, -1, []⟩, .slice none 0 0, .slice none 0 0, .slice none 0 0⟩], by rw [new_raw]; rfl, ?_⟩, hb⟩
  have sl : ∀ s k, slotB (w.heap.size + 1) w.heap.size [⟨⟨{}, -1, []⟩, .slice none 0 0, .slice none 0 0, .slice none 0 0⟩] s = some k → (s = .tree ∧ k = w.heap.size + 1) ∨ (s = .row ∧ k = w.heap.size) := by
    intro s k e
    cases s using Sl.ind with
    | tree => exact .inl ⟨rfl, by simpa [slotB] using e.symm⟩
    | row => exact .inr ⟨rfl, by simpa [slotB] using e.symm⟩
    | kid i => cases i <;> simp [slotB, Value.ownBlock] at e
    | att i => cases i <;> simp [slotB, Value.ownBlock] at e
    | txt i => cases i <;> simp [slotB, Value.ownBlock] at e
  refine ⟨by simp only [World.cell?, hp]; rfl, by simp only [World.frozen?, hp]; simp, ⟨rfl, .inr ⟨w.heap.size, 1, _, rfl, Nat.zero_le _, hg, Nat.le_refl _, by unfold maxLen; decide, rfl, rfl⟩⟩, fun i hi => ?_, fun i hi => ?_, fun i hi k e => ?_, fun i hi => ?_, ?_, ?_⟩
  · obtain rfl : i = 0 := by simpa using hi
    exact World.ownsRow_nil _ _ _ _
  · obtain rfl : i = 0 := by simpa using hi
    exact .inl ⟨rfl, rfl⟩
  · obtain rfl : i = 0 := by simpa using hi
    cases e
  · obtain rfl : i = 0 := by simpa using hi
    exact ownB_nil _
  · intro s t k e1 e2
    rcases sl s k e1 with ⟨a1, a2⟩ | ⟨a1, a2⟩ <;> rcases sl t k e2 with ⟨b1, b2⟩ | ⟨b1, b2⟩
    · rw [a1, b1]
    · omega
    · omega
    · rw [a1, b1]
  · intro s k e
    rw [hs]
    rcases sl s k e with ⟨_, a2⟩ | ⟨_, a2⟩ <;> omega
theorem append_p {A : Nat → Prop} {w : World} {pb : Nat} {T : TR} (hW : WF T) (hz : T.length ≤ 1000000) (zp zc : Int) (h : PT A w pb T) :
    Calls Tryz.prog 168 #[.pointer (some ⟨pb, 0, none⟩), .int .i64 zp, .int .i64 zc] w (Acted A w pb (appendZ T zp zc)) := by
  have HPT := hide h
  have HI1 := hide (fun W (hP : PT A W pb T) => has_p zp hP)
  have HI2 := hide (fun W (hP : PT A W pb T) => has_p zc hP)
  rw [raw_len] at HI1 HI2
  have B1 := hide (Below.refl w.heap.size w)
  unfold appendZ
  by_cases hp : inT T zp
  · rw [show decide (0 ≤ zp ∧ zp < T.length) = true from decide_eq_true hp] at HI1
    by_cases hc : inT T zc
    · rw [show decide (0 ≤ zc ∧ zc < T.length) = true from decide_eq_true hc] at HI2
      rw [if_pos ⟨hp, hc⟩]
      obtain ⟨p, rfl⟩ : ∃ p : Nat, zp = (p : Int) := ⟨zp.toNat, by unfold inT at hp; omega⟩
      obtain ⟨c, rfl⟩ : ∃ c : Nat, zc = (c : Int) := ⟨zc.toNat, by unfold inT at hc; omega⟩
      have hpl : p < T.length := by unfold inT at hp; omega
      have hcl : c < T.length := by unfold inT at hc; omega
      have hpi : (p : Int) < T.length := by omega
      rw [Int.toNat_natCast, Int.toNat_natCast]
      clear hp hc
      obtain ⟨g, cap, c0, hG, c1, ck, _⟩ := h.cells p hpl
      have HC0 := hide c0
      have HWI := hide (fun W (hP : PT A W pb T) => within_p hW hz p c hpl hP)
      have HTO := hide (fun W (hP : PT A W pb T) => takeOut_p hW hz c hcl hP)
      have HC1 := hide ck
      have HHO : Hid (∀ W, Below w.heap.size w W → Calls Tryz.prog 208 #[.pointer (some ⟨g, p * 7, none⟩)] W fun e w' => e = .returned (.bool (holdsL T p)) ∧ Below W.heap.size W w') := hide fun W b => by
        have := holds_p (hG.below b) p (by rw [raw_len]; exact hpl)
        rw [raw_get] at this
        exact this
      clear c0 c1 ck hG
      cases hh : holdsL T p with
      | false =>
        rw [hh] at HHO
        rw [Bool.false_and, if_neg (by decide)]
        clear hW h
        go_enter Tryz.func168, Tryz.ntmps168
        go_wp2_with fail
        refine (HI1.out _ (HPT.out.below B1.out)).mono ?_
        rintro e x1 ⟨rfl, b1⟩
        replace B1 := hide (B1.out.trans (b1.mono B1.out.size))
        clear b1
        go_wp2_with fail
        refine (HI2.out _ (HPT.out.below B1.out)).mono ?_
        rintro e x2 ⟨rfl, b1⟩
        replace B1 := hide (B1.out.trans (b1.mono B1.out.size))
        try clear d0 d1
        have d0 := (B1.out.cell (cell_lt HC0.out)).trans HC0.out
        have d1 := (B1.out.cell (cell_lt HC1.out)).trans HC1.out
        clear b1
        go_wp2_with fail
        refine (HHO.out _ B1.out).mono ?_
        rintro e x3 ⟨rfl, b1⟩
        replace B1 := hide (B1.out.trans (b1.mono B1.out.size))
        try clear d0 d1
        clear b1
        go_wp2_with fail
        have HF := hide (acted_same HPT.out B1.out)
        go_ret
        exact ⟨rfl, HF.out.1, HF.out.2⟩
      | true =>
        rw [hh] at HHO
        rw [Bool.true_and]
        by_cases hc0 : c = 0
        · subst hc0
          rw [if_neg (by simp)]
          clear hW h
          go_enter Tryz.func168, Tryz.ntmps168
          go_wp2_with fail
          refine (HI1.out _ (HPT.out.below B1.out)).mono ?_
          rintro e x4 ⟨rfl, b1⟩
          replace B1 := hide (B1.out.trans (b1.mono B1.out.size))
          clear b1
          go_wp2_with fail
          refine (HI2.out _ (HPT.out.below B1.out)).mono ?_
          rintro e x5 ⟨rfl, b1⟩
          replace B1 := hide (B1.out.trans (b1.mono B1.out.size))
          try clear d0 d1
          have d0 := (B1.out.cell (cell_lt HC0.out)).trans HC0.out
          have d1 := (B1.out.cell (cell_lt HC1.out)).trans HC1.out
          clear b1
          go_wp2_with fail
          refine (HHO.out _ B1.out).mono ?_
          rintro e x6 ⟨rfl, b1⟩
          replace B1 := hide (B1.out.trans (b1.mono B1.out.size))
          try clear d0 d1
          clear b1
          go_wp2_with fail
          have HF := hide (acted_same HPT.out B1.out)
          go_ret
          exact ⟨rfl, HF.out.1, HF.out.2⟩
        · have hc0' : ¬ (c : Int) = 0 := by omega
          have hc0b : ((c : Int) == 0) = false := beq_eq_false_iff_ne.2 hc0'
          rw [hc0b, Bool.not_false, Bool.true_and]
          cases hw : withinL T p c with
          | true =>
            rw [hw] at HWI
            rw [Bool.not_true, if_neg (by decide)]
            clear hW h
            go_enter Tryz.func168, Tryz.ntmps168
            go_wp2_with fail
            refine (HI1.out _ (HPT.out.below B1.out)).mono ?_
            rintro e x7 ⟨rfl, b1⟩
            replace B1 := hide (B1.out.trans (b1.mono B1.out.size))
            clear b1
            go_wp2_with fail
            refine (HI2.out _ (HPT.out.below B1.out)).mono ?_
            rintro e x8 ⟨rfl, b1⟩
            replace B1 := hide (B1.out.trans (b1.mono B1.out.size))
            try clear d0 d1
            have d0 := (B1.out.cell (cell_lt HC0.out)).trans HC0.out
            have d1 := (B1.out.cell (cell_lt HC1.out)).trans HC1.out
            clear b1
            go_wp2_with fail
            refine (HHO.out _ B1.out).mono ?_
            rintro e x9 ⟨rfl, b1⟩
            replace B1 := hide (B1.out.trans (b1.mono B1.out.size))
            try clear d0 d1
            clear b1
            go_wp2_with fail
            refine (HWI.out _ (HPT.out.below B1.out)).mono ?_
            rintro e x10 ⟨rfl, b1⟩
            replace B1 := hide (B1.out.trans (b1.mono B1.out.size))
            clear b1
            go_wp2_with fail
            have HF := hide (acted_same HPT.out B1.out)
            go_ret
            exact ⟨rfl, HF.out.1, HF.out.2⟩
          | false =>
            rw [hw] at HWI
            rw [Bool.not_false, if_pos rfl]
            have hu : ¬ Up T c p := fun hup => by rw [(within_iff hW hpl).2 hup] at hw; cases hw
            have HRAW := hide (append_raw hW hpl hcl (by omega) hu)
            have hkl := (hW.out c).kids_len p
            rw [out_len] at hkl
            have HKL := hide hkl
            clear hW h hu hkl
            go_enter Tryz.func168, Tryz.ntmps168
            go_wp2_with fail
            refine (HI1.out _ (HPT.out.below B1.out)).mono ?_
            rintro e x11 ⟨rfl, b1⟩
            replace B1 := hide (B1.out.trans (b1.mono B1.out.size))
            clear b1
            go_wp2_with fail
            refine (HI2.out _ (HPT.out.below B1.out)).mono ?_
            rintro e x12 ⟨rfl, b1⟩
            replace B1 := hide (B1.out.trans (b1.mono B1.out.size))
            try clear d0 d1
            have d0 := (B1.out.cell (cell_lt HC0.out)).trans HC0.out
            have d1 := (B1.out.cell (cell_lt HC1.out)).trans HC1.out
            clear b1
            go_wp2_with fail
            refine (HHO.out _ B1.out).mono ?_
            rintro e x13 ⟨rfl, b1⟩
            replace B1 := hide (B1.out.trans (b1.mono B1.out.size))
            try clear d0 d1
            clear b1
            go_wp2_with fail
            refine (HWI.out _ (HPT.out.below B1.out)).mono ?_
            rintro e x14 ⟨rfl, b1⟩
            replace B1 := hide (B1.out.trans (b1.mono B1.out.size))
            clear b1
            go_wp2_with fail
            refine (HTO.out _ (HPT.out.below B1.out)).mono ?_
            rintro e y1 ⟨rfl, h2, h3⟩
            have hB3 : ButA A w y1 := (ButA.of B1.out).trans h3 fun j _ h => h
            have HB3 := hide hB3
            have h2' := h2.mono (B := andNew A w.heap.size) (by
              rintro k (h | h)
              · exact .inl h
              · exact .inr (Nat.le_trans B1.out.size h))
            have HP2 := hide h2'
            have hol : p < (rawOf (outL T c)).length := by rw [raw_len, out_len]; exact hpl
            have hks : (rawOf (outL T c))[p].kids = kidsAt (outL T c) p := by rw [raw_get]; rfl
            have HPU := hide (put_p (R := rawOf (outL T c)) (by rw [raw_len, out_len]; exact hz) p (kidsAt (outL T c) p).length c hol (by rw [raw_len, out_len]; exact hcl) (by rw [hks]; exact Nat.le_refl _) (by rw [hks]; have := HKL.out; omega) h2')
            rw [hks] at HPU
            rw [show insL (kidsAt (outL T c) p) (kidsAt (outL T c) p).length c = kidsAt (outL T c) p ++ [c] by simp [insL], HRAW.out] at HPU
            obtain ⟨g2, cap2, rs2, hR2, hP2⟩ := h2'
            have hl2 := map_len hR2
            rw [raw_len, out_len] at hl2
            have hp2 : p < rs2.length := by omega
            have e0 := hP2.tree
            rw [hl2] at e0
            have e2 : y1.cell? ⟨g2, p * 7 + 2, none⟩ = some rs2[p].kv := hP2.cellAt p hp2 2 (by omega)
            have hk2 := hP2.kid p hp2
            rw [map_get hR2 p hp2 hol, hks] at hk2
            obtain ⟨ka, kc, ek⟩ := owns_form hk2
            rw [ek] at e2
            clear h2 h3 hB3 hk2 ek hP2 hR2 hks
            generalize (kidsAt (outL T c) p).length = m at *
            try clear d0 d1
            go_wp2_with fail
            refine HPU.out.mono ?_
            rintro e y2 ⟨rfl, h4, h5⟩
            have HF : Hid (PT (andNew A w.heap.size) y2 pb (appendL T p c) ∧ ButA A w y2) := hide ⟨PT.mono h4 (by
              rintro k ((h | h) | h)
              · exact .inl h
              · exact .inr h
              · exact .inr (Nat.le_trans HB3.out.size h)), HB3.out.trans' h5⟩
            clear h4 h5 e0 e2
            go_wp2
            go_ret
            exact ⟨rfl, HF.out.1, HF.out.2⟩
    · rw [show decide (0 ≤ zc ∧ zc < T.length) = false from decide_eq_false hc] at HI2
      rw [if_neg (fun h => hc h.2)]
      clear hW h hp hc
      go_enter Tryz.func168, Tryz.ntmps168
      go_wp2_with fail
      refine (HI1.out _ (HPT.out.below B1.out)).mono ?_
      rintro e x15 ⟨rfl, b1⟩
      replace B1 := hide (B1.out.trans (b1.mono B1.out.size))
      clear b1
      go_wp2_with fail
      refine (HI2.out _ (HPT.out.below B1.out)).mono ?_
      rintro e x16 ⟨rfl, b1⟩
      replace B1 := hide (B1.out.trans (b1.mono B1.out.size))
      clear b1
      go_wp2_with fail
      have HF := hide (acted_same HPT.out B1.out)
      go_ret
      exact ⟨rfl, HF.out.1, HF.out.2⟩
  · rw [show decide (0 ≤ zp ∧ zp < T.length) = false from decide_eq_false hp] at HI1
    rw [if_neg (fun h => hp h.1)]
    clear hW h hp
    go_enter Tryz.func168, Tryz.ntmps168
    go_wp2_with fail
    refine (HI1.out _ (HPT.out.below B1.out)).mono ?_
    rintro e x17 ⟨rfl, b1⟩
    replace B1 := hide (B1.out.trans (b1.mono B1.out.size))
    clear b1
    go_wp2_with fail
    have HF := hide (acted_same HPT.out B1.out)
    go_ret
    exact ⟨rfl, HF.out.1, HF.out.2⟩
theorem before_p {A : Nat → Prop} {w : World} {pb : Nat} {T : TR} (hW : WF T) (hz : T.length ≤ 1000000) (zp zc : Int) (h : PT A w pb T) :
    Calls Tryz.prog 169 #[.pointer (some ⟨pb, 0, none⟩), .int .i64 zp, .int .i64 zc] w (Acted A w pb (beforeZ T zp zc)) := by
  have HPT := hide h
  have HI1 := hide (fun W (hP : PT A W pb T) => has_p zp hP)
  have HI2 := hide (fun W (hP : PT A W pb T) => has_p zc hP)
  rw [raw_len] at HI1 HI2
  have B1 := hide (Below.refl w.heap.size w)
  unfold beforeZ
  by_cases hp : inT T zp
  · rw [show decide (0 ≤ zp ∧ zp < T.length) = true from decide_eq_true hp] at HI1
    by_cases hc : inT T zc
    · rw [show decide (0 ≤ zc ∧ zc < T.length) = true from decide_eq_true hc] at HI2
      rw [if_pos ⟨hp, hc⟩]
      obtain ⟨p, rfl⟩ : ∃ p : Nat, zp = (p : Int) := ⟨zp.toNat, by unfold inT at hp; omega⟩
      obtain ⟨c, rfl⟩ : ∃ c : Nat, zc = (c : Int) := ⟨zc.toNat, by unfold inT at hc; omega⟩
      have hpl : p < T.length := by unfold inT at hp; omega
      have hcl : c < T.length := by unfold inT at hc; omega
      have hpi : (p : Int) < T.length := by omega
      rw [Int.toNat_natCast, Int.toNat_natCast]
      clear hp hc
      obtain ⟨g, cap, c0, hG, c1, ck, _⟩ := h.cells p hpl
      have HC0 := hide c0
      have HWI := hide (fun W (hP : PT A W pb T) => within_p hW hz p c hpl hP)
      have HTO := hide (fun W (hP : PT A W pb T) => takeOut_p hW hz c hcl hP)
      have HC1 := hide c1
      clear c0 c1 ck hG
      cases hp : parentN T p with
      | none =>
        rw [hp] at HC1
        rw [parZ_none] at HC1
        simp only []
        clear hW h
        go_enter Tryz.func169, Tryz.ntmps169
        go_wp2_with fail
        refine (HI1.out _ (HPT.out.below B1.out)).mono ?_
        rintro e x18 ⟨rfl, b1⟩
        replace B1 := hide (B1.out.trans (b1.mono B1.out.size))
        clear b1
        go_wp2_with fail
        refine (HI2.out _ (HPT.out.below B1.out)).mono ?_
        rintro e x19 ⟨rfl, b1⟩
        replace B1 := hide (B1.out.trans (b1.mono B1.out.size))
        try clear d0 d1
        have d0 := (B1.out.cell (cell_lt HC0.out)).trans HC0.out
        have d1 := (B1.out.cell (cell_lt HC1.out)).trans HC1.out
        clear b1
        go_wp2_with fail
        have HF := hide (acted_same HPT.out B1.out)
        go_ret
        exact ⟨rfl, HF.out.1, HF.out.2⟩
      | some u =>
        rw [hp] at HC1
        rw [show parZ (some u) = (u : Int) from rfl] at HC1
        simp only []
        have hun : ¬ (u : Int) = -1 := by omega
        have hub : ((u : Int) == -1) = false := beq_eq_false_iff_ne.2 hun
        have hrm := parent_some hp
        have hul := kidsAt_lt hrm
        have hui : (u : Int) < T.length := by omega
        by_cases hc0 : c = 0
        · subst hc0
          rw [if_neg (by simp)]
          clear hW h hrm hp
          go_enter Tryz.func169, Tryz.ntmps169
          go_wp2_with fail
          refine (HI1.out _ (HPT.out.below B1.out)).mono ?_
          rintro e x20 ⟨rfl, b1⟩
          replace B1 := hide (B1.out.trans (b1.mono B1.out.size))
          clear b1
          go_wp2_with fail
          refine (HI2.out _ (HPT.out.below B1.out)).mono ?_
          rintro e x21 ⟨rfl, b1⟩
          replace B1 := hide (B1.out.trans (b1.mono B1.out.size))
          try clear d0 d1
          have d0 := (B1.out.cell (cell_lt HC0.out)).trans HC0.out
          have d1 := (B1.out.cell (cell_lt HC1.out)).trans HC1.out
          clear b1
          go_wp2_with fail
          have HF := hide (acted_same HPT.out B1.out)
          go_ret
          exact ⟨rfl, HF.out.1, HF.out.2⟩
        · have hc0' : ¬ (c : Int) = 0 := by omega
          have hc0b : ((c : Int) == 0) = false := beq_eq_false_iff_ne.2 hc0'
          rw [hc0b, Bool.not_false, Bool.true_and]
          cases hw : withinL T p c with
          | true =>
            rw [hw] at HWI
            rw [Bool.not_true, if_neg (by decide)]
            clear hW h hrm hp
            go_enter Tryz.func169, Tryz.ntmps169
            go_wp2_with fail
            refine (HI1.out _ (HPT.out.below B1.out)).mono ?_
            rintro e x22 ⟨rfl, b1⟩
            replace B1 := hide (B1.out.trans (b1.mono B1.out.size))
            clear b1
            go_wp2_with fail
            refine (HI2.out _ (HPT.out.below B1.out)).mono ?_
            rintro e x23 ⟨rfl, b1⟩
            replace B1 := hide (B1.out.trans (b1.mono B1.out.size))
            try clear d0 d1
            have d0 := (B1.out.cell (cell_lt HC0.out)).trans HC0.out
            have d1 := (B1.out.cell (cell_lt HC1.out)).trans HC1.out
            clear b1
            go_wp2_with fail
            refine (HWI.out _ (HPT.out.below B1.out)).mono ?_
            rintro e x24 ⟨rfl, b1⟩
            replace B1 := hide (B1.out.trans (b1.mono B1.out.size))
            clear b1
            go_wp2_with fail
            have HF := hide (acted_same HPT.out B1.out)
            go_ret
            exact ⟨rfl, HF.out.1, HF.out.2⟩
          | false =>
            rw [hw] at HWI
            rw [Bool.not_false, if_pos rfl]
            have hu : ¬ Up T c p := fun hup => by rw [(within_iff hW hpl).2 hup] at hw; cases hw
            have HRAW := hide (before_raw hW hrm hcl (by omega) hu)
            have hkl := (hW.out c).kids_len u
            rw [out_len] at hkl
            have hnd := (hW.out c).nodup u
            have hne : ¬ p = c := fun e => hu (e ▸ .refl)
            have hro : p ∈ kidsAt (outL T c) u := by
              rw [kids_out hW, List.mem_filter]
              exact ⟨hrm, by simp [hne]⟩
            obtain ⟨i, hi, hii⟩ := List.mem_iff_getElem.1 hro
            have HIN := hide (ahead_ins p c _ i hi hii hnd)
            have HND := hide hnd
            have HKL := hide hkl
            have HII := hide hii
            have HI := hide hi
            clear hW h hu hkl hnd hro hii hrm hp
            go_enter Tryz.func169, Tryz.ntmps169
            go_wp2_with fail
            refine (HI1.out _ (HPT.out.below B1.out)).mono ?_
            rintro e x25 ⟨rfl, b1⟩
            replace B1 := hide (B1.out.trans (b1.mono B1.out.size))
            clear b1
            go_wp2_with fail
            refine (HI2.out _ (HPT.out.below B1.out)).mono ?_
            rintro e x26 ⟨rfl, b1⟩
            replace B1 := hide (B1.out.trans (b1.mono B1.out.size))
            try clear d0 d1
            have d0 := (B1.out.cell (cell_lt HC0.out)).trans HC0.out
            have d1 := (B1.out.cell (cell_lt HC1.out)).trans HC1.out
            clear b1
            go_wp2_with fail
            refine (HWI.out _ (HPT.out.below B1.out)).mono ?_
            rintro e x27 ⟨rfl, b1⟩
            replace B1 := hide (B1.out.trans (b1.mono B1.out.size))
            clear b1
            go_wp2_with fail
            refine (HTO.out _ (HPT.out.below B1.out)).mono ?_
            rintro e y1 ⟨rfl, h2, h3⟩
            have hB3 : ButA A w y1 := (ButA.of B1.out).trans h3 fun j _ h => h
            have HB3 := hide hB3
            have h2' := h2.mono (B := andNew A w.heap.size) (by
              rintro k (h | h)
              · exact .inl h
              · exact .inr (Nat.le_trans B1.out.size h))
            have hol : u < (rawOf (outL T c)).length := by rw [raw_len, out_len]; exact hul
            have hks : (rawOf (outL T c))[u].kids = kidsAt (outL T c) u := by rw [raw_get]; rfl
            have HPU := hide (put_p (R := rawOf (outL T c)) (by rw [raw_len, out_len]; exact hz) u i c hol (by rw [raw_len, out_len]; exact hcl) (by rw [hks]; exact Nat.le_of_lt HI.out) (by rw [hks]; have := HKL.out; omega) h2')
            rw [hks] at HPU
            rw [show insL (kidsAt (outL T c) u) i c = aheadL p c (kidsAt (outL T c) u) from HIN.out.symm, HRAW.out] at HPU
            obtain ⟨g2, hG2⟩ := h2'
            have hPL := placeOf_p hG2 u hol i (by rw [hks]; exact HI.out) (by rw [hks]; exact HND.out) (by rw [hks]; have := HKL.out; omega)
            simp only [hks] at hPL
            rw [HII.out] at hPL
            have HPL := hide hPL
            obtain ⟨cap2, rs2, hR2, hP2⟩ := hG2
            have hl2 := map_len hR2
            rw [raw_len, out_len] at hl2
            have e0 := hP2.tree
            rw [hl2] at e0
            clear h2 h3 hB3 hP2 hR2 hks hPL
            try clear d0 d1
            go_wp2_with fail
            refine HPL.out.mono ?_
            rintro e y3 ⟨rfl, rfl⟩
            go_wp2_with fail
            refine HPU.out.mono ?_
            rintro e y2 ⟨rfl, h4, h5⟩
            have HF : Hid (PT (andNew A w.heap.size) y2 pb (beforeL T u p c) ∧ ButA A w y2) := hide ⟨PT.mono h4 (by
              rintro k ((h | h) | h)
              · exact .inl h
              · exact .inr h
              · exact .inr (Nat.le_trans HB3.out.size h)), HB3.out.trans' h5⟩
            clear h4 h5 e0
            go_wp2
            go_ret
            exact ⟨rfl, HF.out.1, HF.out.2⟩
    · rw [show decide (0 ≤ zc ∧ zc < T.length) = false from decide_eq_false hc] at HI2
      rw [if_neg (fun h => hc h.2)]
      clear hW h hp hc
      go_enter Tryz.func169, Tryz.ntmps169
      go_wp2_with fail
      refine (HI1.out _ (HPT.out.below B1.out)).mono ?_
      rintro e x28 ⟨rfl, b1⟩
      replace B1 := hide (B1.out.trans (b1.mono B1.out.size))
      clear b1
      go_wp2_with fail
      refine (HI2.out _ (HPT.out.below B1.out)).mono ?_
      rintro e x29 ⟨rfl, b1⟩
      replace B1 := hide (B1.out.trans (b1.mono B1.out.size))
      clear b1
      go_wp2_with fail
      have HF := hide (acted_same HPT.out B1.out)
      go_ret
      exact ⟨rfl, HF.out.1, HF.out.2⟩
  · rw [show decide (0 ≤ zp ∧ zp < T.length) = false from decide_eq_false hp] at HI1
    rw [if_neg (fun h => hp h.1)]
    clear hW h hp
    go_enter Tryz.func169, Tryz.ntmps169
    go_wp2_with fail
    refine (HI1.out _ (HPT.out.below B1.out)).mono ?_
    rintro e x30 ⟨rfl, b1⟩
    replace B1 := hide (B1.out.trans (b1.mono B1.out.size))
    clear b1
    go_wp2_with fail
    have HF := hide (acted_same HPT.out B1.out)
    go_ret
    exact ⟨rfl, HF.out.1, HF.out.2⟩
end Go.Proofs.YtpppdfjdngmaoaaGreatDoor.S5
namespace Go.Proofs.YtpppdfjdngmaoaaGreatDoor.S5
open Go.RowKit
theorem heap_setCell_mk (w : World) (g i : Nat) (cs : Array Value) (t : TypeId) (mk : Nat × Nat) (v : Value) (hg : w.heap[g]? = some (.cells cs t mk)) : (w.setCell ⟨g, i, none⟩ v).heap[g]? = some (.cells (cs.setIfInBounds i v) t mk) := by
  rw [setCell_eq_setRow w g i cs t mk v hg]
  exact setRow_heap w g cs _ t _ hg
theorem cells_mk {e : TypeId} {g : Nat} {mk : Nat × Nat} : ∀ (vs : List Value) (o : Nat) (xs : List Value) (w : World), w.heap[g]? = some (.cells xs.toArray e mk) → o + vs.length ≤ xs.length → (w.setCells g o vs).heap[g]? = some (.cells (writeAt xs o vs).toArray e mk) ∧ ButA (fun k => k = g) w (w.setCells g o vs)
  | [], o, xs, w, h, hl => by
    have : writeAt xs o [] = xs := by simp [writeAt]
    rw [this]
    exact ⟨h, ButA.refl _ _⟩
  | v :: r, o, xs, w, h, hl => by
    have h1 : (w.setCell ⟨g, o, none⟩ v).heap[g]? = some (.cells (xs.set o v).toArray e mk) := by
      rw [heap_setCell_mk w g o _ e mk v h]; simp
    obtain ⟨a1, a2⟩ := cells_mk r (o + 1) (xs.set o v) _ h1 (by simp at hl ⊢; omega)
    rw [writeAt_step xs o v r hl] at a1
    have hq : ButA (fun k => k = g) w (w.setCell ⟨g, o, none⟩ v) := (ButA.refl (fun k => k = g) w).setCell (a := ⟨g, o, none⟩) (.inl rfl) v
    exact ⟨a1, hq.trans a2 fun _ _ h => h⟩
theorem textCells_len (l : List UInt8) : (textCells l).length = l.length := by simp [textCells]
theorem append_text (W : World) (v : Value) (l : List UInt8) (s : ByteArray) (hO : OwnB W v l) (hl : l.length ≤ 1000000000) (hs : s.size ≤ 1000000000) :
    ∃ v' w', (Builtin.append_ #[64, 9] 64 #[v, .string s]).run Tryz.prog W = .ok v' w' ∧ OwnB w' v' (l ++ s.data.toList) ∧ (∀ k, v'.ownBlock = some k → v.ownBlock = some k ∨ W.heap.size ≤ k) ∧ ButA (fun k => v.ownBlock = some k) W w' := by
  have hsrc : Src Tryz.prog 1 9 (.string s) s.size (byteCells s) W := Src.ofString W Tryz.underlying9 s
  have hbc : byteCells s = textCells s.data.toList := rfl
  have hsl := size_list s
  have hgrow : ∀ (base : Option Addr) (cap : Nat), cap < l.length + s.size → (Builtin.firstCells 1 l.length (.slice base l.length cap)).run Tryz.prog W.drew = .ok (textCells l).toArray W.drew →
      ∃ v' w', (Builtin.append_ #[64, 9] 64 #[.slice base l.length cap, .string s]).run Tryz.prog W = .ok v' w' ∧ OwnB w' v' (l ++ s.data.toList) ∧ (∀ k, v'.ownBlock = some k → (Value.slice base l.length cap).ownBlock = some k ∨ W.heap.size ≤ k) ∧ ButA (fun k => (Value.slice base l.length cap).ownBlock = some k) W w' := by
    intro base cap hc hold
    have hr := run_append_grow_src (P := Tryz.prog) W 64 9 64 5 Tryz.t5 (.int .u8 0) Tryz.underlying64 (by kernel_rfl) rfl base l.length cap (textCells l) hold (.string s) s.size (byteCells s) hsrc hc (by omega) (growslice_fits hc (by show _ * 1 ≤ _; omega))
    have hge := grownCap_ge W (l.length + s.size) cap 5
    have hcm := grownCap_le_maxLen W (l.length + s.size) cap 5 (by unfold maxLen; omega)
    have hll : (l ++ s.data.toList).length = l.length + s.size := by rw [List.length_append, ← hsl]
    refine ⟨_, _, hr, .inr ⟨W.heap.size, _, _, (0, 0), by rw [hll], heap_alloc_new W.drew _, fun j _ => ?_, by rw [hll]; exact hge, hcm, ?_, ?_⟩, fun k hk => .inr ?_, (ButA.refl _ W).drew.alloc _⟩
    · show World.frozen? _ _ = false
      have := heap_alloc_new W.drew (.cells ((textCells l ++ byteCells s).toArray ++ Builtin.zeroCells (Value.int .u8 0).cells (grownCap W (l.length + s.size) cap 5 - (l.length + s.size))) 5)
      simp only [World.frozen?]
      rw [show (W.drew.alloc (.cells ((textCells l ++ byteCells s).toArray ++ Builtin.zeroCells (Value.int .u8 0).cells (grownCap W (l.length + s.size) cap 5 - (l.length + s.size))) 5)).heap[W.heap.size]? = _ from this]
      simp
    · rw [Array.size_append, size_zeroCells, List.size_toArray, List.length_append, hbc, textCells_len, textCells_len, ← hsl]
      show _ + _ * 1 = _
      omega
    · rw [hll, hbc, Array.toList_append]
      show List.take _ ((textCells l ++ textCells s.data.toList) ++ _) = _
      rw [List.take_left' (by rw [List.length_append, textCells_len, textCells_len, ← hsl])]
      simp [textCells]
    · have : W.heap.size = k := by simpa [Value.ownBlock] using hk
      omega
  rcases hO with ⟨rfl, rfl⟩ | ⟨g, cap, cur, mk, rfl, h1, h2, h3, h4, h5, h6⟩
  · by_cases h0 : s.size = 0
    · have hs0 : s.data.toList = [] := List.eq_nil_of_length_eq_zero (by omega)
      refine ⟨.slice none 0 0, W, ?_, .inl ⟨rfl, by rw [hs0]; rfl⟩, (by intro k e; cases e), ButA.refl _ _⟩
      have h1 := hsrc.len W
      have h2 := hsrc.cells
      rw [h0] at h1 h2
      have hb0 : byteCells s = [] := by rw [hbc, hs0]; rfl
      rw [hb0] at h2
      simp [Builtin.append_, run_underlying (Tryz.underlying64), run_underlying (Tryz.underlying9), sizeOf, typeInfo, show Tryz.prog.info? 5 = some Tryz.t5 from by kernel_rfl, Builtin.lenOf, h0, show Tryz.t5.size = 1 from rfl, h2]
    · exact hgrow none 0 (by simp; omega) (run_firstCells_none W.drew 1 0 0 0)
  · by_cases hroom : l.length + s.size ≤ cap
    · have hcl : ∀ j, j < cap → (W.cell? ⟨g, j, none⟩).isSome = true := fun j hj => by
        simp only [World.cell?, h1]
        have : j < cur.size := by omega
        simp [this]
      have hnl : (byteCells s).length = s.size := byteCells_length s
      have hr := run_append_room_src (P := Tryz.prog) W 64 9 64 5 Tryz.t5 Tryz.underlying64 (by kernel_rfl) g 0 l.length cap (.string s) s.size (byteCells s) hsrc hroom (fun j hj => hcl _ (by show 0 + l.length * 1 + j < cap; omega)) (fun j hj => h2 _ (by show 0 + l.length * 1 + j < cap; omega))
      have hh : W.heap[g]? = some (.cells cur.toList.toArray 5 mk) := by simpa using h1
      have hr2 : (Builtin.append_ #[64, 9] 64 #[.slice (some ⟨g, 0, none⟩) l.length cap, .string s]).run Tryz.prog W = .ok (.slice (some ⟨g, 0, none⟩) (l.length + s.size) cap) (W.setCells g l.length (byteCells s)) := by
        rw [show 0 + l.length * Tryz.t5.size = l.length from by show 0 + l.length * 1 = l.length; omega] at hr
        exact hr
      have hcl2 : cur.toList.length = cap := by simpa using h5
      obtain ⟨a1, a2⟩ := cells_mk (byteCells s) l.length cur.toList W hh (by omega)
      have hll : (l ++ s.data.toList).length = l.length + s.size := by rw [List.length_append, ← hsl]
      refine ⟨_, _, hr2, .inr ⟨g, cap, _, mk, by rw [hll], a1, fun j hj => ?_, by rw [hll]; exact hroom, h4, ?_, ?_⟩, fun k hk => .inl hk, a2.mono fun k e => by rw [e]; rfl⟩
      · rw [World.frozen?_setCells]
        exact h2 j hj
      · simp only [List.size_toArray]
        rw [writeAt_len _ _ _ (by omega)]
        exact hcl2
      · unfold writeAt
        rw [h6, hll, hbc]
        show List.take _ (textCells l ++ textCells s.data.toList ++ _) = _
        rw [List.take_left' (by rw [List.length_append, textCells_len, textCells_len, ← hsl])]
        simp [textCells]
    · refine hgrow (some ⟨g, 0, none⟩) cap (by omega) (run_firstCells_some W.drew 1 l.length ⟨g, 0, none⟩ l.length cap (textCells l) (by rw [textCells_len]; omega) fun j u hu => ?_)
      rw [addr_add]
      show W.cell? ⟨g, j, none⟩ = some u
      simp only [World.cell?, h1]
      rw [← h6] at hu
      have hj : j < l.length := by
        rcases Nat.lt_or_ge j l.length with h | h
        · exact h
        · rw [List.getElem?_eq_none (by rw [List.length_take]; omega)] at hu
          cases hu
      rw [List.getElem?_take_of_lt hj] at hu
      simpa using hu
theorem PV.textTo {A : Nat → Prop} {w w1 : World} {pb g cap : Nat} {rs : List RV} {R : List RN} (hR : rs.map (·.rn) = R) (h : PV A w pb g cap rs) (i : Nat) (hi : i < rs.length) (hb : ButA (fun k => rs[i].tv.ownBlock = some k) w w1) (tv' : Value) (s' : List UInt8)
    (hown : OwnB w1 tv' s') (hfr : ∀ k, tv'.ownBlock = some k → rs[i].tv.ownBlock = some k ∨ w.heap.size ≤ k) : PG (andNew A w.heap.size) (w1.setCell ⟨g, i * 7 + 6, none⟩ tv') pb g (setText R i s') := by
  have hk : ∀ s k, s ≠ .txt i → slotB pb g rs s = some k → w1.heap[k]? = w.heap[k]? := fun s k hs e => hb.block k (h.lt s k e) fun e2 => hs (h.sep s (.txt i) k e (by rw [slot_txt pb g rs i hi]; exact e2))
  refine ⟨cap, _, map_upd hR i hi ⟨rs[i].rn.wText s', rs[i].kv, rs[i].av, tv'⟩ _ rfl, h.upd i hi (.txt i) (.inr rfl) hb.size hk _ 6 (by omega) tv' rfl ?_ rfl rfl hown (fun _ => rfl) (fun e => absurd rfl e) (fun k hk => .inl hk) hfr⟩
  exact ownsRow_keep (h.kid i hi) fun k e => hk (.kid i) k (by simp) (by rw [slot_kid pb g rs i hi]; exact e)
theorem add_p {A : Nat → Prop} {w : World} {pb : Nat} {T : TR} (hW : WF T) (hz : T.length ≤ 1000000) (z : Int) (s : ByteArray) (hs : s.size ≤ 1000000000) (htl : ∀ i, (nodeAt T i).text.length ≤ 1000000000) (h : PT A w pb T) :
    Calls Tryz.prog 114 #[.pointer (some ⟨pb, 0, none⟩), .int .i64 z, .string s] w (Acted A w pb (addZ T z s.data.toList)) := by
  have HH := hide (has_p z h)
  have HPT := hide h
  rw [raw_len] at HH
  unfold addZ
  by_cases hzz : inT T z
  · rw [if_pos hzz]
    rw [show decide (0 ≤ z ∧ z < T.length) = true from decide_eq_true hzz] at HH
    obtain ⟨n, rfl⟩ : ∃ n : Nat, z = (n : Int) := ⟨z.toNat, by unfold inT at hzz; omega⟩
    have hn : n < T.length := by unfold inT at hzz; omega
    have hni : (n : Int) < T.length := by omega
    rw [Int.toNat_natCast]
    obtain ⟨g, cap, rs, hR, hP⟩ := h
    have hlr := map_len hR
    rw [raw_len] at hlr
    have hn2 : n < rs.length := by omega
    have hrn := map_get hR n hn2 (by rw [raw_len]; exact hn)
    rw [raw_get] at hrn
    have hnd : rs[n].rn.nd = nodeAt T n := by rw [hrn]; rfl
    have HPV := hide hP
    have HND := hide hnd
    have HRR := hide hR
    have HAR := hide (add_raw hW hn s.data.toList)
    have ck : w.cell? ⟨g, n * 7, none⟩ = some (.int .i64 (nodeAt T n).kind) := by
      have := hP.cellAt n hn2 0 (by omega)
      rw [← hnd]
      exact this
    have HCK := hide ck
    have HTL := hide (htl n)
    clear hP hR hrn hnd ck hW htl
    by_cases hk : (nodeAt T n).kind = 2
    · rw [if_pos hk]
      rw [hk] at HCK
      clear hk hzz
      go_enter Tryz.func114, Tryz.ntmps114
      go_wp2_with fail
      refine HH.out.mono ?_
      rintro e w1 ⟨rfl, b1⟩
      have hP1 := HPV.out.below b1
      have c0 := hP1.tree
      rw [hlr] at c0
      have d0 := (b1.cell (cell_lt HCK.out)).trans HCK.out
      have d6 : w1.cell? ⟨g, n * 7 + 6, none⟩ = some rs[n].tv := hP1.cellAt n hn2 6 (by omega)
      have d6f : w1.frozen? ⟨g, n * 7 + 6, none⟩ = false := hP1.frz _
      have htx := hP1.txt n hn2
      rw [HND.out] at htx
      obtain ⟨v', w', hr, hO, hfr, hb⟩ := append_text w1.drew rs[n].tv (nodeAt T n).text s (htx.keep fun _ _ => rfl) HTL.out hs
      have hb0 : ButA (fun k => rs[n].tv.ownBlock = some k) w1 w' := ⟨hb.os, hb.tape, hb.output, hb.size, hb.block⟩
      have hne : ∀ sl, sl ≠ Sl.txt n → ∀ k, slotB pb g rs sl = some k → w'.heap[k]? = w1.heap[k]? := fun sl hsl k e => hb0.block k (hP1.lt sl k e) fun e2 => hsl (hP1.sep sl (.txt n) k e (by rw [slot_txt pb g rs n hn2]; exact e2))
      have c0' : w'.cell? ⟨pb, 0, none⟩ = some (.slice (some ⟨g, 0, none⟩) T.length cap) := cell_same (hne .tree (by simp) pb rfl) c0
      have d6' : w'.cell? ⟨g, n * 7 + 6, none⟩ = some rs[n].tv := cell_same (hne .row (by simp) g rfl) d6
      have d6f' : w'.frozen? ⟨g, n * 7 + 6, none⟩ = false := by rw [World.frozen?_of_block (a := ⟨g, n * 7 + 6, none⟩) (hne .row (by simp) g rfl)]; exact d6f
      have hfin := hP1.textTo HRR.out n hn2 hb0 v' _ hO hfr
      rw [HAR.out] at hfin
      have hgA : A g := hP1.inA .row g rfl
      have HF : Hid (PT (andNew A w.heap.size) (w'.setCell ⟨g, n * 7 + 6, none⟩ v') pb (addL T n s.data.toList) ∧ ButA A w (w'.setCell ⟨g, n * 7 + 6, none⟩ v')) := hide ⟨⟨g, hfin.mono (by
        rintro k (h | h)
        · exact .inl h
        · exact .inr (Nat.le_trans b1.size h))⟩, ((ButA.of b1).trans hb0 (fun j _ e => hP1.inA (.txt n) j (by rw [slot_txt pb g rs n hn2]; exact e))).setCell (.inl hgA) _⟩
      obtain ⟨ta, tc, et⟩ := htx.form
      obtain ⟨ta2, tc2, et2⟩ := hO.form
      rw [et] at d6 d6' hr
      subst et2
      have HR := hide hr
      clear hr hO hfr hb hb0 hne hfin hgA hP1 htx et b1 HPT HRR HND HPV HCK HTL HAR
      generalize (nodeAt T n).text.length = tl at *
      generalize ((nodeAt T n).text ++ s.data.toList).length = tl2 at *
      go_wp2_with fail
      go_region_law (refine step_append_run rfl (.tmp 33) (.tmp 34) 64 9 rfl (.slice ta tl tc) (.string s) (by simp [Act.eval, Act.put]) (by simp [Act.eval, Act.put]) HR.out ?_)
      all_goals
        go_wp2
        go_ret
        exact ⟨rfl, HF.out.1, HF.out.2⟩
    · rw [if_neg hk]
      generalize (nodeAt T n).kind = kd at *
      have hkb : (kd != 2) = true := bne_iff_ne.2 hk
      clear hzz HAR
      go_enter Tryz.func114, Tryz.ntmps114
      go_wp2_with fail
      refine HH.out.mono ?_
      rintro e w1 ⟨rfl, b1⟩
      have c0 := (HPV.out.below b1).tree
      rw [hlr] at c0
      have d0 := (b1.cell (cell_lt HCK.out)).trans HCK.out
      have HF := hide (acted_same HPT.out b1)
      clear b1
      go_wp2
      go_ret
      exact ⟨rfl, HF.out.1, HF.out.2⟩
  · rw [if_neg hzz]
    rw [show decide (0 ≤ z ∧ z < T.length) = false from decide_eq_false hzz] at HH
    clear hzz hW h
    go_enter Tryz.func114, Tryz.ntmps114
    go_wp2_with fail
    refine HH.out.mono ?_
    rintro e w1 ⟨rfl, b1⟩
    have HF := hide (acted_same HPT.out b1)
    clear b1
    go_wp2
    go_ret
    exact ⟨rfl, HF.out.1, HF.out.2⟩
end Go.Proofs.YtpppdfjdngmaoaaGreatDoor.S5
namespace Go.Proofs.YtpppdfjdngmaoaaGreatDoor.S5
open Go.RowKit
structure MoveS (A : Nat → Prop) (w W1 : World) (pb g b : Nat) (R1 : List RN) (ks : List Nat) (k : Nat) (wr : World) : Prop where
  pg : PG A wr pb g (parAll R1 (ks.take k) (b : Int))
  same : ∀ j, j ≠ g → wr.heap[j]? = W1.heap[j]?
  bt : ButA A w wr
theorem MoveS.step {A : Nat → Prop} {w W1 : World} {pb g b : Nat} {R1 : List RN} {ks : List Nat} {k : Nat} {wr : World} (h : MoveS A w W1 pb g b R1 ks k wr) (hk : k < ks.length) (hx : ks[k] < R1.length) (hgA : A g) : MoveS A w W1 pb g b R1 ks (k + 1) (wr.setCell ⟨g, ks[k] * 7 + 1, none⟩ (.int .i64 (b : Int))) := by
  refine ⟨?_, fun j hj => (Below.heap_setCell _ _ _ _ hj).trans (h.same j hj), h.bt.setCell (.inl hgA) _⟩
  rw [parAll_take _ _ _ _ hk]
  exact h.pg.parTo ks[k] (by rw [parAll_len]; exact hx) (b : Int)
theorem PG.cells {A : Nat → Prop} {w : World} {pb g : Nat} {R : List RN} (h : PG A w pb g R) : ∃ cap, w.cell? ⟨pb, 0, none⟩ = some (.slice (some ⟨g, 0, none⟩) R.length cap) ∧ (∀ i (hi : i < R.length), w.cell? ⟨g, i * 7 + 1, none⟩ = some (.int .i64 R[i].par)) ∧ ∀ j, w.frozen? ⟨g, j, none⟩ = false := by
  obtain ⟨cap, rs, hR, hP⟩ := h
  have c0 := hP.tree
  have hl := map_len hR
  rw [hl] at c0
  refine ⟨cap, c0, fun i hi => ?_, hP.frz⟩
  rw [← map_get hR i (by omega) hi]
  exact hP.cellAt i (by omega) 1 (by omega)
end Go.Proofs.YtpppdfjdngmaoaaGreatDoor.S5
namespace Go.Proofs.YtpppdfjdngmaoaaGreatDoor.S5
open Go.RowKit
def NT : Nat → Type
  | 0 => { d : ND // False }
  | k + 1 => ND × List (NT k)
def NT.mk {k : Nat} (d : ND) (ks : List (NT k)) : NT (k + 1) := Prod.mk d ks
def NT.nd {k : Nat} (t : NT (k + 1)) : ND := Prod.fst (α := ND) (β := List (NT k)) t
def NT.kids {k : Nat} (t : NT (k + 1)) : List (NT k) := Prod.snd (α := ND) (β := List (NT k)) t
theorem NT.none {G : Prop} (t : NT 0) : G := (Subtype.property (p := fun d : ND => False) t).elim
theorem NT.form {k : Nat} (t : NT (k + 1)) : t = .mk t.nd t.kids := rfl
def countT : {k : Nat} → NT k → Nat
  | 0, _ => 0
  | k + 1, t => 1 + (t.kids.map fun x => countT x).sum
def countTs {k : Nat} (l : List (NT k)) : Nat := (l.map fun x => countT x).sum
def NT.lift : {k : Nat} → NT k → NT (k + 1)
  | 0, t => .mk t.1 []
  | k + 1, t => .mk t.nd (t.kids.map fun x => NT.lift x)
def valueK : (k : Nat) → TR → Nat → NT (k + 1)
  | 0, T, n => .mk (nodeAt T n) []
  | k + 1, T, n => .mk (nodeAt T n) ((kidsAt T n).map (valueK k T))
def valueL (T : TR) (n : Nat) : NT (T.length + 1) := valueK T.length T n
theorem value_more {T : TR} (h : WF T) {r : Nat → Nat} (hr : ∀ i k, k ∈ kidsAt T i → r i < r k) (hb : ∀ i, i < T.length → r i < T.length) : ∀ (k n : Nat), n < T.length → T.length ≤ r n + k + 1 → valueK (k + 1) T n = (valueK k T n).lift
  | 0, n, hn, hk => by
    have h0 : kidsAt T n = [] := by
      cases hl : kidsAt T n with
      | nil => rfl
      | cons x s =>
        have hx : x ∈ kidsAt T n := by rw [hl]; simp
        have := hr n x hx
        have := hb x (h.inb n x hx).2
        omega
    show NT.mk (nodeAt T n) ((kidsAt T n).map (valueK 0 T)) = NT.mk (nodeAt T n) []
    rw [h0]
    rfl
  | k + 1, n, hn, hk => by
    show NT.mk (nodeAt T n) ((kidsAt T n).map (valueK (k + 1) T)) = NT.mk (nodeAt T n) (((kidsAt T n).map (valueK k T)).map NT.lift)
    rw [List.map_map]
    congr 1
    exact List.map_congr_left fun x hx => value_more h hr hb k x (h.inb n x hx).2 (by have := hr n x hx; omega)
theorem WF.value_eq {T : TR} (h : WF T) {n : Nat} (hn : n < T.length) : (valueL T n).lift = .mk (nodeAt T n) ((kidsAt T n).map (valueL T)) := by
  obtain ⟨r, hr, hb⟩ := h.ranked
  exact (value_more h hr hb T.length n hn (by omega)).symm
def nodeC (d : ND) (av kv : Value) : List Value := [.int .i64 d.kind, .int .i64 d.space, .string ⟨d.name.toArray⟩, av, .string ⟨d.text.toArray⟩, kv]
def RowG {α : Type} (P : α → List Value → Prop) (w : World) (b : Nat) : Nat → List α → Prop
  | _, [] => True
  | o, k :: r => (∃ vs : List Value, (∀ i, i < 6 → w.cell? ⟨b, o + i, none⟩ = vs[i]?) ∧ P k vs) ∧ RowG P w b (o + 6) r
theorem RowG.keep {α β : Type} {P : α → List Value → Prop} {Q : β → List Value → Prop} {w W : World} {b : Nat} (f : α → β) (hc : W.heap[b]? = w.heap[b]?) (hf : ∀ x vs, P x vs → Q (f x) vs) : ∀ (o : Nat) (ks : List α), RowG P w b o ks → RowG Q W b o (ks.map f)
  | _, [], _ => trivial
  | o, k :: r, h => by
    obtain ⟨⟨vs, h1, h2⟩, h3⟩ := h
    exact ⟨⟨vs, fun i hi => by rw [World.cell?_of_block (a := ⟨b, o + i, none⟩) hc]; exact h1 i hi, hf k vs h2⟩, RowG.keep f hc hf (o + 6) r h3⟩
theorem RowG.unmap {α β : Type} {P : α → List Value → Prop} {Q : β → List Value → Prop} {w : World} {b : Nat} (f : α → β) (hf : ∀ x vs, Q (f x) vs → P x vs) : ∀ (o : Nat) (ks : List α), RowG Q w b o (ks.map f) → RowG P w b o ks
  | _, [], _ => trivial
  | o, k :: r, h => by
    obtain ⟨⟨vs, h1, h2⟩, h3⟩ := h
    exact ⟨⟨vs, h1, hf k vs h2⟩, RowG.unmap f hf (o + 6) r h3⟩
def IsN (B : Nat → Prop) (w : World) : {k : Nat} → NT k → List Value → Prop
  | 0, _, _ => False
  | k + 1, t, vs => ∃ av kv, vs = nodeC t.nd av kv ∧ IsAB B w av t.nd.attrs ∧ ((kv = .slice none 0 0 ∧ t.kids = []) ∨ ∃ b o cap, kv = .slice (some ⟨b, o, none⟩) t.kids.length cap ∧ t.kids.length ≤ cap ∧ (t.kids = [] ∨ B b) ∧ RowG (fun x us => IsN B w x us) w b o t.kids)
def IsNs (B : Nat → Prop) (w : World) (b : Nat) {k : Nat} (o : Nat) (ks : List (NT k)) : Prop := RowG (fun x us => IsN B w x us) w b o ks
def IsK (B : Nat → Prop) (w : World) {k : Nat} (ks : List (NT k)) (kv : Value) : Prop := (kv = .slice none 0 0 ∧ ks = []) ∨ ∃ b o cap, kv = .slice (some ⟨b, o, none⟩) ks.length cap ∧ ks.length ≤ cap ∧ (ks = [] ∨ B b) ∧ IsNs B w b o ks
theorem isN_iff (B : Nat → Prop) (w : World) {k : Nat} (d : ND) (ks : List (NT k)) (vs : List Value) : IsN B w (.mk d ks) vs ↔ ∃ av kv, vs = nodeC d av kv ∧ IsAB B w av d.attrs ∧ IsK B w ks kv := by
  exact Iff.rfl
theorem isN_len {B : Nat → Prop} {w : World} : ∀ {k : Nat} {t : NT k} {vs : List Value}, IsN B w t vs → vs.length = 6
  | 0, t, _, _ => t.none
  | k + 1, t, vs, h => by
    obtain ⟨av, kv, rfl, _⟩ := h
    rfl
theorem isK_form {B : Nat → Prop} {w : World} {k : Nat} {ks : List (NT k)} {kv : Value} (h : IsK B w ks kv) : ∃ a c, kv = .slice a ks.length c := by
  rcases h with ⟨rfl, rfl⟩ | ⟨b, o, cap, rfl, _⟩
  · exact ⟨_, _, rfl⟩
  · exact ⟨_, _, rfl⟩
theorem IsN.keep {B C : Nat → Prop} {w W : World} (hk : ∀ k, B k → W.heap[k]? = w.heap[k]?) (hm : ∀ k, B k → C k) : ∀ {k : Nat} (t : NT k) (vs : List Value), IsN B w t vs → IsN C W t vs
  | 0, t, _, _ => t.none
  | k + 1, t, vs, h => by
    obtain ⟨av, kv, h1, h2, h3⟩ := h
    refine ⟨av, kv, h1, (h2.keep hk).mono hm, ?_⟩
    rcases h3 with h3 | ⟨b, o, cap, e1, e2, e3, e4⟩
    · exact .inl h3
    · rcases e3 with e3 | e3
      · refine .inr ⟨b, o, cap, e1, e2, .inl e3, ?_⟩
        rw [e3]
        trivial
      · refine .inr ⟨b, o, cap, e1, e2, .inr (hm b e3), ?_⟩
        have := RowG.keep (Q := fun x us => IsN C W x us) id (hk b e3) (fun x us hx => IsN.keep hk hm x us hx) o t.kids e4
        rwa [List.map_id] at this
theorem IsNs.keep {B C : Nat → Prop} {w W : World} (hk : ∀ k, B k → W.heap[k]? = w.heap[k]?) (hm : ∀ k, B k → C k) (b : Nat) (hb : B b) {k : Nat} (o : Nat) (ks : List (NT k)) (h : IsNs B w b o ks) : IsNs C W b o ks := by
  have := RowG.keep (Q := fun x us => IsN C W x us) id (hk b hb) (fun x us hx => IsN.keep hk hm x us hx) o ks h
  rwa [List.map_id] at this
theorem IsN.lift {B : Nat → Prop} {w : World} : ∀ {k : Nat} (t : NT k) (vs : List Value), IsN B w t.lift vs → IsN B w t vs
  | 0, t, _, _ => t.none
  | k + 1, t, vs, h => by
    obtain ⟨av, kv, h1, h2, h3⟩ := h
    refine ⟨av, kv, h1, h2, ?_⟩
    have hl : t.lift.kids.length = t.kids.length := List.length_map _
    have he : t.lift.kids = [] → t.kids = [] := fun h0 => List.eq_nil_of_length_eq_zero (by rw [← hl, h0]; rfl)
    rcases h3 with ⟨h3, h4⟩ | ⟨b, o, cap, e1, e2, e3, e4⟩
    · exact .inl ⟨h3, he h4⟩
    · rw [hl] at e1 e2
      refine .inr ⟨b, o, cap, e1, e2, ?_, RowG.unmap NT.lift (fun x us hx => IsN.lift x us hx) o t.kids e4⟩
      rcases e3 with e3 | e3
      · exact .inl (he e3)
      · exact .inr e3
theorem IsN.on {B : Nat → Prop} {w W : World} {k : Nat} {t : NT k} {vs : List Value} (h : IsN B w t vs) (hk : ∀ k, B k → W.heap[k]? = w.heap[k]?) : IsN B W t vs := IsN.keep hk (fun _ h => h) t vs h
theorem IsN.mono {B C : Nat → Prop} {w : World} {k : Nat} {t : NT k} {vs : List Value} (h : IsN B w t vs) (hm : ∀ k, B k → C k) : IsN C w t vs := IsN.keep (fun _ _ => rfl) hm t vs h
theorem IsNs.get {B : Nat → Prop} {w : World} {b : Nat} {k : Nat} : ∀ (o : Nat) (ks : List (NT k)), IsNs B w b o ks → ∀ j (hj : j < ks.length), ∃ vs : List Value, (∀ i, i < 6 → w.cell? ⟨b, o + j * 6 + i, none⟩ = vs[i]?) ∧ IsN B w ks[j] vs
  | o, x :: r, h, 0, _ => by
    obtain ⟨⟨vs, h1, h2⟩, _⟩ := h
    exact ⟨vs, fun i hi => by rw [show o + 0 * 6 + i = o + i by omega]; exact h1 i hi, h2⟩
  | o, x :: r, h, j + 1, hj => by
    obtain ⟨vs, h1, h2⟩ := IsNs.get (o + 6) r h.2 j (by simpa using hj)
    exact ⟨vs, fun i hi => by rw [show o + (j + 1) * 6 + i = o + 6 + j * 6 + i by omega]; exact h1 i hi, h2⟩
theorem IsNs.of {B : Nat → Prop} {w : World} {b : Nat} {k : Nat} : ∀ (o : Nat) (ks : List (NT k)), (∀ j (hj : j < ks.length), ∃ vs : List Value, (∀ i, i < 6 → w.cell? ⟨b, o + j * 6 + i, none⟩ = vs[i]?) ∧ IsN B w ks[j] vs) → IsNs B w b o ks
  | o, [], _ => trivial
  | o, x :: r, h => by
    refine ⟨?_, IsNs.of (o + 6) r fun j hj => ?_⟩
    · obtain ⟨vs, h1, h2⟩ := h 0 (by simp)
      exact ⟨vs, fun i hi => by have := h1 i hi; rw [show o + 0 * 6 + i = o + i by omega] at this; exact this, h2⟩
    · obtain ⟨vs, h1, h2⟩ := h (j + 1) (by simpa using hj)
      exact ⟨vs, fun i hi => by have := h1 i hi; rw [show o + (j + 1) * 6 + i = o + 6 + j * 6 + i by omega] at this; exact this, h2⟩
structure RowN (B : Nat → Prop) (n0 : Nat) (w : World) (kv : Value) {k : Nat} (ts : List (NT k)) : Prop where
  ex : ∃ cs : List (List Value), cs.length = ts.length ∧ w.ownsRow n0 46 6 kv ts.length cs.flatten ∧ ∀ j (h1 : j < cs.length) (h2 : j < ts.length), IsN B w ts[j] cs[j]
theorem flatten_get6 : ∀ (cs : List (List Value)), (∀ c ∈ cs, c.length = 6) → ∀ j (hj : j < cs.length) i, i < 6 → cs.flatten[j * 6 + i]? = cs[j][i]?
  | c :: r, h, 0, _, i, hi => by
    rw [List.flatten_cons, Nat.zero_mul, Nat.zero_add, List.getElem?_append_left (by rw [h c (by simp)]; exact hi)]
    rfl
  | c :: r, h, j + 1, hj, i, hi => by
    have ih := flatten_get6 r (fun x hx => h x (by simp [hx])) j (by simpa using hj) i hi
    rw [List.flatten_cons, List.getElem?_append_right (by rw [h c (by simp)]; omega), h c (by simp), show (j + 1) * 6 + i - 6 = j * 6 + i by omega]
    exact ih
theorem RowN.isK {B : Nat → Prop} {n0 : Nat} {w : World} {kv : Value} {k : Nat} {ts : List (NT k)} (h : RowN B n0 w kv ts) (hB : ∀ k, n0 ≤ k → B k) : IsK B w ts kv := by
  obtain ⟨cs, h1, h2, h3⟩ := h.ex
  have hl : ∀ c ∈ cs, c.length = 6 := fun c hc => by
    obtain ⟨j, hj, rfl⟩ := List.mem_iff_getElem.1 hc
    exact isN_len (h3 j hj (by omega))
  rcases h2.2 with ⟨e1, e2⟩ | ⟨g, cap, cur, rfl, hbg, hg, hnc, _⟩
  · exact .inl ⟨e1, List.eq_nil_of_length_eq_zero e2⟩
  · refine .inr ⟨g, 0, cap, rfl, hnc, .inr (hB g hbg), IsNs.of 0 ts fun j hj => ⟨cs[j], fun i hi => ?_, h3 j (by omega) hj⟩⟩
    rw [Nat.zero_add, h2.cellAt (j * 6 + i) (by omega), flatten_get6 cs hl j (by omega) i hi]
def set6 (w : World) (q : Nat) (v0 v1 v2 v3 v4 v5 : Value) : World := (((((w.setCell ⟨q, 0, none⟩ v0).setCell ⟨q, 1, none⟩ v1).setCell ⟨q, 2, none⟩ v2).setCell ⟨q, 3, none⟩ v3).setCell ⟨q, 4, none⟩ v4).setCell ⟨q, 5, none⟩ v5
theorem set6_below {n : Nat} {w0 w : World} (h : Below n w0 w) {q : Nat} (hq : n ≤ q) (v0 v1 v2 v3 v4 v5 : Value) : Below n w0 (set6 w q v0 v1 v2 v3 v4 v5) := (((((h.setCell (p := ⟨q, 0, none⟩) hq v0).setCell (p := ⟨q, 1, none⟩) hq v1).setCell (p := ⟨q, 2, none⟩) hq v2).setCell (p := ⟨q, 3, none⟩) hq v3).setCell (p := ⟨q, 4, none⟩) hq v4).setCell (p := ⟨q, 5, none⟩) hq v5
theorem set6_other (w : World) (q : Nat) (v0 v1 v2 v3 v4 v5 : Value) (k : Nat) (h : k ≠ q) : (set6 w q v0 v1 v2 v3 v4 v5).heap[k]? = w.heap[k]? := by
  unfold set6
  rw [Below.heap_setCell _ _ _ _ h, Below.heap_setCell _ _ _ _ h, Below.heap_setCell _ _ _ _ h, Below.heap_setCell _ _ _ _ h, Below.heap_setCell _ _ _ _ h, Below.heap_setCell _ _ _ _ h]
end Go.Proofs.YtpppdfjdngmaoaaGreatDoor.S5
namespace Go.Proofs.YtpppdfjdngmaoaaGreatDoor.S5
open Go.RowKit
theorem attrs_any (va vb : Value) (aa bb : AttrL) (ha : aa.length ≤ 1000000) (hb : bb.length ≤ 1000000) (w : World) (hA : IsA w va aa) (hB : IsA w vb bb) :
    Calls Tryz.prog 56 #[va, vb] w fun e w' => e = .returned (.bool (aa == bb)) ∧ Below w.heap.size w w' := by
  by_cases hl : aa.length = bb.length
  · by_cases h0 : aa = []
    · subst h0
      have hbb : bb = [] := List.eq_nil_of_length_eq_zero hl.symm
      subst hbb
      obtain ⟨a1, c1, rfl⟩ := isA_form hA
      obtain ⟨a2, c2, rfl⟩ := isA_form hB
      simp only [List.length_nil]
      clear hA hB
      go_enter Tryz.func56, Tryz.ntmps56
      go_wp2
      go_loop [5] (fun ti => ti = .int .i64 0) (fun _ => 0)
      case atStart => rfl
      case round =>
        subst hrel
        go_wp2
        go_ret
        exact ⟨rfl, Below.refl _ _⟩
    · have hpos : 0 < aa.length := by
        cases aa with
        | nil => exact absurd rfl h0
        | cons x y => simp
      rcases hA with ⟨_, rfl⟩ | ⟨b1, o1, cap1, rfl, hcap1, hcs1⟩
      · exact absurd rfl h0
      rcases hB with ⟨_, rfl⟩ | ⟨b2, o2, cap2, rfl, hcap2, hcs2⟩
      · exact absurd (List.eq_nil_of_length_eq_zero hl) h0
      have HC1 := hide hcs1
      have HC2 := hide hcs2
      clear hcs1 hcs2
      generalize hR : (aa == bb) = R
      have HR := hide hR
      clear hR
      have hleq : ((aa.length : Int) == (bb.length : Int)) = true := beq_iff_eq.2 (by omega)
      go_enter Tryz.func56, Tryz.ntmps56
      go_wp2
      go_loopw [5] (fun ti wr => ∃ k : Nat, k ≤ aa.length ∧ ti = .int .i64 (k : Int) ∧ Below w.heap.size w wr ∧ Hid (aa.take k = bb.take k)) (fun ti _ => aa.length - (intOf ti).toNat)
      case atStart => exact ⟨0, by omega, rfl, Below.refl _ _, hide rfl⟩
      case round =>
        obtain ⟨k, hk, rfl, bw, HT⟩ := hrel
        have HBW := hide bw
        by_cases hlt : k < aa.length
        · have hlt2 : (k : Int) < aa.length := by omega
          have hlb : k < bb.length := by omega
          have hlb2 : (k : Int) < bb.length := by omega
          obtain ⟨x1, y1⟩ := HC1.out k hlt
          obtain ⟨x2, y2⟩ := HC2.out k hlb
          have r1 := bw.cell (cell_lt x1)
          have r2 := bw.cell (cell_lt y1)
          have r3 := bw.cell (cell_lt x2)
          have r4 := bw.cell (cell_lt y2)
          rw [x1] at r1
          rw [y1] at r2
          rw [x2] at r3
          rw [y2] at r4
          clear x1 y1 x2 y2 bw
          by_cases h1 : aa[k].1 = bb[k].1
          · have g1 : (⟨aa[k].1.toArray⟩ : ByteArray).toList = (⟨bb[k].1.toArray⟩ : ByteArray).toList := by rw [h1]
            by_cases h2 : aa[k].2 = bb[k].2
            · have g2 : (⟨aa[k].2.toArray⟩ : ByteArray).toList = (⟨bb[k].2.toArray⟩ : ByteArray).toList := by rw [h2]
              have HT2 : Hid (aa.take (k + 1) = bb.take (k + 1)) := hide (by
                rw [List.take_succ_eq_append_getElem hlt, List.take_succ_eq_append_getElem hlb, HT.out]
                have : aa[k] = bb[k] := Prod.ext h1 h2
                rw [this])
              clear h1 h2 HT
              generalize (⟨aa[k].1.toArray⟩ : ByteArray) = s1 at *
              generalize (⟨aa[k].2.toArray⟩ : ByteArray) = s2 at *
              generalize (⟨bb[k].1.toArray⟩ : ByteArray) = s3 at *
              generalize (⟨bb[k].2.toArray⟩ : ByteArray) = s4 at *
              go_wp2_with fail
              go_region
              all_goals go_wp2
              all_goals go_roundw
              case rel => exact ⟨k + 1, by omega, by go_num, by first | exact HBW.out.drew | exact HBW.out | exact HBW.out.drew.drew, HT2⟩
              case measure => simp [intOf]; omega
            · have g2 : ¬ (⟨aa[k].2.toArray⟩ : ByteArray).toList = (⟨bb[k].2.toArray⟩ : ByteArray).toList := fun h => h2 (by rw [Lib.toList_data, Lib.toList_data, str_data, str_data] at h; exact h)
              have hx : ¬ aa[k] = bb[k] := fun h => h2 (by rw [h])
              have HF : Hid (R = false) := hide (by
                rw [← HR.out]
                refine beq_eq_false_iff_ne.2 (fun h => hx ?_)
                subst h
                rfl)
              clear h1 h2 hx
              generalize (⟨aa[k].1.toArray⟩ : ByteArray) = s1 at *
              generalize (⟨aa[k].2.toArray⟩ : ByteArray) = s2 at *
              generalize (⟨bb[k].1.toArray⟩ : ByteArray) = s3 at *
              generalize (⟨bb[k].2.toArray⟩ : ByteArray) = s4 at *
              go_wp2_with fail
              go_region
              all_goals go_wp2
              all_goals go_ret
              all_goals exact ⟨ret_bool HF.out.symm, by first | exact HBW.out.drew | exact HBW.out | exact HBW.out.drew.drew⟩
          · have g1 : ¬ (⟨aa[k].1.toArray⟩ : ByteArray).toList = (⟨bb[k].1.toArray⟩ : ByteArray).toList := fun h => h1 (by rw [Lib.toList_data, Lib.toList_data, str_data, str_data] at h; exact h)
            have hx : ¬ aa[k] = bb[k] := fun h => h1 (by rw [h])
            have HF : Hid (R = false) := hide (by
              rw [← HR.out]
              refine beq_eq_false_iff_ne.2 (fun h => hx ?_)
              subst h
              rfl)
            clear h1 hx
            generalize (⟨aa[k].1.toArray⟩ : ByteArray) = s1 at *
            generalize (⟨aa[k].2.toArray⟩ : ByteArray) = s2 at *
            generalize (⟨bb[k].1.toArray⟩ : ByteArray) = s3 at *
            generalize (⟨bb[k].2.toArray⟩ : ByteArray) = s4 at *
            go_wp2_with fail
            go_region
            all_goals go_wp2
            all_goals go_ret
            all_goals exact ⟨ret_bool HF.out.symm, by first | exact HBW.out.drew | exact HBW.out | exact HBW.out.drew.drew⟩
        · have hlt2 : ¬ (k : Int) < aa.length := by omega
          have HF : Hid (R = true) := hide (by
            rw [← HR.out]
            have h := HT.out
            rw [List.take_of_length_le (by omega), List.take_of_length_le (by omega)] at h
            rw [h]
            simp)
          clear HT
          go_wp2
          go_ret
          exact ⟨ret_bool HF.out.symm, HBW.out⟩
  · have hne : (aa == bb) = false := beq_eq_false_iff_ne.2 (fun h => hl (by rw [h]))
    rw [hne]
    obtain ⟨a1, c1, rfl⟩ := isA_form hA
    obtain ⟨a2, c2, rfl⟩ := isA_form hB
    have hleq : ((aa.length : Int) == (bb.length : Int)) = false := beq_eq_false_iff_ne.2 (by omega)
    clear hA hB hne
    go_enter Tryz.func56, Tryz.ntmps56
    go_wp2
    go_ret
    exact ⟨rfl, Below.refl _ _⟩
end Go.Proofs.YtpppdfjdngmaoaaGreatDoor.S5
namespace Go.Proofs.YtpppdfjdngmaoaaGreatDoor.S5
open Go.RowKit
def OkT : {k : Nat} → NT k → Prop
  | 0, _ => True
  | k + 1, t => t.nd.attrs.length ≤ 1000000 ∧ t.kids.length ≤ 1000000 ∧ ∀ x ∈ t.kids, OkT x
def OkTs {k : Nat} (ks : List (NT k)) : Prop := ∀ x ∈ ks, OkT x
theorem OkTs.get {k : Nat} {ks : List (NT k)} (h : OkTs ks) (j : Nat) (hj : j < ks.length) : OkT ks[j] := h _ (List.getElem_mem hj)
theorem IsK.below {B : Nat → Prop} {w W : World} {k : Nat} {ks : List (NT k)} {kv : Value} (hB : ∀ k, B k → k < w.heap.size) (h : IsK B w ks kv) (hb : Below w.heap.size w W) : IsK B W ks kv := by
  rcases h with h | ⟨b, o, cap, e1, e2, e3, e4⟩
  · exact .inl h
  · refine .inr ⟨b, o, cap, e1, e2, e3, ?_⟩
    rcases e3 with rfl | e3
    · trivial
    · exact IsNs.keep (fun k hk => hb.block k (hB k hk)) (fun _ h => h) b e3 o ks e4
def SameN {k : Nat} (t : NT k) : Prop := ∀ (B : Nat → Prop) (va vb : List Value) (w : World), (∀ k, B k → k < w.heap.size) → IsN B w t va → IsN B w t vb → Calls Tryz.prog 40 #[.agg va.toArray, .agg vb.toArray] w fun e w' => e = .returned (.bool true) ∧ Below w.heap.size w w'
theorem IsN.form {B : Nat → Prop} {w : World} : ∀ {k : Nat} {t : NT k} {vs : List Value}, IsN B w t vs → ∃ (k s : Int) (nm : ByteArray) (a1 : Option Addr) (n1 c1 : Nat) (tx : ByteArray) (a2 : Option Addr) (n2 c2 : Nat), vs = [.int .i64 k, .int .i64 s, .string nm, .slice a1 n1 c1, .string tx, .slice a2 n2 c2]
  | 0, t, _, _ => t.none
  | k + 1, t, vs, h => by
    rw [t.form, isN_iff] at h
    obtain ⟨av, kv, rfl, hA, hK⟩ := h
    obtain ⟨a1, c1, rfl⟩ := isA_form hA.1
    obtain ⟨a3, c3, rfl⟩ := isK_form hK
    exact ⟨_, _, _, _, _, _, _, _, _, _, rfl⟩
end Go.Proofs.YtpppdfjdngmaoaaGreatDoor.S5
namespace Go.Proofs.YtpppdfjdngmaoaaGreatDoor.S5
open Go.RowKit
theorem inT_nat {T : TR} {z : Int} (h : inT T z) : z.toNat < T.length ∧ z = (z.toNat : Int) := by unfold inT at h; omega
theorem makeL_wf {T : TR} (h : WF T) (d : ND) : WF (makeL T d).1 := by
  unfold makeL
  split
  · exact h.push d
  · exact h
theorem addZ_wf {T : TR} (h : WF T) (z : Int) (s : List UInt8) : WF (addZ T z s).1 := by
  unfold addZ
  split
  · split
    · exact h.add _ _
    · exact h
  · exact h
theorem appendZ_wf {T : TR} (h : WF T) (zp zc : Int) : WF (appendZ T zp zc).1 := by
  unfold appendZ
  split
  · rename_i hh
    obtain ⟨h1, h2⟩ := inT_nat hh.1
    obtain ⟨h3, h4⟩ := inT_nat hh.2
    split
    · rename_i hb
      simp only [Bool.and_eq_true, Bool.not_eq_true', beq_eq_false_iff_ne] at hb
      obtain ⟨_, hc, hw⟩ := hb
      exact h.append h1 h3 (by omega) (fun hu => by rw [(within_iff h h1).2 hu] at hw; cases hw)
    · exact h
  · exact h
theorem beforeZ_wf {T : TR} (h : WF T) (zr zc : Int) : WF (beforeZ T zr zc).1 := by
  unfold beforeZ
  split
  · rename_i hh
    obtain ⟨h1, h2⟩ := inT_nat hh.1
    obtain ⟨h3, h4⟩ := inT_nat hh.2
    cases hp : parentN T zr.toNat with
    | none => exact h
    | some p =>
      show WF (if _ then _ else _ : TR × Int).1
      split
      · rename_i hb
        simp only [Bool.and_eq_true, Bool.not_eq_true', beq_eq_false_iff_ne] at hb
        obtain ⟨hc, hw⟩ := hb
        exact h.before (parent_some hp) h3 (by omega) (fun hu => by rw [(within_iff h h1).2 hu] at hw; cases hw)
      · exact h
  · exact h
theorem makeL_len (T : TR) (d : ND) : T.length ≤ (makeL T d).1.length ∧ (makeL T d).1.length ≤ T.length + 1 ∧ (T.length ≤ 2000 → (makeL T d).1.length ≤ 2000) := by
  unfold makeL
  split
  · simp [pushL]
    omega
  · exact ⟨Nat.le_refl _, Nat.le_succ _, fun h => h⟩
theorem addZ_len (T : TR) (z : Int) (s : List UInt8) : (addZ T z s).1.length = T.length := by
  unfold addZ
  split
  · split
    · simp [addL]
    · rfl
  · rfl
theorem appendZ_len (T : TR) (a b : Int) : (appendZ T a b).1.length = T.length := by
  unfold appendZ
  split
  · split
    · exact append_len _ _ _
    · rfl
  · rfl
theorem beforeZ_len (T : TR) (a b : Int) : (beforeZ T a b).1.length = T.length := by
  unfold beforeZ
  split
  · cases parentN T a.toNat with
    | none => rfl
    | some p =>
      show (if _ then _ else _ : TR × Int).1.length = _
      split
      · exact before_len _ _ _ _
      · rfl
  · rfl
theorem PT.tight {A : Nat → Prop} {w : World} {pb : Nat} {T : TR} (h : PT A w pb T) : PT (fun k => A k ∧ k < w.heap.size) w pb T := by
  obtain ⟨g, cap, rs, hR, hP⟩ := h
  exact ⟨g, cap, rs, hR, { hP with inA := fun s k e => ⟨hP.inA s k e, hP.lt s k e⟩ }⟩
def fromN (n0 : Nat) (w : World) : Nat → Prop := fun k => n0 ≤ k ∧ k < w.heap.size
def Own (n0 : Nat) (w : World) (pb : Nat) (T : TR) : Prop := PT (fromN n0 w) w pb T
theorem Own.below {n0 : Nat} {w W : World} {pb : Nat} {T : TR} (h : Own n0 w pb T) (hb : Below w.heap.size w W) : Own n0 W pb T := (PT.below h hb).mono fun k hk => ⟨hk.1, Nat.lt_of_lt_of_le hk.2 hb.size⟩
end Go.Proofs.YtpppdfjdngmaoaaGreatDoor.S5
