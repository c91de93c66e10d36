/- The program's Element, Text, Comment, Copy. -/
import Derived.Test.YtjgklemhlmgheaaPE5
set_option linter.unusedVariables false
set_option linter.unusedSimpArgs false
namespace Go.Proofs.Ytjgklemhlmgheaa
open Go.RowKit

def makeL (T : TR) (d : ND) : TR × Int := if T.length < 2000 then (pushL T d, (T.length : Int)) else (T, -1)
set_option maxHeartbeats 1000000 in
theorem more_full {A : Nat → Prop} {w : World} {pb : Nat} {R : List RN} (hl : 2000 ≤ R.length) (hz : R.length ≤ 1000000) (d : ND) (q0 : Int) (av tv : Value) (hA : IsA w av d.attrs) (hT : OwnB w tv d.text) (h : PA A w pb R) :
    Calls Try.prog 51 #[.pointer (some ⟨pb, 0, none⟩), .agg #[.int .i64 d.kind, .int .i64 q0, .slice none 0 0, .int .i64 d.space, .string ⟨d.name.toArray⟩, av, tv]] w fun e w' => e = .returned (.int .i64 (-1)) ∧ Below w.heap.size w w' := by
  obtain ⟨aa, ac, hav2⟩ := isA_form hA
  obtain ⟨ta, tc, htv2⟩ := hT.form
  have bA := below_alloc w (.cells #[.int .i64 d.kind, .int .i64 q0, .slice none 0 0, .int .i64 d.space, .string ⟨d.name.toArray⟩, av, tv] 66)
  have BA := hide bA
  have HL := hide (fun W (hW : PA A W pb R) => len_p hW)
  have HPA := hide (h.below bA)
  have hli : ¬ (R.length : Int) < 2000 := by omega
  have hli2 : (2000 : Int) ≤ (R.length : Int) := by omega
  have hl0i : ¬ (R.length : Int) = 0 := by omega
  have hl0b : ((R.length : Int) == 0) = false := beq_eq_false_iff_ne.2 hl0i
  clear bA h hA hT
  rw [hav2, htv2] at HPA BA ⊢
  go_enter Try.func51, Try.ntmps51
  go_wp2_with fail
  refine (HL.out _ HPA.out).mono ?_
  rintro e w1 ⟨rfl, b1⟩
  have B1 := hide (BA.out.trans (b1.mono BA.out.size))
  clear b1
  go_wp2
  go_ret
  exact ⟨rfl, B1.out⟩
/-- A node that is made, or not. -/
def Made (A : Nat → Prop) (w : World) (pb : Nat) (T : TR) (d : ND) (e : Ending) (w' : World) : Prop := e = .returned (.int .i64 (makeL T d).2) ∧ PT (andNew A w.heap.size) w' pb (makeL T d).1 ∧ ButA A w w'
theorem made_of {A : Nat → Prop} {w w1 : World} {pb : Nat} {T : TR} (hW : WF T) (h0 : 0 < T.length) (hl : T.length ≤ 2000) (hA : ∀ k, A k → k < w.heap.size) (d : ND) (q0 : Int) (av tv : Value) (b1 : Below w.heap.size w w1) (hAv : IsA w1 av d.attrs) (hTv : OwnB w1 tv d.text)
    (hav : ∀ k, av.ownBlock = some k → w.heap.size ≤ k ∧ k < w1.heap.size) (htv : ∀ k, tv.ownBlock = some k → w.heap.size ≤ k) (hor : av.ownBlock = none ∨ tv.ownBlock = none) (h : PT A w pb T) :
    Calls Try.prog 51 #[.pointer (some ⟨pb, 0, none⟩), .agg #[.int .i64 d.kind, .int .i64 q0, .slice none 0 0, .int .i64 d.space, .string ⟨d.name.toArray⟩, av, tv]] w1 (Made A w pb T d) := by
  have h1 := h.below b1
  have hnA : ∀ k, w.heap.size ≤ k → ¬ A k := fun k hk ha => by have := hA k ha; omega
  by_cases hc : T.length < 2000
  · refine (more_p (R := rawOf T) (by rw [raw_len]; exact h0) (by rw [raw_len]; exact hc) d q0 av tv hAv hTv (fun k e => ⟨hnA k (hav k e).1, (hav k e).2⟩) (fun k e => ⟨hnA k (htv k e), hTv.lt k e⟩) hor h1).mono ?_
    rintro e w2 ⟨rfl, h2, h3⟩
    have hm : makeL T d = (pushL T d, (T.length : Int)) := by unfold makeL; rw [if_pos hc]
    refine ⟨by rw [hm, raw_len], ?_, (ButA.of b1).trans h3 fun j _ h => h⟩
    rw [hm]
    rw [push_raw hW d] at h2
    refine PT.mono h2 ?_
    rintro k (h | h | h | h)
    · exact .inl h
    · exact .inr (hav k h).1
    · exact .inr (htv k h)
    · exact .inr (Nat.le_trans b1.size h)
  · refine (more_full (R := rawOf T) (by rw [raw_len]; omega) (by rw [raw_len]; omega) d q0 av tv hAv hTv h1).mono ?_
    rintro e w2 ⟨rfl, b2⟩
    have hm : makeL T d = (T, -1) := by unfold makeL; rw [if_neg hc]
    refine ⟨by rw [hm], ?_, ButA.of (b1.trans (b2.mono b1.size))⟩
    rw [hm]
    exact (h1.below b2).mono fun k h => .inl h
theorem conv_text (w : World) (s : ByteArray) (hs : s.size ≤ 1000000000) : ∃ a c, (convert 9 64 (.string s)).run Try.prog w = .ok (.slice a s.data.toList.length c) (Lib.bytesWorld w 5 s) ∧ OwnB (Lib.bytesWorld w 5 s) (.slice a s.data.toList.length c) s.data.toList ∧ (∀ k, (Value.slice a s.data.toList.length c).ownBlock = some k → w.heap.size ≤ k) ∧ Below w.heap.size w (Lib.bytesWorld w 5 s) := by
  have hge := grownCap_ge w s.size 0 5
  have hcm := grownCap_le_maxLen w s.size 0 5 (by unfold maxLen; omega)
  have hr := Lib.run_convert_string_bytes w 9 64 5 s Try.underlying9 Try.underlying64 Try.underlying5
  rw [size_list s] at hr hge hcm
  have hcs : (Lib.bytesCells w 5 s).size = grownCap w s.data.toList.length 0 5 := by
    unfold Lib.bytesCells
    rw [size_list s]
    simp at hge ⊢
    omega
  refine ⟨_, _, hr, .inr ⟨w.heap.size, _, _, _, rfl, Lib.bytesWorld_at_new w 5 s, ?_, hge, hcm, hcs, ?_⟩, ?_, ⟨rfl, rfl, rfl, by rw [Lib.bytesWorld_size]; omega, fun k hk => Lib.bytesWorld_at_old w 5 s k hk⟩⟩
  · intro j hj
    show (match (Lib.bytesWorld w 5 s).heap[w.heap.size]? with | some (.cells _ _ (lo, hi)) => decide (lo ≤ j) && decide (j < hi) | _ => false) = false
    rw [Lib.bytesWorld_at_new]
    show (decide ((Lib.bytesCells w 5 s).size ≤ j) && decide (j < (Lib.bytesCells w 5 s).size + 1)) = false
    rw [decide_eq_false (by rw [hcs]; omega)]
    rfl
  · unfold Lib.bytesCells textCells
    rw [Array.toList_append, List.take_append_of_le_length (by simp), List.take_of_length_le (by simp)]
    simp
  · intro k hk
    have : w.heap.size = k := by simpa [Value.ownBlock] using hk
    omega
theorem ownB_nil (w : World) : OwnB w (.slice none 0 0) [] := .inl ⟨rfl, rfl⟩
set_option maxHeartbeats 1000000 in
theorem text_p {A : Nat → Prop} {w : World} {pb : Nat} {T : TR} (hW : WF T) (h0 : 0 < T.length) (hl : T.length ≤ 2000) (hA : ∀ k, A k → k < w.heap.size) (s : ByteArray) (hs : s.size ≤ 1000000000) (h : PT A w pb T) :
    Calls Try.prog 27 #[.pointer (some ⟨pb, 0, none⟩), .string s] w (Made A w pb T { kind := 2, text := s.data.toList }) := by
  obtain ⟨a, c, hr, hO, hn, hb⟩ := conv_text w s hs
  have HM := hide (made_of hW h0 hl hA { kind := 2, text := s.data.toList } 0 (.slice none 0 0) (.slice a s.data.toList.length c) hb (.inl ⟨rfl, rfl⟩) hO (by intro k e; cases e) hn (.inl rfl) h)
  generalize Lib.bytesWorld w 5 s = w1 at *
  clear hO hn hb hW h hA h0
  go_enter Try.func27, Try.ntmps27
  go_wp2_with fail
  refine HM.out.mono ?_
  rintro e w2 ⟨rfl, h2, h3⟩
  have HF := hide (And.intro h2 h3)
  clear h2 h3
  go_wp2
  go_ret
  exact ⟨rfl, HF.out.1, HF.out.2⟩
set_option maxHeartbeats 1000000 in
theorem comment_p {A : Nat → Prop} {w : World} {pb : Nat} {T : TR} (hW : WF T) (h0 : 0 < T.length) (hl : T.length ≤ 2000) (hA : ∀ k, A k → k < w.heap.size) (s : ByteArray) (hs : s.size ≤ 1000000000) (h : PT A w pb T) :
    Calls Try.prog 29 #[.pointer (some ⟨pb, 0, none⟩), .string s] w (Made A w pb T { kind := 3, text := s.data.toList }) := by
  obtain ⟨a, c, hr, hO, hn, hb⟩ := conv_text w s hs
  have HM := hide (made_of hW h0 hl hA { kind := 3, text := s.data.toList } 0 (.slice none 0 0) (.slice a s.data.toList.length c) hb (.inl ⟨rfl, rfl⟩) hO (by intro k e; cases e) hn (.inl rfl) h)
  generalize Lib.bytesWorld w 5 s = w1 at *
  clear hO hn hb hW h hA h0
  go_enter Try.func29, Try.ntmps29
  go_wp2_with fail
  refine HM.out.mono ?_
  rintro e w2 ⟨rfl, h2, h3⟩
  have HF := hide (And.intro h2 h3)
  clear h2 h3
  go_wp2
  go_ret
  exact ⟨rfl, HF.out.1, HF.out.2⟩
theorem own_lt {w : World} {B n : Nat} {e : TypeId} {z : Nat} {v : Value} {xs : List Value} (h : w.ownsRow B e z v n xs) : ∀ k, v.ownBlock = some k → B ≤ k ∧ k < w.heap.size := h.lt
set_option maxHeartbeats 1000000 in
theorem element_p {A : Nat → Prop} {w : World} {pb : Nat} {T : TR} (hW : WF T) (h0 : 0 < T.length) (hl : T.length ≤ 2000) (hA : ∀ k, A k → k < w.heap.size) (sp : Int) (s : ByteArray) (v : Value) (aa : AttrL) (haa : aa.length ≤ 1000000) (hv : IsA w v aa) (h : PT A w pb T) :
    Calls Try.prog 28 #[.pointer (some ⟨pb, 0, none⟩), .int .i64 sp, .string s, v] w (Made A w pb T { kind := 1, space := sp, name := s.data.toList, attrs := aa }) := by
  have HC := hide (copyA_p v aa haa w hv)
  obtain ⟨va, vc, rfl⟩ := isA_form hv
  have HM := hide (fun w1 av b1 hAv hav => made_of (w1 := w1) hW h0 hl hA { kind := 1, space := sp, name := s.data.toList, attrs := aa } 0 av (.slice none 0 0) b1 hAv (ownB_nil w1) hav (by intro k e; cases e) (.inr rfl) h)
  have hss : (⟨s.data.toList.toArray⟩ : ByteArray) = s := by simp
  simp only [hss] at HM
  clear hW h hA h0 hv
  go_enter Try.func28, Try.ntmps28
  go_wp2_with fail
  refine HC.out.mono ?_
  rintro e w1 ⟨⟨v', rfl, ho⟩, b1⟩
  have HMM := hide (HM.out w1 v' b1 (owns_isA ho) (own_lt ho))
  obtain ⟨a2, c2, rfl⟩ := owns_form ho
  clear ho b1 HM HC
  go_wp2_with fail
  refine HMM.out.mono ?_
  rintro e w2 ⟨rfl, h2, h3⟩
  have HF := hide (And.intro h2 h3)
  clear h2 h3
  go_wp2
  go_ret
  exact ⟨rfl, HF.out.1, HF.out.2⟩
def copyL (T : TR) (z : Int) : TR × Int := if inT T z ∧ (nodeAt T z.toNat).kind = 1 then makeL T { kind := 1, space := (nodeAt T z.toNat).space, name := (nodeAt T z.toNat).name, attrs := (nodeAt T z.toNat).attrs } else (T, -1)
set_option maxRecDepth 10000 in
set_option maxHeartbeats 1000000 in
theorem copy_p {A : Nat → Prop} {w : World} {pb : Nat} {T : TR} (hW : WF T) (h0 : 0 < T.length) (hl : T.length ≤ 2000) (hA : ∀ k, A k → k < w.heap.size) (z : Int) (haa : ∀ i, (nodeAt T i).attrs.length ≤ 1000000) (h : PT A w pb T) :
    Calls Try.prog 30 #[.pointer (some ⟨pb, 0, none⟩), .int .i64 z] w fun e w' => e = .returned (.int .i64 (copyL T z).2) ∧ PT (andNew A w.heap.size) w' pb (copyL T z).1 ∧ ButA A w w' := by
  have HH := hide (has_p z h)
  have HPT0 := hide h
  rw [raw_len] at HH
  by_cases hzz : inT T z
  · rw [show decide (0 ≤ z ∧ z < T.length) = true from decide_eq_true hzz] at HH
    obtain ⟨n, rfl⟩ : ∃ n : Nat, z = (n : Int) := ⟨z.toNat, by unfold inT at hzz; omega⟩
    have hn : n < T.length := by unfold inT at hzz; omega
    have hni : (n : Int) < T.length := by omega
    unfold copyL
    rw [Int.toNat_natCast]
    have HPT := hide h
    obtain ⟨g, cap, rs, hR, hP⟩ := h
    have hlr := map_len hR
    rw [raw_len] at hlr
    have hn2 : n < rs.length := by omega
    have hrn := map_get hR n hn2 (by rw [raw_len]; exact hn)
    rw [raw_get] at hrn
    have hnd : rs[n].rn.nd = nodeAt T n := by rw [hrn]; rfl
    have hat := hP.att n hn2
    have htx := hP.txt n hn2
    have hki := hP.kid n hn2
    obtain ⟨ka, kc, ek⟩ := owns_form hki
    obtain ⟨ta, tc, et⟩ := htx.form
    obtain ⟨aa, ac, ea⟩ := isA_form hat
    have hcc : ∀ o, o < 7 → w.cell? ⟨g, n * 7 + o, none⟩ = (rvC rs[n])[o]? := fun o ho => hP.cellAt n hn2 o ho
    have HPV := hide hP
    have HCC := hide hcc
    rw [hnd] at hat
    have HAT := hide hat
    unfold rvC at HCC
    rw [ek, ea, et, hnd] at HCC
    rw [ea, hnd] at HAT
    generalize hkl : rs[n].rn.kids.length = kl at *
    have hHM := fun W (b : Below w.heap.size w W) => element_p (A := A) (w := W) (pb := pb) hW h0 hl (fun k hk => Nat.lt_of_lt_of_le (hA k hk) b.size) (nodeAt T n).space ⟨(nodeAt T n).name.toArray⟩ (.slice aa (nodeAt T n).attrs.length ac) (nodeAt T n).attrs (haa n) (HAT.out.below b) (HPT.out.below b)
    simp only [str_data] at hHM
    have HM := hide hHM
    clear hHM hP hR hrn hat htx hki hcc ek et ea haa hkl hnd HPT hA hW
    generalize (nodeAt T n).kind = kd at *
    generalize rs[n].rn.par = pr at *
    generalize hndd : ({ kind := 1, space := (nodeAt T n).space, name := (nodeAt T n).name, attrs := (nodeAt T n).attrs } : ND) = dd at *
    generalize (nodeAt T n).space = nsp at *
    generalize (nodeAt T n).name = nnm at *
    generalize (nodeAt T n).attrs.length = nal at *
    generalize (nodeAt T n).text.length = ntl at *
    clear hndd HAT
    by_cases hk : kd = 1
    · subst hk
      rw [if_pos ⟨hzz, rfl⟩]
      clear hzz
      go_enter Try.func30, Try.ntmps30
      go_wp2_with fail
      refine HH.out.mono ?_
      rintro e w1 ⟨rfl, b1⟩
      have c0 := (HPV.out.below b1).tree
      rw [hlr] at c0
      have gg : ∀ o v, w.cell? ⟨g, n * 7 + o, none⟩ = some v → w1.cell? ⟨g, n * 7 + o, none⟩ = some v := fun o v hv => by rw [b1.cell (cell_lt hv)]; exact hv
      have d0 : w1.cell? ⟨g, n * 7, none⟩ = some (.int .i64 1) := gg 0 _ (HCC.out 0 (by omega))
      have d1 : w1.cell? ⟨g, n * 7 + 1, none⟩ = some (.int .i64 pr) := gg 1 _ (HCC.out 1 (by omega))
      have d2 : w1.cell? ⟨g, n * 7 + 2, none⟩ = some (.slice ka kl kc) := gg 2 _ (HCC.out 2 (by omega))
      have d3 : w1.cell? ⟨g, n * 7 + 3, none⟩ = some (.int .i64 nsp) := gg 3 _ (HCC.out 3 (by omega))
      have d4 : w1.cell? ⟨g, n * 7 + 4, none⟩ = some (.string ⟨nnm.toArray⟩) := gg 4 _ (HCC.out 4 (by omega))
      have d5 : w1.cell? ⟨g, n * 7 + 5, none⟩ = some (.slice aa nal ac) := gg 5 _ (HCC.out 5 (by omega))
      have d6 : w1.cell? ⟨g, n * 7 + 6, none⟩ = some (.slice ta ntl tc) := gg 6 _ (HCC.out 6 (by omega))
      have B1 := hide b1
      clear b1 gg
      go_wp2_with fail
      have hBW := B1.out.alloc B1.out.size (.cells #[.int .i64 1, .int .i64 pr, .slice ka kl kc, .int .i64 nsp, .string ⟨nnm.toArray⟩, .slice aa nal ac, .slice ta ntl tc] 66)
      refine (HM.out _ hBW).mono ?_
      rintro e w2 ⟨rfl, h2, h3⟩
      have HF : Hid (PT (andNew A w.heap.size) w2 pb (makeL T dd).1 ∧ ButA A w w2) := hide ⟨h2.mono (by
        rintro k (h | h)
        · exact .inl h
        · exact .inr (Nat.le_trans hBW.size h)), (ButA.of hBW).trans h3 fun j _ h => h⟩
      clear h2 h3 hBW d0 d1 d2 d3 d4 d5 d6 c0
      go_wp2
      go_ret
      exact ⟨rfl, HF.out.1, HF.out.2⟩
    · rw [if_neg (fun h => hk h.2)]
      have hkb : (kd != 1) = true := bne_iff_ne.2 hk
      clear hzz
      go_enter Try.func30, Try.ntmps30
      go_wp2_with fail
      refine HH.out.mono ?_
      rintro e w1 ⟨rfl, b1⟩
      have c0 := (HPV.out.below b1).tree
      rw [hlr] at c0
      have d0 : w1.cell? ⟨g, n * 7, none⟩ = some (.int .i64 kd) := by
        have hv : w.cell? ⟨g, n * 7, none⟩ = some (.int .i64 kd) := HCC.out 0 (by omega)
        rw [b1.cell (cell_lt hv)]
        exact hv
      have B1 := hide b1
      clear b1
      go_wp2
      go_ret
      exact ⟨rfl, (HPT0.out.below B1.out).mono fun k h => .inl h, ButA.of B1.out⟩
  · rw [show decide (0 ≤ z ∧ z < T.length) = false from decide_eq_false hzz] at HH
    unfold copyL
    rw [if_neg (fun h => hzz h.1)]
    clear hzz hW
    go_enter Try.func30, Try.ntmps30
    go_wp2_with fail
    refine HH.out.mono ?_
    rintro e w1 ⟨rfl, b1⟩
    have B1 := hide b1
    clear b1
    go_wp2
    go_ret
    exact ⟨rfl, (HPT0.out.below B1.out).mono fun k h => .inl h, ButA.of B1.out⟩
end Go.Proofs.Ytjgklemhlmgheaa
