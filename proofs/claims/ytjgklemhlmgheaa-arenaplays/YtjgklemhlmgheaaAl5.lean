/- The live question. -/
import Derived.Test.YtjgklemhlmgheaaWf5
set_option linter.unusedVariables false
set_option linter.unusedSimpArgs false
namespace Go.Proofs.Ytjgklemhlmgheaa
open Go.RowKit

/-- An arena of n0 and what lies before it. -/
structure Liv (n0 : Nat) (w0 w : World) (pb : Nat) (T : TR) : Prop where
  own : Own n0 w pb T
  bel : Below n0 w0 w
  hn : n0 ≤ w.heap.size
theorem Liv.step {n0 : Nat} {w0 w w' : World} {pb : Nat} {T r : TR} (h : Liv n0 w0 w pb T) (h1 : PT (andNew (fromN n0 w) w.heap.size) w' pb r) (h2 : ButA (fromN n0 w) w w') : Liv n0 w0 w' pb r := by
  obtain ⟨a1, a2⟩ := own_acted h.hn h1 h2
  exact ⟨a1, h.bel.trans a2, Nat.le_trans h.hn a2.size⟩
theorem Liv.on {n0 : Nat} {w0 w w' : World} {pb : Nat} {T : TR} (h : Liv n0 w0 w pb T) (hb : Below w.heap.size w w') : Liv n0 w0 w' pb T := ⟨h.own.below hb, h.bel.trans (hb.mono h.hn), Nat.le_trans h.hn hb.size⟩
theorem liv_element {n0 : Nat} {w0 w : World} {pb : Nat} {T : TR} (hW : WF T) (h0 : 0 < T.length) (hl : T.length ≤ 2000) (sp : Int) (s : ByteArray) (h : Liv n0 w0 w pb T) :
    Calls Try.prog 28 #[.pointer (some ⟨pb, 0, none⟩), .int .i64 sp, .string s, .slice none 0 0] w fun e w' => e = .returned (.int .i64 (makeL T { kind := 1, space := sp, name := s.data.toList }).2) ∧ Liv n0 w0 w' pb (makeL T { kind := 1, space := sp, name := s.data.toList }).1 :=
  (element_p hW h0 hl own_lt' sp s (.slice none 0 0) [] (by simp) (.inl ⟨rfl, rfl⟩) h.own).mono fun e w' ⟨a, b, c⟩ => ⟨a, h.step b c⟩
theorem liv_text {n0 : Nat} {w0 w : World} {pb : Nat} {T : TR} (hW : WF T) (h0 : 0 < T.length) (hl : T.length ≤ 2000) (s : ByteArray) (hs : s.size ≤ 1000000000) (h : Liv n0 w0 w pb T) :
    Calls Try.prog 27 #[.pointer (some ⟨pb, 0, none⟩), .string s] w fun e w' => e = .returned (.int .i64 (makeL T { kind := 2, text := s.data.toList }).2) ∧ Liv n0 w0 w' pb (makeL T { kind := 2, text := s.data.toList }).1 :=
  (text_p hW h0 hl own_lt' s hs h.own).mono fun e w' ⟨a, b, c⟩ => ⟨a, h.step b c⟩
theorem liv_comment {n0 : Nat} {w0 w : World} {pb : Nat} {T : TR} (hW : WF T) (h0 : 0 < T.length) (hl : T.length ≤ 2000) (s : ByteArray) (hs : s.size ≤ 1000000000) (h : Liv n0 w0 w pb T) :
    Calls Try.prog 29 #[.pointer (some ⟨pb, 0, none⟩), .string s] w fun e w' => e = .returned (.int .i64 (makeL T { kind := 3, text := s.data.toList }).2) ∧ Liv n0 w0 w' pb (makeL T { kind := 3, text := s.data.toList }).1 :=
  (comment_p hW h0 hl own_lt' s hs h.own).mono fun e w' ⟨a, b, c⟩ => ⟨a, h.step b c⟩
theorem liv_copy {n0 : Nat} {w0 w : World} {pb : Nat} {T : TR} (hW : WF T) (h0 : 0 < T.length) (hl : T.length ≤ 2000) (z : Int) (haa : ∀ i, (nodeAt T i).attrs.length ≤ 1000000) (h : Liv n0 w0 w pb T) :
    Calls Try.prog 30 #[.pointer (some ⟨pb, 0, none⟩), .int .i64 z] w fun e w' => e = .returned (.int .i64 (copyL T z).2) ∧ Liv n0 w0 w' pb (copyL T z).1 :=
  (copy_p hW h0 hl own_lt' z haa h.own).mono fun e w' ⟨a, b, c⟩ => ⟨a, h.step b c⟩
theorem liv_append {n0 : Nat} {w0 w : World} {pb : Nat} {T : TR} (hW : WF T) (hz : T.length ≤ 1000000) (zp zc : Int) (h : Liv n0 w0 w pb T) :
    Calls Try.prog 26 #[.pointer (some ⟨pb, 0, none⟩), .int .i64 zp, .int .i64 zc] w fun e w' => e = .returned (.int .i64 (appendZ T zp zc).2) ∧ Liv n0 w0 w' pb (appendZ T zp zc).1 :=
  (append_p hW hz zp zc h.own).mono fun e w' ⟨a, b, c⟩ => ⟨a, h.step b c⟩
theorem liv_before {n0 : Nat} {w0 w : World} {pb : Nat} {T : TR} (hW : WF T) (hz : T.length ≤ 1000000) (zp zc : Int) (h : Liv n0 w0 w pb T) :
    Calls Try.prog 25 #[.pointer (some ⟨pb, 0, none⟩), .int .i64 zp, .int .i64 zc] w fun e w' => e = .returned (.int .i64 (beforeZ T zp zc).2) ∧ Liv n0 w0 w' pb (beforeZ T zp zc).1 :=
  (before_p hW hz zp zc h.own).mono fun e w' ⟨a, b, c⟩ => ⟨a, h.step b c⟩
theorem liv_remove {n0 : Nat} {w0 w : World} {pb : Nat} {T : TR} (hW : WF T) (hz : T.length ≤ 1000000) (z : Int) (h : Liv n0 w0 w pb T) :
    Calls Try.prog 24 #[.pointer (some ⟨pb, 0, none⟩), .int .i64 z] w fun e w' => e = .returned (.int .i64 (removeZ T z).2) ∧ Liv n0 w0 w' pb (removeZ T z).1 :=
  (remove_p hW hz z h.own).mono fun e w' ⟨a, b, c⟩ => ⟨a, h.step b c⟩
theorem liv_new (w : World) : Calls Try.prog 9 #[] w fun e w' => ∃ pb, e = .returned (.pointer (some ⟨pb, 0, none⟩)) ∧ Liv w.heap.size w w' pb newL :=
  (pnew_p w).mono fun e w' ⟨⟨pb, a, b⟩, c⟩ => ⟨pb, a, b, c, c.size⟩
/-! The five arenas of the question. -/
def al1 : TR := (makeL newL { kind := 1, space := 0, name := [97] }).1
def al2 : TR := (makeL al1 { kind := 1, space := 0, name := [98] }).1
def al3 : TR := (appendZ al2 0 1).1
def al4 : TR := (appendZ al3 1 2).1
def al5 : TR := (beforeZ al4 1 2).1
theorem al1_wf : WF al1 := makeL_wf WF.new _
theorem al2_wf : WF al2 := makeL_wf al1_wf _
theorem al3_wf : WF al3 := appendZ_wf al2_wf _ _
theorem al4_wf : WF al4 := appendZ_wf al3_wf _ _
theorem al5_wf : WF al5 := beforeZ_wf al4_wf _ _
theorem al_vals : (makeL newL { kind := 1, space := 0, name := [97] }).2 = 1 ∧ (makeL al1 { kind := 1, space := 0, name := [98] }).2 = 2 ∧ (appendZ al2 0 1).2 = 0 ∧ (appendZ al3 1 2).2 = 0 ∧ (beforeZ al4 1 2).2 = 0 ∧ kidsZ al5 0 = [2, 1] ∧ appendZ al5 1 0 = (al5, 1) := by
  refine ⟨rfl, rfl, ?_, ?_, ?_, ?_, ?_⟩ <;> kernel_rfl
theorem al_len : al1.length = 2 ∧ al2.length = 3 ∧ al3.length = 3 ∧ al4.length = 3 ∧ al5.length = 3 := by
  refine ⟨?_, ?_, ?_, ?_, ?_⟩ <;> kernel_rfl
set_option maxRecDepth 10000 in
set_option maxHeartbeats 4000000 in
theorem alive_p (w : World) : Calls Try.prog 22 #[] w fun e w' => e = .returned (.bool true) ∧ Below w.heap.size w w' := by
  obtain ⟨v1, v2, v3, v4, v5, v6, v7⟩ := al_vals
  obtain ⟨l1, l2, l3, l4, l5⟩ := al_len
  have HN := hide (liv_new w)
  have H1 := hide (fun W pb (h : Liv w.heap.size w W pb newL) => liv_element WF.new (by decide) (by decide) 0 ⟨#[97]⟩ h)
  have H2 := hide (fun W pb (h : Liv w.heap.size w W pb al1) => liv_element al1_wf (by omega) (by omega) 0 ⟨#[98]⟩ h)
  have H3 := hide (fun W pb (h : Liv w.heap.size w W pb al2) => liv_append al2_wf (by omega) 0 1 h)
  have H4 := hide (fun W pb (h : Liv w.heap.size w W pb al3) => liv_append al3_wf (by omega) 1 2 h)
  have H5 := hide (fun W pb (h : Liv w.heap.size w W pb al4) => liv_before al4_wf (by omega) 1 2 h)
  have H6 := hide (fun W pb (h : Liv w.heap.size w W pb al5) => kids_p al5_wf (by omega) 0 h.own)
  have H7 := hide (fun W pb (h : Liv w.heap.size w W pb al5) => liv_append al5_wf (by omega) 1 0 h)
  have HV := hide (And.intro v1 (And.intro v2 (And.intro v3 (And.intro v4 (And.intro v5 (And.intro v6 v7))))))
  clear v1 v2 v3 v4 v5 v6 v7 l1 l2 l3 l4 l5
  go_enter Try.func22, Try.ntmps22
  go_wp2_with fail
  refine HN.out.mono ?_
  rintro e x0 ⟨pb, rfl, hL⟩
  have L0 := hide hL
  clear hL
  go_wp2_with fail
  refine (H1.out _ _ L0.out).mono ?_
  rintro e x1 ⟨rfl, hL⟩
  rw [show (makeL newL { kind := 1, space := 0, name := (⟨#[97]⟩ : ByteArray).data.toList }).2 = 1 from HV.out.1]
  have L1 : Hid (Liv w.heap.size w x1 pb al1) := hide hL
  clear hL
  go_wp2_with fail
  refine (H2.out _ _ L1.out).mono ?_
  rintro e x2 ⟨rfl, hL⟩
  rw [show (makeL al1 { kind := 1, space := 0, name := (⟨#[98]⟩ : ByteArray).data.toList }).2 = 2 from HV.out.2.1]
  have L2 : Hid (Liv w.heap.size w x2 pb al2) := hide hL
  clear hL
  go_wp2_with fail
  refine (H3.out _ _ L2.out).mono ?_
  rintro e x3 ⟨rfl, hL⟩
  rw [HV.out.2.2.1]
  have L3 : Hid (Liv w.heap.size w x3 pb al3) := hide hL
  clear hL
  go_wp2_with fail
  refine (H4.out _ _ L3.out).mono ?_
  rintro e x4 ⟨rfl, hL⟩
  rw [HV.out.2.2.2.1]
  have L4 : Hid (Liv w.heap.size w x4 pb al4) := hide hL
  clear hL
  go_wp2_with fail
  refine (H5.out _ _ L4.out).mono ?_
  rintro e x5 ⟨rfl, hL⟩
  rw [HV.out.2.2.2.2.1]
  have L5 : Hid (Liv w.heap.size w x5 pb al5) := hide hL
  clear hL
  go_wp2_with fail
  refine (H6.out _ _ L5.out).mono ?_
  rintro e x6 ⟨⟨v', rfl, ho⟩, b6⟩
  rw [HV.out.2.2.2.2.2.1] at ho
  obtain ⟨a6, c6, rfl⟩ := owns_form ho
  obtain ⟨kb, ko, rfl, hkc⟩ := (owns_isI ho).at (by decide)
  have k0 : x6.cell? ⟨kb, ko, none⟩ = some (.int .i64 2) := hkc 0 (by decide)
  have k1 : x6.cell? ⟨kb, ko + 1, none⟩ = some (.int .i64 1) := hkc 1 (by decide)
  have L6 := hide (L5.out.on b6)
  clear ho hkc b6
  go_wp2_with fail
  refine (H7.out _ _ L6.out).mono ?_
  rintro e x7 ⟨rfl, hL⟩
  rw [HV.out.2.2.2.2.2.2]
  rw [HV.out.2.2.2.2.2.2] at hL
  have L7 := hide hL
  clear hL k0 k1
  go_wp2
  go_ret
  exact ⟨rfl, L7.out.bel⟩
end Go.Proofs.Ytjgklemhlmgheaa
