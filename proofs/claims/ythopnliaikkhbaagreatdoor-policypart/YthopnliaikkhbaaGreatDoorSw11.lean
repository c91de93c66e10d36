/- What take does with a line. -/
import Derived.Test.YthopnliaikkhbaaGreatDoorSu11
import Derived.Deep.RegionHeld2
set_option linter.unusedVariables false
set_option linter.unusedSimpArgs false
set_option maxRecDepth 4000
namespace Go.Proofs.YthopnliaikkhbaaGreatDoor
open Go.RowKit

/-- Nothing below B is written but the box. -/
structure Keep (B pb : Nat) (w w' : World) : Prop where
  os : w'.os = w.os
  tape : w'.tape = w.tape
  output : w'.output = w.output
  size : w.heap.size ≤ w'.heap.size
  block : ∀ k, k < B → k ≠ pb → w'.heap[k]? = w.heap[k]?
theorem Keep.refl (B pb : Nat) (w : World) : Keep B pb w w := ⟨rfl, rfl, rfl, Nat.le_refl _, fun _ _ _ => rfl⟩
theorem Keep.trans {B pb : Nat} {w w1 w2 : World} (h : Keep B pb w w1) (k : Keep B pb w1 w2) : Keep B pb w w2 := ⟨k.os.trans h.os, k.tape.trans h.tape, k.output.trans h.output, Nat.le_trans h.size k.size, fun j h1 h2 => (k.block j h1 h2).trans (h.block j h1 h2)⟩
theorem Keep.of {B pb : Nat} {w w1 : World} (h : Below w.heap.size w w1) (hB : B ≤ w.heap.size) : Keep B pb w w1 := ⟨h.os, h.tape, h.output, h.size, fun j h1 _ => h.block j (by omega)⟩
theorem Keep.grown {B pb : Nat} {w w1 : World} {row : Option Nat} (h : w.grownBy w1 row) (hB : B ≤ w.heap.size) (hr : ∀ k, row = some k → B ≤ k) : Keep B pb w w1 := ⟨h.os, h.tape, h.output, h.size, fun j h1 _ => h.block j (by omega) (fun e => by have := hr j e.symm; omega)⟩
theorem Keep.set (B pb : Nat) (w : World) (i : Nat) (v : Value) : Keep B pb w (w.setCell ⟨pb, i, none⟩ v) := ⟨rfl, rfl, rfl, by simp [World.setCell], fun j _ h2 => Below.heap_setCell _ _ _ _ h2⟩
/-- What is left behind a line. -/
def Took (B pb : Nat) (w : World) (R : Option PO) (e : Ending) (w' : World) : Prop := (match R with
  | none => e = .panicked textPanic ∧ w'.heap[pb]? = w.heap[pb]?
  | some p' => e = .returned (.tuple #[]) ∧ ∃ q', q'.po = p' ∧ OwnP B pb w' q') ∧ Keep B pb w w'
theorem took_none {B pb : Nat} {w w' : World} (h : Below w.heap.size w w') (hB : B ≤ w.heap.size) (hp : pb < w.heap.size) : Took B pb w none (.panicked textPanic) w' := ⟨⟨rfl, h.block pb hp⟩, Keep.of h hB⟩
theorem took_some {B pb : Nat} {w w' : World} {p' : PO} {q' : PV} (e : q'.po = p') (h : OwnP B pb w' q') (k : Keep B pb w w') : Took B pb w (some p') (.returned (.tuple #[])) w' := ⟨⟨rfl, q', e, h⟩, k⟩
theorem size_bits (q : PV) (h : sizeP q.po ≤ 1000000) : q.li.length ≤ 1000000 ∧ q.sc.length ≤ 1000000 ∧ q.dr.length ≤ 1000000 ∧ q.rs.length ≤ 1000000 := by
  unfold sizeP PV.po at h
  simp only [] at h
  have := attrs_len (q.rs.map RV.ru)
  rw [List.length_map] at this
  omega
theorem head_is (s : ByteArray) (h : 0 < s.size) : s.data.toList.head? = some s[0] := by
  have e := drop_cons s 0 h
  rw [List.drop_zero] at e
  rw [e]; rfl
/-- append(v, r), v a list of rules of one's own, r just written out. -/
theorem append_rule (W : World) (B n : Nat) (v : Value) (xs : List Value) (nm : ByteArray) (a : Option Addr) (m c : Nat) (N : Nat) (hN : W.heap[N]? = some (.cells #[.string nm, .slice a m c] 53 (0, 0))) (hown : W.ownsRow B 53 2 v n xs) (hl : n ≤ 2000000) (hB : B ≤ W.heap.size) :
    ∃ v' w', (Builtin.append_ #[23, 23] 23 #[v, .slice (some ⟨N, 0, none⟩) 1 1]).run Tryz.prog W = .ok v' w' ∧ w'.ownsRow B 53 2 v' (n + 1) (xs ++ [.string nm, .slice a m c]) ∧ W.grownBy w' v.ownBlock ∧ (v'.ownBlock = v.ownBlock ∨ v'.ownBlock = some W.heap.size) := by
  obtain ⟨v', w', hr, ho, hg, _, hat⟩ := run_append_own_at (P := Tryz.prog) W B 23 23 53 Tryz.t53 (.agg #[.string ⟨#[]⟩, .slice none 0 0]) 2 40 Tryz.underlying23 (by kernel_rfl) (by kernel_rfl) (by kernel_rfl) (by kernel_rfl) (by kernel_rfl) (by omega)
      v n xs hown ⟨N, 0, none⟩ 1 1 [.string nm, .slice a m c] rfl
      (by
        intro j u hu
        have hj : j < 2 := (List.getElem?_eq_some_iff.1 hu).1
        rw [addr_add]
        match j, hj with
        | 0, _ => simp only [World.cell?, hN]; simpa using hu
        | 1, _ => simp only [World.cell?, hN]; simpa using hu) (by intro u hu; rcases List.mem_cons.1 hu with rfl | hu; rfl; obtain rfl := List.mem_singleton.1 hu; rfl) (by unfold maxLen; omega) (by omega) hB
  exact ⟨v', w', hr, ho, hg, hat⟩
set_option maxHeartbeats 1000000 in
theorem take_empty (B pb : Nat) (s : ByteArray) (hs : s.size ≤ 100000) (q : PV) (w : World) (hq : OwnP B pb w q) (hB : B ≤ w.heap.size) (hW : wordsL s.data.toList = []) :
    Calls Tryz.prog 30 #[.pointer (some ⟨pb, 0, none⟩), .string s] w fun e w' => Took B pb w (some q.po) e w' := by
  have HWD := hide (wordsOf_any s (by omega) w)
  rw [hW] at HWD
  have HQ := hide hq
  clear hq hW
  go_enter Tryz.func30, Tryz.ntmps30
  go_wp2_with fail
  refine HWD.out.mono ?_
  rintro e w1 ⟨g, n, rfl, ho, b1⟩
  obtain ⟨_, rfl⟩ := owns_rowT ho
  have HK := hide (took_some (B := B) (pb := pb) (w := w) rfl (HQ.out.below b1) (Keep.of b1 hB))
  clear ho b1
  go_wp2
  refine bodyPost_ret (results_none rfl _ _ _) rfl ?_
  exact HK.out
set_option maxHeartbeats 1000000 in
theorem take_note (B pb : Nat) (s : ByteArray) (hs : s.size ≤ 100000) (q : PV) (w : World) (hq : OwnP B pb w q) (hB : B ≤ w.heap.size) (h0 : 0 < s.size) (h35 : (s[0]'h0).toNat = 35) :
    Calls Tryz.prog 30 #[.pointer (some ⟨pb, 0, none⟩), .string s] w fun e w' => Took B pb w (some q.po) e w' := by
  have HWD := hide (wordsOf_any s (by omega) w)
  have HQ := hide hq
  have h0i : (0 : Int) < s.size := by omega
  have h35i : (((s[0]'h0).toNat : Int) == 35) = true := by rw [h35]; rfl
  clear hq h35
  generalize wordsL s.data.toList = W at *
  go_enter Tryz.func30, Tryz.ntmps30
  go_wp2_with fail
  refine HWD.out.mono ?_
  rintro e w1 ⟨g, n, rfl, ho, b1⟩
  have HK := hide (took_some (B := B) (pb := pb) (w := w) rfl (HQ.out.below b1) (Keep.of b1 hB))
  clear ho b1
  by_cases hn : n = 0
  · have hni : ((n : Int) == 0) = true := by rw [hn]; rfl
    clear hn
    go_wp2
    refine bodyPost_ret (results_none rfl _ _ _) rfl ?_
    exact HK.out
  · have hni : ((n : Int) == 0) = false := by rw [beq_eq_false_iff_ne]; omega
    clear hn
    go_wp2
    refine bodyPost_ret (results_none rfl _ _ _) rfl ?_
    exact HK.out
set_option maxHeartbeats 2000000 in
theorem take_other (B pb : Nat) (s : ByteArray) (hs : s.size ≤ 100000) (q : PV) (w : World) (hq : OwnP B pb w q) (hB : B ≤ w.heap.size) (hz : sizeP q.po ≤ 1000000) (h0 : 0 < s.size) (h35 : (s[0]'h0).toNat ≠ 35) (x : Bs) (r : List Bs) (hW : wordsL s.data.toList = x :: r) (n_deep : x ≠ deepN) (n_elem : x ≠ elemN) (n_link : x ≠ linkN) (n_scheme : x ≠ schemeN) (n_drop : x ≠ dropN) :
    Calls Tryz.prog 30 #[.pointer (some ⟨pb, 0, none⟩), .string s] w fun e w' => Took B pb w (none) e w' := by
  have hfew := words_few s.data.toList
  rw [← size_list, hW, List.length_cons] at hfew
  have hrl : r.length ≤ 100000 := by omega
  have hsh : ∀ y ∈ r, y.length ≤ 1000000 := fun y hy => by
    have := words_short s.data.toList y (by rw [hW]; simp [hy])
    rw [← size_list] at this
    omega
  have HWD := hide (wordsOf_any s (by omega) w)
  rw [hW] at HWD
  have HQ := hide hq
  obtain ⟨z1, z2, z3, z4⟩ := size_bits q hz
  have h0i : (0 : Int) < s.size := by omega
  have h35i : (((s[0]'h0).toNat : Int) == 35) = false := ne_lit _ 35 (by omega)
  have hpb := hq.pb_lt
  clear hq h35 hW hz
  have e_deep : ((⟨x.toArray⟩ : ByteArray).toList == [100, 101, 101, 112]) = false := by rw [str_eq, str_data, beq_eq_false_iff_ne]; exact n_deep
  have e_elem : ((⟨x.toArray⟩ : ByteArray).toList == [101, 108, 101, 109, 101, 110, 116]) = false := by rw [str_eq, str_data, beq_eq_false_iff_ne]; exact n_elem
  have e_link : ((⟨x.toArray⟩ : ByteArray).toList == [108, 105, 110, 107]) = false := by rw [str_eq, str_data, beq_eq_false_iff_ne]; exact n_link
  have e_scheme : ((⟨x.toArray⟩ : ByteArray).toList == [115, 99, 104, 101, 109, 101]) = false := by rw [str_eq, str_data, beq_eq_false_iff_ne]; exact n_scheme
  have e_drop : ((⟨x.toArray⟩ : ByteArray).toList == [100, 114, 111, 112]) = false := by rw [str_eq, str_data, beq_eq_false_iff_ne]; exact n_drop
  go_enter Tryz.func30, Tryz.ntmps30
  go_wp2_with fail
  refine HWD.out.mono ?_
  rintro e w1 ⟨g, n, rfl, ho, b1⟩
  obtain ⟨hR, hn⟩ := owns_rowT ho
  rw [List.length_cons] at hn
  have hn1 : 1 ≤ n := by omega
  have hn1i : (1 : Int) ≤ n := by omega
  have hn0 : 0 < n := by omega
  have hn0i : (0 : Int) < n := by omega
  have hni : ((n : Int) == 0) = false := by rw [beq_eq_false_iff_ne]; omega
  obtain ⟨o', c', hcut, hoo, hcc⟩ := cut_rest g 0 n n hn1 (Nat.le_refl _)
  have hcx : w1.cell? ⟨g, 0, none⟩ = some (.string ⟨x.toArray⟩) := hR 0 x rfl
  have hR2 := rowT_rest hR (by rw [hn]; rfl) hoo
  have hq1 := HQ.out.below b1
  have hsz := b1.size
  have K1 := Keep.of (pb := pb) b1 hB
  obtain ⟨k0, k1, k2, k3, k4⟩ := hq1.cells
  have kf := hq1.free
  have HK := hide (took_none (pb := pb) b1 hB hpb)
  generalize (⟨x.toArray⟩ : ByteArray) = X at *
  clear ho b1 hR hR2 hq1 K1 k0 k1 k2 k3 k4 kf hn hoo hcc hfew hrl hsh
  go_wp2
  exact ⟨rfl, HK.out⟩
set_option maxHeartbeats 2000000 in
theorem take_link (B pb : Nat) (s : ByteArray) (hs : s.size ≤ 100000) (q : PV) (w : World) (hq : OwnP B pb w q) (hB : B ≤ w.heap.size) (hz : sizeP q.po ≤ 1000000) (h0 : 0 < s.size) (h35 : (s[0]'h0).toNat ≠ 35) (x : Bs) (r : List Bs) (hW : wordsL s.data.toList = x :: r) (n_deep : x ≠ deepN) (n_elem : x ≠ elemN) (hx : x = linkN) :
    Calls Tryz.prog 30 #[.pointer (some ⟨pb, 0, none⟩), .string s] w fun e w' => Took B pb w (some { q.po with li := q.li ++ r }) e w' := by
  have hfew := words_few s.data.toList
  rw [← size_list, hW, List.length_cons] at hfew
  have hrl : r.length ≤ 100000 := by omega
  have hsh : ∀ y ∈ r, y.length ≤ 1000000 := fun y hy => by
    have := words_short s.data.toList y (by rw [hW]; simp [hy])
    rw [← size_list] at this
    omega
  have HWD := hide (wordsOf_any s (by omega) w)
  rw [hW] at HWD
  have HQ := hide hq
  obtain ⟨z1, z2, z3, z4⟩ := size_bits q hz
  have h0i : (0 : Int) < s.size := by omega
  have h35i : (((s[0]'h0).toNat : Int) == 35) = false := ne_lit _ 35 (by omega)
  have hpb := hq.pb_lt
  clear hq h35 hW hz
  have e_deep : ((⟨x.toArray⟩ : ByteArray).toList == [100, 101, 101, 112]) = false := by rw [str_eq, str_data, beq_eq_false_iff_ne]; exact n_deep
  have e_elem : ((⟨x.toArray⟩ : ByteArray).toList == [101, 108, 101, 109, 101, 110, 116]) = false := by rw [str_eq, str_data, beq_eq_false_iff_ne]; exact n_elem
  have e_link : ((⟨x.toArray⟩ : ByteArray).toList == [108, 105, 110, 107]) = true := by rw [str_eq, str_data, hx]; rfl
  go_enter Tryz.func30, Tryz.ntmps30
  go_wp2_with fail
  refine HWD.out.mono ?_
  rintro e w1 ⟨g, n, rfl, ho, b1⟩
  obtain ⟨hR, hn⟩ := owns_rowT ho
  rw [List.length_cons] at hn
  have hn1 : 1 ≤ n := by omega
  have hn1i : (1 : Int) ≤ n := by omega
  have hn0 : 0 < n := by omega
  have hn0i : (0 : Int) < n := by omega
  have hni : ((n : Int) == 0) = false := by rw [beq_eq_false_iff_ne]; omega
  obtain ⟨o', c', hcut, hoo, hcc⟩ := cut_rest g 0 n n hn1 (Nat.le_refl _)
  have hcx : w1.cell? ⟨g, 0, none⟩ = some (.string ⟨x.toArray⟩) := hR 0 x rfl
  have hR2 := rowT_rest hR (by rw [hn]; rfl) hoo
  have hq1 := HQ.out.below b1
  have hsz := b1.size
  have K1 := Keep.of (pb := pb) b1 hB
  obtain ⟨k0, k1, k2, k3, k4⟩ := hq1.cells
  have kf := hq1.free
  obtain ⟨v', w2, hrun, ho2, hg2, hat⟩ := append_texts w1 B q.li.length q.lv (textsV q.li) g o' c' r hq1.l hR2 (by omega) (by omega) (by omega)
  rw [show r.length = n - 1 by omega] at hrun
  rw [← textsV_app, ← List.length_append] at ho2
  have hq2 := hq1.setL v' (q.li ++ r) hg2 ho2 hat
  have K2 : Keep B pb w1 w2 := Keep.grown hg2 (by omega) (fun k hk => (hq1.lt 1 k hk).1)
  have HK := hide (took_some (B := B) (pb := pb) (w := w) (p' := { q.po with li := q.li ++ r }) rfl hq2 ((K1.trans K2).trans (Keep.set B pb w2 1 v')))
  have hpb2 : w2.heap[pb]? = w1.heap[pb]? := hg2.block pb hq1.pb_lt (fun e => hq1.ap.box 1 e.symm)
  have m1 : w2.cell? ⟨pb, 1, none⟩ = some q.lv := (World.cell?_of_block (a := ⟨pb, 1, none⟩) hpb2).trans k1
  have m2 : w2.frozen? ⟨pb, 1, none⟩ = false := (World.frozen?_of_block (a := ⟨pb, 1, none⟩) hpb2).trans (kf 1)
  obtain ⟨va, vc, hv⟩ := owns_formG hq1.l
  obtain ⟨va2, vc2, rfl⟩ := owns_formG ho2
  rw [hv] at k1 hrun m1
  generalize q.li.length = ql at *
  generalize (q.li ++ r).length = ql2 at *
  have HRUN := hide hrun
  generalize (⟨x.toArray⟩ : ByteArray) = X at *
  clear ho b1 hR hR2 K1 K2 hrun ho2 hg2 hat hq2 hq1 HQ hpb2 kf hn hoo hcc hfew hrl hsh
  go_wp2_with (at_builtin; refine wpList_append_run rfl _ _ 24 rfl _ _ _ _ rfl rfl HRUN.out ?_)
  first | go_end0 | refine bodyPost_ret (results_none rfl _ _ _) rfl ?_
  exact HK.out
set_option maxHeartbeats 2000000 in
theorem take_scheme (B pb : Nat) (s : ByteArray) (hs : s.size ≤ 100000) (q : PV) (w : World) (hq : OwnP B pb w q) (hB : B ≤ w.heap.size) (hz : sizeP q.po ≤ 1000000) (h0 : 0 < s.size) (h35 : (s[0]'h0).toNat ≠ 35) (x : Bs) (r : List Bs) (hW : wordsL s.data.toList = x :: r) (n_deep : x ≠ deepN) (n_elem : x ≠ elemN) (n_link : x ≠ linkN) (hx : x = schemeN) :
    Calls Tryz.prog 30 #[.pointer (some ⟨pb, 0, none⟩), .string s] w fun e w' => Took B pb w (some { q.po with sc := q.sc ++ r }) e w' := by
  have hfew := words_few s.data.toList
  rw [← size_list, hW, List.length_cons] at hfew
  have hrl : r.length ≤ 100000 := by omega
  have hsh : ∀ y ∈ r, y.length ≤ 1000000 := fun y hy => by
    have := words_short s.data.toList y (by rw [hW]; simp [hy])
    rw [← size_list] at this
    omega
  have HWD := hide (wordsOf_any s (by omega) w)
  rw [hW] at HWD
  have HQ := hide hq
  obtain ⟨z1, z2, z3, z4⟩ := size_bits q hz
  have h0i : (0 : Int) < s.size := by omega
  have h35i : (((s[0]'h0).toNat : Int) == 35) = false := ne_lit _ 35 (by omega)
  have hpb := hq.pb_lt
  clear hq h35 hW hz
  have e_deep : ((⟨x.toArray⟩ : ByteArray).toList == [100, 101, 101, 112]) = false := by rw [str_eq, str_data, beq_eq_false_iff_ne]; exact n_deep
  have e_elem : ((⟨x.toArray⟩ : ByteArray).toList == [101, 108, 101, 109, 101, 110, 116]) = false := by rw [str_eq, str_data, beq_eq_false_iff_ne]; exact n_elem
  have e_link : ((⟨x.toArray⟩ : ByteArray).toList == [108, 105, 110, 107]) = false := by rw [str_eq, str_data, beq_eq_false_iff_ne]; exact n_link
  have e_scheme : ((⟨x.toArray⟩ : ByteArray).toList == [115, 99, 104, 101, 109, 101]) = true := by rw [str_eq, str_data, hx]; rfl
  go_enter Tryz.func30, Tryz.ntmps30
  go_wp2_with fail
  refine HWD.out.mono ?_
  rintro e w1 ⟨g, n, rfl, ho, b1⟩
  obtain ⟨hR, hn⟩ := owns_rowT ho
  rw [List.length_cons] at hn
  have hn1 : 1 ≤ n := by omega
  have hn1i : (1 : Int) ≤ n := by omega
  have hn0 : 0 < n := by omega
  have hn0i : (0 : Int) < n := by omega
  have hni : ((n : Int) == 0) = false := by rw [beq_eq_false_iff_ne]; omega
  obtain ⟨o', c', hcut, hoo, hcc⟩ := cut_rest g 0 n n hn1 (Nat.le_refl _)
  have hcx : w1.cell? ⟨g, 0, none⟩ = some (.string ⟨x.toArray⟩) := hR 0 x rfl
  have hR2 := rowT_rest hR (by rw [hn]; rfl) hoo
  have hq1 := HQ.out.below b1
  have hsz := b1.size
  have K1 := Keep.of (pb := pb) b1 hB
  obtain ⟨k0, k1, k2, k3, k4⟩ := hq1.cells
  have kf := hq1.free
  obtain ⟨v', w2, hrun, ho2, hg2, hat⟩ := append_texts w1 B q.sc.length q.sv (textsV q.sc) g o' c' r hq1.s hR2 (by omega) (by omega) (by omega)
  rw [show r.length = n - 1 by omega] at hrun
  rw [← textsV_app, ← List.length_append] at ho2
  have hq2 := hq1.setS v' (q.sc ++ r) hg2 ho2 hat
  have K2 : Keep B pb w1 w2 := Keep.grown hg2 (by omega) (fun k hk => (hq1.lt 2 k hk).1)
  have HK := hide (took_some (B := B) (pb := pb) (w := w) (p' := { q.po with sc := q.sc ++ r }) rfl hq2 ((K1.trans K2).trans (Keep.set B pb w2 2 v')))
  have hpb2 : w2.heap[pb]? = w1.heap[pb]? := hg2.block pb hq1.pb_lt (fun e => hq1.ap.box 2 e.symm)
  have m1 : w2.cell? ⟨pb, 2, none⟩ = some q.sv := (World.cell?_of_block (a := ⟨pb, 2, none⟩) hpb2).trans k2
  have m2 : w2.frozen? ⟨pb, 2, none⟩ = false := (World.frozen?_of_block (a := ⟨pb, 2, none⟩) hpb2).trans (kf 2)
  obtain ⟨va, vc, hv⟩ := owns_formG hq1.s
  obtain ⟨va2, vc2, rfl⟩ := owns_formG ho2
  rw [hv] at k2 hrun m1
  generalize q.sc.length = ql at *
  generalize (q.sc ++ r).length = ql2 at *
  have HRUN := hide hrun
  generalize (⟨x.toArray⟩ : ByteArray) = X at *
  clear ho b1 hR hR2 K1 K2 hrun ho2 hg2 hat hq2 hq1 HQ hpb2 kf hn hoo hcc hfew hrl hsh
  go_wp2_with (at_builtin; refine wpList_append_run rfl _ _ 24 rfl _ _ _ _ rfl rfl HRUN.out ?_)
  first | go_end0 | refine bodyPost_ret (results_none rfl _ _ _) rfl ?_
  exact HK.out
set_option maxHeartbeats 2000000 in
theorem take_drop (B pb : Nat) (s : ByteArray) (hs : s.size ≤ 100000) (q : PV) (w : World) (hq : OwnP B pb w q) (hB : B ≤ w.heap.size) (hz : sizeP q.po ≤ 1000000) (h0 : 0 < s.size) (h35 : (s[0]'h0).toNat ≠ 35) (x : Bs) (r : List Bs) (hW : wordsL s.data.toList = x :: r) (n_deep : x ≠ deepN) (n_elem : x ≠ elemN) (n_link : x ≠ linkN) (n_scheme : x ≠ schemeN) (hx : x = dropN) :
    Calls Tryz.prog 30 #[.pointer (some ⟨pb, 0, none⟩), .string s] w fun e w' => Took B pb w (some { q.po with dr := q.dr ++ r }) e w' := by
  have hfew := words_few s.data.toList
  rw [← size_list, hW, List.length_cons] at hfew
  have hrl : r.length ≤ 100000 := by omega
  have hsh : ∀ y ∈ r, y.length ≤ 1000000 := fun y hy => by
    have := words_short s.data.toList y (by rw [hW]; simp [hy])
    rw [← size_list] at this
    omega
  have HWD := hide (wordsOf_any s (by omega) w)
  rw [hW] at HWD
  have HQ := hide hq
  obtain ⟨z1, z2, z3, z4⟩ := size_bits q hz
  have h0i : (0 : Int) < s.size := by omega
  have h35i : (((s[0]'h0).toNat : Int) == 35) = false := ne_lit _ 35 (by omega)
  have hpb := hq.pb_lt
  clear hq h35 hW hz
  have e_deep : ((⟨x.toArray⟩ : ByteArray).toList == [100, 101, 101, 112]) = false := by rw [str_eq, str_data, beq_eq_false_iff_ne]; exact n_deep
  have e_elem : ((⟨x.toArray⟩ : ByteArray).toList == [101, 108, 101, 109, 101, 110, 116]) = false := by rw [str_eq, str_data, beq_eq_false_iff_ne]; exact n_elem
  have e_link : ((⟨x.toArray⟩ : ByteArray).toList == [108, 105, 110, 107]) = false := by rw [str_eq, str_data, beq_eq_false_iff_ne]; exact n_link
  have e_scheme : ((⟨x.toArray⟩ : ByteArray).toList == [115, 99, 104, 101, 109, 101]) = false := by rw [str_eq, str_data, beq_eq_false_iff_ne]; exact n_scheme
  have e_drop : ((⟨x.toArray⟩ : ByteArray).toList == [100, 114, 111, 112]) = true := by rw [str_eq, str_data, hx]; rfl
  go_enter Tryz.func30, Tryz.ntmps30
  go_wp2_with fail
  refine HWD.out.mono ?_
  rintro e w1 ⟨g, n, rfl, ho, b1⟩
  obtain ⟨hR, hn⟩ := owns_rowT ho
  rw [List.length_cons] at hn
  have hn1 : 1 ≤ n := by omega
  have hn1i : (1 : Int) ≤ n := by omega
  have hn0 : 0 < n := by omega
  have hn0i : (0 : Int) < n := by omega
  have hni : ((n : Int) == 0) = false := by rw [beq_eq_false_iff_ne]; omega
  obtain ⟨o', c', hcut, hoo, hcc⟩ := cut_rest g 0 n n hn1 (Nat.le_refl _)
  have hcx : w1.cell? ⟨g, 0, none⟩ = some (.string ⟨x.toArray⟩) := hR 0 x rfl
  have hR2 := rowT_rest hR (by rw [hn]; rfl) hoo
  have hq1 := HQ.out.below b1
  have hsz := b1.size
  have K1 := Keep.of (pb := pb) b1 hB
  obtain ⟨k0, k1, k2, k3, k4⟩ := hq1.cells
  have kf := hq1.free
  obtain ⟨v', w2, hrun, ho2, hg2, hat⟩ := append_texts w1 B q.dr.length q.dv (textsV q.dr) g o' c' r hq1.d hR2 (by omega) (by omega) (by omega)
  rw [show r.length = n - 1 by omega] at hrun
  rw [← textsV_app, ← List.length_append] at ho2
  have hq2 := hq1.setD v' (q.dr ++ r) hg2 ho2 hat
  have K2 : Keep B pb w1 w2 := Keep.grown hg2 (by omega) (fun k hk => (hq1.lt 3 k hk).1)
  have HK := hide (took_some (B := B) (pb := pb) (w := w) (p' := { q.po with dr := q.dr ++ r }) rfl hq2 ((K1.trans K2).trans (Keep.set B pb w2 3 v')))
  have hpb2 : w2.heap[pb]? = w1.heap[pb]? := hg2.block pb hq1.pb_lt (fun e => hq1.ap.box 3 e.symm)
  have m1 : w2.cell? ⟨pb, 3, none⟩ = some q.dv := (World.cell?_of_block (a := ⟨pb, 3, none⟩) hpb2).trans k3
  have m2 : w2.frozen? ⟨pb, 3, none⟩ = false := (World.frozen?_of_block (a := ⟨pb, 3, none⟩) hpb2).trans (kf 3)
  obtain ⟨va, vc, hv⟩ := owns_formG hq1.d
  obtain ⟨va2, vc2, rfl⟩ := owns_formG ho2
  rw [hv] at k3 hrun m1
  generalize q.dr.length = ql at *
  generalize (q.dr ++ r).length = ql2 at *
  have HRUN := hide hrun
  generalize (⟨x.toArray⟩ : ByteArray) = X at *
  clear ho b1 hR hR2 K1 K2 hrun ho2 hg2 hat hq2 hq1 HQ hpb2 kf hn hoo hcc hfew hrl hsh
  go_wp2_with (at_builtin; refine wpList_append_run rfl _ _ 24 rfl _ _ _ _ rfl rfl HRUN.out ?_)
  first | go_end0 | refine bodyPost_ret (results_none rfl _ _ _) rfl ?_
  exact HK.out
set_option maxHeartbeats 2000000 in
theorem take_deep1 (B pb : Nat) (s : ByteArray) (hs : s.size ≤ 100000) (q : PV) (w : World) (hq : OwnP B pb w q) (hB : B ≤ w.heap.size) (hz : sizeP q.po ≤ 1000000) (h0 : 0 < s.size) (h35 : (s[0]'h0).toNat ≠ 35) (x : Bs) (r : List Bs) (hW : wordsL s.data.toList = x :: r) (hx : x = deepN) (hr : r.length ≠ 1) :
    Calls Tryz.prog 30 #[.pointer (some ⟨pb, 0, none⟩), .string s] w fun e w' => Took B pb w (none) e w' := by
  have hfew := words_few s.data.toList
  rw [← size_list, hW, List.length_cons] at hfew
  have hrl : r.length ≤ 100000 := by omega
  have hsh : ∀ y ∈ r, y.length ≤ 1000000 := fun y hy => by
    have := words_short s.data.toList y (by rw [hW]; simp [hy])
    rw [← size_list] at this
    omega
  have HWD := hide (wordsOf_any s (by omega) w)
  rw [hW] at HWD
  have HQ := hide hq
  obtain ⟨z1, z2, z3, z4⟩ := size_bits q hz
  have h0i : (0 : Int) < s.size := by omega
  have h35i : (((s[0]'h0).toNat : Int) == 35) = false := ne_lit _ 35 (by omega)
  have hpb := hq.pb_lt
  clear hq h35 hW hz
  have e_deep : ((⟨x.toArray⟩ : ByteArray).toList == [100, 101, 101, 112]) = true := by rw [str_eq, str_data, hx]; rfl
  go_enter Tryz.func30, Tryz.ntmps30
  go_wp2_with fail
  refine HWD.out.mono ?_
  rintro e w1 ⟨g, n, rfl, ho, b1⟩
  obtain ⟨hR, hn⟩ := owns_rowT ho
  rw [List.length_cons] at hn
  have hn1 : 1 ≤ n := by omega
  have hn1i : (1 : Int) ≤ n := by omega
  have hn0 : 0 < n := by omega
  have hn0i : (0 : Int) < n := by omega
  have hni : ((n : Int) == 0) = false := by rw [beq_eq_false_iff_ne]; omega
  obtain ⟨o', c', hcut, hoo, hcc⟩ := cut_rest g 0 n n hn1 (Nat.le_refl _)
  have hcx : w1.cell? ⟨g, 0, none⟩ = some (.string ⟨x.toArray⟩) := hR 0 x rfl
  have hR2 := rowT_rest hR (by rw [hn]; rfl) hoo
  have hq1 := HQ.out.below b1
  have hsz := b1.size
  have K1 := Keep.of (pb := pb) b1 hB
  obtain ⟨k0, k1, k2, k3, k4⟩ := hq1.cells
  have kf := hq1.free
  have HD := hide (depth_bad1 (some ⟨g, o', none⟩) (n - 1) c' (by omega) w1)
  have HK := hide (took_none (pb := pb) b1 hB hpb)
  generalize (⟨x.toArray⟩ : ByteArray) = X at *
  clear ho b1 hR hR2 hq1 K1 k0 k1 k2 k3 k4 kf hn hoo hcc hfew hrl hsh
  go_wp2_with fail
  refine HD.out.mono ?_
  rintro e w2 ⟨rfl, rfl⟩
  go_wp2
  exact ⟨rfl, HK.out⟩
set_option maxHeartbeats 2000000 in
theorem take_deepN (B pb : Nat) (s : ByteArray) (hs : s.size ≤ 100000) (q : PV) (w : World) (hq : OwnP B pb w q) (hB : B ≤ w.heap.size) (hz : sizeP q.po ≤ 1000000) (h0 : 0 < s.size) (h35 : (s[0]'h0).toNat ≠ 35) (x : Bs) (r : List Bs) (hW : wordsL s.data.toList = x :: r) (hx : x = deepN) (d : Bs) (hr : r = [d]) (hd : deepL d = none) :
    Calls Tryz.prog 30 #[.pointer (some ⟨pb, 0, none⟩), .string s] w fun e w' => Took B pb w none e w' := by
  have hfew := words_few s.data.toList
  rw [← size_list, hW, List.length_cons] at hfew
  have hrl : r.length ≤ 100000 := by omega
  have hsh : ∀ y ∈ r, y.length ≤ 1000000 := fun y hy => by
    have := words_short s.data.toList y (by rw [hW]; simp [hy])
    rw [← size_list] at this
    omega
  have HWD := hide (wordsOf_any s (by omega) w)
  rw [hW] at HWD
  have HQ := hide hq
  obtain ⟨z1, z2, z3, z4⟩ := size_bits q hz
  have h0i : (0 : Int) < s.size := by omega
  have h35i : (((s[0]'h0).toNat : Int) == 35) = false := ne_lit _ 35 (by omega)
  have hpb := hq.pb_lt
  clear hq h35 hW hz
  have e_deep : ((⟨x.toArray⟩ : ByteArray).toList == [100, 101, 101, 112]) = true := by rw [str_eq, str_data, hx]; rfl
  go_enter Tryz.func30, Tryz.ntmps30
  go_wp2_with fail
  refine HWD.out.mono ?_
  rintro e w1 ⟨g, n, rfl, ho, b1⟩
  obtain ⟨hR, hn⟩ := owns_rowT ho
  rw [List.length_cons] at hn
  have hn1 : 1 ≤ n := by omega
  have hn1i : (1 : Int) ≤ n := by omega
  have hn0 : 0 < n := by omega
  have hn0i : (0 : Int) < n := by omega
  have hni : ((n : Int) == 0) = false := by rw [beq_eq_false_iff_ne]; omega
  obtain ⟨o', c', hcut, hoo, hcc⟩ := cut_rest g 0 n n hn1 (Nat.le_refl _)
  have hcx : w1.cell? ⟨g, 0, none⟩ = some (.string ⟨x.toArray⟩) := hR 0 x rfl
  have hR2 := rowT_rest hR (by rw [hn]; rfl) hoo
  have hq1 := HQ.out.below b1
  have hsz := b1.size
  have K1 := Keep.of (pb := pb) b1 hB
  obtain ⟨k0, k1, k2, k3, k4⟩ := hq1.cells
  have kf := hq1.free
  subst hr
  have hdl : d.length ≤ 1000000 := hsh d (by simp)
  have hn2 : n - 1 = 1 := by rw [hn]; rfl
  have HD := hide (depth_one g o' c' d hdl w1 (hR2 0 d rfl))
  rw [hn2] at hcut hcc
  generalize (⟨x.toArray⟩ : ByteArray) = X at *
  rw [hd] at HD
  have HD' : Hid (Calls Tryz.prog 55 #[.slice (some ⟨g, o', none⟩) 1 c'] w1 fun e w' => e = .panicked textPanic ∧ Below w1.heap.size w1 w') := HD
  have HKK := hide (fun w2 (b : Below w1.heap.size w1 w2) => took_none (pb := pb) (b1.trans (b.mono b1.size)) hB hpb)
  clear ho b1 hR hR2 hq1 K1 k0 k1 k2 k3 k4 kf HD hd hn2 hn hoo hcc hfew hrl hsh
  go_wp2_with fail
  refine HD'.out.mono ?_
  rintro e w2 ⟨rfl, b2⟩
  have HK := hide (HKK.out w2 b2)
  clear b2
  go_wp2
  exact ⟨rfl, HK.out⟩
set_option maxHeartbeats 2000000 in
theorem take_deepS (B pb : Nat) (s : ByteArray) (hs : s.size ≤ 100000) (q : PV) (w : World) (hq : OwnP B pb w q) (hB : B ≤ w.heap.size) (hz : sizeP q.po ≤ 1000000) (h0 : 0 < s.size) (h35 : (s[0]'h0).toNat ≠ 35) (x : Bs) (r : List Bs) (hW : wordsL s.data.toList = x :: r) (hx : x = deepN) (d : Bs) (hr : r = [d]) (k : Nat) (hd : deepL d = some k) :
    Calls Tryz.prog 30 #[.pointer (some ⟨pb, 0, none⟩), .string s] w fun e w' => Took B pb w (some { q.po with de := (k : Int) }) e w' := by
  have hfew := words_few s.data.toList
  rw [← size_list, hW, List.length_cons] at hfew
  have hrl : r.length ≤ 100000 := by omega
  have hsh : ∀ y ∈ r, y.length ≤ 1000000 := fun y hy => by
    have := words_short s.data.toList y (by rw [hW]; simp [hy])
    rw [← size_list] at this
    omega
  have HWD := hide (wordsOf_any s (by omega) w)
  rw [hW] at HWD
  have HQ := hide hq
  obtain ⟨z1, z2, z3, z4⟩ := size_bits q hz
  have h0i : (0 : Int) < s.size := by omega
  have h35i : (((s[0]'h0).toNat : Int) == 35) = false := ne_lit _ 35 (by omega)
  have hpb := hq.pb_lt
  clear hq h35 hW hz
  have e_deep : ((⟨x.toArray⟩ : ByteArray).toList == [100, 101, 101, 112]) = true := by rw [str_eq, str_data, hx]; rfl
  go_enter Tryz.func30, Tryz.ntmps30
  go_wp2_with fail
  refine HWD.out.mono ?_
  rintro e w1 ⟨g, n, rfl, ho, b1⟩
  obtain ⟨hR, hn⟩ := owns_rowT ho
  rw [List.length_cons] at hn
  have hn1 : 1 ≤ n := by omega
  have hn1i : (1 : Int) ≤ n := by omega
  have hn0 : 0 < n := by omega
  have hn0i : (0 : Int) < n := by omega
  have hni : ((n : Int) == 0) = false := by rw [beq_eq_false_iff_ne]; omega
  obtain ⟨o', c', hcut, hoo, hcc⟩ := cut_rest g 0 n n hn1 (Nat.le_refl _)
  have hcx : w1.cell? ⟨g, 0, none⟩ = some (.string ⟨x.toArray⟩) := hR 0 x rfl
  have hR2 := rowT_rest hR (by rw [hn]; rfl) hoo
  have hq1 := HQ.out.below b1
  have hsz := b1.size
  have K1 := Keep.of (pb := pb) b1 hB
  obtain ⟨k0, k1, k2, k3, k4⟩ := hq1.cells
  have kf := hq1.free
  subst hr
  have hdl : d.length ≤ 1000000 := hsh d (by simp)
  have hn2 : n - 1 = 1 := by rw [hn]; rfl
  have HD := hide (depth_one g o' c' d hdl w1 (hR2 0 d rfl))
  rw [hn2] at hcut hcc
  generalize (⟨x.toArray⟩ : ByteArray) = X at *
  rw [hd] at HD
  have HD' : Hid (Calls Tryz.prog 55 #[.slice (some ⟨g, o', none⟩) 1 c'] w1 fun e w' => e = .returned (.int .i64 (k : Int)) ∧ Below w1.heap.size w1 w') := HD
  have HKK := hide (fun w2 (b : Below w1.heap.size w1 w2) => (⟨took_some (B := B) (pb := pb) (w := w) (p' := { q.po with de := (k : Int) }) rfl ((hq1.below b).setDe (k : Int)) ((K1.trans (Keep.of (pb := pb) b (by omega))).trans (Keep.set B pb w2 4 (.int .i64 (k : Int)))), (hq1.below b).cells.2.2.2.2, (hq1.below b).free 4⟩ : Took B pb w (some { q.po with de := (k : Int) }) (.returned (.tuple #[])) (w2.setCell ⟨pb, 4, none⟩ (.int .i64 (k : Int))) ∧ w2.cell? ⟨pb, 4, none⟩ = some (.int .i64 q.de) ∧ w2.frozen? ⟨pb, 4, none⟩ = false))
  clear ho b1 hR hR2 hq1 K1 k0 k1 k2 k3 k4 kf HD hd hn2 hn hoo hcc hfew hrl hsh
  go_wp2_with fail
  refine HD'.out.mono ?_
  rintro e w2 ⟨rfl, b2⟩
  obtain ⟨hk, m1, m2⟩ := HKK.out w2 b2
  have HK := hide hk
  clear b2 hk
  go_wp2
  first | go_end0 | refine bodyPost_ret (results_none rfl _ _ _) rfl ?_
  exact HK.out
end Go.Proofs.YthopnliaikkhbaaGreatDoor
