import Derived.Test.YthopnliaikkhbaaGreatDoorBunN
import Derived.Test.YthopnliaikkhbaaGreatDoorIw10
import Derived.Deep.SlicePairs
import Derived.WalkKit
import Derived.ProofKit
import Derived.OpenShut
import Derived.ShutString
import Derived.ChangeOld
import Derived.Below
import Derived.Lay
import Derived.LaidMore
import Derived.Deep.DeepHandedRow
import Derived.Lib.SmallJoins
import Derived.Test.YthopnliaikkhbaaGreatDoorIp11
import Derived.Test.YthopnliaikkhbaaGreatDoorRd11
/- What the program's and the document's Allowed answer. -/
set_option linter.unusedVariables false
set_option linter.unusedSimpArgs false
set_option maxRecDepth 4000
namespace Go.Proofs.YthopnliaikkhbaaGreatDoor
open Go.RowKit

theorem check_deepA {p : PO} (h : checkP p = 0) : 1 ≤ p.de ∧ p.de ≤ 60 := by
  have hok : okP p = true := by
    unfold checkP at h
    split at h
    · omega
    · split at h
      · assumption
      · omega
  unfold okP at hok
  simp only [Bool.and_eq_true, decide_eq_true_eq] at hok
  exact ⟨hok.1.1.1.1.1.1, hok.1.1.1.1.1.2⟩
theorem kids_size {k : Nat} {ts : List (S5.NT (k + 1))} {N : Nat} (h : sizeTs ts ≤ N) (i : Nat) (hi : i < ts.length) : sizeTs ts[i].kids ≤ N := by
  have h2 := sizeTs_mem ts i hi
  rw [sizeT_mk] at h2
  omega
theorem allow_any (p : PV) (hp : CapP p) (hde : p.de ≤ 60) : ∀ {k : Nat} (deep : Int) (hd : 0 ≤ deep ∧ deep ≤ 100) (ts : List (S5.NT k)), ts.length ≤ 9223372036854775807 → S5.OkTs ts → sizeTs ts ≤ 1000000 → AllowOk 22 p deep ts
  | 0, deep, hd, ts, hl, ho, hs => fun Bk va w hB hI hK => by
    obtain ⟨rfl, hK1⟩ := S5.isK_up hK
    exact allow_step p hp hde deep hd ([] : List (S5.NT 1)) (Nat.zero_le _) (fun x hx => absurd hx List.not_mem_nil) (Nat.zero_le _) (fun _ i h => absurd h (Nat.not_lt_zero _)) Bk va w hB hI hK1
  | k + 1, deep, hd, ts, hl, ho, hs => allow_step p hp hde deep hd ts hl ho hs fun h i hi => allow_any p hp hde (deep + 1) ⟨by omega, by omega⟩ _ (ho _ (List.getElem_mem hi)).2.1 (ho _ (List.getElem_mem hi)).2.2 (kids_size hs i hi)
theorem rallow_any (p : PV) (hp : CapP p) (hck : checkP p.po = 0) (hde : p.de ≤ 60) : ∀ {k : Nat} (deep : Int) (hd : 0 ≤ deep ∧ deep ≤ 100) (ts : List (S5.NT k)), ts.length ≤ 9223372036854775807 → S5.OkTs ts → sizeTs ts ≤ 1000000 → AllowOk 23 p deep ts
  | 0, deep, hd, ts, hl, ho, hs => fun Bk va w hB hI hK => by
    obtain ⟨rfl, hK1⟩ := S5.isK_up hK
    exact rallow_step p hp hck hde deep hd ([] : List (S5.NT 1)) (Nat.zero_le _) (fun x hx => absurd hx List.not_mem_nil) (Nat.zero_le _) (fun _ i h => absurd h (Nat.not_lt_zero _)) Bk va w hB hI hK1
  | k + 1, deep, hd, ts, hl, ho, hs => rallow_step p hp hck hde deep hd ts hl ho hs fun h i hi => rallow_any p hp hck hde (deep + 1) ⟨by omega, by omega⟩ _ (ho _ (List.getElem_mem hi)).2.1 (ho _ (List.getElem_mem hi)).2.2 (kids_size hs i hi)
def allowP (p : PO) {k : Nat} (ts : List (S5.NT k)) : Bool := decide (checkP p = 0) && allowTs p 1 ts
set_option maxHeartbeats 2000000 in
theorem allowed_any (p : PV) (hp : CapP p) {k : Nat} (ts : List (S5.NT k)) (hl : ts.length ≤ 9223372036854775807) (hok : S5.OkTs ts) (hsz : sizeTs ts ≤ 1000000) (Bk : Nat → Prop) (va : Value) (w : World) (hB : ∀ j, Bk j → j < w.heap.size) (hI : IsPo w p) (hK : S5.IsK Bk w ts va) :
    Calls Tryz.prog 12 #[poA p, va] w fun e w' => e = .returned (.bool (allowP p.po ts)) ∧ Below w.heap.size w w' := by
  have H1 := hide (fun x (b : Below w.heap.size w x) => check_any p hp x (hI.below b))
  have H2 : Hid (checkP p.po = 0 → ∀ x, Below w.heap.size w x → Calls Tryz.prog 22 #[poA p, va, .int .i64 1] x fun e w' => e = .returned (.bool (allowTs p.po 1 ts)) ∧ Below x.heap.size x w') := hide (fun hc x b => allow_any p hp (check_deepA hc).2 1 ⟨by omega, by omega⟩ ts hl hok hsz Bk va x (fun j hj => Nat.lt_of_lt_of_le (hB j hj) b.size) (hI.below b) (isK_keepB hB hK b))
  unfold allowP
  generalize checkP p.po = c at *
  generalize allowTs p.po 1 ts = V at *
  obtain ⟨va1, vc1, rfl⟩ := S5.isK_form hK
  clear hK hB hok hsz
  generalize ts.length = tn at *
  have HB := hide (fun x (b : Below (poW w p).heap.size (poW w p) x) => po_box w p b)
  obtain ⟨rs, li, sc, dr, de, rv, lv, sv, dv⟩ := p
  simp only [] at *
  have gr : IsR w rv rs := hI.r
  have gl : IsW w lv li := hI.l
  have gs : IsW w sv sc := hI.s
  have gd : IsW w dv dr := hI.d
  obtain ⟨ra, rc, rfl⟩ := gr.form
  obtain ⟨la, lc, rfl⟩ := gl.form
  obtain ⟨sa, sc', rfl⟩ := gs.form
  obtain ⟨da, dc, rfl⟩ := gd.form
  clear gl gs gd
  have B0 := hide (Below.refl (poW w ⟨rs, li, sc, dr, de, .slice ra rs.length rc, .slice la li.length lc, .slice sa sc.length sc', .slice da dr.length dc⟩).heap.size (poW w ⟨rs, li, sc, dr, de, .slice ra rs.length rc, .slice la li.length lc, .slice sa sc.length sc', .slice da dr.length dc⟩))
  obtain ⟨c0, c1, c2, c3, c4, bb⟩ := HB.out _ B0.out
  have BB := hide bb
  clear hI bb gr hp
  by_cases hc : c = 0
  · subst hc
    rw [decide_eq_true rfl, Bool.true_and]
    have H3 := hide (H2.out rfl)
    go_enter Tryz.func12, Tryz.ntmps12
    go_wp2_with fail
    refine (H1.out _ BB.out).mono ?_
    rintro e w1 ⟨rfl, b1⟩
    have BC := hide (BB.out.trans (b1.mono BB.out.size))
    have B1 := hide (B0.out.trans (b1.mono B0.out.size))
    clear b1 c0 c1 c2 c3 c4
    obtain ⟨c0, c1, c2, c3, c4, bb⟩ := HB.out _ B1.out
    clear bb
    go_wp2_with fail
    refine (H3.out _ BC.out).mono ?_
    rintro e w2 ⟨rfl, b2⟩
    have BD := hide (BC.out.trans (b2.mono BC.out.size))
    clear b2
    cases V
    all_goals
      go_wp2
      go_ret
      exact ⟨rfl, BD.out⟩
  · have hci : (c == 0) = false := by rw [beq_eq_false_iff_ne]; exact hc
    rw [decide_eq_false hc, Bool.false_and]
    clear hc
    go_enter Tryz.func12, Tryz.ntmps12
    go_wp2_with fail
    refine (H1.out _ BB.out).mono ?_
    rintro e w1 ⟨rfl, b1⟩
    have BC := hide (BB.out.trans (b1.mono BB.out.size))
    clear b1
    go_wp2
    go_ret
    exact ⟨rfl, BC.out⟩
set_option maxHeartbeats 2000000 in
theorem rallowed_any (p : PV) (hp : CapP p) {k : Nat} (ts : List (S5.NT k)) (hl : ts.length ≤ 9223372036854775807) (hok : S5.OkTs ts) (hsz : sizeTs ts ≤ 1000000) (Bk : Nat → Prop) (va : Value) (w : World) (hB : ∀ j, Bk j → j < w.heap.size) (hI : IsPo w p) (hK : S5.IsK Bk w ts va) :
    Calls Tryz.prog 13 #[poA p, va] w fun e w' => e = .returned (.bool (allowP p.po ts)) ∧ Below w.heap.size w w' := by
  have H1 := hide (fun x (b : Below w.heap.size w x) => rcheck_any p hp x (hI.below b))
  have H2 : Hid (checkP p.po = 0 → ∀ x, Below w.heap.size w x → Calls Tryz.prog 23 #[poA p, va, .int .i64 1] x fun e w' => e = .returned (.bool (allowTs p.po 1 ts)) ∧ Below x.heap.size x w') := hide (fun hc x b => rallow_any p hp hc (check_deepA hc).2 1 ⟨by omega, by omega⟩ ts hl hok hsz Bk va x (fun j hj => Nat.lt_of_lt_of_le (hB j hj) b.size) (hI.below b) (isK_keepB hB hK b))
  unfold allowP
  generalize checkP p.po = c at *
  generalize allowTs p.po 1 ts = V at *
  obtain ⟨va1, vc1, rfl⟩ := S5.isK_form hK
  clear hK hB hok hsz
  generalize ts.length = tn at *
  have HB := hide (fun x (b : Below (poW w p).heap.size (poW w p) x) => po_box w p b)
  obtain ⟨rs, li, sc, dr, de, rv, lv, sv, dv⟩ := p
  simp only [] at *
  have gr : IsR w rv rs := hI.r
  have gl : IsW w lv li := hI.l
  have gs : IsW w sv sc := hI.s
  have gd : IsW w dv dr := hI.d
  obtain ⟨ra, rc, rfl⟩ := gr.form
  obtain ⟨la, lc, rfl⟩ := gl.form
  obtain ⟨sa, sc', rfl⟩ := gs.form
  obtain ⟨da, dc, rfl⟩ := gd.form
  clear gl gs gd
  have B0 := hide (Below.refl (poW w ⟨rs, li, sc, dr, de, .slice ra rs.length rc, .slice la li.length lc, .slice sa sc.length sc', .slice da dr.length dc⟩).heap.size (poW w ⟨rs, li, sc, dr, de, .slice ra rs.length rc, .slice la li.length lc, .slice sa sc.length sc', .slice da dr.length dc⟩))
  obtain ⟨c0, c1, c2, c3, c4, bb⟩ := HB.out _ B0.out
  have BB := hide bb
  clear hI bb gr hp
  by_cases hc : c = 0
  · subst hc
    rw [decide_eq_true rfl, Bool.true_and]
    have H3 := hide (H2.out rfl)
    go_enter Tryz.func13, Tryz.ntmps13
    go_wp2_with fail
    refine (H1.out _ BB.out).mono ?_
    rintro e w1 ⟨rfl, b1⟩
    have BC := hide (BB.out.trans (b1.mono BB.out.size))
    have B1 := hide (B0.out.trans (b1.mono B0.out.size))
    clear b1 c0 c1 c2 c3 c4
    obtain ⟨c0, c1, c2, c3, c4, bb⟩ := HB.out _ B1.out
    clear bb
    go_wp2_with fail
    refine (H3.out _ BC.out).mono ?_
    rintro e w2 ⟨rfl, b2⟩
    have BD := hide (BC.out.trans (b2.mono BC.out.size))
    clear b2
    cases V
    all_goals
      go_wp2
      go_ret
      exact ⟨rfl, BD.out⟩
  · have hci : (c == 0) = false := by rw [beq_eq_false_iff_ne]; exact hc
    rw [decide_eq_false hc, Bool.false_and]
    clear hc
    go_enter Tryz.func13, Tryz.ntmps13
    go_wp2_with fail
    refine (H1.out _ BB.out).mono ?_
    rintro e w1 ⟨rfl, b1⟩
    have BC := hide (BB.out.trans (b1.mono BB.out.size))
    clear b1
    go_wp2
    go_ret
    exact ⟨rfl, BC.out⟩
end Go.Proofs.YthopnliaikkhbaaGreatDoor
/- How a list of texts comes in. -/
set_option linter.unusedVariables false
set_option linter.unusedSimpArgs false
set_option maxRecDepth 4000
namespace Go.Proofs.YthopnliaikkhbaaGreatDoor
open Go.RowKit Go.ChangeShapes Go.WideShapes Go.Deep

theorem str_of (x : ByteArray) (R : List UInt8) (h : x.data.toList = R) : x = ⟨R.toArray⟩ := by
  subst h
  cases x
  simp
theorem str_selfV (s : ByteArray) : (⟨s.data.toList.toArray⟩ : ByteArray) = s := (str_of s _ rfl).symm
theorem addr_addo (b o j : Nat) : (⟨b, o, none⟩ : Addr).add j = ⟨b, o + j, none⟩ := by unfold Addr.add; split <;> simp_all
set_option maxRecDepth 100000 in
theorem names_of {H : Type} {enc : TypeId × Value → H} {W : World} {fuel : Nat} {v : Value} {x : DataW H × List MemPlace} (h : DataW.trod enc Tryz.prog W 0 (fun _ => true) true fuel 24 [v] = some x) :
    ∃ xs : List (List UInt8), IsW W v xs := by
  rcases Deep.open_slice Tryz.underlying24 h with ⟨hcs, _⟩ | ⟨a, len, cap, m, n, D, Pl, hcs, hb, hl, hm, hmm, _, hx⟩
  · obtain rfl : v = .slice none 0 0 := by simpa using hcs
    exact ⟨[], .inl ⟨rfl, _, _, rfl⟩⟩
  · obtain rfl : v = .slice (some a) len cap := by simpa using hcs
    by_cases h0 : len = 0
    · subst h0
      exact ⟨[], .inl ⟨rfl, _, _, rfl⟩⟩
    · have hlm : len ≤ m := by rw [hmm]; split <;> omega
      have each : ∀ i, i < len → ∃ y : List UInt8, W.cell? (a.add i) = some (.string ⟨y.toArray⟩) := by
        intro i hi
        obtain ⟨cs', h1, h2⟩ := hx i (by omega)
        rw [show Tryz.prog.cellsOf 9 = 1 by kernel_rfl] at h1
        obtain ⟨_, hlen, hcell⟩ := World.cells?_some h1
        match cs', hlen with
        | [v0], _ =>
          obtain ⟨z0, e0, _⟩ := DataW.trod_string Tryz.underlying9 h2
          simp only [List.cons.injEq, and_true] at e0
          subst e0
          have f0 := hcell 0 (by omega)
          rw [add_add, Nat.add_zero, Nat.mul_one] at f0
          exact ⟨z0.data.toList, by rw [str_selfV]; exact f0⟩
      obtain ⟨f, hf⟩ := Deep.choose_lt each
      obtain ⟨b, o, sp⟩ := a
      have hsp : sp = none := by
        have h1 := hf 0 (by omega)
        cases sp with
        | none => rfl
        | some z =>
          exfalso
          have h2 : W.cell? ⟨b, o, some z⟩ = some (.string ⟨(f 0).toArray⟩) := by simpa [Addr.add] using h1
          unfold World.cell? at h2
          split at h2 <;> simp at h2
      subst hsp
      refine ⟨(List.range len).map f, .inr ⟨b, o, cap, by simp, fun j hj => ?_⟩⟩
      have hj2 : j < len := by simpa using hj
      have h1 := hf j hj2
      rw [addr_addo] at h1
      simp only [List.getElem_map, List.getElem_range]
      exact h1
end Go.Proofs.YthopnliaikkhbaaGreatDoor
/- How a policy comes in: from the row's reading to what the walks ask. -/
set_option linter.unusedVariables false
set_option linter.unusedSimpArgs false
set_option maxRecDepth 100000
namespace Go.Proofs.YthopnliaikkhbaaGreatDoor
open Go.RowKit Go.ChangeShapes Go.WideShapes Go.Deep

theorem array5 {α : Type} {cs : Array α} (h : cs.size = 5) : ∃ c0 c1 c2 c3 c4, cs = #[c0, c1, c2, c3, c4] := by
  obtain ⟨l⟩ := cs
  match l, h with
  | [c0, c1, c2, c3, c4], _ => exact ⟨c0, c1, c2, c3, c4, rfl⟩
theorem trod_struct5 {H : Type} {enc : TypeId × Value → H} {P : Program} {w : World} {base : Nat} {spare : Nat → Bool} {held : Bool} {t : TypeId} {f0 f1 f2 f3 f4 : Field} {fuel : Nat} {cs : List Value} {x : DataW H × List MemPlace} (ht : P.underlying t = some (.struct #[f0, f1, f2, f3, f4])) (h : DataW.trod enc P w base spare held fuel t cs = some x) :
    ∃ y0 y1 y2 y3 y4 n, x = (.agg [y0.1, y1.1, y2.1, y3.1, y4.1], y0.2 ++ (y1.2 ++ (y2.2 ++ (y3.2 ++ y4.2)))) ∧ DataW.trod enc P w base spare held n f0.type ((cs.drop f0.offset).take (P.cellsOf f0.type)) = some y0 ∧
      DataW.trod enc P w base spare held n f1.type ((cs.drop f1.offset).take (P.cellsOf f1.type)) = some y1 ∧ DataW.trod enc P w base spare held n f2.type ((cs.drop f2.offset).take (P.cellsOf f2.type)) = some y2 ∧
      DataW.trod enc P w base spare held n f3.type ((cs.drop f3.offset).take (P.cellsOf f3.type)) = some y3 ∧ DataW.trod enc P w base spare held n f4.type ((cs.drop f4.offset).take (P.cellsOf f4.type)) = some y4 := by
  obtain ⟨xs, n, _, rfl, hl, hlen, hf⟩ := DataW.trod_struct ht h
  match xs, hlen with
  | [y0, y1, y2, y3, y4], _ => exact ⟨y0, y1, y2, y3, y4, n, by simp, by simpa using hf 0 f0 rfl, by simpa using hf 1 f1 rfl, by simpa using hf 2 f2 rfl, by simpa using hf 3 f3 rfl, by simpa using hf 4 f4 rfl⟩
theorem open_agg5 {H : Type} {enc : TypeId × Value → H} {P : Program} {w : World} {base : Nat} {spare : Nat → Bool} {held : Bool} {r : Reach} {b0 : Nat} {t : TypeId} {f0 f1 f2 f3 f4 : Field} {v : Value} {d : DataW H} {p : List MemPlace} (hs : P.underlying t = some (.struct #[f0, f1, f2, f3, f4])) (hone : Deep.oneCellFields P #[f0, f1, f2, f3, f4] = true) (hC : P.cellsOf t = 5)
    (hv : Value.okWide P w r b0 t v) (h : DataW.Trod enc P w base spare held t v d p) :
    ∃ (v0 v1 v2 v3 v4 : Value) (y0 y1 y2 y3 y4 : DataW H × List MemPlace) (n : Nat), v = .agg #[v0, v1, v2, v3, v4] ∧ d = .agg [y0.1, y1.1, y2.1, y3.1, y4.1] ∧ p = y0.2 ++ (y1.2 ++ (y2.2 ++ (y3.2 ++ y4.2))) ∧
      DataW.trod enc P w base spare held n f0.type [v0] = some y0 ∧ DataW.trod enc P w base spare held n f1.type [v1] = some y1 ∧ DataW.trod enc P w base spare held n f2.type [v2] = some y2 ∧ DataW.trod enc P w base spare held n f3.type [v3] = some y3 ∧ DataW.trod enc P w base spare held n f4.type [v4] = some y4 := by
  obtain ⟨cs, rfl, hsz⟩ := okWide_struct hs hv
  obtain ⟨c0, c1, c2, c3, c4, rfl⟩ := array5 (hsz.trans hC)
  obtain ⟨fuel, hf⟩ := h
  obtain ⟨y0, y1, y2, y3, y4, n, hx, h0, h1, h2, h3, h4⟩ := trod_struct5 hs hf
  obtain ⟨o0, k0⟩ := hone_of hone 0 f0 rfl
  obtain ⟨o1, k1⟩ := hone_of hone 1 f1 rfl
  obtain ⟨o2, k2⟩ := hone_of hone 2 f2 rfl
  obtain ⟨o3, k3⟩ := hone_of hone 3 f3 rfl
  obtain ⟨o4, k4⟩ := hone_of hone 4 f4 rfl
  simp only [Prod.mk.injEq] at hx
  exact ⟨c0, c1, c2, c3, c4, y0, y1, y2, y3, y4, n, rfl, hx.1, hx.2, by simpa [Value.cells, o0, k0] using h0, by simpa [Value.cells, o1, k1] using h1, by simpa [Value.cells, o2, k2] using h2, by simpa [Value.cells, o3, k3] using h3, by simpa [Value.cells, o4, k4] using h4⟩
theorem slice_len {H : Type} {enc : TypeId × Value → H} {W : World} {fuel : Nat} {v : Value} {x : DataW H × List MemPlace} {t e : TypeId} (ht : Tryz.prog.underlying t = some (.slice e)) (h : DataW.trod enc Tryz.prog W 0 (fun _ => true) true fuel t [v] = some x) : ∀ a n c, v = .slice a n c → n ≤ c ∧ c ≤ maxLen := by
  rintro a n c rfl
  rcases Deep.open_slice ht h with ⟨hcs, _⟩ | ⟨a', len, cap, m, n', D, Pl, hcs, hb, hl, hm, _⟩
  · simp only [List.cons.injEq, Value.slice.injEq, and_true] at hcs
    unfold maxLen
    omega
  · simp only [List.cons.injEq, Value.slice.injEq, and_true] at hcs
    omega
/-- A list of texts that came in. -/
structure InW (W : World) (v : Value) (l : List Bs) : Prop where
  w : IsW W v l
  c : ∀ a n c, v = .slice a n c → n ≤ c
  m : l.length ≤ 9223372036854775807
theorem texts_in {H : Type} {enc : TypeId × Value → H} {W : World} {fuel : Nat} {v : Value} {x : DataW H × List MemPlace} (h : DataW.trod enc Tryz.prog W 0 (fun _ => true) true fuel 24 [v] = some x) : ∃ l : List Bs, InW W v l := by
  obtain ⟨l, hl⟩ := names_of h
  have hb := slice_len Tryz.underlying24 h
  refine ⟨l, hl, fun a n c e => (hb a n c e).1, ?_⟩
  obtain ⟨a, c, e⟩ := hl.form
  have := hb _ _ _ e
  unfold maxLen at this
  omega
theorem spot_none {W : World} {b o : Nat} {sp : Option Nat} {v : Value} (h : W.cell? ⟨b, o, sp⟩ = some v) : sp = none ∨ True := .inr trivial
theorem rules_in {H : Type} {enc : TypeId × Value → H} {W : World} {fuel : Nat} {v : Value} {x : DataW H × List MemPlace} (h : DataW.trod enc Tryz.prog W 0 (fun _ => true) true fuel 23 [v] = some x) :
    ∃ rs : List RV, IsR W v rs ∧ (∀ r ∈ rs, InW W r.av r.at_) ∧ rs.length ≤ 9223372036854775807 := by
  rcases Deep.open_slice Tryz.underlying23 h with ⟨hcs, _⟩ | ⟨a, len, cap, m, n, D, Pl, hcs, hb, hl, hm, hmm, _, hx⟩
  · obtain rfl : v = .slice none 0 0 := by simpa using hcs
    exact ⟨[], ⟨.inl ⟨rfl, _, _, rfl⟩, fun x hx => by cases hx⟩, fun x hx => (by cases hx), by decide⟩
  · obtain rfl : v = .slice (some a) len cap := by simpa using hcs
    by_cases h0 : len = 0
    · subst h0
      exact ⟨[], ⟨.inl ⟨rfl, _, _, rfl⟩, fun x hx => by cases hx⟩, fun x hx => (by cases hx), by decide⟩
    · have hlm : len ≤ m := by rw [hmm]; split <;> omega
      have each : ∀ i, i < len → ∃ y : RV, (W.cell? (a.add (i * 2)) = some (.string y.nm) ∧ W.cell? (a.add (i * 2 + 1)) = some y.av) ∧ InW W y.av y.at_ := by
        intro i hi
        obtain ⟨cs', h1, h2⟩ := hx i (by omega)
        rw [show Tryz.prog.cellsOf 53 = 2 by kernel_rfl] at h1
        obtain ⟨_, hlen, hcell⟩ := World.cells?_some h1
        obtain ⟨xs, k, hk, hxy, _, hxl, hf⟩ := DataW.trod_struct Tryz.underlying53 h2
        match cs', hlen with
        | [v0, v1], _ =>
          have g0 := hf 0 _ rfl
          have g1 := hf 1 _ rfl
          have cA : Tryz.prog.cellsOf 24 = 1 := by kernel_rfl
          have cT : Tryz.prog.cellsOf 9 = 1 := by kernel_rfl
          match xs, hxl with
          | [y0, y1], _ =>
            have g0' : DataW.trod enc Tryz.prog W 0 (fun _ => true) true k 9 [v0] = some y0 := by simpa [cA, cT] using g0
            have g1' : DataW.trod enc Tryz.prog W 0 (fun _ => true) true k 24 [v1] = some y1 := by simpa [cA, cT] using g1
            obtain ⟨z0, e0, _⟩ := DataW.trod_string Tryz.underlying9 g0'
            obtain ⟨aa, hV⟩ := texts_in g1'
            simp only [List.cons.injEq, and_true] at e0
            subst e0
            have f0 := hcell 0 (by omega)
            have f1 := hcell 1 (by omega)
            rw [add_add] at f0 f1
            exact ⟨⟨z0, aa, v1⟩, ⟨by rw [Nat.add_zero] at f0; exact f0, f1⟩, hV⟩
      obtain ⟨f, hf⟩ := @Deep.choose_lt RV ⟨⟨ByteArray.empty, [], .bool false⟩⟩ _ _ each
      obtain ⟨b, o, sp⟩ := a
      have hsp : sp = none := by
        have h1 := (hf 0 (by omega)).1.1
        cases sp with
        | none => rfl
        | some z =>
          exfalso
          have h2 : W.cell? ⟨b, o, some z⟩ = some (.string (f 0).nm) := by simpa [Addr.add] using h1
          unfold World.cell? at h2
          split at h2 <;> simp at h2
      subst hsp
      refine ⟨(List.range len).map f, ⟨.inr ⟨b, o, cap, by simp, fun j hj => ?_⟩, fun x hx => ?_⟩, fun x hx => ?_, by simp; unfold maxLen at hm; omega⟩
      · have hj2 : j < len := by simpa using hj
        obtain ⟨⟨h1, h2⟩, -⟩ := hf j hj2
        rw [addr_addo] at h1 h2
        simp only [List.getElem_map, List.getElem_range]
        exact ⟨h1, by rw [Nat.add_assoc]; exact h2⟩
      · obtain ⟨j, hj, rfl⟩ := List.mem_map.1 hx
        exact (hf j (List.mem_range.1 hj)).2.w
      · obtain ⟨j, hj, rfl⟩ := List.mem_map.1 hx
        exact (hf j (List.mem_range.1 hj)).2
/-- A policy that came in. -/
structure InP (W : World) (p : PV) : Prop where
  i : IsPo W p
  len : LenP p
  l : ∀ a n c, p.lv = .slice a n c → n ≤ c
  c : ∀ a n c, p.sv = .slice a n c → n ≤ c
  d : ∀ a n c, p.dv = .slice a n c → n ≤ c
  a : ∀ r ∈ p.rs, ∀ a n c, r.av = .slice a n c → n ≤ c
theorem policy_in {H : Type} {enc : TypeId × Value → H} {W : World} {m : Nat} {c0 c1 c2 c3 c4 : Value} {y0 y1 y2 y3 y4 : DataW H × List MemPlace} (g0 : DataW.trod enc Tryz.prog W 0 (fun _ => true) true m 23 [c0] = some y0) (g1 : DataW.trod enc Tryz.prog W 0 (fun _ => true) true m 24 [c1] = some y1) (g2 : DataW.trod enc Tryz.prog W 0 (fun _ => true) true m 24 [c2] = some y2) (g3 : DataW.trod enc Tryz.prog W 0 (fun _ => true) true m 24 [c3] = some y3) (g4 : DataW.trod enc Tryz.prog W 0 (fun _ => true) true m 3 [c4] = some y4) :
    ∃ p : PV, #[c0, c1, c2, c3, c4] = poC p ∧ InP W p := by
  obtain ⟨rs, r1, r2, r3⟩ := rules_in g0
  obtain ⟨li, l1⟩ := texts_in g1
  obtain ⟨sc, s1⟩ := texts_in g2
  obtain ⟨dr, d1⟩ := texts_in g3
  obtain ⟨z, e, _⟩ := DataW.trod_int Tryz.underlying3 g4
  simp only [List.cons.injEq, and_true] at e
  subst e
  exact ⟨⟨rs, li, sc, dr, z, c0, c1, c2, c3⟩, rfl, ⟨r1, l1.w, s1.w, d1.w⟩, ⟨r3, l1.m, s1.m, d1.m, fun r hr => (r2 r hr).m⟩, l1.c, s1.c, d1.c, fun r hr => (r2 r hr).c⟩
theorem small_cap {W : World} {p : PV} (h : InP W p) (hs : smallP p.po = true) : CapP p := by
  rw [small_po] at hs
  simp only [Bool.and_eq_true, decide_eq_true_eq, List.all_eq_true] at hs
  obtain ⟨⟨⟨⟨h1, h2⟩, h3⟩, h4⟩, h5⟩ := hs
  have tx : ∀ l : List Bs, textsL l = true → l.length ≤ 60 ∧ ∀ x ∈ l, x.length ≤ 60 := by
    intro l hl
    unfold textsL at hl
    simp only [Bool.and_eq_true, decide_eq_true_eq, List.all_eq_true] at hl
    exact hl
  have t2 := tx _ h2
  have t3 := tx _ h3
  have t4 := tx _ h4
  refine ⟨⟨by omega, by omega, by omega, by omega, fun r hr => ?_, fun x hx => ?_, fun x hx => ?_, fun x hx => ?_⟩, h.l, h.c, h.d, h.a⟩
  · obtain ⟨k1, k2⟩ := h5 r hr
    have t5 := tx _ k2
    exact ⟨by omega, by omega, fun x hx => by have := t5.2 x hx; omega⟩
  · have := t2.2 x hx
    omega
  · have := t3.2 x hx
    omega
  · have := t4.2 x hx
    omega
end Go.Proofs.YthopnliaikkhbaaGreatDoor
