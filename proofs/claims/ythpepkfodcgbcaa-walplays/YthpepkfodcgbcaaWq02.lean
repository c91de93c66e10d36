import Derived.Test.YthpepkfodcgbcaaWq01
import Derived.Deep.SlicePairs
import Derived.Deep.Slices
import Derived.ProofKit
import Derived.OpenShut
import Derived.Test.YthpepkfodcgbcaaWq00
/- How a script of acts on a disk comes in: from the row's reading to what the walks ask. -/
set_option linter.unusedVariables false
set_option linter.unusedSimpArgs false
set_option maxRecDepth 100000
namespace Go.Proofs.Ythpepkfodcgbcaa
open Go.RowKit Go.ChangeShapes Go.WideShapes Go.Deep

theorem wf_int {k : IntKind} {z : Int} (h : (Lit.int k z).wf = true) : k.min ≤ z ∧ z ≤ k.max := by
  unfold Lit.wf at h
  rw [Bool.and_eq_true] at h
  exact ⟨of_decide_eq_true h.1, of_decide_eq_true h.2⟩
theorem sub_none {W : World} {b o : Nat} {sp : Option Nat} {v : Value} (h : W.cell? ((⟨b, o, sp⟩ : Addr).add 0) = some v) (hv : v.oneCell' = true) : sp = none := by
  cases sp with
  | none => rfl
  | some z =>
    exfalso
    have h2 : W.cell? ⟨b, o, some z⟩ = some v := by simpa [Addr.add] using h
    unfold World.cell? at h2
    split at h2 <;> simp at h2
theorem bytes_in {H : Type} {enc : TypeId × Value → H} {W : World} {fuel : Nat} {v : Value} {x : DataW H × List MemPlace} (h : DataW.trod enc Try.prog W 0 (fun _ => true) true fuel 43 [v] = some x) :
    ∃ l : Bs, IsY W v l ∧ l.length ≤ 9223372036854775807 := by
  rcases Deep.open_slice Try.underlying43 h with ⟨hcs, _⟩ | ⟨a, len, cap, m, n, D, Pl, hcs, hb, hl, hm, hmm, _, hx⟩
  · obtain rfl : v = .slice none 0 0 := by simpa using hcs
    exact ⟨[], .inl ⟨rfl, _, _, rfl⟩, by decide⟩
  · obtain rfl : v = .slice (some a) len cap := by simpa using hcs
    by_cases h0 : len = 0
    · subst h0
      exact ⟨[], .inl ⟨rfl, _, _, rfl⟩, by decide⟩
    · have hlm : len ≤ m := by rw [hmm]; split <;> omega
      have each : ∀ i, i < len → ∃ y : UInt8, W.cell? (a.add i) = some (.int .u8 (y.toNat : Int)) := by
        intro i hi
        obtain ⟨cs', h1, h2⟩ := hx i (by omega)
        rw [show Try.prog.cellsOf 5 = 1 by kernel_rfl] at h1
        obtain ⟨_, hlen, hcell⟩ := World.cells?_some h1
        match cs', hlen with
        | [v0], _ =>
          obtain ⟨z, e, _, hw⟩ := DataW.trod_int Try.underlying5 h2
          simp only [List.cons.injEq, and_true] at e
          subst e
          have f0 := hcell 0 (by omega)
          rw [add_add, Nat.add_zero, Nat.mul_one] at f0
          have hz : 0 ≤ z ∧ z < 256 := by
            have hh := wf_int hw
            rw [show IntKind.u8.min = 0 from rfl, show IntKind.u8.max = 255 from rfl] at hh
            omega
          refine ⟨UInt8.ofNat z.toNat, ?_⟩
          rw [f0]
          simp
          omega
      obtain ⟨f, hf⟩ := @Deep.choose_lt UInt8 ⟨0⟩ _ _ each
      obtain ⟨b, o, sp⟩ := a
      have hsp : sp = none := sub_none (hf 0 (by omega)) rfl
      subst hsp
      refine ⟨(List.range len).map f, .inr ⟨b, o, cap, by simp, by simpa using hl, fun j hj => ?_⟩, by simp; unfold maxLen at hm; omega⟩
      have hj2 : j < len := by simpa using hj
      have h1 := hf j hj2
      rw [addr_addo] at h1
      simp only [List.getElem_map, List.getElem_range]
      exact h1
theorem bools_in {H : Type} {enc : TypeId × Value → H} {W : World} {fuel : Nat} {v : Value} {x : DataW H × List MemPlace} (h : DataW.trod enc Try.prog W 0 (fun _ => true) true fuel 44 [v] = some x) :
    ∃ l : List Bool, IsF W v l ∧ l.length ≤ 9223372036854775807 := by
  rcases Deep.open_slice Try.underlying44 h with ⟨hcs, _⟩ | ⟨a, len, cap, m, n, D, Pl, hcs, hb, hl, hm, hmm, _, hx⟩
  · obtain rfl : v = .slice none 0 0 := by simpa using hcs
    exact ⟨[], .inl ⟨rfl, _, _, rfl⟩, by decide⟩
  · obtain rfl : v = .slice (some a) len cap := by simpa using hcs
    by_cases h0 : len = 0
    · subst h0
      exact ⟨[], .inl ⟨rfl, _, _, rfl⟩, by decide⟩
    · have hlm : len ≤ m := by rw [hmm]; split <;> omega
      have each : ∀ i, i < len → ∃ y : Bool, W.cell? (a.add i) = some (.bool y) := by
        intro i hi
        obtain ⟨cs', h1, h2⟩ := hx i (by omega)
        rw [show Try.prog.cellsOf 4 = 1 by kernel_rfl] at h1
        obtain ⟨_, hlen, hcell⟩ := World.cells?_some h1
        match cs', hlen with
        | [v0], _ =>
          obtain ⟨z, e, _⟩ := DataW.trod_bool Try.underlying4 h2
          simp only [List.cons.injEq, and_true] at e
          subst e
          have f0 := hcell 0 (by omega)
          rw [add_add, Nat.add_zero, Nat.mul_one] at f0
          exact ⟨z, f0⟩
      obtain ⟨f, hf⟩ := @Deep.choose_lt Bool ⟨false⟩ _ _ each
      obtain ⟨b, o, sp⟩ := a
      have hsp : sp = none := sub_none (hf 0 (by omega)) rfl
      subst hsp
      refine ⟨(List.range len).map f, .inr ⟨b, o, cap, by simp, fun j hj => ?_⟩, by simp; unfold maxLen at hm; omega⟩
      have hj2 : j < len := by simpa using hj
      have h1 := hf j hj2
      rw [addr_addo] at h1
      simp only [List.getElem_map, List.getElem_range]
      exact h1
/-- An act, and where its bytes and its bools lie. -/
structure AV where
  kind : Int
  n : Int
  b : Bs
  short : Bool
  keep : List Bool
  bv : Value
  kv : Value
/-- A script lies there. -/
def IsS (w : World) (v : Value) (l : List AV) : Prop := ((l = [] ∧ ∃ a c, v = .slice a 0 c) ∨ ∃ b o cap, v = .slice (some ⟨b, o, none⟩) l.length cap ∧ ∀ j (hj : j < l.length), w.cell? ⟨b, o + j * 5, none⟩ = some (.int .i64 l[j].kind) ∧ w.cell? ⟨b, o + j * 5 + 1, none⟩ = some (.int .i64 l[j].n) ∧ w.cell? ⟨b, o + j * 5 + 2, none⟩ = some l[j].bv ∧ w.cell? ⟨b, o + j * 5 + 3, none⟩ = some (.bool l[j].short) ∧ w.cell? ⟨b, o + j * 5 + 4, none⟩ = some l[j].kv) ∧ ∀ a ∈ l, IsY w a.bv a.b ∧ IsF w a.kv a.keep
structure OkA (a : AV) : Prop where
  n : -9223372036854775808 ≤ a.n ∧ a.n ≤ 9223372036854775807
  b : a.b.length ≤ 9223372036854775807
  k : a.keep.length ≤ 9223372036854775807
end Go.Proofs.Ythpepkfodcgbcaa
/- What the document's Write answers. -/
set_option linter.unusedVariables false
set_option linter.unusedSimpArgs false
set_option maxRecDepth 40000
namespace Go.Proofs.Ythpepkfodcgbcaa
open Go.RowKit

/-- The own box's second cell is written over. -/
theorem TwoB.cell1 {w x : World} {d : DV} (h : TwoB w d x) (v : Value) (l : List (Nat × Bs)) (hl : IsP x v l) : TwoB w ⟨{ d.m with l := l }, d.sv, v⟩ (x.setCell ⟨w.heap.size, 1, none⟩ v) := by
  have o : ∀ k, k ≠ w.heap.size → (x.setCell ⟨w.heap.size, 1, none⟩ v).heap[k]? = x.heap[k]? := fun k hk => Below.heap_setCell _ _ _ _ hk
  refine ⟨?_, (o _ (by omega)).trans h.b, ⟨h.i.s.but (noStr_dk h.i h.a) o, hl.but (noStr_dk h.i h.a) o⟩, h.l.setCell (p := ⟨w.heap.size, 1, none⟩) (Nat.le_refl _) _, ?_⟩
  · rw [setCell_box h.a 1 v]
    rfl
  · have := h.s
    simp [World.setCell]
    omega
theorem TwoB.onB {w x W : World} {d : DV} {B : Nat} (h : TwoB w d x) (hi : ∀ W, Below w.heap.size w W → IsD W d) (hB : w.heap.size + 2 ≤ B) (hBx : B ≤ x.heap.size) (hb : Below B x W) : TwoB w d W := by
  have hl := h.l.trans (hb.mono (by omega))
  exact ⟨(hb.block _ (by omega)).trans h.a, (hb.block _ (by omega)).trans h.b, hi W hl, hl, Nat.le_trans h.s hb.size⟩
set_option maxHeartbeats 2000000 in
theorem rwrite_any (d : DV) (n : Int) (bv : Value) (b : Bs) (w : World) (hI : IsD w d) (hY : IsY w bv b) (hok : OkD d.m) (h1 : d.m.safe.length ≤ 100000) (h2 : d.m.l.length ≤ 100000) (h3 : b.length ≤ 1000000) (hl : -9223372036854775808 < d.m.left ∧ d.m.left ≤ 9223372036854775807) :
    Calls Try.prog 34 #[dkA d, .int .i64 n, bv] w fun e w' => DiskR w (writeD d.m n b) e w' := by
  obtain ⟨e1, e2⟩ := spend_lists d.m
  have hbw := (dk_boxB w d (Below.refl _ (dkB w d))).2.2.2
  have HIS : Hid (Calls Try.prog 56 #[dkA d, .int .i64 n] (dkB w d) fun e w' => e = .returned (.bool (isD d.m n)) ∧ Below (dkB w d).heap.size (dkB w d) w') := hide (ris_any d n (dkB w d) (hI.below hbw) (by omega))
  have HS : Hid (∀ x, IsD x d → Calls Try.prog 57 #[dkA d] x fun e w' => e = .returned (.tuple #[.agg #[d.sv, d.lv, .int .i64 (spendD d.m).1.left, .bool (spendD d.m).1.fuse, .bool (spendD d.m).1.off], .bool (spendD d.m).2]) ∧ Below x.heap.size x w') := hide (fun x h => rspend_any d x h hl)
  have HT := hide (fun x (b : Below (dkB w d).heap.size (dkB w d) x) => two_start (x := x) hI b)
  have HI1 : Hid (∀ x, IsD x d → IsD x ⟨(spendD d.m).1, d.sv, d.lv⟩) := hide (fun x h => ⟨by show IsW x d.sv (spendD d.m).1.safe; rw [e1]; exact h.s, by show IsP x d.lv (spendD d.m).1.l; rw [e2]; exact h.l⟩)
  have HI0 : Hid (∀ x, Below w.heap.size w x → IsD x ⟨(spendD d.m).1, d.sv, d.lv⟩) := hide (fun x b => HI1.out x (hI.below b))
  have HY := hide (fun x (b : Below w.heap.size w x) => hY.below b)
  have hin : isD d.m n = true → 0 ≤ n ∧ n.toNat * 4 + 4 ≤ d.m.safe.length := by
    intro h
    unfold isD at h
    simp only [Bool.and_eq_true, decide_eq_true_eq] at h
    omega
  have hwr : writeD d.m n b = if isD d.m n && decide (b.length = 256) then (if (spendD d.m).2 then ({ (spendD d.m).1 with l := (spendD d.m).1.l ++ piecesL n.toNat b }, 0) else ((spendD d.m).1, 9)) else (d.m, 1) := rfl
  rw [hwr]
  rw [← e2] at h2
  clear hwr hok e1 e2 hl hbw
  generalize hsd : (spendD d.m).1 = m1 at *
  generalize (spendD d.m).2 = ok at *
  clear hsd
  generalize isD d.m n = IN at *
  obtain ⟨sa, sc, es⟩ := hI.s.form
  obtain ⟨la, lc, el⟩ := hI.l.form
  obtain ⟨ba, bc, rfl⟩ := hY.form
  obtain ⟨m, sv, lv⟩ := d
  simp only [] at es el HS HT HI1 HI0 HIS hin h1
  subst es el
  generalize hk1 : m.safe.length = k1 at *
  generalize hk2 : m.l.length = k2 at *
  obtain ⟨safe1, l1, left1, fuse1, off1⟩ := m1
  obtain ⟨safe, l, left, fuse, off⟩ := m
  simp only [] at *
  clear hI hY hk1 hk2
  by_cases hgo : IN = true ∧ b.length = 256
  · obtain ⟨rfl, hb256⟩ := hgo
    rw [decide_eq_true hb256, Bool.and_true, if_pos rfl]
    obtain ⟨hn0, hn1⟩ := hin rfl
    obtain ⟨nn, rfl⟩ : ∃ nn : Nat, n = nn := ⟨n.toNat, by omega⟩
    rw [Int.toNat_natCast] at *
    have hbl : (b.length : Int) = 256 := by omega
    cases ok
    · rw [if_neg (by simp)]
      have hbn : ((b.length : Int) != 256) = false := by rw [hbl]; rfl
      clear hin hn0 hb256
      go_enter Try.func34, Try.ntmps34
      go_wp2_with fail
      refine HIS.out.mono ?_
      rintro e w1 ⟨rfl, b1⟩
      have t1 := HT.out w1 b1
      obtain ⟨x0, x1, x2, x3, x4, f0, f1, f2, f3, f4⟩ := dk_cells t1.a
      simp only [] at x0 x1 x2 x3 x4
      have HS2 := hide (HS.out w1 t1.i)
      have T1 := hide t1
      clear b1 t1 HT HS HIS
      go_wp2_with fail
      refine HS2.out.mono ?_
      rintro e w2 ⟨rfl, b2⟩
      have t2 := T1.out.below b2
      have t3 := t2.put (HI1.out _ t2.i)
      obtain ⟨x0, x1, x2, x3, x4, f0, f1, f2, f3, f4⟩ := dk_cells t2.a
      obtain ⟨y0, y1, y2, y3, y4, g0, g1, g2, g3, g4⟩ := dk_cells t2.b
      simp only [zeroDV] at x0 x1 x2 x3 x4 y0 y1 y2 y3 y4
      have ZZ := hide (t3.done (⟨safe1, l1, left1, fuse1, off1⟩, 9) rfl)
      simp only [] at ZZ
      clear t2 t3 T1 HI1 HS2 b2
      go_wp2
      refine bodyPost_ret (v := .tuple #[.agg #[.slice sa k1 sc, .slice la k2 lc, .int .i64 left1, .bool fuse1, .bool off1], .int .i64 9]) ?_ rfl (ZZ.out _ _ _ _ _)
      simp [results, Try.results34, go_sem, y0, y1, y2, y3, y4]
    · rw [if_pos rfl]
      have hbn : ((b.length : Int) != 256) = false := by rw [hbl]; rfl
      clear hin hn0
      go_enter Try.func34, Try.ntmps34
      go_wp2_with fail
      refine HIS.out.mono ?_
      rintro e w1 ⟨rfl, b1⟩
      have t1 := HT.out w1 b1
      obtain ⟨x0, x1, x2, x3, x4, f0, f1, f2, f3, f4⟩ := dk_cells t1.a
      simp only [] at x0 x1 x2 x3 x4
      have HS2 := hide (HS.out w1 t1.i)
      have T1 := hide t1
      clear b1 t1 HT HS HIS
      go_wp2_with fail
      refine HS2.out.mono ?_
      rintro e w2 ⟨rfl, b2⟩
      have t2 := T1.out.below b2
      have t3 := t2.put (HI1.out _ t2.i)
      obtain ⟨x0, x1, x2, x3, x4, f0, f1, f2, f3, f4⟩ := dk_cells t2.a
      simp only [] at x0 x1 x2 x3 x4
      have T3 := hide t3
      simp only [] at T3
      clear t2 t3 T1 HI1 HS2 b2
      obtain ⟨ca, cc, w3, hr3, ho3, hb3⟩ := copy_pieces (set5 w2 w.heap.size (.slice sa k1 sc) (.slice la k2 lc) (.int .i64 left1) (.bool fuse1) (.bool off1)) (.slice la k2 lc) l1 T3.out.i.l (by omega)
      have hsz2 : w.heap.size + 2 ≤ w2.heap.size := by have := T3.out.s; rw [set5_size] at this; exact this
      rw [set5_size] at hr3 ho3
      have T4 := hide (T3.out.below hb3)
      have hB3 : w2.heap.size ≤ w3.heap.size := by have := hb3.size; rw [set5_size] at this; exact this
      have HO : Hid (w3.ownsRow w2.heap.size 103 2 (.slice ca (l1 ++ (piecesL nn b).take 0).length cc) (l1 ++ (piecesL nn b).take 0).length (pieceCells (l1 ++ (piecesL nn b).take 0))) := hide (by rw [List.take_zero, List.append_nil]; exact ho3)
      have x1s := (dk_cells T3.out.a).2.1
      have x1a := ((below_alloc _ (.cells #[] 103)).cell (cell_lt x1s)).trans x1s
      simp only [] at x1a
      clear ho3 hb3 T3 x1s
      have hbl2 : b.length ≤ 1000000 := h3
      obtain ⟨bb, bo, rfl, hbcap, HBC⟩ : ∃ bb bo, ba = some ⟨bb, bo, none⟩ ∧ 256 ≤ bc ∧ Hid (∀ x, Below w.heap.size w x → ∀ j (hj : j < b.length), x.cell? ⟨bb, bo + j, none⟩ = some (.int .u8 (b[j].toNat : Int))) := by
        rcases HY.out w (Below.refl _ _) with ⟨h0, _⟩ | ⟨bb, bo, cap, e, hc1, hc2⟩
        · rw [h0] at hb256; simp at hb256
        · injection e with e e2 e3
          exact ⟨bb, bo, e, by omega, hide (fun x hx j hj => (hx.cell (cell_lt (hc2 j hj))).trans (hc2 j hj))⟩
      have hbc1 : (256 : Int) ≤ bc := by omega
      clear HY hbl2
      have HB256 := hide hb256
      have HSZ2 := hide hsz2
      have HB3 := hide hB3
      have HCAP := hide hbcap
      have HR3 := hide hr3
      clear hb256 hsz2 hB3 hbcap hr3 hbc1
      go_wp2_with (at_builtin; refine Lib.wpList_append_run _ rfl (.tmp 29) (.tmp 31) _ _ rfl _ _ rfl rfl _ _ HR3.out ?_)
      clear HR3 x1a x0 x1 x2 x3 x4 f0 f1 f2 f3 f4
      have hlen0 : (l1 ++ (piecesL nn b).take 0).length = l1.length := by simp
      go_loopw [9, 10] (fun vl vi wr => ∃ (i : Nat) (a : Option Addr) (c : Nat), vi = .int .i64 (i : Int) ∧ i ≤ 4 ∧ vl = .slice a (l1 ++ (piecesL nn b).take i).length c ∧ Hid (wr.ownsRow w2.heap.size 103 2 (.slice a (l1 ++ (piecesL nn b).take i).length c) (l1 ++ (piecesL nn b).take i).length (pieceCells (l1 ++ (piecesL nn b).take i))) ∧ Hid (TwoB w ⟨⟨safe1, l1, left1, fuse1, off1⟩, .slice sa k1 sc, .slice la k2 lc⟩ wr) ∧ Hid (w2.heap.size ≤ wr.heap.size)) (fun _ vi _ => 4 - (intOf vi).toNat)
      case atStart => exact ⟨0, ca, cc, rfl, Nat.zero_le _, by rw [hlen0], HO, T4, HB3⟩
      case round =>
        clear HO T4 hlen0 HB3
        obtain ⟨i, a, c, rfl, hi, rfl, HO, HT4, HS4⟩ := hrel
        by_cases hlt : i < 4
        · have hpl := pieces_len nn b
          have hll : (l1 ++ (piecesL nn b).take i).length ≤ 100010 := by rw [List.length_append, List.length_take]; omega
          have hcv := cut_bytes (cap := bc) HB256.out (by rw [HB256.out]; exact HCAP.out) (HBC.out wr HT4.out.l) i hlt
          obtain ⟨a', c', w', hr, ho, hb⟩ := append_piece wr w2.heap.size _ (l1 ++ (piecesL nn b).take i) (nn * 4 + i) (cutB b i) HO.out (by omega) HS4.out
          rw [List.append_assoc, ← take_pieces nn b i hlt] at hr ho
          have HO2 := hide ho
          have HT5 : Hid (TwoB w ⟨⟨safe1, l1, left1, fuse1, off1⟩, .slice sa k1 sc, .slice la k2 lc⟩ w') := hide (TwoB.onB HT4.out (fun W hW => HI0.out W hW) HSZ2.out HS4.out hb)
          have HS5 := hide (Nat.le_trans HS4.out hb.size)
          clear ho hb HO HT4 HS4 hpl hll
          generalize (⟨(cutB b i).toArray⟩ : ByteArray) = X at *
          generalize hL1 : (l1 ++ (piecesL nn b).take i).length = L1 at *
          generalize hL2 : (l1 ++ (piecesL nn b).take (i + 1)).length = L2 at *
          have hw1 : wrap64 ((nn : Int) * 4) = (nn : Int) * 4 := by unfold wrap64; omega
          have hw0 : (nn : Int) ≤ 100000 := by omega
          have hbc1 : (256 : Int) ≤ bc := by have := HCAP.out; omega
          clear hL1
          rcases (by omega : i = 0 ∨ i = 1 ∨ i = 2 ∨ i = 3) with rfl | rfl | rfl | rfl
          · have hkx : (nn : Int) * 4 = ((nn * 4 + 0 : Nat) : Int) := by omega
            generalize nn * 4 + 0 = kk at *
            have hkk : (kk : Int) ≤ 1000000 := by omega
            simp only [Nat.zero_mul, Nat.one_mul, Nat.add_zero, Nat.reduceMul, Nat.sub_zero] at hcv
            go_wp2_with (at_builtin; refine Lib.wpList_append_run _ rfl (.tmp 37) (.tmp 51) _ _ rfl _ _ rfl rfl _ _ hr ?_)
            go_roundw
            case rel => exact ⟨0 + 1, a', c', by go_num, by omega, by rw [hL2], by rw [hL2]; exact HO2, HT5, HS5⟩
            case measure => simp [intOf]
          · have hkx : (nn : Int) * 4 + 1 = ((nn * 4 + 1 : Nat) : Int) := by omega
            generalize nn * 4 + 1 = kk at *
            have hkk : (kk : Int) ≤ 1000000 := by omega
            simp only [Nat.zero_mul, Nat.one_mul, Nat.add_zero, Nat.reduceMul, Nat.sub_zero] at hcv
            go_wp2_with (at_builtin; refine Lib.wpList_append_run _ rfl (.tmp 37) (.tmp 51) _ _ rfl _ _ rfl rfl _ _ hr ?_)
            go_roundw
            case rel => exact ⟨1 + 1, a', c', by go_num, by omega, by rw [hL2], by rw [hL2]; exact HO2, HT5, HS5⟩
            case measure => simp [intOf]
          · have hkx : (nn : Int) * 4 + 2 = ((nn * 4 + 2 : Nat) : Int) := by omega
            generalize nn * 4 + 2 = kk at *
            have hkk : (kk : Int) ≤ 1000000 := by omega
            simp only [Nat.zero_mul, Nat.one_mul, Nat.add_zero, Nat.reduceMul, Nat.sub_zero] at hcv
            go_wp2_with (at_builtin; refine Lib.wpList_append_run _ rfl (.tmp 37) (.tmp 51) _ _ rfl _ _ rfl rfl _ _ hr ?_)
            go_roundw
            case rel => exact ⟨2 + 1, a', c', by go_num, by omega, by rw [hL2], by rw [hL2]; exact HO2, HT5, HS5⟩
            case measure => simp [intOf]
          · have hkx : (nn : Int) * 4 + 3 = ((nn * 4 + 3 : Nat) : Int) := by omega
            generalize nn * 4 + 3 = kk at *
            have hkk : (kk : Int) ≤ 1000000 := by omega
            simp only [Nat.zero_mul, Nat.one_mul, Nat.add_zero, Nat.reduceMul, Nat.sub_zero] at hcv
            go_wp2_with (at_builtin; refine Lib.wpList_append_run _ rfl (.tmp 37) (.tmp 51) _ _ rfl _ _ rfl rfl _ _ hr ?_)
            go_roundw
            case rel => exact ⟨3 + 1, a', c', by go_num, by omega, by rw [hL2], by rw [hL2]; exact HO2, HT5, HS5⟩
            case measure => simp [intOf]
        · have hlt2 : ¬ (i : Int) < 4 := by omega
          obtain rfl : i = 4 := by omega
          have ht : (piecesL nn b).take 4 = piecesL nn b := List.take_of_length_le (by rw [pieces_len]; omega)
          rw [ht] at HO
          rw [ht]
          have t5 := HT4.out.cell1 _ _ (owns_isP HO.out)
          obtain ⟨x0, x1, x2, x3, x4, f0, f1, f2, f3, f4⟩ := dk_cells HT4.out.a
          obtain ⟨y0, y1, y2, y3, y4, g0, g1, g2, g3, g4⟩ := dk_cells HT4.out.b
          simp only [zeroDV] at x0 x1 x2 x3 x4 y0 y1 y2 y3 y4
          have ZZ := hide (t5.done (⟨safe1, l1 ++ piecesL nn b, left1, fuse1, off1⟩, 0) rfl)
          simp only [] at ZZ
          clear t5 HO HT4 HS4
          generalize (l1 ++ piecesL nn b).length = LL at *
          go_wp2
          refine bodyPost_ret (v := .tuple #[.agg #[.slice sa k1 sc, .slice a LL c, .int .i64 left1, .bool fuse1, .bool off1], .int .i64 0]) ?_ rfl (ZZ.out _ _ _ _ _)
          simp [results, Try.results34, go_sem, y0, y1, y2, y3, y4]
  · have hf : (IN && decide (b.length = 256)) = false := by
      cases IN
      · rfl
      · rw [Bool.true_and, decide_eq_false (fun h => hgo ⟨rfl, h⟩)]
    rw [hf, if_neg (by simp)]
    cases IN
    · clear hin hgo hf
      go_enter Try.func34, Try.ntmps34
      go_wp2_with fail
      refine HIS.out.mono ?_
      rintro e w1 ⟨rfl, b1⟩
      have t1 := HT.out w1 b1
      obtain ⟨x0, x1, x2, x3, x4, f0, f1, f2, f3, f4⟩ := dk_cells t1.a
      obtain ⟨y0, y1, y2, y3, y4, g0, g1, g2, g3, g4⟩ := dk_cells t1.b
      simp only [zeroDV] at x0 x1 x2 x3 x4 y0 y1 y2 y3 y4
      have ZZ := hide (t1.done (⟨safe, l, left, fuse, off⟩, 1) rfl)
      simp only [] at ZZ
      clear t1 HT HI1 HS HIS b1
      go_wp2
      refine bodyPost_ret (v := .tuple #[.agg #[.slice sa k1 sc, .slice la k2 lc, .int .i64 left, .bool fuse, .bool off], .int .i64 1]) ?_ rfl (ZZ.out _ _ _ _ _)
      simp [results, Try.results34, go_sem, y0, y1, y2, y3, y4]
    · have hbn : ((b.length : Int) != 256) = true := by
        rw [bne_iff_ne]
        intro h
        exact hgo ⟨rfl, by omega⟩
      clear hin hgo hf
      go_enter Try.func34, Try.ntmps34
      go_wp2_with fail
      refine HIS.out.mono ?_
      rintro e w1 ⟨rfl, b1⟩
      have t1 := HT.out w1 b1
      obtain ⟨x0, x1, x2, x3, x4, f0, f1, f2, f3, f4⟩ := dk_cells t1.a
      obtain ⟨y0, y1, y2, y3, y4, g0, g1, g2, g3, g4⟩ := dk_cells t1.b
      simp only [zeroDV] at x0 x1 x2 x3 x4 y0 y1 y2 y3 y4
      have ZZ := hide (t1.done (⟨safe, l, left, fuse, off⟩, 1) rfl)
      simp only [] at ZZ
      clear t1 HT HI1 HS HIS b1
      generalize b.length = bl at *
      go_wp2
      refine bodyPost_ret (v := .tuple #[.agg #[.slice sa k1 sc, .slice la k2 lc, .int .i64 left, .bool fuse, .bool off], .int .i64 1]) ?_ rfl (ZZ.out _ _ _ _ _)
      simp [results, Try.results34, go_sem, y0, y1, y2, y3, y4]
end Go.Proofs.Ythpepkfodcgbcaa
/- What the document's nought and Block answer. -/
set_option linter.unusedVariables false
set_option linter.unusedSimpArgs false
set_option maxRecDepth 40000
namespace Go.Proofs.Ythpepkfodcgbcaa
open Go.RowKit

theorem made_bytes (n : Nat) : (madeCells (Value.int .u8 0).cells (n * 1)).toList = bytesV (List.replicate n 0) := by
  rw [Nat.mul_one]
  have h := toList_madeCells_one (Value.int .u8 0) n
  rw [show (Value.int .u8 0).cells = #[Value.int .u8 0] from rfl, h]
  unfold bytesV
  rw [List.map_replicate]
  rfl
theorem make_bytes (w : World) (n : Nat) (hn : n ≤ 1000000) : ∃ w1, (Instr.makeSlice 43 (.int .i64 (n : Int)) (.int .i64 (n : Int))).run Try.prog w = .ok (.slice (some ⟨w.heap.size, 0, none⟩) n n) w1 ∧ w1.ownsRow w.heap.size 5 1 (.slice (some ⟨w.heap.size, 0, none⟩) n n) n (bytesV (List.replicate n 0)) ∧ Below w.heap.size w w1 := by
  obtain ⟨w1, h1, h2, h3⟩ := run_make_full (P := Try.prog) w w.heap.size 43 5 Try.t5 (.int .u8 0) 1 Try.underlying43 (by kernel_rfl) (by kernel_rfl) (by kernel_rfl) .i64 .i64 n (by rw [show Try.t5.bytes = 1 from by kernel_rfl]; omega) (by unfold maxLen; omega) (Nat.le_refl _)
  rw [made_bytes] at h2
  exact ⟨w1, h1, h2, (Below.refl _ w).grown h3 (Nat.le_refl _) (fun k hk => by cases hk)⟩
theorem own_cells {w : World} {B g cap : Nat} {l : Bs} (h : w.ownsRow B 5 1 (.slice (some ⟨g, 0, none⟩) l.length cap) l.length (bytesV l)) : ∀ j (hj : j < l.length), w.cell? ⟨g, 0 + j, none⟩ = some (.int .u8 (l[j].toNat : Int)) := fun j hj => by
  rw [Nat.zero_add, h.cellAt j (by omega)]
  unfold bytesV
  rw [List.getElem?_map, List.getElem?_eq_getElem hj]
  rfl
set_option maxHeartbeats 1000000 in
theorem rnought_any (w : World) : Calls Try.prog 37 #[] w fun e w' => e = .returned (.string ⟨noughtB.toArray⟩) ∧ Below w.heap.size w w' := by
  obtain ⟨w1, h1, h2, h3⟩ := make_bytes w 64 (by omega)
  have hc := conv_bytes w1 w.heap.size 0 64 noughtB (own_cells (l := noughtB) h2)
  rw [show noughtB.length = 64 from rfl] at hc
  have h1' : (Instr.makeSlice 43 (.int .i64 64) (.int .i64 64)).run Try.prog w = .ok (.slice (some ⟨w.heap.size, 0, none⟩) 64 64) w1 := h1
  have BB := hide h3
  clear h1 h2 h3
  generalize (⟨noughtB.toArray⟩ : ByteArray) = Z at *
  go_enter Try.func37, Try.ntmps37
  go_wp2
  go_ret
  exact ⟨rfl, BB.out⟩
def blkP (b : Bs) (i : Nat) : Bs := (List.range 256).map fun j => if j < i then b.getD (j % b.length) 0 else 0
theorem blk_len (b : Bs) (i : Nat) : (blkP b i).length = 256 := by unfold blkP; simp
theorem blk_get (b : Bs) (i j : Nat) (h : j < (blkP b i).length) : (blkP b i)[j] = if j < i then b.getD (j % b.length) 0 else 0 := by simp [blkP]
theorem blk_start (b : Bs) : blkP b 0 = List.replicate 256 0 := by
  apply List.ext_getElem
  · rw [blk_len, List.length_replicate]
  · intro j h1 h2
    rw [blk_get, List.getElem_replicate, if_neg (by omega)]
theorem blk_end (b : Bs) : blkP b 256 = blockB b := by
  unfold blkP blockB
  apply List.map_congr_left
  intro j hj
  rw [if_pos (List.mem_range.1 hj)]
theorem blk_none (i : Nat) : blkP [] i = blockB [] := by
  unfold blkP blockB
  apply List.map_congr_left
  intro j hj
  simp
theorem blk_step (b : Bs) (i : Nat) (h : i < 256) (hb : i % b.length < b.length) : blkP b (i + 1) = (blkP b i).set i b[i % b.length] := by
  apply List.ext_getElem
  · rw [List.length_set, blk_len, blk_len]
  · intro j h1 h2
    rw [List.getElem_set, blk_get, blk_get]
    rw [blk_len] at h1
    by_cases hj : i = j
    · subst hj
      rw [if_pos rfl, if_pos (by omega), List.getD_eq_getElem?_getD, List.getElem?_eq_getElem hb]
      rfl
    · rw [if_neg hj]
      by_cases hji : j < i
      · rw [if_pos hji, if_pos (by omega)]
      · rw [if_neg hji, if_neg (by omega)]
theorem bytesV_set (l : Bs) (j : Nat) (x : UInt8) : bytesV (l.set j x) = (bytesV l).set j (.int .u8 (x.toNat : Int)) := by
  unfold bytesV
  rw [List.map_set]
end Go.Proofs.Ythpepkfodcgbcaa
/- What the statements' own small, pick and bytes answer. -/
set_option linter.unusedVariables false
set_option linter.unusedSimpArgs false
set_option maxRecDepth 40000
namespace Go.Proofs.Ythpepkfodcgbcaa
open Go.RowKit

abbrev acC (a : AV) : Array Value := #[.int .i64 a.kind, .int .i64 a.n, a.bv, .bool a.short, a.kv]
abbrev acA (a : AV) : Value := .agg (acC a)
/-- What an act writes. -/
def acB (a : AV) : Bs := if a.short then a.b else blockB a.b
def smallA (a : AV) : Bool := decide (a.b.length ≤ 300) && decide (a.keep.length ≤ 300)
theorem pick_bound (n : Int) (k : Int) (hk : 0 < k) : 0 ≤ (n.tmod k + k).tmod k ∧ (n.tmod k + k).tmod k < k := by
  have h1 : -k < n.tmod k ∧ n.tmod k < k := by
    rcases Int.le_total 0 n with h | h
    · have := Int.tmod_lt_of_pos n hk
      have := Int.tmod_nonneg k h
      omega
    · have := Int.tmod_lt_of_pos n hk
      have h3 := Int.tmod_nonneg k (show 0 ≤ -n by omega)
      have h4 := Int.tmod_lt_of_pos (-n) hk
      rw [Int.neg_tmod] at h3 h4
      omega
  exact ⟨Int.tmod_nonneg k (by omega), Int.tmod_lt_of_pos _ hk⟩
def pickN (n k : Int) : Int := (n.tmod k + k).tmod k
end Go.Proofs.Ythpepkfodcgbcaa
/- What the document's New answers. -/
set_option linter.unusedVariables false
set_option linter.unusedSimpArgs false
set_option maxRecDepth 40000
namespace Go.Proofs.Ythpepkfodcgbcaa
open Go.RowKit

def newR (n : Int) : DM × Int := if 1 ≤ n ∧ n ≤ 4096 then (newD n.toNat, 0) else ({ safe := [] }, 1)
/-- A disk that is being made. -/
structure NewS (w : World) (i : Nat) (v : Value) (wr : World) : Prop where
  z : wr.heap[w.heap.size]? = some (.cells (dkC zeroDV) 31 (0, 0))
  d : wr.heap[w.heap.size + 1]? = some (.cells (dkC ⟨{ safe := List.replicate i noughtB }, v, .slice none 0 0⟩) 31 (0, 0))
  o : wr.ownsRow (w.heap.size + 2) 9 1 v i (textsV (List.replicate i noughtB))
  b : Below w.heap.size w wr
  s : w.heap.size + 2 ≤ wr.heap.size
theorem NewS.step {w wr w' : World} {i : Nat} {v v' : Value} (h : NewS w i v wr) (ho : w'.ownsRow (w.heap.size + 2) 9 1 v' (i + 1) (textsV (List.replicate i noughtB) ++ [.string ⟨noughtB.toArray⟩])) (hb : Below (w.heap.size + 2) wr w') : NewS w (i + 1) v' (w'.setCell ⟨w.heap.size + 1, 0, none⟩ v') := by
  have ht : textsV (List.replicate (i + 1) noughtB) = textsV (List.replicate i noughtB) ++ [.string ⟨noughtB.toArray⟩] := by
    rw [List.replicate_succ', textsV_app]
    rfl
  have hs := h.s
  have o1 : ∀ k, k ≠ w.heap.size + 1 → (w'.setCell ⟨w.heap.size + 1, 0, none⟩ v').heap[k]? = w'.heap[k]? := fun k hk => Below.heap_setCell _ _ _ _ hk
  refine ⟨(o1 _ (by omega)).trans ((hb.block _ (by omega)).trans h.z), ?_, ?_, (h.b.trans (hb.mono (by omega))).setCell (p := ⟨w.heap.size + 1, 0, none⟩) (Nat.le_succ _) _, ?_⟩
  · rw [setCell_box ((hb.block (w.heap.size + 1) (by omega)).trans h.d) 0 v']
    rfl
  · rw [ht]
    exact ownsRow_setCell_below ho (show w.heap.size + 1 < w.heap.size + 2 by omega) v'
  · have := hb.size
    simp [World.setCell]
    omega
theorem NewS.done {w wr : World} {n : Nat} {v : Value} (h : NewS w (n * 4) v wr) (v0 v1 v2 v3 v4 : Value) : DiskR w (newD n, 0) (.returned (.tuple #[.agg #[v, .slice none 0 0, .int .i64 0, .bool false, .bool false], .int .i64 0])) (set5 wr w.heap.size v0 v1 v2 v3 v4) :=
  ⟨⟨newD n, v, .slice none 0 0⟩, rfl, rfl, ⟨(owns_isW h.o).1.but (noStr_dk (isD_zero w) h.z) (set5_other wr _ v0 v1 v2 v3 v4), .inl ⟨rfl, _, _, rfl⟩⟩, below_set5 (Nat.le_refl _) h.b _ _ _ _ _⟩
set_option maxHeartbeats 4000000 in
theorem rnew_any (n : Int) (w : World) : Calls Try.prog 10 #[.int .i64 n] w fun e w' => DiskR w (newR n) e w' := by
  by_cases hn : 1 ≤ n ∧ n ≤ 4096
  · rw [show newR n = (newD n.toNat, 0) from if_pos hn]
    obtain ⟨hn1, hn2⟩ := hn
    obtain ⟨nn, rfl⟩ : ∃ nn : Nat, n = nn := ⟨n.toNat, by omega⟩
    rw [Int.toNat_natCast]
    have hna : ¬ (nn : Int) < 1 := by omega
    have hnb : ¬ (4096 : Int) < nn := by omega
    have hb0 := below_alloc w (.cells (dkC zeroDV) 31)
    have hb1 := hb0.trans ((below_alloc (w.alloc (.cells (dkC zeroDV) 31)) (.cells (dkC zeroDV) 31)).mono hb0.size)
    have s1 : (w.alloc (.cells (dkC zeroDV) 31)).heap.size = w.heap.size + 1 := by simp
    have s2 : ((w.alloc (.cells (dkC zeroDV) 31)).alloc (.cells (dkC zeroDV) 31)).heap.size = w.heap.size + 2 := by simp
    have HNG := hide (rnought_any ((w.alloc (.cells (dkC zeroDV) 31)).alloc (.cells (dkC zeroDV) 31)))
    have HST : Hid (∀ x, Below ((w.alloc (.cells (dkC zeroDV) 31)).alloc (.cells (dkC zeroDV) 31)).heap.size ((w.alloc (.cells (dkC zeroDV) 31)).alloc (.cells (dkC zeroDV) 31)) x → NewS w 0 (.slice none 0 0) x) := hide (fun x hb => by
      refine ⟨(hb.block _ (by omega)).trans (((below_alloc (w.alloc (.cells (dkC zeroDV) 31)) (.cells (dkC zeroDV) 31)).block _ (by omega)).trans (alloc_new w _)), ?_, ⟨rfl, .inl ⟨rfl, rfl⟩⟩, hb1.trans (hb.mono hb1.size), by have := hb.size; omega⟩
      rw [← s1]
      exact (hb.block _ (by omega)).trans (alloc_new _ _))
    have HAP : Hid (∀ i v wr, i ≤ 100000 → NewS w i v wr → ∃ a c w', (Builtin.append_ #[28, 28] 28 #[v, .slice (some ⟨wr.heap.size, 0, none⟩) 1 1]).run Try.prog (wr.alloc (.cells #[.string ⟨noughtB.toArray⟩] 9)) = .ok (.slice a (i + 1) c) w' ∧ NewS w (i + 1) (.slice a (i + 1) c) (w'.setCell ⟨w.heap.size + 1, 0, none⟩ (.slice a (i + 1) c)) ∧ w'.cell? ⟨w.heap.size + 1, 0, none⟩ = some v ∧ w'.frozen? ⟨w.heap.size + 1, 0, none⟩ = false ∧ (wr.alloc (.cells #[.string ⟨noughtB.toArray⟩] 9)).cell? ⟨w.heap.size + 1, 0, none⟩ = some v) := hide (fun i v wr hi h => by
      obtain ⟨v', w', hr, ho, hb⟩ := append_text wr (w.heap.size + 2) i v (textsV (List.replicate i noughtB)) ⟨noughtB.toArray⟩ wr.heap.size rfl h.o (by omega) h.s
      obtain ⟨a, c, rfl⟩ := owns_formG ho
      have hd := (hb.block (w.heap.size + 1) (by omega)).trans h.d
      obtain ⟨c0, _, _, _, _, f0, _⟩ := dk_cells hd
      have cw := (dk_cells h.d).1
      exact ⟨a, c, w', hr, h.step ho hb, c0, f0, ((below_alloc wr _).cell (cell_lt cw)).trans cw⟩)
    clear hb0 hb1 s1 s2 hn1
    generalize (⟨noughtB.toArray⟩ : ByteArray) = Zs at *
    go_enter Try.func10, Try.ntmps10
    go_wp2_with fail
    refine HNG.out.mono ?_
    rintro e w1 ⟨rfl, b1⟩
    have HS := hide (HST.out w1 b1)
    clear b1 HST HNG
    go_wp2
    go_loopw [6] (fun vi wr => ∃ (i : Nat) (a : Option Addr) (c : Nat), vi = .int .i64 (i : Int) ∧ i ≤ nn * 4 ∧ Hid (NewS w i (.slice a i c) wr)) (fun vi _ => nn * 4 - (intOf vi).toNat)
    case atStart => exact ⟨0, none, 0, rfl, Nat.zero_le _, HS⟩
    case round =>
      clear HS
      obtain ⟨i, a, c, rfl, hi, HS⟩ := hrel
      obtain ⟨x0, x1, x2, x3, x4, g0, g1, g2, g3, g4⟩ := dk_cells HS.out.d
      obtain ⟨y0, y1, y2, y3, y4, f0, f1, f2, f3, f4⟩ := dk_cells HS.out.z
      simp only [zeroDV] at x0 x1 x2 x3 x4 y0 y1 y2 y3 y4
      have hw1 : wrap64 ((nn : Int) * 4) = (nn : Int) * 4 := by unfold wrap64; omega
      by_cases hlt : i < nn * 4
      · have hlt2 : (i : Int) < (nn : Int) * 4 := by omega
        obtain ⟨a', c', w', hr, hs', q0, q1, q2⟩ := HAP.out i _ wr (by omega) HS.out
        have HS2 := hide hs'
        clear hs' y0 y1 y2 y3 y4 f0 f1 f2 f3 f4 x1 x2 x3 x4 g0 g1 g2 g3 g4
        go_wp2_with (at_builtin; refine Lib.wpList_append_run _ rfl (.tmp 23) (.tmp 25) _ _ rfl _ _ rfl rfl _ _ hr ?_)
        go_roundw
        case rel => exact ⟨i + 1, a', c', by go_num, by omega, HS2⟩
        case measure => simp [intOf]; omega
      · have hlt2 : ¬ (i : Int) < (nn : Int) * 4 := by omega
        obtain rfl : i = nn * 4 := by omega
        have ZZ := hide HS.out.done
        clear HS HAP hw1
        generalize hk : nn * 4 = kk at *
        go_wp2
        refine bodyPost_ret (v := .tuple #[.agg #[.slice a kk c, .slice none 0 0, .int .i64 0, .bool false, .bool false], .int .i64 0]) ?_ rfl (ZZ.out _ _ _ _ _)
        simp [results, Try.results10, go_sem, y0, y1, y2, y3, y4]
  · rw [show newR n = ({ safe := [] }, 1) from if_neg hn]
    have HF : Hid (DiskR w ({ safe := [] }, 1) (.returned (.tuple #[.agg #[.slice none 0 0, .slice none 0 0, .int .i64 0, .bool false, .bool false], .int .i64 1])) (w.alloc (.cells (dkC zeroDV) 31))) := hide ⟨zeroDV, rfl, rfl, isD_zero _, below_alloc w _⟩
    by_cases h1 : n < 1
    · clear hn
      go_enter Try.func10, Try.ntmps10
      go_wp2
      refine bodyPost_ret (v := .tuple #[.agg #[.slice none 0 0, .slice none 0 0, .int .i64 0, .bool false, .bool false], .int .i64 1]) ?_ rfl HF.out
      simp [results, Try.results10, go_sem]
    · have h2 : (4096 : Int) < n := by omega
      clear hn
      go_enter Try.func10, Try.ntmps10
      go_wp2
      refine bodyPost_ret (v := .tuple #[.agg #[.slice none 0 0, .slice none 0 0, .int .i64 0, .bool false, .bool false], .int .i64 1]) ?_ rfl HF.out
      simp [results, Try.results10, go_sem]
end Go.Proofs.Ythpepkfodcgbcaa
/- Disks over lists: what stays as it should be; what is safe. No program in it. -/
set_option linter.unusedVariables false
set_option linter.unusedSimpArgs false
namespace Go.Proofs.Ythpepkfodcgbcaa

theorem cutB_len (b : Bs) (hb : b.length = 256) (i : Nat) (hi : i < 4) : (cutB b i).length = 64 := by
  unfold cutB
  rw [List.length_take, List.length_drop]
  omega
theorem mem_pieces {n : Nat} {b : Bs} {p : Nat × Bs} (h : p ∈ piecesL n b) : ∃ i, i < 4 ∧ p = (n * 4 + i, cutB b i) := by
  unfold piecesL at h
  obtain ⟨i, hi, rfl⟩ := List.mem_map.1 h
  exact ⟨i, List.mem_range.1 hi, rfl⟩
theorem isD_iff {d : DM} {n : Int} : isD d n = true ↔ 0 ≤ n ∧ n < ((d.safe.length / 4 : Nat) : Int) := by
  unfold isD
  simp only [Bool.and_eq_true, decide_eq_true_eq]
theorem sp_lists (d : DM) : (spendD d).1.safe = d.safe ∧ (spendD d).1.l = d.l := by
  unfold spendD
  split
  · exact ⟨rfl, rfl⟩
  · simp only []
    split <;> exact ⟨rfl, rfl⟩
theorem ok_new (n : Nat) : OkD (newD n) := by
  refine ⟨fun p hp => (by cases hp), fun x hx => ?_, fun p hp => (by cases hp), ?_⟩
  · rw [(List.mem_replicate.1 hx).2]
    rfl
  · show (List.replicate (n * 4) noughtB).length % 4 = 0
    rw [List.length_replicate]
    omega
theorem ok_spend {d : DM} (h : OkD d) : OkD (spendD d).1 := by
  obtain ⟨e1, e2⟩ := sp_lists d
  exact ⟨by rw [e1, e2]; exact h.at_, by rw [e1]; exact h.safe, by rw [e2]; exact h.len, by rw [e1]; exact h.four⟩
theorem ok_write {d : DM} (h : OkD d) (n : Int) (b : Bs) : OkD (writeD d n b).1 := by
  unfold writeD
  split
  · next hw =>
    simp only [Bool.and_eq_true, decide_eq_true_eq] at hw
    obtain ⟨hi, hb⟩ := hw
    obtain ⟨h0, h1⟩ := isD_iff.1 hi
    split
    · have hs := ok_spend h
      obtain ⟨e1, e2⟩ := sp_lists d
      refine ⟨fun p hp => ?_, hs.safe, fun p hp => ?_, hs.four⟩
      · rcases List.mem_append.1 hp with hp | hp
        · exact hs.at_ p hp
        · obtain ⟨i, hi4, rfl⟩ := mem_pieces hp
          show n.toNat * 4 + i < (spendD d).1.safe.length
          rw [e1]
          omega
      · rcases List.mem_append.1 hp with hp | hp
        · exact hs.len p hp
        · obtain ⟨i, hi4, rfl⟩ := mem_pieces hp
          exact cutB_len b hb i hi4
    · exact ok_spend h
  · exact h
theorem put_mem {s : List Bs} {p : Nat × Bs} {x : Bs} (h : x ∈ putS s p) : x ∈ s ∨ x = p.2 := List.mem_or_eq_of_mem_set h
theorem nowL_mem : ∀ (l : List (Nat × Bs)) (s : List Bs) (x : Bs), x ∈ nowL s l → x ∈ s ∨ ∃ p ∈ l, x = p.2
  | [], s, x, h => .inl h
  | p :: r, s, x, h => by
    rcases nowL_mem r (putS s p) x h with h | ⟨q, hq, rfl⟩
    · rcases put_mem h with h | rfl
      · exact .inl h
      · exact .inr ⟨p, List.mem_cons_self .., rfl⟩
    · exact .inr ⟨q, List.mem_cons_of_mem _ hq, rfl⟩
theorem crashL_mem : ∀ (l : List (Nat × Bs)) (k : List Bool) (s : List Bs) (x : Bs), x ∈ crashL s l k → x ∈ s ∨ ∃ p ∈ l, x = p.2
  | [], _, s, x, h => by cases ‹List Bool› <;> exact .inl h
  | p :: r, [], s, x, h => .inl h
  | p :: r, b :: k, s, x, h => by
    rcases crashL_mem r k (if b then putS s p else s) x h with h | ⟨q, hq, rfl⟩
    · cases b
      · exact .inl h
      · rcases put_mem h with h | rfl
        · exact .inl h
        · exact .inr ⟨p, List.mem_cons_self .., rfl⟩
    · exact .inr ⟨q, List.mem_cons_of_mem _ hq, rfl⟩
theorem ok_flush {d : DM} (h : OkD d) : OkD (flushD d).1 := by
  unfold flushD
  have hs := ok_spend h
  split
  · refine ⟨fun p hp => (by cases hp), fun x hx => ?_, fun p hp => (by cases hp), ?_⟩
    · rcases nowL_mem _ _ _ hx with hx | ⟨p, hp, rfl⟩
      · exact hs.safe x hx
      · exact hs.len p hp
    · show (nowD (spendD d).1).length % 4 = 0
      unfold nowD
      rw [nowL_len]
      exact hs.four
  · exact hs
theorem ok_arm {d : DM} (h : OkD d) (k : Int) : OkD (armD d k) := by
  unfold armD
  split
  · exact h
  · exact ⟨h.at_, h.safe, h.len, h.four⟩
theorem ok_crash {d : DM} (h : OkD d) (k : List Bool) : OkD (crashD d k) := by
  refine ⟨fun p hp => (by cases hp), fun x hx => ?_, fun p hp => (by cases hp), ?_⟩
  · rcases crashL_mem _ _ _ _ hx with hx | ⟨p, hp, rfl⟩
    · exact h.safe x hx
    · exact h.len p hp
  · show (crashL d.safe d.l k).length % 4 = 0
    rw [crashL_len]
    exact h.four
/-! Safe: a block that was flushed, and not written since. -/
/-- The sectors of block n are those of b, and none of them is pending. -/
structure KeepB (n : Nat) (b : Bs) (d : DM) : Prop where
  s : ∀ i, i < 4 → d.safe[n * 4 + i]? = some (cutB b i)
  l : ∀ p ∈ d.l, p.1 / 4 ≠ n
theorem put_other {s : List Bs} {p : Nat × Bs} {j : Nat} (h : p.1 ≠ j) : (putS s p)[j]? = s[j]? := by
  unfold putS
  rw [List.getElem?_set]
  rw [if_neg h]
theorem now_other : ∀ (l : List (Nat × Bs)) (s : List Bs) (j : Nat), (∀ p ∈ l, p.1 ≠ j) → (nowL s l)[j]? = s[j]?
  | [], s, j, _ => rfl
  | p :: r, s, j, h => by
    show (nowL (putS s p) r)[j]? = _
    rw [now_other r _ j fun q hq => h q (List.mem_cons_of_mem _ hq), put_other (h p (List.mem_cons_self ..))]
theorem crash_other : ∀ (l : List (Nat × Bs)) (k : List Bool) (s : List Bs) (j : Nat), (∀ p ∈ l, p.1 ≠ j) → (crashL s l k)[j]? = s[j]?
  | [], _, s, j, _ => by cases ‹List Bool› <;> rfl
  | p :: r, [], s, j, _ => rfl
  | p :: r, b :: k, s, j, h => by
    show (crashL (if b then putS s p else s) r k)[j]? = _
    rw [crash_other r k _ j fun q hq => h q (List.mem_cons_of_mem _ hq)]
    cases b
    · rfl
    · exact put_other (h p (List.mem_cons_self ..))
theorem keep_spend {n : Nat} {b : Bs} {d : DM} (h : KeepB n b d) : KeepB n b (spendD d).1 := by
  obtain ⟨e1, e2⟩ := sp_lists d
  exact ⟨by rw [e1]; exact h.s, by rw [e2]; exact h.l⟩
theorem keep_now {n : Nat} {b : Bs} {d : DM} (h : KeepB n b d) (i : Nat) (hi : i < 4) : (nowD d)[n * 4 + i]? = some (cutB b i) := by
  unfold nowD
  rw [now_other d.l d.safe _ fun p hp e => h.l p hp (by omega)]
  exact h.s i hi
theorem keep_write {n : Nat} {b : Bs} {d : DM} (h : KeepB n b d) (m : Int) (hm : m ≠ n) (c : Bs) : KeepB n b (writeD d m c).1 := by
  unfold writeD
  split
  · next hw =>
    simp only [Bool.and_eq_true, decide_eq_true_eq] at hw
    obtain ⟨h0, h1⟩ := isD_iff.1 hw.1
    have hs := keep_spend h
    split
    · refine ⟨hs.s, fun p hp => ?_⟩
      rcases List.mem_append.1 hp with hp | hp
      · exact hs.l p hp
      · obtain ⟨i, hi, rfl⟩ := mem_pieces hp
        show (m.toNat * 4 + i) / 4 ≠ n
        omega
    · exact hs
  · exact h
theorem keep_flush {n : Nat} {b : Bs} {d : DM} (h : KeepB n b d) : KeepB n b (flushD d).1 := by
  unfold flushD
  have hs := keep_spend h
  split
  · exact ⟨fun i hi => keep_now hs i hi, fun p hp => by cases hp⟩
  · exact hs
theorem keep_arm {n : Nat} {b : Bs} {d : DM} (h : KeepB n b d) (k : Int) : KeepB n b (armD d k) := by
  unfold armD
  split
  · exact h
  · exact ⟨h.s, h.l⟩
theorem keep_crash {n : Nat} {b : Bs} {d : DM} (h : KeepB n b d) (k : List Bool) : KeepB n b (crashD d k) := by
  refine ⟨fun i hi => ?_, fun p hp => by cases hp⟩
  show (crashL d.safe d.l k)[n * 4 + i]? = _
  rw [crash_other d.l k d.safe _ fun p hp e => h.l p hp (by omega)]
  exact h.s i hi
theorem cuts_all (b : Bs) (hb : b.length = 256) : cutB b 0 ++ (cutB b 1 ++ (cutB b 2 ++ cutB b 3)) = b := by
  unfold cutB
  have h3 : (b.drop (3 * 64)).take 64 = b.drop 192 := List.take_of_length_le (by rw [List.length_drop]; omega)
  rw [h3]
  have e2 : (b.drop (2 * 64)).take 64 ++ b.drop 192 = b.drop 128 := by
    have := List.take_append_drop 64 (b.drop 128)
    rw [List.drop_drop] at this
    exact this
  rw [e2]
  have e1 : (b.drop (1 * 64)).take 64 ++ b.drop 128 = b.drop 64 := by
    have := List.take_append_drop 64 (b.drop 64)
    rw [List.drop_drop] at this
    exact this
  rw [e1]
  simp
/-- What is kept is read. -/
theorem keep_read {n : Nat} {b : Bs} {d : DM} (h : KeepB n b d) (hb : b.length = 256) (ho : d.off = false) (hn : n * 4 + 4 ≤ d.safe.length) : readD d (n : Int) = (b, 0) := by
  have hi : isD d (n : Int) = true := isD_iff.2 ⟨by omega, by omega⟩
  unfold readD
  rw [hi, if_pos rfl, ho, if_neg (by simp), Int.toNat_natCast]
  have hl : (nowD d).length = d.safe.length := nowL_len _ _
  have hg : ∀ i (hi : i < 4), (nowD d)[n * 4 + i]'(by omega) = cutB b i := fun i hi => by
    have := keep_now h i hi
    rw [List.getElem?_eq_getElem (by omega)] at this
    exact Option.some.inj this
  have e : ((nowD d).drop (n * 4)).take 4 = [cutB b 0, cutB b 1, cutB b 2, cutB b 3] := by
    rw [List.drop_eq_getElem_cons (by omega), List.drop_eq_getElem_cons (by omega), List.drop_eq_getElem_cons (by omega), List.drop_eq_getElem_cons (by omega)]
    simp only [List.take_succ_cons, List.take_zero]
    rw [← hg 0 (by omega), ← hg 1 (by omega), ← hg 2 (by omega), ← hg 3 (by omega)]
    rfl
  rw [e]
  simp only [List.flatten_cons, List.flatten_nil, List.append_nil]
  rw [cuts_all b hb]
/-- Written and flushed. -/
theorem keep_made {d : DM} (h : OkD d) (hf : d.fuse = false) (ho : d.off = false) (hl : d.l = []) (n : Nat) (hn : n * 4 + 4 ≤ d.safe.length) (b : Bs) (hb : b.length = 256) : (writeD d (n : Int) b).2 = 0 ∧ (flushD (writeD d (n : Int) b).1).2 = 0 ∧ KeepB n b (flushD (writeD d (n : Int) b).1).1 := by
  have hi : isD d (n : Int) = true := isD_iff.2 ⟨by omega, by omega⟩
  have hs : spendD d = (d, true) := by unfold spendD; rw [ho, hf]; rfl
  have hw : writeD d (n : Int) b = ({ d with l := d.l ++ piecesL n b }, 0) := by
    unfold writeD
    rw [hi, decide_eq_true hb, Bool.and_true, if_pos rfl, hs, if_pos rfl, Int.toNat_natCast]
  rw [hw]
  have hs2 : spendD { d with l := d.l ++ piecesL n b } = ({ d with l := d.l ++ piecesL n b }, true) := by
    unfold spendD
    simp only []
    rw [ho, hf]
    rfl
  have hfl : flushD { d with l := d.l ++ piecesL n b } = ({ d with safe := nowD { d with l := d.l ++ piecesL n b }, l := [] }, 0) := by
    unfold flushD
    rw [hs2, if_pos rfl]
  rw [hfl]
  refine ⟨rfl, rfl, ⟨fun i hi4 => ?_, fun p hp => by cases hp⟩⟩
  show (nowL d.safe (d.l ++ piecesL n b))[n * 4 + i]? = _
  rw [hl, List.nil_append]
  have key : nowL d.safe (piecesL n b) = (((d.safe.set (n * 4 + 0) (cutB b 0)).set (n * 4 + 1) (cutB b 1)).set (n * 4 + 2) (cutB b 2)).set (n * 4 + 3) (cutB b 3) := rfl
  rw [key]
  rcases (by omega : i = 0 ∨ i = 1 ∨ i = 2 ∨ i = 3) with rfl | rfl | rfl | rfl <;> simp [List.getElem?_set] <;> omega
end Go.Proofs.Ythpepkfodcgbcaa
/- What the statements' own bytes and model answer. -/
set_option linter.unusedVariables false
set_option linter.unusedSimpArgs false
set_option maxRecDepth 40000
namespace Go.Proofs.Ythpepkfodcgbcaa
open Go.RowKit

theorem step_call_enter {P : Program} {ops : Array Oper} {o : Oper} {a : Act} {w : World} {K : Act → World → Prop} {Q : Exit → Act → World → Prop} {E : Prop}
    (hg : o.guard = none) (f : FuncId) (vs : Array Value) (hx : (execOp a.eval o).run P w = .ok (.enter f vs) w) {R : Ending → World → Prop} (hC : Calls P f vs w R) (hK : ∀ e w', R e w' → ∃ v, e = .returned v ∧ K (a.put o.dst v) w') :
    if Region.wanted o (yielded ops a.tmps) = true then Oper.wp P o a w K Q else E := by
  have hw : Region.wanted o (yielded ops a.tmps) = true := by simp [Region.wanted, hg]
  rw [if_pos hw]
  unfold Oper.wp
  rw [hx, Oper.upon_enter]
  refine hC.mono ?_
  intro e w' h
  obtain ⟨v, rfl, hk⟩ := hK e w' h
  exact hk
theorem owns_isY {w : World} {B : Nat} {v : Value} {l : Bs} (h : w.ownsRow B 5 1 v l.length (bytesV l)) : IsY w v l := by
  rcases h.2 with ⟨rfl, h2⟩ | ⟨g, cap, cur, rfl, _, _, hc, _⟩
  · exact .inl ⟨List.eq_nil_of_length_eq_zero h2, _, _, rfl⟩
  · exact .inr ⟨g, 0, cap, rfl, hc, own_cells h⟩
theorem append_nothingY (W : World) (g n cap : Nat) (a : Option Addr) (c : Nat) (h : n ≤ cap) (hm : cap ≤ maxLen) :
    (Builtin.append_ #[43, 43] 43 #[.slice (some ⟨g, 0, none⟩) n cap, .slice a 0 c]).run Try.prog W = .ok (.slice (some ⟨g, 0, none⟩) n cap) W := by
  simp [Builtin.append_, go_sem]
  rw [if_pos h]
  cases a <;> simp [go_sem, storeCells]
theorem copy_bytes (w : World) (u : Value) (l : Bs) (hU : IsY w u l) (hl : l.length ≤ 1000000) :
    ∃ a c w1, (Builtin.append_ #[43, 43] 43 #[.slice (some ⟨w.heap.size, 0, none⟩) 0 0, u]).run Try.prog (w.alloc (.cells #[] 5)) = .ok (.slice a l.length c) w1 ∧ w1.ownsRow w.heap.size 5 1 (.slice a l.length c) l.length (bytesV l) ∧ Below w.heap.size w w1 := by
  have hb := below_alloc w (.cells #[] 5)
  have h0 := own_bytes w w.heap.size (Nat.le_refl _)
  rcases hU with ⟨rfl, a, c, rfl⟩ | ⟨b, o, cap, rfl, _, hc⟩
  · exact ⟨_, _, _, append_nothingY _ w.heap.size 0 0 a c (Nat.le_refl _) (by decide), h0, hb⟩
  · obtain ⟨v', w', hr, ho, hg, _, hat⟩ := run_append_own_at (P := Try.prog) (w.alloc (.cells #[] 5)) w.heap.size 43 43 5 Try.t5 (.int .u8 0) 1 1 Try.underlying43 (by kernel_rfl) (by kernel_rfl) (by kernel_rfl) (by kernel_rfl) (by kernel_rfl) (by omega)
      (.slice (some ⟨w.heap.size, 0, none⟩) 0 0) 0 [] h0 ⟨b, o, none⟩ l.length cap (bytesV l) (by rw [bytesV_len, Nat.mul_one])
      (by
        intro j u hu
        have hj : j < l.length := by rw [← bytesV_len]; exact (List.getElem?_eq_some_iff.1 hu).1
        rw [addr_addo, (hb.cell (cell_lt (hc j hj))).trans (hc j hj)]
        unfold bytesV at hu
        rw [List.getElem?_map, List.getElem?_eq_getElem hj] at hu
        exact hu) (by
        intro u hu
        unfold bytesV at hu
        obtain ⟨y, _, rfl⟩ := List.mem_map.1 hu
        rfl) (by unfold maxLen; omega) (by omega) hb.size
    rw [Nat.zero_add, List.nil_append] at ho
    obtain ⟨a, c, rfl⟩ := owns_formG ho
    exact ⟨a, c, w', hr, ho, hb.trans ((Below.refl _ _).grown hg hb.size (owns_blk h0))⟩
theorem block_len (b : Bs) : (blockB b).length = 256 := by unfold blockB; simp
end Go.Proofs.Ythpepkfodcgbcaa
