/- What the document's Read answers. -/
import Derived.Test.YteacldkfdhhphaaDf14
set_option linter.unusedVariables false
set_option linter.unusedSimpArgs false
set_option maxRecDepth 4000
namespace Go.Proofs.Yteacldkfdhhphaa
open Go.RowKit

theorem own_nil (w : World) (B : Nat) : w.ownsRow B 5 1 (.slice none 0 0) ([] : Bs).length (bytesV []) := ⟨rfl, .inl ⟨rfl, rfl⟩⟩
def ReadR (w : World) (R : Bs × Int) (e : Ending) (w' : World) : Prop := ∃ v, e = .returned (.tuple #[v, .int .i64 R.2]) ∧ w'.ownsRow w.heap.size 5 1 v R.1.length (bytesV R.1) ∧ Below w.heap.size w w'
theorem read_take (l : List Bs) (s i : Nat) (h : s + i < l.length) : ((l.drop s).take (i + 1)).flatten = ((l.drop s).take i).flatten ++ l[s + i] := by
  rw [flat_take (l.drop s) i (by rw [List.length_drop]; omega), List.getElem_drop]
theorem read_64 {l : List Bs} (h : ∀ x ∈ l, x.length = 64) (s i : Nat) : ((l.drop s).take i).flatten.length ≤ 64 * l.length := by
  have h1 := take_64 (l := l.drop s) (fun x hx => h x (List.mem_of_mem_drop hx)) i
  rw [List.length_drop] at h1
  have : 64 * (l.length - s) ≤ 64 * l.length := Nat.mul_le_mul_left _ (Nat.sub_le _ _)
  omega
set_option maxHeartbeats 4000000 in
theorem rread_any (d : DV) (n : Int) (w : World) (hI : IsD w d) (hok : OkD d.m) (h1 : d.m.safe.length ≤ 100000) (h2 : d.m.l.length ≤ 100000) :
    Calls Try.prog 16 #[dkA d, .int .i64 n] w fun e w' => ReadR w (readD d.m n) e w' := by
  have hb0 := below_alloc w (.cells (dkC d) 31)
  have h64 : ∀ x ∈ nowD d.m, x.length = 64 := now_64 _ hok.safe hok.len
  have hnl : (nowD d.m).length = d.m.safe.length := nowL_len _ _
  have HIS : Hid (Calls Try.prog 34 #[dkA d, .int .i64 n] (dkW w d) fun e w' => e = .returned (.bool (isD d.m n)) ∧ Below (dkW w d).heap.size (dkW w d) w') := hide (ris_any d n (dkW w d) (hI.below hb0) (by omega))
  have HN : Hid (∀ x, Below (dkW w d).heap.size (dkW w d) x → Calls Try.prog 35 #[dkA d] x fun e w' => ∃ a c, e = .returned (.slice a (nowD d.m).length c) ∧ IsW w' (.slice a (nowD d.m).length c) (nowD d.m) ∧ Below x.heap.size x w') := hide (fun x b => (rnow_any d x (hI.below (dk_box w d b).2) hok h1 h2).mono fun e w' hh => by
    obtain ⟨v, rfl, ho, hb⟩ := hh
    obtain ⟨a, c, rfl⟩ := owns_formG ho
    exact ⟨a, c, rfl, (owns_isW ho).1, hb⟩)
  have HBX := hide (fun x (b : Below (dkW w d).heap.size (dkW w d) x) => dk_box w d b)
  have hrd : readD d.m n = if isD d.m n then (if d.m.off then ([], 9) else ((((nowD d.m).drop (n.toNat * 4)).take 4).flatten, 0)) else ([], 1) := rfl
  rw [hrd]
  clear hrd
  have hin : isD d.m n = true → 0 ≤ n ∧ n.toNat * 4 + 4 ≤ (nowD d.m).length := by
    intro h
    unfold isD at h
    simp only [Bool.and_eq_true, decide_eq_true_eq] at h
    rw [hnl]
    omega
  rw [← hnl] at h1
  clear hok h2 hnl hb0
  generalize isD d.m n = IN at *
  generalize nowD d.m = NW at *
  obtain ⟨sa, sc, es⟩ := hI.s.form
  obtain ⟨la, lc, el⟩ := hI.l.form
  obtain ⟨⟨safe, l, left, fuse, off⟩, sv, lv⟩ := d
  simp only [] at es el HN HBX HIS
  subst es el
  generalize safe.length = k1 at *
  generalize l.length = k2 at *
  clear hI
  simp only []
  cases IN
  · rw [if_neg (by simp)]
    have HF : Hid (∀ x, Below w.heap.size w x → ReadR w ([], 1) (.returned (.tuple #[.slice none 0 0, .int .i64 1])) x) := hide (fun x b => ⟨_, rfl, own_nil x _, b⟩)
    go_enter Try.func16, Try.ntmps16
    go_wp2_with fail
    refine HIS.out.mono ?_
    rintro e w1 ⟨rfl, b1⟩
    have HG := hide (HF.out w1 (HBX.out w1 b1).2)
    clear b1 HBX HN HIS HF
    go_wp2
    go_ret2
    exact HG.out
  · rw [if_pos rfl]
    obtain ⟨hn0, hn1⟩ := hin rfl
    obtain ⟨nn, rfl⟩ : ∃ nn : Nat, n = nn := ⟨n.toNat, by omega⟩
    rw [Int.toNat_natCast] at *
    cases off
    · rw [if_neg (by simp)]
      generalize hFL : ((NW.drop (nn * 4)).take 4).flatten = FL
      have HFL := hide hFL
      clear hFL hin hn0
      go_enter Try.func16, Try.ntmps16
      go_wp2_with fail
      refine HIS.out.mono ?_
      rintro e w1 ⟨rfl, b1⟩
      obtain ⟨x0, x1, x2, x3, x4, _⟩ := dk_cells (HBX.out w1 b1).1
      have HN2 := hide (HN.out w1 b1)
      have B1 := hide (HBX.out w1 b1).2
      clear b1 HBX HN HIS
      simp only [] at x0 x1 x2 x3 x4
      go_wp2_with fail
      refine HN2.out.mono ?_
      rintro e w2 ⟨va, vc, rfl, hW, b2⟩
      have HW := hide hW
      have BW := hide (B1.out.trans (b2.mono B1.out.size))
      have HO := hide (own_bytes w2 w2.heap.size (Nat.le_refl _))
      have BA := hide (below_alloc w2 (.cells #[] 5))
      have H64 := hide h64
      clear hW b2 HN2 B1 h64 x0 x1 x2 x3 x4
      go_wp2
      go_loopw [7, 8] (fun vo vi wr => ∃ (i : Nat) (a : Option Addr) (c : Nat), vi = .int .i64 (i : Int) ∧ i ≤ 4 ∧ vo = .slice a ((NW.drop (nn * 4)).take i).flatten.length c ∧ Hid (wr.ownsRow w2.heap.size 5 1 (.slice a ((NW.drop (nn * 4)).take i).flatten.length c) ((NW.drop (nn * 4)).take i).flatten.length (bytesV ((NW.drop (nn * 4)).take i).flatten)) ∧ Hid (Below w2.heap.size w2 wr)) (fun _ vi _ => 4 - (intOf vi).toNat)
      case atStart => exact ⟨0, some ⟨w2.heap.size, 0, none⟩, 0, rfl, Nat.zero_le _, rfl, HO, BA⟩
      case round =>
        clear HO BA
        obtain ⟨i, a, c, rfl, hi, rfl, HO, HB⟩ := hrel
        by_cases hlt : i < 4
        · have hlt2 : (i : Int) < 4 := by omega
          obtain ⟨nb, no, rfl, hc⟩ := (HW.out.below HB.out).cell (nn * 4 + i) (by omega)
          have hli := read_64 H64.out (nn * 4) i
          have hx := H64.out NW[nn * 4 + i] (List.getElem_mem (by omega))
          obtain ⟨a', c', w', hr, ho, hb⟩ := append_bytes wr w2.heap.size _ ((NW.drop (nn * 4)).take i).flatten NW[nn * 4 + i] HO.out (by omega) (by omega) HB.out.size
          rw [← read_take NW (nn * 4) i (by omega)] at hr ho
          have HO2 := hide ho
          have HB2 := hide (HB.out.trans hb)
          have hkx : (nn : Int) * 4 + (i : Int) = ((nn * 4 + i : Nat) : Int) := by omega
          have hkl : nn * 4 + i < NW.length := by omega
          have hw1 : wrap64 ((nn : Int) * 4) = (nn : Int) * 4 := by unfold wrap64; omega
          clear ho hb hli hx HO
          generalize (⟨NW[nn * 4 + i].toArray⟩ : ByteArray) = X at *
          generalize hL1 : ((NW.drop (nn * 4)).take i).flatten.length = L1 at *
          generalize hL2 : ((NW.drop (nn * 4)).take (i + 1)).flatten.length = L2 at *
          generalize nn * 4 + i = kk at *
          have hkl2 : (kk : Int) < NW.length := by omega
          have hw2 : wrap64 (kk : Int) = kk := by unfold wrap64; omega
          clear hL1
          go_wp2_with (at_builtin; refine Lib.wpList_append_run _ rfl (.tmp 22) (.tmp 29) _ _ rfl _ _ rfl rfl _ _ hr ?_)
          go_roundw
          case rel => exact ⟨i + 1, a', c', by go_num, by omega, by rw [hL2], by rw [hL2]; exact HO2, HB2⟩
          case measure => simp [intOf]; omega
        · have hlt2 : ¬ (i : Int) < 4 := by omega
          obtain rfl : i = 4 := by omega
          have ho := HO.out
          rw [HFL.out] at ho
          rw [HFL.out]
          have hb := HB.out
          have HF : Hid (ReadR w (FL, 0) (.returned (.tuple #[.slice a FL.length c, .int .i64 0])) wr) := hide ⟨_, rfl, own_base ho BW.out.size, BW.out.trans (hb.mono BW.out.size)⟩
          clear ho hb HO
          generalize hfl : FL.length = fl at *
          go_wp2
          go_ret2
          exact HF.out
    · rw [if_pos rfl]
      have HF : Hid (∀ x, Below w.heap.size w x → ReadR w ([], 9) (.returned (.tuple #[.slice none 0 0, .int .i64 9])) x) := hide (fun x b => ⟨_, rfl, own_nil x _, b⟩)
      clear hin hn0 hn1
      go_enter Try.func16, Try.ntmps16
      go_wp2_with fail
      refine HIS.out.mono ?_
      rintro e w1 ⟨rfl, b1⟩
      obtain ⟨x0, x1, x2, x3, x4, _⟩ := dk_cells (HBX.out w1 b1).1
      have HG := hide (HF.out w1 (HBX.out w1 b1).2)
      simp only [] at x0 x1 x2 x3 x4
      clear b1 HBX HN HIS HF
      go_wp2
      go_ret2
      exact HG.out
end Go.Proofs.Yteacldkfdhhphaa
