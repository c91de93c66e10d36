/- What the document's Dump and Read answer. -/
import Derived.Test.YteacldkfdhhphaaDe14
import Derived.Lib.AppendStr
set_option linter.unusedVariables false
set_option linter.unusedSimpArgs false
set_option maxRecDepth 4000
namespace Go.Proofs.Yteacldkfdhhphaa
open Go.RowKit

def bytesV (l : Bs) : List Value := l.map fun b => Value.int .u8 (b.toNat : Int)
theorem bytesV_app (a b : Bs) : bytesV (a ++ b) = bytesV a ++ bytesV b := by unfold bytesV; rw [List.map_append]
theorem bytesV_len (l : Bs) : (bytesV l).length = l.length := by unfold bytesV; rw [List.length_map]
theorem strCells_is (l : Bs) : Lib.strCells ⟨l.toArray⟩ = bytesV l := by
  unfold Lib.strCells bytesV
  simp
theorem now_64 {s : List Bs} : ∀ (l : List (Nat × Bs)), (∀ x ∈ s, x.length = 64) → (∀ p ∈ l, p.2.length = 64) → ∀ x ∈ nowL s l, x.length = 64 := by
  intro l
  induction l generalizing s with
  | nil => exact fun h _ => h
  | cons p r ih =>
    intro hs hl
    refine ih (s := putS s p) (fun x hx => ?_) (fun q hq => hl q (List.mem_cons_of_mem _ hq))
    unfold putS at hx
    rcases List.mem_or_eq_of_mem_set hx with hx | rfl
    · exact hs x hx
    · exact hl p (List.mem_cons_self ..)
theorem flat_len : ∀ (l : List Bs), (∀ x ∈ l, x.length = 64) → l.flatten.length = 64 * l.length
  | [], _ => rfl
  | x :: r, h => by
    rw [List.flatten_cons, List.length_append, h x (List.mem_cons_self ..), flat_len r fun y hy => h y (List.mem_cons_of_mem _ hy), List.length_cons]
    omega
/-- append(v, s...), v bytes of one's own. -/
theorem append_bytes (W : World) (B : Nat) (v : Value) (l x : Bs) (hown : W.ownsRow B 5 1 v l.length (bytesV l)) (h1 : l.length ≤ 100000000) (h2 : x.length ≤ 100000000) (hB : B ≤ W.heap.size) :
    ∃ a c w', (Builtin.append_ #[34, 9] 34 #[v, .string ⟨x.toArray⟩]).run Try.prog W = .ok (.slice a (l ++ x).length c) w' ∧ w'.ownsRow B 5 1 (.slice a (l ++ x).length c) (l ++ x).length (bytesV (l ++ x)) ∧ Below B W w' := by
  have hs : (⟨x.toArray⟩ : ByteArray).size = x.length := by rw [size_list, str_data]
  obtain ⟨v', w', hr, ho, hg, _⟩ := Lib.run_append_own_string (P := Try.prog) W B 34 9 34 5 Try.t5 Try.underlying34 Try.underlying9 (by kernel_rfl) (by kernel_rfl) (by kernel_rfl) (by kernel_rfl) v l.length (bytesV l) hown ⟨x.toArray⟩ (by rw [hs]; unfold maxLen; omega) (by rw [hs]; omega) hB
  rw [hs, strCells_is, ← bytesV_app, ← List.length_append] at ho
  obtain ⟨a, c, rfl⟩ := owns_formG ho
  exact ⟨a, c, w', hr, ho, (Below.refl B W).grown hg hB (owns_blk hown)⟩
theorem own_bytes (w : World) (B : Nat) (hB : B ≤ w.heap.size) : (w.alloc (.cells #[] 5)).ownsRow B 5 1 (.slice (some ⟨w.heap.size, 0, none⟩) 0 0) ([] : Bs).length (bytesV []) := ⟨rfl, .inr ⟨w.heap.size, 0, #[], rfl, hB, by show (Array.push w.heap _)[w.heap.size]? = _; simp, Nat.le_refl _, by decide, rfl, rfl⟩⟩
theorem flat_take (l : List Bs) (i : Nat) (h : i < l.length) : (l.take (i + 1)).flatten = (l.take i).flatten ++ l[i] := by
  rw [List.take_succ_eq_append_getElem h, List.flatten_append]
  simp
theorem take_64 {l : List Bs} (h : ∀ x ∈ l, x.length = 64) (i : Nat) : (l.take i).flatten.length ≤ 64 * l.length := by
  rw [flat_len _ fun x hx => h x (List.mem_of_mem_take hx), List.length_take]
  exact Nat.mul_le_mul_left _ (Nat.min_le_right _ _)
theorem IsW.cell {w : World} {a : Option Addr} {n c : Nat} {l : List Bs} (h : IsW w (.slice a n c) l) (k : Nat) (hk : k < l.length) : ∃ b o, a = some ⟨b, o, none⟩ ∧ w.cell? ⟨b, o + k, none⟩ = some (.string ⟨l[k].toArray⟩) := by
  rcases h with ⟨rfl, _⟩ | ⟨b, o, cap, e, hcc⟩
  · simp at hk
  · injection e with e1
    exact ⟨b, o, e1, hcc k hk⟩
set_option maxHeartbeats 4000000 in
theorem rdump_any (d : DV) (w : World) (hI : IsD w d) (hok : OkD d.m) (h1 : d.m.safe.length ≤ 100000) (h2 : d.m.l.length ≤ 100000) :
    Calls Try.prog 19 #[dkA d] w fun e w' => ∃ v, e = .returned v ∧ w'.ownsRow w.heap.size 5 1 v (dumpD d.m).length (bytesV (dumpD d.m)) ∧ Below w.heap.size w w' := by
  have hb0 := below_alloc w (.cells (dkC d) 31)
  have h64 : ∀ x ∈ nowD d.m, x.length = 64 := now_64 _ hok.safe hok.len
  have hnl : (nowD d.m).length = d.m.safe.length := nowL_len _ _
  have HN : Hid (Calls Try.prog 35 #[dkA d] (dkW w d) fun e w' => ∃ a c, e = .returned (.slice a (nowD d.m).length c) ∧ IsW w' (.slice a (nowD d.m).length c) (nowD d.m) ∧ Below (dkW w d).heap.size (dkW w d) w') := hide ((rnow_any d (dkW w d) (hI.below hb0) hok h1 h2).mono fun e w' hh => by
    obtain ⟨v, rfl, ho, hb⟩ := hh
    obtain ⟨a, c, rfl⟩ := owns_formG ho
    exact ⟨a, c, rfl, (owns_isW ho).1, hb⟩)
  have HBX := hide (fun x (b : Below (dkW w d).heap.size (dkW w d) x) => (dk_box w d b).2)
  rw [show dumpD d.m = (nowD d.m).flatten from rfl]
  rw [← hnl] at h1
  clear hok h2 hnl hb0
  generalize nowD d.m = NW at *
  generalize hFL : NW.flatten = FL
  have HFL := hide hFL
  clear hFL
  obtain ⟨sa, sc, es⟩ := hI.s.form
  obtain ⟨la, lc, el⟩ := hI.l.form
  obtain ⟨⟨safe, l, left, fuse, off⟩, sv, lv⟩ := d
  simp only [] at es el HN HBX
  subst es el
  generalize safe.length = k1 at *
  generalize l.length = k2 at *
  clear hI
  go_enter Try.func19, Try.ntmps19
  go_wp2_with fail
  refine HN.out.mono ?_
  rintro e w1 ⟨va, vc, rfl, hW, b1⟩
  have HW := hide hW
  have BW := hide (HBX.out _ b1)
  have HO := hide (own_bytes w1 w1.heap.size (Nat.le_refl _))
  have BA := hide (below_alloc w1 (.cells #[] 5))
  have H64 := hide h64
  clear hW b1 HN HBX h64
  go_wp2
  go_loopw [4, 5] (fun vo vi wr => ∃ (i : Nat) (a : Option Addr) (c : Nat), vi = .int .i64 (i : Int) ∧ i ≤ NW.length ∧ vo = .slice a (NW.take i).flatten.length c ∧ Hid (wr.ownsRow w1.heap.size 5 1 (.slice a (NW.take i).flatten.length c) (NW.take i).flatten.length (bytesV (NW.take i).flatten)) ∧ Hid (Below w1.heap.size w1 wr)) (fun _ vi _ => NW.length - (intOf vi).toNat)
  case atStart => exact ⟨0, some ⟨w1.heap.size, 0, none⟩, 0, rfl, Nat.zero_le _, rfl, HO, BA⟩
  case round =>
    clear HO BA
    obtain ⟨i, a, c, rfl, hi, rfl, HO, HB⟩ := hrel
    by_cases hlt : i < NW.length
    · have hlt2 : (i : Int) < NW.length := by omega
      obtain ⟨nb, no, rfl, hc⟩ := (HW.out.below HB.out).cell i hlt
      have hli := take_64 H64.out i
      have hx := H64.out NW[i] (List.getElem_mem hlt)
      obtain ⟨a', c', w', hr, ho, hb⟩ := append_bytes wr w1.heap.size _ (NW.take i).flatten NW[i] HO.out (by omega) (by omega) HB.out.size
      rw [← flat_take NW i hlt] at hr ho
      have HO2 := hide ho
      have HB2 := hide (HB.out.trans hb)
      clear ho hb hli hx HO
      generalize (⟨NW[i].toArray⟩ : ByteArray) = X at *
      generalize hL1 : (NW.take i).flatten.length = L1 at *
      generalize hL2 : (NW.take (i + 1)).flatten.length = L2 at *
      clear hL1
      go_wp2_with (at_builtin; refine Lib.wpList_append_run _ rfl (.tmp 15) (.tmp 19) _ _ rfl _ _ rfl rfl _ _ hr ?_)
      go_roundw
      case rel => exact ⟨i + 1, a', c', by go_num, by omega, by rw [hL2], by rw [hL2]; exact HO2, HB2⟩
      case measure => simp [intOf]; omega
    · have hlt2 : ¬ (i : Int) < NW.length := by omega
      obtain rfl : i = NW.length := by omega
      have ho := HO.out
      rw [List.take_length, HFL.out] at ho
      rw [List.take_length, HFL.out]
      have hb := HB.out
      have HF : Hid (∃ v, Ending.returned (.slice a FL.length c) = .returned v ∧ wr.ownsRow w.heap.size 5 1 v FL.length (bytesV FL) ∧ Below w.heap.size w wr) := hide ⟨_, rfl, own_base ho BW.out.size, BW.out.trans (hb.mono BW.out.size)⟩
      clear ho hb HO
      generalize hfl : FL.length = fl at *
      go_wp2
      go_ret
      exact HF.out
end Go.Proofs.Yteacldkfdhhphaa
