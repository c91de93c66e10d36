import Derived.Test.YthpepkfodcgbcaaWq00
import Derived.Lib.AppendStr
import Derived.Lib.ConvBytes
/- What the document's Dump and Read answer. -/
set_option linter.unusedVariables false
set_option linter.unusedSimpArgs false
set_option maxRecDepth 4000
namespace Go.Proofs.Ythpepkfodcgbcaa
open Go.RowKit

def bytesV (l : Bs) : List Value := l.map fun b => Value.int .u8 (b.toNat : Int)
theorem bytesV_app (a b : Bs) : bytesV (a ++ b) = bytesV a ++ bytesV b := by unfold bytesV; rw [List.map_append]
theorem bytesV_len (l : Bs) : (bytesV l).length = l.length := by unfold bytesV; rw [List.length_map]
theorem strCells_is (l : Bs) : Lib.strCells ⟨l.toArray⟩ = bytesV l := by
  unfold Lib.strCells bytesV
  simp
theorem now_64 {s : List Bs} : ∀ (l : List (Nat × Bs)), (∀ x ∈ s, x.length = 64) → (∀ p ∈ l, p.2.length = 64) → ∀ x ∈ nowL s l, x.length = 64 := by
  intro l
  induction l generalizing s with
  | nil => exact fun h _ => h
  | cons p r ih =>
    intro hs hl
    refine ih (s := putS s p) (fun x hx => ?_) (fun q hq => hl q (List.mem_cons_of_mem _ hq))
    unfold putS at hx
    rcases List.mem_or_eq_of_mem_set hx with hx | rfl
    · exact hs x hx
    · exact hl p (List.mem_cons_self ..)
theorem flat_len : ∀ (l : List Bs), (∀ x ∈ l, x.length = 64) → l.flatten.length = 64 * l.length
  | [], _ => rfl
  | x :: r, h => by
    rw [List.flatten_cons, List.length_append, h x (List.mem_cons_self ..), flat_len r fun y hy => h y (List.mem_cons_of_mem _ hy), List.length_cons]
    omega
/-- append(v, s...), v bytes of one's own. -/
theorem append_bytes (W : World) (B : Nat) (v : Value) (l x : Bs) (hown : W.ownsRow B 5 1 v l.length (bytesV l)) (h1 : l.length ≤ 100000000) (h2 : x.length ≤ 100000000) (hB : B ≤ W.heap.size) :
    ∃ a c w', (Builtin.append_ #[43, 9] 43 #[v, .string ⟨x.toArray⟩]).run Try.prog W = .ok (.slice a (l ++ x).length c) w' ∧ w'.ownsRow B 5 1 (.slice a (l ++ x).length c) (l ++ x).length (bytesV (l ++ x)) ∧ Below B W w' := by
  have hs : (⟨x.toArray⟩ : ByteArray).size = x.length := by rw [size_list, str_data]
  obtain ⟨v', w', hr, ho, hg, _⟩ := Lib.run_append_own_string (P := Try.prog) W B 43 9 43 5 Try.t5 Try.underlying43 Try.underlying9 (by kernel_rfl) (by kernel_rfl) (by kernel_rfl) (by kernel_rfl) v l.length (bytesV l) hown ⟨x.toArray⟩ (by rw [hs]; unfold maxLen; omega) (by rw [hs]; omega) hB
  rw [hs, strCells_is, ← bytesV_app, ← List.length_append] at ho
  obtain ⟨a, c, rfl⟩ := owns_formG ho
  exact ⟨a, c, w', hr, ho, (Below.refl B W).grown hg hB (owns_blk hown)⟩
theorem own_bytes (w : World) (B : Nat) (hB : B ≤ w.heap.size) : (w.alloc (.cells #[] 5)).ownsRow B 5 1 (.slice (some ⟨w.heap.size, 0, none⟩) 0 0) ([] : Bs).length (bytesV []) := ⟨rfl, .inr ⟨w.heap.size, 0, #[], rfl, hB, by show (Array.push w.heap _)[w.heap.size]? = _; simp, Nat.le_refl _, by decide, rfl, rfl⟩⟩
theorem flat_take (l : List Bs) (i : Nat) (h : i < l.length) : (l.take (i + 1)).flatten = (l.take i).flatten ++ l[i] := by
  rw [List.take_succ_eq_append_getElem h, List.flatten_append]
  simp
theorem take_64 {l : List Bs} (h : ∀ x ∈ l, x.length = 64) (i : Nat) : (l.take i).flatten.length ≤ 64 * l.length := by
  rw [flat_len _ fun x hx => h x (List.mem_of_mem_take hx), List.length_take]
  exact Nat.mul_le_mul_left _ (Nat.min_le_right _ _)
theorem IsW.cell {w : World} {a : Option Addr} {n c : Nat} {l : List Bs} (h : IsW w (.slice a n c) l) (k : Nat) (hk : k < l.length) : ∃ b o, a = some ⟨b, o, none⟩ ∧ w.cell? ⟨b, o + k, none⟩ = some (.string ⟨l[k].toArray⟩) := by
  rcases h with ⟨rfl, _⟩ | ⟨b, o, cap, e, hcc⟩
  · simp at hk
  · injection e with e1
    exact ⟨b, o, e1, hcc k hk⟩
set_option maxHeartbeats 4000000 in
theorem rdump_any (d : DV) (w : World) (hI : IsD w d) (hok : OkD d.m) (h1 : d.m.safe.length ≤ 100000) (h2 : d.m.l.length ≤ 100000) :
    Calls Try.prog 31 #[dkA d] w fun e w' => ∃ v, e = .returned v ∧ w'.ownsRow w.heap.size 5 1 v (dumpD d.m).length (bytesV (dumpD d.m)) ∧ Below w.heap.size w w' := by
  have hb0 := below_alloc w (.cells (dkC d) 31)
  have h64 : ∀ x ∈ nowD d.m, x.length = 64 := now_64 _ hok.safe hok.len
  have hnl : (nowD d.m).length = d.m.safe.length := nowL_len _ _
  have HN : Hid (Calls Try.prog 49 #[dkA d] (dkW w d) fun e w' => ∃ a c, e = .returned (.slice a (nowD d.m).length c) ∧ IsW w' (.slice a (nowD d.m).length c) (nowD d.m) ∧ Below (dkW w d).heap.size (dkW w d) w') := hide ((rnow_any d (dkW w d) (hI.below hb0) hok h1 h2).mono fun e w' hh => by
    obtain ⟨v, rfl, ho, hb⟩ := hh
    obtain ⟨a, c, rfl⟩ := owns_formG ho
    exact ⟨a, c, rfl, (owns_isW ho).1, hb⟩)
  have HBX := hide (fun x (b : Below (dkW w d).heap.size (dkW w d) x) => (dk_box w d b).2)
  rw [show dumpD d.m = (nowD d.m).flatten from rfl]
  rw [← hnl] at h1
  clear hok h2 hnl hb0
  generalize nowD d.m = NW at *
  generalize hFL : NW.flatten = FL
  have HFL := hide hFL
  clear hFL
  obtain ⟨sa, sc, es⟩ := hI.s.form
  obtain ⟨la, lc, el⟩ := hI.l.form
  obtain ⟨⟨safe, l, left, fuse, off⟩, sv, lv⟩ := d
  simp only [] at es el HN HBX
  subst es el
  generalize safe.length = k1 at *
  generalize l.length = k2 at *
  clear hI
  go_enter Try.func31, Try.ntmps31
  go_wp2_with fail
  refine HN.out.mono ?_
  rintro e w1 ⟨va, vc, rfl, hW, b1⟩
  have HW := hide hW
  have BW := hide (HBX.out _ b1)
  have HO := hide (own_bytes w1 w1.heap.size (Nat.le_refl _))
  have BA := hide (below_alloc w1 (.cells #[] 5))
  have H64 := hide h64
  clear hW b1 HN HBX h64
  go_wp2
  go_loopw [4, 5] (fun vo vi wr => ∃ (i : Nat) (a : Option Addr) (c : Nat), vi = .int .i64 (i : Int) ∧ i ≤ NW.length ∧ vo = .slice a (NW.take i).flatten.length c ∧ Hid (wr.ownsRow w1.heap.size 5 1 (.slice a (NW.take i).flatten.length c) (NW.take i).flatten.length (bytesV (NW.take i).flatten)) ∧ Hid (Below w1.heap.size w1 wr)) (fun _ vi _ => NW.length - (intOf vi).toNat)
  case atStart => exact ⟨0, some ⟨w1.heap.size, 0, none⟩, 0, rfl, Nat.zero_le _, rfl, HO, BA⟩
  case round =>
    clear HO BA
    obtain ⟨i, a, c, rfl, hi, rfl, HO, HB⟩ := hrel
    by_cases hlt : i < NW.length
    · have hlt2 : (i : Int) < NW.length := by omega
      obtain ⟨nb, no, rfl, hc⟩ := (HW.out.below HB.out).cell i hlt
      have hli := take_64 H64.out i
      have hx := H64.out NW[i] (List.getElem_mem hlt)
      obtain ⟨a', c', w', hr, ho, hb⟩ := append_bytes wr w1.heap.size _ (NW.take i).flatten NW[i] HO.out (by omega) (by omega) HB.out.size
      rw [← flat_take NW i hlt] at hr ho
      have HO2 := hide ho
      have HB2 := hide (HB.out.trans hb)
      clear ho hb hli hx HO
      generalize (⟨NW[i].toArray⟩ : ByteArray) = X at *
      generalize hL1 : (NW.take i).flatten.length = L1 at *
      generalize hL2 : (NW.take (i + 1)).flatten.length = L2 at *
      clear hL1
      go_wp2_with (at_builtin; refine Lib.wpList_append_run _ rfl (.tmp 15) (.tmp 19) _ _ rfl _ _ rfl rfl _ _ hr ?_)
      go_roundw
      case rel => exact ⟨i + 1, a', c', by go_num, by omega, by rw [hL2], by rw [hL2]; exact HO2, HB2⟩
      case measure => simp [intOf]; omega
    · have hlt2 : ¬ (i : Int) < NW.length := by omega
      obtain rfl : i = NW.length := by omega
      have ho := HO.out
      rw [List.take_length, HFL.out] at ho
      rw [List.take_length, HFL.out]
      have hb := HB.out
      have HF : Hid (∃ v, Ending.returned (.slice a FL.length c) = .returned v ∧ wr.ownsRow w.heap.size 5 1 v FL.length (bytesV FL) ∧ Below w.heap.size w wr) := hide ⟨_, rfl, own_base ho BW.out.size, BW.out.trans (hb.mono BW.out.size)⟩
      clear ho hb HO
      generalize hfl : FL.length = fl at *
      go_wp2
      go_ret
      exact HF.out
end Go.Proofs.Ythpepkfodcgbcaa
/- What the document's Read answers. -/
set_option linter.unusedVariables false
set_option linter.unusedSimpArgs false
set_option maxRecDepth 4000
namespace Go.Proofs.Ythpepkfodcgbcaa
open Go.RowKit

theorem own_nil (w : World) (B : Nat) : w.ownsRow B 5 1 (.slice none 0 0) ([] : Bs).length (bytesV []) := ⟨rfl, .inl ⟨rfl, rfl⟩⟩
def ReadR (w : World) (R : Bs × Int) (e : Ending) (w' : World) : Prop := ∃ v, e = .returned (.tuple #[v, .int .i64 R.2]) ∧ w'.ownsRow w.heap.size 5 1 v R.1.length (bytesV R.1) ∧ Below w.heap.size w w'
theorem read_take (l : List Bs) (s i : Nat) (h : s + i < l.length) : ((l.drop s).take (i + 1)).flatten = ((l.drop s).take i).flatten ++ l[s + i] := by
  rw [flat_take (l.drop s) i (by rw [List.length_drop]; omega), List.getElem_drop]
theorem read_64 {l : List Bs} (h : ∀ x ∈ l, x.length = 64) (s i : Nat) : ((l.drop s).take i).flatten.length ≤ 64 * l.length := by
  have h1 := take_64 (l := l.drop s) (fun x hx => h x (List.mem_of_mem_drop hx)) i
  rw [List.length_drop] at h1
  have : 64 * (l.length - s) ≤ 64 * l.length := Nat.mul_le_mul_left _ (Nat.sub_le _ _)
  omega
end Go.Proofs.Ythpepkfodcgbcaa
/- What the document's Write answers. -/
set_option linter.unusedVariables false
set_option linter.unusedSimpArgs false
set_option maxRecDepth 4000
namespace Go.Proofs.Ythpepkfodcgbcaa
open Go.RowKit

/-- Bytes lie there. -/
def IsY (w : World) (v : Value) (l : Bs) : Prop := (l = [] ∧ ∃ a c, v = .slice a 0 c) ∨ ∃ b o cap, v = .slice (some ⟨b, o, none⟩) l.length cap ∧ l.length ≤ cap ∧ ∀ j (hj : j < l.length), w.cell? ⟨b, o + j, none⟩ = some (.int .u8 (l[j].toNat : Int))
theorem IsY.below {w W : World} {v : Value} {l : Bs} (h : IsY w v l) (hb : Below w.heap.size w W) : IsY W v l := by
  rcases h with h | ⟨b, o, cap, rfl, hl, hc⟩
  · exact .inl h
  · exact .inr ⟨b, o, cap, rfl, hl, fun j hj => (hb.cell (cell_lt (hc j hj))).trans (hc j hj)⟩
theorem IsY.form {w : World} {v : Value} {l : Bs} (h : IsY w v l) : ∃ a c, v = .slice a l.length c := by
  rcases h with ⟨rfl, a, c, rfl⟩ | ⟨b, o, cap, rfl, _⟩
  · exact ⟨_, _, rfl⟩
  · exact ⟨_, _, rfl⟩
theorem conv_bytes (w : World) (b o cap : Nat) (l : Bs) (hc : ∀ j (hj : j < l.length), w.cell? ⟨b, o + j, none⟩ = some (.int .u8 (l[j].toNat : Int))) :
    (convert 43 9 (.slice (some ⟨b, o, none⟩) l.length cap)).run Try.prog w = .ok (.string ⟨l.toArray⟩) w :=
  run_convert_bytes_back w 43 9 5 ⟨b, o, none⟩ cap l Try.underlying43 Try.underlying5 Try.underlying9 (fun j hj => by rw [addr_addo]; exact hc j hj)
def pieceCells : List (Nat × Bs) → List Value
  | [] => []
  | p :: r => .int .i64 (p.1 : Int) :: .string ⟨p.2.toArray⟩ :: pieceCells r
theorem pieceCells_len : ∀ l, (pieceCells l).length = l.length * 2
  | [] => rfl
  | p :: r => by simp only [pieceCells, List.length_cons, pieceCells_len r]; omega
theorem pieceCells_app : ∀ a b, pieceCells (a ++ b) = pieceCells a ++ pieceCells b
  | [], b => rfl
  | p :: a, b => by simp only [List.cons_append, pieceCells, pieceCells_app a b]
theorem pieceCells_get : ∀ (l : List (Nat × Bs)) (j : Nat) (hj : j < l.length), (pieceCells l)[j * 2]? = some (.int .i64 (l[j].1 : Int)) ∧ (pieceCells l)[j * 2 + 1]? = some (.string ⟨l[j].2.toArray⟩)
  | r :: l, 0, _ => ⟨rfl, rfl⟩
  | r :: l, j + 1, hj => by
    have h := pieceCells_get l j (by simpa using hj)
    rw [show (j + 1) * 2 = j * 2 + 1 + 1 by omega, show j * 2 + 1 + 1 + 1 = (j * 2 + 1) + 1 + 1 by omega]
    simp only [pieceCells, List.getElem?_cons_succ, List.getElem_cons_succ]
    exact h
theorem owns_isP {w : World} {B n : Nat} {v : Value} {l : List (Nat × Bs)} (h : w.ownsRow B 103 2 v n (pieceCells l)) : IsP w v l := by
  have hn : n = l.length := by
    have := h.1
    rw [pieceCells_len] at this
    omega
  subst hn
  rcases h.2 with ⟨rfl, h2⟩ | ⟨g, cap, cur, rfl, _⟩
  · exact .inl ⟨List.eq_nil_of_length_eq_zero h2, _, _, rfl⟩
  · refine .inr ⟨g, 0, cap, rfl, fun j hj => ?_⟩
    have h2 := pieceCells_get l j hj
    have key : ∀ i x, (pieceCells l)[i]? = some x → w.cell? ⟨g, 0 + i, none⟩ = some x := fun i x hx => by
      have h9 := h.cells rfl i x hx
      rw [addr_add] at h9
      rw [Nat.zero_add]
      exact h9
    refine ⟨key _ _ h2.1, ?_⟩
    rw [Nat.add_assoc]
    exact key _ _ h2.2
theorem own_noP (w : World) (B : Nat) (hB : B ≤ w.heap.size) : (w.alloc (.cells #[] 103)).ownsRow B 103 2 (.slice (some ⟨w.heap.size, 0, none⟩) 0 0) 0 [] := ⟨rfl, .inr ⟨w.heap.size, 0, #[], rfl, hB, by show (Array.push w.heap _)[w.heap.size]? = _; simp, Nat.le_refl _, by decide, rfl, rfl⟩⟩
theorem append_nothingP (W : World) (g n cap : Nat) (a : Option Addr) (c : Nat) (h : n ≤ cap) (hm : cap ≤ maxLen) :
    (Builtin.append_ #[29, 29] 29 #[.slice (some ⟨g, 0, none⟩) n cap, .slice a 0 c]).run Try.prog W = .ok (.slice (some ⟨g, 0, none⟩) n cap) W := by
  simp [Builtin.append_, go_sem]
  rw [if_pos h]
  cases a <;> simp [go_sem, storeCells]
/-- append(v, l...), pieces. -/
theorem append_pieces (W : World) (B n : Nat) (v : Value) (xs : List Value) (b o c : Nat) (l : List (Nat × Bs)) (hown : W.ownsRow B 103 2 v n xs) (hc : ∀ j (hj : j < l.length), W.cell? ⟨b, o + j * 2, none⟩ = some (.int .i64 (l[j].1 : Int)) ∧ W.cell? ⟨b, o + j * 2 + 1, none⟩ = some (.string ⟨l[j].2.toArray⟩)) (h1 : n ≤ 1000000) (h2 : l.length ≤ 1000000) (hB : B ≤ W.heap.size) :
    ∃ v' w', (Builtin.append_ #[29, 29] 29 #[v, .slice (some ⟨b, o, none⟩) l.length c]).run Try.prog W = .ok v' w' ∧ w'.ownsRow B 103 2 v' (n + l.length) (xs ++ pieceCells l) ∧ Below B W w' := by
  obtain ⟨v', w', hr, ho, hg, _, hat⟩ := run_append_own_at (P := Try.prog) W B 29 29 103 Try.t103 (.agg #[.int .i64 0, .string ⟨#[]⟩]) 2 24 Try.underlying29 (by kernel_rfl) (by kernel_rfl) (by kernel_rfl) (by kernel_rfl) (by kernel_rfl) (by omega)
      v n xs hown ⟨b, o, none⟩ l.length c (pieceCells l) (pieceCells_len l)
      (by
        intro j u hu
        have hj : j < l.length * 2 := by rw [← pieceCells_len]; exact (List.getElem?_eq_some_iff.1 hu).1
        rw [addr_addo]
        have h2 := pieceCells_get l (j / 2) (by omega)
        have hcc := hc (j / 2) (by omega)
        rcases (by omega : j = j / 2 * 2 ∨ j = j / 2 * 2 + 1) with hj2 | hj2
        · rw [hj2] at hu ⊢
          rw [h2.1] at hu
          rw [← hu]
          exact hcc.1
        · rw [hj2] at hu ⊢
          rw [h2.2] at hu
          rw [← hu, ← Nat.add_assoc]
          exact hcc.2) (by
        intro u hu
        obtain ⟨j, hj, rfl⟩ := List.getElem_of_mem hu
        have hj' := hj
        rw [pieceCells_len] at hj'
        have h2 := pieceCells_get l (j / 2) (by omega)
        rcases (by omega : j = j / 2 * 2 ∨ j = j / 2 * 2 + 1) with hj2 | hj2
        · have : (pieceCells l)[j]? = some (.int .i64 ((l[j / 2]'(by omega)).1 : Int)) := by rw [← h2.1, ← hj2]
          rw [List.getElem?_eq_getElem hj] at this
          rw [Option.some.inj this]
          rfl
        · have : (pieceCells l)[j]? = some (.string ⟨(l[j / 2]'(by omega)).2.toArray⟩) := by rw [← h2.2, ← hj2]
          rw [List.getElem?_eq_getElem hj] at this
          rw [Option.some.inj this]
          rfl) (by unfold maxLen; omega) (by omega) hB
  exact ⟨v', w', hr, ho, (Below.refl B W).grown hg hB (owns_blk hown)⟩
theorem copy_pieces (w : World) (u : Value) (l : List (Nat × Bs)) (hU : IsP w u l) (hl : l.length ≤ 100000) :
    ∃ a c w1, (Builtin.append_ #[29, 29] 29 #[.slice (some ⟨w.heap.size, 0, none⟩) 0 0, u]).run Try.prog (w.alloc (.cells #[] 103)) = .ok (.slice a l.length c) w1 ∧ w1.ownsRow w.heap.size 103 2 (.slice a l.length c) l.length (pieceCells l) ∧ Below w.heap.size w w1 := by
  have hb := below_alloc w (.cells #[] 103)
  have h0 := own_noP w w.heap.size (Nat.le_refl _)
  rcases hU with ⟨rfl, a, c, rfl⟩ | ⟨b, o, cap, rfl, hc⟩
  · exact ⟨_, _, _, append_nothingP _ w.heap.size 0 0 a c (Nat.le_refl _) (by decide), h0, hb⟩
  · obtain ⟨v3, w3, e1, e2, e3⟩ := append_pieces (w.alloc (.cells #[] 103)) w.heap.size 0 _ [] b o cap l h0 (fun j hj => ⟨(hb.cell (cell_lt (hc j hj).1)).trans (hc j hj).1, (hb.cell (cell_lt (hc j hj).2)).trans (hc j hj).2⟩) (by omega) (by omega) hb.size
    rw [Nat.zero_add, List.nil_append] at e2
    obtain ⟨a, c, rfl⟩ := owns_formG e2
    exact ⟨a, c, w3, e1, e2, hb.trans e3⟩
theorem append_piece (W : World) (B : Nat) (v : Value) (l : List (Nat × Bs)) (at_ : Nat) (x : Bs) (hown : W.ownsRow B 103 2 v l.length (pieceCells l)) (h1 : l.length ≤ 1000000) (hB : B ≤ W.heap.size) :
    ∃ a c w', (Builtin.append_ #[29, 29] 29 #[v, .slice (some ⟨W.heap.size, 0, none⟩) 1 1]).run Try.prog (W.alloc (.cells #[.int .i64 (at_ : Int), .string ⟨x.toArray⟩] 103)) = .ok (.slice a (l ++ [(at_, x)]).length c) w' ∧ w'.ownsRow B 103 2 (.slice a (l ++ [(at_, x)]).length c) (l ++ [(at_, x)]).length (pieceCells (l ++ [(at_, x)])) ∧ Below B W w' := by
  have hb := below_alloc W (.cells #[.int .i64 (at_ : Int), .string ⟨x.toArray⟩] 103)
  obtain ⟨v', w', hr, ho, hg⟩ := append_pieces (W.alloc (.cells #[.int .i64 (at_ : Int), .string ⟨x.toArray⟩] 103)) B l.length v (pieceCells l) W.heap.size 0 1 [(at_, x)] (owns_alloc hown _) (fun j hj => by
    obtain rfl : j = 0 := by simpa using hj
    constructor <;> simp [go_sem]) h1 (by simp) (by have := hb.size; omega)
  rw [← pieceCells_app] at ho
  have hlen : l.length + [(at_, x)].length = (l ++ [(at_, x)]).length := (List.length_append).symm
  rw [hlen] at ho
  obtain ⟨a, c, rfl⟩ := owns_formG ho
  exact ⟨a, c, w', hr, ho, (hb.mono hB).trans hg⟩
theorem take_pieces (n : Nat) (b : Bs) (i : Nat) (h : i < 4) : (piecesL n b).take (i + 1) = (piecesL n b).take i ++ [(n * 4 + i, cutB b i)] := by
  unfold piecesL
  rw [← List.map_take, ← List.map_take, List.take_range, List.take_range, Nat.min_eq_left (by omega), Nat.min_eq_left (by omega), List.range_succ, List.map_append]
  rfl
theorem pieces_len (n : Nat) (b : Bs) : (piecesL n b).length = 4 := by unfold piecesL; simp
theorem cut_get (b : Bs) (i j : Nat) (h : j < (cutB b i).length) (h2 : i * 64 + j < b.length) : (cutB b i)[j] = b[i * 64 + j] := by
  simp [cutB]
theorem cut_bytes {w : World} {bb bo cap : Nat} {b : Bs} (hl : b.length = 256) (hcap : b.length ≤ cap) (hc : ∀ j (hj : j < b.length), w.cell? ⟨bb, bo + j, none⟩ = some (.int .u8 (b[j].toNat : Int))) (i : Nat) (hi : i < 4) :
    (convert 43 9 (.slice (some ⟨bb, bo + i * 64, none⟩) 64 (cap - i * 64))).run Try.prog w = .ok (.string ⟨(cutB b i).toArray⟩) w := by
  have hlc : (cutB b i).length = 64 := by unfold cutB; rw [List.length_take, List.length_drop]; omega
  have h := conv_bytes w bb (bo + i * 64) (cap - i * 64) (cutB b i) (fun j hj => by
    rw [hlc] at hj
    have h1 := hc (i * 64 + j) (by omega)
    rw [← Nat.add_assoc] at h1
    rw [h1, cut_get b i j _ (by omega)])
  rw [hlc] at h
  exact h
end Go.Proofs.Ythpepkfodcgbcaa
