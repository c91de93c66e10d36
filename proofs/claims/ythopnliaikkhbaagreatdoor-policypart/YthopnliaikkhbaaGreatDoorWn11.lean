/- Sizes of nodes; what the document's own Weight answers (of El9, Ls9, We9 what a seat without print wants). -/
import Derived.Test.YthopnliaikkhbaaGreatDoorS5Kn9
import Derived.Shelf.Abstract
import Derived.Deep.RegionHeld2
import Derived.Test.YthopnliaikkhbaaGreatDoorIp11
set_option linter.unusedVariables false
set_option linter.unusedSimpArgs false
set_option maxRecDepth 4000
namespace Go.Proofs.YthopnliaikkhbaaGreatDoor
open Go.RowKit

def sizeA (a : List UInt8 × List UInt8) : Nat := 1 + a.1.length + a.2.length
def sizeAs (aa : List (List UInt8 × List UInt8)) : Nat := (aa.map sizeA).sum
def sizeT : {k : Nat} → S5.NT k → Nat
  | 0, _ => 0
  | k + 1, t => 1 + t.nd.name.length + t.nd.text.length + sizeAs t.nd.attrs + (t.kids.map fun x => sizeT x).sum
def sizeTs {k : Nat} (ts : List (S5.NT k)) : Nat := (ts.map fun x => sizeT x).sum
theorem sizeT_mk {k : Nat} (t : S5.NT (k + 1)) : sizeT t = 1 + t.nd.name.length + t.nd.text.length + sizeAs t.nd.attrs + sizeTs t.kids := rfl
theorem sizeTs_nil {k : Nat} : sizeTs ([] : List (S5.NT k)) = 0 := rfl
theorem sizeTs_app {k : Nat} (a b : List (S5.NT k)) : sizeTs (a ++ b) = sizeTs a + sizeTs b := by
  unfold sizeTs
  rw [List.map_append, List.sum_append]
theorem sizeTs_take {k : Nat} (ts : List (S5.NT k)) (i : Nat) (h : i < ts.length) : sizeTs (ts.take (i + 1)) = sizeTs (ts.take i) + sizeT ts[i] := by
  rw [List.take_succ_eq_append_getElem h, sizeTs_app]
  congr 1
theorem sizeTs_at {k : Nat} (ts : List (S5.NT k)) (i : Nat) (h : i < ts.length) : sizeTs (ts.drop i) = sizeT ts[i] + sizeTs (ts.drop (i + 1)) := by
  rw [List.drop_eq_getElem_cons h]
  rfl
theorem sizeTs_mem {k : Nat} (ts : List (S5.NT k)) (i : Nat) (h : i < ts.length) : sizeT ts[i] ≤ sizeTs ts := by
  have h1 := sizeTs_at ts i h
  have h2 := sizeTs_app (ts.take i) (ts.drop i)
  rw [List.take_append_drop] at h2
  omega
theorem sizeAs_take (aa : List (List UInt8 × List UInt8)) (i : Nat) (h : i < aa.length) : sizeAs (aa.take (i + 1)) = sizeAs (aa.take i) + sizeA aa[i] := by
  unfold sizeAs
  rw [List.take_succ_eq_append_getElem h, List.map_append, List.sum_append]
  simp
/-- How deep nodes stand. -/
def tallG {α : Type} (f : α → Nat) : List α → Nat
  | [] => 0
  | x :: r => max (f x) (tallG f r)
def tallT : {k : Nat} → S5.NT k → Nat
  | 0, _ => 0
  | k + 1, t => 1 + tallG (fun x => tallT x) t.kids
def tallTs {k : Nat} (ts : List (S5.NT k)) : Nat := tallG (fun x => tallT x) ts
theorem tallT_mk {k : Nat} (t : S5.NT (k + 1)) : tallT t = 1 + tallTs t.kids := rfl
theorem tallG_app {α : Type} (f : α → Nat) : ∀ (a b : List α), tallG f (a ++ b) = max (tallG f a) (tallG f b)
  | [], b => by rw [List.nil_append]; unfold tallG; omega
  | x :: r, b => by
    rw [List.cons_append, tallG, tallG, tallG_app f r b]
    omega
theorem tallTs_take {k : Nat} (ts : List (S5.NT (k + 1))) (i : Nat) (h : i < ts.length) : tallTs (ts.take (i + 1)) = max (tallTs (ts.take i)) (1 + tallTs ts[i].kids) := by
  unfold tallTs
  rw [List.take_succ_eq_append_getElem h, tallG_app]
  show max _ (max (1 + tallTs ts[i].kids) 0) = _
  unfold tallTs
  omega
theorem isK_keepB {Bk : Nat → Prop} {w W : World} {B k : Nat} {ks : List (S5.NT k)} {kv : Value} (hB : ∀ k, Bk k → k < B) (h : S5.IsK Bk w ks kv) (hb : Below B w W) : S5.IsK Bk W ks kv := by
  rcases h with h | ⟨b, o, cap, e1, e2, e3, e4⟩
  · exact .inl h
  · refine .inr ⟨b, o, cap, e1, e2, e3, ?_⟩
    rcases e3 with rfl | e3
    · trivial
    · exact S5.IsNs.keep (fun k hk => hb.block k (hB k hk)) (fun _ h => h) b e3 o ks e4
theorem isN_keepB {Bk : Nat → Prop} {w W : World} {B k : Nat} {t : S5.NT k} {vs : List Value} (hB : ∀ k, Bk k → k < B) (h : S5.IsN Bk w t vs) (hb : Below B w W) : S5.IsN Bk W t vs := h.on fun k hk => hb.block k (hB k hk)
/-- A node's six cells. -/
theorem node6 {Bk : Nat → Prop} {w : World} {k : Nat} {ts : List (S5.NT (k + 1))} {b o : Nat} (h : S5.IsNs Bk w b o ts) (i : Nat) (hi : i < ts.length) :
    ∃ av kv : Value, w.cell? ⟨b, o + i * 6, none⟩ = some (.int .i64 ts[i].nd.kind) ∧ w.cell? ⟨b, o + i * 6 + 1, none⟩ = some (.int .i64 ts[i].nd.space) ∧ w.cell? ⟨b, o + i * 6 + 2, none⟩ = some (.string ⟨ts[i].nd.name.toArray⟩) ∧ w.cell? ⟨b, o + i * 6 + 3, none⟩ = some av ∧ w.cell? ⟨b, o + i * 6 + 4, none⟩ = some (.string ⟨ts[i].nd.text.toArray⟩) ∧ w.cell? ⟨b, o + i * 6 + 5, none⟩ = some kv ∧ S5.IsN Bk w ts[i] [.int .i64 ts[i].nd.kind, .int .i64 ts[i].nd.space, .string ⟨ts[i].nd.name.toArray⟩, av, .string ⟨ts[i].nd.text.toArray⟩, kv] ∧ (∃ a n c, av = .slice a n c) ∧ (∃ a n c, kv = .slice a n c) := by
  obtain ⟨vs, g, n⟩ := S5.IsNs.get o ts h i hi
  have n0 := n
  rw [ts[i].form, S5.isN_iff] at n
  obtain ⟨av, kv, rfl, hA, hK⟩ := n
  obtain ⟨a, c, hk⟩ := S5.isK_form hK
  obtain ⟨a2, c2, ha⟩ := S5.isA_form hA.1
  exact ⟨av, kv, g 0 (by omega), g 1 (by omega), g 2 (by omega), g 3 (by omega), g 4 (by omega), g 5 (by omega), n0, ⟨a2, _, c2, ha⟩, ⟨a, _, c, hk⟩⟩
/-- What a weight tells: no more than the bound; less than that: so many at most, and not too deep. -/
def Weighs {k : Nat} (ts : List (S5.NT k)) (bound deep W : Nat) : Prop := W ≤ bound ∧ (W < bound → sizeTs ts ≤ W ∧ tallTs ts + 1 ≤ deep)
def WeightOk (deep : Nat) {k : Nat} (ts : List (S5.NT k)) : Prop := ∀ (Bk : Nat → Prop) (va : Value) (w : World) (bound : Nat), bound ≤ 1500 → (∀ j, Bk j → j < w.heap.size) → S5.IsK Bk w ts va → Calls Tryz.prog 11 #[va, .int .i64 (bound : Int), .int .i64 (deep : Int)] w fun e w' => (∃ W : Nat, e = .returned (.int .i64 (W : Int)) ∧ Weighs ts bound deep W) ∧ Below w.heap.size w w'
set_option maxHeartbeats 1000000 in
theorem weight_none {k : Nat} (ts : List (S5.NT k)) : WeightOk 0 ts := by
  intro Bk va w bound hb hB hK
  obtain ⟨a1, c1, rfl⟩ := S5.isK_form hK
  clear hK hB
  have HF : Hid (Weighs ts bound 0 bound) := hide ⟨Nat.le_refl _, fun h => absurd h (Nat.lt_irrefl _)⟩
  go_enter Tryz.func11, Tryz.ntmps11
  go_wp2
  go_ret
  exact ⟨⟨bound, rfl, HF.out⟩, Below.refl _ _⟩
theorem sizeAs_at (aa : S5.AttrL) (k : Nat) (h : k < aa.length) : sizeAs (aa.take (k + 1)) = sizeAs (aa.take k) + (1 + aa[k].1.length + aa[k].2.length) := sizeAs_take aa k h
theorem node6b {Bk : Nat → Prop} {w : World} {k : Nat} {ts : List (S5.NT (k + 1))} {b o : Nat} (h : S5.IsNs Bk w b o ts) (i : Nat) (hi : i < ts.length) :
    ∃ (qa : Option Addr) (qc : Nat) (ka : Option Addr) (kc : Nat), w.cell? ⟨b, o + i * 6 + 2, none⟩ = some (.string ⟨ts[i].nd.name.toArray⟩) ∧ w.cell? ⟨b, o + i * 6 + 3, none⟩ = some (.slice qa ts[i].nd.attrs.length qc) ∧ w.cell? ⟨b, o + i * 6 + 4, none⟩ = some (.string ⟨ts[i].nd.text.toArray⟩) ∧ w.cell? ⟨b, o + i * 6 + 5, none⟩ = some (.slice ka ts[i].kids.length kc) ∧ S5.IsAB Bk w (.slice qa ts[i].nd.attrs.length qc) ts[i].nd.attrs ∧ S5.IsK Bk w ts[i].kids (.slice ka ts[i].kids.length kc) := by
  obtain ⟨vs, g, n⟩ := S5.IsNs.get o ts h i hi
  rw [ts[i].form, S5.isN_iff] at n
  obtain ⟨av, kv, rfl, hA, hK⟩ := n
  obtain ⟨a, c, rfl⟩ := S5.isK_form hK
  obtain ⟨a2, c2, rfl⟩ := S5.isA_form hA.1
  exact ⟨a2, c2, a, c, g 2 (by omega), g 3 (by omega), g 4 (by omega), g 5 (by omega), hA, hK⟩
theorem isA_keepW {Bk : Nat → Prop} {w W : World} {aa : S5.AttrL} {v : Value} (h : S5.IsAB Bk w v aa) (hb : Below w.heap.size w W) : S5.IsAB Bk W v aa := h.below hb
set_option maxHeartbeats 2000000 in
theorem weight_step {k : Nat} (deep : Nat) (hd : deep ≤ 100) (ts : List (S5.NT (k + 1))) (hl : ts.length ≤ 9223372036854775807) (hal : ∀ i (h : i < ts.length), ts[i].nd.attrs.length ≤ 9223372036854775807) (ih : ∀ i (h : i < ts.length), WeightOk deep ts[i].kids) : WeightOk (deep + 1) ts := by
  intro Bk va w bound hbd hB hK
  have HK := hide hK
  have HB := hide hB
  have HIH := hide ih
  have HAL := hide hal
  have HEND : Hid (Weighs ts bound (deep + 1) bound) := hide ⟨Nat.le_refl _, fun h => absurd h (Nat.lt_irrefl _)⟩
  have HST := hide (sizeTs_take ts)
  have HTT := hide (tallTs_take ts)
  obtain ⟨a1, c1, rfl⟩ := S5.isK_form hK
  clear hK hB ih hal
  have hd0 : ((deep : Int) + 1 == 0) = false := beq_eq_false_iff_ne.2 (by omega)
  rw [show ((deep + 1 : Nat) : Int) = (deep : Int) + 1 by omega]
  go_enter Tryz.func11, Tryz.ntmps11
  go_wp2
  go_loopw [7, 8] (fun vn vi wr => ∃ i n : Nat, vi = .int .i64 (i : Int) ∧ i ≤ ts.length ∧ vn = .int .i64 (n : Int) ∧ n ≤ bound ∧ Hid (n < bound → sizeTs (ts.take i) ≤ n ∧ tallTs (ts.take i) ≤ deep) ∧ Hid (Below w.heap.size w wr)) (fun _ vi _ => ts.length - (intOf vi).toNat)
  case atStart => exact ⟨0, 0, rfl, by omega, rfl, by omega, hide (fun _ => ⟨Nat.zero_le _, Nat.zero_le _⟩), hide (Below.refl _ _)⟩
  case round =>
    obtain ⟨i, n, rfl, hi, rfl, hn, HQ, HBW⟩ := hrel
    by_cases hlt : i < ts.length
    · have hlt2 : (i : Int) < ts.length := by omega
      by_cases hnb : n < bound
      · have hnb2 : (n : Int) < bound := by omega
        have k1 := isK_keepB HB.out HK.out HBW.out
        rcases k1 with ⟨_, h0⟩ | ⟨b1, o1, cap1, e1, _, _, hn1⟩
        · rw [h0] at hlt; simp at hlt
        injection e1 with e1 _ e1c
        subst e1 e1c
        obtain ⟨qa, qc, ka, kc, u2, u3, u4, u5, hA, hKd⟩ := node6b hn1 i hlt
        have hNz : (⟨ts[i].nd.name.toArray⟩ : ByteArray).size = ts[i].nd.name.length := by rw [S5.size_list, S5.str_data]
        have hTz : (⟨ts[i].nd.text.toArray⟩ : ByteArray).size = ts[i].nd.text.length := by rw [S5.size_list, S5.str_data]
        have hal := HAL.out i hlt
        have hst := HST.out i hlt
        have htt := HTT.out i hlt
        have hq := HQ.out hnb
        rw [sizeT_mk] at hst
        have HC : Hid (∀ (W : World) (bd : Nat), bd ≤ 1500 → Below wr.heap.size wr W → Calls Tryz.prog 11 #[.slice ka ts[i].kids.length kc, .int .i64 (bd : Int), .int .i64 (deep : Int)] W fun e w' => (∃ V : Nat, e = .returned (.int .i64 (V : Int)) ∧ Weighs ts[i].kids bd deep V) ∧ Below W.heap.size W w') := hide (fun W bd hbd hb => HIH.out i hlt Bk _ W bd hbd (fun j hj => Nat.lt_of_lt_of_le (Nat.lt_of_lt_of_le (HB.out j hj) HBW.out.size) hb.size) (isK_keepB (fun j hj => Nat.lt_of_lt_of_le (HB.out j hj) HBW.out.size) hKd hb))
        have HA := hide hA
        have HSQ : Hid (∀ V, n + 1 + ts[i].nd.name.length + ts[i].nd.text.length + sizeAs ts[i].nd.attrs < bound → Weighs ts[i].kids (bound - (n + 1 + ts[i].nd.name.length + ts[i].nd.text.length + sizeAs ts[i].nd.attrs)) deep V → n + 1 + ts[i].nd.name.length + ts[i].nd.text.length + sizeAs ts[i].nd.attrs + V ≤ bound ∧ (n + 1 + ts[i].nd.name.length + ts[i].nd.text.length + sizeAs ts[i].nd.attrs + V < bound → sizeTs (ts.take (i + 1)) ≤ n + 1 + ts[i].nd.name.length + ts[i].nd.text.length + sizeAs ts[i].nd.attrs + V ∧ tallTs (ts.take (i + 1)) ≤ deep)) := hide (fun V h1 h2 => by
          refine ⟨by have := h2.1; omega, fun h3 => ?_⟩
          have h4 := h2.2 (by omega)
          rw [hst, htt]
          omega)
        clear hst htt hq HQ hA hKd hn1 HST HTT
        rw [← hNz, ← hTz] at HSQ
        generalize (⟨ts[i].nd.name.toArray⟩ : ByteArray) = nb at *
        generalize (⟨ts[i].nd.text.toArray⟩ : ByteArray) = tb at *
        generalize ts[i].nd.attrs = aa at *
        generalize ts[i].kids = kids at *
        generalize hkl : kids.length = kl at *
        clear hkl hNz hTz
        by_cases hc1 : bound ≤ nb.size
        · have hc1' : (bound : Int) ≤ nb.size := by omega
          go_wp2
          go_ret
          exact ⟨⟨bound, rfl, HEND.out⟩, HBW.out⟩
        · have hc1' : ¬ (bound : Int) ≤ nb.size := by omega
          by_cases hc2 : bound ≤ tb.size
          · have hc2' : (bound : Int) ≤ tb.size := by omega
            go_wp2
            go_ret
            exact ⟨⟨bound, rfl, HEND.out⟩, HBW.out⟩
          · have hc2' : ¬ (bound : Int) ≤ tb.size := by omega
            by_cases hc3 : bound ≤ aa.length
            · have hc3' : (bound : Int) ≤ aa.length := by omega
              go_wp2
              go_ret
              exact ⟨⟨bound, rfl, HEND.out⟩, HBW.out⟩
            · have hc3' : ¬ (bound : Int) ≤ aa.length := by omega
              go_wp2
              go_region
              all_goals go_wp2
              have HU : Hid (∀ W, Below wr.heap.size wr W → W.cell? ⟨b1, o1 + i * 6 + 3, none⟩ = some (.slice qa aa.length qc) ∧ W.cell? ⟨b1, o1 + i * 6 + 5, none⟩ = some (.slice ka kl kc)) := hide (fun W hb => ⟨(hb.cell (S5.cell_lt u3)).trans u3, (hb.cell (S5.cell_lt u5)).trans u5⟩)
              have HSM := hide (sizeAs_at aa)
              clear u2 u3 u4 u5
              generalize wr = w8 at *
              go_loopw [7, 9] (fun vn vk wr => ∃ m q : Nat, vk = .int .i64 (q : Int) ∧ q ≤ aa.length ∧ vn = .int .i64 (m : Int) ∧ m ≤ 3 * bound ∧ Hid (m = n + 1 + nb.size + tb.size + sizeAs (aa.take q)) ∧ Hid (Below w8.heap.size w8 wr)) (fun _ vk _ => aa.length - (intOf vk).toNat)
              case atStart => exact ⟨n + 1 + nb.size + tb.size, 0, rfl, by omega, by go_num, by omega, hide rfl, hide (Below.refl _ w8).drew⟩
              case round =>
                obtain ⟨m, q, rfl, hq, rfl, hm, HM, HBQ⟩ := hrel
                obtain ⟨v3, v5⟩ := HU.out wr HBQ.out
                by_cases hmb : m < bound
                · have hmb2 : (m : Int) < bound := by omega
                  by_cases hqa : q < aa.length
                  · have hqa2 : (q : Int) < aa.length := by omega
                    have hA2 := isA_keepW HA.out HBQ.out
                    rcases hA2.1 with ⟨_, h0⟩ | ⟨b2, o2, cap2, e2, _, hc⟩
                    · rw [h0] at hqa; simp at hqa
                    injection e2 with e2 _ e2c
                    subst e2 e2c
                    obtain ⟨p0, p1⟩ := hc q hqa
                    have hsm := HSM.out q hqa
                    have hz1 : (⟨aa[q].1.toArray⟩ : ByteArray).size = aa[q].1.length := by rw [S5.size_list, S5.str_data]
                    have hz2 : (⟨aa[q].2.toArray⟩ : ByteArray).size = aa[q].2.length := by rw [S5.size_list, S5.str_data]
                    rw [← hz1, ← hz2] at hsm
                    have HSM2 := hide hsm
                    clear hsm hz1 hz2 hc hA2
                    generalize (⟨aa[q].1.toArray⟩ : ByteArray) = an at *
                    generalize (⟨aa[q].2.toArray⟩ : ByteArray) = avl at *
                    by_cases hd1 : bound ≤ an.size
                    · have hd1' : (bound : Int) ≤ an.size := by omega
                      go_wp2
                      go_ret
                      exact ⟨⟨bound, rfl, HEND.out⟩, HBW.out.trans ((HBQ.out.trans (S5.below_alloc wr _ |>.mono HBQ.out.size)).mono HBW.out.size)⟩
                    · have hd1' : ¬ (bound : Int) ≤ an.size := by omega
                      by_cases hd2 : bound ≤ avl.size
                      · have hd2' : (bound : Int) ≤ avl.size := by omega
                        go_wp2
                        go_ret
                        exact ⟨⟨bound, rfl, HEND.out⟩, HBW.out.trans ((HBQ.out.trans (S5.below_alloc wr _ |>.mono HBQ.out.size)).mono HBW.out.size)⟩
                      · have hd2' : ¬ (bound : Int) ≤ avl.size := by omega
                        have HN2 : Hid (m + 1 + an.size + avl.size = n + 1 + nb.size + tb.size + sizeAs (aa.take (q + 1))) := hide (by rw [HSM2.out, HM.out]; omega)
                        have HBN : Hid (∀ W, Below wr.heap.size wr W → Below w8.heap.size w8 W) := hide (fun W hb => HBQ.out.trans (hb.mono HBQ.out.size))
                        go_wp2
                        go_roundw
                        case rel => exact ⟨m + 1 + an.size + avl.size, q + 1, by go_num, by omega, by go_num, by omega, HN2, hide (HBN.out _ (S5.below_alloc wr _))⟩
                        case measure => simp [intOf]; omega
                  · have hqa2 : ¬ (q : Int) < aa.length := by omega
                    have hke : aa.take q = aa := List.take_of_length_le (by omega)
                    rw [hke] at HM
                    clear hke
                    have HSQ2 := hide (fun V => HSQ.out V (by rw [← HM.out]; exact hmb))
                    rw [← HM.out] at HSQ2
                    have HC2 := hide (HC.out wr (bound - m) (by omega) HBQ.out)
                    rw [show ((bound - m : Nat) : Int) = (bound : Int) - m by omega] at HC2
                    clear HC HSQ HM
                    go_wp2_with fail
                    refine HC2.out.mono ?_
                    rintro e w9 ⟨⟨V, rfl, hV⟩, b9⟩
                    have hV2 := HSQ2.out V hV
                    have hvb := hV2.1
                    have HQ2 := hide hV2.2
                    have HBZ := hide (HBW.out.trans ((HBQ.out.trans (b9.mono HBQ.out.size)).mono HBW.out.size))
                    clear hV hV2 b9 v3 v5
                    go_wp2
                    go_roundw
                    case rel => exact ⟨i + 1, m + V, by go_num, by omega, by go_num, by omega, HQ2, HBZ⟩
                    case measure => simp [intOf]; omega
                · have hmb2 : ¬ (m : Int) < bound := by omega
                  have hmb3 : (bound : Int) ≤ m := by omega
                  have HBZ := hide (HBW.out.trans (HBQ.out.mono HBW.out.size))
                  by_cases hqa : q < aa.length
                  · have hqa2 : (q : Int) < aa.length := by omega
                    go_wp2
                    go_ret
                    exact ⟨⟨bound, rfl, HEND.out⟩, HBZ.out⟩
                  · have hqa2 : ¬ (q : Int) < aa.length := by omega
                    go_wp2
                    go_ret
                    exact ⟨⟨bound, rfl, HEND.out⟩, HBZ.out⟩
      · have hnb2 : ¬ (n : Int) < bound := by omega
        have HF : Hid (Weighs ts bound (deep + 1) n) := hide ⟨hn, fun h => absurd h hnb⟩
        clear HQ
        go_wp2
        go_ret
        exact ⟨⟨n, rfl, HF.out⟩, HBW.out⟩
    · have hlt2 : ¬ (i : Int) < ts.length := by omega
      have hke : ts.take i = ts := List.take_of_length_le (by omega)
      have HF : Hid (Weighs ts bound (deep + 1) n) := hide ⟨hn, fun h => by
        have := HQ.out h
        rw [hke] at this
        exact ⟨this.1, Nat.succ_le_succ this.2⟩⟩
      clear HQ hke
      go_wp2
      go_ret
      exact ⟨⟨n, rfl, HF.out⟩, HBW.out⟩
theorem weight_any : ∀ (deep : Nat) (hd : deep ≤ 100) {k : Nat} (ts : List (S5.NT k)), ts.length ≤ 9223372036854775807 → S5.OkTs ts → WeightOk deep ts
  | 0, _, _, ts, _, _ => weight_none ts
  | deep + 1, hd, 0, ts, _, _ => by
    intro Bk va w bound hbd hB h
    obtain ⟨rfl, h2⟩ := S5.isK_up h
    exact weight_step deep (by omega) ([] : List (S5.NT 1)) (Nat.zero_le _) (fun i hi => by simp at hi) (fun i hi => by simp at hi) Bk va w bound hbd hB h2
  | deep + 1, hd, k + 1, ts, hl, h => weight_step deep (by omega) ts hl (fun i hi => (h _ (List.getElem_mem hi)).1) fun i hi => weight_any deep (by omega) _ (h _ (List.getElem_mem hi)).2.1 (h _ (List.getElem_mem hi)).2.2
end Go.Proofs.YthopnliaikkhbaaGreatDoor
