import Derived.Test.YtpppdfjdngmaoaaGreatDoorKh11
import Derived.Shelf.Abstract
set_option linter.unusedVariables false
set_option linter.unusedSimpArgs false
set_option maxRecDepth 100000
set_option maxHeartbeats 8000000
namespace Go.Proofs.YtpppdfjdngmaoaaGreatDoor.P9
open Go.RowKit
theorem isK_keepB {Bk : Nat → Prop} {w W : World} {B k : Nat} {ks : List (G5.NT k)} {kv : Value} (hB : ∀ k, Bk k → k < B) (h : G5.IsK Bk w ks kv) (hb : Below B w W) : G5.IsK Bk W ks kv := by
  rcases h with h | ⟨b, o, cap, e1, e2, e3, e4⟩
  · exact .inl h
  · refine .inr ⟨b, o, cap, e1, e2, e3, ?_⟩
    rcases e3 with rfl | e3
    · trivial
    · exact G5.IsNs.keep (fun k hk => hb.block k (hB k hk)) (fun _ h => h) b e3 o ks e4
theorem isN_keepB {Bk : Nat → Prop} {w W : World} {B k : Nat} {t : G5.NT k} {vs : List Value} (hB : ∀ k, Bk k → k < B) (h : G5.IsN Bk w t vs) (hb : Below B w W) : G5.IsN Bk W t vs := h.on fun k hk => hb.block k (hB k hk)
theorem node6 {Bk : Nat → Prop} {w : World} {k : Nat} {ts : List (G5.NT (k + 1))} {b o : Nat} (h : G5.IsNs Bk w b o ts) (i : Nat) (hi : i < ts.length) :
    ∃ av kv : Value, w.cell? ⟨b, o + i * 6, none⟩ = some (.int .i64 ts[i].nd.kind) ∧ w.cell? ⟨b, o + i * 6 + 1, none⟩ = some (.int .i64 ts[i].nd.space) ∧ w.cell? ⟨b, o + i * 6 + 2, none⟩ = some (.string ⟨ts[i].nd.name.toArray⟩) ∧ w.cell? ⟨b, o + i * 6 + 3, none⟩ = some av ∧ w.cell? ⟨b, o + i * 6 + 4, none⟩ = some (.string ⟨ts[i].nd.text.toArray⟩) ∧ w.cell? ⟨b, o + i * 6 + 5, none⟩ = some kv ∧ G5.IsN Bk w ts[i] [.int .i64 ts[i].nd.kind, .int .i64 ts[i].nd.space, .string ⟨ts[i].nd.name.toArray⟩, av, .string ⟨ts[i].nd.text.toArray⟩, kv] ∧ (∃ a n c, av = .slice a n c) ∧ (∃ a n c, kv = .slice a n c) := by
  obtain ⟨vs, g, n⟩ := G5.IsNs.get o ts h i hi
  have n0 := n
  rw [ts[i].form, G5.isN_iff] at n
  obtain ⟨av, kv, rfl, hA, hK⟩ := n
  obtain ⟨a, c, hk⟩ := G5.isK_form hK
  obtain ⟨a2, c2, ha⟩ := G5.isA_form hA.1
  exact ⟨av, kv, g 0 (by omega), g 1 (by omega), g 2 (by omega), g 3 (by omega), g 4 (by omega), g 5 (by omega), n0, ⟨a2, _, c2, ha⟩, ⟨a, _, c, hk⟩⟩
def ElemOk {k : Nat} (t : G5.NT (k + 1)) : Prop := ∀ (Bk : Nat → Prop) (B b : Nat) (acc : List UInt8) (av kv : Value) (w : World), Pr B b acc w → (∀ j, Bk j → j < B) → G5.IsN Bk w t [.int .i64 t.nd.kind, .int .i64 t.nd.space, .string ⟨t.nd.name.toArray⟩, av, .string ⟨t.nd.text.toArray⟩, kv] → t.nd.kind = 1 → sizeT t ≤ 1000000 → acc.length + 7 * sizeT t ≤ 140737488355328 →
  Calls Tryz.prog 69 #[.pointer (some ⟨b, 0, none⟩), .agg #[.int .i64 t.nd.kind, .int .i64 t.nd.space, .string ⟨t.nd.name.toArray⟩, av, .string ⟨t.nd.text.toArray⟩, kv]] w fun e w' => e = .returned (.tuple #[]) ∧ Wrote B b acc (printT false t) w w'
def ListOk {k : Nat} (ts : List (G5.NT k)) : Prop := ∀ (Bk : Nat → Prop) (B b : Nat) (acc : List UInt8) (va : Value) (raw : Bool) (w : World), Pr B b acc w → (∀ j, Bk j → j < B) → G5.IsK Bk w ts va → sizeTs ts ≤ 1000000 → acc.length + 7 * sizeTs ts ≤ 140737488355328 →
  Calls Tryz.prog 36 #[.pointer (some ⟨b, 0, none⟩), va, wayOfTexts raw] w fun e w' => e = .returned (.tuple #[]) ∧ Wrote B b acc (printTs raw ts) w w'
theorem sizeTs_len {k : Nat} : ∀ (ts : List (G5.NT (k + 1))), ts.length ≤ sizeTs ts
  | [] => Nat.zero_le _
  | x :: r => by
    have h := sizeTs_len r
    have : sizeTs (x :: r) = sizeT x + sizeTs r := by unfold sizeTs; rw [List.map_cons, List.sum_cons]
    rw [List.length_cons, this, sizeT_mk]
    omega
def way1 (raw : Bool) (kd : Int) : Nat := if kd = 1 then 69 else if kd = 2 then (if raw then 151 else 37) else if kd = 3 then 70 else 71
theorem way1_eq (raw : Bool) (kd : Int) : (if kd = 1 then wElement else if kd = 2 then wayOfTexts raw else if kd = 3 then wComment else wNothing) = .func (.func (way1 raw kd)) #[] #[] := by
  unfold way1 wayOfTexts
  split
  · rfl
  · split
    · split <;> rfl
    · split <;> rfl
theorem way1_enters (raw : Bool) (kd : Int) (args : Array Value) (w : World) : (callFunc (way1 raw kd) args).run Tryz.prog w = .ok (.enter (way1 raw kd) args) w := by
  unfold way1
  split
  · exact enters_of Tryz.func69 (by kernel_rfl) rfl args w
  · split
    · split
      · exact enters_of Tryz.func151 (by kernel_rfl) rfl args w
      · exact enters_of Tryz.func37 (by kernel_rfl) rfl args w
    · split
      · exact enters_of Tryz.func70 (by kernel_rfl) rfl args w
      · exact enters_of Tryz.func71 (by kernel_rfl) rfl args w
theorem way1_any {k : Nat} (t : G5.NT (k + 1)) (he : ElemOk t) (Bk : Nat → Prop) (B b : Nat) (acc : List UInt8) (av kv : Value) (raw : Bool) (w : World) (h : Pr B b acc w) (hB : ∀ j, Bk j → j < B) (hn : G5.IsN Bk w t [.int .i64 t.nd.kind, .int .i64 t.nd.space, .string ⟨t.nd.name.toArray⟩, av, .string ⟨t.nd.text.toArray⟩, kv]) (hs : sizeT t ≤ 1000000) (hl : acc.length + 7 * sizeT t ≤ 140737488355328) :
    Calls Tryz.prog (way1 raw t.nd.kind) #[.pointer (some ⟨b, 0, none⟩), .agg #[.int .i64 t.nd.kind, .int .i64 t.nd.space, .string ⟨t.nd.name.toArray⟩, av, .string ⟨t.nd.text.toArray⟩, kv]] w fun e w' => e = .returned (.tuple #[]) ∧ Wrote B b acc (printT raw t) w w' := by
  have hz : (⟨t.nd.text.toArray⟩ : ByteArray).size = t.nd.text.length := by rw [G5.size_list, G5.str_data]
  have hm := sizeT_mk t
  unfold way1
  by_cases h1 : t.nd.kind = 1
  · rw [if_pos h1]
    have := he Bk B b acc av kv w h hB hn h1 hs hl
    have e : printT raw t = printT false t := by
      rw [printT_mk raw t, printT_mk false t]
      simp [h1]
    rw [e]
    exact this
  · rw [if_neg h1]
    by_cases h2 : t.nd.kind = 2
    · rw [if_pos h2, printT_mk, if_pos h2]
      cases raw
      · have := text_p h t.nd.kind t.nd.space ⟨t.nd.name.toArray⟩ ⟨t.nd.text.toArray⟩ av kv (by omega) (by omega)
        rw [G5.str_data] at this
        exact this
      · have := rawText_p h t.nd.kind t.nd.space ⟨t.nd.name.toArray⟩ ⟨t.nd.text.toArray⟩ av kv (by omega)
        rw [G5.str_data] at this
        exact this
    · rw [if_neg h2, printT_mk, if_neg h2]
      by_cases h3 : t.nd.kind = 3
      · rw [if_pos h3, if_pos h3]
        have := comment_p h t.nd.kind t.nd.space ⟨t.nd.name.toArray⟩ ⟨t.nd.text.toArray⟩ av kv (by omega)
        rw [G5.str_data] at this
        exact this
      · rw [if_neg h3, if_neg h3, if_neg h1]
        exact nothing_p h _
theorem list_step {k : Nat} (ts : List (G5.NT (k + 1))) (ih : ∀ i (h : i < ts.length), ElemOk ts[i]) : ListOk ts := by
  intro Bk B b acc va raw w hP hB hK hs hl
  have hln := sizeTs_len ts
  have HIH := hide ih
  have HP := hide hP
  have HB := hide hB
  have HK := hide hK
  have HPT := hide (printTs_take raw ts)
  have HST := hide (sizeTs_take ts)
  have HSL : Hid (∀ i, sizeTs (ts.take i) ≤ sizeTs ts) := hide fun i => by
    have := sizeTs_app (ts.take i) (ts.drop i)
    rw [List.take_append_drop] at this
    omega
  have HPL := hide (fun i => printTs_len raw (ts.take i))
  obtain ⟨a1, c1, rfl⟩ := G5.isK_form hK
  generalize hwv : wayOfTexts raw = wv
  have HWV := hide hwv
  clear hwv hK hB hP ih
  go_enter Tryz.func36, Tryz.ntmps36
  go_wp2
  go_loopw [11] (fun i wr => ∃ k : Nat, k ≤ ts.length ∧ i = .int .i64 k ∧ Hid (Wrote B b acc (printTs raw (ts.take k)) w wr)) (fun i _ => ts.length - (intOf i).toNat)
  case atStart => exact ⟨0, Nat.zero_le _, rfl, hide (Wrote.none HP.out (Below.refl _ _))⟩
  case round =>
    obtain ⟨i, hi, rfl, HW⟩ := hrel
    by_cases hlt : i < ts.length
    · have hlt2 : (i : Int) < ts.length := by omega
      have k1 := isK_keepB HB.out HK.out HW.out.2.1
      rcases k1 with ⟨_, h0⟩ | ⟨b1, o1, cap1, e1, _, _, hn1⟩
      · rw [h0] at hlt; simp at hlt
      injection e1 with e1 _ e1c
      subst e1 e1c
      obtain ⟨av, kv, u0, u1, u2, u3, u4, u5, hN, ⟨aa1, aa2, aa3, rfl⟩, ⟨kk1, kk2, kk3, rfl⟩⟩ := node6 hn1 i hlt
      have hst := HST.out i hlt
      have hsl := HSL.out (i + 1)
      have hpl := HPL.out i
      have hbox : Below wr.heap.size wr (wr.alloc (.cells #[.int .i64 ts[i].nd.kind, .int .i64 ts[i].nd.space, .string ⟨ts[i].nd.name.toArray⟩, .slice aa1 aa2 aa3, .string ⟨ts[i].nd.text.toArray⟩, .slice kk1 kk2 kk3] 46)) := G5.below_alloc wr _
      have hPb := HW.out.1.2
      have HC := hide (way1_any ts[i] (HIH.out i hlt) Bk B b (acc ++ printTs raw (ts.take i)) (.slice aa1 aa2 aa3) (.slice kk1 kk2 kk3) raw _ (HW.out.1.below hbox) HB.out (isN_keepB HB.out hN (hbox.mono hPb)) (by omega) (by rw [List.length_append]; omega))
      have HY := hide (wayOf_p ts[i].nd.kind wv)
      have HX : Hid ((if ts[i].nd.kind = 1 then wElement else if ts[i].nd.kind = 2 then wv else if ts[i].nd.kind = 3 then wComment else wNothing) = .func (.func (way1 raw ts[i].nd.kind)) #[] #[]) := hide (by rw [← HWV.out]; exact way1_eq raw _)
      rw [HX.out] at HY
      have hen := way1_enters raw ts[i].nd.kind
      have HPT2 := hide (HPT.out i hlt)
      have HBX := hide hbox
      clear hst hsl hpl hbox hN HX hn1
      generalize way1 raw ts[i].nd.kind = F at *
      generalize printT raw ts[i] = out at *
      generalize ts[i].nd.kind = kd at *
      generalize ts[i].nd.space = sp at *
      generalize (⟨ts[i].nd.name.toArray⟩ : ByteArray) = nm at *
      generalize (⟨ts[i].nd.text.toArray⟩ : ByteArray) = tx at *
      go_wp2_with fail
      refine (HY.out _).mono ?_
      rintro e w1 ⟨rfl, rfl⟩
      go_wp2_with fail
      refine HC.out.mono ?_
      rintro e w2 ⟨rfl, h2⟩
      have HN : Hid (Wrote B b acc (printTs raw (ts.take (i + 1))) w w2) := hide (by rw [HPT2.out]; exact HW.out.trans (h2.behind HBX.out hPb))
      clear h2
      go_wp2
      go_roundw
      case rel => exact ⟨i + 1, by omega, by go_num, HN⟩
      case measure => simp [intOf]; omega
    · have hlt2 : ¬ (i : Int) < ts.length := by omega
      have hke : ts.take i = ts := List.take_of_length_le (by omega)
      rw [hke] at HW
      clear hke
      go_wp2
      go_end0
      exact ⟨rfl, HW.out⟩
end Go.Proofs.YtpppdfjdngmaoaaGreatDoor.P9
namespace Go.Proofs.YtpppdfjdngmaoaaGreatDoor.P9
open Go.RowKit
def Weighs {k : Nat} (ts : List (G5.NT k)) (bound deep W : Nat) : Prop := W ≤ bound ∧ (W < bound → sizeTs ts ≤ W ∧ tallTs ts + 1 ≤ deep)
def WeightOk (deep : Nat) {k : Nat} (ts : List (G5.NT k)) : Prop := ∀ (Bk : Nat → Prop) (va : Value) (w : World) (bound : Nat), bound ≤ 1500 → (∀ j, Bk j → j < w.heap.size) → G5.IsK Bk w ts va → Calls Tryz.prog 21 #[va, .int .i64 (bound : Int), .int .i64 (deep : Int)] w fun e w' => (∃ W : Nat, e = .returned (.int .i64 (W : Int)) ∧ Weighs ts bound deep W) ∧ Below w.heap.size w w'
theorem weight_none {k : Nat} (ts : List (G5.NT k)) : WeightOk 0 ts := by
  intro Bk va w bound hb hB hK
  obtain ⟨a1, c1, rfl⟩ := G5.isK_form hK
  clear hK hB
  have HF : Hid (Weighs ts bound 0 bound) := hide ⟨Nat.le_refl _, fun h => absurd h (Nat.lt_irrefl _)⟩
  go_enter Tryz.func21, Tryz.ntmps21
  go_wp2
  go_ret
  exact ⟨⟨bound, rfl, HF.out⟩, Below.refl _ _⟩
theorem sizeAs_at (aa : G5.AttrL) (k : Nat) (h : k < aa.length) : sizeAs (aa.take (k + 1)) = sizeAs (aa.take k) + (1 + aa[k].1.length + aa[k].2.length) := sizeAs_take aa k h
theorem node6b {Bk : Nat → Prop} {w : World} {k : Nat} {ts : List (G5.NT (k + 1))} {b o : Nat} (h : G5.IsNs Bk w b o ts) (i : Nat) (hi : i < ts.length) :
    ∃ (qa : Option Addr) (qc : Nat) (ka : Option Addr) (kc : Nat), w.cell? ⟨b, o + i * 6 + 2, none⟩ = some (.string ⟨ts[i].nd.name.toArray⟩) ∧ w.cell? ⟨b, o + i * 6 + 3, none⟩ = some (.slice qa ts[i].nd.attrs.length qc) ∧ w.cell? ⟨b, o + i * 6 + 4, none⟩ = some (.string ⟨ts[i].nd.text.toArray⟩) ∧ w.cell? ⟨b, o + i * 6 + 5, none⟩ = some (.slice ka ts[i].kids.length kc) ∧ G5.IsAB Bk w (.slice qa ts[i].nd.attrs.length qc) ts[i].nd.attrs ∧ G5.IsK Bk w ts[i].kids (.slice ka ts[i].kids.length kc) := by
  obtain ⟨vs, g, n⟩ := G5.IsNs.get o ts h i hi
  rw [ts[i].form, G5.isN_iff] at n
  obtain ⟨av, kv, rfl, hA, hK⟩ := n
  obtain ⟨a, c, rfl⟩ := G5.isK_form hK
  obtain ⟨a2, c2, rfl⟩ := G5.isA_form hA.1
  exact ⟨a2, c2, a, c, g 2 (by omega), g 3 (by omega), g 4 (by omega), g 5 (by omega), hA, hK⟩
theorem isA_keepW {Bk : Nat → Prop} {w W : World} {aa : G5.AttrL} {v : Value} (h : G5.IsAB Bk w v aa) (hb : Below w.heap.size w W) : G5.IsAB Bk W v aa := h.below hb
theorem weight_step {k : Nat} (deep : Nat) (hd : deep ≤ 100) (ts : List (G5.NT (k + 1))) (hl : ts.length ≤ 9223372036854775807) (hal : ∀ i (h : i < ts.length), ts[i].nd.attrs.length ≤ 9223372036854775807) (ih : ∀ i (h : i < ts.length), WeightOk deep ts[i].kids) : WeightOk (deep + 1) ts := by
  intro Bk va w bound hbd hB hK
  have HK := hide hK
  have HB := hide hB
  have HIH := hide ih
  have HAL := hide hal
  have HEND : Hid (Weighs ts bound (deep + 1) bound) := hide ⟨Nat.le_refl _, fun h => absurd h (Nat.lt_irrefl _)⟩
  have HST := hide (sizeTs_take ts)
  have HTT := hide (tallTs_take ts)
  obtain ⟨a1, c1, rfl⟩ := G5.isK_form hK
  clear hK hB ih hal
  have hd0 : ((deep : Int) + 1 == 0) = false := beq_eq_false_iff_ne.2 (by omega)
  rw [show ((deep + 1 : Nat) : Int) = (deep : Int) + 1 by omega]
  go_enter Tryz.func21, Tryz.ntmps21
  go_wp2
  go_loopw [7, 8] (fun vn vi wr => ∃ i n : Nat, vi = .int .i64 (i : Int) ∧ i ≤ ts.length ∧ vn = .int .i64 (n : Int) ∧ n ≤ bound ∧ Hid (n < bound → sizeTs (ts.take i) ≤ n ∧ tallTs (ts.take i) ≤ deep) ∧ Hid (Below w.heap.size w wr)) (fun _ vi _ => ts.length - (intOf vi).toNat)
  case atStart => exact ⟨0, 0, rfl, by omega, rfl, by omega, hide (fun _ => ⟨Nat.zero_le _, Nat.zero_le _⟩), hide (Below.refl _ _)⟩
  case round =>
    obtain ⟨i, n, rfl, hi, rfl, hn, HQ, HBW⟩ := hrel
    by_cases hlt : i < ts.length
    · have hlt2 : (i : Int) < ts.length := by omega
      by_cases hnb : n < bound
      · have hnb2 : (n : Int) < bound := by omega
        have k1 := isK_keepB HB.out HK.out HBW.out
        rcases k1 with ⟨_, h0⟩ | ⟨b1, o1, cap1, e1, _, _, hn1⟩
        · rw [h0] at hlt; simp at hlt
        injection e1 with e1 _ e1c
        subst e1 e1c
        obtain ⟨qa, qc, ka, kc, u2, u3, u4, u5, hA, hKd⟩ := node6b hn1 i hlt
        have hNz : (⟨ts[i].nd.name.toArray⟩ : ByteArray).size = ts[i].nd.name.length := by rw [G5.size_list, G5.str_data]
        have hTz : (⟨ts[i].nd.text.toArray⟩ : ByteArray).size = ts[i].nd.text.length := by rw [G5.size_list, G5.str_data]
        have hal := HAL.out i hlt
        have hst := HST.out i hlt
        have htt := HTT.out i hlt
        have hq := HQ.out hnb
        rw [sizeT_mk] at hst
        have HC : Hid (∀ (W : World) (bd : Nat), bd ≤ 1500 → Below wr.heap.size wr W → Calls Tryz.prog 21 #[.slice ka ts[i].kids.length kc, .int .i64 (bd : Int), .int .i64 (deep : Int)] W fun e w' => (∃ V : Nat, e = .returned (.int .i64 (V : Int)) ∧ Weighs ts[i].kids bd deep V) ∧ Below W.heap.size W w') := hide (fun W bd hbd hb => HIH.out i hlt Bk _ W bd hbd (fun j hj => Nat.lt_of_lt_of_le (Nat.lt_of_lt_of_le (HB.out j hj) HBW.out.size) hb.size) (isK_keepB (fun j hj => Nat.lt_of_lt_of_le (HB.out j hj) HBW.out.size) hKd hb))
        have HA := hide hA
        have HSQ : Hid (∀ V, n + 1 + ts[i].nd.name.length + ts[i].nd.text.length + sizeAs ts[i].nd.attrs < bound → Weighs ts[i].kids (bound - (n + 1 + ts[i].nd.name.length + ts[i].nd.text.length + sizeAs ts[i].nd.attrs)) deep V → n + 1 + ts[i].nd.name.length + ts[i].nd.text.length + sizeAs ts[i].nd.attrs + V ≤ bound ∧ (n + 1 + ts[i].nd.name.length + ts[i].nd.text.length + sizeAs ts[i].nd.attrs + V < bound → sizeTs (ts.take (i + 1)) ≤ n + 1 + ts[i].nd.name.length + ts[i].nd.text.length + sizeAs ts[i].nd.attrs + V ∧ tallTs (ts.take (i + 1)) ≤ deep)) := hide (fun V h1 h2 => by
          refine ⟨by have := h2.1; omega, fun h3 => ?_⟩
          have h4 := h2.2 (by omega)
          rw [hst, htt]
          omega)
        clear hst htt hq HQ hA hKd hn1 HST HTT
        rw [← hNz, ← hTz] at HSQ
        generalize (⟨ts[i].nd.name.toArray⟩ : ByteArray) = nb at *
        generalize (⟨ts[i].nd.text.toArray⟩ : ByteArray) = tb at *
        generalize ts[i].nd.attrs = aa at *
        generalize ts[i].kids = kids at *
        generalize hkl : kids.length = kl at *
        clear hkl hNz hTz
        by_cases hc1 : bound ≤ nb.size
        · have hc1' : (bound : Int) ≤ nb.size := by omega
          go_wp2
          go_ret
          exact ⟨⟨bound, rfl, HEND.out⟩, HBW.out⟩
        · have hc1' : ¬ (bound : Int) ≤ nb.size := by omega
          by_cases hc2 : bound ≤ tb.size
          · have hc2' : (bound : Int) ≤ tb.size := by omega
            go_wp2
            go_ret
            exact ⟨⟨bound, rfl, HEND.out⟩, HBW.out⟩
          · have hc2' : ¬ (bound : Int) ≤ tb.size := by omega
            by_cases hc3 : bound ≤ aa.length
            · have hc3' : (bound : Int) ≤ aa.length := by omega
              go_wp2
              go_ret
              exact ⟨⟨bound, rfl, HEND.out⟩, HBW.out⟩
            · have hc3' : ¬ (bound : Int) ≤ aa.length := by omega
              go_wp2
              go_region
              all_goals go_wp2
              have HU : Hid (∀ W, Below wr.heap.size wr W → W.cell? ⟨b1, o1 + i * 6 + 3, none⟩ = some (.slice qa aa.length qc) ∧ W.cell? ⟨b1, o1 + i * 6 + 5, none⟩ = some (.slice ka kl kc)) := hide (fun W hb => ⟨(hb.cell (G5.cell_lt u3)).trans u3, (hb.cell (G5.cell_lt u5)).trans u5⟩)
              have HSM := hide (sizeAs_at aa)
              clear u2 u3 u4 u5
              generalize wr = w8 at *
              go_loopw [7, 9] (fun vn vk wr => ∃ m q : Nat, vk = .int .i64 (q : Int) ∧ q ≤ aa.length ∧ vn = .int .i64 (m : Int) ∧ m ≤ 3 * bound ∧ Hid (m = n + 1 + nb.size + tb.size + sizeAs (aa.take q)) ∧ Hid (Below w8.heap.size w8 wr)) (fun _ vk _ => aa.length - (intOf vk).toNat)
              case atStart => exact ⟨n + 1 + nb.size + tb.size, 0, rfl, by omega, by go_num, by omega, hide rfl, hide (Below.refl _ w8).drew⟩
              case round =>
                obtain ⟨m, q, rfl, hq, rfl, hm, HM, HBQ⟩ := hrel
                obtain ⟨v3, v5⟩ := HU.out wr HBQ.out
                by_cases hmb : m < bound
                · have hmb2 : (m : Int) < bound := by omega
                  by_cases hqa : q < aa.length
                  · have hqa2 : (q : Int) < aa.length := by omega
                    have hA2 := isA_keepW HA.out HBQ.out
                    rcases hA2.1 with ⟨_, h0⟩ | ⟨b2, o2, cap2, e2, _, hc⟩
                    · rw [h0] at hqa; simp at hqa
                    injection e2 with e2 _ e2c
                    subst e2 e2c
                    obtain ⟨p0, p1⟩ := hc q hqa
                    have hsm := HSM.out q hqa
                    have hz1 : (⟨aa[q].1.toArray⟩ : ByteArray).size = aa[q].1.length := by rw [G5.size_list, G5.str_data]
                    have hz2 : (⟨aa[q].2.toArray⟩ : ByteArray).size = aa[q].2.length := by rw [G5.size_list, G5.str_data]
                    rw [← hz1, ← hz2] at hsm
                    have HSM2 := hide hsm
                    clear hsm hz1 hz2 hc hA2
                    generalize (⟨aa[q].1.toArray⟩ : ByteArray) = an at *
                    generalize (⟨aa[q].2.toArray⟩ : ByteArray) = avl at *
                    by_cases hd1 : bound ≤ an.size
                    · have hd1' : (bound : Int) ≤ an.size := by omega
                      go_wp2
                      go_ret
                      exact ⟨⟨bound, rfl, HEND.out⟩, HBW.out.trans ((HBQ.out.trans (G5.below_alloc wr _ |>.mono HBQ.out.size)).mono HBW.out.size)⟩
                    · have hd1' : ¬ (bound : Int) ≤ an.size := by omega
                      by_cases hd2 : bound ≤ avl.size
                      · have hd2' : (bound : Int) ≤ avl.size := by omega
                        go_wp2
                        go_ret
                        exact ⟨⟨bound, rfl, HEND.out⟩, HBW.out.trans ((HBQ.out.trans (G5.below_alloc wr _ |>.mono HBQ.out.size)).mono HBW.out.size)⟩
                      · have hd2' : ¬ (bound : Int) ≤ avl.size := by omega
                        have HN2 : Hid (m + 1 + an.size + avl.size = n + 1 + nb.size + tb.size + sizeAs (aa.take (q + 1))) := hide (by rw [HSM2.out, HM.out]; omega)
                        have HBN : Hid (∀ W, Below wr.heap.size wr W → Below w8.heap.size w8 W) := hide (fun W hb => HBQ.out.trans (hb.mono HBQ.out.size))
                        go_wp2
                        go_roundw
                        case rel => exact ⟨m + 1 + an.size + avl.size, q + 1, by go_num, by omega, by go_num, by omega, HN2, hide (HBN.out _ (G5.below_alloc wr _))⟩
                        case measure => simp [intOf]; omega
                  · have hqa2 : ¬ (q : Int) < aa.length := by omega
                    have hke : aa.take q = aa := List.take_of_length_le (by omega)
                    rw [hke] at HM
                    clear hke
                    have HSQ2 := hide (fun V => HSQ.out V (by rw [← HM.out]; exact hmb))
                    rw [← HM.out] at HSQ2
                    have HC2 := hide (HC.out wr (bound - m) (by omega) HBQ.out)
                    rw [show ((bound - m : Nat) : Int) = (bound : Int) - m by omega] at HC2
                    clear HC HSQ HM
                    go_wp2_with fail
                    refine HC2.out.mono ?_
                    rintro e w9 ⟨⟨V, rfl, hV⟩, b9⟩
                    have hV2 := HSQ2.out V hV
                    have hvb := hV2.1
                    have HQ2 := hide hV2.2
                    have HBZ := hide (HBW.out.trans ((HBQ.out.trans (b9.mono HBQ.out.size)).mono HBW.out.size))
                    clear hV hV2 b9 v3 v5
                    go_wp2
                    go_roundw
                    case rel => exact ⟨i + 1, m + V, by go_num, by omega, by go_num, by omega, HQ2, HBZ⟩
                    case measure => simp [intOf]; omega
                · have hmb2 : ¬ (m : Int) < bound := by omega
                  have hmb3 : (bound : Int) ≤ m := by omega
                  have HBZ := hide (HBW.out.trans (HBQ.out.mono HBW.out.size))
                  by_cases hqa : q < aa.length
                  · have hqa2 : (q : Int) < aa.length := by omega
                    go_wp2
                    go_ret
                    exact ⟨⟨bound, rfl, HEND.out⟩, HBZ.out⟩
                  · have hqa2 : ¬ (q : Int) < aa.length := by omega
                    go_wp2
                    go_ret
                    exact ⟨⟨bound, rfl, HEND.out⟩, HBZ.out⟩
      · have hnb2 : ¬ (n : Int) < bound := by omega
        have HF : Hid (Weighs ts bound (deep + 1) n) := hide ⟨hn, fun h => absurd h hnb⟩
        clear HQ
        go_wp2
        go_ret
        exact ⟨⟨n, rfl, HF.out⟩, HBW.out⟩
    · have hlt2 : ¬ (i : Int) < ts.length := by omega
      have hke : ts.take i = ts := List.take_of_length_le (by omega)
      have HF : Hid (Weighs ts bound (deep + 1) n) := hide ⟨hn, fun h => by
        have := HQ.out h
        rw [hke] at this
        exact ⟨this.1, Nat.succ_le_succ this.2⟩⟩
      clear HQ hke
      go_wp2
      go_ret
      exact ⟨⟨n, rfl, HF.out⟩, HBW.out⟩
theorem weight_any : ∀ (deep : Nat) (hd : deep ≤ 100) {k : Nat} (ts : List (G5.NT k)), ts.length ≤ 9223372036854775807 → G5.OkTs ts → WeightOk deep ts
  | 0, _, _, ts, _, _ => weight_none ts
  | deep + 1, hd, 0, ts, _, _ => by
    intro Bk va w bound hbd hB h
    obtain ⟨rfl, h2⟩ := G5.isK_up h
    exact weight_step deep (by omega) ([] : List (G5.NT 1)) (Nat.zero_le _) (fun i hi => by simp at hi) (fun i hi => by simp at hi) Bk va w bound hbd hB h2
  | deep + 1, hd, k + 1, ts, hl, h => weight_step deep (by omega) ts hl (fun i hi => (h _ (List.getElem_mem hi)).1) fun i hi => weight_any deep (by omega) _ (h _ (List.getElem_mem hi)).2.1 (h _ (List.getElem_mem hi)).2.2
end Go.Proofs.YtpppdfjdngmaoaaGreatDoor.P9
