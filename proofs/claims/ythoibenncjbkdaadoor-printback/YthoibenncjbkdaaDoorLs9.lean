/- What the printer's list writes, where its element writes what it should. -/
import Derived.Test.YthoibenncjbkdaaDoorPw9
import Derived.Shelf.Abstract
set_option linter.unusedVariables false
set_option linter.unusedSimpArgs false
set_option maxRecDepth 4000
namespace Go.Proofs.YthoibenncjbkdaaDoor
open Go.RowKit

theorem isK_keepB {Bk : Nat → Prop} {w W : World} {B k : Nat} {ks : List (S5.NT k)} {kv : Value} (hB : ∀ k, Bk k → k < B) (h : S5.IsK Bk w ks kv) (hb : Below B w W) : S5.IsK Bk W ks kv := by
  rcases h with h | ⟨b, o, cap, e1, e2, e3, e4⟩
  · exact .inl h
  · refine .inr ⟨b, o, cap, e1, e2, e3, ?_⟩
    rcases e3 with rfl | e3
    · trivial
    · exact S5.IsNs.keep (fun k hk => hb.block k (hB k hk)) (fun _ h => h) b e3 o ks e4
theorem isN_keepB {Bk : Nat → Prop} {w W : World} {B k : Nat} {t : S5.NT k} {vs : List Value} (hB : ∀ k, Bk k → k < B) (h : S5.IsN Bk w t vs) (hb : Below B w W) : S5.IsN Bk W t vs := h.on fun k hk => hb.block k (hB k hk)
/-- A node's six cells. -/
theorem node6 {Bk : Nat → Prop} {w : World} {k : Nat} {ts : List (S5.NT (k + 1))} {b o : Nat} (h : S5.IsNs Bk w b o ts) (i : Nat) (hi : i < ts.length) :
    ∃ av kv : Value, w.cell? ⟨b, o + i * 6, none⟩ = some (.int .i64 ts[i].nd.kind) ∧ w.cell? ⟨b, o + i * 6 + 1, none⟩ = some (.int .i64 ts[i].nd.space) ∧ w.cell? ⟨b, o + i * 6 + 2, none⟩ = some (.string ⟨ts[i].nd.name.toArray⟩) ∧ w.cell? ⟨b, o + i * 6 + 3, none⟩ = some av ∧ w.cell? ⟨b, o + i * 6 + 4, none⟩ = some (.string ⟨ts[i].nd.text.toArray⟩) ∧ w.cell? ⟨b, o + i * 6 + 5, none⟩ = some kv ∧ S5.IsN Bk w ts[i] [.int .i64 ts[i].nd.kind, .int .i64 ts[i].nd.space, .string ⟨ts[i].nd.name.toArray⟩, av, .string ⟨ts[i].nd.text.toArray⟩, kv] ∧ (∃ a n c, av = .slice a n c) ∧ (∃ a n c, kv = .slice a n c) := by
  obtain ⟨vs, g, n⟩ := S5.IsNs.get o ts h i hi
  have n0 := n
  rw [ts[i].form, S5.isN_iff] at n
  obtain ⟨av, kv, rfl, hA, hK⟩ := n
  obtain ⟨a, c, hk⟩ := S5.isK_form hK
  obtain ⟨a2, c2, ha⟩ := S5.isA_form hA.1
  exact ⟨av, kv, g 0 (by omega), g 1 (by omega), g 2 (by omega), g 3 (by omega), g 4 (by omega), g 5 (by omega), n0, ⟨a2, _, c2, ha⟩, ⟨a, _, c, hk⟩⟩
/-- The printer's element writes what it should of this node. -/
def ElemOk {k : Nat} (t : S5.NT (k + 1)) : Prop := ∀ (Bk : Nat → Prop) (B b : Nat) (acc : List UInt8) (av kv : Value) (w : World), Pr B b acc w → (∀ j, Bk j → j < B) → S5.IsN Bk w t [.int .i64 t.nd.kind, .int .i64 t.nd.space, .string ⟨t.nd.name.toArray⟩, av, .string ⟨t.nd.text.toArray⟩, kv] → t.nd.kind = 1 → sizeT t ≤ 1000000 → acc.length + 7 * sizeT t ≤ 140737488355328 →
  Calls Tryd.prog 27 #[.pointer (some ⟨b, 0, none⟩), .agg #[.int .i64 t.nd.kind, .int .i64 t.nd.space, .string ⟨t.nd.name.toArray⟩, av, .string ⟨t.nd.text.toArray⟩, kv]] w fun e w' => e = .returned (.tuple #[]) ∧ Wrote B b acc (printT false t) w w'
def ListOk {k : Nat} (ts : List (S5.NT k)) : Prop := ∀ (Bk : Nat → Prop) (B b : Nat) (acc : List UInt8) (va : Value) (raw : Bool) (w : World), Pr B b acc w → (∀ j, Bk j → j < B) → S5.IsK Bk w ts va → sizeTs ts ≤ 1000000 → acc.length + 7 * sizeTs ts ≤ 140737488355328 →
  Calls Tryd.prog 13 #[.pointer (some ⟨b, 0, none⟩), va, wayOfTexts raw] w fun e w' => e = .returned (.tuple #[]) ∧ Wrote B b acc (printTs raw ts) w w'
theorem sizeTs_len {k : Nat} : ∀ (ts : List (S5.NT (k + 1))), ts.length ≤ sizeTs ts
  | [] => Nat.zero_le _
  | x :: r => by
    have h := sizeTs_len r
    have : sizeTs (x :: r) = sizeT x + sizeTs r := by unfold sizeTs; rw [List.map_cons, List.sum_cons]
    rw [List.length_cons, this, sizeT_mk]
    omega
/-- One node, by the way that wayOf tells. -/
def way1 (raw : Bool) (kd : Int) : Nat := if kd = 1 then 27 else if kd = 2 then (if raw then 44 else 14) else if kd = 3 then 28 else 29
theorem way1_eq (raw : Bool) (kd : Int) : (if kd = 1 then wElement else if kd = 2 then wayOfTexts raw else if kd = 3 then wComment else wNothing) = .func (.func (way1 raw kd)) #[] #[] := by
  unfold way1 wayOfTexts
  split
  · rfl
  · split
    · split <;> rfl
    · split <;> rfl
theorem way1_enters (raw : Bool) (kd : Int) (args : Array Value) (w : World) : (callFunc (way1 raw kd) args).run Tryd.prog w = .ok (.enter (way1 raw kd) args) w := by
  unfold way1
  split
  · exact enters_of Tryd.func27 (by kernel_rfl) rfl args w
  · split
    · split
      · exact enters_of Tryd.func44 (by kernel_rfl) rfl args w
      · exact enters_of Tryd.func14 (by kernel_rfl) rfl args w
    · split
      · exact enters_of Tryd.func28 (by kernel_rfl) rfl args w
      · exact enters_of Tryd.func29 (by kernel_rfl) rfl args w
theorem way1_any {k : Nat} (t : S5.NT (k + 1)) (he : ElemOk t) (Bk : Nat → Prop) (B b : Nat) (acc : List UInt8) (av kv : Value) (raw : Bool) (w : World) (h : Pr B b acc w) (hB : ∀ j, Bk j → j < B) (hn : S5.IsN Bk w t [.int .i64 t.nd.kind, .int .i64 t.nd.space, .string ⟨t.nd.name.toArray⟩, av, .string ⟨t.nd.text.toArray⟩, kv]) (hs : sizeT t ≤ 1000000) (hl : acc.length + 7 * sizeT t ≤ 140737488355328) :
    Calls Tryd.prog (way1 raw t.nd.kind) #[.pointer (some ⟨b, 0, none⟩), .agg #[.int .i64 t.nd.kind, .int .i64 t.nd.space, .string ⟨t.nd.name.toArray⟩, av, .string ⟨t.nd.text.toArray⟩, kv]] w fun e w' => e = .returned (.tuple #[]) ∧ Wrote B b acc (printT raw t) w w' := by
  have hz : (⟨t.nd.text.toArray⟩ : ByteArray).size = t.nd.text.length := by rw [S5.size_list, S5.str_data]
  have hm := sizeT_mk t
  unfold way1
  by_cases h1 : t.nd.kind = 1
  · rw [if_pos h1]
    have := he Bk B b acc av kv w h hB hn h1 hs hl
    have e : printT raw t = printT false t := by
      rw [printT_mk raw t, printT_mk false t]
      simp [h1]
    rw [e]
    exact this
  · rw [if_neg h1]
    by_cases h2 : t.nd.kind = 2
    · rw [if_pos h2, printT_mk, if_pos h2]
      cases raw
      · have := text_p h t.nd.kind t.nd.space ⟨t.nd.name.toArray⟩ ⟨t.nd.text.toArray⟩ av kv (by omega) (by omega)
        rw [S5.str_data] at this
        exact this
      · have := rawText_p h t.nd.kind t.nd.space ⟨t.nd.name.toArray⟩ ⟨t.nd.text.toArray⟩ av kv (by omega)
        rw [S5.str_data] at this
        exact this
    · rw [if_neg h2, printT_mk, if_neg h2]
      by_cases h3 : t.nd.kind = 3
      · rw [if_pos h3, if_pos h3]
        have := comment_p h t.nd.kind t.nd.space ⟨t.nd.name.toArray⟩ ⟨t.nd.text.toArray⟩ av kv (by omega)
        rw [S5.str_data] at this
        exact this
      · rw [if_neg h3, if_neg h3, if_neg h1]
        exact nothing_p h _
set_option maxHeartbeats 1000000 in
theorem list_step {k : Nat} (ts : List (S5.NT (k + 1))) (ih : ∀ i (h : i < ts.length), ElemOk ts[i]) : ListOk ts := by
  intro Bk B b acc va raw w hP hB hK hs hl
  have hln := sizeTs_len ts
  have HIH := hide ih
  have HP := hide hP
  have HB := hide hB
  have HK := hide hK
  have HPT := hide (printTs_take raw ts)
  have HST := hide (sizeTs_take ts)
  have HSL : Hid (∀ i, sizeTs (ts.take i) ≤ sizeTs ts) := hide fun i => by
    have := sizeTs_app (ts.take i) (ts.drop i)
    rw [List.take_append_drop] at this
    omega
  have HPL := hide (fun i => printTs_len raw (ts.take i))
  obtain ⟨a1, c1, rfl⟩ := S5.isK_form hK
  generalize hwv : wayOfTexts raw = wv
  have HWV := hide hwv
  clear hwv hK hB hP ih
  go_enter Tryd.func13, Tryd.ntmps13
  go_wp2
  go_loopw [11] (fun i wr => ∃ k : Nat, k ≤ ts.length ∧ i = .int .i64 k ∧ Hid (Wrote B b acc (printTs raw (ts.take k)) w wr)) (fun i _ => ts.length - (intOf i).toNat)
  case atStart => exact ⟨0, Nat.zero_le _, rfl, hide (Wrote.none HP.out (Below.refl _ _))⟩
  case round =>
    obtain ⟨i, hi, rfl, HW⟩ := hrel
    by_cases hlt : i < ts.length
    · have hlt2 : (i : Int) < ts.length := by omega
      have k1 := isK_keepB HB.out HK.out HW.out.2.1
      rcases k1 with ⟨_, h0⟩ | ⟨b1, o1, cap1, e1, _, _, hn1⟩
      · rw [h0] at hlt; simp at hlt
      injection e1 with e1 _ e1c
      subst e1 e1c
      obtain ⟨av, kv, u0, u1, u2, u3, u4, u5, hN, ⟨aa1, aa2, aa3, rfl⟩, ⟨kk1, kk2, kk3, rfl⟩⟩ := node6 hn1 i hlt
      have hst := HST.out i hlt
      have hsl := HSL.out (i + 1)
      have hpl := HPL.out i
      have hbox : Below wr.heap.size wr (wr.alloc (.cells #[.int .i64 ts[i].nd.kind, .int .i64 ts[i].nd.space, .string ⟨ts[i].nd.name.toArray⟩, .slice aa1 aa2 aa3, .string ⟨ts[i].nd.text.toArray⟩, .slice kk1 kk2 kk3] 32)) := S5.below_alloc wr _
      have hPb := HW.out.1.2
      have HC := hide (way1_any ts[i] (HIH.out i hlt) Bk B b (acc ++ printTs raw (ts.take i)) (.slice aa1 aa2 aa3) (.slice kk1 kk2 kk3) raw _ (HW.out.1.below hbox) HB.out (isN_keepB HB.out hN (hbox.mono hPb)) (by omega) (by rw [List.length_append]; omega))
      have HY := hide (wayOf_p ts[i].nd.kind wv)
      have HX : Hid ((if ts[i].nd.kind = 1 then wElement else if ts[i].nd.kind = 2 then wv else if ts[i].nd.kind = 3 then wComment else wNothing) = .func (.func (way1 raw ts[i].nd.kind)) #[] #[]) := hide (by rw [← HWV.out]; exact way1_eq raw _)
      rw [HX.out] at HY
      have hen := way1_enters raw ts[i].nd.kind
      have HPT2 := hide (HPT.out i hlt)
      have HBX := hide hbox
      clear hst hsl hpl hbox hN HX hn1
      generalize way1 raw ts[i].nd.kind = F at *
      generalize printT raw ts[i] = out at *
      generalize ts[i].nd.kind = kd at *
      generalize ts[i].nd.space = sp at *
      generalize (⟨ts[i].nd.name.toArray⟩ : ByteArray) = nm at *
      generalize (⟨ts[i].nd.text.toArray⟩ : ByteArray) = tx at *
      go_wp2_with fail
      refine (HY.out _).mono ?_
      rintro e w1 ⟨rfl, rfl⟩
      go_wp2_with fail
      refine HC.out.mono ?_
      rintro e w2 ⟨rfl, h2⟩
      have HN : Hid (Wrote B b acc (printTs raw (ts.take (i + 1))) w w2) := hide (by rw [HPT2.out]; exact HW.out.trans (h2.behind HBX.out hPb))
      clear h2
      go_wp2
      go_roundw
      case rel => exact ⟨i + 1, by omega, by go_num, HN⟩
      case measure => simp [intOf]; omega
    · have hlt2 : ¬ (i : Int) < ts.length := by omega
      have hke : ts.take i = ts := List.take_of_length_le (by omega)
      rw [hke] at HW
      clear hke
      go_wp2
      go_end0
      exact ⟨rfl, HW.out⟩
end Go.Proofs.YthoibenncjbkdaaDoor
