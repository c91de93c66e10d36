/- What the document's own Same and Sames answer of a node and itself; nothing that was there is written. -/
import Derived.Test.YtjgklemhlmgheaaNV5
import Derived.Test.YtjgklemhlmgheaaAttrsW5
set_option linter.unusedVariables false
set_option linter.unusedSimpArgs false
namespace Go.Proofs.Ytjgklemhlmgheaa
open Go.RowKit

def OkT : {k : Nat} → NT k → Prop
  | 0, _ => True
  | k + 1, t => t.nd.attrs.length ≤ 1000000 ∧ t.kids.length ≤ 1000000 ∧ ∀ x ∈ t.kids, OkT x
def OkTs {k : Nat} (ks : List (NT k)) : Prop := ∀ x ∈ ks, OkT x
theorem OkTs.get {k : Nat} {ks : List (NT k)} (h : OkTs ks) (j : Nat) (hj : j < ks.length) : OkT ks[j] := h _ (List.getElem_mem hj)
theorem IsK.below {B : Nat → Prop} {w W : World} {k : Nat} {ks : List (NT k)} {kv : Value} (hB : ∀ k, B k → k < w.heap.size) (h : IsK B w ks kv) (hb : Below w.heap.size w W) : IsK B W ks kv := by
  rcases h with h | ⟨b, o, cap, e1, e2, e3, e4⟩
  · exact .inl h
  · refine .inr ⟨b, o, cap, e1, e2, e3, ?_⟩
    rcases e3 with rfl | e3
    · trivial
    · exact IsNs.keep (fun k hk => hb.block k (hB k hk)) (fun _ h => h) b e3 o ks e4
def SameN {k : Nat} (t : NT k) : Prop := ∀ (B : Nat → Prop) (va vb : List Value) (w : World), (∀ k, B k → k < w.heap.size) → IsN B w t va → IsN B w t vb → Calls Try.prog 14 #[.agg va.toArray, .agg vb.toArray] w fun e w' => e = .returned (.bool true) ∧ Below w.heap.size w w'
def SameNs {k : Nat} (ts : List (NT k)) : Prop := ∀ (B : Nat → Prop) (va vb : Value) (w : World), (∀ k, B k → k < w.heap.size) → IsK B w ts va → IsK B w ts vb → Calls Try.prog 41 #[va, vb] w fun e w' => e = .returned (.bool true) ∧ Below w.heap.size w w'
set_option maxRecDepth 10000 in
set_option maxHeartbeats 2000000 in
theorem same_step {k : Nat} (d : ND) (ks : List (NT k)) (ha : d.attrs.length ≤ 1000000) (ih : SameNs ks) : SameN (NT.mk d ks) := by
  intro B va vb w hB h1 h2
  rw [isN_iff] at h1 h2
  obtain ⟨av1, kv1, rfl, hA1, hK1⟩ := h1
  obtain ⟨av2, kv2, rfl, hA2, hK2⟩ := h2
  obtain ⟨a1, c1, rfl⟩ := isA_form hA1.1
  obtain ⟨a2, c2, rfl⟩ := isA_form hA2.1
  obtain ⟨a3, c3, rfl⟩ := isK_form hK1
  obtain ⟨a4, c4, rfl⟩ := isK_form hK2
  unfold nodeC
  have b0 := below_alloc w (.cells #[.int .i64 d.kind, .int .i64 d.space, .string ⟨d.name.toArray⟩, .slice a1 d.attrs.length c1, .string ⟨d.text.toArray⟩, .slice a3 ks.length c3] 41)
  have b1 := b0.alloc b0.size (.cells #[.int .i64 d.kind, .int .i64 d.space, .string ⟨d.name.toArray⟩, .slice a2 d.attrs.length c2, .string ⟨d.text.toArray⟩, .slice a4 ks.length c4] 41)
  have HA := hide (attrs_any (.slice a1 d.attrs.length c1) (.slice a2 d.attrs.length c2) d.attrs d.attrs ha ha _ (hA1.1.below b1) (hA2.1.below b1))
  rw [show (d.attrs == d.attrs) = true from by simp] at HA
  have K1 := hide ((Kept.new w [.int .i64 d.kind, .int .i64 d.space, .string ⟨d.name.toArray⟩, .slice a1 d.attrs.length c1, .string ⟨d.text.toArray⟩, .slice a3 ks.length c3] 41).alloc (.cells #[.int .i64 d.kind, .int .i64 d.space, .string ⟨d.name.toArray⟩, .slice a2 d.attrs.length c2, .string ⟨d.text.toArray⟩, .slice a4 ks.length c4] 41))
  have K2 := hide (Kept.new (w.alloc (.cells #[.int .i64 d.kind, .int .i64 d.space, .string ⟨d.name.toArray⟩, .slice a1 d.attrs.length c1, .string ⟨d.text.toArray⟩, .slice a3 ks.length c3] 41)) [.int .i64 d.kind, .int .i64 d.space, .string ⟨d.name.toArray⟩, .slice a2 d.attrs.length c2, .string ⟨d.text.toArray⟩, .slice a4 ks.length c4] 41)
  have HB1 := hide b1
  have HS : Hid (∀ W, Below w.heap.size w W → Calls Try.prog 41 #[.slice a3 ks.length c3, .slice a4 ks.length c4] W fun e w' => e = .returned (.bool true) ∧ Below W.heap.size W w') := hide fun W hb => ih B _ _ W (fun k hk => Nat.lt_of_lt_of_le (hB k hk) hb.size) (hK1.below hB hb) (hK2.below hB hb)
  clear b0 b1 hA1 hA2 hK1 hK2 ih hB
  generalize d.attrs.length = al at *
  generalize ks.length = kl at *
  generalize (⟨d.name.toArray⟩ : ByteArray) = nm at *
  generalize (⟨d.text.toArray⟩ : ByteArray) = tx at *
  generalize d.kind = kd at *
  generalize d.space = sp at *
  go_enter Try.func14, Try.ntmps14
  go_wp2_with fail
  refine HA.out.mono ?_
  rintro e x1 ⟨rfl, b2⟩
  have q1 := K1.out.below b2
  have q2 := K2.out.below b2
  have s4 : x1.cell? ⟨w.heap.size, 4, none⟩ = some (.string tx) := q1.1 4
  have s5 : x1.cell? ⟨w.heap.size, 5, none⟩ = some (.slice a3 kl c3) := q1.1 5
  have t4 : x1.cell? ⟨w.heap.size + 1, 4, none⟩ = some (.string tx) := by have := q2.1 4; simpa using this
  have t5 : x1.cell? ⟨w.heap.size + 1, 5, none⟩ = some (.slice a4 kl c4) := by have := q2.1 5; simpa using this
  have HB2 := hide (HB1.out.trans (b2.mono HB1.out.size))
  clear b2 q1 q2 K1 K2 HB1
  go_wp2_with fail
  refine (HS.out _ HB2.out).mono ?_
  rintro e x2 ⟨rfl, b3⟩
  have HB3 := hide (HB2.out.trans (b3.mono HB2.out.size))
  clear b3 s4 s5 t4 t5
  go_wp2
  go_ret
  exact ⟨rfl, HB3.out⟩
theorem IsN.form {B : Nat → Prop} {w : World} : ∀ {k : Nat} {t : NT k} {vs : List Value}, IsN B w t vs → ∃ (k s : Int) (nm : ByteArray) (a1 : Option Addr) (n1 c1 : Nat) (tx : ByteArray) (a2 : Option Addr) (n2 c2 : Nat), vs = [.int .i64 k, .int .i64 s, .string nm, .slice a1 n1 c1, .string tx, .slice a2 n2 c2]
  | 0, t, _, _ => t.none
  | k + 1, t, vs, h => by
    rw [t.form, isN_iff] at h
    obtain ⟨av, kv, rfl, hA, hK⟩ := h
    obtain ⟨a1, c1, rfl⟩ := isA_form hA.1
    obtain ⟨a3, c3, rfl⟩ := isK_form hK
    exact ⟨_, _, _, _, _, _, _, _, _, _, rfl⟩
set_option maxRecDepth 10000 in
set_option maxHeartbeats 2000000 in
theorem sames_step {k : Nat} (ts : List (NT k)) (hl : ts.length ≤ 1000000) (ih : ∀ j (hj : j < ts.length), SameN ts[j]) : SameNs ts := by
  intro B va vb w hB h1 h2
  have H1 := hide h1
  have H2 := hide h2
  obtain ⟨a1, c1, rfl⟩ := isK_form h1
  obtain ⟨a2, c2, rfl⟩ := isK_form h2
  have HBB := hide hB
  have HIH := hide ih
  clear h1 h2 ih hB
  go_enter Try.func41, Try.ntmps41
  go_wp2
  go_loopw [5] (fun ti wr => ∃ k : Nat, k ≤ ts.length ∧ ti = .int .i64 (k : Int) ∧ Below w.heap.size w wr) (fun ti _ => ts.length - (intOf ti).toNat)
  case atStart => exact ⟨0, by omega, rfl, Below.refl _ _⟩
  case round =>
    obtain ⟨k, hk, rfl, bw⟩ := hrel
    have HBW := hide bw
    by_cases hlt : k < ts.length
    · have hlt2 : (k : Int) < ts.length := by omega
      have k1 := H1.out.below HBB.out bw
      have k2 := H2.out.below HBB.out bw
      rcases k1 with ⟨_, rfl⟩ | ⟨b1, o1, cap1, e1, _, _, hn1⟩
      · simp at hlt
      rcases k2 with ⟨_, rfl⟩ | ⟨b2, o2, cap2, e2, _, _, hn2⟩
      · simp at hlt
      injection e1 with e1 _ e1c
      injection e2 with e2 _ e2c
      subst e1 e2 e1c e2c
      obtain ⟨vs1, g1, n1⟩ := IsNs.get o1 ts hn1 k hlt
      obtain ⟨vs2, g2, n2⟩ := IsNs.get o2 ts hn2 k hlt
      have HS := hide (fun W (hb : Below wr.heap.size wr W) => HIH.out k hlt B vs1 vs2 W (fun j hj => Nat.lt_of_lt_of_le (HBB.out j hj) (Nat.le_trans bw.size hb.size)) (n1.on fun j hj => hb.block j (Nat.lt_of_lt_of_le (HBB.out j hj) bw.size)) (n2.on fun j hj => hb.block j (Nat.lt_of_lt_of_le (HBB.out j hj) bw.size)))
      obtain ⟨q1, q2, q3, q4, q5, q6, q7, q8, q9, q10, rfl⟩ := n1.form
      obtain ⟨p1, p2, p3, p4, p5, p6, p7, p8, p9, p10, rfl⟩ := n2.form
      have u0 : wr.cell? ⟨b1, o1 + k * 6, none⟩ = some (.int .i64 q1) := g1 0 (by omega)
      have u1 : wr.cell? ⟨b1, o1 + k * 6 + 1, none⟩ = some (.int .i64 q2) := g1 1 (by omega)
      have u2 : wr.cell? ⟨b1, o1 + k * 6 + 2, none⟩ = some (.string q3) := g1 2 (by omega)
      have u3 : wr.cell? ⟨b1, o1 + k * 6 + 3, none⟩ = some (.slice q4 q5 q6) := g1 3 (by omega)
      have u4 : wr.cell? ⟨b1, o1 + k * 6 + 4, none⟩ = some (.string q7) := g1 4 (by omega)
      have u5 : wr.cell? ⟨b1, o1 + k * 6 + 5, none⟩ = some (.slice q8 q9 q10) := g1 5 (by omega)
      have v0 : wr.cell? ⟨b2, o2 + k * 6, none⟩ = some (.int .i64 p1) := g2 0 (by omega)
      have v1 : wr.cell? ⟨b2, o2 + k * 6 + 1, none⟩ = some (.int .i64 p2) := g2 1 (by omega)
      have v2 : wr.cell? ⟨b2, o2 + k * 6 + 2, none⟩ = some (.string p3) := g2 2 (by omega)
      have v3 : wr.cell? ⟨b2, o2 + k * 6 + 3, none⟩ = some (.slice p4 p5 p6) := g2 3 (by omega)
      have v4 : wr.cell? ⟨b2, o2 + k * 6 + 4, none⟩ = some (.string p7) := g2 4 (by omega)
      have v5 : wr.cell? ⟨b2, o2 + k * 6 + 5, none⟩ = some (.slice p8 p9 p10) := g2 5 (by omega)
      have HD := hide ((Below.refl wr.heap.size wr).drew)
      clear g1 g2 n1 n2 hn1 hn2 bw
      go_wp2_with fail
      go_region_with (go_at_call 14; refine (HS.out _ HD.out).mono ?_; rintro e x1 ⟨rfl, b1⟩; have HX := hide (HBW.out.trans ((HD.out.trans (b1.mono (Nat.le_refl _))).mono HBW.out.size)); clear b1)
      all_goals
        go_wp2
        go_roundw
        case rel => exact ⟨k + 1, by omega, by go_num, HX.out⟩
        case measure => simp [intOf]; omega
    · have hlt2 : ¬ (k : Int) < ts.length := by omega
      clear bw
      go_wp2
      go_ret
      exact ⟨rfl, HBW.out⟩
theorem same_any : ∀ {k : Nat} (t : NT k), OkT t → SameN t
  | 0, t, _ => t.none
  | k + 1, t, h => by
    rw [t.form]
    exact same_step t.nd t.kids h.1 (sames_step t.kids h.2.1 fun j hj => same_any _ (h.2.2 _ (List.getElem_mem hj)))
end Go.Proofs.Ytjgklemhlmgheaa
