/- What the document's own Attrs and Same answer of lists that are one: true; nothing that was there is written. -/
import Derived.Test.YtihpjalbdkiecaaRE7
set_option linter.unusedVariables false
set_option linter.unusedSimpArgs false
namespace Go.Proofs.Ytihpjalbdkiecaa
open Go.RowKit

set_option maxHeartbeats 1000000 in
theorem attrs_one (va vb : Value) (aa : AttrL) (hl : aa.length ≤ 1000000) (w : World) (hA : IsQ w va aa) (hB : IsQ w vb aa) :
    Calls Try.prog 36 #[va, vb] w fun e w' => e = .returned (.bool true) ∧ Below w.heap.size w w' := by
  obtain ⟨a1, c1, rfl⟩ := isQ_form hA
  obtain ⟨a2, c2, rfl⟩ := isQ_form hB
  have HA := hide hA
  have HB := hide hB
  clear hA hB
  obtain ⟨N, hN⟩ : ∃ N, N = List.length aa := ⟨_, rfl⟩
  rw [← hN] at HA HB hl ⊢
  have HNN := hide hN
  clear hN
  go_enter Try.func36, Try.ntmps36
  go_wp2
  go_loopw [5] (fun i wr => ∃ k : Nat, k ≤ N ∧ i = .int .i64 k ∧ Hid (Below w.heap.size w wr)) (fun i _ => N - (intOf i).toNat)
  case atStart => exact ⟨0, Nat.zero_le _, rfl, hide (Below.refl _ _)⟩
  case round =>
    obtain ⟨k, hk, rfl, BW⟩ := hrel
    by_cases hltN : k < N
    · have hlt : k < List.length aa := by rw [← HNN.out]; exact hltN
      obtain ⟨b, o, rfl, x0, x1⟩ := (HA.out.below BW.out).get k hlt
      obtain ⟨b', o', rfl, y0, y1⟩ := (HB.out.below BW.out).get k hlt
      generalize (⟨aa[k].1.toArray⟩ : ByteArray) = X at *
      generalize (⟨aa[k].2.toArray⟩ : ByteArray) = Y at *
      have hlt2 : (k : Int) < N := by omega
      clear hlt hltN
      go_wp2_with fail
      go_region
      all_goals (try go_wp2)
      all_goals go_roundw
      case rel => exact ⟨k + 1, by omega, by go_num, hide BW.out.drew⟩
      case measure => simp [intOf]; omega
    · have hlt2 : ¬ (k : Int) < N := by omega
      clear hltN
      go_wp2
      go_ret
      exact ⟨rfl, BW.out⟩

/-- What two lists of marks have in common: all but where the attributes lie. -/
def coreM (m : MV) : Int × ByteArray × AttrL := (m.id, m.nm, m.aa)
theorem core_at {l r : List MV} (h : l.map coreM = r.map coreM) (k : Nat) (hk : k < l.length) (hr : k < r.length) : l[k].id = r[k].id ∧ l[k].nm = r[k].nm ∧ l[k].aa = r[k].aa := by
  have e : (l.map coreM)[k]'(by simpa using hk) = (r.map coreM)[k]'(by simpa using hr) := by simp only [h]
  simp only [List.getElem_map, coreM, Prod.mk.injEq] at e
  exact e

set_option maxHeartbeats 2000000 in
theorem same_one (va vb : Value) (l r : List MV) (hl : l.length ≤ 1000000) (ha : ∀ x ∈ l, x.aa.length ≤ 1000000) (hc : l.map coreM = r.map coreM) (w : World) (hA : RowM w va l) (hB : RowM w vb r) (kA : OkM w l) (kB : OkM w r) :
    Calls Try.prog 15 #[va, vb] w fun e w' => e = .returned (.bool true) ∧ Below w.heap.size w w' := by
  have hlr : l.length = r.length := by
    have := congrArg List.length hc
    simpa using this
  obtain ⟨a1, c1, rfl⟩ := rowM_form hA
  obtain ⟨a2, c2, rfl⟩ := rowM_form hB
  have H1 := hide (fun (k : Nat) (h1 : k < l.length) (h2 : k < r.length) w1 (b : Below w.heap.size w w1) => attrs_one l[k].av r[k].av l[k].aa (ha _ (List.getElem_mem h1)) w1 ((kA _ (List.getElem_mem h1)).below b) (by rw [(core_at hc k h1 h2).2.2]; exact (kB _ (List.getElem_mem h2)).below b))
  have HC := hide (fun k h1 h2 => core_at hc k h1 h2)
  have HA := hide hA
  have HB := hide hB
  have KA := hide (fun (k : Nat) (h1 : k < l.length) => isQ_form (kA _ (List.getElem_mem h1)))
  have KB := hide (fun (k : Nat) (h1 : k < r.length) => isQ_form (kB _ (List.getElem_mem h1)))
  clear hA hB kA kB hc
  rw [hlr] at HA ⊢
  obtain ⟨N, hN⟩ : ∃ N, N = r.length := ⟨_, rfl⟩
  rw [← hN] at HA HB ⊢
  rw [hlr, ← hN] at hl
  have HNL : Hid (N = l.length) := hide (by rw [hlr, hN])
  have HNR := hide hN
  clear hN hlr ha
  go_enter Try.func15, Try.ntmps15
  go_wp2
  go_loopw [5] (fun i wr => ∃ k : Nat, k ≤ N ∧ i = .int .i64 k ∧ Hid (Below w.heap.size w wr)) (fun i _ => N - (intOf i).toNat)
  case atStart => exact ⟨0, Nat.zero_le _, rfl, hide (Below.refl _ _)⟩
  case round =>
    obtain ⟨k, hk, rfl, BW⟩ := hrel
    by_cases hltN : k < N
    · have h1 : k < l.length := by rw [← HNL.out]; exact hltN
      have h2 : k < r.length := by rw [← HNR.out]; exact hltN
      obtain ⟨b, o, ea, -, -, -⟩ := HA.out.get k h1
      obtain ⟨b', o', eb, -, -, -⟩ := HB.out.get k h2
      subst ea eb
      obtain ⟨e1, e2, e3⟩ := HC.out k h1 h2
      have HG := hide (H1.out k h1 h2)
      obtain ⟨qa, qc, hqa⟩ := KA.out k h1
      obtain ⟨ra, rc, hra⟩ := KB.out k h2
      have HSC : Hid (∀ W', Below w.heap.size w W' → W'.cell? ⟨b, o + k * 3, none⟩ = some (.int .i64 r[k].id) ∧ W'.cell? ⟨b, o + k * 3 + 1, none⟩ = some (.string r[k].nm) ∧ W'.cell? ⟨b, o + k * 3 + 2, none⟩ = some l[k].av ∧ W'.cell? ⟨b', o' + k * 3, none⟩ = some (.int .i64 r[k].id) ∧ W'.cell? ⟨b', o' + k * 3 + 1, none⟩ = some (.string r[k].nm) ∧ W'.cell? ⟨b', o' + k * 3 + 2, none⟩ = some r[k].av) := hide fun W' h => by
        obtain ⟨b1, o1, f1, p0, p1, p2⟩ := (HA.out.below h).get k h1
        obtain ⟨b2, o2, f2, q0, q1, q2⟩ := (HB.out.below h).get k h2
        simp only [Option.some.injEq, Addr.mk.injEq, and_true] at f1 f2
        obtain ⟨rfl, rfl⟩ := f1
        obtain ⟨rfl, rfl⟩ := f2
        exact ⟨by rw [← e1]; exact p0, by rw [← e2]; exact p1, p2, q0, q1, q2⟩
      rw [hqa, hra] at HSC HG
      clear hqa hra e1 e2 e3
      generalize r[k].id = id at *
      generalize r[k].nm = nm at *
      generalize l[k].aa.length = ql at *
      generalize r[k].aa.length = rl at *
      have hlt2 : (k : Int) < N := by omega
      have DD := hide BW.out.drew
      have HG2 := hide (HG.out wr.drew DD.out)
      clear h1 h2 hltN HG
      go_wp2_with fail
      go_region_held2 (fun W' => W'.cell? ⟨b, o + k * 3, none⟩ = some (.int .i64 id) ∧ W'.cell? ⟨b, o + k * 3 + 1, none⟩ = some (.string nm) ∧ W'.cell? ⟨b, o + k * 3 + 2, none⟩ = some (.slice qa ql qc) ∧ W'.cell? ⟨b', o' + k * 3, none⟩ = some (.int .i64 id) ∧ W'.cell? ⟨b', o' + k * 3 + 1, none⟩ = some (.string nm) ∧ W'.cell? ⟨b', o' + k * 3 + 2, none⟩ = some (.slice ra rl rc)) (first | with_reducible exact HSC.out _ DD.out | with_reducible exact HSC.out _ B3.out) (first | (go_at_call 36; refine HG2.out.mono ?_; rintro e w3 ⟨rfl, b3⟩; have B3 := hide (DD.out.trans (b3.mono DD.out.size)); clear b3))
      go_wp2
      go_roundw
      case rel => exact ⟨k + 1, by omega, by go_num, B3⟩
      case measure => simp [intOf]; omega
    · have hlt2 : ¬ (k : Int) < N := by omega
      clear hltN
      go_wp2
      go_ret
      exact ⟨rfl, BW.out⟩
end Go.Proofs.Ytihpjalbdkiecaa
