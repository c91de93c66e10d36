/- What the document's own Kids, holds and Ints answer; nothing that was there is written. -/
import Derived.Test.YtjgklemhlmgheaaWalkB5
set_option linter.unusedVariables false
set_option linter.unusedSimpArgs false
namespace Go.Proofs.Ytjgklemhlmgheaa
open Go.RowKit

def kidsZ (T : TR) (z : Int) : List Nat := if 0 ≤ z ∧ z < T.length then kidsAt T z.toNat else []
set_option maxHeartbeats 1000000 in
theorem kids_any (v : Value) (T : TR) (z : Int) (w : World) (hT : IsT w v T) :
    Calls Try.prog 21 #[.agg #[v], .int .i64 z] w fun e w' => (∃ kv, IsI w' kv (kidsZ T z) ∧ e = .returned kv) ∧ Below w.heap.size w w' := by
  have HIS := hide (is_any v T z)
  have HT := hide hT
  obtain ⟨b, o, cap, rfl, hcap, hit⟩ := hT
  have HB := hide (below_alloc w (.cells #[.slice (some ⟨b, o, none⟩) T.length cap] 27))
  have KO := hide (Kept.new w [.slice (some ⟨b, o, none⟩) T.length cap] 27)
  by_cases hz : 0 ≤ z ∧ z < T.length
  · obtain ⟨i, rfl⟩ : ∃ i : Nat, z = (i : Int) := ⟨z.toNat, by omega⟩
    have hi : i < T.length := by omega
    have hi2 : (i : Int) < T.length := by omega
    have hkz : kidsZ T (i : Int) = T[i].2 := by unfold kidsZ; rw [if_pos hz, Int.toNat_natCast, kidsAt_get hi]
    obtain ⟨av, kv, hA, hI, hcs⟩ := hit i hi
    obtain ⟨ka, kc, rfl⟩ := isI_form hI
    have c6 : w.cell? ⟨b, o + i * 7 + 6, none⟩ = some (.slice ka T[i].2.length kc) := hcs 6 (by omega)
    have HI := hide hI
    rw [hkz]
    rw [show decide (0 ≤ (i : Int) ∧ (i : Int) < T.length) = true by simp; omega] at HIS
    generalize T[i].2 = ks at *
    have HC6 := hide c6
    clear hit hA hI hcs hz c6 hkz
    go_enter Try.func21, Try.ntmps21
    go_wp2_with fail
    refine (HIS.out _ (HT.out.below HB.out)).mono ?_
    rintro e w1 ⟨rfl, b1⟩
    have q0 : w1.cell? ⟨w.heap.size, 0, none⟩ = some (.slice (some ⟨b, o, none⟩) T.length cap) := (KO.out.below b1).1 0
    have B1 := hide (HB.out.trans (b1.mono HB.out.size))
    have q6 : w1.cell? ⟨b, o + i * 7 + 6, none⟩ = some (.slice ka ks.length kc) := by
      rw [B1.out.cell (cell_lt HC6.out)]; exact HC6.out
    clear b1
    go_wp2
    go_ret
    exact ⟨⟨_, HI.out.below B1.out, rfl⟩, B1.out⟩
  · have hkz : kidsZ T z = [] := by unfold kidsZ; rw [if_neg hz]
    rw [show decide (0 ≤ z ∧ z < T.length) = false by simpa using hz] at HIS
    rw [hkz]
    clear hit hz
    go_enter Try.func21, Try.ntmps21
    go_wp2_with fail
    refine (HIS.out _ (HT.out.below HB.out)).mono ?_
    rintro e w1 ⟨rfl, b1⟩
    have B1 := hide (HB.out.trans (b1.mono HB.out.size))
    clear b1
    go_wp2
    go_ret
    exact ⟨⟨_, isI_nil _, rfl⟩, B1.out⟩
def holdsL (T : TR) (n : Nat) : Bool := (nodeAt T n).kind == 0 || (nodeAt T n).kind == 1
set_option maxHeartbeats 1000000 in
theorem holds_any (v : Value) (T : TR) (n : Nat) (hn : n < T.length) (w : World) (hT : IsT w v T) :
    Calls Try.prog 53 #[.agg #[v], .int .i64 (n : Int)] w fun e w' => e = .returned (.bool (holdsL T n)) ∧ Below w.heap.size w w' := by
  obtain ⟨b, o, cap, rfl, hcap, hit⟩ := hT
  have HB := hide (below_alloc w (.cells #[.slice (some ⟨b, o, none⟩) T.length cap] 27))
  have hn2 : (n : Int) < T.length := by omega
  obtain ⟨av, kv, hA, hI, hcs⟩ := hit n hn
  have hnd : nodeAt T n = T[n].1 := by unfold nodeAt; rw [List.getElem?_eq_getElem hn]; rfl
  have c0 : w.cell? ⟨b, o + n * 7, none⟩ = some (.int .i64 T[n].1.kind) := hcs 0 (by omega)
  have hbl := cell_lt c0
  unfold holdsL
  rw [hnd]
  generalize T[n].1.kind = kd at *
  clear hit hA hI hcs hnd
  by_cases h0 : kd = 0
  · subst h0
    go_enter Try.func53, Try.ntmps53
    go_wp2
    go_ret
    exact ⟨ret_bool (by simp), HB.out⟩
  · by_cases h1 : kd = 1
    · subst h1
      go_enter Try.func53, Try.ntmps53
      go_wp2
      go_ret
      exact ⟨ret_bool (by simp), HB.out⟩
    · go_enter Try.func53, Try.ntmps53
      go_wp2
      go_ret
      exact ⟨ret_bool (by simp [h0, h1]), HB.out⟩
set_option maxHeartbeats 1000000 in
theorem ints_any (va vb : Value) (l m : List Nat) (hl : l.length ≤ 1000000) (hm : m.length ≤ 1000000) (w : World) (hA : IsI w va l) (hB : IsI w vb m) :
    Calls Try.prog 20 #[va, vb] w fun e w' => e = .returned (.bool (l == m)) ∧ Below w.heap.size w w' := by
  have HA := hide hA
  have HBB := hide hB
  obtain ⟨a1, c1, rfl⟩ := isI_form hA
  obtain ⟨a2, c2, rfl⟩ := isI_form hB
  clear hA hB
  by_cases hlm : l.length = m.length
  · have hlmI : ((l.length : Int) == (m.length : Int)) = true := beq_iff_eq.2 (by omega)
    generalize hR : (l == m) = R
    have HR := hide hR
    clear hR
    go_enter Try.func20, Try.ntmps20
    go_wp2
    go_loopw [5] (fun ti wr => ∃ k : Nat, k ≤ l.length ∧ ti = .int .i64 (k : Int) ∧ Below w.heap.size w wr ∧ Hid (l.take k = m.take k)) (fun ti _ => l.length - (intOf ti).toNat)
    case atStart => exact ⟨0, by omega, rfl, Below.refl _ _, hide rfl⟩
    case round =>
      obtain ⟨k, hk, rfl, bw, HT⟩ := hrel
      have BW := hide bw
      by_cases hlt : k < l.length
      · have hlt2 : (k : Int) < l.length := by omega
        have hlb : k < m.length := by omega
        have hlb2 : (k : Int) < m.length := by omega
        obtain ⟨b1, o1, rfl, hx⟩ := (HA.out.below bw).at (by omega)
        obtain ⟨b2, o2, rfl, hy⟩ := (HBB.out.below bw).at (by omega)
        have x1 := hx k hlt
        have y1 := hy k hlb
        clear hx hy bw
        by_cases he : l[k] = m[k]
        · have HT2 : Hid (l.take (k + 1) = m.take (k + 1)) := hide (by rw [List.take_succ_eq_append_getElem hlt, List.take_succ_eq_append_getElem hlb, HT.out, he])
          have he2 : ((l[k] : Int) == (m[k] : Int)) = true := beq_iff_eq.2 (by omega)
          have he3 : (l[k] : Int) = (m[k] : Int) := by omega
          clear HT he
          generalize l[k] = p at *
          generalize m[k] = q at *
          go_wp2_with fail
          go_quiet (fail)
          have B2 := hide (BW.out.trans (Below.mono (show Below wr.heap.size wr (wr.drewN nq) from ⟨rfl, rfl, rfl, Nat.le_refl _, fun _ _ => rfl⟩) BW.out.size))
          go_wp2
          go_roundw
          case rel => exact ⟨k + 1, by omega, by go_num, B2.out, HT2⟩
          case measure => simp [intOf]; omega
        · have HF : Hid (R = false) := hide (by
            rw [← HR.out]
            refine beq_eq_false_iff_ne.2 fun h => he ?_
            subst h
            rfl)
          have he2 : ((l[k] : Int) == (m[k] : Int)) = false := beq_eq_false_iff_ne.2 (by omega)
          have he3 : ¬ (l[k] : Int) = (m[k] : Int) := by omega
          clear HT he
          generalize l[k] = p at *
          generalize m[k] = q at *
          go_wp2_with fail
          go_quiet (fail)
          have B2 := hide (BW.out.trans (Below.mono (show Below wr.heap.size wr (wr.drewN nq) from ⟨rfl, rfl, rfl, Nat.le_refl _, fun _ _ => rfl⟩) BW.out.size))
          go_wp2
          go_ret
          exact ⟨ret_bool HF.out.symm, B2.out⟩
      · have hlt2 : ¬ (k : Int) < l.length := by omega
        have HF : Hid (R = true) := hide (by
          rw [← HR.out, beq_iff_eq]
          have := HT.out
          rw [List.take_of_length_le (by omega), List.take_of_length_le (by omega)] at this
          exact this)
        clear bw HT
        go_wp2
        go_ret
        exact ⟨ret_bool HF.out.symm, BW.out⟩
  · have hlmI : ((l.length : Int) == (m.length : Int)) = false := beq_eq_false_iff_ne.2 (by omega)
    have hlm2 : ¬ (l.length : Int) = (m.length : Int) := by omega
    have hF : (l == m) = false := beq_eq_false_iff_ne.2 fun h => hlm (by rw [h])
    rw [hF]
    go_enter Try.func20, Try.ntmps20
    go_wp2
    go_ret
    exact ⟨rfl, Below.refl _ _⟩
end Go.Proofs.Ytjgklemhlmgheaa
