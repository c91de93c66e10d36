/- What the document's own out answers; nothing that was there is written. -/
import Derived.Test.YtjgklemhlmgheaaWalkD5
set_option linter.unusedVariables false
set_option linter.unusedSimpArgs false
namespace Go.Proofs.Ytjgklemhlmgheaa
open Go.RowKit

def intCells (l : List Nat) : List Value := l.map fun (x : Nat) => Value.int .i64 (x : Int)
theorem owns_isI {w : World} {B n : Nat} {v : Value} {l : List Nat} (h : w.ownsRow B 3 1 v n (intCells l)) : IsI w v l := by
  have hl : n = l.length := by have := h.1; simp [intCells] at this; omega
  rcases h.2 with ⟨rfl, h0⟩ | ⟨g, cap, cur, rfl, hbg, hg, hnc, hcm, hcs, htake⟩
  · exact .inl ⟨rfl, List.eq_nil_of_length_eq_zero (by omega)⟩
  · refine .inr ⟨g, 0, cap, by rw [hl], by omega, fun j hj => ?_⟩
    have hc := h.cells (g := g) rfl j (.int .i64 (l[j] : Int)) (by unfold intCells; rw [List.getElem?_map, List.getElem?_eq_getElem hj]; rfl)
    rw [addr_add] at hc
    rw [Nat.zero_add]
    exact hc
theorem append_int (W : World) (B n : Nat) (v : Value) (l : List Nat) (x : Nat) (hown : W.ownsRow B 3 1 v n (intCells l)) (hl : n ≤ 1000000) (hB : B ≤ W.heap.size) :
    ∃ v' w', (Builtin.append_ #[44, 44] 44 #[v, .slice (some ⟨W.heap.size, 0, none⟩) 1 1]).run Try.prog (W.alloc (.cells #[.int .i64 (x : Int)] 3)) = .ok v' w' ∧ w'.ownsRow B 3 1 v' (n + 1) (intCells (l ++ [x])) ∧ Below B W w' := by
  have b0 := below_alloc W (.cells #[.int .i64 (x : Int)] 3)
  have hown2 := owns_below hown b0
  have hblk : ∀ k, v.ownBlock = some k → B ≤ k := fun k hk => (hown.lt k hk).1
  obtain ⟨v', w', hr, ho, hg, _⟩ := run_append_own (P := Try.prog) (W.alloc (.cells #[.int .i64 (x : Int)] 3)) B 44 44 3 Try.t3 _ 1 8 Try.underlying44 (by kernel_rfl) rfl (by kernel_rfl) (by kernel_rfl) (by kernel_rfl) (by omega)
    v n (intCells l) hown2 ⟨W.heap.size, 0, none⟩ 1 1 [.int .i64 (x : Int)] (by simp)
    (by
      intro j u hu
      rw [addr_add, World.cell?_alloc_mark]
      simpa using hu)
    (by
      intro u hu
      obtain rfl : u = .int .i64 (x : Int) := by simpa using hu
      rfl) (by unfold maxLen; omega) (by omega) (by simp; omega)
  refine ⟨v', w', hr, by unfold intCells at ho ⊢; rw [List.map_append]; exact ho, (b0.mono hB).grown hg (by simp; omega) hblk⟩
def noN (n : Nat) (l : List Nat) : List Nat := l.filter (fun x => !(x == n))
theorem noN_step (n : Nat) (l : List Nat) (k : Nat) (h : k < l.length) : noN n (l.take (k + 1)) = if l[k] = n then noN n (l.take k) else noN n (l.take k) ++ [l[k]] := by
  unfold noN
  rw [List.take_succ_eq_append_getElem h, List.filter_append, List.filter_cons]
  by_cases e : l[k] = n
  · rw [if_pos e, if_neg (by simp [e])]
    simp
  · rw [if_neg e, if_pos (by simp [e])]
    rfl
set_option maxRecDepth 10000 in
set_option maxHeartbeats 2000000 in
theorem out_any (v : Value) (T : TR) (n : Nat) (hl : T.length ≤ 1000000) (hk : ∀ i (h : i < T.length), T[i].2.length ≤ 1000000) (B : Nat → Prop) (w : World) (hB : ∀ k, B k → k < w.heap.size) (hT : IsTB B w v T) :
    Calls Try.prog 55 #[.agg #[v], .int .i64 (n : Int)] w fun e w' => (∃ v', IsTB (andNew B w.heap.size) w' v' (outL T n) ∧ (∃ a m c, v' = .slice a m c) ∧ e = .returned (.agg #[v'])) ∧ Below w.heap.size w w' := by
  have HP := hide (parent_any v T (n : Int) hl hk)
  have hpz : parentZ T (n : Int) = parZ (parentN T n) := by unfold parentZ; rw [if_neg (by omega), Int.toNat_natCast]
  rw [hpz] at HP
  clear hpz
  have HT0 := hide hT
  have HBB := hide hB
  have HT := hide hT.isT
  replace hT := hT.isT
  clear hB
  obtain ⟨b, o, cap, rfl, hcap, hit⟩ := hT
  have bA0 := below_alloc w (.cells #[.slice (some ⟨b, o, none⟩) T.length cap] 27)
  have bA := bA0.alloc bA0.size (.cells #[.slice none 0 0] 27)
  have BA := hide bA
  have KO := hide ((Kept.new w [.slice (some ⟨b, o, none⟩) T.length cap] 27).alloc (.cells #[.slice none 0 0] 27))
  have KZ := hide (Kept.new (w.alloc (.cells #[.slice (some ⟨b, o, none⟩) T.length cap] 27)) [.slice none 0 0] 27)
  unfold outL
  cases hp : parentN T n with
  | none =>
    rw [hp] at HP
    clear hit bA bA0
    go_enter Try.func55, Try.ntmps55
    go_wp2_with fail
    refine (HP.out _ (HT.out.below BA.out)).mono ?_
    rintro e w1 ⟨rfl, b1⟩
    have B1 := hide (BA.out.trans (b1.mono BA.out.size))
    have q0 : w1.cell? ⟨w.heap.size, 0, none⟩ = some (.slice (some ⟨b, o, none⟩) T.length cap) := (KO.out.below b1).1 0
    have z0 : w1.cell? ⟨w.heap.size + 1, 0, none⟩ = some (.slice none 0 0) := by have := (KZ.out.below b1).1 0; simpa using this
    have z1 : w1.frozen? ⟨w.heap.size + 1, 0, none⟩ = false := by have := (KZ.out.below b1).2 0; simpa using this
    clear b1
    rw [parZ_none]
    go_wp2
    have hb2 := B1.out.setCell (p := ⟨w.heap.size + 1, 0, none⟩) (by simp only; omega) (.slice (some ⟨b, o, none⟩) T.length cap)
    refine bodyPost_ret (v := .agg #[.slice (some ⟨b, o, none⟩) T.length cap]) ?_ rfl ⟨⟨_, (HT0.out.below hb2).mono fun k h => .inl h, ⟨_, _, _, rfl⟩, rfl⟩, hb2⟩
    rw [results_cell_one rfl]
    go_simp
  | some p =>
    have hpm := parent_some hp
    have hpl := kidsAt_lt hpm
    have hpl2 : (p : Int) < T.length := by omega
    rw [hp] at HP
    rw [show parZ (some p) = (p : Int) from rfl] at HP
    simp only [kidsAt_get hpl]
    obtain ⟨av, kv, hA, hI, hcs⟩ := hit p hpl
    obtain ⟨ka, kc, rfl⟩ := isI_form hI
    have c6 : w.cell? ⟨b, o + p * 7 + 6, none⟩ = some (.slice ka T[p].2.length kc) := hcs 6 (by omega)
    have HC6 := hide c6
    have HI := hide hI
    have hkl := hk p hpl
    have HSET := hide (fun kv ks => set_any (andNew B (w.heap.size + 2)) (.slice (some ⟨b, o, none⟩) T.length cap) T p kv ks hpl hl)
    show Calls _ _ _ _ (fun e w' => (∃ v', IsTB (andNew B w.heap.size) w' v' (setK T p (noN n T[p].2)) ∧ (∃ a m c, v' = .slice a m c) ∧ e = .returned (.agg #[v'])) ∧ Below w.heap.size w w')
    generalize T[p].2 = ks at *
    clear hit bA bA0 hA hI hcs c6 hpm hp hk
    go_enter Try.func55, Try.ntmps55
    go_wp2_with fail
    refine (HP.out _ (HT.out.below BA.out)).mono ?_
    rintro e w1 ⟨rfl, b1⟩
    have B1 := hide (BA.out.trans (b1.mono BA.out.size))
    have K1 := hide (KO.out.below b1)
    have z0 : w1.cell? ⟨w.heap.size + 1, 0, none⟩ = some (.slice none 0 0) := by have := (KZ.out.below b1).1 0; simpa using this
    have z1 : w1.frozen? ⟨w.heap.size + 1, 0, none⟩ = false := by have := (KZ.out.below b1).2 0; simpa using this
    have hz1 : w.heap.size + 1 < w1.heap.size := by have := (KZ.out.below b1).lt; simpa using this
    have HZ := hide z0
    have HZF := hide z1
    have T1 := hide (HT.out.below B1.out)
    have hown0 : (w1.alloc (.cells #[] 3)).ownsRow w1.heap.size 3 1 (.slice (some ⟨w1.heap.size, 0, none⟩) 0 0) 0 [] := World.ownsRow_made w1 #[] 0 (Nat.le_refl _) (by unfold maxLen; omega) (by simp)
    have HOWN := hide hown0
    have BB := hide (below_alloc w1 (.cells #[] 3))
    clear b1 hown0 z0 z1 HP KO KZ BA
    go_wp2_with fail
    generalize w1.alloc (.cells #[] 3) = W2 at *
    go_loopw [6, 7] (fun vk vi wr => ∃ k : Nat, vi = .int .i64 (k : Int) ∧ k ≤ ks.length ∧ wr.ownsRow w1.heap.size 3 1 vk (noN n (ks.take k)).length (intCells (noN n (ks.take k))) ∧ Below w1.heap.size w1 wr) (fun _ vi _ => ks.length - (intOf vi).toNat)
    case atStart => exact ⟨0, rfl, by omega, HOWN.out, BB.out⟩
    case round =>
      obtain ⟨k, rfl, hkk, hown, bw⟩ := hrel
      obtain ⟨la, lc, rfl⟩ := owns_form hown
      have BW := hide bw
      have KW := hide (K1.out.below bw)
      have q0 : wr.cell? ⟨w.heap.size, 0, none⟩ = some (.slice (some ⟨b, o, none⟩) T.length cap) := KW.out.1 0
      have BWW := hide (B1.out.trans (bw.mono B1.out.size))
      have q6 : wr.cell? ⟨b, o + p * 7 + 6, none⟩ = some (.slice ka ks.length kc) := by rw [BWW.out.cell (cell_lt HC6.out)]; exact HC6.out
      have TW := hide (HT.out.below BWW.out)
      have HOW := hide hown
      clear hown bw
      by_cases hlt : k < ks.length
      · have hlt2 : (k : Int) < ks.length := by omega
        obtain ⟨kb, ko, rfl, hkc⟩ := (HI.out.below BWW.out).at (by omega)
        have ck := hkc k hlt
        clear hkc
        have hst := noN_step n ks k hlt
        by_cases he : ks[k] = n
        · rw [if_pos he] at hst
          have he2 : (ks[k] : Int) = (n : Int) := by omega
          have he3 : ((ks[k] : Int) == (n : Int)) = true := beq_iff_eq.2 he2
          have HST := hide hst
          clear hst he
          generalize ks[k] = x at *
          go_wp2
          go_roundw
          case rel => exact ⟨k + 1, by go_num, by omega, by rw [HST.out]; exact HOW.out, BW.out⟩
          case measure => simp [intOf]; omega
        · rw [if_neg he] at hst
          have he2 : ¬ (ks[k] : Int) = (n : Int) := by omega
          have he3 : ((ks[k] : Int) == (n : Int)) = false := beq_eq_false_iff_ne.2 he2
          have hnl : (noN n (ks.take k)).length ≤ 1000000 := by
            have h1 : (noN n (ks.take k)).length ≤ (ks.take k).length := List.length_filter_le _ _
            rw [List.length_take] at h1
            omega
          obtain ⟨v2, w2, hr, ho2, hb2⟩ := append_int wr w1.heap.size _ _ _ ks[k] HOW.out hnl BW.out.size
          have HR := hide hr
          have HST : Hid (w2.ownsRow w1.heap.size 3 1 v2 (noN n (ks.take (k + 1))).length (intCells (noN n (ks.take (k + 1))))) := hide (by
            rw [hst, List.length_append]
            exact ho2)
          have HB2 := hide (BW.out.trans hb2)
          clear hst he hr ho2 hb2
          generalize ks[k] = x at *
          generalize (noN n (ks.take k)).length = m at *
          go_wp2_with (with_reducible refine wpList_append_run rfl _ _ 44 rfl (.slice la m lc) (.slice (some ⟨wr.heap.size, 0, none⟩) 1 1) _ w2 rfl rfl HR.out ?_)
          go_roundw
          case rel => exact ⟨k + 1, by go_num, by omega, HST.out, HB2.out⟩
          case measure => simp [intOf]; omega
      · have hlt2 : ¬ (k : Int) < ks.length := by omega
        have hke : ks.take k = ks := List.take_of_length_le (by omega)
        have HIW : Hid (IsI wr (.slice la (noN n (ks.take k)).length lc) (noN n ks)) := hide (by have h := owns_isI HOW.out; rw [hke] at h ⊢; exact h)
        have HOW2 : Hid (wr.ownsRow w1.heap.size 3 1 (.slice la (noN n (ks.take k)).length lc) (noN n (ks.take k)).length (intCells (noN n ks))) := hide (by have h := HOW.out; rw [hke] at h ⊢; exact h)
        clear HOW hke
        generalize (noN n (ks.take k)).length = m at *
        have z0 : wr.cell? ⟨w.heap.size + 1, 0, none⟩ = some (.slice none 0 0) := by rw [BW.out.cell (cell_lt HZ.out)]; exact HZ.out
        have z1 : wr.frozen? ⟨w.heap.size + 1, 0, none⟩ = false := by rw [BW.out.frozen (p := ⟨w.heap.size + 1, 0, none⟩) (by simp only; omega)]; exact HZF.out
        have hwz : w1.heap.size ≤ wr.heap.size := BW.out.size
        have HTW := hide ((HT0.out.below BWW.out).mono (C := andNew B (w.heap.size + 2)) fun k h => .inl h)
        have HIB : Hid (IsIB (andNew B (w.heap.size + 2)) wr (.slice la m lc) (noN n ks)) := hide ⟨HIW.out, .inr fun k hk => .inr (by have := (HOW2.out.lt k hk).1; omega)⟩
        go_wp2_with fail
        refine (HSET.out _ _ _ HTW.out HIB.out).mono ?_
        rintro e w3 ⟨⟨v3, h3, ⟨va, vm, vc, rfl⟩, rfl⟩, b3⟩
        have B3 := hide (BWW.out.trans (b3.mono BWW.out.size))
        have HT3 := hide (h3.mono (C := andNew B (w.heap.size + 2)) (by
          rintro k ((h | h) | h)
          · exact .inl h
          · exact .inr h
          · exact .inr (by omega)))
        have y0 : w3.cell? ⟨w.heap.size + 1, 0, none⟩ = some (.slice none 0 0) := by rw [b3.cell (cell_lt z0)]; exact z0
        have y1 : w3.frozen? ⟨w.heap.size + 1, 0, none⟩ = false := by rw [b3.frozen (p := ⟨w.heap.size + 1, 0, none⟩) (by simp only; omega)]; exact z1
        clear h3 b3 z0 z1 q0 q6
        go_wp2
        have hb2 := B3.out.setCell (p := ⟨w.heap.size + 1, 0, none⟩) (by simp only; omega) (.slice va vm vc)
        refine bodyPost_ret (v := .agg #[.slice va vm vc]) ?_ rfl ⟨⟨_, (HT3.out.keep (fun k h => Below.heap_setCell _ _ _ _ ?_)).mono ?_, ⟨_, _, _, rfl⟩, rfl⟩, hb2⟩
        · rw [results_cell_one rfl]
          go_simp
        · simp only
          rcases h with h | h
          · have := HBB.out k h
            omega
          · omega
        · rintro k (h | h)
          · exact .inl h
          · exact .inr (by omega)
end Go.Proofs.Ytjgklemhlmgheaa
