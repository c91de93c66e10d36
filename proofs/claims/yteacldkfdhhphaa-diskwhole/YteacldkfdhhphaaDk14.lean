/- What the document's New answers. -/
import Derived.Test.YteacldkfdhhphaaDj14
set_option linter.unusedVariables false
set_option linter.unusedSimpArgs false
set_option maxRecDepth 40000
namespace Go.Proofs.Yteacldkfdhhphaa
open Go.RowKit

def newR (n : Int) : DM × Int := if 1 ≤ n ∧ n ≤ 4096 then (newD n.toNat, 0) else ({ safe := [] }, 1)
/-- A disk that is being made. -/
structure NewS (w : World) (i : Nat) (v : Value) (wr : World) : Prop where
  z : wr.heap[w.heap.size]? = some (.cells (dkC zeroDV) 31 (0, 0))
  d : wr.heap[w.heap.size + 1]? = some (.cells (dkC ⟨{ safe := List.replicate i noughtB }, v, .slice none 0 0⟩) 31 (0, 0))
  o : wr.ownsRow (w.heap.size + 2) 9 1 v i (textsV (List.replicate i noughtB))
  b : Below w.heap.size w wr
  s : w.heap.size + 2 ≤ wr.heap.size
theorem NewS.step {w wr w' : World} {i : Nat} {v v' : Value} (h : NewS w i v wr) (ho : w'.ownsRow (w.heap.size + 2) 9 1 v' (i + 1) (textsV (List.replicate i noughtB) ++ [.string ⟨noughtB.toArray⟩])) (hb : Below (w.heap.size + 2) wr w') : NewS w (i + 1) v' (w'.setCell ⟨w.heap.size + 1, 0, none⟩ v') := by
  have ht : textsV (List.replicate (i + 1) noughtB) = textsV (List.replicate i noughtB) ++ [.string ⟨noughtB.toArray⟩] := by
    rw [List.replicate_succ', textsV_app]
    rfl
  have hs := h.s
  have o1 : ∀ k, k ≠ w.heap.size + 1 → (w'.setCell ⟨w.heap.size + 1, 0, none⟩ v').heap[k]? = w'.heap[k]? := fun k hk => Below.heap_setCell _ _ _ _ hk
  refine ⟨(o1 _ (by omega)).trans ((hb.block _ (by omega)).trans h.z), ?_, ?_, (h.b.trans (hb.mono (by omega))).setCell (p := ⟨w.heap.size + 1, 0, none⟩) (Nat.le_succ _) _, ?_⟩
  · rw [setCell_box ((hb.block (w.heap.size + 1) (by omega)).trans h.d) 0 v']
    rfl
  · rw [ht]
    exact ownsRow_setCell_below ho (show w.heap.size + 1 < w.heap.size + 2 by omega) v'
  · have := hb.size
    simp [World.setCell]
    omega
theorem NewS.done {w wr : World} {n : Nat} {v : Value} (h : NewS w (n * 4) v wr) (v0 v1 v2 v3 v4 : Value) : DiskR w (newD n, 0) (.returned (.tuple #[.agg #[v, .slice none 0 0, .int .i64 0, .bool false, .bool false], .int .i64 0])) (set5 wr w.heap.size v0 v1 v2 v3 v4) :=
  ⟨⟨newD n, v, .slice none 0 0⟩, rfl, rfl, ⟨(owns_isW h.o).1.but (noStr_dk (isD_zero w) h.z) (set5_other wr _ v0 v1 v2 v3 v4), .inl ⟨rfl, _, _, rfl⟩⟩, below_set5 (Nat.le_refl _) h.b _ _ _ _ _⟩
set_option maxHeartbeats 4000000 in
theorem rnew_any (n : Int) (w : World) : Calls Try.prog 11 #[.int .i64 n] w fun e w' => DiskR w (newR n) e w' := by
  by_cases hn : 1 ≤ n ∧ n ≤ 4096
  · rw [show newR n = (newD n.toNat, 0) from if_pos hn]
    obtain ⟨hn1, hn2⟩ := hn
    obtain ⟨nn, rfl⟩ : ∃ nn : Nat, n = nn := ⟨n.toNat, by omega⟩
    rw [Int.toNat_natCast]
    have hna : ¬ (nn : Int) < 1 := by omega
    have hnb : ¬ (4096 : Int) < nn := by omega
    have hb0 := below_alloc w (.cells (dkC zeroDV) 31)
    have hb1 := hb0.trans ((below_alloc (w.alloc (.cells (dkC zeroDV) 31)) (.cells (dkC zeroDV) 31)).mono hb0.size)
    have s1 : (w.alloc (.cells (dkC zeroDV) 31)).heap.size = w.heap.size + 1 := by simp
    have s2 : ((w.alloc (.cells (dkC zeroDV) 31)).alloc (.cells (dkC zeroDV) 31)).heap.size = w.heap.size + 2 := by simp
    have HNG := hide (rnought_any ((w.alloc (.cells (dkC zeroDV) 31)).alloc (.cells (dkC zeroDV) 31)))
    have HST : Hid (∀ x, Below ((w.alloc (.cells (dkC zeroDV) 31)).alloc (.cells (dkC zeroDV) 31)).heap.size ((w.alloc (.cells (dkC zeroDV) 31)).alloc (.cells (dkC zeroDV) 31)) x → NewS w 0 (.slice none 0 0) x) := hide (fun x hb => by
      refine ⟨(hb.block _ (by omega)).trans (((below_alloc (w.alloc (.cells (dkC zeroDV) 31)) (.cells (dkC zeroDV) 31)).block _ (by omega)).trans (alloc_new w _)), ?_, ⟨rfl, .inl ⟨rfl, rfl⟩⟩, hb1.trans (hb.mono hb1.size), by have := hb.size; omega⟩
      rw [← s1]
      exact (hb.block _ (by omega)).trans (alloc_new _ _))
    have HAP : Hid (∀ i v wr, i ≤ 100000 → NewS w i v wr → ∃ a c w', (Builtin.append_ #[28, 28] 28 #[v, .slice (some ⟨wr.heap.size, 0, none⟩) 1 1]).run Try.prog (wr.alloc (.cells #[.string ⟨noughtB.toArray⟩] 9)) = .ok (.slice a (i + 1) c) w' ∧ NewS w (i + 1) (.slice a (i + 1) c) (w'.setCell ⟨w.heap.size + 1, 0, none⟩ (.slice a (i + 1) c)) ∧ w'.cell? ⟨w.heap.size + 1, 0, none⟩ = some v ∧ w'.frozen? ⟨w.heap.size + 1, 0, none⟩ = false ∧ (wr.alloc (.cells #[.string ⟨noughtB.toArray⟩] 9)).cell? ⟨w.heap.size + 1, 0, none⟩ = some v) := hide (fun i v wr hi h => by
      obtain ⟨v', w', hr, ho, hb⟩ := append_text wr (w.heap.size + 2) i v (textsV (List.replicate i noughtB)) ⟨noughtB.toArray⟩ wr.heap.size rfl h.o (by omega) h.s
      obtain ⟨a, c, rfl⟩ := owns_formG ho
      have hd := (hb.block (w.heap.size + 1) (by omega)).trans h.d
      obtain ⟨c0, _, _, _, _, f0, _⟩ := dk_cells hd
      have cw := (dk_cells h.d).1
      exact ⟨a, c, w', hr, h.step ho hb, c0, f0, ((below_alloc wr _).cell (cell_lt cw)).trans cw⟩)
    clear hb0 hb1 s1 s2 hn1
    generalize (⟨noughtB.toArray⟩ : ByteArray) = Zs at *
    go_enter Try.func11, Try.ntmps11
    go_wp2_with fail
    refine HNG.out.mono ?_
    rintro e w1 ⟨rfl, b1⟩
    have HS := hide (HST.out w1 b1)
    clear b1 HST HNG
    go_wp2
    go_loopw [6] (fun vi wr => ∃ (i : Nat) (a : Option Addr) (c : Nat), vi = .int .i64 (i : Int) ∧ i ≤ nn * 4 ∧ Hid (NewS w i (.slice a i c) wr)) (fun vi _ => nn * 4 - (intOf vi).toNat)
    case atStart => exact ⟨0, none, 0, rfl, Nat.zero_le _, HS⟩
    case round =>
      clear HS
      obtain ⟨i, a, c, rfl, hi, HS⟩ := hrel
      obtain ⟨x0, x1, x2, x3, x4, g0, g1, g2, g3, g4⟩ := dk_cells HS.out.d
      obtain ⟨y0, y1, y2, y3, y4, f0, f1, f2, f3, f4⟩ := dk_cells HS.out.z
      simp only [zeroDV] at x0 x1 x2 x3 x4 y0 y1 y2 y3 y4
      have hw1 : wrap64 ((nn : Int) * 4) = (nn : Int) * 4 := by unfold wrap64; omega
      by_cases hlt : i < nn * 4
      · have hlt2 : (i : Int) < (nn : Int) * 4 := by omega
        obtain ⟨a', c', w', hr, hs', q0, q1, q2⟩ := HAP.out i _ wr (by omega) HS.out
        have HS2 := hide hs'
        clear hs' y0 y1 y2 y3 y4 f0 f1 f2 f3 f4 x1 x2 x3 x4 g0 g1 g2 g3 g4
        go_wp2_with (at_builtin; refine Lib.wpList_append_run _ rfl (.tmp 23) (.tmp 25) _ _ rfl _ _ rfl rfl _ _ hr ?_)
        go_roundw
        case rel => exact ⟨i + 1, a', c', by go_num, by omega, HS2⟩
        case measure => simp [intOf]; omega
      · have hlt2 : ¬ (i : Int) < (nn : Int) * 4 := by omega
        obtain rfl : i = nn * 4 := by omega
        have ZZ := hide HS.out.done
        clear HS HAP hw1
        generalize hk : nn * 4 = kk at *
        go_wp2
        refine bodyPost_ret (v := .tuple #[.agg #[.slice a kk c, .slice none 0 0, .int .i64 0, .bool false, .bool false], .int .i64 0]) ?_ rfl (ZZ.out _ _ _ _ _)
        simp [results, Try.results11, go_sem, y0, y1, y2, y3, y4]
  · rw [show newR n = ({ safe := [] }, 1) from if_neg hn]
    have HF : Hid (DiskR w ({ safe := [] }, 1) (.returned (.tuple #[.agg #[.slice none 0 0, .slice none 0 0, .int .i64 0, .bool false, .bool false], .int .i64 1])) (w.alloc (.cells (dkC zeroDV) 31))) := hide ⟨zeroDV, rfl, rfl, isD_zero _, below_alloc w _⟩
    by_cases h1 : n < 1
    · clear hn
      go_enter Try.func11, Try.ntmps11
      go_wp2
      refine bodyPost_ret (v := .tuple #[.agg #[.slice none 0 0, .slice none 0 0, .int .i64 0, .bool false, .bool false], .int .i64 1]) ?_ rfl HF.out
      simp [results, Try.results11, go_sem]
    · have h2 : (4096 : Int) < n := by omega
      clear hn
      go_enter Try.func11, Try.ntmps11
      go_wp2
      refine bodyPost_ret (v := .tuple #[.agg #[.slice none 0 0, .slice none 0 0, .int .i64 0, .bool false, .bool false], .int .i64 1]) ?_ rfl HF.out
      simp [results, Try.results11, go_sem]
end Go.Proofs.Yteacldkfdhhphaa
