/- What the document's own Lower answers, of whatever text; nothing that was there is written. -/
import Derived.Test.YtlfjmgniflkapaaGreatDoorWalkC4
import Derived.Laws.AppendOwn
import Derived.Lib.RuneBytes
set_option linter.unusedVariables false
set_option linter.unusedSimpArgs false
namespace Go.Proofs.YtlfjmgniflkapaaGreatDoor
open Go.RowKit

theorem lower_length (l : List UInt8) : (lowerL l).length = l.length := by unfold lowerL; rw [List.length_map]
theorem cell_lt4 {w : World} {a : Addr} {v : Value} (h : w.cell? a = some v) : a.block < w.heap.size := World.block_lt_of_cell? w a h
theorem low_great (c : UInt8) (h : greatN c.toNat = true) : 65 ≤ c.toNat ∧ c.toNat ≤ 90 ∧ (low c).toNat = c.toNat + 32 := by
  have h2 := h
  simp [greatN] at h2
  refine ⟨h2.1, h2.2, ?_⟩
  unfold low
  rw [h, if_pos rfl, UInt8.toNat_add]
  show (c.toNat + 32) % 256 = _
  omega

/-- Cells that are bytes, as a text: in whatever world has them. -/
theorem conv_bytes (w : World) (a : Addr) (cap : Nat) (l : List UInt8) (hc : ∀ j (hj : j < l.length), w.cell? (a.add j) = some (.int .u8 (l[j].toNat : Int))) :
    (convert 54 9 (.slice (some a) l.length cap)).run Tryz.prog w = .ok (.string ⟨l.toArray⟩) w :=
  run_convert_bytes_back w 54 9 5 a cap l Tryz.underlying54 Tryz.underlying5 Tryz.underlying9 hc
/-- The value is a slice that reads as these bytes. -/
def IsB (w : World) (v : Value) (l : List UInt8) : Prop :=
  (v = .slice none 0 0 ∧ l = []) ∨ ∃ a cap, v = .slice (some a) l.length cap ∧ ∀ j (hj : j < l.length), w.cell? (a.add j) = some (.int .u8 (l[j].toNat : Int))


theorem IsB.below {w W : World} {v : Value} {l : List UInt8} (h : IsB w v l) (hb : Below w.heap.size w W) : IsB W v l := by
  rcases h with h | ⟨a, cap, rfl, hc⟩
  · exact .inl h
  · refine .inr ⟨a, cap, rfl, fun j hj => ?_⟩
    rw [hb.cell (cell_lt4 (hc j hj))]
    exact hc j hj
theorem IsB.conv {w : World} {v : Value} {l : List UInt8} (h : IsB w v l) : (convert 54 9 v).run Tryz.prog w = .ok (.string ⟨l.toArray⟩) w := by
  rcases h with ⟨rfl, rfl⟩ | ⟨a, cap, rfl, hc⟩
  · exact run_convert_bytes_nil w 54 5 Tryz.underlying54 Tryz.underlying5 0 0 9 Tryz.underlying9
  · exact conv_bytes w a cap l hc

theorem byteCells_get (l : List UInt8) (j : Nat) (hj : j < l.length) : (Lib.byteCells l)[j]? = some (.int .u8 (l[j].toNat : Int)) := by
  simp [Lib.byteCells, List.getElem?_eq_getElem hj]
theorem byteCells_1c (l : List UInt8) : ∀ u ∈ Lib.byteCells l, u.oneCell' = true := by
  intro u hu
  simp only [Lib.byteCells, List.mem_map] at hu
  obtain ⟨b, _, rfl⟩ := hu
  rfl
theorem byteCells_len (l : List UInt8) : (Lib.byteCells l).length = l.length := by simp [Lib.byteCells]

theorem owns_isB {w : World} {B n : Nat} {v : Value} {l : List UInt8} (h : w.ownsRow B 5 1 v n (Lib.byteCells l)) : IsB w v l := by
  have hn : n = l.length := by
    have := h.1
    rw [byteCells_len] at this
    omega
  subst hn
  rcases h.2 with ⟨rfl, h2⟩ | ⟨g, cap, cur, rfl, _, _, _, _, _, _⟩
  · exact .inl ⟨rfl, List.eq_nil_of_length_eq_zero h2⟩
  · exact .inr ⟨⟨g, 0, none⟩, cap, rfl, fun j hj => h.cells rfl j _ (byteCells_get l j hj)⟩

/-- append(b, c), b a list of the call's own, c a byte that was just written out. -/
theorem append_byte (W : World) (B n : Nat) (v : Value) (l : List UInt8) (c : UInt8) (hown : W.ownsRow B 5 1 v n (Lib.byteCells l)) (hl : n ≤ 1000000) (hB : B ≤ W.heap.size) :
    ∃ v' w', (Builtin.append_ #[54, 54] 54 #[v, .slice (some ⟨W.heap.size, 0, none⟩) 1 1]).run Tryz.prog (W.alloc (.cells #[.int .u8 (c.toNat : Int)] 5)) = .ok v' w' ∧ w'.ownsRow B 5 1 v' (n + 1) (Lib.byteCells (l ++ [c])) ∧ Below B W w' := by
  have b0 : Below W.heap.size W (W.alloc (.cells #[.int .u8 (c.toNat : Int)] 5)) := (Below.refl _ W).alloc (Nat.le_refl _) _
  have hown2 : (W.alloc (.cells #[.int .u8 (c.toNat : Int)] 5)).ownsRow B 5 1 v n (Lib.byteCells l) := by
    refine ⟨hown.1, ?_⟩
    rcases hown.2 with h | ⟨g, cap, cur, h1, h2, h3, h4⟩
    · exact .inl h
    · refine .inr ⟨g, cap, cur, h1, h2, ?_, h4⟩
      have hg : g < W.heap.size := (Array.getElem?_eq_some_iff.1 h3).1
      rw [b0.block g hg]; exact h3
  have hblk : ∀ k, v.ownBlock = some k → B ≤ k := by
    intro k hk
    rcases hown.2 with ⟨rfl, _⟩ | ⟨g, cap, cur, rfl, h2, _⟩
    · simp [Value.ownBlock] at hk
    · simp [Value.ownBlock] at hk; omega
  obtain ⟨v', w', hr, ho, hg, _⟩ := run_append_own (P := Tryz.prog) (W.alloc (.cells #[.int .u8 (c.toNat : Int)] 5)) B 54 54 5 Tryz.t5 (.int .u8 0) 1 1 Tryz.underlying54 (by kernel_rfl) (by kernel_rfl) (by kernel_rfl) (by kernel_rfl) (by kernel_rfl) (by omega)
      v n (Lib.byteCells l) hown2 ⟨W.heap.size, 0, none⟩ 1 1 (Lib.byteCells [c]) rfl
      (by
        intro j u hu
        have hj : j < 1 := (List.getElem?_eq_some_iff.1 hu).1
        obtain rfl : j = 0 := by omega
        rw [byteCells_get [c] 0 (by simp)] at hu
        rw [addr_add, ← hu]
        simp [go_sem]) (byteCells_1c [c]) (by unfold maxLen; omega) (by omega) (by simp; omega)
  refine ⟨v', w', hr, ?_, ((b0.mono hB)).grown hg (by simp; omega) hblk⟩
  rw [← Lib.byteCells_append] at ho
  exact ho

theorem lower_step (l : List UInt8) (k : Nat) (h : k < l.length) : lowerL (l.take (k + 1)) = lowerL (l.take k) ++ [low l[k]] := by
  unfold lowerL
  rw [List.take_add_one, List.getElem?_eq_getElem h, List.map_append]
  rfl
theorem take_len (s : ByteArray) (k : Nat) (h : k ≤ s.size) : (lowerL (s.data.toList.take k)).length = k := by
  rw [lower_length, List.length_take, ← size_list]; omega

set_option maxHeartbeats 1000000 in
theorem rlower_any (s : ByteArray) (hs : s.size ≤ 1000000) (w : World) :
    Calls Tryz.prog 33 #[.string s] w fun e w' => e = .returned (.string ⟨(lowerL s.data.toList).toArray⟩) ∧ Below w.heap.size w w' := by
  generalize hR : lowerL s.data.toList = R
  have HRR := hide hR
  have HSL := hide (size_list s)
  clear hR
  go_enter Tryz.func33, Tryz.ntmps33
  go_wp2
  go_loopw [3, 4] (fun tb i wr => ∃ k : Nat, k ≤ s.size ∧ i = .int .i64 k ∧ w.heap.size ≤ wr.heap.size ∧ Below w.heap.size w wr ∧ Hid (wr.ownsRow w.heap.size 5 1 tb k (Lib.byteCells (lowerL (s.data.toList.take k))))) (fun _ i _ => s.size - (intOf i).toNat)
  case atStart =>
    refine ⟨0, Nat.zero_le _, rfl, ?_, (Below.refl _ w).alloc (Nat.le_refl _) _, hide ⟨rfl, .inr ⟨w.heap.size, 0, #[], rfl, Nat.le_refl _, heap_alloc_new w _, Nat.le_refl _, by decide, rfl, rfl⟩⟩⟩
    simp
  case round =>
    obtain ⟨k, hk, rfl, hsz, bw, HO⟩ := hrel
    by_cases hlt : k < s.size
    · have hlt2 : (k : Int) < s.size := by omega
      have hkl : k < s.data.toList.length := by rw [← HSL.out]; exact hlt
      obtain ⟨v', w', hr, ho, hb⟩ := append_byte wr w.heap.size k _ _ (low s.data.toList[k]) HO.out (by omega) hsz
      rw [← lower_step _ k hkl] at ho
      have HO2 := hide ho
      have HRUN := hide hr
      have b2 := bw.trans hb
      have hsz2 := b2.size
      have hidx : s[k] = s.data.toList[k] := rfl
      clear ho hr HO hb
      cases hg : greatN (s.data.toList[k]).toNat
      · have hlw : low s.data.toList[k] = s.data.toList[k] := by
          unfold low
          rw [hg]; rfl
        rw [hlw, ← hidx] at HRUN
        rw [← hidx] at hg
        simp [greatN] at hg
        clear hlw hidx
        generalize hc : s[k] = c at *
        by_cases h65 : (65 : Int) ≤ c.toNat
        · have h90 : ¬ (c.toNat : Int) ≤ 90 := by omega
          clear hg
          go_wp2_with (at_builtin; refine wpList_append_run rfl _ _ 54 rfl _ _ _ _ rfl rfl HRUN.out ?_)
          go_roundw
          case rel => exact ⟨k + 1, by omega, by go_num, hsz2, b2, HO2⟩
          case measure => simp [intOf]; omega
        · clear hg
          go_wp2_with (at_builtin; refine wpList_append_run rfl _ _ 54 rfl _ _ _ _ rfl rfl HRUN.out ?_)
          go_roundw
          case rel => exact ⟨k + 1, by omega, by go_num, hsz2, b2, HO2⟩
          case measure => simp [intOf]; omega
      · obtain ⟨g1, g2, g3⟩ := low_great _ hg
        rw [← hidx] at g1 g2
        have HRUN2 : Hid ((Builtin.append_ #[54, 54] 54 #[u3, .slice (some ⟨wr.heap.size, 0, none⟩) 1 1]).run Tryz.prog (wr.alloc (.cells #[.int .u8 ((s[k].toNat : Int) + 32)] 5)) = .ok v' w') := by
          have := HRUN.out
          rw [g3] at this
          exact this
        clear hidx hg g3 HRUN
        have h65 : (65 : Int) ≤ s[k].toNat := by omega
        have h90 : (s[k].toNat : Int) ≤ 90 := by omega
        generalize hc : s[k] = c at *
        go_wp2_with (at_builtin; refine wpList_append_run rfl _ _ 54 rfl _ _ _ _ rfl rfl HRUN2.out ?_)
        go_roundw
        case rel => exact ⟨k + 1, by omega, by go_num, hsz2, b2, HO2⟩
        case measure => simp [intOf]; omega
    · have hlt2 : ¬ (k : Int) < s.size := by omega
      obtain rfl : k = s.size := by omega
      have hq := HO.out
      rw [List.take_of_length_le (by rw [← HSL.out]; omega), HRR.out] at hq
      have hcv := (owns_isB hq).conv
      clear HO hlt hq
      go_wp2
      go_ret
      exact ⟨rfl, bw⟩
end Go.Proofs.YtlfjmgniflkapaaGreatDoor
