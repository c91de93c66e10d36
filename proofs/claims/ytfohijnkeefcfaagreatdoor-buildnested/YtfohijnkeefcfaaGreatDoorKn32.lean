import Derived.Test.YtfohijnkeefcfaaGreatDoorKn01
import Derived.Test.YtfohijnkeefcfaaGreatDoorKn04
import Derived.Lib.RuneBytes
import Derived.Lib.ConvBytes
import Derived.Laws.AppendOwn
set_option linter.unusedVariables false
set_option linter.unusedSimpArgs false
set_option maxRecDepth 100000
set_option maxHeartbeats 8000000
namespace Go.Proofs.YtfohijnkeefcfaaGreatDoor.S4
open Go.RowKit
theorem plower_length (l : List UInt8) : (lowerL l).length = l.length := by unfold lowerL; rw [List.length_map]
theorem plow_great (c : UInt8) (h : greatN c.toNat = true) : 65 <= c.toNat /\ c.toNat <= 90 /\ (low c).toNat = c.toNat + 32 := by
  have h2 := h
  simp [greatN] at h2
  refine ⟨h2.1, h2.2, ?_⟩
  unfold low
  rw [h, if_pos rfl, UInt8.toNat_add]
  show (c.toNat + 32) % 256 = _
  omega
theorem pconv_bytes (w : World) (a : Addr) (cap : Nat) (l : List UInt8) (hc : ∀ j (hj : j < l.length), w.cell? (a.add j) = some (.int .u8 (l[j].toNat : Int))) :
    (convert 60 9 (.slice (some a) l.length cap)).run Tryz.prog w = .ok (.string ⟨l.toArray⟩) w :=
  run_convert_bytes_back w 60 9 5 a cap l Tryz.underlying60 Tryz.underlying5 Tryz.underlying9 hc
def midB (k j : Nat) (c : UInt8) : UInt8 := if j < k then low c else c
def RowLow (W : World) (b k : Nat) (l : List UInt8) : Prop := ∀ j (hj : j < l.length), W.cell? ⟨b, j, none⟩ = some (.int .u8 ((midB k j l[j]).toNat : Int)) /\ W.frozen? ⟨b, j, none⟩ = false
theorem RowLow.skip {W : World} {b k : Nat} {l : List UInt8} (h : RowLow W b k l) (hk : k < l.length) (hg : greatN l[k].toNat = false) : RowLow W b (k + 1) l := by
  intro j hj
  rw [(h j hj).1]
  refine ⟨?_, (h j hj).2⟩
  by_cases e : j = k
  · subst e
    unfold midB
    rw [if_neg (by omega), if_pos (by omega)]
    have : low l[j] = l[j] := by
      unfold low
      rw [hg]; rfl
    rw [this]
  · unfold midB
    by_cases h2 : j < k
    · rw [if_pos h2, if_pos (by omega)]
    · rw [if_neg h2, if_neg (by omega)]
theorem RowLow.put {W : World} {b k : Nat} {l : List UInt8} (h : RowLow W b k l) (hk : k < l.length) (z : Int) (hz : z = (low l[k]).toNat) : RowLow (W.setCell ⟨b, k, none⟩ (.int .u8 z)) b (k + 1) l := by
  intro j hj
  rw [World.frozen?_setCell]
  refine ⟨?_, (h j hj).2⟩
  by_cases e : j = k
  · subst e
    rw [World.cell?_setCell_same W _ _ (h j hj).1]
    unfold midB
    rw [if_pos (by omega), hz]
  · rw [World.cell?_setCell_other W _ _ _ (by intro he; injection he; omega), (h j hj).1]
    unfold midB
    by_cases h2 : j < k
    · rw [if_pos h2, if_pos (by omega)]
    · rw [if_neg h2, if_neg (by omega)]
theorem pconv_string (w : World) (s : ByteArray) : ∃ cap W, (convert 9 60 (.string s)).run Tryz.prog w = .ok (.slice (some ⟨w.heap.size, 0, none⟩) s.size cap) W /\ RowLow W w.heap.size 0 s.data.toList /\ Below w.heap.size w W := by
  refine ⟨_, _, Lib.run_convert_string_bytes w 9 60 5 s Tryz.underlying9 Tryz.underlying60 Tryz.underlying5, ?_, ?_⟩
  · intro j hj
    have hj2 : j < s.size := by rw [size_list]; exact hj
    have := Lib.bytesWorld_cell w 5 s j hj2
    refine ⟨?_, ?_⟩
    · rw [this, List.getD_eq_getElem?_getD, List.getElem?_eq_getElem hj]
      unfold midB
      rw [if_neg (by omega)]
      rfl
    · unfold World.frozen?
      show (match (Lib.bytesWorld w 5 s).heap[w.heap.size]? with | some (.cells _ _ (lo, hi)) => decide (lo <= j) && decide (j < hi) | _ => false) = false
      rw [Lib.bytesWorld_at_new]
      have : s.size <= (Lib.bytesCells w 5 s).size := by
        unfold Lib.bytesCells
        rw [Array.size_append, Array.size_map]
        show s.data.size <= _
        omega
      simp
      omega
  · exact ⟨rfl, rfl, rfl, by rw [Lib.bytesWorld_size]; omega, fun k hk => Lib.bytesWorld_at_old w 5 s k hk⟩
theorem RowLow.conv {W : World} {b : Nat} {s : ByteArray} (h : RowLow W b s.size s.data.toList) (cap : Nat) :
    (convert 60 9 (.slice (some ⟨b, 0, none⟩) s.size cap)).run Tryz.prog W = .ok (.string ⟨(lowerL s.data.toList).toArray⟩) W := by
  have e : s.size = (lowerL s.data.toList).length := by rw [plower_length, size_list]
  have h2 := pconv_bytes W ⟨b, 0, none⟩ cap (lowerL s.data.toList) (by
    intro j hj
    have hj2 : j < s.data.toList.length := by rw [plower_length] at hj; exact hj
    rw [addr_add, (h j hj2).1]
    unfold midB
    rw [if_pos (by rw [size_list]; exact hj2)]
    have e2 : (lowerL s.data.toList)[j] = low s.data.toList[j] := List.getElem_map low
    rw [e2])
  rw [<- e] at h2
  exact h2
theorem plower_any (s : ByteArray) (hs : s.size <= 1000000) (w : World) :
    Calls Tryz.prog 48 #[.string s] w fun e w' => e = .returned (.string ⟨(lowerL s.data.toList).toArray⟩) /\ Below w.heap.size w w' := by
  have hcv := fun W (h : RowLow W w.heap.size s.size s.data.toList) cap => h.conv cap
  have HCV := hide hcv
  clear hcv
  generalize lowerL s.data.toList = R at *
  obtain ⟨cap, W0, hr, hrow, hb⟩ := pconv_string w s
  have HROW := hide hrow
  have HSL := hide (size_list s)
  have HG := hide great_any
  clear hrow
  generalize hB : w.heap.size = b at *
  go_enter Tryz.func48, Tryz.ntmps48
  go_wp2
  go_loopw [10] (fun i wr => ∃ k : Nat, k <= s.size /\ i = .int .i64 k /\ Below b w wr /\ Hid (RowLow wr b k s.data.toList)) (fun i _ => s.size - (intOf i).toNat)
  case atStart => exact ⟨0, Nat.zero_le _, rfl, hb, HROW⟩
  case round =>
    obtain ⟨k, hk, rfl, bw, HR⟩ := hrel
    by_cases hlt : k < s.size
    · have hlt2 : (k : Int) < s.size := by omega
      have hkl : k < s.data.toList.length := by rw [<- HSL.out]; exact hlt
      have hc0 := HR.out k hkl
      have hcell : wr.cell? ⟨b, k, none⟩ = some (.int .u8 ((s.data.toList[k]).toNat : Int)) := by
        rw [hc0.1]; unfold midB; rw [if_neg (by omega)]
      have hfz := hc0.2
      have HQ := hide (HG.out (s.data.toList[k]).toNat)
      cases hg : greatN (s.data.toList[k]).toNat
      · have HR2 := hide (HR.out.skip hkl hg)
        rw [hg] at HQ
        clear hc0 hg HR
        generalize (s.data.toList[k]).toNat = N at *
        go_wp2_with fail
        refine (HQ.out _).mono ?_
        rintro e w1 ⟨rfl, rfl⟩
        go_wp2
        go_roundw
        case rel => exact ⟨k + 1, by omega, by go_num, bw, HR2⟩
        case measure => simp [intOf]; omega
      · obtain ⟨g1, g2, g3⟩ := plow_great _ hg
        have HR2 := hide (fun z hz => HR.out.put hkl z hz)
        have HZ := hide g3
        rw [hg] at HQ
        clear hc0 hg HR g3
        generalize (low s.data.toList[k]).toNat = M at *
        generalize (s.data.toList[k]).toNat = N at *
        go_wp2_with fail
        refine (HQ.out _).mono ?_
        rintro e w1 ⟨rfl, rfl⟩
        go_wp2
        go_roundw
        case rel => exact ⟨k + 1, by omega, by go_num, bw.setCell (Nat.le_refl _) _, HR2.out _ (by rw [HZ.out]; omega)⟩
        case measure => simp [intOf]; omega
    · have hlt2 : ¬ (k : Int) < s.size := by omega
      obtain rfl : k = s.size := by omega
      have hcv := HCV.out wr HR.out cap
      clear HR hlt
      go_wp2
      go_ret
      exact ⟨rfl, bw⟩
end Go.Proofs.YtfohijnkeefcfaaGreatDoor.S4
