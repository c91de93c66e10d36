/- What SchemeGreat answers: true; nothing that was there is written. -/
import Derived.Test.YtiieoejnpjdbeaaLd10
set_option linter.unusedVariables false
set_option linter.unusedSimpArgs false
namespace Go.Proofs.Ytiieoejnpjdbeaa
open Go.RowKit

/-- Behind k rounds: a byte ahead of k is the great one. -/
def midU (k j : Nat) (c : UInt8) : UInt8 := if j < k then up c else c
/-- The row at this block holds the text's bytes, those ahead of k as great ones. -/
def RowUp (W : World) (b k : Nat) (l : List UInt8) : Prop := ∀ j (hj : j < l.length), W.cell? ⟨b, j, none⟩ = some (.int .u8 ((midU k j l[j]).toNat : Int)) ∧ W.frozen? ⟨b, j, none⟩ = false
theorem RowLow.up {W : World} {b : Nat} {l : List UInt8} (h : RowLow W b 0 l) : RowUp W b 0 l := by
  intro j hj
  have := h j hj
  unfold midB at this
  unfold midU
  rw [if_neg (by omega)] at this ⊢
  exact this
theorem RowUp.skip {W : World} {b k : Nat} {l : List UInt8} (h : RowUp W b k l) (hk : k < l.length) (hg : smallN l[k].toNat = false) : RowUp W b (k + 1) l := by
  intro j hj
  rw [(h j hj).1]
  refine ⟨?_, (h j hj).2⟩
  by_cases e : j = k
  · subst e
    unfold midU
    rw [if_neg (by omega), if_pos (by omega)]
    have : Go.Proofs.Ytiieoejnpjdbeaa.up l[j] = l[j] := by
      unfold Go.Proofs.Ytiieoejnpjdbeaa.up
      rw [hg]; rfl
    rw [this]
  · unfold midU
    by_cases h2 : j < k
    · rw [if_pos h2, if_pos (by omega)]
    · rw [if_neg h2, if_neg (by omega)]
theorem RowUp.put {W : World} {b k : Nat} {l : List UInt8} (h : RowUp W b k l) (hk : k < l.length) (z : Int) (hz : z = (Go.Proofs.Ytiieoejnpjdbeaa.up l[k]).toNat) : RowUp (W.setCell ⟨b, k, none⟩ (.int .u8 z)) b (k + 1) l := by
  intro j hj
  rw [World.frozen?_setCell]
  refine ⟨?_, (h j hj).2⟩
  by_cases e : j = k
  · subst e
    rw [World.cell?_setCell_same W _ _ (h j hj).1]
    unfold midU
    rw [if_pos (by omega), hz]
  · rw [World.cell?_setCell_other W _ _ _ (by intro he; injection he; omega), (h j hj).1]
    unfold midU
    by_cases h2 : j < k
    · rw [if_pos h2, if_pos (by omega)]
    · rw [if_neg h2, if_neg (by omega)]
theorem RowUp.conv {V W : World} {b : Nat} {s : ByteArray} (h : RowUp V b s.size s.data.toList) (hb : Below V.heap.size V W) (cap : Nat) :
    (convert 28 9 (.slice (some ⟨b, 0, none⟩) s.size cap)).run Try.prog W = .ok (.string ⟨(s.data.toList.map Go.Proofs.Ytiieoejnpjdbeaa.up).toArray⟩) W := by
  have e : s.size = (s.data.toList.map Go.Proofs.Ytiieoejnpjdbeaa.up).length := by rw [List.length_map, size_list]
  have h2 := conv_bytes W ⟨b, 0, none⟩ cap (s.data.toList.map Go.Proofs.Ytiieoejnpjdbeaa.up) (by
    intro j hj
    have hj2 : j < s.data.toList.length := by rw [List.length_map] at hj; exact hj
    rw [addr_add, hb.cell (cell_lt (h j hj2).1), (h j hj2).1]
    unfold midU
    rw [if_pos (by rw [size_list]; exact hj2), List.getElem_map])
  rw [← e] at h2
  exact h2
set_option maxHeartbeats 1000000 in
theorem schemeGreat_walk (s : ByteArray) (w : World) :
    Calls Try.prog 7 #[.string s] w fun e w' => e = .returned (.bool true) ∧ Below w.heap.size w w' := by
  have H1 := hide alive_any
  by_cases hs : 200 < s.size
  · have hs2 : (200 : Int) < s.size := by omega
    clear hs
    go_enter Try.func7, Try.ntmps7
    go_wp2_with fail
    refine (H1.out _).mono ?_
    rintro e w1 ⟨rfl, b1⟩
    go_wp2
    go_ret
    exact ⟨rfl, b1⟩
  have hs2 : ¬ (200 : Int) < s.size := by omega
  have h2 := of_any s (by omega)
  have e3 : (⟨(s.data.toList.map up).toArray⟩ : ByteArray).data.toList = s.data.toList.map up := str_data _
  have h3 := of_any ⟨(s.data.toList.map up).toArray⟩ (by rw [size_list, e3, List.length_map, ← size_list]; omega)
  rw [e3, of_up] at h3
  obtain ⟨T, B, ho, hT⟩ := opt_pair (ofL s.data.toList)
  rw [ho] at h2 h3
  have H2 := hide (of_pair h2 hT)
  have H3 := hide (of_pair h3 hT)
  have hcv := fun V W (h : RowUp V w.heap.size s.size s.data.toList) (hb : Below V.heap.size V W) cap => h.conv hb cap
  have HCV := hide hcv
  clear hs h2 h3 ho hT hcv e3
  generalize (⟨T.toArray⟩ : ByteArray) = x at *
  generalize (⟨(s.data.toList.map up).toArray⟩ : ByteArray) = y at *
  obtain ⟨cap, W0, hr, hrow, hb⟩ := conv_string w s
  have HROW := hide hrow.up
  have HSL := hide (size_list s)
  clear hrow
  generalize hB : w.heap.size = b at *
  go_enter Try.func7, Try.ntmps7
  go_wp2
  go_loopw [4] (fun i wr => ∃ k : Nat, k ≤ s.size ∧ i = .int .i64 k ∧ Below b w wr ∧ Hid (RowUp wr b k s.data.toList)) (fun i _ => s.size - (intOf i).toNat)
  case atStart => exact ⟨0, Nat.zero_le _, rfl, hb, HROW⟩
  case round =>
    obtain ⟨k, hk, rfl, bw, HR⟩ := hrel
    by_cases hlt : k < s.size
    · have hlt2 : (k : Int) < s.size := by omega
      have hkl : k < s.data.toList.length := by rw [← HSL.out]; exact hlt
      have hc0 := HR.out k hkl
      have hcell : wr.cell? ⟨b, k, none⟩ = some (.int .u8 ((s.data.toList[k]).toNat : Int)) := by
        rw [hc0.1]; unfold midU; rw [if_neg (by omega)]
      have hfz := hc0.2
      cases hg : smallN (s.data.toList[k]).toNat
      · have HR2 := hide (HR.out.skip hkl hg)
        clear hc0 HR
        generalize (s.data.toList[k]).toNat = N at *
        simp [smallN] at hg
        by_cases h97 : (97 : Int) ≤ N
        · have h122 : ¬ (N : Int) ≤ 122 := by omega
          clear hg
          go_wp2
          go_roundw
          case rel => exact ⟨k + 1, by omega, by go_num, bw, HR2⟩
          case measure => simp [intOf]; omega
        · clear hg
          go_wp2
          go_roundw
          case rel => exact ⟨k + 1, by omega, by go_num, bw, HR2⟩
          case measure => simp [intOf]; omega
      · have HR2 := hide (fun z hz => HR.out.put hkl z hz)
        have HZ := hide (up_nat s.data.toList[k])
        rw [hg] at HZ
        clear hc0 HR
        generalize (up s.data.toList[k]).toNat = M at *
        generalize (s.data.toList[k]).toNat = N at *
        simp [smallN] at hg
        have h97 : (97 : Int) ≤ N := by omega
        have h122 : (N : Int) ≤ 122 := by omega
        clear hg
        go_wp2
        go_roundw
        case rel => exact ⟨k + 1, by omega, by go_num, bw.setCell (Nat.le_refl _) _, HR2.out _ (by rw [HZ.out]; simp; omega)⟩
        case measure => simp [intOf]; omega
    · have hlt2 : ¬ (k : Int) < s.size := by omega
      obtain rfl : k = s.size := by omega
      clear hlt
      go_wp2_with fail
      refine (H2.out _).mono ?_
      rintro e w2 ⟨rfl, b2⟩
      have hcv := HCV.out wr w2 HR.out b2 cap
      have c2 := bw.trans (b2.mono (hB ▸ bw.size))
      clear HR HCV
      go_wp2_with fail
      refine (H3.out _).mono ?_
      rintro e w3 ⟨rfl, b3⟩
      have c3 := c2.trans (b3.mono (hB ▸ c2.size))
      go_wp2_with fail
      refine (H1.out _).mono ?_
      rintro e w4 ⟨rfl, b4⟩
      have c4 := c3.trans (b4.mono (hB ▸ c3.size))
      go_wp2
      go_ret
      exact ⟨by simp, c4⟩
end Go.Proofs.Ytiieoejnpjdbeaa
