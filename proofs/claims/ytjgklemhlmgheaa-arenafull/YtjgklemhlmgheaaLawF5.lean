/- ArenaFull's walk. -/
import Derived.Test.YtjgklemhlmgheaaAl5
set_option linter.unusedVariables false
set_option linter.unusedSimpArgs false
namespace Go.Proofs.Ytjgklemhlmgheaa
open Go.RowKit

def fullT (d : ND) : Nat → TR
  | 0 => newL
  | k + 1 => pushL (fullT d k) d
theorem fullT_len (d : ND) : ∀ k, (fullT d k).length = k + 1
  | 0 => rfl
  | k + 1 => by
    show (fullT d k ++ [(d, [])]).length = _
    rw [List.length_append, fullT_len d k]
    rfl
theorem fullT_wf (d : ND) : ∀ k, WF (fullT d k)
  | 0 => WF.new
  | k + 1 => (fullT_wf d k).push d
theorem fullT_kids (d : ND) : ∀ k i, kidsAt (fullT d k) i = []
  | 0, i => by
    cases i with
    | zero => rfl
    | succ i => rfl
  | k + 1, i => by
    show kidsAt (pushL (fullT d k) d) i = []
    rw [kids_push, fullT_kids d k]
theorem node_push (T : TR) (d : ND) (i : Nat) : nodeAt (pushL T d) i = if i < T.length then nodeAt T i else if i = T.length then d else {} := by
  unfold nodeAt pushL
  by_cases h : i < T.length
  · rw [if_pos h, List.getElem?_append_left h]
  · rw [if_neg h, List.getElem?_append_right (by omega)]
    by_cases h2 : i = T.length
    · rw [if_pos h2, h2, Nat.sub_self]
      rfl
    · rw [if_neg h2, List.getElem?_eq_none (by simp; omega)]
      rfl
theorem fullT_node0 (d : ND) : ∀ k, nodeAt (fullT d k) 0 = {}
  | 0 => rfl
  | k + 1 => by
    show nodeAt (pushL (fullT d k) d) 0 = {}
    rw [node_push, if_pos (by rw [fullT_len]; omega), fullT_node0 d k]
theorem fullT_attrs (d : ND) (hd : d.attrs = []) : ∀ k i, (nodeAt (fullT d k) i).attrs = []
  | 0, i => by
    cases i with
    | zero => rfl
    | succ i => rfl
  | k + 1, i => by
    show (nodeAt (pushL (fullT d k) d) i).attrs = []
    rw [node_push]
    split
    · exact fullT_attrs d hd k i
    · split
      · exact hd
      · rfl
theorem fullT_make (d : ND) (k : Nat) (hk : k < 1999) : makeL (fullT d k) d = (fullT d (k + 1), ((k + 1 : Nat) : Int)) := by
  unfold makeL
  rw [fullT_len, if_pos (by omega)]
  rfl
theorem full_make (d e : ND) : makeL (fullT d 1999) e = (fullT d 1999, -1) := by
  unfold makeL
  rw [fullT_len, if_neg (by omega)]
theorem full_copy (d : ND) (z : Int) : copyL (fullT d 1999) z = (fullT d 1999, -1) := by
  unfold copyL
  split
  · exact full_make _ _
  · rfl
theorem full_append (d : ND) : (appendZ (fullT d 1999) 0 1999).2 = 0 := by
  unfold appendZ
  have hl := fullT_len d 1999
  have h1 : inT (fullT d 1999) 0 ∧ inT (fullT d 1999) 1999 := by unfold inT; omega
  rw [if_pos h1]
  have h2 : holdsL (fullT d 1999) (0 : Int).toNat = true := by
    show holdsL (fullT d 1999) 0 = true
    unfold holdsL
    rw [fullT_node0]
    rfl
  have h3 : withinL (fullT d 1999) (0 : Int).toNat (1999 : Int).toNat = false := by
    show withinL (fullT d 1999) 0 1999 = false
    rw [within_on (fullT_wf d 1999) (by omega) (by omega), no_parent (fun i => by rw [fullT_kids]; simp)]
  rw [h2, h3]
  rfl
set_option maxRecDepth 10000 in
set_option maxHeartbeats 4000000 in
theorem full_walk (s : ByteArray) (n : Int) (w : World) : Calls Try.prog 7 #[.string s, .int .i64 n] w fun e w' => e = .returned (.bool true) ∧ Below w.heap.size w w' := by
  have HN := hide (liv_new w)
  have HAL := hide alive_p
  by_cases hs : s.size ≤ 20
  · have hsi : ¬ (20 : Int) < s.size := by omega
    have hsi2 : (s.size : Int) ≤ 20 := by omega
    generalize hd : ({ kind := 2, text := s.data.toList } : ND) = d
    have hda : d.attrs = [] := by rw [← hd]
    have HT := hide (fun k W pb (h : Liv w.heap.size w W pb (fullT d k)) (hk : k ≤ 1999) => liv_text (fullT_wf d k) (by rw [fullT_len]; omega) (by rw [fullT_len]; omega) s (by omega) h)
    rw [hd] at HT
    have HE := hide (fun W pb (h : Liv w.heap.size w W pb (fullT d 1999)) => liv_element (fullT_wf d 1999) (by rw [fullT_len]; omega) (by rw [fullT_len]; omega) 0 s h)
    have HC := hide (fun W pb (h : Liv w.heap.size w W pb (fullT d 1999)) => liv_comment (fullT_wf d 1999) (by rw [fullT_len]; omega) (by rw [fullT_len]; omega) s (by omega) h)
    have HL := hide (fun W pb (h : Liv w.heap.size w W pb (fullT d 1999)) => len_p h.own)
    have HCO := hide (fun W pb (h : Liv w.heap.size w W pb (fullT d 1999)) => liv_copy (fullT_wf d 1999) (by rw [fullT_len]; omega) (by rw [fullT_len]; omega) n (fun i => by rw [fullT_attrs d hda]; simp) h)
    have HAP := hide (fun W pb (h : Liv w.heap.size w W pb (fullT d 1999)) => liv_append (fullT_wf d 1999) (by rw [fullT_len]; omega) 0 1999 h)
    simp only [full_make] at HE HC
    rw [full_copy] at HCO
    rw [full_append] at HAP
    rw [raw_len, fullT_len] at HL
    clear hs
    go_enter Try.func7, Try.ntmps7
    go_wp2_with fail
    refine HN.out.mono ?_
    rintro e x0 ⟨pb, rfl, hL⟩
    have L0 : Hid (Liv w.heap.size w x0 pb (fullT d 0)) := hide hL
    clear hL HN
    go_wp2_with fail
    go_loopw [6] (fun vi wr => ∃ k : Nat, vi = .int .i64 (k : Int) ∧ 1 ≤ k ∧ k ≤ 2000 ∧ Hid (Liv w.heap.size w wr pb (fullT d (k - 1)))) (fun vi _ => 2000 - (intOf vi).toNat)
    case atStart => exact ⟨1, rfl, by omega, by omega, L0⟩
    case round =>
      clear L0
      obtain ⟨k, rfl, hk1, hk2, L1⟩ := hrel
      by_cases hlt : k < 2000
      · have hlt2 : (k : Int) < 2000 := by omega
        obtain ⟨j, rfl⟩ : ∃ j, k = j + 1 := ⟨k - 1, by omega⟩
        have L2 : Hid (Liv w.heap.size w wr pb (fullT d j)) := L1
        have HTJ := hide (HT.out j wr pb L2.out (by omega))
        rw [fullT_make d j (by omega)] at HTJ
        clear L1
        go_wp2_with fail
        refine HTJ.out.mono ?_
        rintro e x1 ⟨rfl, hL⟩
        have L3 : Hid (Liv w.heap.size w x1 pb (fullT d (j + 1 + 1 - 1))) := hide hL
        clear hL
        go_wp2
        go_roundw
        case rel => exact ⟨j + 1 + 1, by go_num, by omega, by omega, L3⟩
        case measure => simp [intOf]; omega
      · have hlt2 : ¬ (k : Int) < 2000 := by omega
        have hke : k = 2000 := by omega
        subst hke
        have L2 : Hid (Liv w.heap.size w wr pb (fullT d 1999)) := L1
        clear L1 hlt hlt2 hk1 hk2
        have HT9 := hide (fun W pb h => HT.out 1999 W pb h (by omega))
        rw [full_make] at HT9
        go_wp2_with fail
        refine (HAL.out _).mono ?_
        rintro e x1 ⟨rfl, b1⟩
        replace L2 := hide (L2.out.on b1)
        clear b1
        go_wp2_with fail
        refine (HT9.out _ _ L2.out).mono ?_
        rintro e x2 ⟨rfl, hL⟩
        replace L2 := hide hL
        clear hL
        go_wp2_with fail
        refine (HE.out _ _ L2.out).mono ?_
        rintro e x3 ⟨rfl, hL⟩
        replace L2 := hide hL
        clear hL
        go_wp2_with fail
        refine (HC.out _ _ L2.out).mono ?_
        rintro e x4 ⟨rfl, hL⟩
        replace L2 := hide hL
        clear hL
        go_wp2_with fail
        refine (HL.out _ _ L2.out).mono ?_
        rintro e x5 ⟨rfl, b5⟩
        replace L2 := hide (L2.out.on b5)
        clear b5
        go_wp2_with fail
        refine (HCO.out _ _ L2.out).mono ?_
        rintro e x6 ⟨rfl, hL⟩
        replace L2 := hide hL
        clear hL
        go_wp2_with fail
        refine (HAP.out _ _ L2.out).mono ?_
        rintro e x7 ⟨rfl, hL⟩
        have L9 := hide hL.bel
        clear hL
        go_wp2
        go_ret
        exact ⟨rfl, L9.out⟩
  · have hsi : (20 : Int) < s.size := by omega
    go_enter Try.func7, Try.ntmps7
    go_wp2_with fail
    refine HN.out.mono ?_
    rintro e x0 ⟨pb, rfl, hL⟩
    have L9 := hide hL.bel
    clear hL
    go_wp2
    go_ret
    exact ⟨rfl, L9.out⟩
end Go.Proofs.Ytjgklemhlmgheaa
