/- What TokenRaw answers: true; nothing that was there is written. -/
import Derived.Test.YtlfjmgniflkapabDoorLawH
import Derived.Test.YtlfjmgniflkapabDoorSameP
import Derived.Test.YtlfjmgniflkapabDoorFew
set_option linter.unusedVariables false
set_option linter.unusedSimpArgs false
namespace Go.Proofs.YtlfjmgniflkapabDoor
open Go.RowKit

theorem has_stroke : ∀ l : List UInt8, hasL [47] l = l.contains 47
  | [] => rfl
  | c :: r => by
    simp only [hasL]
    rw [has_stroke r, List.contains_cons]
    congr 1
    simp [List.isPrefixOf]
theorem raw_list (x n r : ByteArray) : ((((x ++ (⟨#[60, 47]⟩ : ByteArray)) ++ n) ++ ⟨#[62]⟩) ++ r).data.toList = x.data.toList ++ 60 :: 47 :: (n.data.toList ++ 62 :: r.data.toList) := by
  rw [str_app _ _ _ _ (str_app _ _ _ _ (str_app _ _ _ _ (str_app _ _ x.data.toList [60, 47] rfl rfl) (rfl : n.data.toList = n.data.toList)) (rfl : (⟨#[62]⟩ : ByteArray).data.toList = [62])) rfl]
  simp

set_option maxHeartbeats 4000000 in
theorem raw_walk (x n r : ByteArray) (w : World) (he : Env w) (hnn : n.size ≤ 9223372036854775807) :
    Calls Tryd.prog 3 #[.string x, .string n, .string r] w fun e w' => e = .returned (.bool true) ∧ Below w.heap.size w w' := by
  have H1 := hide alive_any
  have HE := hide he
  clear he
  by_cases hx : 200 < x.size
  · have hx2 : (200 : Int) < x.size := by omega
    go_enter Tryd.func3, Tryd.ntmps3
    go_wp2_with fail
    refine (H1.out _ HE.out).mono ?_
    rintro e w1 ⟨rfl, b1⟩
    go_wp2
    go_ret
    exact ⟨rfl, b1⟩
  have hx2 : ¬ (200 : Int) < x.size := by omega
  by_cases hr : 200 < r.size
  · have hr2 : (200 : Int) < r.size := by omega
    go_enter Tryd.func3, Tryd.ntmps3
    go_wp2_with fail
    refine (H1.out _ HE.out).mono ?_
    rintro e w1 ⟨rfl, b1⟩
    go_wp2
    go_ret
    exact ⟨rfl, b1⟩
  have hr2 : ¬ (200 : Int) < r.size := by omega
  have HSM := hide (small_any n hnn)
  have HHA := hide (lhas_any x ⟨#[47]⟩ (by omega) (by decide) (by decide))
  rw [show (⟨#[47]⟩ : ByteArray).data.toList = [47] from rfl] at HHA
  cases hsm : smallL n.data.toList with
  | false =>
    rw [hsm] at HSM
    clear hsm HHA
    go_enter Tryd.func3, Tryd.ntmps3
    go_wp2_with fail
    refine (HSM.out _).mono ?_
    rintro e w1 ⟨rfl, rfl⟩
    go_wp2_with fail
    refine (H1.out _ HE.out).mono ?_
    rintro e w1 ⟨rfl, b1⟩
    go_wp2
    go_ret
    exact ⟨rfl, b1⟩
  | true =>
    rw [hsm] at HSM
    cases hha : hasL [47] x.data.toList with
    | true =>
      rw [hha] at HHA
      clear hsm hha
      go_enter Tryd.func3, Tryd.ntmps3
      go_wp2_with fail
      refine (HSM.out _).mono ?_
      rintro e w1 ⟨rfl, rfl⟩
      go_wp2_with fail
      refine (HHA.out _).mono ?_
      rintro e w1 ⟨rfl, rfl⟩
      go_wp2_with fail
      refine (H1.out _ HE.out).mono ?_
      rintro e w1 ⟨rfl, b1⟩
      go_wp2
      go_ret
      exact ⟨rfl, b1⟩
    | false =>
      rw [hha] at HHA
      by_cases h0 : x.size = 0
      · have hem : x.toList.isEmpty = true := by
          have hd : x.data.toList = [] := List.eq_nil_of_length_eq_zero (by rw [← size_list]; exact h0)
          rw [Lib.toList_data, hd]; rfl
        clear hsm hha
        go_enter Tryd.func3, Tryd.ntmps3
        go_wp2_with fail
        refine (HSM.out _).mono ?_
        rintro e w1 ⟨rfl, rfl⟩
        go_wp2_with fail
        refine (HHA.out _).mono ?_
        rintro e w1 ⟨rfl, rfl⟩
        go_wp2_with fail
        refine (H1.out _ HE.out).mono ?_
        rintro e w1 ⟨rfl, b1⟩
        go_wp2
        go_ret
        exact ⟨rfl, b1⟩
      · have hem : x.toList.isEmpty = false := by
          rw [Lib.toList_data]
          cases hd : x.data.toList with
          | nil => rw [size_list, hd] at h0; exact absurd rfl h0
          | cons c q => rfl
        have hxne : x.data.toList ≠ [] := fun e => h0 (by rw [size_list, e]; rfl)
        have hco : x.data.toList.contains 47 = false := by rw [← has_stroke]; exact hha
        have hal : n.data.toList.all smallC = true := by
          unfold smallL at hsm
          rw [Bool.and_eq_true] at hsm
          exact hsm.1
        have hnl : n.size ≤ 20 := by
          unfold smallL at hsm
          rw [Bool.and_eq_true, Bool.and_eq_true] at hsm
          rw [size_list]
          exact of_decide_eq_true hsm.2.2
        have hlist := raw_list x n r
        have hsz : ((((x ++ (⟨#[60, 47]⟩ : ByteArray)) ++ n) ++ ⟨#[62]⟩) ++ r).size = x.size + n.size + 3 + r.size := by
          rw [size_list, hlist, size_list x, size_list n, size_list r]
          simp
          omega
        have hd0 : (x.data.toList ++ 60 :: 47 :: (n.data.toList ++ 62 :: r.data.toList)).drop x.size = 60 :: 47 :: (n.data.toList ++ 62 :: r.data.toList) := by
          rw [size_list, List.drop_left]
        have hA := next_plainT _ n (by rw [hsz]; omega) (by omega) 0 (by rw [hsz]; omega) 2 false 1 ⟨#[]⟩ x (60 :: 47 :: (n.data.toList ++ 62 :: r.data.toList)) (by
          rw [List.drop_zero, hlist]
          exact raw_text x.data.toList n.data.toList r.data.toList hxne hco)
        have hBB := next_plainT _ n (by rw [hsz]; omega) (by omega) x.size (by rw [hsz]; omega) 2 false 3 n ⟨#[]⟩ r.data.toList (by
          rw [hlist, hd0]
          exact raw_stop n.data.toList r.data.toList hal)
        have hCC := next_plainT _ n (by rw [hsz]; omega) (by omega) 0 (by rw [hsz]; omega) 3 false 1 ⟨#[]⟩ ((((x ++ (⟨#[60, 47]⟩ : ByteArray)) ++ n) ++ ⟨#[62]⟩) ++ r) [] (by
          rw [List.drop_zero]
          exact mode_plain n.data.toList _ (by rw [hlist]; simp))
        have hDD := fun w he => pnext_in ((((x ++ (⟨#[60, 47]⟩ : ByteArray)) ++ n) ++ ⟨#[62]⟩) ++ r) n (by rw [hsz]; omega) (by omega) 0 (by rw [hsz]; omega) 77 false w he
        have hEE := fun w he => pnext_in ((((x ++ (⟨#[60, 47]⟩ : ByteArray)) ++ n) ++ ⟨#[62]⟩) ++ r) ⟨#[]⟩ (by rw [hsz]; omega) (by decide) 0 (by rw [hsz]; omega) 0 false w he
        rw [mode_none] at hDD
        rw [show (⟨#[]⟩ : ByteArray).data.toList = [] from rfl] at hEE
        have hfw := nextR_few 0 [] false (((((x ++ (⟨#[60, 47]⟩ : ByteArray)) ++ n) ++ ⟨#[62]⟩) ++ r).data.toList.drop 0)
        rw [List.length_drop, ← size_list] at hfw
        have hv1 : ((((x ++ (⟨#[60, 47]⟩ : ByteArray)) ++ n) ++ ⟨#[62]⟩) ++ r).size - (60 :: 47 :: (n.data.toList ++ 62 :: r.data.toList) : List UInt8).length = x.size := by
          rw [hsz, size_list n, size_list r]
          simp
          omega
        have hv2 : ((((x ++ (⟨#[60, 47]⟩ : ByteArray)) ++ n) ++ ⟨#[62]⟩) ++ r).size - r.data.toList.length = x.size + n.size + 3 := by
          rw [hsz, size_list r]
          omega
        rw [hv1] at hA
        rw [hv2] at hBB
        generalize nextR 0 [] false (((((x ++ (⟨#[60, 47]⟩ : ByteArray)) ++ n) ++ ⟨#[62]⟩) ++ r).data.toList.drop 0) = R at *
        have HSS := hide (fun va vb w hA hB => same_self R.1 va vb (by omega) w hA hB)
        unfold tokV at HSS
        have HA := hide hA
        have HBB := hide hBB
        have HCC := hide hCC
        have HDD := hide hDD
        have HEE := hide hEE
        have HSZ := hide hsz
        clear hA hBB hCC hDD hEE hlist hsz hd0 hv1 hv2 hfw hxne hco hal hsm hha h0
        go_enter Tryd.func3, Tryd.ntmps3
        go_wp2_with fail
        refine (HSM.out _).mono ?_
        rintro e w1 ⟨rfl, rfl⟩
        go_wp2_with fail
        refine (HHA.out _).mono ?_
        rintro e w1 ⟨rfl, rfl⟩
        go_wp2_with fail
        refine (HA.out _ HE.out).mono ?_
        rintro e w1 ⟨⟨sv, hA, rfl⟩, b1⟩
        obtain ⟨sa1, sc1, rfl⟩ := isA_form hA
        have bA := below_alloc w1 (.cells #[.int .i64 1, .string ⟨#[]⟩, .slice sa1 0 sc1, .bool false, .string x] 28)
        have K1 := hide (Kept.new w1 [.int .i64 1, .string ⟨#[]⟩, .slice sa1 0 sc1, .bool false, .string x] 28)
        have A1 := hide (hA.below bA)
        have B1 := hide (b1.trans (bA.mono b1.size))
        have E1 := hide ((HE.out.below b1).below bA)
        clear hA b1 bA HA
        go_wp2_with fail
        refine (HBB.out _ E1.out).mono ?_
        rintro e w2 ⟨⟨sv, hA, rfl⟩, b1⟩
        obtain ⟨sa2, sc2, rfl⟩ := isA_form hA
        have bA := below_alloc w2 (.cells #[.int .i64 3, .string n, .slice sa2 0 sc2, .bool false, .string ⟨#[]⟩] 28)
        have K2 := hide (Kept.new w2 [.int .i64 3, .string n, .slice sa2 0 sc2, .bool false, .string ⟨#[]⟩] 28)
        have A2 := hide (hA.below bA)
        have K1n := hide ((K1.out.below b1).below bA)
        have A1n := hide ((A1.out.below b1).below bA)
        clear K1 A1
        have K1 := K1n
        have A1 := A1n
        clear K1n A1n
        have B2 := hide ((B1.out.trans (b1.mono B1.out.size)).trans (bA.mono (B1.out.trans (b1.mono B1.out.size)).size))
        have z2 : w1.heap.size < w2.heap.size := by have := b1.size; simp at this; omega
        have E2 := hide ((E1.out.below b1).below bA)
        clear hA b1 bA HBB B1 E1
        go_wp2_with fail
        refine (HCC.out _ E2.out).mono ?_
        rintro e w3 ⟨⟨sv, hA, rfl⟩, b1⟩
        obtain ⟨sa3, sc3, rfl⟩ := isA_form hA
        have bA := below_alloc w3 (.cells #[.int .i64 1, .string ⟨#[]⟩, .slice sa3 0 sc3, .bool false, .string ((((x ++ (⟨#[60, 47]⟩ : ByteArray)) ++ n) ++ ⟨#[62]⟩) ++ r)] 28)
        have K3 := hide (Kept.new w3 [.int .i64 1, .string ⟨#[]⟩, .slice sa3 0 sc3, .bool false, .string ((((x ++ (⟨#[60, 47]⟩ : ByteArray)) ++ n) ++ ⟨#[62]⟩) ++ r)] 28)
        have A3 := hide (hA.below bA)
        have K1n := hide ((K1.out.below b1).below bA)
        have A1n := hide ((A1.out.below b1).below bA)
        clear K1 A1
        have K1 := K1n
        have A1 := A1n
        clear K1n A1n
        have K2n := hide ((K2.out.below b1).below bA)
        have A2n := hide ((A2.out.below b1).below bA)
        clear K2 A2
        have K2 := K2n
        have A2 := A2n
        clear K2n A2n
        have B3 := hide ((B2.out.trans (b1.mono B2.out.size)).trans (bA.mono (B2.out.trans (b1.mono B2.out.size)).size))
        have z3 : w2.heap.size < w3.heap.size := by have := b1.size; simp at this; omega
        have E3 := hide ((E2.out.below b1).below bA)
        clear hA b1 bA HCC B2 E2
        go_wp2_with fail
        refine (HDD.out _ E3.out).mono ?_
        rintro e w4 ⟨⟨sv, hA, hob, rfl⟩, b1⟩
        unfold tokV
        obtain ⟨sa4, sc4, rfl⟩ := isA_form hA
        have bA := below_alloc w4 (.cells #[.int .i64 (R.1.kind : Int), .string ⟨R.1.name.toArray⟩, .slice sa4 R.1.attrs.length sc4, .bool R.1.closed, .string ⟨R.1.text.toArray⟩] 28)
        have K4 := hide (Kept.new w4 [.int .i64 (R.1.kind : Int), .string ⟨R.1.name.toArray⟩, .slice sa4 R.1.attrs.length sc4, .bool R.1.closed, .string ⟨R.1.text.toArray⟩] 28)
        have A4 := hide (hA.below bA)
        have K1n := hide ((K1.out.below b1).below bA)
        have A1n := hide ((A1.out.below b1).below bA)
        clear K1 A1
        have K1 := K1n
        have A1 := A1n
        clear K1n A1n
        have K2n := hide ((K2.out.below b1).below bA)
        have A2n := hide ((A2.out.below b1).below bA)
        clear K2 A2
        have K2 := K2n
        have A2 := A2n
        clear K2n A2n
        have K3n := hide ((K3.out.below b1).below bA)
        have A3n := hide ((A3.out.below b1).below bA)
        clear K3 A3
        have K3 := K3n
        have A3 := A3n
        clear K3n A3n
        have B4 := hide ((B3.out.trans (b1.mono B3.out.size)).trans (bA.mono (B3.out.trans (b1.mono B3.out.size)).size))
        have z4 : w3.heap.size < w4.heap.size := by have := b1.size; simp at this; omega
        have E4 := hide ((E3.out.below b1).below bA)
        clear hA hob b1 bA HDD B3 E3
        go_wp2_with fail
        refine (HEE.out _ E4.out).mono ?_
        rintro e w5 ⟨⟨sv, hA, hob, rfl⟩, b1⟩
        unfold tokV
        obtain ⟨sa5, sc5, rfl⟩ := isA_form hA
        have bA := below_alloc w5 (.cells #[.int .i64 (R.1.kind : Int), .string ⟨R.1.name.toArray⟩, .slice sa5 R.1.attrs.length sc5, .bool R.1.closed, .string ⟨R.1.text.toArray⟩] 28)
        have K5 := hide (Kept.new w5 [.int .i64 (R.1.kind : Int), .string ⟨R.1.name.toArray⟩, .slice sa5 R.1.attrs.length sc5, .bool R.1.closed, .string ⟨R.1.text.toArray⟩] 28)
        have A5 := hide (hA.below bA)
        have d0 : w5.cell? ⟨w4.heap.size, 0, none⟩ = some (.int .i64 (R.1.kind : Int)) := (K4.out.below b1).1 0
        have d1 : w5.cell? ⟨w4.heap.size, 1, none⟩ = some (.string ⟨R.1.name.toArray⟩) := (K4.out.below b1).1 1
        have d2 : w5.cell? ⟨w4.heap.size, 2, none⟩ = some (.slice sa4 R.1.attrs.length sc4) := (K4.out.below b1).1 2
        have d3 : w5.cell? ⟨w4.heap.size, 3, none⟩ = some (.bool R.1.closed) := (K4.out.below b1).1 3
        have d4 : w5.cell? ⟨w4.heap.size, 4, none⟩ = some (.string ⟨R.1.text.toArray⟩) := (K4.out.below b1).1 4
        have K1n := hide ((K1.out.below b1).below bA)
        have A1n := hide ((A1.out.below b1).below bA)
        clear K1 A1
        have K1 := K1n
        have A1 := A1n
        clear K1n A1n
        have K2n := hide ((K2.out.below b1).below bA)
        have A2n := hide ((A2.out.below b1).below bA)
        clear K2 A2
        have K2 := K2n
        have A2 := A2n
        clear K2n A2n
        have K3n := hide ((K3.out.below b1).below bA)
        have A3n := hide ((A3.out.below b1).below bA)
        clear K3 A3
        have K3 := K3n
        have A3 := A3n
        clear K3n A3n
        have K4n := hide ((K4.out.below b1).below bA)
        have A4n := hide ((A4.out.below b1).below bA)
        clear K4 A4
        have K4 := K4n
        have A4 := A4n
        clear K4n A4n
        have B5 := hide ((B4.out.trans (b1.mono B4.out.size)).trans (bA.mono (B4.out.trans (b1.mono B4.out.size)).size))
        have z5 : w4.heap.size < w5.heap.size := by have := b1.size; simp at this; omega
        have E5 := hide ((E4.out.below b1).below bA)
        clear hA hob b1 bA HEE B4 E4
        go_wp2_with fail
        refine (HSS.out _ _ _ A4.out A5.out).mono ?_
        rintro e w6 ⟨rfl, b6⟩
        clear d0 d1 d2 d3 d4 HSS A4 A5 K4 K5
        have K1n := hide (K1.out.below b6)
        have A1n := hide (A1.out.below b6)
        clear K1 A1
        have K1 := K1n
        have A1 := A1n
        clear K1n A1n
        have K2n := hide (K2.out.below b6)
        have A2n := hide (A2.out.below b6)
        clear K2 A2
        have K2 := K2n
        have A2 := A2n
        clear K2n A2n
        have K3n := hide (K3.out.below b6)
        have A3n := hide (A3.out.below b6)
        clear K3 A3
        have K3 := K3n
        have A3 := A3n
        clear K3n A3n
        have B6 := hide (B5.out.trans (b6.mono B5.out.size))
        have E6 := hide (E5.out.below b6)
        clear b6 B5 E5
        go_wp2_with fail
        refine (H1.out _ E6.out).mono ?_
        rintro e w7 ⟨rfl, b7⟩
        have K1n := hide (K1.out.below b7)
        have A1n := hide (A1.out.below b7)
        clear K1 A1
        have K1 := K1n
        have A1 := A1n
        clear K1n A1n
        have K2n := hide (K2.out.below b7)
        have A2n := hide (A2.out.below b7)
        clear K2 A2
        have K2 := K2n
        have A2 := A2n
        clear K2n A2n
        have K3n := hide (K3.out.below b7)
        have A3n := hide (A3.out.below b7)
        clear K3 A3
        have K3 := K3n
        have A3 := A3n
        clear K3n A3n
        have B7 := hide (B6.out.trans (b7.mono B6.out.size))
        clear b7 B6 E6
        generalize w1.heap.size = G1 at *
        generalize w2.heap.size = G2 at *
        generalize w3.heap.size = G3 at *
        have a0 : w7.cell? ⟨G1, 0, none⟩ = some (.int .i64 1) := K1.out.1 0
        have a1 : w7.cell? ⟨G1, 1, none⟩ = some (.string ⟨#[]⟩) := K1.out.1 1
        have a2 : w7.cell? ⟨G1, 2, none⟩ = some (.slice sa1 0 sc1) := K1.out.1 2
        have a3 : w7.cell? ⟨G1, 3, none⟩ = some (.bool false) := K1.out.1 3
        have a4 : w7.cell? ⟨G1, 4, none⟩ = some (.string x) := K1.out.1 4
        go_wp2_with fail
        refine (same_plain 1 ⟨#[]⟩ x false (.slice sa1 0 sc1) (.slice none 0 0) w7 A1.out (.inl ⟨rfl, rfl⟩)).mono ?_
        rintro e w8 ⟨rfl, b8⟩
        clear a0 a1 a2 a3 a4 A1 K1
        have K2n := hide (K2.out.below b8)
        have A2n := hide (A2.out.below b8)
        clear K2 A2
        have K2 := K2n
        have A2 := A2n
        clear K2n A2n
        have K3n := hide (K3.out.below b8)
        have A3n := hide (A3.out.below b8)
        clear K3 A3
        have K3 := K3n
        have A3 := A3n
        clear K3n A3n
        have B8 := hide (B7.out.trans (b8.mono B7.out.size))
        clear b8 B7
        have a0 : w8.cell? ⟨G2, 0, none⟩ = some (.int .i64 3) := K2.out.1 0
        have a1 : w8.cell? ⟨G2, 1, none⟩ = some (.string n) := K2.out.1 1
        have a2 : w8.cell? ⟨G2, 2, none⟩ = some (.slice sa2 0 sc2) := K2.out.1 2
        have a3 : w8.cell? ⟨G2, 3, none⟩ = some (.bool false) := K2.out.1 3
        have a4 : w8.cell? ⟨G2, 4, none⟩ = some (.string ⟨#[]⟩) := K2.out.1 4
        go_wp2_with fail
        refine (same_plain 3 n ⟨#[]⟩ false (.slice sa2 0 sc2) (.slice none 0 0) w8 A2.out (.inl ⟨rfl, rfl⟩)).mono ?_
        rintro e w9 ⟨rfl, b9⟩
        clear a0 a1 a2 a3 a4 A2 K2
        have K3n := hide (K3.out.below b9)
        have B9 := hide (B8.out.trans (b9.mono B8.out.size))
        clear b9 B8 K3
        have a0 : w9.cell? ⟨G3, 0, none⟩ = some (.int .i64 1) := K3n.out.1 0
        have a4 : w9.cell? ⟨G3, 4, none⟩ = some (.string ((((x ++ (⟨#[60, 47]⟩ : ByteArray)) ++ n) ++ ⟨#[62]⟩) ++ r)) := K3n.out.1 4
        go_wp2
        go_ret
        exact ⟨rfl, B9.out⟩
end Go.Proofs.YtlfjmgniflkapabDoor
