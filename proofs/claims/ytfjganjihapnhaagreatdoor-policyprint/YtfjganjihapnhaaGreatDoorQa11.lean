/- What the program's put does: the builder behind it. -/
import Derived.Test.YtfjganjihapnhaaGreatDoorPh11
import Derived.Test.YtfjganjihapnhaaGreatDoorShelf
import Derived.BigCall
set_option linter.unusedVariables false
set_option linter.unusedSimpArgs false
set_option maxRecDepth 4000
namespace Go.Proofs.YtfjganjihapnhaaGreatDoor
open Go.RowKit

theorem strCells_any (s : ByteArray) : Lib.strCells s = Lib.byteCells s.data.toList := by
  obtain ⟨⟨l⟩⟩ := s
  simp [Lib.strCells, Lib.byteCells]
def putL (first : Bs) (l : List Bs) : Bs := if l = [] then [] else saidL first l
def wordsP (l : List Bs) : Bs := l.flatMap fun x => 32 :: x
theorem wordsP_len (l : List Bs) (h : ∀ x ∈ l, x.length ≤ 1000000) : (wordsP l).length ≤ l.length * 1000001 := by
  induction l with
  | nil => simp [wordsP]
  | cons a t ih =>
    have h1 := h a List.mem_cons_self
    have h2 := ih (fun x hx => h x (List.mem_cons_of_mem _ hx))
    have e : wordsP (a :: t) = (32 :: a) ++ wordsP t := rfl
    rw [e, List.length_append, List.length_cons, List.length_cons]
    omega
theorem wordsP_step (l : List Bs) (k : Nat) (h : k < l.length) : wordsP (l.take (k + 1)) = wordsP (l.take k) ++ 32 :: l[k] := by
  rw [List.take_succ_eq_append_getElem h]
  unfold wordsP
  rw [List.flatMap_append, List.flatMap_singleton]
/-- What a list is while the builder is written. -/
abbrev StayL (B b : Nat) (w : World) (v : Value) (l : List Bs) : Prop := ∀ W, Below B w W → Lib.OthersKept 5 (some b) w W → IsW W v l
set_option maxHeartbeats 2000000 in
theorem put_any (B b : Nat) (acc : Bs) (first : ByteArray) (l : List Bs) (v : Value) (w : World) (hS : StayL B b w v l) (hI : Lib.IsBuilderF 56 5 B b (Lib.byteCells acc) w) (hB : B ≤ w.heap.size)
    (ha : acc.length ≤ 10000000000000) (hf : first.size ≤ 1000) (hl : l.length ≤ 2000) (hx : ∀ x ∈ l, x.length ≤ 1000000) :
    Calls Tryz.prog 34 #[.pointer (some ⟨b, 0, none⟩), .string first, v] w fun e w' => e = .returned (.tuple #[]) ∧ Lib.IsBuilderF 56 5 B b (Lib.byteCells (acc ++ putL first.data.toList l)) w' ∧ Below B w w' ∧ Lib.OthersKept 5 (some b) w w' := by
  have hb0 := Below.refl B w
  have hk0 := Lib.OthersKept.refl 5 (some b) w
  obtain ⟨a, c, rfl⟩ := (hS w hb0 hk0).form
  have HS := hide hS
  clear hS
  by_cases h0 : l = []
  · subst h0
    have HI := hide hI
    clear hI HS
    simp only [List.length_nil]
    go_enter Tryz.func34, Tryz.ntmps34
    go_wp2
    refine bodyPost_ret (results_none rfl _ _ _) rfl ?_
    exact ⟨rfl, by simpa [putL] using HI.out, hb0, hk0⟩
  · have hlen : 0 < l.length := List.length_pos_iff.2 h0
    have hne : ((l.length : Int) == 0) = false := ne_lit _ _ (by omega)
    have hE : putL first.data.toList l = first.data.toList ++ wordsP l ++ [10] := by
      unfold putL saidL
      rw [if_neg h0]; rfl
    rw [hE]
    clear hE h0
    have HL := hide hx
    clear hx
    have hfl : first.data.toList.length = first.size := (size_list first).symm
    go_enter Tryz.func34, Tryz.ntmps34
    go_wp2_with fail
    refine (Tryz.Builder_WriteString_k B b _ first _ hI (by rw [Lib.byteCells_length]; omega) hB).mono ?_
    rintro e w1 ⟨rfl, k1, b1, o1⟩
    have i1 : Lib.IsBuilderF 56 5 B b (Lib.byteCells (acc ++ first.data.toList ++ wordsP (l.take 0))) w1 := by
      rw [List.take_zero, show wordsP [] = [] from rfl, List.append_nil, Lib.byteCells_append, ← strCells_any]
      exact Or.inr k1
    have I1 := hide i1
    have BO := hide (show Below B w w1 ∧ Lib.OthersKept 5 (some b) w w1 from ⟨b1, o1⟩)
    clear hI k1 i1 b1 o1 hb0 hk0
    go_wp2
    go_loopw [16] (fun i wr => ∃ k : Nat, k ≤ l.length ∧ i = .int .i64 k ∧ Hid (Lib.IsBuilderF 56 5 B b (Lib.byteCells (acc ++ first.data.toList ++ wordsP (l.take k))) wr) ∧ Hid (Below B w wr ∧ Lib.OthersKept 5 (some b) w wr)) (fun i _ => l.length - (intOf i).toNat)
    case atStart => exact ⟨0, Nat.zero_le _, rfl, I1, BO⟩
    case round =>
      clear I1 BO
      obtain ⟨k, hk, rfl, I, BO⟩ := hrel
      have hwl := wordsP_len (l.take k) (fun x hx => HL.out x (List.mem_of_mem_take hx))
      rw [List.length_take] at hwl
      have hmin : min k l.length ≤ 2000 := by omega
      have hwl2 : (wordsP (l.take k)).length ≤ 2000 * 1000001 := Nat.le_trans hwl (Nat.mul_le_mul_right _ hmin)
      have HW := hide hwl2
      clear hwl hmin hwl2
      by_cases hlt : k < l.length
      · have hlt2 : (k : Int) < l.length := by omega
        obtain ⟨g, o, rfl, hc⟩ := (HS.out _ BO.out.1 BO.out.2).at_ k _ (List.getElem?_eq_getElem hlt)
        have hcell := hc _ (Below.refl _ _)
        have hxl := HL.out _ (List.getElem_mem hlt)
        have hst := wordsP_step l k hlt
        have hy : (⟨(l[k]).toArray⟩ : ByteArray).data.toList = l[k] := str_data _
        have hys : (⟨(l[k]).toArray⟩ : ByteArray).size = l[k].length := by rw [size_list, hy]
        have HYS := hide hys
        have HST : Hid (Lib.byteCells (acc ++ first.data.toList ++ wordsP (l.take (k + 1))) = Lib.byteCells (acc ++ first.data.toList ++ wordsP (l.take k)) ++ Lib.strCells (⟨#[32]⟩ : ByteArray) ++ Lib.strCells (⟨(l[k]).toArray⟩ : ByteArray)) := hide (by
          rw [hst, strCells_any, strCells_any, hy, ← Lib.byteCells_append, ← Lib.byteCells_append]
          simp [List.append_assoc])
        have HXL := hide hxl
        clear hc hst hy hys hxl
        generalize (⟨(l[k]).toArray⟩ : ByteArray) = y at *
        go_wp2_with fail
        refine (Tryz.Builder_WriteString_k B b _ (⟨#[32]⟩ : ByteArray) _ I.out (by have := HW.out; rw [Lib.byteCells_length, List.length_append, List.length_append]; show _ + 1 ≤ _; omega) (Nat.le_trans hB BO.out.1.size)).mono ?_
        rintro e w2 ⟨rfl, k2, b2, o2⟩
        have BO2 := hide (show Below B w w2 ∧ Lib.OthersKept 5 (some b) w w2 from ⟨BO.out.1.trans b2, BO.out.2.trans o2⟩)
        have I2 := hide k2
        clear k2 b2 o2 hcell
        go_wp2_with fail
        refine (Tryz.Builder_WriteString_k B b _ y _ (Or.inr I2.out) (by have := HW.out; have h2 := HYS.out; have h3 := HXL.out; rw [List.length_append, Lib.byteCells_length, List.length_append, List.length_append, strCells_any, Lib.byteCells_length]; show _ + 1 + _ ≤ _; omega) (Nat.le_trans hB BO2.out.1.size)).mono ?_
        rintro e w3 ⟨rfl, k3, b3, o3⟩
        have BO3 := hide (show Below B w w3 ∧ Lib.OthersKept 5 (some b) w w3 from ⟨BO2.out.1.trans b3, BO2.out.2.trans o3⟩)
        have I3 := hide k3
        clear k3 b3 o3
        go_wp2
        go_roundw
        case rel => exact ⟨k + 1, by omega, by go_num, hide (by rw [HST.out]; exact Or.inr I3.out), BO3⟩
        case measure => simp [intOf]; omega
      · have hlt2 : ¬ (k : Int) < l.length := by omega
        obtain rfl : k = l.length := by omega
        rw [List.take_length] at I HW
        clear hlt
        go_wp2_with fail
        refine (Tryz.Builder_WriteString_k B b _ (⟨#[10]⟩ : ByteArray) _ I.out (by have := HW.out; rw [Lib.byteCells_length, List.length_append, List.length_append]; show _ + 1 ≤ _; omega) (Nat.le_trans hB BO.out.1.size)).mono ?_
        rintro e w2 ⟨rfl, k2, b2, o2⟩
        have BO2 := hide (show Below B w w2 ∧ Lib.OthersKept 5 (some b) w w2 from ⟨BO.out.1.trans b2, BO.out.2.trans o2⟩)
        have I2 := hide k2
        clear k2 b2 o2
        go_wp2
        go_end0
        refine ⟨rfl, ?_, BO2.out.1, BO2.out.2⟩
        rw [show acc ++ (first.data.toList ++ wordsP l ++ [10]) = (acc ++ first.data.toList ++ wordsP l) ++ [10] by simp [List.append_assoc], Lib.byteCells_append]
        exact Or.inr I2.out
end Go.Proofs.YtfjganjihapnhaaGreatDoor
