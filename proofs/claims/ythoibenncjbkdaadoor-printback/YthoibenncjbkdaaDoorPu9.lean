/- What the program's put writes; a printer that stays. -/
import Derived.Test.YthoibenncjbkdaaDoorPc9
import Derived.Test.YthoibenncjbkdaaDoorEt9
set_option linter.unusedVariables false
set_option linter.unusedSimpArgs false
set_option maxRecDepth 4000
namespace Go.Proofs.YthoibenncjbkdaaDoor
open Go.RowKit

theorem bf_below {T e : TypeId} {B b : Nat} {bs : List Value} {w W : World} (h : Lib.IsBuilderF T e B b bs w) (hb : Below w.heap.size w W) : Lib.IsBuilderF T e B b bs W := by
  have key : ∀ p, Lib.BuilderAtF T e B b p bs w → Lib.BuilderAtF T e B b p bs W := by
    rintro p ⟨hB, v, hbk, hown, hne⟩
    have lt : ∀ k o, w.heap[k]? = some o → W.heap[k]? = some o := fun k o hk => by
      rw [hb.block k (Array.getElem?_eq_some_iff.1 hk).1]; exact hk
    refine ⟨hB, v, lt _ _ hbk, ⟨hown.1, ?_⟩, hne⟩
    rcases hown.2 with h2 | ⟨g, cap, cur, fz, h1, h2, h3, h4⟩
    · exact .inl h2
    · exact .inr ⟨g, cap, cur, fz, h1, h2, lt _ _ h3, h4⟩
  exact h.imp (key _) (key _)
theorem ok_below {e : TypeId} {b : Option Nat} {w W : World} (hb : Below w.heap.size w W) : Lib.OthersKept e b w W := by
  intro k o hk _ _
  rw [hb.block k (Array.getElem?_eq_some_iff.1 hk).1]; exact hk
/-- The printer b holds these bytes. -/
def Pr (B b : Nat) (acc : List UInt8) (w : World) : Prop := Lib.IsBuilderF tP tU B b (Lib.byteCells acc) w ∧ B ≤ w.heap.size
/-- What a method of the printer does. -/
def Wrote (B b : Nat) (acc out : List UInt8) (w w' : World) : Prop := Pr B b (acc ++ out) w' ∧ Below B w w' ∧ Lib.OthersKept tU (some b) w w'
theorem Pr.below {B b : Nat} {acc : List UInt8} {w W : World} (h : Pr B b acc w) (hb : Below w.heap.size w W) : Pr B b acc W := ⟨bf_below h.1 hb, Nat.le_trans h.2 hb.size⟩
theorem Pr.alloc {B b : Nat} {acc : List UInt8} {w : World} (h : Pr B b acc w) (o : Obj) : Pr B b acc (w.alloc o) := h.below (S5.below_alloc w o)
theorem Wrote.trans {B b : Nat} {acc x y : List UInt8} {w w1 w2 : World} (h : Wrote B b acc x w w1) (k : Wrote B b (acc ++ x) y w1 w2) : Wrote B b acc (x ++ y) w w2 := by
  refine ⟨?_, h.2.1.trans k.2.1, h.2.2.trans k.2.2⟩
  have := k.1
  rwa [List.append_assoc] at this
theorem Wrote.behind {B b : Nat} {acc x : List UInt8} {w w1 w2 : World} (hb : Below w.heap.size w w1) (hB : B ≤ w.heap.size) (h : Wrote B b acc x w1 w2) : Wrote B b acc x w w2 :=
  ⟨h.1, (hb.mono hB).trans h.2.1, (ok_below hb).trans h.2.2⟩
theorem Wrote.none {B b : Nat} {acc : List UInt8} {w w1 : World} (h : Pr B b acc w) (hb : Below w.heap.size w w1) : Wrote B b acc [] w w1 := by
  refine ⟨?_, hb.mono h.2, ok_below hb⟩
  rw [List.append_nil]
  exact h.below hb
theorem Pr.fresh (w : World) : Pr w.heap.size w.heap.size [] (w.alloc (.cells #[.pointer none, .slice none 0 0] tP)) := ⟨fresh_p w, (S5.below_alloc w _).size⟩
theorem write_p {B b : Nat} {acc : List UInt8} {w : World} (h : Pr B b acc w) (s : ByteArray) (hl : acc.length + s.size ≤ 140737488355328) :
    Calls Tryd.prog 9 #[.pointer (some ⟨b, 0, none⟩), .string s] w fun e w' => e = .returned (.tuple #[.int .i64 s.size, .nilIface]) ∧ Wrote B b acc s.data.toList w w' := by
  refine (write_k B b _ s w h.1 (by rw [Lib.byteCells_length]; exact hl) h.2).mono ?_
  rintro e w' ⟨rfl, h1, h2, h3⟩
  refine ⟨rfl, ⟨?_, Nat.le_trans h.2 h2.size⟩, h2, h3⟩
  rw [Lib.byteCells_append]
  have : Lib.byteCells s.data.toList = Lib.strCells s := by rw [← strCells9, ← S5.str_of s _ rfl]
  rw [this]
  exact .inr h1
def cellsW (ps : List (List UInt8)) : Array Value := (ps.map fun p => Value.string ⟨p.toArray⟩).toArray
theorem cellsW_at (ps : List (List UInt8)) (j : Nat) (hj : j < ps.length) : (cellsW ps)[j]? = some (.string ⟨ps[j].toArray⟩) := by
  unfold cellsW
  simp [List.getElem?_eq_getElem hj]
theorem flat_take (ps : List (List UInt8)) (i : Nat) (h : i < ps.length) : (ps.take (i + 1)).flatten = (ps.take i).flatten ++ ps[i] := by
  rw [List.take_succ_eq_append_getElem h, List.flatten_append]
  simp
theorem flat_le (ps : List (List UInt8)) (i : Nat) : (ps.take i).flatten.length ≤ ps.flatten.length := by
  have : ps.flatten = (ps.take i).flatten ++ (ps.drop i).flatten := by rw [← List.flatten_append, List.take_append_drop]
  rw [this, List.length_append]
  omega
set_option maxHeartbeats 2000000 in
theorem put_any {B b : Nat} {acc : List UInt8} {w : World} (h : Pr B b acc w) (ps : List (List UInt8)) (rb cap : Nat) (hn : ps.length ≤ 1000) (hb : rb ≠ b) (hr : w.heap[rb]? = some (.cells (cellsW ps) 9 (0, 0))) (hl : acc.length + ps.flatten.length ≤ 140737488355328) :
    Calls Tryd.prog 20 #[.pointer (some ⟨b, 0, none⟩), .slice (some ⟨rb, 0, none⟩) ps.length cap] w fun e w' => e = .returned (.tuple #[]) ∧ Wrote B b acc ps.flatten w w' := by
  have HR := hide hr
  have HP := hide h
  clear hr h
  go_enter Tryd.func20, Tryd.ntmps20
  go_wp2
  go_loopw [8] (fun i wr => ∃ k : Nat, k ≤ ps.length ∧ i = .int .i64 k ∧ Hid (Wrote B b acc (ps.take k).flatten w wr)) (fun i _ => ps.length - (intOf i).toNat)
  case atStart => exact ⟨0, Nat.zero_le _, rfl, hide (Wrote.none HP.out (Below.refl _ _))⟩
  case round =>
    obtain ⟨k, hk, rfl, HW⟩ := hrel
    by_cases hlt : k < ps.length
    · have hlt2 : (k : Int) < ps.length := by omega
      have hcell : wr.cell? ⟨rb, k, none⟩ = some (.string ⟨ps[k].toArray⟩) := by
        have := HW.out.2.2 rb _ HR.out (fun e => hb (by simpa using e)) (fun c fz e => by cases e)
        rw [Lib.cell_of_heap this, cellsW_at ps k hlt]
      have hft := flat_take ps k hlt
      have hf1 := flat_le ps (k + 1)
      rw [hft, List.length_append] at hf1
      have HF := hide hft
      have HC := hide (write_p HW.out.1 ⟨ps[k].toArray⟩ (by rw [List.length_append, S5.size_list, S5.str_data]; omega))
      rw [S5.str_data] at HC
      clear hft hf1
      generalize ps[k] = q at *
      generalize (⟨q.toArray⟩ : ByteArray) = t at *
      go_wp2_with fail
      refine HC.out.mono ?_
      rintro e w1 ⟨rfl, h1⟩
      have HN : Hid (Wrote B b acc (ps.take (k + 1)).flatten w w1) := hide (by rw [HF.out]; exact HW.out.trans h1)
      clear h1
      go_wp2
      go_roundw
      case rel => exact ⟨k + 1, by omega, by go_num, HN⟩
      case measure => simp [intOf]; omega
    · have hlt2 : ¬ (k : Int) < ps.length := by omega
      have hke : ps.take k = ps := List.take_of_length_le (by omega)
      rw [hke] at HW
      clear hke
      go_wp2
      go_end0
      exact ⟨rfl, HW.out⟩
end Go.Proofs.YthoibenncjbkdaaDoor
