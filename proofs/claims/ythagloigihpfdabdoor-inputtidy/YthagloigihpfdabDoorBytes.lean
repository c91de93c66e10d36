/- A list of bytes that came in, or that was made, as a text: what string(b), []byte(s) and append(p, b...) do to the world. -/
import Derived.Test.YthagloigihpfdabDoorWalkI
import Derived.Deep.AppendSrc
import Derived.Laws.AppendOwn
import Derived.Lib.ConvBytes
set_option linter.unusedVariables false
set_option linter.unusedSimpArgs false
namespace Go.Proofs.YthagloigihpfdabDoor
open Go.RowKit

/-- The value is a slice that reads as these bytes. -/
def IsB (w : World) (v : Value) (l : List UInt8) : Prop :=
  (v = .slice none 0 0 ∧ l = []) ∨ ∃ a cap, v = .slice (some a) l.length cap ∧ ∀ j (hj : j < l.length), w.cell? (a.add j) = some (.int .u8 (l[j].toNat : Int))

theorem cell_lt {w : World} {a : Addr} {v : Value} (h : w.cell? a = some v) : a.block < w.heap.size := World.block_lt_of_cell? w a h

theorem IsB.below {w W : World} {v : Value} {l : List UInt8} (h : IsB w v l) (hb : Below w.heap.size w W) : IsB W v l := by
  rcases h with h | ⟨a, cap, rfl, hc⟩
  · exact .inl h
  · refine .inr ⟨a, cap, rfl, fun j hj => ?_⟩
    rw [hb.cell (cell_lt (hc j hj))]
    exact hc j hj
theorem IsB.conv {w : World} {v : Value} {l : List UInt8} (h : IsB w v l) : (convert 24 9 v).run Tryd.prog w = .ok (.string ⟨l.toArray⟩) w := by
  rcases h with ⟨rfl, rfl⟩ | ⟨a, cap, rfl, hc⟩
  · exact run_convert_bytes_nil w 24 5 Tryd.underlying24 Tryd.underlying5 0 0 9 Tryd.underlying9
  · exact conv_bytes w a cap l hc

/-- []byte(s). -/
theorem conv_string (w : World) (s : ByteArray) : ∃ v W, (convert 9 24 (.string s)).run Tryd.prog w = .ok v W ∧ IsB W v s.data.toList ∧ Below w.heap.size w W := by
  refine ⟨_, _, Lib.run_convert_string_bytes w 9 24 5 s Tryd.underlying9 Tryd.underlying24 Tryd.underlying5, .inr ⟨⟨w.heap.size, 0, none⟩, grownCap w s.size 0 5, ?_, ?_⟩, ?_⟩
  · rw [← size_list]
  · intro j hj
    have hj2 : j < s.size := by rw [size_list]; exact hj
    have := Lib.bytesWorld_cell w 5 s j hj2
    rw [show (⟨w.heap.size, 0, none⟩ : Addr).add j = ⟨w.heap.size, j, none⟩ by unfold Addr.add; split <;> simp_all]
    rw [this, List.getD_eq_getElem?_getD, List.getElem?_eq_getElem hj]
    rfl
  · exact ⟨rfl, rfl, rfl, by rw [Lib.bytesWorld_size]; omega, fun k hk => Lib.bytesWorld_at_old w 5 s k hk⟩

theorem byteCells_get (l : List UInt8) (j : Nat) (hj : j < l.length) : (Lib.byteCells l)[j]? = some (.int .u8 (l[j].toNat : Int)) := by
  simp [Lib.byteCells, List.getElem?_eq_getElem hj]
theorem byteCells_one (l : List UInt8) : ∀ u ∈ Lib.byteCells l, u.oneCell' = true := by
  intro u hu
  simp only [Lib.byteCells, List.mem_map] at hu
  obtain ⟨b, _, rfl⟩ := hu
  rfl
theorem byteCells_len (l : List UInt8) : (Lib.byteCells l).length = l.length := by simp [Lib.byteCells]

theorem owns_isB {w : World} {B n : Nat} {v : Value} {l : List UInt8} (h : w.ownsRow B 5 1 v n (Lib.byteCells l)) : IsB w v l := by
  have hn : n = l.length := by
    have := h.1
    rw [byteCells_len] at this
    omega
  subst hn
  rcases h.2 with ⟨rfl, h2⟩ | ⟨g, cap, cur, rfl, _, _, _, _, _, _⟩
  · exact .inl ⟨rfl, List.eq_nil_of_length_eq_zero h2⟩
  · exact .inr ⟨⟨g, 0, none⟩, cap, rfl, fun j hj => h.cells rfl j _ (byteCells_get l j hj)⟩

/-- append(pre, b...), pre a list that was just written out. -/
theorem append_bytes (w : World) (cells : Array Value) (pre l : List UInt8) (v : Value) (hc : cells.toList = Lib.byteCells pre) (hp : pre.length ≤ 1000000) (hl : l.length ≤ 1000000) (hb : IsB w v l) :
    ∃ v' w', (Builtin.append_ #[24, 24] 24 #[.slice (some ⟨w.heap.size, 0, none⟩) pre.length pre.length, v]).run Tryd.prog (w.alloc (.cells cells 5)) = .ok v' w' ∧ IsB w' v' (pre ++ l) ∧ Below w.heap.size w w' := by
  have b0 : Below w.heap.size w (w.alloc (.cells cells 5)) := (Below.refl _ w).alloc (Nat.le_refl _) _
  have hb1 := hb.below b0
  have hsz : cells.size = pre.length := by rw [← Array.length_toList, hc, byteCells_len]
  have hown : (w.alloc (.cells cells 5)).ownsRow w.heap.size 5 1 (.slice (some ⟨w.heap.size, 0, none⟩) pre.length pre.length) pre.length (Lib.byteCells pre) := by
    refine ⟨by rw [byteCells_len]; omega, .inr ⟨w.heap.size, pre.length, cells, rfl, Nat.le_refl _, heap_alloc_new w _, Nat.le_refl _, by unfold maxLen; omega, by omega, ?_⟩⟩
    rw [hc, List.take_of_length_le (by rw [byteCells_len]; omega)]
  rcases hb1 with ⟨rfl, rfl⟩ | ⟨a, cap, rfl, hcell⟩
  · have h := run_append_room_src (P := Tryd.prog) (w.alloc (.cells cells 5)) 24 24 24 5 Tryd.t5 Tryd.underlying24 (by kernel_rfl) w.heap.size 0 pre.length pre.length (.slice none 0 0) 0 [] (Src.ofNil _ Tryd.underlying24 0) (by omega) (by simp) (by simp)
    refine ⟨_, _, h, ?_, ?_⟩
    · rw [List.append_nil]
      exact owns_isB hown
    · exact b0
  · obtain ⟨v', w', hr, ho, hg, _⟩ := run_append_own (P := Tryd.prog) (w.alloc (.cells cells 5)) w.heap.size 24 24 5 Tryd.t5 (.int .u8 0) 1 1 Tryd.underlying24 (by kernel_rfl) (by kernel_rfl) (by kernel_rfl) (by kernel_rfl) (by kernel_rfl) (by omega)
      _ pre.length (Lib.byteCells pre) hown a l.length cap (Lib.byteCells l) (by rw [byteCells_len]; omega)
      (by
        intro j u hu
        have hj : j < l.length := by
          have := (List.getElem?_eq_some_iff.1 hu).1
          rw [byteCells_len] at this
          exact this
        rw [byteCells_get l j hj] at hu
        rw [hcell j hj]
        exact hu) (byteCells_one l) (by unfold maxLen; omega) (by omega) (by simp)
    refine ⟨v', w', hr, ?_, b0.grown hg (by simp) (by intro k hk; simp [Value.ownBlock] at hk; omega)⟩
    rw [← Lib.byteCells_append] at ho
    exact owns_isB ho

/-- An append whose run is known. -/
theorem wpList_append_run {P : Program} {ops : Array Oper} {rest : List Oper} {o : Oper} {a : Act} {Q : Exit → Act → World → Prop} {w : World} (hgd : o.guard = none) (s x : Operand) (t : TypeId)
    (ho : o.op = .call { callee := .builtin .append, args := #[s, x], argTypes := #[t, t] }) (v1 v2 v' : Value) (w' : World) (hs : a.eval s = v1) (hx : a.eval x = v2)
    (hr : (Builtin.append_ #[t, t] o.type #[v1, v2]).run P w = .ok v' w') (h : wpList P ops Q rest (a.put o.dst v') w') : wpList P ops Q (o :: rest) a w :=
  wpList_plain hgd fun _ hK => by
    unfold Oper.wp execOp
    simp only [ho, resolve, invoke, builtin, Sem.run_bind, Sem.run_pure, Result.andThen_ok, List.map_toArray, List.map_cons, List.map_nil, hs, hx, hr]
    exact hK _ _ h
end Go.Proofs.YthagloigihpfdabDoor
