/- Bytes that are appended; what the document's Put answers. -/
import Derived.Test.YtbodbomebmkopaaCn16
set_option linter.unusedVariables false
set_option linter.unusedSimpArgs false
set_option maxRecDepth 4000
namespace Go.Proofs.Ytbodbomebmkopaa
open Go.RowKit

theorem byteCells_get (l : List UInt8) (j : Nat) (hj : j < l.length) : (Lib.byteCells l)[j]? = some (.int .u8 (l[j].toNat : Int)) := by
  simp [Lib.byteCells, List.getElem?_eq_getElem hj]
theorem byteCells_one (l : List UInt8) : ∀ u ∈ Lib.byteCells l, u.oneCell' = true := by
  intro u hu
  simp only [Lib.byteCells, List.mem_map] at hu
  obtain ⟨b, _, rfl⟩ := hu
  rfl
theorem byteCells_len (l : List UInt8) : (Lib.byteCells l).length = l.length := by simp [Lib.byteCells]
/-- An append whose run is known. -/
theorem wpList_append_run {P : Program} {ops : Array Oper} {rest : List Oper} {o : Oper} {a : Act} {Q : Exit → Act → World → Prop} {w : World} (hgd : o.guard = none) (s x : Operand) (t : TypeId)
    (ho : o.op = .call { callee := .builtin .append, args := #[s, x], argTypes := #[t, t] }) (v1 v2 v' : Value) (w' : World) (hs : a.eval s = v1) (hx : a.eval x = v2)
    (hr : (Builtin.append_ #[t, t] o.type #[v1, v2]).run P w = .ok v' w') (h : wpList P ops Q rest (a.put o.dst v') w') : wpList P ops Q (o :: rest) a w :=
  wpList_plain hgd fun _ hK => by
    unfold Oper.wp execOp
    simp only [ho, resolve, invoke, builtin, Sem.run_bind, Sem.run_pure, Result.andThen_ok, List.map_toArray, List.map_cons, List.map_nil, hs, hx, hr]
    exact hK _ _ h
/-- append(b, c), b a list of the call's own, c a byte that was just written out. -/
theorem append_byte (W : World) (B n : Nat) (v : Value) (l : List UInt8) (c : UInt8) (hown : W.ownsRow B 5 1 v n (Lib.byteCells l)) (hl : n ≤ 1000000) (hB : B ≤ W.heap.size) :
    ∃ v' w', (Builtin.append_ #[23, 23] 23 #[v, .slice (some ⟨W.heap.size, 0, none⟩) 1 1]).run Try.prog (W.alloc (.cells #[.int .u8 (c.toNat : Int)] 5)) = .ok v' w' ∧ w'.ownsRow B 5 1 v' (n + 1) (Lib.byteCells (l ++ [c])) ∧ Below B W w' := by
  have b0 : Below W.heap.size W (W.alloc (.cells #[.int .u8 (c.toNat : Int)] 5)) := (Below.refl _ W).alloc (Nat.le_refl _) _
  have hown2 : (W.alloc (.cells #[.int .u8 (c.toNat : Int)] 5)).ownsRow B 5 1 v n (Lib.byteCells l) := by
    refine ⟨hown.1, ?_⟩
    rcases hown.2 with h | ⟨g, cap, cur, h1, h2, h3, h4⟩
    · exact .inl h
    · refine .inr ⟨g, cap, cur, h1, h2, ?_, h4⟩
      have hg : g < W.heap.size := (Array.getElem?_eq_some_iff.1 h3).1
      rw [b0.block g hg]; exact h3
  have hblk : ∀ k, v.ownBlock = some k → B ≤ k := by
    intro k hk
    rcases hown.2 with ⟨rfl, _⟩ | ⟨g, cap, cur, rfl, h2, _⟩
    · simp [Value.ownBlock] at hk
    · simp [Value.ownBlock] at hk; omega
  obtain ⟨v', w', hr, ho, hg, _⟩ := run_append_own (P := Try.prog) (W.alloc (.cells #[.int .u8 (c.toNat : Int)] 5)) B 23 23 5 Try.t5 (.int .u8 0) 1 1 Try.underlying23 (by kernel_rfl) (by kernel_rfl) (by kernel_rfl) (by kernel_rfl) (by kernel_rfl) (by omega)
      v n (Lib.byteCells l) hown2 ⟨W.heap.size, 0, none⟩ 1 1 (Lib.byteCells [c]) rfl
      (by
        intro j u hu
        have hj : j < 1 := (List.getElem?_eq_some_iff.1 hu).1
        obtain rfl : j = 0 := by omega
        rw [byteCells_get [c] 0 (by simp)] at hu
        rw [addr_add, ← hu]
        simp [go_sem]) (byteCells_one [c]) (by unfold maxLen; omega) (by omega) (by simp; omega)
  refine ⟨v', w', hr, ?_, ((b0.mono hB)).grown hg (by simp; omega) hblk⟩
  rw [← Lib.byteCells_append] at ho
  exact ho
theorem put_next (n j : Nat) : putB n (j + 1) = UInt8.ofNat (n / 256 ^ j) :: putB n j := rfl
theorem owns_formY {w : World} {B n : Nat} {t : TypeId} {v : Value} {l : List Value} (h : w.ownsRow B t 1 v n l) : ∃ a c, v = .slice a n c := by
  rcases h.2 with ⟨rfl, h2⟩ | ⟨g, cap, cur, rfl, _⟩
  · exact ⟨none, 0, by subst h2; rfl⟩
  · exact ⟨_, _, rfl⟩
set_option maxHeartbeats 4000000 in
theorem rput_any (v : Value) (l : Bs) (n k : Nat) (hn : n < 18446744073709551616) (hk : k ≤ 8) (w : World) (B : Nat) (hB : B ≤ w.heap.size) (hl : l.length ≤ 1000) (hO : w.ownsRow B 5 1 v l.length (Lib.byteCells l)) :
    Calls Try.prog 25 #[v, .int .u64 (n : Int), .int .i64 (k : Int)] w fun e w' => ∃ v', e = .returned v' ∧ w'.ownsRow B 5 1 v' (l ++ putB n k).length (Lib.byteCells (l ++ putB n k)) ∧ Below B w w' := by
  have HO0 := hide hO
  have HL : Hid ((l ++ putB n k).length ≤ 1008) := hide (by rw [List.length_append, put_len]; omega)
  clear hO
  generalize hR : l ++ putB n k = R at *
  have HR := hide hR
  clear hR
  obtain ⟨va, vc, rfl⟩ := owns_formY HO0.out
  generalize hm : l.length = m at *
  have hml := hm
  clear hm
  go_enter Try.func25, Try.ntmps25
  go_wp2
  go_loopw [0, 7] (fun bv iv wr => ∃ (j : Nat) (o : Bs), j ≤ 8 ∧ iv = .int .i64 ((j : Int) - 1) ∧ o.length + j ≤ 1008 ∧ Below B w wr ∧ Hid (o ++ putB n j = R) ∧ Hid (wr.ownsRow B 5 1 bv o.length (Lib.byteCells o))) (fun _ iv _ => (intOf iv + 1).toNat)
  case atStart => exact ⟨k, l, hk, by go_num, by omega, Below.refl _ w, HR, hide (by rw [hml]; exact HO0.out)⟩
  case round =>
    obtain ⟨j, o, hj, rfl, ho, bw, HQ, HO⟩ := hrel
    have hsz := bw.size
    cases j with
    | zero =>
      have hq := HQ.out
      rw [putB, List.append_nil] at hq
      subst hq
      go_wp2
      go_ret
      exact ⟨_, rfl, HO.out, bw⟩
    | succ i =>
      have hge : (0 : Int) ≤ ((i + 1 : Nat) : Int) - 1 := by omega
      have hq := HQ.out
      rw [put_next, ← List.singleton_append, ← List.append_assoc] at hq
      obtain ⟨v', w', hr, ho2, hb⟩ := append_byte wr B o.length _ _ (UInt8.ofNat (n / 256 ^ i)) HO.out (by omega) (by omega)
      have hln : (o ++ [UInt8.ofNat (n / 256 ^ i)]).length = o.length + 1 := by simp
      rw [← hln] at ho2
      obtain ⟨oa, oc, rfl⟩ := owns_formY HO.out
      have hbyte : ((UInt8.ofNat (n / 256 ^ i)).toNat : Int) = (n : Int) / 2 ^ (8 * i) % 256 := by
        rw [UInt8.toNat_ofNat', show (256 : Nat) ^ i = 2 ^ (8 * i) by rw [Nat.pow_mul]]
        rw [Int.natCast_emod, Int.natCast_ediv, Int.natCast_pow]
        rfl
      rw [hbyte] at hr
      have HRUN := hide hr
      have HQ2 := hide hq
      have HO2 := hide ho2
      have b2 := bw.trans hb
      clear hr hq ho2 hb HQ HO HR HO0 hbyte
      have hi8 : i < 8 := by omega
      go_wp2_with (at_builtin; refine wpList_append_run rfl _ _ 23 rfl _ _ _ _ rfl rfl HRUN.out ?_)
      go_roundw
      case rel => exact ⟨i, _, by omega, by go_num, by rw [hln]; omega, b2, HQ2, HO2⟩
      case measure => simp [intOf]
end Go.Proofs.Ytbodbomebmkopaa
