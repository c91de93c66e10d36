/- OpensCut's walk. -/
import Derived.Test.YtfknhpkpenhflaaLW6
import Derived.Test.YtfknhpkpenhflaaRC6
import Derived.Deep.AppendSrc
import Derived.Laws.AppendOwn
import Derived.Maps.AppendAt
set_option linter.unusedVariables false
set_option linter.unusedSimpArgs false
namespace Go.Proofs.Ytfknhpkpenhflaa
open Go.RowKit

def openCells : List OV → List Value
  | [] => []
  | o :: r => [.int .i64 o.id, .int .i64 o.sp, .string o.nm] ++ openCells r
theorem openCells_len : ∀ l : List OV, (openCells l).length = l.length * 3
  | [] => rfl
  | p :: r => by
    simp only [openCells, List.length_append, List.length_cons, List.length_nil, openCells_len r]
    omega
theorem openCells_get : ∀ (l : List OV) (j : Nat) (hj : j < l.length) (o : Nat) (ho : o < 3), (openCells l)[j * 3 + o]? = (([.int .i64 l[j].id, .int .i64 l[j].sp, .string l[j].nm] : List Value))[o]?
  | p :: r, 0, _, o, ho => by
    simp only [openCells, Nat.zero_mul, Nat.zero_add, List.getElem_cons_zero]
    rw [List.getElem?_append_left (by simpa using ho)]
  | p :: r, j + 1, hj, o, ho => by
    have h := openCells_get r j (by simpa using hj) o ho
    simp only [openCells, List.getElem_cons_succ]
    rw [List.getElem?_append_right (by simp; omega), show (j + 1) * 3 + o - (([.int .i64 p.id, .int .i64 p.sp, .string p.nm] : List Value)).length = j * 3 + o by simp; omega]
    exact h
theorem openCells_1c : ∀ (l : List OV), ∀ u ∈ openCells l, u.oneCell' = true
  | [], u, hu => by simp [openCells] at hu
  | p :: r, u, hu => by
    rcases List.mem_append.1 hu with hu | hu
    · simp only [List.mem_cons, List.not_mem_nil, or_false] at hu
      rcases hu with rfl | rfl | rfl <;> rfl
    · exact openCells_1c r u hu
theorem addr_add6 (b o j : Nat) : (⟨b, o, none⟩ : Addr).add j = ⟨b, o + j, none⟩ := by unfold Addr.add; split <;> simp_all
theorem owns_isO {w : World} {B : Nat} {v : Value} {l : List OV} {n : Nat} (h : w.ownsRow B 24 3 v n (openCells l)) (hn : 0 < l.length) : IsO w v l := by
  have hl := h.1
  rw [openCells_len] at hl
  have hnn : n = l.length := by omega
  rcases h.2 with ⟨_, h0⟩ | ⟨g, cap, cur, rfl, hbg, hg, hnc, hcm, hcs, htake⟩
  · omega
  · refine .inr ⟨g, 0, cap, by simp [hnn], fun j hj => ?_⟩
    have hc : ∀ i, i < 3 → ∀ u, (([.int .i64 l[j].id, .int .i64 l[j].sp, .string l[j].nm] : List Value))[i]? = some u → w.cell? ⟨g, j * 3 + i, none⟩ = some u := by
      intro i hi u hu
      have hr := openCells_get l j hj i hi
      rw [hu] at hr
      have hc := h.cells (g := g) rfl _ _ hr
      rw [addr_add6, Nat.zero_add] at hc
      exact hc
    rw [Nat.zero_add]
    exact ⟨hc 0 (by omega) _ rfl, hc 1 (by omega) _ rfl, hc 2 (by omega) _ rfl⟩
/-- The list, copied behind an empty one. -/
theorem copy_opens (W : World) (v : Value) (l : List OV) (hO : IsO W v l) (hl : l.length ≤ 1000000) :
    ∃ v' w', (Builtin.append_ #[29, 29] 29 #[.slice (some ⟨W.heap.size, 0, none⟩) 0 0, v]).run Try.prog (W.alloc (.cells #[] 24)) = .ok v' w' ∧ IsO w' v' l ∧ Below W.heap.size W w' := by
  have b0 := below_alloc W (.cells #[] 24)
  have hown : (W.alloc (.cells #[] 24)).ownsRow W.heap.size 24 3 (.slice (some ⟨W.heap.size, 0, none⟩) 0 0) 0 [] := World.ownsRow_made W #[] 0 (Nat.le_refl _) (by unfold maxLen; omega) (by simp)
  have hblk : ∀ k, (Value.slice (some ⟨W.heap.size, 0, none⟩) 0 0).ownBlock = some k → W.heap.size ≤ k := fun k hk => by
    have : W.heap.size = k := by simpa [Value.ownBlock] using hk
    omega
  rcases hO with ⟨rfl, a, c, rfl⟩ | ⟨b, o, cap, rfl, hcs⟩
  · cases a with
    | none =>
      have hr := run_append_room_src (P := Try.prog) (W.alloc (.cells #[] 24)) 29 29 29 24 Try.t24 Try.underlying29 (by kernel_rfl) W.heap.size 0 0 0 (.slice none 0 c) 0 [] (Src.ofNil _ Try.underlying29 c) (by omega) (by simp) (by simp)
      exact ⟨_, _, hr, .inl ⟨rfl, _, _, rfl⟩, b0⟩
    | some x =>
      have hr := run_append_room_src (P := Try.prog) (W.alloc (.cells #[] 24)) 29 29 29 24 Try.t24 Try.underlying29 (by kernel_rfl) W.heap.size 0 0 0 (.slice (some x) 0 c) 0 [] (Src.ofSlice _ Try.underlying29 x 0 c [] (by simp) (by simp) (by simp)) (by omega) (by simp) (by simp)
      exact ⟨_, _, hr, .inl ⟨rfl, _, _, rfl⟩, b0⟩
  · by_cases h0 : l.length = 0
    · have hr := run_append_room_src (P := Try.prog) (W.alloc (.cells #[] 24)) 29 29 29 24 Try.t24 Try.underlying29 (by kernel_rfl) W.heap.size 0 0 0 (.slice (some ⟨b, o, none⟩) l.length cap) l.length [] (Src.ofSlice _ Try.underlying29 ⟨b, o, none⟩ l.length cap [] (by rw [h0]; simp) (by simp) (by simp)) (by omega) (by simp) (by simp)
      exact ⟨_, _, hr, .inl ⟨List.eq_nil_of_length_eq_zero h0, _, _, by rw [h0]⟩, b0⟩
    · obtain ⟨v', w', hr, ho, hg, _⟩ := run_append_own (P := Try.prog) (W.alloc (.cells #[] 24)) W.heap.size 29 29 24 Try.t24 _ 3 32 Try.underlying29 (by kernel_rfl) rfl (by kernel_rfl) (by kernel_rfl) (by kernel_rfl) (by omega)
        (.slice (some ⟨W.heap.size, 0, none⟩) 0 0) 0 [] hown ⟨b, o, none⟩ l.length cap (openCells l) (openCells_len l)
        (by
          intro j u hu
          have hj : j < (openCells l).length := by
            rcases Nat.lt_or_ge j (openCells l).length with h | h
            · exact h
            · rw [List.getElem?_eq_none h] at hu; cases hu
          rw [openCells_len] at hj
          have hq : j / 3 < l.length := by omega
          have hgt := openCells_get l (j / 3) hq (j % 3) (by omega)
          rw [show j / 3 * 3 + j % 3 = j by omega, hu] at hgt
          obtain ⟨c0, c1, c2⟩ := hcs (j / 3) hq
          have hc : W.cell? ⟨b, o + j, none⟩ = some u := by
            rcases (by omega : j % 3 = 0 ∨ j % 3 = 1 ∨ j % 3 = 2) with h | h | h
            · rw [h] at hgt
              rw [show o + j = o + j / 3 * 3 by omega, c0, hgt]; rfl
            · rw [h] at hgt
              rw [show o + j = o + j / 3 * 3 + 1 by omega, c1, hgt]; rfl
            · rw [h] at hgt
              rw [show o + j = o + j / 3 * 3 + 2 by omega, c2, hgt]; rfl
          rw [addr_add6, b0.cell (cell_lt hc)]
          exact hc)
        (openCells_1c l) (by unfold maxLen; omega) (by omega) (by simp)
      rw [Nat.zero_add] at ho
      exact ⟨v', w', hr, owns_isO ho (by omega), b0.grown hg (by simp) hblk⟩

/-- An append whose run is known. -/
theorem wpList_append_run {P : Program} {ops : Array Oper} {rest : List Oper} {o : Oper} {a : Act} {Q : Exit → Act → World → Prop} {w : World} (hgd : o.guard = none) (s x : Operand) (t : TypeId)
    (ho : o.op = .call { callee := .builtin .append, args := #[s, x], argTypes := #[t, t] }) (v1 v2 v' : Value) (w' : World) (hs : a.eval s = v1) (hx : a.eval x = v2)
    (hr : (Builtin.append_ #[t, t] o.type #[v1, v2]).run P w = .ok v' w') (h : wpList P ops Q rest (a.put o.dst v') w') : wpList P ops Q (o :: rest) a w :=
  wpList_plain hgd fun _ hK => by
    unfold Oper.wp execOp
    simp only [ho, resolve, invoke, builtin, Sem.run_bind, Sem.run_pure, Result.andThen_ok, List.map_toArray, List.map_cons, List.map_nil, hs, hx, hr]
    exact hK _ _ h

/-- What stands while OpensCut asks. -/
structure Cq (w : World) (l : List OV) (own : Value) (ex : ByteArray) (id : Int) (w1 : World) : Prop where
  bel : Below w.heap.size w w1
  lt : w.heap.size < w1.heap.size
  b0 : w1.cell? ⟨w.heap.size, 0, none⟩ = some (.string ex)
  b1 : w1.cell? ⟨w.heap.size, 1, none⟩ = some (.int .i64 id)
  isO : IsO w1 own l
theorem Cq.next {w : World} {l : List OV} {own : Value} {ex : ByteArray} {id : Int} {w1 w2 : World} (h : Cq w l own ex id w1) (b : Below w1.heap.size w1 w2) : Cq w l own ex id w2 :=
  ⟨h.bel.trans (b.mono h.bel.size), Nat.lt_of_lt_of_le h.lt b.size, by rw [b.cell h.lt]; exact h.b0, by rw [b.cell h.lt]; exact h.b1, h.isO.below b⟩
theorem Cq.drew {w : World} {l : List OV} {own : Value} {ex : ByteArray} {id : Int} {w1 : World} (h : Cq w l own ex id w1) : Cq w l own ex id w1.drew := ⟨h.bel.drew, h.lt, h.b0, h.b1, h.isO⟩

set_option maxHeartbeats 4000000 in
theorem opensCut_walk (l : List OV) (names : List (List UInt8)) (ex : ByteArray) (id : Int) (v u : Value) (w : World) (hO : IsO w v l) (hW : IsW w u names) :
    Calls Try.prog 5 #[v, u, .agg #[.string ex, .int .i64 id]] w fun e w' => e = .returned (.bool true) ∧ Below w.heap.size w w' := by
  have H1 := hide alive_any
  have bA := below_alloc w (.cells #[.string ex, .int .i64 id] 34)
  by_cases hl : l.length ≤ 60 ∧ names.length ≤ 60
  · obtain ⟨own, w2, hr, hown, hb⟩ := copy_opens (w.alloc (.cells #[.string ex, .int .i64 id] 34)) v l (hO.below bA) (by omega)
    rw [show (w.alloc (.cells #[.string ex, .int .i64 id] 34)).heap.size = w.heap.size + 1 by simp] at hr
    have hq : Cq w l own ex id w2 := ⟨bA.trans (hb.mono bA.size), Nat.lt_of_lt_of_le (by simp) hb.size, by rw [hb.cell (by simp)]; simp [go_sem], by rw [hb.cell (by simp)]; simp [go_sem], hown⟩
    have H2 := hide (fun w1 (h : Cq w l own ex id w1) => cut_any l (by omega) names (by omega) own u w1 h.isO (hW.below h.bel))
    have H3 := hide (fun w1 (h : Cq w l own ex id w1) => implied_any l (by omega) ex own w1 h.isO)
    have H4 := hide (fun w1 (h : Cq w l own ex id w1) => find_any l (by omega) id own w1 h.isO)
    have H5 := hide (fun w1 (h : Cq w l own ex id w1) => rcut_any l (by omega) names (by omega) v u w1 (hO.below h.bel) (hW.below h.bel))
    have H6 := hide (fun w1 (h : Cq w l own ex id w1) => rimplied_any l (by omega) ex v w1 (hO.below h.bel))
    have H7 := hide (fun w1 (h : Cq w l own ex id w1) => rfind_any l (by omega) id v w1 (hO.below h.bel))
    generalize cutZ l names = Z1 at *
    generalize impliedZ l ex = Z2 at *
    generalize findZ l id = Z3 at *
    obtain ⟨a, c, rfl⟩ := isO_form hO
    obtain ⟨a2, c2, rfl⟩ := isW_form hW
    obtain ⟨a3, c3, rfl⟩ := isO_form hown
    have HS := hide (small_any a a2 l.length names.length c c2)
    rw [decide_eq_true hl.1, decide_eq_true hl.2] at HS
    have HR := hide hr
    have HQ := hide hq
    have HO := hide hO
    have hlen : l.length ≤ 60 := hl.1
    clear hr hq hO hW hl hown hb bA
    go_enter Try.func5, Try.ntmps5
    go_wp2_with fail
    refine (HS.out _).mono ?_
    rintro e w0 ⟨rfl, rfl⟩
    go_wp2_with (with_reducible refine wpList_append_run rfl _ _ 29 rfl (.slice (some ⟨w.heap.size + 1, 0, none⟩) 0 0) (.slice a l.length c) _ w2 rfl rfl HR.out ?_)
    refine (H2.out _ HQ.out).mono ?_
    rintro e w3 ⟨rfl, b3⟩
    have HQ3 := hide (HQ.out.next b3)
    have d0 := HQ3.out.b0
    clear b3 HQ HR
    go_wp2_with fail
    refine (H3.out _ HQ3.out).mono ?_
    rintro e w4 ⟨rfl, b4⟩
    have HQ4 := hide (HQ3.out.next b4)
    have d1 := HQ4.out.b1
    clear b4 HQ3 d0
    go_wp2_with fail
    refine (H4.out _ HQ4.out).mono ?_
    rintro e w5 ⟨rfl, b5⟩
    have HQ5 := hide (HQ4.out.next b5)
    clear b5 HQ4 d1
    go_wp2_with fail
    go_loopw [11] (fun i wr => ∃ k : Nat, k ≤ l.length ∧ i = .int .i64 (k : Int) ∧ Hid (Cq w l (.slice a3 l.length c3) ex id wr)) (fun i _ => l.length - (intOf i).toNat)
    case atStart => exact ⟨0, Nat.zero_le _, rfl, HQ5⟩
    case round =>
      obtain ⟨k, hk, rfl, HQr⟩ := hrel
      by_cases hlt : k < l.length
      · obtain ⟨b, o, ha, c0, c1, c2⟩ := (HO.out.below HQr.out.bel).get k hlt
        obtain ⟨b', o', ha', c0', c1', c2'⟩ := HQr.out.isO.get k hlt
        subst ha ha'
        generalize l[k].id = x at *
        generalize l[k].sp = y at *
        generalize l[k].nm = z at *
        have hlt2 : (k : Int) < l.length := by omega
        clear hlt
        go_wp2_with fail
        go_region
        all_goals (try go_wp2)
        all_goals go_roundw
        case rel => exact ⟨k + 1, by omega, by go_num, hide HQr.out.drew⟩
        case measure => simp [intOf]; omega
      · have hlt2 : ¬ (k : Int) < l.length := by omega
        clear hlt
        go_wp2_with fail
        refine (H1.out _).mono ?_
        rintro e w6 ⟨rfl, b6⟩
        have HQ6 := hide (HQr.out.next b6)
        clear b6
        go_wp2_with fail
        refine (H5.out _ HQ6.out).mono ?_
        rintro e w7 ⟨rfl, b7⟩
        have HQ7 := hide (HQ6.out.next b7)
        have d0 := HQ7.out.b0
        clear b7 HQ6
        go_wp2_with fail
        refine (H6.out _ HQ7.out).mono ?_
        rintro e w8 ⟨rfl, b8⟩
        have HQ8 := hide (HQ7.out.next b8)
        have d1 := HQ8.out.b1
        clear b8 HQ7 d0
        go_wp2_with fail
        refine (H7.out _ HQ8.out).mono ?_
        rintro e w9 ⟨rfl, rfl⟩
        go_wp2
        go_ret
        exact ⟨rfl, HQ8.out.bel⟩
  · obtain ⟨a, c, rfl⟩ := isO_form hO
    obtain ⟨a2, c2, rfl⟩ := isW_form hW
    have HS := hide (small_any a a2 l.length names.length c c2)
    rw [not_small l names hl] at HS
    have BA := hide bA
    clear hO hW hl bA
    go_enter Try.func5, Try.ntmps5
    go_wp2_with fail
    refine (HS.out _).mono ?_
    rintro e w0 ⟨rfl, rfl⟩
    go_wp2_with fail
    refine (H1.out _).mono ?_
    rintro e w1 ⟨rfl, b1⟩
    go_wp2
    go_ret
    exact ⟨rfl, BA.out.trans (b1.mono BA.out.size)⟩
end Go.Proofs.Ytfknhpkpenhflaa
