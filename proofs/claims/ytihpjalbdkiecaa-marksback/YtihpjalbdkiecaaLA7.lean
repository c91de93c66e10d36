/- What the statements' small, copied and spoil do. -/
import Derived.Test.YtihpjalbdkiecaaRG7
import Derived.Laws.MakeOwn
set_option linter.unusedVariables false
set_option linter.unusedSimpArgs false
namespace Go.Proofs.Ytihpjalbdkiecaa
open Go.RowKit

def fewM (x : MV) : Bool := decide (x.aa.length ≤ 6)
def smallL (l : List MV) : Bool := decide (l.length ≤ 40) && l.all fewM
theorem few_step (l : List MV) (k : Nat) (h : k < l.length) : (l.drop k).all fewM = (fewM l[k] && (l.drop (k + 1)).all fewM) := by
  rw [List.drop_eq_getElem_cons h]; rfl
theorem few_end (l : List MV) (k : Nat) (h : l.length ≤ k) : (l.drop k).all fewM = true := by
  rw [List.drop_eq_nil_of_le h]; rfl
theorem small_iff (l : List MV) : smallL l = true ↔ l.length ≤ 40 ∧ ∀ x ∈ l, x.aa.length ≤ 6 := by
  unfold smallL
  rw [Bool.and_eq_true, decide_eq_true_iff, List.all_eq_true]
  constructor
  · exact fun ⟨h1, h2⟩ => ⟨h1, fun x hx => by simpa [fewM] using h2 x hx⟩
  · exact fun ⟨h1, h2⟩ => ⟨h1, fun x hx => by simpa [fewM] using h2 x hx⟩

set_option maxHeartbeats 1000000 in
theorem small_any (v : Value) (l : List MV) (w : World) (hM : RowM w v l) (hOk : OkM w l) :
    Calls Try.prog 12 #[v] w fun e w' => e = .returned (.bool (smallL l)) ∧ w' = w := by
  obtain ⟨a, c, rfl⟩ := rowM_form hM
  have HM := hide hM
  have KA := hide (fun (k : Nat) (h1 : k < l.length) => isQ_form (hOk _ (List.getElem_mem h1)))
  clear hM hOk
  generalize hV : smallL l = V
  have HV : Hid ((decide (l.length ≤ 40) && (l.drop 0).all fewM) = V) := hide (by rw [← hV, List.drop_zero]; rfl)
  clear hV
  obtain ⟨N, hN⟩ : ∃ N, N = l.length := ⟨_, rfl⟩
  rw [← hN] at HM HV ⊢
  have HNL := hide hN
  clear hN
  go_enter Try.func12, Try.ntmps12
  go_wp2
  go_loop [3] (fun i => ∃ k : Nat, k ≤ N ∧ k ≤ 40 ∧ i = .int .i64 k ∧ Hid ((decide (N ≤ 40) && (l.drop k).all fewM) = V)) (fun i => N - (intOf i).toNat)
  case atStart => exact ⟨0, Nat.zero_le _, by omega, rfl, HV⟩
  case round =>
    obtain ⟨k, hk, hk40, rfl, HR⟩ := hrel
    by_cases hltN : k < N
    · have hlt : k < l.length := by rw [← HNL.out]; exact hltN
      have hlt2 : (k : Int) < N := by omega
      by_cases h40 : k = 40
      · have HV2 : Hid (V = false) := hide (by rw [← HR.out, decide_eq_false (by omega), Bool.false_and])
        subst h40
        have hlt3 : (40 : Int) < N := by omega
        clear HR hlt
        go_wp2
        go_ret
        exact ⟨ret_bool HV2.out.symm, rfl⟩
      · obtain ⟨b, o, rfl, c0, c1, c2⟩ := HM.out.get k hlt
        obtain ⟨qa, qc, hqa⟩ := KA.out k hlt
        rw [hqa] at c2
        have hst := HR.out
        rw [few_step l k hlt] at hst
        have hfew : fewM l[k] = decide (l[k].aa.length ≤ 6) := rfl
        rw [hfew] at hst
        generalize l[k].aa.length = ql at *
        have h40' := ne_int (k : Int) 40 (by omega)
        have hk39 : k + 1 ≤ 40 := by omega
        by_cases h6 : ql ≤ 6
        · have h6' : ¬ ((6 : Int) < ql) := by omega
          have HR2 : Hid ((decide (N ≤ 40) && (l.drop (k + 1)).all fewM) = V) := hide (by rw [← hst, decide_eq_true h6, Bool.true_and])
          clear HR hst c0 c1 hqa hfew h6 h40
          go_wp2
          go_round
          case rel => exact ⟨k + 1, by omega, hk39, by go_num, HR2⟩
          case measure => simp [intOf]; omega
        · have h6' : (6 : Int) < ql := by omega
          have HV2 : Hid (V = false) := hide (by rw [← hst, decide_eq_false h6, Bool.false_and, Bool.and_false])
          clear HR hst c0 c1 hqa hfew h6 h40
          go_wp2
          go_ret
          exact ⟨ret_bool HV2.out.symm, rfl⟩
    · have hlt2 : ¬ (k : Int) < N := by omega
      have HV2 : Hid (V = true) := hide (by rw [← HR.out, few_end l k (by rw [← HNL.out]; omega), decide_eq_true (by omega)]; rfl)
      clear HR
      go_wp2
      go_ret
      exact ⟨ret_bool HV2.out.symm, rfl⟩

/-- append(out, l...), out a list of the call's own with nothing in it. -/
theorem append_all (W : World) (B g C : Nat) (v : Value) (l : List MV) (hown : W.ownsRow B 27 3 (.slice (some ⟨g, 0, none⟩) 0 C) 0 []) (hM : RowM W v l) (hOk : OkM W l) (hl : l.length ≤ 1000000) (hB : B ≤ W.heap.size) (hC : C ≤ 1000000) :
    ∃ v' w', (Builtin.append_ #[25, 25] 25 #[.slice (some ⟨g, 0, none⟩) 0 C, v]).run Try.prog W = .ok v' w' ∧ w'.ownsRow B 27 3 v' l.length (markCells l) ∧ Below B W w' := by
  have hblk := owns_own hown
  by_cases h0 : l.length = 0
  · obtain ⟨a, c, rfl⟩ := rowM_form hM
    obtain rfl := List.eq_nil_of_length_eq_zero h0
    cases a with
    | none =>
      have hr := run_append_room_src (P := Try.prog) W 25 25 25 27 Try.t27 Try.underlying25 (by kernel_rfl) g 0 0 C (.slice none 0 c) 0 [] (Src.ofNil _ Try.underlying25 c) (by omega) (by simp) (by simp)
      exact ⟨_, _, hr, hown, Below.refl _ _⟩
    | some x =>
      have hr := run_append_room_src (P := Try.prog) W 25 25 25 27 Try.t27 Try.underlying25 (by kernel_rfl) g 0 0 C (.slice (some x) 0 c) 0 [] (Src.ofSlice _ Try.underlying25 x 0 c [] (by simp) (by simp) (by simp)) (by omega) (by simp) (by simp)
      exact ⟨_, _, hr, hown, Below.refl _ _⟩
  · rcases hM with ⟨rfl, _⟩ | ⟨b, o, cap, rfl, _, hcs⟩
    · exact absurd rfl h0
    · obtain ⟨v', w', hr, ho, hg, _⟩ := run_append_own (P := Try.prog) W B 25 25 27 Try.t27 _ 3 48 Try.underlying25 (by kernel_rfl) rfl (by kernel_rfl) (by kernel_rfl) (by kernel_rfl) (by omega)
        (.slice (some ⟨g, 0, none⟩) 0 C) 0 [] hown ⟨b, o, none⟩ l.length cap (markCells l) (markCells_len l)
        (by
          intro j u hu
          have hj : j < (markCells l).length := by
            rcases Nat.lt_or_ge j (markCells l).length with h | h
            · exact h
            · rw [List.getElem?_eq_none h] at hu; cases hu
          rw [markCells_len] at hj
          have hq : j / 3 < l.length := by omega
          have hgt := markCells_get l (j / 3) hq (j % 3) (by omega)
          rw [show j / 3 * 3 + j % 3 = j by omega, hu] at hgt
          obtain ⟨c0, c1, c2⟩ := hcs (j / 3) hq
          have hc : W.cell? ⟨b, o + j, none⟩ = some u := by
            rcases (by omega : j % 3 = 0 ∨ j % 3 = 1 ∨ j % 3 = 2) with h | h | h
            · rw [h] at hgt
              rw [show o + j = o + j / 3 * 3 by omega, c0, hgt]; rfl
            · rw [h] at hgt
              rw [show o + j = o + j / 3 * 3 + 1 by omega, c1, hgt]; rfl
            · rw [h] at hgt
              rw [show o + j = o + j / 3 * 3 + 2 by omega, c2, hgt]; rfl
          rw [addr_add]
          exact hc)
        (markCells_1c l hOk) (by unfold maxLen; omega) (by omega) hB
      rw [Nat.zero_add] at ho
      exact ⟨v', w', hr, ho, (Below.refl _ _).grown hg hB hblk⟩

set_option maxHeartbeats 1000000 in
theorem copied_any (v : Value) (l : List MV) (hl : l.length ≤ 100000) (w : World) (hM : RowM w v l) (hOk : OkM w l) :
    Calls Try.prog 13 #[v] w fun e w' => (∃ v', e = .returned v' ∧ NewM w.heap.size w' v' l) ∧ Below w.heap.size w w' := by
  obtain ⟨a, c, rfl⟩ := rowM_form hM
  obtain ⟨w1, hmk, hown, hgr⟩ := run_make_own (P := Try.prog) w w.heap.size 25 27 Try.t27 _ 3 Try.underlying25 (by kernel_rfl) rfl (by kernel_rfl) .i64 .i64 (l.length + 2) (by
    have : Try.t27.bytes = 48 := by kernel_rfl
    rw [this]; omega) (by unfold maxLen; omega) (Nat.le_refl _)
  have b1 : Below w.heap.size w w1 := (Below.refl _ _).grown hgr (Nat.le_refl _) (fun k h => by cases h)
  obtain ⟨v', w2, hr, ho, hb⟩ := append_all w1 w.heap.size w.heap.size (l.length + 2) (.slice a l.length c) l hown (hM.below b1) (hOk.below b1) (by omega) b1.size (by omega)
  obtain ⟨a2, c2, rfl⟩ := owns_form ho
  have HN := hide (owns_new ho)
  have BF := hide (b1.trans hb)
  have HR := hide hr
  obtain ⟨N, hN⟩ : ∃ N, N = l.length := ⟨_, rfl⟩
  rw [← hN] at hmk HR HN hl ⊢
  have hmk2 : (Instr.makeSlice 25 (.int .i64 0) (.int .i64 ((N : Int) + 2))).run Try.prog w = .ok (.slice (some ⟨w.heap.size, 0, none⟩) 0 (N + 2)) w1 := by
    have e : ((N + 2 : Nat) : Int) = (N : Int) + 2 := by omega
    rw [← e]; exact hmk
  clear hmk hown hgr b1 hr ho hb hM hOk hN
  go_enter Try.func13, Try.ntmps13
  go_wp2_with (with_reducible refine wpList_append_run rfl _ _ 25 rfl (.slice (some ⟨w.heap.size, 0, none⟩) 0 (N + 2)) (.slice a N c) _ w2 rfl rfl HR.out ?_)
  go_ret
  exact ⟨⟨_, rfl, HN.out⟩, BF.out⟩
/-- What a list is good for that is written over: its cells lie there, in blocks from B on, and may be written. -/
def OpenM (B : Nat) (w : World) (b o n : Nat) : Prop := B ≤ b ∧ ∀ j, j < n → (∃ x, w.cell? ⟨b, o + j * 3 + 1, none⟩ = some x) ∧ w.frozen? ⟨b, o + j * 3 + 1, none⟩ = false
theorem OpenM.set {B : Nat} {w : World} {b o n : Nat} (h : OpenM B w b o n) (k : Nat) (x : Value) : OpenM B (w.setCell ⟨b, o + k * 3 + 1, none⟩ x) b o n := by
  refine ⟨h.1, fun j hj => ?_⟩
  obtain ⟨⟨y, hy⟩, hf⟩ := h.2 j hj
  refine ⟨?_, by rw [World.frozen?_setCell]; exact hf⟩
  by_cases e : j = k
  · subst e
    exact ⟨x, World.cell?_setCell_same w _ _ (by rw [hy])⟩
  · exact ⟨y, by rw [World.cell?_setCell_other _ _ _ _ (by intro he; injection he with _ he _; omega)]; exact hy⟩
theorem new_open {B : Nat} {w : World} {a : Option Addr} {n c : Nat} {l : List MV} (h : NewM B w (.slice a n c) l) (hn : 0 < l.length) : ∃ b o, a = some ⟨b, o, none⟩ ∧ OpenM B w b o l.length := by
  rcases h with ⟨rfl, _⟩ | ⟨b, o, cap, e, _, hB, hc, hf⟩
  · simp at hn
  · simp only [Value.slice.injEq] at e
    obtain ⟨rfl, -, -⟩ := e
    exact ⟨b, o, rfl, hB, fun j hj => ⟨⟨_, (hc j hj).2.1⟩, hf j hj⟩⟩
theorem new_form {B : Nat} {w : World} {v : Value} {l : List MV} (h : NewM B w v l) : ∃ a c, v = .slice a l.length c := rowM_form h.row

set_option maxHeartbeats 1000000 in
theorem spoil_any (B : Nat) (v : Value) (l : List MV) (hl : l.length ≤ 100000) (w : World) (hM : NewM B w v l) :
    Calls Try.prog 23 #[v] w fun e w' => e = .returned (.tuple #[]) ∧ Below B w w' := by
  obtain ⟨a, c, rfl⟩ := new_form hM
  have HM := hide (new_open hM)
  clear hM
  obtain ⟨N, hN⟩ : ∃ N, N = l.length := ⟨_, rfl⟩
  rw [← hN] at HM hl ⊢
  clear hN
  go_enter Try.func23, Try.ntmps23
  go_wp2
  go_loopw [2] (fun i wr => ∃ k : Nat, k ≤ N ∧ i = .int .i64 k ∧ Hid (Below B w wr) ∧ Hid (0 < N → ∃ b o, a = some ⟨b, o, none⟩ ∧ OpenM B wr b o N)) (fun i _ => N - (intOf i).toNat)
  case atStart => exact ⟨0, Nat.zero_le _, rfl, hide (Below.refl _ _), HM⟩
  case round =>
    obtain ⟨k, hk, rfl, BW, HO⟩ := hrel
    by_cases hltN : k < N
    · have hlt2 : (k : Int) < N := by omega
      obtain ⟨b, o, rfl, hop⟩ := HO.out (by omega)
      obtain ⟨⟨x, hx⟩, hf⟩ := hop.2 k hltN
      have HO2 := hide (hop.set k (.string ⟨#[115, 112, 111, 105, 108, 116]⟩))
      have HB2 := hide (BW.out.setCell (p := ⟨b, o + k * 3 + 1, none⟩) hop.1 (.string ⟨#[115, 112, 111, 105, 108, 116]⟩))
      clear hop HO hltN
      go_wp2
      go_roundw
      case rel => exact ⟨k + 1, by omega, by go_num, HB2, hide fun _ => ⟨b, o, rfl, HO2.out⟩⟩
      case measure => simp [intOf]; omega
    · have hlt2 : ¬ (k : Int) < N := by omega
      clear hltN
      go_wp2
      go_end0
      exact ⟨rfl, BW.out⟩
end Go.Proofs.Ytihpjalbdkiecaa
