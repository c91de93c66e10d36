/- What last answers, of whatever list and whatever is asked: the closure by its contract. -/
import Derived.Test.YtfknhpkpenhflaaPB6
set_option linter.unusedVariables false
set_option linter.unusedSimpArgs false
namespace Go.Proofs.Ytfknhpkpenhflaa
open Go.RowKit

/-- A list of open elements lies there. -/
def IsO (w : World) (v : Value) (l : List OV) : Prop := (l = [] ∧ ∃ a c, v = .slice a 0 c) ∨ ∃ b o cap, v = .slice (some ⟨b, o, none⟩) l.length cap ∧
  ∀ j (hj : j < l.length), w.cell? ⟨b, o + j * 3, none⟩ = some (.int .i64 l[j].id) ∧ w.cell? ⟨b, o + j * 3 + 1, none⟩ = some (.int .i64 l[j].sp) ∧ w.cell? ⟨b, o + j * 3 + 2, none⟩ = some (.string l[j].nm)
theorem IsO.below {w W : World} {v : Value} {l : List OV} (h : IsO w v l) (hb : Below w.heap.size w W) : IsO W v l := by
  rcases h with h | ⟨b, o, cap, rfl, hc⟩
  · exact .inl h
  · refine .inr ⟨b, o, cap, rfl, fun j hj => ?_⟩
    obtain ⟨h0, h1, h2⟩ := hc j hj
    exact ⟨by rw [hb.cell (cell_lt h0)]; exact h0, by rw [hb.cell (cell_lt h1)]; exact h1, by rw [hb.cell (cell_lt h2)]; exact h2⟩
theorem IsO.drew {w : World} {v : Value} {l : List OV} (h : IsO w v l) : IsO w.drew v l := h
theorem isO_form {w : World} {v : Value} {l : List OV} (h : IsO w v l) : ∃ a c, v = .slice a l.length c := by
  rcases h with ⟨rfl, a, c, rfl⟩ | ⟨b, o, c, rfl, _⟩
  · exact ⟨_, _, rfl⟩
  · exact ⟨_, _, rfl⟩
theorem IsO.get {w : World} {a : Option Addr} {n c : Nat} {l : List OV} (h : IsO w (.slice a n c) l) (j : Nat) (hj : j < l.length) : ∃ b o, a = some ⟨b, o, none⟩ ∧
    w.cell? ⟨b, o + j * 3, none⟩ = some (.int .i64 l[j].id) ∧ w.cell? ⟨b, o + j * 3 + 1, none⟩ = some (.int .i64 l[j].sp) ∧ w.cell? ⟨b, o + j * 3 + 2, none⟩ = some (.string l[j].nm) := by
  rcases h with ⟨rfl, _⟩ | ⟨b, o, c', e, h⟩
  · exact absurd hj (by simp)
  · simp only [Value.slice.injEq] at e
    obtain ⟨rfl, -, -⟩ := e
    exact ⟨b, o, rfl, h j hj⟩

theorem isW_form {w : World} {v : Value} {l : List (List UInt8)} (h : IsW w v l) : ∃ a c, v = .slice a l.length c := by
  rcases h with ⟨rfl, a, c, rfl⟩ | ⟨b, o, c, rfl, _⟩
  · exact ⟨_, _, rfl⟩
  · exact ⟨_, _, rfl⟩

set_option maxHeartbeats 1000000 in
theorem last_any (F : Nat) (caps : List Value) (p : OV → Bool) (l : List OV) (hl : l.length ≤ 1000000) (v : Value) (w : World) (hO : IsO w v l) (hen : ∀ (args : Array Value) (w : World), (callFunc F args).run Try.prog w = .ok (.enter F args) w)
    (hf : ∀ (o : OV) (w1 : World), Below w.heap.size w w1 → Calls Try.prog F (.agg #[.int .i64 o.id, .int .i64 o.sp, .string o.nm] :: caps).toArray w1 fun e w' => e = .returned (.bool (p o)) ∧ Below w1.heap.size w1 w') :
    Calls Try.prog 31 #[v, .func (.func F) #[] caps.toArray] w fun e w' => e = .returned (.int .i64 (placeZ (lastO p l l.length))) ∧ Below w.heap.size w w' := by
  obtain ⟨a, c, rfl⟩ := isO_form hO
  have HO := hide hO
  have HF := hide hf
  clear hO hf
  generalize hV : lastO p l l.length = V
  have HV := hide hV
  clear hV
  go_enter Try.func31, Try.ntmps31
  go_wp2
  go_loopw [5] (fun i wr => ∃ k : Nat, k ≤ l.length ∧ i = .int .i64 ((k : Int) - 1) ∧ Below w.heap.size w wr ∧ Hid (lastO p l k = V)) (fun i _ => (intOf i + 1).toNat)
  case atStart => exact ⟨l.length, Nat.le_refl _, by go_num, Below.refl _ w, HV⟩
  case round =>
    obtain ⟨k, hk, rfl, bw, HR⟩ := hrel
    cases k with
    | zero =>
      have HV2 : Hid (placeZ V = -1) := hide (by rw [← HR.out]; rfl)
      clear HR
      go_wp2
      go_ret
      exact ⟨ret_int HV2.out.symm, bw⟩
    | succ j =>
      have hj : j < l.length := by omega
      obtain ⟨b, o, rfl, c0, c1, c2⟩ := (HO.out.below bw).get j hj
      have HQ := hide (HF.out l[j] wr bw)
      have hh := last_hit p l j hj
      have hm := last_miss p l j hj
      generalize hP : p l[j] = P at *
      generalize hE : l[j] = el at *
      obtain ⟨id, sp, nm⟩ := el
      simp only [] at c0 c1 c2 HQ
      have e1 : ((j + 1 : Nat) : Int) - 1 = (j : Int) := by omega
      rw [e1]
      have hlt : (j : Int) < l.length := by omega
      have HH := hide hh
      have HM := hide hm
      clear hh hm hP hE e1
      go_wp2_with fail
      refine HQ.out.mono ?_
      rintro e w1 ⟨rfl, b1⟩
      have b2 := bw.trans (b1.mono bw.size)
      clear c0 c1 c2
      cases P with
      | true =>
        have HV2 : Hid (placeZ V = (j : Int)) := hide (by rw [← HR.out, HH.out rfl]; rfl)
        clear HH HM HR
        go_wp2
        go_ret
        exact ⟨ret_int HV2.out.symm, b2⟩
      | false =>
        have HR2 : Hid (lastO p l j = V) := hide (by rw [← HR.out, HM.out rfl])
        clear HH HM HR
        go_wp2
        go_roundw
        case rel => exact ⟨j, by omega, by go_num, b2, HR2⟩
        case measure => simp [intOf]
end Go.Proofs.Ytfknhpkpenhflaa
