/- What the program's Print needs: builders, what is printed over lists. -/
import Derived.Test.YtfjganjihapnhaaGreatDoorQc11
set_option linter.unusedVariables false
set_option linter.unusedSimpArgs false
set_option maxRecDepth 4000
namespace Go.Proofs.YtfjganjihapnhaaGreatDoor
open Go.RowKit

theorem heap_below {X W : World} (hb : Below X.heap.size X W) {k : Nat} {o : Obj} (h : X.heap[k]? = some o) : W.heap[k]? = some o := by
  have hlt : k < X.heap.size := (Array.getElem?_eq_some_iff.1 h).1
  rw [hb.block k hlt]
  exact h
theorem builder_below {T e : TypeId} {B b : Nat} {bs : List Value} {X W : World} (h : Lib.IsBuilderF T e B b bs X) (hb : Below X.heap.size X W) : Lib.IsBuilderF T e B b bs W := by
  have one : ∀ p, Lib.BuilderAtF T e B b p bs X → Lib.BuilderAtF T e B b p bs W := by
    rintro p ⟨h1, v, h2, h3, h4⟩
    refine ⟨h1, v, heap_below hb h2, ⟨h3.1, ?_⟩, h4⟩
    rcases h3.2 with h | ⟨g, cap, cur, fz, q1, q2, q3, q4⟩
    · exact .inl h
    · exact .inr ⟨g, cap, cur, fz, q1, q2, heap_below hb q3, q4⟩
  rcases h with h | h
  · exact .inl (one _ h)
  · exact .inr (one _ h)
/-- A list that is owned stays while a builder elsewhere is written. -/
theorem stay_own {B b C n : Nat} {X : World} {v : Value} {l : List Bs} (h : X.ownsRow C 9 1 v n (textsV l)) (hb : b < C) : StayL B b X v l := by
  intro W _ ho
  refine (owns_isW (w := W) (B := C) (n := n) ⟨h.1, ?_⟩).1
  rcases h.2 with h | ⟨g, cap, cur, q1, q2, q3, q4⟩
  · exact .inl h
  · exact .inr ⟨g, cap, cur, q1, q2, ho g _ q3 (by simp; omega) (by intro c fz e; injection e with e1 e2; revert e2; decide), q4⟩
theorem stay_low {B b : Nat} {w0 X : World} {v : Value} {l : List Bs} (h : IsW w0 v l) (hx : Below w0.heap.size w0 X) (hB : w0.heap.size ≤ B) : StayL B b X v l := fun W hb _ => h.below (hx.trans (hb.mono hB))
def rulesP (rs : List RV) : Bs := rs.flatMap fun r => putL elemN (r.nm.data.toList :: r.at_)
theorem put_elem (nm : Bs) (a : List Bs) : putL elemN (nm :: a) = saidL (elemN ++ 32 :: nm) a := by
  unfold putL saidL
  rw [if_neg (by simp)]
  simp
theorem rulesP_step (rs : List RV) (k : Nat) (r : RV) (h : rs[k]? = some r) : rulesP (rs.take (k + 1)) = rulesP (rs.take k) ++ putL elemN (r.nm.data.toList :: r.at_) := by
  obtain ⟨hlt, rfl⟩ := List.getElem?_eq_some_iff.1 h
  rw [List.take_succ_eq_append_getElem hlt]
  unfold rulesP
  rw [List.flatMap_append, List.flatMap_singleton]
theorem print_is (p : PV) : printL p.po = putL deepN [numL p.de.toNat] ++ rulesP p.rs ++ putL linkN p.li ++ putL schemeN p.sc ++ putL dropN p.dr := by
  unfold printL
  have e : p.po.ru.flatMap (fun r => saidL (elemN ++ 32 :: r.nm) r.at_) = rulesP p.rs := by
    unfold rulesP
    show (p.rs.map RV.ru).flatMap _ = _
    rw [List.flatMap_map]
    congr 1
  rw [e]
  rfl
theorem putL_len (f : Bs) (l : List Bs) (hf : f.length ≤ 1000) (h : ∀ x ∈ l, x.length ≤ 1000000) (hl : l.length ≤ 2000) : (putL f l).length ≤ 2000003001 := by
  unfold putL
  split
  · simp
  · have h1 := wordsP_len l h
    have h2 : l.length * 1000001 ≤ 2000 * 1000001 := Nat.mul_le_mul_right _ hl
    unfold saidL
    rw [List.length_append, List.length_append]
    have e : (l.flatMap fun x => 32 :: x).length = (wordsP l).length := rfl
    rw [e]
    simp only [List.length_cons, List.length_nil]
    omega
theorem rulesP_len (rs : List RV) (h : ∀ r ∈ rs, r.at_.length ≤ 1000 ∧ r.nm.size ≤ 1000000 ∧ ∀ x ∈ r.at_, x.length ≤ 1000000) : (rulesP rs).length ≤ rs.length * 2000003001 := by
  induction rs with
  | nil => simp [rulesP]
  | cons r t ih =>
    have h2 := ih (fun x hx => h x (List.mem_cons_of_mem _ hx))
    obtain ⟨a1, a2, a3⟩ := h r List.mem_cons_self
    have h3 := putL_len elemN (r.nm.data.toList :: r.at_) (by decide) (fun x hx => by
      rcases List.mem_cons.1 hx with rfl | hx
      · rw [← size_list]; exact a2
      · exact a3 x hx) (by rw [List.length_cons]; omega)
    have e : rulesP (r :: t) = putL elemN (r.nm.data.toList :: r.at_) ++ rulesP t := rfl
    rw [e, List.length_append, List.length_cons]
    omega
theorem dec_num : ∀ n < 100, Lib.decDigits n = numL n := by
  intro n hn
  unfold numL figL
  by_cases h : n < 10
  · rw [if_neg (by omega)]
    unfold Lib.decDigits
    rw [dif_pos h, Nat.mod_eq_of_lt h]
  · rw [if_pos (by omega)]
    unfold Lib.decDigits
    rw [dif_neg h]
    unfold Lib.decDigits
    rw [dif_pos (by omega), Nat.mod_eq_of_lt (show n / 10 < 10 by omega), Nat.mod_mod]
theorem check_deep {p : PO} (h : checkP p = 0) : 1 ≤ p.de ∧ p.de ≤ 60 := by
  have hok : okP p = true := by
    unfold checkP at h
    split at h
    · omega
    · split at h
      · assumption
      · omega
  unfold okP at hok
  simp only [Bool.and_eq_true, decide_eq_true_eq] at hok
  exact ⟨hok.1.1.1.1.1.1, hok.1.1.1.1.1.2⟩
theorem own_one (X : World) (s : ByteArray) : (X.alloc (.cells #[.string s] 9)).ownsRow X.heap.size 9 1 (.slice (some ⟨X.heap.size, 0, none⟩) 1 1) 1 (textsV [s.data.toList]) :=
  ⟨rfl, .inr ⟨X.heap.size, 1, #[.string s], rfl, Nat.le_refl _, by show (Array.push X.heap _)[X.heap.size]? = _; simp, Nat.le_refl _, by decide, rfl, rfl⟩⟩
end Go.Proofs.YtfjganjihapnhaaGreatDoor
