/- A start tag that is written out, and an end tag, read by the program's Next. -/
import Derived.Test.YtlfjmgniflkapaaDoorLawQ
set_option linter.unusedVariables false
set_option linter.unusedSimpArgs false
namespace Go.Proofs.YtlfjmgniflkapaaDoor
open Go.RowKit

theorem below_drawsB (B : Nat) (w : World) (n : Nat) : Below B w (w.drewN n) := ⟨rfl, rfl, rfl, Nat.le_refl _, fun _ _ => rfl⟩
theorem wrote_app : ∀ a b : AttrL, wroteA (a ++ b) = wroteA a ++ wroteA b
  | [], b => rfl
  | x :: r, b => by simp [wroteA, wrote_app r b]
theorem wrote_one (aa : AttrL) (k : Nat) (h : k < aa.length) : wroteA (aa.take (k + 1)) = wroteA (aa.take k) ++ 32 :: (aa[k].1 ++ 61 :: quotedL aa[k].2) := by
  rw [List.take_succ_eq_append_getElem h, wrote_app]
  simp [wroteA, quotedL]
theorem ok_one (aa : AttrL) (k : Nat) (h : k < aa.length) (h0 : okA (aa.take k)) (hs : smallL aa[k].1 = true) : okA (aa.take (k + 1)) := by
  rw [List.take_succ_eq_append_getElem h]
  intro a ha
  rcases List.mem_append.1 ha with ha | ha
  · exact h0 a ha
  · obtain rfl : a = aa[k] := by simpa using ha
    unfold smallL at hs
    rw [Bool.and_eq_true, Bool.and_eq_true] at hs
    refine ⟨fun e => ?_, hs.1⟩
    have := of_decide_eq_true hs.2.1
    rw [e] at this
    exact absurd this (by decide)
theorem names_one (aa : AttrL) (k : Nat) (h : k < aa.length) (h0 : (namesA (aa.take k)).Nodup) (hd : ∀ i (hi : i < aa.length), i < k → ¬ aa[i].1 = aa[k].1) : (namesA (aa.take (k + 1))).Nodup := by
  rw [List.take_succ_eq_append_getElem h]
  unfold namesA at h0 ⊢
  rw [List.map_append]
  refine List.nodup_append.2 ⟨h0, by simp, ?_⟩
  intro a ha b hb e
  obtain rfl : b = aa[k].1 := by simpa using hb
  obtain ⟨x, hx, rfl⟩ := List.mem_map.1 ha
  obtain ⟨i, hi, rfl⟩ := List.mem_iff_getElem.1 hx
  rw [List.length_take] at hi
  rw [List.getElem_take] at e
  exact hd i (by omega) (by omega) e
theorem wrote_more (S nk q nm : ByteArray) (aa : AttrL) (k : Nat) (h : k < aa.length) (hS : S.data.toList = 60 :: (nm.data.toList ++ wroteA (aa.take k))) (hn : nk.data.toList = aa[k].1) (hq : q.data.toList = quotedL aa[k].2) :
    ((((S ++ (⟨#[32]⟩ : ByteArray)) ++ nk) ++ (⟨#[61]⟩ : ByteArray)) ++ q).data.toList = 60 :: (nm.data.toList ++ wroteA (aa.take (k + 1))) := by
  rw [str_app _ _ _ _ (str_app _ _ _ _ (str_app _ _ _ _ (str_app _ _ _ _ hS (rfl : (⟨#[32]⟩ : ByteArray).data.toList = [32])) hn) (rfl : (⟨#[61]⟩ : ByteArray).data.toList = [61])) hq, wrote_one aa k h]
  simp
theorem wrote_size (S nk q : ByteArray) (k : Nat) (hS : S.size ≤ 30 + 400 * k) (hn : nk.size ≤ 20) (hq : q.size ≤ 362) : ((((S ++ (⟨#[32]⟩ : ByteArray)) ++ nk) ++ (⟨#[61]⟩ : ByteArray)) ++ q).size ≤ 30 + 400 * (k + 1) := by
  rw [ByteArray.size_append, ByteArray.size_append, ByteArray.size_append, ByteArray.size_append]
  show S.size + 1 + nk.size + 1 + q.size ≤ _
  omega
theorem quoted_is (v : ByteArray) (hv : v.size ≤ 60) : ∃ q : ByteArray, q.data.toList = quotedL v.data.toList ∧ q.size ≤ 362 ∧ ∀ w : World, Calls Tryd.prog 12 #[.string v] w fun e w' => e = .returned (.string q) ∧ w' = w := by
  have hz : (⟨(quotedL v.data.toList).toArray⟩ : ByteArray).size = (quotedL v.data.toList).length := rfl
  by_cases hlen : (quotedL v.data.toList).length ≤ 362
  · refine ⟨⟨(quotedL v.data.toList).toArray⟩, rfl, by rw [hz]; exact hlen, fun w => (lquoted_any v (by omega) w).mono ?_⟩
    rintro e w1 ⟨⟨q, rfl, hq, _⟩, rfl⟩
    exact ⟨by rw [str_of q _ hq], rfl⟩
  · refine ⟨⟨(quotedL v.data.toList).toArray⟩, rfl, ?_, fun w => (lquoted_any v (by omega) w).mono ?_⟩
    · exfalso
      apply hlen
      have hb : ∀ l : List UInt8, (escQ l).length ≤ 6 * l.length := by
        intro l
        induction l with
        | nil => simp [escQ]
        | cons c r ih =>
          simp only [escQ]
          split
          · simp; omega
          · split
            · simp; omega
            · simp; omega
      have h1 := hb v.data.toList
      rw [← size_list] at h1
      simp only [quotedL, List.length_cons, List.length_append, List.length_nil]
      omega
    · rintro e w1 ⟨⟨q, rfl, hq, _⟩, rfl⟩
      exact ⟨by rw [str_of q _ hq], rfl⟩
theorem small_len (l : List UInt8) (h : smallL l = true) : l ≠ [] ∧ l.all smallC = true ∧ l.length ≤ 20 := by
  unfold smallL at h
  rw [Bool.and_eq_true, Bool.and_eq_true] at h
  refine ⟨fun e => ?_, h.1, of_decide_eq_true h.2.2⟩
  have := of_decide_eq_true h.2.1
  rw [e] at this
  exact absurd this (by decide)

theorem next_tag (S nm r : ByteArray) (aa : AttrL) (cl : Bool) (hS : S.size ≤ 10000) (hr : r.size ≤ 200) (hl : S.data.toList = 60 :: (nm.data.toList ++ (wroteA aa ++ strokeL cl))) (hnm : smallL nm.data.toList = true) (hok : okA aa) (hnd : (namesA aa).Nodup) (w : World) (he : Env w) :
    Calls Tryd.prog 10 #[.string ((S ++ (⟨#[62]⟩ : ByteArray)) ++ r), .int .i64 0, .int .i64 0, .string ⟨#[]⟩, .bool false] w fun e w' => (∃ sv, IsA w' sv aa ∧ e = .returned (.tuple #[.agg #[.int .i64 2, .string nm, sv, .bool cl, .string ⟨#[]⟩], .int .i64 ((S.size + 1 : Nat) : Int)])) ∧ Below w.heap.size w w' := by
  have hlist : ((S ++ (⟨#[62]⟩ : ByteArray)) ++ r).data.toList = 60 :: (nm.data.toList ++ (wroteA aa ++ (strokeL cl ++ 62 :: r.data.toList))) := by
    rw [str_app _ _ _ _ (str_app _ _ _ _ hl (rfl : (⟨#[62]⟩ : ByteArray).data.toList = [62])) rfl]
    simp
  have hsz : ((S ++ (⟨#[62]⟩ : ByteArray)) ++ r).size = S.size + 1 + r.size := by
    rw [ByteArray.size_append, ByteArray.size_append]
    rfl
  have hh := pnext_in ((S ++ (⟨#[62]⟩ : ByteArray)) ++ r) ⟨#[]⟩ (by rw [hsz]; omega) (by decide) 0 (by rw [hsz]; omega) 0 false w he
  obtain ⟨s1, s2, s3⟩ := small_len _ hnm
  rw [List.drop_zero, hlist, show (⟨#[]⟩ : ByteArray).data.toList = [] from rfl, tag_back nm.data.toList aa cl r.data.toList s1 s2 hok hnd] at hh
  refine hh.mono ?_
  rintro e w1 ⟨⟨sv, hA, _, rfl⟩, b1⟩
  refine ⟨⟨sv, hA, ?_⟩, b1⟩
  unfold tokV
  simp only [str_self]
  rw [hsz, ← size_list, Nat.add_sub_cancel]
  rfl
theorem next_cut (S nm : ByteArray) (aa : AttrL) (cl : Bool) (hS : S.size ≤ 10000) (hl : S.data.toList = 60 :: (nm.data.toList ++ (wroteA aa ++ strokeL cl))) (hnm : smallL nm.data.toList = true) (hok : okA aa) (hnd : (namesA aa).Nodup) (w : World) (he : Env w) :
    Calls Tryd.prog 10 #[.string S, .int .i64 0, .int .i64 0, .string ⟨#[]⟩, .bool false] w fun e w' => (∃ sv, IsA w' sv [] ∧ e = .returned (.tuple #[.agg #[.int .i64 0, .string ⟨#[]⟩, sv, .bool false, .string ⟨#[]⟩], .int .i64 (S.size : Int)])) ∧ Below w.heap.size w w' := by
  have h0 : 0 < S.size := by rw [size_list, hl]; simp
  have hh := pnext_in S ⟨#[]⟩ (by omega) (by decide) 0 h0 0 false w he
  obtain ⟨s1, s2, s3⟩ := small_len _ hnm
  rw [List.drop_zero, hl, show (⟨#[]⟩ : ByteArray).data.toList = [] from rfl, tag_cut nm.data.toList aa cl s1 s2 hok hnd] at hh
  refine hh.mono ?_
  rintro e w1 ⟨⟨sv, hA, _, rfl⟩, b1⟩
  exact ⟨⟨sv, hA, rfl⟩, b1⟩
theorem next_stop (nm r : ByteArray) (hr : r.size ≤ 200) (hnm : smallL nm.data.toList = true) (w : World) (he : Env w) :
    Calls Tryd.prog 10 #[.string ((((⟨#[60, 47]⟩ : ByteArray) ++ nm) ++ (⟨#[62]⟩ : ByteArray)) ++ r), .int .i64 0, .int .i64 0, .string ⟨#[]⟩, .bool false] w fun e w' => (∃ sv, IsA w' sv [] ∧ e = .returned (.tuple #[.agg #[.int .i64 3, .string nm, sv, .bool false, .string ⟨#[]⟩], .int .i64 ((nm.size + 3 : Nat) : Int)])) ∧ Below w.heap.size w w' := by
  obtain ⟨s1, s2, s3⟩ := small_len _ hnm
  have hlist : ((((⟨#[60, 47]⟩ : ByteArray) ++ nm) ++ (⟨#[62]⟩ : ByteArray)) ++ r).data.toList = 60 :: 47 :: (nm.data.toList ++ 62 :: r.data.toList) := by
    rw [str_app _ _ _ _ (str_app _ _ _ _ (str_app _ _ _ _ (rfl : (⟨#[60, 47]⟩ : ByteArray).data.toList = [60, 47]) rfl) (rfl : (⟨#[62]⟩ : ByteArray).data.toList = [62])) rfl]
    simp
  have hsz : ((((⟨#[60, 47]⟩ : ByteArray) ++ nm) ++ (⟨#[62]⟩ : ByteArray)) ++ r).size = nm.size + 3 + r.size := by
    rw [ByteArray.size_append, ByteArray.size_append, ByteArray.size_append]
    show 2 + nm.size + 1 + r.size = _
    omega
  have hn := size_list nm
  have hh := pnext_in ((((⟨#[60, 47]⟩ : ByteArray) ++ nm) ++ (⟨#[62]⟩ : ByteArray)) ++ r) ⟨#[]⟩ (by rw [hsz]; omega) (by decide) 0 (by rw [hsz]; omega) 0 false w he
  rw [List.drop_zero, hlist, show (⟨#[]⟩ : ByteArray).data.toList = [] from rfl, data_stop nm.data.toList r.data.toList s1 s2] at hh
  refine hh.mono ?_
  rintro e w1 ⟨⟨sv, hA, _, rfl⟩, b1⟩
  refine ⟨⟨sv, hA, ?_⟩, b1⟩
  unfold tokV
  simp only [str_self]
  rw [hsz, ← size_list, Nat.add_sub_cancel]
  rfl
end Go.Proofs.YtlfjmgniflkapaaDoor
