/- The program's attr: an attribute, and what is left. -/
import Derived.Test.YtlfjmgniflkapaaDoorRdB
import Derived.Test.YtlfjmgniflkapaaDoorLowP
import Derived.Test.YtlfjmgniflkapaaDoorWalkPH
set_option linter.unusedVariables false
set_option linter.unusedSimpArgs false
namespace Go.Proofs.YtlfjmgniflkapaaDoor
open Go.RowKit

/-- What the program reads of its package's variables: the table, and the library's number. -/
def Env (w : World) : Prop := OldOk w ∧ ∃ m, w.cell? ⟨1, 0, none⟩ = some (.int .i64 m)
theorem Env.two {w : World} (h : Env w) : 2 ≤ w.heap.size := by
  obtain ⟨m, hm⟩ := h.2
  have := cell_lt hm
  simp only at this
  omega
theorem Env.but {b : Nat} {w w1 : World} (h : Env w) (hb : But b w w1) (h2 : 2 ≤ b) : Env w1 := by
  have hz := h.two
  refine ⟨fun j hj => ?_, ?_⟩
  · rw [hb.cell (p := ⟨0, j, none⟩) (by simp only; omega) (by simp only; omega)]
    exact h.1 j hj
  · obtain ⟨m, hm⟩ := h.2
    exact ⟨m, by rw [hb.cell (p := ⟨1, 0, none⟩) (by simp only; omega) (by simp only; omega)]; exact hm⟩
theorem Env.below {w w1 : World} (h : Env w) (hb : Below w.heap.size w w1) : Env w1 := h.but (But.of (b := 2) hb) (Nat.le_refl _)
theorem Env.alloc {w : World} (h : Env w) (o : Obj) : Env (w.alloc o) := h.below (below_alloc w o)
/-- One struct as the answer. -/
theorem results_cell_one {fn : Func} {p : Tmp} {ty : TypeId} (h : fn.results = #[.cell p ty]) (tmps : Array Value) (P : Program) (w : World) :
    (results fn tmps).run P w = ((asAddr (tmps.getD p undef)).run P w).andThen fun a w₁ => (loadVar ty a).run P w₁ := by
  simp only [results, h]
  simp
/-- Block k holds these cells, and may be written. -/
def Kept (w : World) (k : Nat) (cs : List Value) : Prop := (∀ o, w.cell? ⟨k, o, none⟩ = cs[o]?) ∧ ∀ o, w.frozen? ⟨k, o, none⟩ = false
theorem Kept.lt {w : World} {k : Nat} {v : Value} {cs : List Value} (h : Kept w k (v :: cs)) : k < w.heap.size := cell_lt (a := ⟨k, 0, none⟩) (h.1 0)
theorem Kept.new (w : World) (cs : List Value) (T : TypeId) : Kept (w.alloc (.cells cs.toArray T)) w.heap.size cs :=
  ⟨fun o => by rw [World.cell?_alloc_mark]; simp, fun o => by simp [go_sem]⟩
theorem Kept.but {b k : Nat} {w w1 : World} {v : Value} {cs : List Value} (h : Kept w k (v :: cs)) (hb : But b w w1) (hn : k ≠ b) : Kept w1 k (v :: cs) :=
  ⟨fun o => by rw [hb.cell (p := ⟨k, o, none⟩) h.lt hn]; exact h.1 o, fun o => by rw [hb.frozen (p := ⟨k, o, none⟩) h.lt hn]; exact h.2 o⟩
theorem Kept.below {k : Nat} {w w1 : World} {v : Value} {cs : List Value} (h : Kept w k (v :: cs)) (hb : Below w.heap.size w w1) : Kept w1 k (v :: cs) :=
  ⟨fun o => by rw [hb.cell (p := ⟨k, o, none⟩) h.lt]; exact h.1 o, fun o => by rw [hb.frozen (p := ⟨k, o, none⟩) h.lt]; exact h.2 o⟩
theorem Kept.alloc {k : Nat} {w : World} {v : Value} {cs : List Value} (h : Kept w k (v :: cs)) (o : Obj) : Kept (w.alloc o) k (v :: cs) := h.below (below_alloc w o)
theorem Kept.other {k : Nat} {w : World} {cs : List Value} (h : Kept w k cs) (a : Addr) (ha : a.block ≠ k) (u : Value) : Kept (w.setCell a u) k cs :=
  ⟨fun o => by rw [World.cell?_setCell_other w _ _ _ (by intro he; exact ha (congrArg Addr.block he))]; exact h.1 o, fun o => by rw [World.frozen?_setCell]; exact h.2 o⟩
theorem Kept.set {k : Nat} {w : World} {cs : List Value} (h : Kept w k cs) (i : Nat) (hi : i < cs.length) (u : Value) : Kept (w.setCell ⟨k, i, none⟩ u) k (cs.set i u) := by
  refine ⟨fun o => ?_, fun o => by rw [World.frozen?_setCell]; exact h.2 o⟩
  by_cases e : i = o
  · subst e
    rw [World.cell?_setCell_same w _ _ (by rw [h.1 i, List.getElem?_eq_getElem hi]), List.getElem?_set_self hi]
  · rw [World.cell?_setCell_other w _ _ _ (by intro he; exact e (congrArg Addr.off he)), h.1 o, List.getElem?_set_ne e]

theorem rawV_len (r : List UInt8) : (rawV r).1.length ≤ r.length := by
  unfold rawV
  have h : ∀ (t q : List UInt8), (findR t q).1.length ≤ q.length := fun t q => by
    have := congrArg List.length (findR_app t q)
    rw [List.length_append] at this
    omega
  split
  · have := h [34] (r.drop 1)
    rw [List.length_drop] at this
    simp only
    omega
  · split
    · have := h [39] (r.drop 1)
      rw [List.length_drop] at this
      simp only
      omega
    · exact (List.takeWhile_prefix valB).length_le
/-- An attribute whose first byte is c, and what is left. -/
def attrL (c : UInt8) (r2 : List UInt8) : (List UInt8 × List UInt8) × List UInt8 :=
  if [61].isPrefixOf ((r2.dropWhile attrB).dropWhile isSp) then ((lowerL (c :: r2.takeWhile attrB), (valueL ((((r2.dropWhile attrB).dropWhile isSp).drop 1).dropWhile isSp)).1), (valueL ((((r2.dropWhile attrB).dropWhile isSp).drop 1).dropWhile isSp)).2)
  else ((lowerL (c :: r2.takeWhile attrB), []), (r2.dropWhile attrB).dropWhile isSp)
theorem tail_attr (aa : AttrL) (r : List UInt8) (c : UInt8) (r2 : List UInt8) (h : r.dropWhile passB = c :: r2) (hc : c ≠ 62) : tailT aa r = tailT (addA aa (attrL c r2).1) (attrL c r2).2 := by
  unfold attrL
  cases hd : (r2.dropWhile attrB).dropWhile isSp with
  | nil =>
    rw [if_neg (by simp [List.isPrefixOf]), tail_plain aa r c r2 h hc (by rw [hd]; simp), hd]
  | cons d r4 =>
    by_cases h61 : d = 61
    · subst h61
      rw [if_pos (by simp [List.isPrefixOf]), tail_value aa r c r2 r4 h hc hd]
      rfl
    · have e : ¬ (61 : UInt8) = d := fun e => h61 e.symm
      rw [if_neg (by simp [List.isPrefixOf, e]), tail_plain aa r c r2 h hc (by rw [hd]; simpa using h61), hd]
theorem attrL_len (c : UInt8) (r2 : List UInt8) : (attrL c r2).2.length ≤ r2.length := by
  unfold attrL
  have h1 := dw_le attrB r2
  have h2 := dw_le isSp (r2.dropWhile attrB)
  split
  · have h3 := valueL_le ((((r2.dropWhile attrB).dropWhile isSp).drop 1).dropWhile isSp)
    have h4 := dw_le isSp (((r2.dropWhile attrB).dropWhile isSp).drop 1)
    rw [List.length_drop] at h4
    simp only
    omega
  · simp only
    omega
theorem attrL_name (c : UInt8) (r2 : List UInt8) : (attrL c r2).1.1.length ≤ r2.length + 1 := by
  unfold attrL
  have h := (List.takeWhile_prefix attrB (l := r2)).length_le
  have e : (lowerL (c :: r2.takeWhile attrB)).length ≤ r2.length + 1 := by
    rw [plower_length, List.length_cons]
    omega
  split <;> exact e
theorem take1_any (s : ByteArray) (hs : s.size ≤ 100000) (b : Nat) (c : UInt8) (r2 : List UInt8) (w : World) (hR : RdL w b s (c :: r2)) : ∃ p : Nat, p < s.size ∧ RdP w b s p ∧
    Calls Tryd.prog 20 #[.pointer (some ⟨b, 0, none⟩), .int .i64 ((p : Int) + 1)] w fun e w' => e = .returned (.string ⟨#[c]⟩) ∧ RdL w' b s r2 ∧ But b w w' := by
  obtain ⟨p, hp, hd, hP⟩ := hR
  have hlt : p < s.size := by
    rcases Nat.lt_or_ge p s.size with h | h
    · exact h
    · rw [drop_end s p h] at hd; cases hd
  rw [drop_cons s p hlt] at hd
  obtain ⟨h1, h2⟩ := List.cons.inj hd
  refine ⟨p, hlt, hP, ?_⟩
  have ht := take_any s hs b p (p + 1) (by omega) (by omega) w hP
  rw [show ((p + 1 : Nat) : Int) = (p : Int) + 1 by omega] at ht
  refine ht.mono ?_
  rintro e w1 ⟨rfl, rfl⟩
  have hset := hP.set (p + 1)
  rw [show ((p + 1 : Nat) : Int) = (p : Int) + 1 by omega] at hset
  refine ⟨?_, ⟨p + 1, by omega, h2, hset⟩, (But.refl b w).setCell 1 _⟩
  rw [str_of (s.extract p (p + 1)) [c] (by rw [one_byte s p hlt, h1])]

set_option maxHeartbeats 2000000 in
theorem attr_any (s : ByteArray) (hs : s.size ≤ 20000) (b : Nat) (h2 : 2 ≤ b) (c : UInt8) (r2 : List UInt8) (w : World) (he : Env w) (hR : RdL w b s (c :: r2)) :
    Calls Tryd.prog 52 #[.pointer (some ⟨b, 0, none⟩)] w fun e w' => e = .returned (.agg #[.string ⟨(attrL c r2).1.1.toArray⟩, .string ⟨(attrL c r2).1.2.toArray⟩]) ∧ RdL w' b s (attrL c r2).2 ∧ But b w w' := by
  have hlt := hR.lt
  have hlen := hR.len
  simp only [List.length_cons] at hlen
  have hRA := hR.below (below_alloc w (.cells #[.string ⟨#[]⟩, .string ⟨#[]⟩] 36))
  have KR := hide (Kept.new w [.string ⟨#[]⟩, .string ⟨#[]⟩] 36)
  have HB0 := hide ((But.refl b w).alloc (.cells #[.string ⟨#[]⟩, .string ⟨#[]⟩] 36))
  have HE := hide (he.alloc (.cells #[.string ⟨#[]⟩, .string ⟨#[]⟩] 36))
  obtain ⟨p, hp, hP, hT⟩ := take1_any s (by omega) b c r2 _ hRA
  have c0 := hP.c0
  have c1 := hP.c1
  have HT := hide hT
  have HU := hide (fun w (h : RdL w b s r2) => run_has s (by omega) b r2 ⟨#[32, 47, 62, 61]⟩ attrB has_attr w h)
  have hl1 := (List.takeWhile_prefix attrB (l := r2)).length_le
  have hL := fun w => plower_any ((⟨#[c]⟩ : ByteArray) ++ ⟨(r2.takeWhile attrB).toArray⟩) (by
    rw [ByteArray.size_append, size_list ⟨_⟩, size_list ⟨_⟩, str_data]
    simp
    omega) w
  have hcat : ¬ (9223372036854775807 < (⟨#[c]⟩ : ByteArray).size + (⟨(r2.takeWhile attrB).toArray⟩ : ByteArray).size) := by
    rw [size_list ⟨_⟩, size_list ⟨_⟩, str_data]
    simp
    omega
  rw [str_app ⟨#[c]⟩ ⟨(r2.takeWhile attrB).toArray⟩ [c] (r2.takeWhile attrB) rfl (str_data _)] at hL
  have HL : Hid (∀ w, Calls Tryd.prog 17 #[.string ((⟨#[c]⟩ : ByteArray) ++ ⟨(r2.takeWhile attrB).toArray⟩)] w fun e w' => e = .returned (.string ⟨(lowerL (c :: r2.takeWhile attrB)).toArray⟩) ∧ Below w.heap.size w w') := hL
  have HSP := hide (fun w (h : RdL w b s (r2.dropWhile attrB)) => spaces_any s (by omega) b (r2.dropWhile attrB) w h)
  have hSK := fun w (h : RdL w b s ((r2.dropWhile attrB).dropWhile isSp)) => skip_any s (by omega) b ((r2.dropWhile attrB).dropWhile isSp) ⟨#[61]⟩ w h
  clear hT hL hR hRA hP he
  unfold attrL
  cases hB : ([61] : List UInt8).isPrefixOf ((r2.dropWhile attrB).dropWhile isSp) with
  | false =>
    rw [if_neg (by decide)]
    have HSK : Hid (∀ w, RdL w b s ((r2.dropWhile attrB).dropWhile isSp) → Calls Tryd.prog 27 #[.pointer (some ⟨b, 0, none⟩), .string ⟨#[61]⟩] w fun e w' => e = .returned (.bool false) ∧ RdL w' b s ((r2.dropWhile attrB).dropWhile isSp) ∧ But b w w') := by
      refine hide fun w h => ?_
      have := hSK w h
      rw [show skipL (⟨#[61]⟩ : ByteArray).data.toList ((r2.dropWhile attrB).dropWhile isSp) = (r2.dropWhile attrB).dropWhile isSp by unfold skipL; rw [show (⟨#[61]⟩ : ByteArray).data.toList.isPrefixOf ((r2.dropWhile attrB).dropWhile isSp) = false from hB]; rfl, show (⟨#[61]⟩ : ByteArray).data.toList.isPrefixOf ((r2.dropWhile attrB).dropWhile isSp) = false from hB] at this
      exact this
    clear hSK hB
    generalize (r2.dropWhile attrB).dropWhile isSp = V at *
    generalize lowerL (c :: r2.takeWhile attrB) = N at *
    generalize (⟨(r2.takeWhile attrB).toArray⟩ : ByteArray) = y at *
    generalize r2.dropWhile attrB = V1 at *
    generalize (⟨#[c]⟩ : ByteArray) = x at *
    have hcat2 : ¬ (x.size + y.size > 9223372036854775807) := hcat
    generalize (⟨N.toArray⟩ : ByteArray) = nm at *
    generalize hw0 : w.alloc (.cells #[.string ⟨#[]⟩, .string ⟨#[]⟩] 36) = w0 at *
    go_enter Tryd.func52, Tryd.ntmps52
    go_wp2_with fail
    refine HT.out.mono ?_
    rintro e w1 ⟨rfl, h3, h4⟩
    have R1 := hide h3
    have KR1 := hide (Kept.but KR.out h4 (by omega))
    have E1 := hide (HE.out.but h4 h2)
    have B1 := hide (HB0.out.trans h4)
    clear h3 h4 KR HE HB0 HT c0 c1 hw0
    go_wp2_with fail
    refine (HU.out _ R1.out).mono ?_
    rintro e w2 ⟨rfl, h3, h4⟩
    have R2 := hide h3
    have KR2 := hide (Kept.but KR1.out h4 (by omega))
    have E2 := hide (E1.out.but h4 h2)
    have B2 := hide (B1.out.trans h4)
    clear h3 h4 KR1 E1 B1 R1 HU
    go_wp2_with fail
    refine (HL.out _).mono ?_
    rintro e w3 ⟨rfl, h4⟩
    have R3 := hide (((R2.out).below h4).below (below_alloc w3 (.cells #[.string nm, .string ⟨#[]⟩] 36)))
    have KR3 := hide ((Kept.below KR2.out h4).alloc (.cells #[.string nm, .string ⟨#[]⟩] 36))
    have KG3 := hide (Kept.new w3 [.string nm, .string ⟨#[]⟩] 36)
    have E3 := hide ((E2.out.below h4).alloc (.cells #[.string nm, .string ⟨#[]⟩] 36))
    have B3 := hide ((B2.out.trans (.of h4)).alloc (.cells #[.string nm, .string ⟨#[]⟩] 36))
    have hG3 : w.heap.size < w3.heap.size := Nat.lt_of_lt_of_le KR2.out.lt h4.size
    clear h4 KR2 E2 B2 R2 HL
    go_wp2_with fail
    refine (HSP.out _ R3.out).mono ?_
    rintro e w5 ⟨rfl, h3, h4⟩
    have R5 := hide h3
    have KR5 := hide (Kept.but KR3.out h4 (by omega))
    have KG5 := hide (Kept.but KG3.out h4 (by omega))
    have E5 := hide (E3.out.but h4 h2)
    have B5 := hide (B3.out.trans h4)
    clear h3 h4 KR3 KG3 E3 B3 R3 HSP
    generalize w3.heap.size = G at *
    go_wp2_with fail
    refine (HSK.out _ R5.out).mono ?_
    rintro e w6 ⟨rfl, h3, h4⟩
    have R6 := hide h3
    have KR6 := hide (Kept.but KR5.out h4 (by omega))
    have KG6 := hide (Kept.but KG5.out h4 (by omega))
    have E6 := hide (E5.out.but h4 h2)
    have B6 := hide (B5.out.trans h4)
    clear h3 h4 KR5 KG5 E5 B5 R5 HSK
    have g0 : w6.cell? ⟨G, 0, none⟩ = some (.string nm) := KG6.out.1 0
    have g1 : w6.cell? ⟨G, 1, none⟩ = some (.string ⟨#[]⟩) := KG6.out.1 1
    have gf : ∀ o, w6.frozen? ⟨G, o, none⟩ = false := KG6.out.2
    have q0 : w6.cell? ⟨w.heap.size, 0, none⟩ = some (.string ⟨#[]⟩) := KR6.out.1 0
    have q1 : w6.cell? ⟨w.heap.size, 1, none⟩ = some (.string ⟨#[]⟩) := KR6.out.1 1
    have qf : ∀ o, w6.frozen? ⟨w.heap.size, o, none⟩ = false := KR6.out.2
    go_wp2
    refine bodyPost_ret (v := .agg #[.string nm, .string ⟨#[]⟩]) ?_ rfl ⟨rfl, ?_, ?_⟩
    · rw [results_cell_one rfl]
      go_simp
    · exact (R6.out.other _ (by simp only; omega) _).other _ (by simp only; omega) _
    · exact (B6.out.setNew _ (by simp) _).setNew _ (by simp) _
  | true =>
    rw [if_pos rfl]
    have HSK : Hid (∀ w, RdL w b s ((r2.dropWhile attrB).dropWhile isSp) → Calls Tryd.prog 27 #[.pointer (some ⟨b, 0, none⟩), .string ⟨#[61]⟩] w fun e w' => e = .returned (.bool true) ∧ RdL w' b s (((r2.dropWhile attrB).dropWhile isSp).drop 1) ∧ But b w w') := by
      refine hide fun w h => ?_
      have := hSK w h
      rw [show skipL (⟨#[61]⟩ : ByteArray).data.toList ((r2.dropWhile attrB).dropWhile isSp) = ((r2.dropWhile attrB).dropWhile isSp).drop 1 by unfold skipL; rw [show (⟨#[61]⟩ : ByteArray).data.toList.isPrefixOf ((r2.dropWhile attrB).dropWhile isSp) = true from hB]; rfl, show (⟨#[61]⟩ : ByteArray).data.toList.isPrefixOf ((r2.dropWhile attrB).dropWhile isSp) = true from hB] at this
      exact this
    have hl3 := dw_le attrB r2
    have hl4 := dw_le isSp (r2.dropWhile attrB)
    clear hSK hB
    have HSP2 := hide (fun w (h : RdL w b s (((r2.dropWhile attrB).dropWhile isSp).drop 1)) => spaces_any s (by omega) b (((r2.dropWhile attrB).dropWhile isSp).drop 1) w h)
    have HV := hide (fun w (h : RdL w b s ((((r2.dropWhile attrB).dropWhile isSp).drop 1).dropWhile isSp)) => pvalue_any s (by omega) b ((((r2.dropWhile attrB).dropWhile isSp).drop 1).dropWhile isSp) w h)
    have hlr : (rawV ((((r2.dropWhile attrB).dropWhile isSp).drop 1).dropWhile isSp)).1.length ≤ s.size := by
      have h5 := dw_le isSp (((r2.dropWhile attrB).dropWhile isSp).drop 1)
      have h6 := rawV_len ((((r2.dropWhile attrB).dropWhile isSp).drop 1).dropWhile isSp)
      rw [List.length_drop] at h5
      omega
    rw [rawV_value]
    have hD := fun w ho => decode_any ⟨(rawV ((((r2.dropWhile attrB).dropWhile isSp).drop 1).dropWhile isSp)).1.toArray⟩ (by rw [size_list, str_data]; omega) true w ho
    rw [str_data] at hD
    have HD := hide hD
    clear hD hlr hl3 hl4
    generalize rawV ((((r2.dropWhile attrB).dropWhile isSp).drop 1).dropWhile isSp) = RV at *
    obtain ⟨rv, V9⟩ := RV
    generalize (((r2.dropWhile attrB).dropWhile isSp).drop 1).dropWhile isSp = V8 at *
    generalize ((r2.dropWhile attrB).dropWhile isSp).drop 1 = V7 at *
    generalize decL true rv = DV at *
    generalize (⟨DV.toArray⟩ : ByteArray) = dv at *
    generalize (r2.dropWhile attrB).dropWhile isSp = V at *
    generalize lowerL (c :: r2.takeWhile attrB) = N at *
    generalize (⟨(r2.takeWhile attrB).toArray⟩ : ByteArray) = y at *
    generalize r2.dropWhile attrB = V1 at *
    generalize (⟨#[c]⟩ : ByteArray) = x at *
    have hcat2 : ¬ (x.size + y.size > 9223372036854775807) := hcat
    generalize (⟨N.toArray⟩ : ByteArray) = nm at *
    generalize hw0 : w.alloc (.cells #[.string ⟨#[]⟩, .string ⟨#[]⟩] 36) = w0 at *
    go_enter Tryd.func52, Tryd.ntmps52
    go_wp2_with fail
    refine HT.out.mono ?_
    rintro e w1 ⟨rfl, h3, h4⟩
    have R1 := hide h3
    have KR1 := hide (Kept.but KR.out h4 (by omega))
    have E1 := hide (HE.out.but h4 h2)
    have B1 := hide (HB0.out.trans h4)
    clear h3 h4 KR HE HB0 HT c0 c1 hw0
    go_wp2_with fail
    refine (HU.out _ R1.out).mono ?_
    rintro e w2 ⟨rfl, h3, h4⟩
    have R2 := hide h3
    have KR2 := hide (Kept.but KR1.out h4 (by omega))
    have E2 := hide (E1.out.but h4 h2)
    have B2 := hide (B1.out.trans h4)
    clear h3 h4 KR1 E1 B1 R1 HU
    go_wp2_with fail
    refine (HL.out _).mono ?_
    rintro e w3 ⟨rfl, h4⟩
    have R3 := hide (((R2.out).below h4).below (below_alloc w3 (.cells #[.string nm, .string ⟨#[]⟩] 36)))
    have KR3 := hide ((Kept.below KR2.out h4).alloc (.cells #[.string nm, .string ⟨#[]⟩] 36))
    have KG3 := hide (Kept.new w3 [.string nm, .string ⟨#[]⟩] 36)
    have E3 := hide ((E2.out.below h4).alloc (.cells #[.string nm, .string ⟨#[]⟩] 36))
    have B3 := hide ((B2.out.trans (.of h4)).alloc (.cells #[.string nm, .string ⟨#[]⟩] 36))
    have hG3 : w.heap.size < w3.heap.size := Nat.lt_of_lt_of_le KR2.out.lt h4.size
    clear h4 KR2 E2 B2 R2 HL
    go_wp2_with fail
    refine (HSP.out _ R3.out).mono ?_
    rintro e w5 ⟨rfl, h3, h4⟩
    have R5 := hide h3
    have KR5 := hide (Kept.but KR3.out h4 (by omega))
    have KG5 := hide (Kept.but KG3.out h4 (by omega))
    have E5 := hide (E3.out.but h4 h2)
    have B5 := hide (B3.out.trans h4)
    clear h3 h4 KR3 KG3 E3 B3 R3 HSP
    generalize w3.heap.size = G at *
    go_wp2_with fail
    refine (HSK.out _ R5.out).mono ?_
    rintro e w6 ⟨rfl, h3, h4⟩
    have R6 := hide h3
    have KR6 := hide (Kept.but KR5.out h4 (by omega))
    have KG6 := hide (Kept.but KG5.out h4 (by omega))
    have E6 := hide (E5.out.but h4 h2)
    have B6 := hide (B5.out.trans h4)
    clear h3 h4 KR5 KG5 E5 B5 R5 HSK
    have hGR : w.heap.size ≠ G := Nat.ne_of_lt hG3
    have hGb : w.heap.size ≤ G := Nat.le_of_lt hG3
    go_wp2_with fail
    refine (HSP2.out _ R6.out).mono ?_
    rintro e w7 ⟨rfl, h3, h4⟩
    have R7 := hide h3
    have KR7 := hide (Kept.but KR6.out h4 (by omega))
    have KG7 := hide (Kept.but KG6.out h4 (by omega))
    have E7 := hide (E6.out.but h4 h2)
    have B7 := hide (B6.out.trans h4)
    clear h3 h4 KR6 KG6 E6 B6 R6 HSP2
    go_wp2_with fail
    refine (HV.out _ R7.out).mono ?_
    rintro e w8 ⟨rfl, h3, h4⟩
    have R8 := hide h3
    have KR8 := hide (Kept.but KR7.out h4 (by omega))
    have KG8 := hide (Kept.but KG7.out h4 (by omega))
    have E8 := hide (E7.out.but h4 h2)
    have B8 := hide (B7.out.trans h4)
    clear h3 h4 KR7 KG7 E7 B7 R7 HV
    go_wp2_with fail
    refine (HD.out _ E8.out.1).mono ?_
    rintro e w9 ⟨rfl, h4⟩
    have R9 := hide (R8.out.below h4)
    have KR9 := hide (Kept.below KR8.out h4)
    have KG9 := hide (Kept.below KG8.out h4)
    have B9 := hide (B8.out.trans (.of h4))
    clear h4 KR8 KG8 E8 B8 R8 HD
    have g0 : w9.cell? ⟨G, 0, none⟩ = some (.string nm) := KG9.out.1 0
    have g1 : w9.cell? ⟨G, 1, none⟩ = some (.string ⟨#[]⟩) := KG9.out.1 1
    have gf : ∀ o, w9.frozen? ⟨G, o, none⟩ = false := KG9.out.2
    have q0 : w9.cell? ⟨w.heap.size, 0, none⟩ = some (.string ⟨#[]⟩) := KR9.out.1 0
    have q1 : w9.cell? ⟨w.heap.size, 1, none⟩ = some (.string ⟨#[]⟩) := KR9.out.1 1
    have qf : ∀ o, w9.frozen? ⟨w.heap.size, o, none⟩ = false := KR9.out.2
    go_wp2

    refine bodyPost_ret (v := .agg #[.string nm, .string dv]) ?_ rfl ⟨rfl, ?_, ?_⟩
    · rw [results_cell_one rfl]
      go_simp
    · exact ((R9.out.other _ (by simp only; omega) _).other _ (by simp only; omega) _).other _ (by simp only; omega) _
    · exact ((B9.out.setNew _ (by simp; omega) _).setNew _ (by simp) _).setNew _ (by simp) _
end Go.Proofs.YtlfjmgniflkapaaDoor
