import Derived.Test.YtfohijnkeefcfaaGreatDoorKn05
import Derived.Test.YtfohijnkeefcfaaGreatDoorKn31
import Derived.Test.YtfohijnkeefcfaaGreatDoorKn32
import Derived.Test.YtfohijnkeefcfaaGreatDoorKn33
import Derived.Maps.OwnSet
import Derived.StringKeys
import Derived.Maps.Views
import Derived.Deep.LoopGhost
set_option linter.unusedVariables false
set_option linter.unusedSimpArgs false
set_option maxRecDepth 100000
set_option maxHeartbeats 8000000
namespace Go.Proofs.YtfohijnkeefcfaaGreatDoor.S4
open Go.RowKit
def Env (w : World) : Prop := OldOk w /\ ∃ m, w.cell? ⟨1, 0, none⟩ = some (.int .i64 m)
theorem Env.two {w : World} (h : Env w) : 2 <= w.heap.size := by
  obtain ⟨m, hm⟩ := h.2
  have := cell_lt hm
  simp only at this
  omega
theorem Env.but {b : Nat} {w w1 : World} (h : Env w) (hb : But b w w1) (h2 : 2 <= b) : Env w1 := by
  have hz := h.two
  refine ⟨fun j hj => ?_, ?_⟩
  · rw [hb.cell (p := ⟨0, j, none⟩) (by simp only; omega) (by simp only; omega)]
    exact h.1 j hj
  · obtain ⟨m, hm⟩ := h.2
    exact ⟨m, by rw [hb.cell (p := ⟨1, 0, none⟩) (by simp only; omega) (by simp only; omega)]; exact hm⟩
theorem Env.below {w w1 : World} (h : Env w) (hb : Below w.heap.size w w1) : Env w1 := h.but (But.of (b := 2) hb) (Nat.le_refl _)
theorem Env.alloc {w : World} (h : Env w) (o : Obj) : Env (w.alloc o) := h.below (below_alloc w o)
theorem results_cell_one {fn : Func} {p : Tmp} {ty : TypeId} (h : fn.results = #[.cell p ty]) (tmps : Array Value) (P : Program) (w : World) :
    (results fn tmps).run P w = ((asAddr (tmps.getD p undef)).run P w).andThen fun a w₁ => (loadVar ty a).run P w₁ := by
  simp only [results, h]
  simp
def Kept (w : World) (k : Nat) (cs : List Value) : Prop := (∀ o, w.cell? ⟨k, o, none⟩ = cs[o]?) /\ ∀ o, w.frozen? ⟨k, o, none⟩ = false
theorem Kept.lt {w : World} {k : Nat} {v : Value} {cs : List Value} (h : Kept w k (v :: cs)) : k < w.heap.size := cell_lt (a := ⟨k, 0, none⟩) (h.1 0)
theorem Kept.new (w : World) (cs : List Value) (T : TypeId) : Kept (w.alloc (.cells cs.toArray T)) w.heap.size cs :=
  ⟨fun o => by rw [World.cell?_alloc_mark]; simp, fun o => by simp [go_sem]⟩
theorem Kept.but {b k : Nat} {w w1 : World} {v : Value} {cs : List Value} (h : Kept w k (v :: cs)) (hb : But b w w1) (hn : k ≠ b) : Kept w1 k (v :: cs) :=
  ⟨fun o => by rw [hb.cell (p := ⟨k, o, none⟩) h.lt hn]; exact h.1 o, fun o => by rw [hb.frozen (p := ⟨k, o, none⟩) h.lt hn]; exact h.2 o⟩
theorem Kept.below {k : Nat} {w w1 : World} {v : Value} {cs : List Value} (h : Kept w k (v :: cs)) (hb : Below w.heap.size w w1) : Kept w1 k (v :: cs) :=
  ⟨fun o => by rw [hb.cell (p := ⟨k, o, none⟩) h.lt]; exact h.1 o, fun o => by rw [hb.frozen (p := ⟨k, o, none⟩) h.lt]; exact h.2 o⟩
theorem Kept.alloc {k : Nat} {w : World} {v : Value} {cs : List Value} (h : Kept w k (v :: cs)) (o : Obj) : Kept (w.alloc o) k (v :: cs) := h.below (below_alloc w o)
theorem Kept.other {k : Nat} {w : World} {cs : List Value} (h : Kept w k cs) (a : Addr) (ha : a.block ≠ k) (u : Value) : Kept (w.setCell a u) k cs :=
  ⟨fun o => by rw [World.cell?_setCell_other w _ _ _ (by intro he; exact ha (congrArg Addr.block he))]; exact h.1 o, fun o => by rw [World.frozen?_setCell]; exact h.2 o⟩
theorem Kept.set {k : Nat} {w : World} {cs : List Value} (h : Kept w k cs) (i : Nat) (hi : i < cs.length) (u : Value) : Kept (w.setCell ⟨k, i, none⟩ u) k (cs.set i u) := by
  refine ⟨fun o => ?_, fun o => by rw [World.frozen?_setCell]; exact h.2 o⟩
  by_cases e : i = o
  · subst e
    rw [World.cell?_setCell_same w _ _ (by rw [h.1 i, List.getElem?_eq_getElem hi]), List.getElem?_set_self hi]
  · rw [World.cell?_setCell_other w _ _ _ (by intro he; exact e (congrArg Addr.off he)), h.1 o, List.getElem?_set_ne e]
theorem rawV_len (r : List UInt8) : (rawV r).1.length <= r.length := by
  unfold rawV
  have h : ∀ (t q : List UInt8), (findR t q).1.length <= q.length := fun t q => by
    have := congrArg List.length (findR_app t q)
    rw [List.length_append] at this
    omega
  split
  · have := h [34] (r.drop 1)
    rw [List.length_drop] at this
    simp only
    omega
  · split
    · have := h [39] (r.drop 1)
      rw [List.length_drop] at this
      simp only
      omega
    · exact (List.takeWhile_prefix valB).length_le
def attrL (c : UInt8) (r2 : List UInt8) : (List UInt8 × List UInt8) × List UInt8 :=
  if [61].isPrefixOf ((r2.dropWhile attrB).dropWhile isSp) then ((lowerL (c :: r2.takeWhile attrB), (valueL ((((r2.dropWhile attrB).dropWhile isSp).drop 1).dropWhile isSp)).1), (valueL ((((r2.dropWhile attrB).dropWhile isSp).drop 1).dropWhile isSp)).2)
  else ((lowerL (c :: r2.takeWhile attrB), []), (r2.dropWhile attrB).dropWhile isSp)
theorem tail_attr (aa : AttrL) (r : List UInt8) (c : UInt8) (r2 : List UInt8) (h : r.dropWhile passB = c :: r2) (hc : c ≠ 62) : tailT aa r = tailT (addA aa (attrL c r2).1) (attrL c r2).2 := by
  unfold attrL
  cases hd : (r2.dropWhile attrB).dropWhile isSp with
  | nil =>
    rw [if_neg (by simp [List.isPrefixOf]), tail_plain aa r c r2 h hc (by rw [hd]; simp), hd]
  | cons d r4 =>
    by_cases h61 : d = 61
    · subst h61
      rw [if_pos (by simp [List.isPrefixOf]), tail_value aa r c r2 r4 h hc hd]
      rfl
    · have e : ¬ (61 : UInt8) = d := fun e => h61 e.symm
      rw [if_neg (by simp [List.isPrefixOf, e]), tail_plain aa r c r2 h hc (by rw [hd]; simpa using h61), hd]
theorem attrL_len (c : UInt8) (r2 : List UInt8) : (attrL c r2).2.length <= r2.length := by
  unfold attrL
  have h1 := dw_le attrB r2
  have h2 := dw_le isSp (r2.dropWhile attrB)
  split
  · have h3 := valueL_le ((((r2.dropWhile attrB).dropWhile isSp).drop 1).dropWhile isSp)
    have h4 := dw_le isSp (((r2.dropWhile attrB).dropWhile isSp).drop 1)
    rw [List.length_drop] at h4
    simp only
    omega
  · simp only
    omega
theorem attrL_name (c : UInt8) (r2 : List UInt8) : (attrL c r2).1.1.length <= r2.length + 1 := by
  unfold attrL
  have h := (List.takeWhile_prefix attrB (l := r2)).length_le
  have e : (lowerL (c :: r2.takeWhile attrB)).length <= r2.length + 1 := by
    rw [plower_length, List.length_cons]
    omega
  split <;> exact e
theorem take1_any (s : ByteArray) (hs : s.size <= 100000) (b : Nat) (c : UInt8) (r2 : List UInt8) (w : World) (hR : RdL w b s (c :: r2)) : ∃ p : Nat, p < s.size /\ RdP w b s p /\
    Calls Tryz.prog 65 #[.pointer (some ⟨b, 0, none⟩), .int .i64 ((p : Int) + 1)] w fun e w' => e = .returned (.string ⟨#[c]⟩) /\ RdL w' b s r2 /\ But b w w' := by
  obtain ⟨p, hp, hd, hP⟩ := hR
  have hlt : p < s.size := by
    rcases Nat.lt_or_ge p s.size with h | h
    · exact h
    · rw [drop_end s p h] at hd; cases hd
  rw [drop_cons s p hlt] at hd
  obtain ⟨h1, h2⟩ := List.cons.inj hd
  refine ⟨p, hlt, hP, ?_⟩
  have ht := take_any s hs b p (p + 1) (by omega) (by omega) w hP
  rw [show ((p + 1 : Nat) : Int) = (p : Int) + 1 by omega] at ht
  refine ht.mono ?_
  rintro e w1 ⟨rfl, rfl⟩
  have hset := hP.set (p + 1)
  rw [show ((p + 1 : Nat) : Int) = (p : Int) + 1 by omega] at hset
  refine ⟨?_, ⟨p + 1, by omega, h2, hset⟩, (But.refl b w).setCell 1 _⟩
  rw [str_of (s.extract p (p + 1)) [c] (by rw [one_byte s p hlt, h1])]
theorem attr_any (s : ByteArray) (hs : s.size <= 20000) (b : Nat) (h2 : 2 <= b) (c : UInt8) (r2 : List UInt8) (w : World) (he : Env w) (hR : RdL w b s (c :: r2)) :
    Calls Tryz.prog 151 #[.pointer (some ⟨b, 0, none⟩)] w fun e w' => e = .returned (.agg #[.string ⟨(attrL c r2).1.1.toArray⟩, .string ⟨(attrL c r2).1.2.toArray⟩]) /\ RdL w' b s (attrL c r2).2 /\ But b w w' := by
  have hlt := hR.lt
  have hlen := hR.len
  simp only [List.length_cons] at hlen
  have hRA := hR.below (below_alloc w (.cells #[.string ⟨#[]⟩, .string ⟨#[]⟩] 62))
  have KR := hide (Kept.new w [.string ⟨#[]⟩, .string ⟨#[]⟩] 62)
  have HB0 := hide ((But.refl b w).alloc (.cells #[.string ⟨#[]⟩, .string ⟨#[]⟩] 62))
  have HE := hide (he.alloc (.cells #[.string ⟨#[]⟩, .string ⟨#[]⟩] 62))
  obtain ⟨p, hp, hP, hT⟩ := take1_any s (by omega) b c r2 _ hRA
  have c0 := hP.c0
  have c1 := hP.c1
  have HT := hide hT
  have HU := hide (fun w (h : RdL w b s r2) => run_has s (by omega) b r2 ⟨#[32, 47, 62, 61]⟩ attrB has_attr w h)
  have hl1 := (List.takeWhile_prefix attrB (l := r2)).length_le
  have hL := fun w => plower_any ((⟨#[c]⟩ : ByteArray) ++ ⟨(r2.takeWhile attrB).toArray⟩) (by
    rw [ByteArray.size_append, size_list ⟨_⟩, size_list ⟨_⟩, str_data]
    simp
    omega) w
  have hcat : ¬ (9223372036854775807 < (⟨#[c]⟩ : ByteArray).size + (⟨(r2.takeWhile attrB).toArray⟩ : ByteArray).size) := by
    rw [size_list ⟨_⟩, size_list ⟨_⟩, str_data]
    simp
    omega
  rw [str_app ⟨#[c]⟩ ⟨(r2.takeWhile attrB).toArray⟩ [c] (r2.takeWhile attrB) rfl (str_data _)] at hL
  have HL : Hid (∀ w, Calls Tryz.prog 48 #[.string ((⟨#[c]⟩ : ByteArray) ++ ⟨(r2.takeWhile attrB).toArray⟩)] w fun e w' => e = .returned (.string ⟨(lowerL (c :: r2.takeWhile attrB)).toArray⟩) /\ Below w.heap.size w w') := hL
  have HSP := hide (fun w (h : RdL w b s (r2.dropWhile attrB)) => spaces_any s (by omega) b (r2.dropWhile attrB) w h)
  have hSK := fun w (h : RdL w b s ((r2.dropWhile attrB).dropWhile isSp)) => skip_any s (by omega) b ((r2.dropWhile attrB).dropWhile isSp) ⟨#[61]⟩ w h
  clear hT hL hR hRA hP he
  unfold attrL
  cases hB : ([61] : List UInt8).isPrefixOf ((r2.dropWhile attrB).dropWhile isSp) with
  | false =>
    rw [if_neg (by decide)]
    have HSK : Hid (∀ w, RdL w b s ((r2.dropWhile attrB).dropWhile isSp) -> Calls Tryz.prog 91 #[.pointer (some ⟨b, 0, none⟩), .string ⟨#[61]⟩] w fun e w' => e = .returned (.bool false) /\ RdL w' b s ((r2.dropWhile attrB).dropWhile isSp) /\ But b w w') := by
      refine hide fun w h => ?_
      have := hSK w h
      rw [show skipL (⟨#[61]⟩ : ByteArray).data.toList ((r2.dropWhile attrB).dropWhile isSp) = (r2.dropWhile attrB).dropWhile isSp by unfold skipL; rw [show (⟨#[61]⟩ : ByteArray).data.toList.isPrefixOf ((r2.dropWhile attrB).dropWhile isSp) = false from hB]; rfl, show (⟨#[61]⟩ : ByteArray).data.toList.isPrefixOf ((r2.dropWhile attrB).dropWhile isSp) = false from hB] at this
      exact this
    clear hSK hB
    generalize (r2.dropWhile attrB).dropWhile isSp = V at *
    generalize lowerL (c :: r2.takeWhile attrB) = N at *
    generalize (⟨(r2.takeWhile attrB).toArray⟩ : ByteArray) = y at *
    generalize r2.dropWhile attrB = V1 at *
    generalize (⟨#[c]⟩ : ByteArray) = x at *
    have hcat2 : ¬ (x.size + y.size > 9223372036854775807) := hcat
    generalize (⟨N.toArray⟩ : ByteArray) = nm at *
    generalize hw0 : w.alloc (.cells #[.string ⟨#[]⟩, .string ⟨#[]⟩] 62) = w0 at *
    go_enter Tryz.func151, Tryz.ntmps151
    go_wp2_with fail
    refine HT.out.mono ?_
    rintro e w1 ⟨rfl, h3, h4⟩
    have R1 := hide h3
    have KR1 := hide (Kept.but KR.out h4 (by omega))
    have E1 := hide (HE.out.but h4 h2)
    have B1 := hide (HB0.out.trans h4)
    clear h3 h4 KR HE HB0 HT c0 c1 hw0
    go_wp2_with fail
    refine (HU.out _ R1.out).mono ?_
    rintro e w2 ⟨rfl, h3, h4⟩
    have R2 := hide h3
    have KR2 := hide (Kept.but KR1.out h4 (by omega))
    have E2 := hide (E1.out.but h4 h2)
    have B2 := hide (B1.out.trans h4)
    clear h3 h4 KR1 E1 B1 R1 HU
    go_wp2_with fail
    refine (HL.out _).mono ?_
    rintro e w3 ⟨rfl, h4⟩
    have R3 := hide (((R2.out).below h4).below (below_alloc w3 (.cells #[.string nm, .string ⟨#[]⟩] 62)))
    have KR3 := hide ((Kept.below KR2.out h4).alloc (.cells #[.string nm, .string ⟨#[]⟩] 62))
    have KG3 := hide (Kept.new w3 [.string nm, .string ⟨#[]⟩] 62)
    have E3 := hide ((E2.out.below h4).alloc (.cells #[.string nm, .string ⟨#[]⟩] 62))
    have B3 := hide ((B2.out.trans (.of h4)).alloc (.cells #[.string nm, .string ⟨#[]⟩] 62))
    have hG3 : w.heap.size < w3.heap.size := Nat.lt_of_lt_of_le KR2.out.lt h4.size
    clear h4 KR2 E2 B2 R2 HL
    go_wp2_with fail
    refine (HSP.out _ R3.out).mono ?_
    rintro e w5 ⟨rfl, h3, h4⟩
    have R5 := hide h3
    have KR5 := hide (Kept.but KR3.out h4 (by omega))
    have KG5 := hide (Kept.but KG3.out h4 (by omega))
    have E5 := hide (E3.out.but h4 h2)
    have B5 := hide (B3.out.trans h4)
    clear h3 h4 KR3 KG3 E3 B3 R3 HSP
    generalize w3.heap.size = G at *
    go_wp2_with fail
    refine (HSK.out _ R5.out).mono ?_
    rintro e w6 ⟨rfl, h3, h4⟩
    have R6 := hide h3
    have KR6 := hide (Kept.but KR5.out h4 (by omega))
    have KG6 := hide (Kept.but KG5.out h4 (by omega))
    have E6 := hide (E5.out.but h4 h2)
    have B6 := hide (B5.out.trans h4)
    clear h3 h4 KR5 KG5 E5 B5 R5 HSK
    have g0 : w6.cell? ⟨G, 0, none⟩ = some (.string nm) := KG6.out.1 0
    have g1 : w6.cell? ⟨G, 1, none⟩ = some (.string ⟨#[]⟩) := KG6.out.1 1
    have gf : ∀ o, w6.frozen? ⟨G, o, none⟩ = false := KG6.out.2
    have q0 : w6.cell? ⟨w.heap.size, 0, none⟩ = some (.string ⟨#[]⟩) := KR6.out.1 0
    have q1 : w6.cell? ⟨w.heap.size, 1, none⟩ = some (.string ⟨#[]⟩) := KR6.out.1 1
    have qf : ∀ o, w6.frozen? ⟨w.heap.size, o, none⟩ = false := KR6.out.2
    go_wp2
    refine bodyPost_ret (v := .agg #[.string nm, .string ⟨#[]⟩]) ?_ rfl ⟨rfl, ?_, ?_⟩
    · rw [results_cell_one rfl]
      go_simp
    · exact (R6.out.other _ (by simp only; omega) _).other _ (by simp only; omega) _
    · exact (B6.out.setNew _ (by simp) _).setNew _ (by simp) _
  | true =>
    rw [if_pos rfl]
    have HSK : Hid (∀ w, RdL w b s ((r2.dropWhile attrB).dropWhile isSp) -> Calls Tryz.prog 91 #[.pointer (some ⟨b, 0, none⟩), .string ⟨#[61]⟩] w fun e w' => e = .returned (.bool true) /\ RdL w' b s (((r2.dropWhile attrB).dropWhile isSp).drop 1) /\ But b w w') := by
      refine hide fun w h => ?_
      have := hSK w h
      rw [show skipL (⟨#[61]⟩ : ByteArray).data.toList ((r2.dropWhile attrB).dropWhile isSp) = ((r2.dropWhile attrB).dropWhile isSp).drop 1 by unfold skipL; rw [show (⟨#[61]⟩ : ByteArray).data.toList.isPrefixOf ((r2.dropWhile attrB).dropWhile isSp) = true from hB]; rfl, show (⟨#[61]⟩ : ByteArray).data.toList.isPrefixOf ((r2.dropWhile attrB).dropWhile isSp) = true from hB] at this
      exact this
    have hl3 := dw_le attrB r2
    have hl4 := dw_le isSp (r2.dropWhile attrB)
    clear hSK hB
    have HSP2 := hide (fun w (h : RdL w b s (((r2.dropWhile attrB).dropWhile isSp).drop 1)) => spaces_any s (by omega) b (((r2.dropWhile attrB).dropWhile isSp).drop 1) w h)
    have HV := hide (fun w (h : RdL w b s ((((r2.dropWhile attrB).dropWhile isSp).drop 1).dropWhile isSp)) => pvalue_any s (by omega) b ((((r2.dropWhile attrB).dropWhile isSp).drop 1).dropWhile isSp) w h)
    have hlr : (rawV ((((r2.dropWhile attrB).dropWhile isSp).drop 1).dropWhile isSp)).1.length <= s.size := by
      have h5 := dw_le isSp (((r2.dropWhile attrB).dropWhile isSp).drop 1)
      have h6 := rawV_len ((((r2.dropWhile attrB).dropWhile isSp).drop 1).dropWhile isSp)
      rw [List.length_drop] at h5
      omega
    rw [rawV_value]
    have hD := fun w ho => decode_any ⟨(rawV ((((r2.dropWhile attrB).dropWhile isSp).drop 1).dropWhile isSp)).1.toArray⟩ (by rw [size_list, str_data]; omega) true w ho
    rw [str_data] at hD
    have HD := hide hD
    clear hD hlr hl3 hl4
    generalize rawV ((((r2.dropWhile attrB).dropWhile isSp).drop 1).dropWhile isSp) = RV at *
    obtain ⟨rv, V9⟩ := RV
    generalize (((r2.dropWhile attrB).dropWhile isSp).drop 1).dropWhile isSp = V8 at *
    generalize ((r2.dropWhile attrB).dropWhile isSp).drop 1 = V7 at *
    generalize decL true rv = DV at *
    generalize (⟨DV.toArray⟩ : ByteArray) = dv at *
    generalize (r2.dropWhile attrB).dropWhile isSp = V at *
    generalize lowerL (c :: r2.takeWhile attrB) = N at *
    generalize (⟨(r2.takeWhile attrB).toArray⟩ : ByteArray) = y at *
    generalize r2.dropWhile attrB = V1 at *
    generalize (⟨#[c]⟩ : ByteArray) = x at *
    have hcat2 : ¬ (x.size + y.size > 9223372036854775807) := hcat
    generalize (⟨N.toArray⟩ : ByteArray) = nm at *
    generalize hw0 : w.alloc (.cells #[.string ⟨#[]⟩, .string ⟨#[]⟩] 62) = w0 at *
    go_enter Tryz.func151, Tryz.ntmps151
    go_wp2_with fail
    refine HT.out.mono ?_
    rintro e w1 ⟨rfl, h3, h4⟩
    have R1 := hide h3
    have KR1 := hide (Kept.but KR.out h4 (by omega))
    have E1 := hide (HE.out.but h4 h2)
    have B1 := hide (HB0.out.trans h4)
    clear h3 h4 KR HE HB0 HT c0 c1 hw0
    go_wp2_with fail
    refine (HU.out _ R1.out).mono ?_
    rintro e w2 ⟨rfl, h3, h4⟩
    have R2 := hide h3
    have KR2 := hide (Kept.but KR1.out h4 (by omega))
    have E2 := hide (E1.out.but h4 h2)
    have B2 := hide (B1.out.trans h4)
    clear h3 h4 KR1 E1 B1 R1 HU
    go_wp2_with fail
    refine (HL.out _).mono ?_
    rintro e w3 ⟨rfl, h4⟩
    have R3 := hide (((R2.out).below h4).below (below_alloc w3 (.cells #[.string nm, .string ⟨#[]⟩] 62)))
    have KR3 := hide ((Kept.below KR2.out h4).alloc (.cells #[.string nm, .string ⟨#[]⟩] 62))
    have KG3 := hide (Kept.new w3 [.string nm, .string ⟨#[]⟩] 62)
    have E3 := hide ((E2.out.below h4).alloc (.cells #[.string nm, .string ⟨#[]⟩] 62))
    have B3 := hide ((B2.out.trans (.of h4)).alloc (.cells #[.string nm, .string ⟨#[]⟩] 62))
    have hG3 : w.heap.size < w3.heap.size := Nat.lt_of_lt_of_le KR2.out.lt h4.size
    clear h4 KR2 E2 B2 R2 HL
    go_wp2_with fail
    refine (HSP.out _ R3.out).mono ?_
    rintro e w5 ⟨rfl, h3, h4⟩
    have R5 := hide h3
    have KR5 := hide (Kept.but KR3.out h4 (by omega))
    have KG5 := hide (Kept.but KG3.out h4 (by omega))
    have E5 := hide (E3.out.but h4 h2)
    have B5 := hide (B3.out.trans h4)
    clear h3 h4 KR3 KG3 E3 B3 R3 HSP
    generalize w3.heap.size = G at *
    go_wp2_with fail
    refine (HSK.out _ R5.out).mono ?_
    rintro e w6 ⟨rfl, h3, h4⟩
    have R6 := hide h3
    have KR6 := hide (Kept.but KR5.out h4 (by omega))
    have KG6 := hide (Kept.but KG5.out h4 (by omega))
    have E6 := hide (E5.out.but h4 h2)
    have B6 := hide (B5.out.trans h4)
    clear h3 h4 KR5 KG5 E5 B5 R5 HSK
    have hGR : w.heap.size ≠ G := Nat.ne_of_lt hG3
    have hGb : w.heap.size <= G := Nat.le_of_lt hG3
    go_wp2_with fail
    refine (HSP2.out _ R6.out).mono ?_
    rintro e w7 ⟨rfl, h3, h4⟩
    have R7 := hide h3
    have KR7 := hide (Kept.but KR6.out h4 (by omega))
    have KG7 := hide (Kept.but KG6.out h4 (by omega))
    have E7 := hide (E6.out.but h4 h2)
    have B7 := hide (B6.out.trans h4)
    clear h3 h4 KR6 KG6 E6 B6 R6 HSP2
    go_wp2_with fail
    refine (HV.out _ R7.out).mono ?_
    rintro e w8 ⟨rfl, h3, h4⟩
    have R8 := hide h3
    have KR8 := hide (Kept.but KR7.out h4 (by omega))
    have KG8 := hide (Kept.but KG7.out h4 (by omega))
    have E8 := hide (E7.out.but h4 h2)
    have B8 := hide (B7.out.trans h4)
    clear h3 h4 KR7 KG7 E7 B7 R7 HV
    go_wp2_with fail
    refine (HD.out _ E8.out.1).mono ?_
    rintro e w9 ⟨rfl, h4⟩
    have R9 := hide (R8.out.below h4)
    have KR9 := hide (Kept.below KR8.out h4)
    have KG9 := hide (Kept.below KG8.out h4)
    have B9 := hide (B8.out.trans (.of h4))
    clear h4 KR8 KG8 E8 B8 R8 HD
    have g0 : w9.cell? ⟨G, 0, none⟩ = some (.string nm) := KG9.out.1 0
    have g1 : w9.cell? ⟨G, 1, none⟩ = some (.string ⟨#[]⟩) := KG9.out.1 1
    have gf : ∀ o, w9.frozen? ⟨G, o, none⟩ = false := KG9.out.2
    have q0 : w9.cell? ⟨w.heap.size, 0, none⟩ = some (.string ⟨#[]⟩) := KR9.out.1 0
    have q1 : w9.cell? ⟨w.heap.size, 1, none⟩ = some (.string ⟨#[]⟩) := KR9.out.1 1
    have qf : ∀ o, w9.frozen? ⟨w.heap.size, o, none⟩ = false := KR9.out.2
    go_wp2
    refine bodyPost_ret (v := .agg #[.string nm, .string dv]) ?_ rfl ⟨rfl, ?_, ?_⟩
    · rw [results_cell_one rfl]
      go_simp
    · exact ((R9.out.other _ (by simp only; omega) _).other _ (by simp only; omega) _).other _ (by simp only; omega) _
    · exact ((B9.out.setNew _ (by simp; omega) _).setNew _ (by simp) _).setNew _ (by simp) _
end Go.Proofs.YtfohijnkeefcfaaGreatDoor.S4
namespace Go.Proofs.YtfohijnkeefcfaaGreatDoor.S4
open Go.RowKit
def namesD (aa : AttrL) : DataW Unit := Maps.setOf (.agg []) (aa.map fun a => .string a.1)
theorem namesD_has (aa : AttrL) (n : List UInt8) : Maps.has (namesD aa) (.string n) = (getA aa n).isSome := by
  unfold namesD
  rw [Maps.has_setOf _ _ _ (by
    intro x hx
    obtain ⟨a, _, rfl⟩ := List.mem_map.1 hx
    trivial)]
  unfold getA
  rw [List.any_map, Option.isSome_map, Bool.eq_iff_iff, List.find?_isSome, List.any_eq_true]
  constructor
  · rintro ⟨a, ha, h⟩
    refine ⟨a, ha, ?_⟩
    have := (WideAt.sameKey_iff (a := .string a.1) (b := .string n) trivial).1 h
    have h2 := Lit.string.inj this
    simp [h2]
  · rintro ⟨a, ha, h⟩
    refine ⟨a, ha, ?_⟩
    have h2 : a.1 = n := by simpa using h
    exact (WideAt.sameKey_iff (a := .string a.1) (b := .string n) trivial).2 (by rw [h2])
theorem namesD_snoc (aa : AttrL) (a : List UInt8 × List UInt8) : namesD (aa ++ [a]) = (namesD aa).put (.string a.1) (.agg []) := by
  unfold namesD
  rw [List.map_append]
  exact Maps.setOf_snoc _ _ _
theorem owns_but {b : Nat} {w W : World} {B n : Nat} {e : TypeId} {z : Nat} {v : Value} {xs : List Value} (h : w.ownsRow B e z v n xs) (hb : But b w W) (hB : b < B) : W.ownsRow B e z v n xs := by
  refine ⟨h.1, ?_⟩
  rcases h.2 with h2 | ⟨g, cap, cur, h1, h2, h3, h4⟩
  · exact .inl h2
  · refine .inr ⟨g, cap, cur, h1, h2, ?_, h4⟩
    have hg : g < w.heap.size := (Array.getElem?_eq_some_iff.1 h3).1
    rw [hb.block g hg (by omega)]; exact h3
theorem map_but {H : Type} {b : Nat} {w W : World} {P : Program} {k : TypeId} {R : Value -> Option (DataW H × List MemPlace)} {M n : Nat} {D : DataW H} (h : w.ownsMap P k R M n D) (hb : But b w W) (hM : M ≠ b) : W.ownsMap P k R M n D := by
  have hlt := h.lt
  obtain ⟨es, clock, h1, r⟩ := h
  exact ⟨es, clock, by rw [hb.block M hlt hM]; exact h1, r⟩
theorem But.put5 {b G : Nat} {w W : World} (h : But b w W) (hG : w.heap.size <= G) (p : Tok × Value) : But b w (put5 W G p) :=
  ((((h.setNew ⟨G, 0, none⟩ hG _).setNew ⟨G, 1, none⟩ hG _).setNew ⟨G, 2, none⟩ hG _).setNew ⟨G, 3, none⟩ hG _).setNew ⟨G, 4, none⟩ hG _
theorem RdL.put5 {b G : Nat} {W : World} {s : ByteArray} {r : List UInt8} (h : RdL W b s r) (hG : G ≠ b) (p : Tok × Value) : RdL (Go.Proofs.YtfohijnkeefcfaaGreatDoor.S4.put5 W G p) b s r :=
  ((((h.other ⟨G, 0, none⟩ hG _).other ⟨G, 1, none⟩ hG _).other ⟨G, 2, none⟩ hG _).other ⟨G, 3, none⟩ hG _).other ⟨G, 4, none⟩ hG _
theorem IsA.put5 {W : World} {sv : Value} {aa : AttrL} (h : IsA W sv aa) (G : Nat) (hn : ∀ k, sv.ownBlock = some k -> k ≠ G) (p : Tok × Value) : IsA (Go.Proofs.YtfohijnkeefcfaaGreatDoor.S4.put5 W G p) sv aa :=
  ((((h.set ⟨G, 0, none⟩ _ hn).set ⟨G, 1, none⟩ _ hn).set ⟨G, 2, none⟩ _ hn).set ⟨G, 3, none⟩ _ hn).set ⟨G, 4, none⟩ _ hn
theorem owns_block {w : World} {B n : Nat} {e : TypeId} {z : Nat} {v : Value} {xs : List Value} (h : w.ownsRow B e z v n xs) : ∀ k, v.ownBlock = some k -> B <= k := fun k hk => (h.lt k hk).1
structure StS (w wr : World) (b : Nat) (s : ByteArray) (r : List UInt8) (G : Nat) (nm : ByteArray) (sv : Value) (aa : AttrL) : Prop where
  but : But b w wr
  env : Env wr
  rd : RdL wr b s r
  kr : Kept wr w.heap.size tok0
  kg : Kept wr G [.int .i64 2, .string nm, sv, .bool false, .string ⟨#[]⟩]
  lt : w.heap.size < G
  lb : b < w.heap.size
  own : wr.ownsRow (G + 2) 62 2 sv aa.length (attrCells aa)
  map : wr.ownsMap Tryz.prog 9 (unitElem (H := Unit)) (G + 1) aa.length (namesD aa)
theorem StS.call {w wr W : World} {b : Nat} {s : ByteArray} {r r' : List UInt8} {G : Nat} {nm : ByteArray} {sv : Value} {aa : AttrL} (h : StS w wr b s r G nm sv aa) (h2 : 2 <= b) (hb : But b wr W) (hr : RdL W b s r') : StS w W b s r' G nm sv aa :=
  have l1 := h.lt
  have l2 := h.lb
  { but := h.but.trans hb, env := h.env.but hb h2, rd := hr, kr := h.kr.but hb (by omega), kg := h.kg.but hb (by omega), lt := h.lt, lb := h.lb, own := owns_but h.own hb (by omega), map := map_but h.map hb (by omega) }
theorem StS.below {w wr W : World} {b : Nat} {s : ByteArray} {r : List UInt8} {G : Nat} {nm : ByteArray} {sv : Value} {aa : AttrL} (h : StS w wr b s r G nm sv aa) (h2 : 2 <= b) (hb : Below wr.heap.size wr W) : StS w W b s r G nm sv aa := h.call h2 (.of hb) (h.rd.below hb)
theorem But.other {b k : Nat} {w W W2 : World} (h : But b w W) (h2 : But k W W2) (hk : w.heap.size <= k) : But b w W2 :=
  ⟨h2.os.trans h.os, h2.tape.trans h.tape, h2.output.trans h.output, Nat.le_trans h.size h2.size, fun i hi hn => (h2.block i (Nat.lt_of_lt_of_le hi h.size) (by omega)).trans (h.block i hi hn)⟩
theorem But.upTo {b n : Nat} {w W W2 : World} (h : But b w W) (h2 : Below n W W2) (hn : w.heap.size <= n) : But b w W2 :=
  ⟨h2.os.trans h.os, h2.tape.trans h.tape, h2.output.trans h.output, Nat.le_trans h.size h2.size, fun i hi he => (h2.block i (by omega)).trans (h.block i hi he)⟩
theorem RdP.keep {w W : World} {b : Nat} {s : ByteArray} {p : Nat} (h : RdP w b s p) (hb : W.heap[b]? = w.heap[b]?) : RdP W b s p :=
  ⟨by rw [World.cell?_of_block (a := ⟨b, 0, none⟩) hb]; exact h.c0, by rw [World.cell?_of_block (a := ⟨b, 1, none⟩) hb]; exact h.c1, fun o => by rw [World.frozen?_of_block (a := ⟨b, o, none⟩) hb]; exact h.fz o⟩
theorem RdL.keep {w W : World} {b : Nat} {s : ByteArray} {r : List UInt8} (h : RdL w b s r) (hb : W.heap[b]? = w.heap[b]?) : RdL W b s r := by
  obtain ⟨p, h1, h2, h3⟩ := h
  exact ⟨p, h1, h2, h3.keep hb⟩
theorem Kept.keep {w W : World} {k : Nat} {cs : List Value} (h : Kept w k cs) (hb : W.heap[k]? = w.heap[k]?) : Kept W k cs :=
  ⟨fun o => by rw [World.cell?_of_block (a := ⟨k, o, none⟩) hb]; exact h.1 o, fun o => by rw [World.frozen?_of_block (a := ⟨k, o, none⟩) hb]; exact h.2 o⟩
theorem Env.keep {w W : World} (h : Env w) (h0 : W.heap[0]? = w.heap[0]?) (h1 : W.heap[1]? = w.heap[1]?) : Env W := by
  refine ⟨fun j hj => ?_, ?_⟩
  · rw [World.cell?_of_block (a := ⟨0, j, none⟩) h0]
    exact h.1 j hj
  · obtain ⟨m, hm⟩ := h.2
    exact ⟨m, by rw [World.cell?_of_block (a := ⟨1, 0, none⟩) h1]; exact hm⟩
theorem StS.push {w W w6 w7 : World} {b : Nat} {s : ByteArray} {r : List UInt8} {G : Nat} {nm : ByteArray} {sv v' : Value} {aa : AttrL} {a : List UInt8 × List UInt8} (h : StS w W b s r G nm sv aa) (h2 : 2 <= b) (hb6 : But (G + 1) W w6)
    (hm : w6.ownsMap Tryz.prog 9 (unitElem (H := Unit)) (G + 1) (aa.length + 1) (namesD (aa ++ [a]))) (hb7 : Below (G + 2) w6 w7) (ho : w7.ownsRow (G + 2) 62 2 v' (aa.length + 1) (attrCells (aa ++ [a]))) :
    StS w (w7.setCell ⟨G, 2, none⟩ v') b s r G nm v' (aa ++ [a]) := by
  have l1 := h.lt
  have l2 := h.lb
  have l3 := h.kg.lt
  have hk : ∀ i, i < G + 1 -> w7.heap[i]? = W.heap[i]? := fun i hi => (hb7.block i (by omega)).trans (hb6.block i (by omega) (by omega))
  have hs : ∀ i, i ≠ G -> (w7.setCell ⟨G, 2, none⟩ v').heap[i]? = w7.heap[i]? := fun i hi => Below.heap_setCell _ _ _ _ hi
  have hlen : (aa ++ [a]).length = aa.length + 1 := by simp
  refine { but := ((h.but.other hb6 (by omega)).upTo hb7 (by omega)).setNew _ (by simp only; omega) _, env := h.env.keep ((hs 0 (by omega)).trans (hk 0 (by omega))) ((hs 1 (by omega)).trans (hk 1 (by omega))), rd := h.rd.keep ((hs b (by omega)).trans (hk b (by omega))), kr := h.kr.keep ((hs _ (by omega)).trans (hk _ (by omega))), kg := ?_, lt := l1, lb := l2, own := ?_, map := ?_ }
  · exact (h.kg.keep (hk G (by omega))).set 2 (by simp) v'
  · rw [hlen]
    exact owns_set ho _ _ (by simp only; omega)
  · rw [hlen]
    have hlt := hm.lt
    obtain ⟨es, clock, h1, q⟩ := hm
    exact ⟨es, clock, by rw [hs _ (by omega), hb7.block _ (by omega)]; exact h1, q⟩
end Go.Proofs.YtfohijnkeefcfaaGreatDoor.S4
namespace Go.Proofs.YtfohijnkeefcfaaGreatDoor.S4
open Go.RowKit Go.Maps
theorem law9 : Keyed Tryz.prog 9 := string_keyed Tryz.underlying9
theorem zeroU (w : World) : (zeroValue 159).run Tryz.prog w = .ok (.agg #[]) w := by kernel_rfl
theorem stroke_suf (T : List UInt8) : ([47] : List UInt8).isSuffixOf T = (T.getLast? == some 47) := by
  rcases List.eq_nil_or_concat T with rfl | ⟨q, x, rfl⟩
  · rfl
  · rw [List.concat_eq_append, List.getLast?_append, Bool.eq_iff_iff, List.isSuffixOf_iff_suffix]
    constructor
    · intro h
      have := List.IsSuffix.getLast h (by simp)
      simp at this
      simp [this]
    · intro h
      have h2 : x = 47 := by simpa using h
      rw [h2]
      exact List.suffix_append _ _
def StartE (w w' : World) (b : Nat) (s : ByteArray) (NL : List UInt8) (RR : Option (AttrL × Bool × List UInt8)) (e : Ending) : Prop :=
  But b w w' /\ match RR with
    | none => e = .returned (tokV { kind := 0 } (.slice none 0 0)) /\ RdL w' b s []
    | some (aa, cl, V) => ∃ sv, IsA w' sv aa /\ (∀ k, sv.ownBlock = some k -> w.heap.size <= k) /\ e = .returned (tokV { kind := 2, name := NL, closed := cl } sv) /\ RdL w' b s V
theorem start_any (s : ByteArray) (hs : s.size <= 20000) (b : Nat) (h2 : 2 <= b) (r : List UInt8) (w : World) (he : Env w) (hR : RdL w b s r) :
    Calls Tryz.prog 99 #[.pointer (some ⟨b, 0, none⟩)] w fun e w' => StartE w w' b s (lowerL (r.takeWhile nameB)) (tailT [] (r.dropWhile nameB)) e := by
  have hlt := hR.lt
  have hlen := hR.len
  have hT0 := hide ((hR.below (below_alloc w (.cells tok0.toArray 79))))
  have HU := hide (fun w (h : RdL w b s r) => run_has s (by omega) b r ⟨#[32, 47, 62]⟩ nameB has_name w h)
  have hl1 := (List.takeWhile_prefix nameB (l := r)).length_le
  have hl2 := dw_le nameB r
  have hL := fun w => plower_any ⟨(r.takeWhile nameB).toArray⟩ (by rw [size_list, str_data]; omega) w
  rw [str_data] at hL
  have HL := hide hL
  have KR := hide (Kept.new w tok0 79)
  have HB0 := hide ((But.refl b w).alloc (.cells tok0.toArray 79))
  have HE := hide (he.alloc (.cells tok0.toArray 79))
  clear hL hR he
  generalize r.takeWhile nameB = T at *
  generalize lowerL T = NL at *
  generalize r.dropWhile nameB = V at *
  generalize hRR : tailT [] V = RR
  have HRR := hide hRR
  clear hRR
  have hmm := @run_makeMap Tryz.prog
  go_enter Tryz.func99, Tryz.ntmps99
  go_wp2_with fail
  refine (HU.out _ hT0.out).mono ?_
  rintro e w1 ⟨rfl, h3, h4⟩
  have R1 := hide h3
  have KR1 := hide (Kept.but KR.out h4 (by omega))
  have E1 := hide (HE.out.but h4 h2)
  have B1 := hide (HB0.out.trans h4)
  clear h3 h4 KR HE HB0 HU hT0
  generalize (⟨T.toArray⟩ : ByteArray) = x at *
  generalize hnm : (⟨NL.toArray⟩ : ByteArray) = nm at *
  have HNM := hide hnm
  clear hnm
  go_wp2_with fail
  refine (HL.out _).mono ?_
  rintro e w2 ⟨rfl, h4⟩
  have hG2 : w.heap.size < w2.heap.size := Nat.lt_of_lt_of_le KR1.out.lt h4.size
  have HS0 : Hid (StS w ((w2.alloc (.cells #[.int .i64 2, .string nm, .slice none 0 0, .bool false, .string ⟨#[]⟩] 79)).alloc (.map #[] 0)) b s V w2.heap.size nm (.slice none 0 0) []) := by
    refine hide ?_
    have bA := (below_alloc w2 (.cells #[.int .i64 2, .string nm, .slice none 0 0, .bool false, .string ⟨#[]⟩] 79))
    have bM := (below_alloc (w2.alloc (.cells #[.int .i64 2, .string nm, .slice none 0 0, .bool false, .string ⟨#[]⟩] 79)) (.map #[] 0))
    refine { but := ((B1.out.trans (.of h4)).alloc _).alloc _, env := ((E1.out.below h4).alloc _).alloc _, rd := ((R1.out.below h4).below bA).below bM, kr := ((KR1.out.below h4).alloc _).alloc _, kg := (Kept.new w2 _ _).alloc _, lt := hG2, lb := hlt, own := World.ownsRow_nil _ _ _ _, map := ?_ }
    have := World.ownsMap_made (H := Unit) (w2.alloc (.cells #[.int .i64 2, .string nm, .slice none 0 0, .bool false, .string ⟨#[]⟩] 79)) Tryz.prog 9 unitElem
    rw [show (w2.alloc (.cells #[.int .i64 2, .string nm, .slice none 0 0, .bool false, .string ⟨#[]⟩] 79)).heap.size = w2.heap.size + 1 by simp] at this
    exact this
  clear h4 R1 KR1 E1 B1 HL
  generalize hG : w2.heap.size = G at *
  go_wp2
  go_loopg [] V.length (fun g wr => ∃ (r : List UInt8) (aa : AttrL) (sv : Value), g = r.length /\ aa.length + r.length <= s.size /\ StS w wr b s r G nm sv aa /\ Hid (tailT aa r = RR))
  case atStart => exact ⟨V, [], _, rfl, by simp; omega, HS0.out, HRR⟩
  case round =>
    obtain ⟨r, aa, sv, rfl, hbd, hS, HK⟩ := hrel
    have hlr := hS.rd.len
    have HS := hide hS
    have HU2 := hide (run_lacks s (by omega) b r ⟨#[32, 47]⟩ passB (fun c => (has_pass c).symm) wr hS.rd)
    have hdw := dw_le passB r
    have HTN := hide (tail_none aa r)
    have HTE := hide (tail_end aa r)
    have HTA := hide (tail_attr aa r)
    have HSB : Hid (strokeB r = ([47] : List UInt8).isSuffixOf (r.takeWhile passB)) := hide (by rw [stroke_suf]; rfl)
    have htw := (List.takeWhile_prefix passB (l := r)).length_le
    clear hS
    generalize r.takeWhile passB = T at *
    generalize hV : r.dropWhile passB = V at *
    go_wp2_with fail
    refine HU2.out.mono ?_
    rintro e w1 ⟨rfl, h3, h4⟩
    have hS1 := HS.out.call h2 h4 h3
    have HDN := hide (done_any s (by omega) b V w1 h3)
    have HS1 := hide hS1
    clear hS1 h3 h4 HS HU2
    generalize hX : (⟨T.toArray⟩ : ByteArray) = X at *
    have HX := hide hX
    clear hX
    cases hVc : V with
    | nil =>
      subst hVc
      have HN : Hid (RR = none) := hide (by rw [<- HK.out]; exact HTN.out rfl)
      clear hV HTN HTE HTA HSB HK
      go_wp2_with fail
      refine HDN.out.mono ?_
      rintro e w3 ⟨rfl, n, rfl⟩
      have q : ∀ o, w1.cell? ⟨w.heap.size, o, none⟩ = tok0[o]? := HS1.out.kr.1
      have q0 : w1.cell? ⟨w.heap.size, 0, none⟩ = some (.int .i64 0) := q 0
      have q1 : w1.cell? ⟨w.heap.size, 1, none⟩ = some (.string ⟨#[]⟩) := q 1
      have q2 : w1.cell? ⟨w.heap.size, 2, none⟩ = some (.slice none 0 0) := q 2
      have q3 : w1.cell? ⟨w.heap.size, 3, none⟩ = some (.bool false) := q 3
      have q4 : w1.cell? ⟨w.heap.size, 4, none⟩ = some (.string ⟨#[]⟩) := q 4
      have qf : ∀ o, w1.frozen? ⟨w.heap.size, o, none⟩ = false := HS1.out.kr.2
      clear q
      go_wp2
      refine bodyPost_ret (v := tokV { kind := 0 } (.slice none 0 0)) ?_ rfl ?_
      · rw [results_cell_one rfl]
        go_simp
        rfl
      · rw [HN.out]
        exact ⟨(HS1.out.but.drewN n).put5 (Nat.le_refl _) ({ kind := 0 }, .slice none 0 0), rfl, (HS1.out.rd.drewN n).put5 (by have := HS1.out.lb; omega) ({ kind := 0 }, .slice none 0 0)⟩
    | cons c r2 =>
      subst hVc
      have hSK := fun w (h : RdL w b s (c :: r2)) => skip_any s (by omega) b (c :: r2) ⟨#[62]⟩ w h
      by_cases h62 : c = 62
      · subst h62
        have HN : Hid (RR = some (aa, strokeB r, r2)) := hide (by rw [<- HK.out]; exact HTE.out r2 rfl)
        have HSK : Hid (∀ w, RdL w b s (62 :: r2) -> Calls Tryz.prog 91 #[.pointer (some ⟨b, 0, none⟩), .string ⟨#[62]⟩] w fun e w' => e = .returned (.bool true) /\ RdL w' b s r2 /\ But b w w') := hide hSK
        have hHS := fun w => Tryz.strings_HasSuffix X ⟨#[47]⟩ w (by
          rw [<- HX.out, size_list, str_data]
          omega)
        have HHS : Hid (∀ w, Calls Tryz.prog 150 #[.string X, .string ⟨#[47]⟩] w fun e w' => e = .returned (.bool (strokeB r)) /\ w' = w) := by
          refine hide fun w => ?_
          have := hHS w
          rw [<- HX.out, str_data] at this
          rw [HSB.out, <- HX.out]
          exact this
        clear hV HTN HTE HTA HSB HK hSK hHS
        generalize strokeB r = CL at *
        go_wp2_with fail
        refine HDN.out.mono ?_
        rintro e w3 ⟨rfl, n, rfl⟩
        go_wp2_with fail
        refine (HSK.out _ (HS1.out.rd.drewN n)).mono ?_
        rintro e w4 ⟨rfl, h3, h4⟩
        have hS4 := HS1.out.call h2 (((But.refl b w1).drewN n).trans h4) h3
        have HS4 := hide hS4
        clear hS4 h3 h4 HS1 HSK HDN
        go_wp2_with fail
        refine (HHS.out _).mono ?_
        rintro e w5 ⟨rfl, rfl⟩
        obtain ⟨sa, sc, rfl⟩ := owns_form HS4.out.own
        have q0 : w5.cell? ⟨w.heap.size, 0, none⟩ = some (.int .i64 0) := HS4.out.kr.1 0
        have q1 : w5.cell? ⟨w.heap.size, 1, none⟩ = some (.string ⟨#[]⟩) := HS4.out.kr.1 1
        have q2 : w5.cell? ⟨w.heap.size, 2, none⟩ = some (.slice none 0 0) := HS4.out.kr.1 2
        have q3 : w5.cell? ⟨w.heap.size, 3, none⟩ = some (.bool false) := HS4.out.kr.1 3
        have q4 : w5.cell? ⟨w.heap.size, 4, none⟩ = some (.string ⟨#[]⟩) := HS4.out.kr.1 4
        have qf : ∀ o, w5.frozen? ⟨w.heap.size, o, none⟩ = false := HS4.out.kr.2
        have g0 : w5.cell? ⟨G, 0, none⟩ = some (.int .i64 2) := HS4.out.kg.1 0
        have g1 : w5.cell? ⟨G, 1, none⟩ = some (.string nm) := HS4.out.kg.1 1
        have g2 : w5.cell? ⟨G, 2, none⟩ = some (.slice sa aa.length sc) := HS4.out.kg.1 2
        have g3 : w5.cell? ⟨G, 3, none⟩ = some (.bool false) := HS4.out.kg.1 3
        have g4 : w5.cell? ⟨G, 4, none⟩ = some (.string ⟨#[]⟩) := HS4.out.kg.1 4
        have gf : ∀ o, w5.frozen? ⟨G, o, none⟩ = false := HS4.out.kg.2
        have hGR : w.heap.size ≠ G := Nat.ne_of_lt HS4.out.lt
        go_wp2
        refine bodyPost_ret (v := tokV { kind := 2, name := NL, closed := CL } (.slice sa aa.length sc)) ?_ rfl ?_
        · rw [results_cell_one rfl]
          go_simp
          rw [<- HNM.out]
          rfl
        · rw [HN.out]
          have hlG := HS4.out.lt
          have hlb := HS4.out.lb
          have hob := owns_block HS4.out.own
          have hA := owns_isA HS4.out.own
          rw [<- HNM.out]
          refine ⟨(HS4.out.but.setNew ⟨G, 3, none⟩ (by simp only; omega) _).put5 (Nat.le_refl _) ({ kind := 2, name := NL, closed := CL }, .slice sa aa.length sc), .slice sa aa.length sc, ?_, fun k hk => by have := hob k hk; omega, rfl, ?_⟩
          · exact (hA.set ⟨G, 3, none⟩ _ (fun k hk => by have := hob k hk; simp only; omega)).put5 w.heap.size (fun k hk => by have := hob k hk; omega) ({ kind := 2, name := NL, closed := CL }, .slice sa aa.length sc)
          · exact (HS4.out.rd.other ⟨G, 3, none⟩ (by simp only; omega) _).put5 (by omega) ({ kind := 2, name := NL, closed := CL }, .slice sa aa.length sc)
      · have HN : Hid (tailT (addA aa (attrL c r2).1) (attrL c r2).2 = RR) := hide (by rw [<- HK.out]; exact (HTA.out c r2 rfl h62).symm)
        have hpre : ([62] : List UInt8).isPrefixOf (c :: r2) = false := by
          have e : ¬ (62 : UInt8) = c := fun e => h62 e.symm
          simp [List.isPrefixOf, e]
        have HSK : Hid (∀ w, RdL w b s (c :: r2) -> Calls Tryz.prog 91 #[.pointer (some ⟨b, 0, none⟩), .string ⟨#[62]⟩] w fun e w' => e = .returned (.bool false) /\ RdL w' b s (c :: r2) /\ But b w w') := by
          refine hide fun w h => ?_
          have := hSK w h
          rw [show skipL (⟨#[62]⟩ : ByteArray).data.toList (c :: r2) = c :: r2 by unfold skipL; rw [show (⟨#[62]⟩ : ByteArray).data.toList.isPrefixOf (c :: r2) = false from hpre]; rfl, show (⟨#[62]⟩ : ByteArray).data.toList.isPrefixOf (c :: r2) = false from hpre] at this
          exact this
        have HAT := hide (fun w he (h : RdL w b s (c :: r2)) => attr_any s hs b h2 c r2 w he h)
        have hal := attrL_len c r2
        have hanl := attrL_name c r2
        have hvl := congrArg List.length hV
        simp only [List.length_cons] at hdw
        clear hV HTN HTE HTA HSB HK hSK hpre h62 hvl
        generalize attrL c r2 = AL at *
        obtain ⟨⟨an, av⟩, V'⟩ := AL
        simp only at hal hanl
        go_wp2_with fail
        refine HDN.out.mono ?_
        rintro e w3 ⟨rfl, n, rfl⟩
        go_wp2_with fail
        refine (HSK.out _ (HS1.out.rd.drewN n)).mono ?_
        rintro e w4 ⟨rfl, h3, h4⟩
        have hS4 := HS1.out.call h2 (((But.refl b w1).drewN n).trans h4) h3
        have HS4 := hide hS4
        clear hS4 h3 h4 HS1 HSK HDN
        go_wp2_with fail
        refine (HAT.out _ HS4.out.env HS4.out.rd).mono ?_
        rintro e w5 ⟨rfl, h3, h4⟩
        have HS4b := hide (HS4.out.call h2 h4 h3)
        have hS5 := (HS4.out.call h2 h4 h3).below h2 (below_alloc w5 (.cells #[.string ⟨an.toArray⟩, .string ⟨av.toArray⟩] 62))
        have HS5 := hide hS5
        have KA := hide (Kept.new w5 [.string ⟨an.toArray⟩, .string ⟨av.toArray⟩] 62)
        have hkey : keyOf Tryz.prog 9 (.string ⟨an.toArray⟩) = some (.string an) := by
          have := Go.WideMaps.keyOf_string_mk (P := Tryz.prog) Tryz.underlying9 (s := ⟨an.toArray⟩) (by rw [size_list, str_data]; unfold maxLen; omega)
          rw [str_data] at this
          exact this
        have hown := hS5.map
        have hhas := namesD_has aa an
        clear h3 h4 HS4 HAT
        cases hg : (getA aa an).isSome with
        | true =>
          rw [hg] at hhas
          have hadd : addA aa (an, av) = aa := by unfold addA; rw [if_pos hg]
          have HN2 : Hid (tailT aa V' = RR) := hide (by rw [<- HN.out]; show tailT aa V' = tailT (addA aa (an, av)) V'; rw [hadd])
          have HS6 := hide (hS5.below h2 (below_alloc _ (.cells #[] 159)))
          clear hS5 HN hadd hg HS5
          go_wp2_with (first | (at_lookup; refine wpList_lookup_own_unit _ rfl _ _ 157 rfl 9 159 law9 Tryz.underlying157 (zeroU _) (G + 1) aa.length _ rfl hown _ _ rfl hkey ?_) | fail)
          go_roundg V'.length
          case rel => exact ⟨V', aa, sv, rfl, by omega, HS6.out, HN2⟩
          case measure => omega
        | false =>
          rw [hg] at hhas
          have hadd : addA aa (an, av) = aa ++ [(an, av)] := by unfold addA; rw [if_neg (by rw [hg]; decide)]
          have HN2 : Hid (tailT (aa ++ [(an, av)]) V' = RR) := hide (by rw [<- HN.out]; show tailT _ V' = tailT (addA aa (an, av)) V'; rw [hadd])
          have hS6 := hS5.below h2 (below_alloc _ (.cells #[] 159))
          have hKA := (KA.out).alloc (.cells #[] 159)
          have hlG := hS6.kg.lt
          have hlM := hS6.map.lt
          have hlW : G + 2 <= w5.heap.size := by
            have h5 := (HS5.out.map).lt
            have h6 := (HS4b.out.map).lt
            omega
          obtain ⟨w6, hrun, hown1, hturn⟩ := hS6.map.store law9 Tryz.underlying157 (by unfold maxLen; omega) hkey unitElem_mk
          have hb6 : But (G + 1) ((w5.alloc (.cells #[.string ⟨an.toArray⟩, .string ⟨av.toArray⟩] 62)).alloc (.cells #[] 159)) w6 := ⟨hturn.grown.os, hturn.grown.tape, hturn.grown.output, hturn.grown.size, fun k hk hn => hturn.grown.block k hk (fun e => hn (Option.some.inj e))⟩
          rw [<- namesD_snoc aa (an, av)] at hown1
          have hK6 := hKA.but hb6 (by omega)
          have hG6 := hS6.kg.but hb6 (by omega)
          have hO6 := owns_but hS6.own hb6 (by omega)
          have hz6 := hb6.size
          obtain ⟨v', w7, hr, ho, hb7⟩ := append_attr w6 (G + 2) aa.length sv aa (an, av) hO6 (by omega) (by simp at hz6; omega)
          obtain ⟨sa, sc, rfl⟩ := owns_form ho
          have HRUN := hide hr
          have HP := hide (hS6.push h2 hb6 hown1 hb7 ho)
          have g2 : w6.cell? ⟨G, 2, none⟩ = some sv := hG6.1 2
          have a0 : w6.cell? ⟨w5.heap.size, 0, none⟩ = some (.string ⟨an.toArray⟩) := hK6.1 0
          have a1 : w6.cell? ⟨w5.heap.size, 1, none⟩ = some (.string ⟨av.toArray⟩) := hK6.1 1
          have g27 : w7.cell? ⟨G, 2, none⟩ = some sv := by rw [hb7.cell (p := ⟨G, 2, none⟩) (by simp only; omega)]; exact g2
          have gf7 : w7.frozen? ⟨G, 2, none⟩ = false := by rw [hb7.frozen (p := ⟨G, 2, none⟩) (by simp only; omega)]; exact hG6.2 2
          clear hS5 HN hadd hg HS5 hS6 hKA hb6 hown1 hturn hK6 hG6 hO6 hb7 ho hr KA HS4b
          go_wp2_with (first | (at_lookup; refine wpList_lookup_own_unit _ rfl _ _ 157 rfl 9 159 law9 Tryz.underlying157 (zeroU _) (G + 1) aa.length _ rfl hown _ _ rfl hkey ?_) | (at_builtin; refine wpList_append_run rfl _ _ 43 rfl _ _ _ _ rfl rfl HRUN.out ?_) | fail)
          go_roundg V'.length
          case rel => exact ⟨V', aa ++ [(an, av)], _, rfl, by simp; omega, HP.out, HN2⟩
          case measure => omega
end Go.Proofs.YtfohijnkeefcfaaGreatDoor.S4
namespace Go.Proofs.YtfohijnkeefcfaaGreatDoor.S4
open Go.RowKit
def TokE (w w' : World) (b : Nat) (s : ByteArray) (R : Tok × List UInt8) (e : Ending) : Prop := But b w w' /\ RdL w' b s R.2 /\ ∃ sv, IsA w' sv R.1.attrs /\ (∀ k, sv.ownBlock = some k -> w.heap.size <= k) /\ e = .returned (tokV R.1 sv)
theorem list2 (t : ByteArray) (h : 2 <= t.size) : t.data.toList = t[0] :: t[1] :: t.data.toList.drop 2 := by
  have h0 := drop_cons t 0 (by omega)
  have h1 := drop_cons t 1 (by omega)
  rw [List.drop_zero] at h0
  rw [h1] at h0
  exact h0
theorem begins_short (t : ByteArray) (h : t.size < 2) : beginsB t.data.toList = false := by
  have hl := size_list t
  cases hd : t.data.toList with
  | nil => rfl
  | cons a q =>
    cases q with
    | nil => rfl
    | cons c q => rw [hd] at hl; simp at hl; omega
theorem begins_two (t : ByteArray) (h : 2 <= t.size) : beginsB t.data.toList = (t[0] == 60 && (letterN t[1].toNat || t[1] == 33 || t[1] == 63 || (t[1] == 47 && decide (2 < t.size)))) := by
  have hl := size_list t
  rw [list2 t h]
  simp only [beginsB]
  have : (!(t.data.toList.drop 2).isEmpty) = decide (2 < t.size) := by
    by_cases h3 : 2 < t.size
    · rw [drop_cons t 2 h3]; simp [h3]
    · rw [drop_end t 2 (by omega)]; simp [h3]
  rw [this]
theorem u8_ne (c d : UInt8) (h : c.toNat ≠ d.toNat) : (c == d) = false := beq_eq_false_iff_ne.2 (fun e => h (by rw [e]))
theorem u8_eq (c d : UInt8) (h : c.toNat = d.toNat) : (c == d) = true := beq_iff_eq.2 (UInt8.toNat_inj.1 h)
theorem markup_any (t : ByteArray) (hs : t.size <= 100000) (w : World) :
    Calls Tryz.prog 96 #[.string t] w fun e w' => e = .returned (.bool (beginsB t.data.toList)) /\ w' = w := by
  by_cases h2 : 2 <= t.size
  · have hz : ¬ ((t.size : Int) < 2) := by omega
    have hi0 := run_index_at t 0 0 rfl (by omega)
    have hi1 := run_index_at t 1 1 rfl (by omega)
    have HL := hide (letter_any t[1].toNat)
    rw [begins_two t h2]
    by_cases h60 : t[0].toNat = 60
    · rw [u8_eq t[0] 60 h60, Bool.true_and]
      rw [h60] at hi0
      by_cases h33 : t[1].toNat = 33
      · rw [u8_eq t[1] 33 h33, Bool.or_true, Bool.true_or, Bool.true_or]
        rw [h33] at hi1
        clear HL h33 h60
        go_enter Tryz.func96, Tryz.ntmps96
        go_wp2
        go_ret
        exact ⟨rfl, rfl⟩
      · by_cases h63 : t[1].toNat = 63
        · rw [u8_eq t[1] 63 h63, Bool.or_true, Bool.true_or]
          rw [h63] at hi1
          clear HL h33 h60 h63
          go_enter Tryz.func96, Tryz.ntmps96
          go_wp2
          go_ret
          exact ⟨rfl, rfl⟩
        · by_cases h47 : t[1].toNat = 47
          · have hl : letterN t[1].toNat = false := by rw [h47]; decide
            rw [hl, u8_ne t[1] 33 h33, u8_ne t[1] 63 h63, u8_eq t[1] 47 h47, Bool.true_and, Bool.false_or, Bool.false_or, Bool.false_or]
            rw [h47] at hi1
            clear HL h33 h60 h63 h47 hl
            by_cases h3 : 2 < t.size
            · have h3' : (2 : Int) < t.size := by omega
              rw [show decide (2 < t.size) = true from by simp [h3]]
              go_enter Tryz.func96, Tryz.ntmps96
              go_wp2
              go_ret
              exact ⟨rfl, rfl⟩
            · have h3' : ¬ (2 : Int) < t.size := by omega
              rw [show decide (2 < t.size) = false from by simp [h3]]
              go_enter Tryz.func96, Tryz.ntmps96
              go_wp2
              go_ret
              exact ⟨rfl, rfl⟩
          · rw [u8_ne t[1] 33 h33, u8_ne t[1] 63 h63, u8_ne t[1] 47 h47, Bool.false_and, Bool.or_false, Bool.or_false, Bool.or_false]
            have e1 := ne_lit t[1].toNat 33 (by omega)
            have e2 := ne_lit t[1].toNat 63 (by omega)
            have e3 := ne_lit t[1].toNat 47 (by omega)
            clear h33 h60 h63 h47
            generalize t[1].toNat = n at *
            go_enter Tryz.func96, Tryz.ntmps96
            go_wp2_with fail
            refine (HL.out _).mono ?_
            rintro e w1 ⟨rfl, rfl⟩
            go_wp2
            go_ret
            exact ⟨rfl, rfl⟩
    · rw [u8_ne t[0] 60 h60, Bool.false_and]
      have e1 := ne_lit t[0].toNat 60 (by omega)
      clear HL h60
      generalize t[0].toNat = n at *
      go_enter Tryz.func96, Tryz.ntmps96
      go_wp2
      go_ret
      exact ⟨rfl, rfl⟩
  · rw [begins_short t (by omega)]
    have hz : (t.size : Int) < 2 := by omega
    go_enter Tryz.func96, Tryz.ntmps96
    go_wp2
    go_ret
    exact ⟨rfl, rfl⟩
theorem textToken_any (t : ByteArray) (w : World) :
    Calls Tryz.prog 64 #[.string t] w fun e w' => e = .returned (.agg #[.int .i64 1, .string ⟨#[]⟩, .slice none 0 0, .bool false, .string t]) /\ Below w.heap.size w w' := by
  go_enter Tryz.func64, Tryz.ntmps64
  go_wp2
  refine bodyPost_ret (v := .agg #[.int .i64 1, .string ⟨#[]⟩, .slice none 0 0, .bool false, .string t]) ?_ rfl ⟨rfl, ?_⟩
  · rw [results_cell_one rfl]
    go_simp
  · exact below_alloc w _
theorem commentToken_any (t : ByteArray) (w : World) :
    Calls Tryz.prog 152 #[.string t] w fun e w' => e = .returned (.agg #[.int .i64 4, .string ⟨#[]⟩, .slice none 0 0, .bool false, .string t]) /\ Below w.heap.size w w' := by
  go_enter Tryz.func152, Tryz.ntmps152
  go_wp2
  refine bodyPost_ret (v := .agg #[.int .i64 4, .string ⟨#[]⟩, .slice none 0 0, .bool false, .string t]) ?_ rfl ⟨rfl, ?_⟩
  · rw [results_cell_one rfl]
    go_simp
  · exact below_alloc w _
end Go.Proofs.YtfohijnkeefcfaaGreatDoor.S4
namespace Go.Proofs.YtfohijnkeefcfaaGreatDoor.S4
open Go.RowKit
theorem tokE_end {w w3 : World} {b : Nat} {s : ByteArray} {V : List UInt8} (t : Tok) (hb : But b w w3) (hr : RdL w3 b s V) (hl : b < w.heap.size) (ha : t.attrs = []) : TokE w (put5 w3 w.heap.size (t, .slice none 0 0)) b s (t, V) (.returned (tokV t (.slice none 0 0))) :=
  ⟨hb.put5 (Nat.le_refl _) _, hr.put5 (by omega) _, .slice none 0 0, .inl ⟨rfl, ha⟩, (fun k hk => by cases hk), rfl⟩
theorem tokE_end2 {w w3 : World} {b : Nat} {s : ByteArray} {V : List UInt8} (t : Tok) (sv : Value) (hb : But b w w3) (hr : RdL w3 b s V) (hl : b < w.heap.size) (hA : IsA w3 sv t.attrs) (ho : ∀ k, sv.ownBlock = some k -> w.heap.size < k) : TokE w (put5 w3 w.heap.size (t, sv)) b s (t, V) (.returned (tokV t sv)) :=
  ⟨hb.put5 (Nat.le_refl _) _, hr.put5 (by omega) _, sv, hA.put5 w.heap.size (fun k hk => by have := ho k hk; omega) _, fun k hk => Nat.le_of_lt (ho k hk), rfl⟩
theorem TokE.alloc {w W : World} {b : Nat} {s : ByteArray} {R : Tok × List UInt8} {e : Ending} (h : TokE w W b s R e) (o : Obj) : TokE w (W.alloc o) b s R e := by
  obtain ⟨h1, h2, sv, h3, h4, h5⟩ := h
  exact ⟨h1.alloc o, h2.below (below_alloc W o), sv, h3.alloc o, h4, h5⟩
theorem Kept.tok {w : World} {k : Nat} (h : Kept w k tok0) : w.cell? ⟨k, 0, none⟩ = some (.int .i64 0) /\ w.cell? ⟨k, 1, none⟩ = some (.string ⟨#[]⟩) /\ w.cell? ⟨k, 2, none⟩ = some (.slice none 0 0) /\ w.cell? ⟨k, 3, none⟩ = some (.bool false) /\ w.cell? ⟨k, 4, none⟩ = some (.string ⟨#[]⟩) /\ ∀ o, w.frozen? ⟨k, o, none⟩ = false :=
  ⟨h.1 0, h.1 1, h.1 2, h.1 3, h.1 4, h.2⟩
theorem take_to (s : ByteArray) (hs : s.size <= 100000) (b p q : Nat) (hq : q <= s.size) (hpq : p <= q) (w : World) (hR : RdP w b s p) :
    Calls Tryz.prog 65 #[.pointer (some ⟨b, 0, none⟩), .int .i64 (q : Int)] w fun e w' => e = .returned (.string (s.extract p q)) /\ RdP w' b s q /\ But b w w' := by
  refine (take_any s hs b p q hq hpq w hR).mono ?_
  rintro e w1 ⟨rfl, rfl⟩
  exact ⟨rfl, hR.set q, (But.refl b w).setCell 1 _⟩
theorem plainText_any (s : ByteArray) (hs : s.size <= 20000) (b : Nat) (h2 : 2 <= b) (r : List UInt8) (w : World) (he : Env w) (hR : RdL w b s r) :
    Calls Tryz.prog 97 #[.pointer (some ⟨b, 0, none⟩)] w fun e w' => TokE w w' b s ({ kind := 1, text := decL false (spanT r).1 }, (spanT r).2) e := by
  have hlt := hR.lt
  have KR := hide (Kept.new w tok0 79)
  have HB0 := hide ((But.refl b w).alloc (.cells tok0.toArray 79))
  have HE := hide (he.alloc (.cells tok0.toArray 79))
  have hlen := hR.len
  obtain ⟨p, hp, hd, hPw⟩ := hR
  have hP := hPw.below (below_alloc w (.cells tok0.toArray 79))
  have hap := spanT_app r
  have c0 := hPw.c0
  have c1 := hPw.c1
  have HT := hide (fun q hq hpq => take_to s (by omega) b p q hq hpq _ hP)
  have hMK := fun k (hk : k <= s.size) => markup_any ⟨(s.data.toList.drop k).toArray⟩ (by rw [size_list, str_data, List.length_drop, <- size_list]; omega)
  have HMK : Hid (∀ k, k <= s.size -> ∀ w, Calls Tryz.prog 96 #[.string (s.extract k s.size)] w fun e w' => e = .returned (.bool (beginsB (s.data.toList.drop k))) /\ w' = w) := by
    refine hide fun k hk w => ?_
    rw [rest_is s k hk]
    exact hMK k hk w
  have hlT : (spanT r).1.length <= s.size := by
    have h1 := congrArg List.length hap
    rw [List.length_append] at h1
    omega
  have hD := fun w ho => decode_any ⟨(spanT r).1.toArray⟩ (by rw [size_list, str_data]; omega) false w ho
  rw [str_data] at hD
  have HD := hide hD
  have HP := hide hP
  generalize hV : (spanT r).2 = V at *
  generalize (spanT r).1 = T at *
  have HV : Hid ((spanT (s.data.toList.drop p)).2 = V) := hide (by rw [hd]; exact hV)
  have HCUT : Hid (∀ k, p <= k -> k <= s.size -> s.data.toList.drop k = V -> s.extract p k = ⟨T.toArray⟩) := hide fun k h1 h2 h3 => cutP s p k h1 h2 T V (by rw [hd]; exact hap.symm) h3
  clear hMK hD hV hap hd he hlT hP hPw
  generalize decL false T = D at *
  go_enter Tryz.func97, Tryz.ntmps97
  go_wp2
  go_loop [3] (fun i => ∃ k : Nat, p <= k /\ k <= s.size /\ i = .int .i64 k /\ Hid ((spanT (s.data.toList.drop k)).2 = V)) (fun i => s.size - (intOf i).toNat)
  case atStart => exact ⟨p, Nat.le_refl _, hp, rfl, HV⟩
  case round =>
    obtain ⟨k, hpk, hk, rfl, HR⟩ := hrel
    by_cases hlt2 : k < s.size
    · have hlt3 : (k : Int) < s.size := by omega
      have hst := spanT_step s k hlt2
      have HQ := hide (HMK.out k hk)
      cases hB : beginsB (s.data.toList.drop k) with
      | false =>
        rw [hB] at HQ hst
        have HR2 : Hid ((spanT (s.data.toList.drop (k + 1))).2 = V) := hide (by rw [<- HR.out, hst]; rfl)
        clear hB hst HR
        go_wp2_with fail
        refine (HQ.out _).mono ?_
        rintro e w1 ⟨rfl, rfl⟩
        go_wp2
        go_round
        case rel => exact ⟨k + 1, by omega, by omega, by go_num, HR2⟩
        case measure => simp [intOf]; omega
      | true =>
        rw [hB] at HQ hst
        have HR2 : Hid (s.data.toList.drop k = V) := hide (by rw [<- HR.out, hst]; rfl)
        have HC2 := hide (HCUT.out k hpk hk HR2.out)
        clear hB hst HR
        go_wp2_with fail
        refine (HQ.out _).mono ?_
        rintro e w1 ⟨rfl, rfl⟩
        go_wp2_with fail
        refine (HT.out k hk hpk).mono ?_
        rintro e w1 ⟨rfl, h3, h4⟩
        have R1 : Hid (RdL w1 b s V) := hide ⟨k, hk, HR2.out, h3⟩
        have KR1 := hide (Kept.but KR.out h4 (by omega))
        have E1 := hide (HE.out.but h4 h2)
        have B1 := hide (HB0.out.trans h4)
        clear h3 h4 KR HE HB0 HT c0 c1
        rw [HC2.out]
        generalize (⟨T.toArray⟩ : ByteArray) = x at *
        go_wp2_with fail
        refine (HD.out _ E1.out.1).mono ?_
        rintro e w2 ⟨rfl, h4⟩
        have R2 := hide (R1.out.below h4)
        have KR2 := hide (Kept.below KR1.out h4)
        have B2 := hide (B1.out.trans (.of h4))
        clear h4 R1 KR1 B1 E1 HD
        have HTT := hide (textToken_any ⟨D.toArray⟩)
        generalize hdx : (⟨D.toArray⟩ : ByteArray) = dx at *
        have HDX := hide hdx
        clear hdx
        go_wp2_with fail
        refine (HTT.out _).mono ?_
        rintro e w3 ⟨rfl, h4⟩
        have R3 := hide (R2.out.below h4)
        have KR3 := hide (Kept.below KR2.out h4)
        have B3 := hide (B2.out.trans (.of h4))
        clear h4 R2 KR2 B2 HTT
        obtain ⟨q0, q1, q2, q3, q4, qf⟩ := KR3.out.tok
        go_wp2
        refine bodyPost_ret (v := tokV { kind := 1, text := D } (.slice none 0 0)) ?_ rfl ?_
        · rw [results_cell_one rfl]
          go_simp
          rw [<- HDX.out]
          rfl
        · have := tokE_end { kind := 1, text := D } B3.out R3.out hlt rfl
          unfold put5 at this
          rw [HDX.out] at this
          exact this
    · have hlt3 : ¬ (k : Int) < s.size := by omega
      have HR2 : Hid (s.data.toList.drop k = V) := hide (by rw [<- HR.out, drop_end s k (by omega)]; rfl)
      have HC2 := hide (HCUT.out k hpk hk HR2.out)
      clear HR
      go_wp2_with fail
      refine (HT.out k hk hpk).mono ?_
      rintro e w1 ⟨rfl, h3, h4⟩
      have R1 : Hid (RdL w1 b s V) := hide ⟨k, hk, HR2.out, h3⟩
      have KR1 := hide (Kept.but KR.out h4 (by omega))
      have E1 := hide (HE.out.but h4 h2)
      have B1 := hide (HB0.out.trans h4)
      clear h3 h4 KR HE HB0 HT c0 c1
      rw [HC2.out]
      generalize (⟨T.toArray⟩ : ByteArray) = x at *
      go_wp2_with fail
      refine (HD.out _ E1.out.1).mono ?_
      rintro e w2 ⟨rfl, h4⟩
      have R2 := hide (R1.out.below h4)
      have KR2 := hide (Kept.below KR1.out h4)
      have B2 := hide (B1.out.trans (.of h4))
      clear h4 R1 KR1 B1 E1 HD
      have HTT := hide (textToken_any ⟨D.toArray⟩)
      generalize hdx : (⟨D.toArray⟩ : ByteArray) = dx at *
      have HDX := hide hdx
      clear hdx
      go_wp2_with fail
      refine (HTT.out _).mono ?_
      rintro e w3 ⟨rfl, h4⟩
      have R3 := hide (R2.out.below h4)
      have KR3 := hide (Kept.below KR2.out h4)
      have B3 := hide (B2.out.trans (.of h4))
      clear h4 R2 KR2 B2 HTT
      obtain ⟨q0, q1, q2, q3, q4, qf⟩ := KR3.out.tok
      go_wp2
      refine bodyPost_ret (v := tokV { kind := 1, text := D } (.slice none 0 0)) ?_ rfl ?_
      · rw [results_cell_one rfl]
        go_simp
        rw [<- HDX.out]
        rfl
      · have := tokE_end { kind := 1, text := D } B3.out R3.out hlt rfl
        unfold put5 at this
        rw [HDX.out] at this
        exact this
theorem stop_pany (s : ByteArray) (hs : s.size <= 20000) (b : Nat) (h2 : 2 <= b) (r : List UInt8) (w : World) (he : Env w) (hR : RdL w b s r) :
    Calls Tryz.prog 92 #[.pointer (some ⟨b, 0, none⟩)] w fun e w' => TokE w w' b s (endedL r true) e := by
  have hlt := hR.lt
  have KR := hide (Kept.new w tok0 79)
  have HB0 := hide ((But.refl b w).alloc (.cells tok0.toArray 79))
  have hE : endedL r true = match tailT [] (r.dropWhile nameB) with
      | none => ({ kind := 0 }, [])
      | some (aa, cl, V) => ({ kind := 3, name := lowerL (r.takeWhile nameB) }, V) := by
    unfold endedL
    rw [tagL_tail]
    cases tailT [] (r.dropWhile nameB) <;> rfl
  have hS := start_any s hs b h2 r _ (he.alloc (.cells tok0.toArray 79)) (hR.below (below_alloc w (.cells tok0.toArray 79)))
  rw [hE]
  clear hE hR he
  generalize lowerL (r.takeWhile nameB) = NL at *
  generalize tailT [] (r.dropWhile nameB) = RR at *
  have HS := hide hS
  clear hS
  cases RR with
  | none =>
    go_enter Tryz.func92, Tryz.ntmps92
    go_wp2_with fail
    refine HS.out.mono ?_
    rintro e w1 ⟨h4, rfl, h3⟩
    have hK := Kept.but KR.out h4 (by omega)
    have hz1 : w.heap.size < w1.heap.size := hK.lt
    obtain ⟨q0, q1, q2, q3, q4, qf⟩ := hK.tok
    have R1 := hide h3
    have B1 := hide (HB0.out.trans h4)
    clear h3 h4 KR HB0 HS hK
    unfold tokV
    go_wp2
    refine bodyPost_ret (v := tokV { kind := 0 } (.slice none 0 0)) ?_ rfl ?_
    · rw [results_cell_one rfl]
      go_simp
      rfl
    · exact (tokE_end { kind := 0 } B1.out R1.out hlt rfl).alloc _
  | some x =>
    obtain ⟨aa, cl, V⟩ := x
    go_enter Tryz.func92, Tryz.ntmps92
    go_wp2_with fail
    refine HS.out.mono ?_
    rintro e w1 ⟨h4, sv, hA, hob, rfl, h3⟩
    have hK := Kept.but KR.out h4 (by omega)
    have hz1 : w.heap.size < w1.heap.size := hK.lt
    obtain ⟨q0, q1, q2, q3, q4, qf⟩ := hK.tok
    have R1 := hide h3
    have B1 := hide (HB0.out.trans h4)
    obtain ⟨sa, sc, rfl⟩ := isA_form hA
    clear h3 h4 KR HB0 HS hK hob hA
    unfold tokV
    generalize hnm : (⟨NL.toArray⟩ : ByteArray) = nm at *
    have HNM := hide hnm
    clear hnm
    go_wp2
    refine bodyPost_ret (v := tokV { kind := 3, name := NL } (.slice none 0 0)) ?_ rfl ?_
    · rw [results_cell_one rfl]
      go_simp
      rw [<- HNM.out]
      rfl
    · rw [<- HNM.out]
      exact (tokE_end { kind := 3, name := NL } B1.out R1.out hlt rfl).alloc _
theorem start_pany (s : ByteArray) (hs : s.size <= 20000) (b : Nat) (h2 : 2 <= b) (r : List UInt8) (w : World) (he : Env w) (hR : RdL w b s r) :
    Calls Tryz.prog 99 #[.pointer (some ⟨b, 0, none⟩)] w fun e w' => TokE w w' b s (endedL r false) e := by
  have hE : endedL r false = match tailT [] (r.dropWhile nameB) with
      | none => ({ kind := 0 }, [])
      | some (aa, cl, V) => ({ kind := 2, name := lowerL (r.takeWhile nameB), attrs := aa, closed := cl }, V) := by
    unfold endedL
    rw [tagL_tail]
    cases tailT [] (r.dropWhile nameB) <;> rfl
  rw [hE]
  refine (start_any s hs b h2 r w he hR).mono ?_
  intro e w1 h
  generalize tailT [] (r.dropWhile nameB) = RR at *
  cases RR with
  | none =>
    obtain ⟨h1, rfl, h3⟩ := h
    exact ⟨h1, h3, .slice none 0 0, .inl ⟨rfl, rfl⟩, (fun k hk => by cases hk), rfl⟩
  | some x =>
    obtain ⟨aa, cl, V⟩ := x
    obtain ⟨h1, sv, hA, hob, rfl, h3⟩ := h
    exact ⟨h1, h3, sv, hA, hob, rfl⟩
theorem skip_yes (s : ByteArray) (hs : s.size <= 100000) (b : Nat) (r : List UInt8) (t : ByteArray) (h : t.data.toList.isPrefixOf r = true) (w : World) (hR : RdL w b s r) :
    Calls Tryz.prog 91 #[.pointer (some ⟨b, 0, none⟩), .string t] w fun e w' => e = .returned (.bool true) /\ RdL w' b s (r.drop t.data.toList.length) /\ But b w w' := by
  have := skip_any s hs b r t w hR
  unfold skipL at this
  rw [h] at this
  exact this
theorem skip_no (s : ByteArray) (hs : s.size <= 100000) (b : Nat) (r : List UInt8) (t : ByteArray) (h : t.data.toList.isPrefixOf r = false) (w : World) (hR : RdL w b s r) :
    Calls Tryz.prog 91 #[.pointer (some ⟨b, 0, none⟩), .string t] w fun e w' => e = .returned (.bool false) /\ RdL w' b s r /\ But b w w' := by
  have := skip_any s hs b r t w hR
  unfold skipL at this
  rw [h] at this
  exact this
end Go.Proofs.YtfohijnkeefcfaaGreatDoor.S4
namespace Go.Proofs.YtfohijnkeefcfaaGreatDoor.S4
open Go.RowKit
theorem odd_any (s : ByteArray) (hs : s.size <= 20000) (b : Nat) (h2 : 2 <= b) (r : List UInt8) (h60 : ([60] : List UInt8).isPrefixOf r = true) (w : World) (hR : RdL w b s r) :
    Calls Tryz.prog 104 #[.pointer (some ⟨b, 0, none⟩)] w fun e w' => TokE w w' b s (otherL (oddR r)) e := by
  have hlt := hR.lt
  have KR0 := hide (Kept.new w tok0 79)
  have B0 := hide ((But.refl b w).alloc (.cells tok0.toArray 79))
  have R0 := hide (hR.below (below_alloc w (.cells tok0.toArray 79)))
  have hUP := fun r' w (h : RdL w b s r') => upToG_any s (by omega) b r' w h
  unfold otherL oddR
  cases h33 : ([60, 33] : List UInt8).isPrefixOf r with
  | true =>
    rw [if_pos rfl]
    have HK0 := hide (fun w (h : RdL w b s r) => skip_yes s (by omega) b r ⟨#[60, 33]⟩ h33 w h)
    have HUP := hide (hUP (r.drop 2))
    clear hUP hR
    have HK0b : Hid (∀ w, RdL w b s r -> Calls Tryz.prog 91 #[.pointer (some ⟨b, 0, none⟩), .string ⟨#[60, 33]⟩] w fun e w' => e = .returned (.bool true) /\ RdL w' b s (r.drop 2) /\ But b w w') := HK0
    generalize r.drop 2 = V at *
    generalize (findR [62] V).1 = X at *
    generalize (findR [62] V).2.drop 1 = V2 at *
    have HCT := hide (commentToken_any ⟨X.toArray⟩)
    generalize hx : (⟨X.toArray⟩ : ByteArray) = x at *
    have HX := hide hx
    clear hx
    go_enter Tryz.func104, Tryz.ntmps104
    go_wp2_with fail
    refine (HK0b.out _ R0.out).mono ?_
    rintro e w1 ⟨rfl, h3, h4⟩
    have R1 := hide h3
    have KR1 := hide (Kept.but KR0.out h4 (by omega))
    have B1 := hide (B0.out.trans h4)
    clear h3 h4 KR0 B0 R0
    go_wp2_with fail
    refine (HUP.out _ R1.out).mono ?_
    rintro e w2 ⟨rfl, h3, h4⟩
    have R2 := hide h3
    have KR2 := hide (Kept.but KR1.out h4 (by omega))
    have B2 := hide (B1.out.trans h4)
    clear h3 h4 KR1 B1 R1
    go_wp2_with fail
    refine (HCT.out _).mono ?_
    rintro e w3 ⟨rfl, h4⟩
    have R3 := hide (R2.out.below h4)
    have KR3 := hide (Kept.below KR2.out h4)
    have B3 := hide (B2.out.trans (.of h4))
    clear h4 KR2 B2 R2
    obtain ⟨q0, q1, q2, q3, q4, qf⟩ := KR3.out.tok
    go_wp2
    refine bodyPost_ret (v := tokV { kind := 4, text := X } (.slice none 0 0)) ?_ rfl ?_
    · rw [results_cell_one rfl]
      go_simp
      rw [<- HX.out]
      rfl
    · rw [<- HX.out]
      exact tokE_end { kind := 4, text := X } B3.out R3.out hlt rfl
  | false =>
    rw [if_neg (by decide)]
    cases h47 : ([60, 47] : List UInt8).isPrefixOf r with
    | true =>
      rw [if_pos rfl]
      have HK0 := hide (fun w (h : RdL w b s r) => skip_no s (by omega) b r ⟨#[60, 33]⟩ h33 w h)
      have HK1 := hide (fun w (h : RdL w b s r) => skip_yes s (by omega) b r ⟨#[60, 47]⟩ h47 w h)
      have HUP := hide (hUP (r.drop 2))
      clear hUP hR
      have HK1b : Hid (∀ w, RdL w b s r -> Calls Tryz.prog 91 #[.pointer (some ⟨b, 0, none⟩), .string ⟨#[60, 47]⟩] w fun e w' => e = .returned (.bool true) /\ RdL w' b s (r.drop 2) /\ But b w w') := HK1
      generalize r.drop 2 = V at *
      generalize (findR [62] V).1 = X at *
      generalize (findR [62] V).2.drop 1 = V2 at *
      have HCT := hide (commentToken_any ⟨X.toArray⟩)
      generalize hx : (⟨X.toArray⟩ : ByteArray) = x at *
      have HX := hide hx
      clear hx
      go_enter Tryz.func104, Tryz.ntmps104
      go_wp2_with fail
      refine (HK0.out _ R0.out).mono ?_
      rintro e w1 ⟨rfl, h3, h4⟩
      have R1 := hide h3
      have KR1 := hide (Kept.but KR0.out h4 (by omega))
      have B1 := hide (B0.out.trans h4)
      clear h3 h4 KR0 B0 R0
      go_wp2_with fail
      refine (HK1b.out _ R1.out).mono ?_
      rintro e w2 ⟨rfl, h3, h4⟩
      have R2 := hide h3
      have KR2 := hide (Kept.but KR1.out h4 (by omega))
      have B2 := hide (B1.out.trans h4)
      clear h3 h4 KR1 B1 R1
      go_wp2_with fail
      refine (HUP.out _ R2.out).mono ?_
      rintro e w3 ⟨rfl, h3, h4⟩
      have R3 := hide h3
      have KR3 := hide (Kept.but KR2.out h4 (by omega))
      have B3 := hide (B2.out.trans h4)
      clear h3 h4 KR2 B2 R2
      go_wp2_with fail
      refine (HCT.out _).mono ?_
      rintro e w4 ⟨rfl, h4⟩
      have R4 := hide (R3.out.below h4)
      have KR4 := hide (Kept.below KR3.out h4)
      have B4 := hide (B3.out.trans (.of h4))
      clear h4 KR3 B3 R3
      obtain ⟨q0, q1, q2, q3, q4, qf⟩ := KR4.out.tok
      go_wp2
      refine bodyPost_ret (v := tokV { kind := 4, text := X } (.slice none 0 0)) ?_ rfl ?_
      · rw [results_cell_one rfl]
        go_simp
        rw [<- HX.out]
        rfl
      · rw [<- HX.out]
        exact tokE_end { kind := 4, text := X } B4.out R4.out hlt rfl
    | false =>
      rw [if_neg (by decide), if_pos h60]
      have HK0 := hide (fun w (h : RdL w b s r) => skip_no s (by omega) b r ⟨#[60, 33]⟩ h33 w h)
      have HK1 := hide (fun w (h : RdL w b s r) => skip_no s (by omega) b r ⟨#[60, 47]⟩ h47 w h)
      have HK2 := hide (fun w (h : RdL w b s r) => skip_yes s (by omega) b r ⟨#[60]⟩ h60 w h)
      have HUP := hide (hUP (r.drop 1))
      clear hUP hR
      have HK2b : Hid (∀ w, RdL w b s r -> Calls Tryz.prog 91 #[.pointer (some ⟨b, 0, none⟩), .string ⟨#[60]⟩] w fun e w' => e = .returned (.bool true) /\ RdL w' b s (r.drop 1) /\ But b w w') := HK2
      generalize r.drop 1 = V at *
      generalize (findR [62] V).1 = X at *
      generalize (findR [62] V).2.drop 1 = V2 at *
      have HCT := hide (commentToken_any ⟨X.toArray⟩)
      generalize hx : (⟨X.toArray⟩ : ByteArray) = x at *
      have HX := hide hx
      clear hx
      go_enter Tryz.func104, Tryz.ntmps104
      go_wp2_with fail
      refine (HK0.out _ R0.out).mono ?_
      rintro e w1 ⟨rfl, h3, h4⟩
      have R1 := hide h3
      have KR1 := hide (Kept.but KR0.out h4 (by omega))
      have B1 := hide (B0.out.trans h4)
      clear h3 h4 KR0 B0 R0
      go_wp2_with fail
      refine (HK1.out _ R1.out).mono ?_
      rintro e w2 ⟨rfl, h3, h4⟩
      have R2 := hide h3
      have KR2 := hide (Kept.but KR1.out h4 (by omega))
      have B2 := hide (B1.out.trans h4)
      clear h3 h4 KR1 B1 R1
      go_wp2_with fail
      refine (HK2b.out _ R2.out).mono ?_
      rintro e w3 ⟨rfl, h3, h4⟩
      have R3 := hide h3
      have KR3 := hide (Kept.but KR2.out h4 (by omega))
      have B3 := hide (B2.out.trans h4)
      clear h3 h4 KR2 B2 R2
      go_wp2_with fail
      refine (HUP.out _ R3.out).mono ?_
      rintro e w4 ⟨rfl, h3, h4⟩
      have R4 := hide h3
      have KR4 := hide (Kept.but KR3.out h4 (by omega))
      have B4 := hide (B3.out.trans h4)
      clear h3 h4 KR3 B3 R3
      go_wp2_with fail
      refine (HCT.out _).mono ?_
      rintro e w5 ⟨rfl, h4⟩
      have R5 := hide (R4.out.below h4)
      have KR5 := hide (Kept.below KR4.out h4)
      have B5 := hide (B4.out.trans (.of h4))
      clear h4 KR4 B4 R4
      obtain ⟨q0, q1, q2, q3, q4, qf⟩ := KR5.out.tok
      go_wp2
      refine bodyPost_ret (v := tokV { kind := 4, text := X } (.slice none 0 0)) ?_ rfl ?_
      · rw [results_cell_one rfl]
        go_simp
        rw [<- HX.out]
        rfl
      · rw [<- HX.out]
        exact tokE_end { kind := 4, text := X } B5.out R5.out hlt rfl
theorem index_low : ∀ (l t : List UInt8), -1 <= Lib.index l t
  | [], t => by unfold Lib.index; split <;> decide
  | b :: l, t => by
    have := index_low l t
    unfold Lib.index
    split
    · decide
    · split
      · decide
      · omega
theorem cut_find (t : List UInt8) (ht : t ≠ []) : ∀ r : List UInt8, (Lib.cut r t).1 = (findR t r).1
  | [] => by
    unfold Lib.cut
    split <;> simp [findR]
  | c :: r => by
    have ih := cut_find t ht r
    have hlow := index_low r t
    have hidx : Lib.index (c :: r) t = if t.isPrefixOf (c :: r) then 0 else if Lib.index r t == -1 then -1 else Lib.index r t + 1 := by
      rw [Lib.index]
    unfold Lib.cut at ih ⊢
    simp only [findR]
    by_cases hp : t.isPrefixOf (c :: r) = true
    · rw [hidx]
      simp [hp]
    · rw [if_neg hp] at hidx
      rw [if_neg hp]
      by_cases h1 : Lib.index r t = -1
      · rw [h1] at hidx ih
        rw [if_pos (by decide)] at hidx
        rw [hidx, if_neg (by decide)]
        rw [if_neg (by decide)] at ih
        simp only at ih ⊢
        rw [<- ih]
      · rw [if_neg (by simpa using h1)] at hidx
        rw [hidx, if_pos (by omega)]
        rw [if_pos (by omega)] at ih
        simp only at ih ⊢
        rw [<- ih, show (Lib.index r t + 1).toNat = (Lib.index r t).toNat + 1 by omega, List.take_succ_cons]
theorem Env.drewN {w : World} (h : Env w) (n : Nat) : Env (w.drewN n) := ⟨h.1, h.2⟩
theorem Kept.drewN {w : World} {k : Nat} {cs : List Value} (h : Kept w k cs) (n : Nat) : Kept (w.drewN n) k cs := ⟨h.1, h.2⟩
theorem find_rest (t : List UInt8) : ∀ r : List UInt8, skipL t (findR t r).2 = (findR t r).2.drop t.length
  | [] => by
    unfold skipL
    split <;> simp [findR]
  | c :: r => by
    simp only [findR]
    split
    · rename_i h
      unfold skipL
      rw [if_pos h]
    · exact find_rest t r
theorem cdata_pany (s : ByteArray) (hs : s.size <= 20000) (b : Nat) (h2 : 2 <= b) (r : List UInt8) (w : World) (he : Env w) (hR : RdL w b s r) :
    Calls Tryz.prog 103 #[.pointer (some ⟨b, 0, none⟩)] w fun e w' => TokE w w' b s (if (findR [93, 93, 62] r).1 = [] then { kind := 0 } else { kind := 1, text := (findR [93, 93, 62] r).1 }, (findR [93, 93, 62] r).2.drop 3) e := by
  have hlt := hR.lt
  have KR0 := hide (Kept.new w tok0 79)
  have B0 := hide ((But.refl b w).alloc (.cells tok0.toArray 79))
  have R0 := hide (hR.below (below_alloc w (.cells tok0.toArray 79)))
  have hlen := hR.len
  have HRS := hide (rest_any s (by omega) b r _ R0.out)
  have hfa := findR_app [93, 93, 62] r
  have HE := hide (he.alloc (.cells tok0.toArray 79))
  have hCut := fun w m hm => Tryz.strings_Cut ⟨r.toArray⟩ ⟨#[93, 93, 62]⟩ m w (by rw [size_list, str_data]; omega) hm
  have HCut : Hid (∀ w, Env w -> Calls Tryz.prog 154 #[.string ⟨r.toArray⟩, .string ⟨#[93, 93, 62]⟩] w fun e w' => ∃ y z, e = .returned (.tuple #[.string ⟨(findR [93, 93, 62] r).1.toArray⟩, .string y, .bool z]) /\ ∃ n, w' = w.drewN n) := by
    refine hide fun w he => ?_
    obtain ⟨m, hm⟩ := he.2
    refine (hCut w m hm).mono ?_
    rintro e w1 ⟨rfl, n, rfl⟩
    refine ⟨⟨(Lib.cut r [93, 93, 62]).2.1.toArray⟩, (Lib.cut r [93, 93, 62]).2.2, ?_, n, rfl⟩
    rw [<- cut_find [93, 93, 62] (by decide) r]
  have hsk := fun w (h : RdL w b s (findR [93, 93, 62] r).2) => skip_any s (by omega) b (findR [93, 93, 62] r).2 ⟨#[93, 93, 62]⟩ w h
  have HSK : Hid (∀ w, RdL w b s (findR [93, 93, 62] r).2 -> Calls Tryz.prog 91 #[.pointer (some ⟨b, 0, none⟩), .string ⟨#[93, 93, 62]⟩] w fun e w' => (∃ B, e = .returned (.bool B)) /\ RdL w' b s ((findR [93, 93, 62] r).2.drop 3) /\ But b w w') := by
    refine hide fun w h => ?_
    refine (hsk w h).mono ?_
    rintro e w1 ⟨rfl, h3, h4⟩
    refine ⟨⟨_, rfl⟩, ?_, h4⟩
    have e1 : skipL (⟨#[93, 93, 62]⟩ : ByteArray).data.toList (findR [93, 93, 62] r).2 = (findR [93, 93, 62] r).2.drop 3 := find_rest [93, 93, 62] r
    rw [e1] at h3
    exact h3
  clear hsk hCut he
  obtain ⟨p, hp, hd, hP⟩ := hR
  have c1 := hP.c1
  have fz := hP.fz
  have hPA := hP.below (below_alloc w (.cells tok0.toArray 79))
  have HPA := hide hPA
  have HD := hide hd
  clear hd hP hPA
  generalize (findR [93, 93, 62] r).1 = T at *
  generalize (findR [93, 93, 62] r).2 = V at *
  have hl := congrArg List.length hfa
  rw [List.length_append] at hl
  have hlp : s.size - p = r.length := by rw [<- HD.out, List.length_drop, <- size_list]
  have HV : Hid (s.data.toList.drop (p + T.length) = V) := hide (by rw [<- List.drop_drop, HD.out, <- hfa, List.drop_left])
  have hx : (⟨T.toArray⟩ : ByteArray).size = T.length := by rw [size_list, str_data]
  have hnil : (⟨T.toArray⟩ : ByteArray).toList.isEmpty = T.isEmpty := by
    rw [Lib.toList_data]
  have HTT := hide (textToken_any ⟨T.toArray⟩)
  generalize hX : (⟨T.toArray⟩ : ByteArray) = x at *
  have HX := hide hX
  generalize (⟨r.toArray⟩ : ByteArray) = y at *
  clear hX hfa
  have hsum : p + x.size <= s.size := by omega
  have hq1 : (p : Int) + x.size <= 20000 := by omega
  have HV2 : Hid (s.data.toList.drop (p + x.size) = V) := hide (by rw [hx]; exact HV.out)
  have HRD : Hid (∀ n, RdL (((w.alloc (.cells tok0.toArray 79)).drewN n).setCell ⟨b, 1, none⟩ (.int .i64 ((p : Int) + (x.size : Int)))) b s V) := by
    refine hide fun n => ⟨p + x.size, hsum, HV2.out, ?_⟩
    have h := (HPA.out.drewN n).set (p + x.size)
    rw [show ((p + x.size : Nat) : Int) = (p : Int) + (x.size : Int) by omega] at h
    exact h
  clear hx hl hlp HV HV2 HD HPA R0
  have hgo : ∀ B : Bool, x.toList.isEmpty = B -> Calls Tryz.prog 103 #[.pointer (some ⟨b, 0, none⟩)] w fun e w' => TokE w w' b s (if B then { kind := 0 } else { kind := 1, text := T }, V.drop 3) e := by
    intro B hnil2
    clear hnil
    go_enter Tryz.func103, Tryz.ntmps103
    go_wp2_with fail
    refine HRS.out.mono ?_
    rintro e w1 ⟨rfl, n, rfl⟩
    go_wp2_with fail
    refine (HCut.out _ (HE.out.drewN n)).mono ?_
    rintro e w1 ⟨y2, z2, rfl, m, rfl⟩
    go_wp2_with fail
    refine (HSK.out _ (HRD.out _)).mono ?_
    rintro e w3 ⟨⟨B3, rfl⟩, h3, h4⟩
    have R3 := hide h3
    have KR3 := hide (Kept.but ((KR0.out.drewN (n + m)).other ⟨b, 1, none⟩ (by simp only; omega) _) h4 (by omega))
    have BB3 := hide (((B0.out.drewN (n + m)).setCell 1 _).trans h4)
    clear h3 h4 KR0 B0 HSK HRD HCut HRS c1 fz HE
    obtain ⟨q0, q1, q2, q3, q4, qf⟩ := KR3.out.tok
    cases B with
    | true =>
      go_wp2
      refine bodyPost_ret (v := tokV { kind := 0 } (.slice none 0 0)) ?_ rfl ?_
      · rw [results_cell_one rfl]
        go_simp
        rfl
      · exact tokE_end { kind := 0 } BB3.out R3.out hlt rfl
    | false =>
      clear q0 q1 q2 q3 q4 qf
      go_wp2_with fail
      refine (HTT.out _).mono ?_
      rintro e w4 ⟨rfl, h4⟩
      have R4 := hide (R3.out.below h4)
      have KR4 := hide (Kept.below KR3.out h4)
      have B4 := hide (BB3.out.trans (.of h4))
      clear h4 KR3 R3 BB3
      obtain ⟨q0, q1, q2, q3, q4, qf⟩ := KR4.out.tok
      go_wp2
      refine bodyPost_ret (v := tokV { kind := 1, text := T } (.slice none 0 0)) ?_ rfl ?_
      · rw [results_cell_one rfl]
        go_simp
        rw [<- HX.out]
        rfl
      · rw [<- HX.out]
        exact tokE_end { kind := 1, text := T } B4.out R4.out hlt rfl
  have := hgo _ hnil
  cases T with
  | nil => exact this
  | cons c q => exact this
end Go.Proofs.YtfohijnkeefcfaaGreatDoor.S4
