/- What slices.IndexFunc and slices.ContainsFunc answer, whatever is asked: the closure by its contract; ruleOf. -/
import Derived.Test.YthopnliaikkhbaaGreatDoorPc11
set_option linter.unusedVariables false
set_option linter.unusedSimpArgs false
set_option maxRecDepth 4000
namespace Go.Proofs.YthopnliaikkhbaaGreatDoor
open Go.RowKit

set_option maxHeartbeats 1000000 in
theorem indexL_any (F : Nat) (caps : List Value) (q : Value → Bool) (xs : List Value) (hl : xs.length ≤ 2000000) (v : Value) (w : World) (hV : IsV w v xs) (hen : ∀ (args : Array Value) (w : World), (callFunc F args).run Tryz.prog w = .ok (.enter F args) w)
    (hf : ∀ x ∈ xs, ∀ (w1 : World), Below w.heap.size w w1 → Calls Tryz.prog F (x :: caps).toArray w1 fun e w' => e = .returned (.bool (q x)) ∧ Below w1.heap.size w1 w') :
    Calls Tryz.prog 63 #[v, .func (.func F) #[] caps.toArray] w fun e w' => (∃ z : Int, e = .returned (.int .i64 z) ∧ decide (0 ≤ z) = xs.any q) ∧ Below w.heap.size w w' := by
  obtain ⟨g, cap, rfl, hc⟩ := hV
  have HC : Hid (∀ k x, xs[k]? = some x → ∃ b o : Nat, g = b ∧ ∀ W, Below w.heap.size w W → W.cell? ⟨g, k, none⟩ = some x) := hide (fun k x hk => by
    obtain ⟨hlt, rfl⟩ := List.getElem?_eq_some_iff.1 hk
    exact ⟨g, 0, rfl, fun W hb => (hb.cell (cell_lt (hc k hlt))).trans (hc k hlt)⟩)
  clear hc
  have HF := hide hf
  clear hf
  generalize hV : xs.any q = V
  have HV := hide hV
  clear hV
  go_enter Tryz.func63, Tryz.ntmps63
  go_wp2
  go_loopw [8] (fun i wr => ∃ k : Nat, k ≤ xs.length ∧ i = .int .i64 k ∧ Below w.heap.size w wr ∧ Hid ((xs.drop k).any q = V)) (fun i _ => xs.length - (intOf i).toNat)
  case atStart => exact ⟨0, Nat.zero_le _, rfl, Below.refl _ w, hide (by rw [List.drop_zero]; exact HV.out)⟩
  case round =>
    obtain ⟨k, hk, rfl, bw, HR⟩ := hrel
    by_cases hlt : k < xs.length
    · have hlt2 : (k : Int) < xs.length := by omega
      obtain ⟨x, hx⟩ : ∃ x, xs[k]? = some x := ⟨_, List.getElem?_eq_getElem hlt⟩
      obtain ⟨b, o, -, hq⟩ := HC.out k x hx
      have hcell := hq wr bw
      have hst := any_step1 q xs k hlt
      rw [HR.out, show xs[k] = x from (List.getElem?_eq_some_iff.1 hx).2] at hst
      have HQ := hide (HF.out x (List.mem_of_getElem? hx) wr bw)
      clear hq HR hx
      generalize q x = P at *
      cases P
      · have HR2 : Hid ((xs.drop (k + 1)).any q = V) := hide (by rw [hst]; rfl)
        clear hst
        go_wp2_with fail
        refine HQ.out.mono ?_
        rintro e w1 ⟨rfl, b1⟩
        have b2 := bw.trans (b1.mono bw.size)
        clear b1 hcell
        go_wp2
        go_roundw
        case rel => exact ⟨k + 1, by omega, by go_num, b2, HR2⟩
        case measure => simp [intOf]; omega
      · have HR2 : Hid (V = true) := hide (by rw [hst]; rfl)
        clear hst
        go_wp2_with fail
        refine HQ.out.mono ?_
        rintro e w1 ⟨rfl, b1⟩
        have b2 := bw.trans (b1.mono bw.size)
        clear b1 hcell
        go_wp2
        go_ret
        exact ⟨⟨_, rfl, by rw [HR2.out]; exact decide_eq_true (by omega)⟩, b2⟩
    · have hlt2 : ¬ (k : Int) < xs.length := by omega
      have hst := any_end1 q xs k (by omega)
      rw [HR.out] at hst
      have HR2 := hide hst
      clear hst HR hlt
      go_wp2
      go_ret
      exact ⟨⟨_, rfl, by rw [HR2.out]; rfl⟩, bw⟩
set_option maxHeartbeats 1000000 in
theorem containsL_any (F : Nat) (caps : List Value) (q : Value → Bool) (xs : List Value) (hl : xs.length ≤ 2000000) (v : Value) (w : World) (hV : IsV w v xs) (hen : ∀ (args : Array Value) (w : World), (callFunc F args).run Tryz.prog w = .ok (.enter F args) w)
    (hf : ∀ x ∈ xs, ∀ (w1 : World), Below w.heap.size w w1 → Calls Tryz.prog F (x :: caps).toArray w1 fun e w' => e = .returned (.bool (q x)) ∧ Below w1.heap.size w1 w') :
    Calls Tryz.prog 41 #[v, .func (.func F) #[] caps.toArray] w fun e w' => e = .returned (.bool (xs.any q)) ∧ Below w.heap.size w w' := by
  have H := hide (indexL_any F caps q xs hl v w hV hen hf)
  generalize xs.any q = V at *
  clear hV hf
  go_enter Tryz.func41, Tryz.ntmps41
  go_wp2_with fail
  refine H.out.mono ?_
  rintro e w1 ⟨⟨z, rfl, hz⟩, b1⟩
  have HZ := hide hz
  clear hz
  go_wp2
  go_ret
  exact ⟨ret_bool HZ.out, b1⟩
set_option maxHeartbeats 1000000 in
theorem indexS_any (F : Nat) (caps : List Value) (q : Bs → Bool) (l : List Bs) (hl : l.length ≤ 1000000) (v : Value) (w : World) (hV : IsW w v l) (hen : ∀ (args : Array Value) (w : World), (callFunc F args).run Tryz.prog w = .ok (.enter F args) w)
    (hf : ∀ x ∈ l, ∀ (w1 : World), Below w.heap.size w w1 → Calls Tryz.prog F ((Value.string ⟨x.toArray⟩) :: caps).toArray w1 fun e w' => e = .returned (.bool (q x)) ∧ Below w1.heap.size w1 w') :
    Calls Tryz.prog 66 #[v, .func (.func F) #[] caps.toArray] w fun e w' => (∃ z : Int, e = .returned (.int .i64 z) ∧ decide (0 ≤ z) = l.any q) ∧ Below w.heap.size w w' := by
  obtain ⟨a, c, rfl⟩ := hV.form
  have HC := hide (fun k x (hk : l[k]? = some x) => hV.at_ k x hk)
  clear hV
  have HF := hide hf
  clear hf
  generalize hV : l.any q = V
  have HV := hide hV
  clear hV
  go_enter Tryz.func66, Tryz.ntmps66
  go_wp2
  go_loopw [8] (fun i wr => ∃ k : Nat, k ≤ l.length ∧ i = .int .i64 k ∧ Below w.heap.size w wr ∧ Hid ((l.drop k).any q = V)) (fun i _ => l.length - (intOf i).toNat)
  case atStart => exact ⟨0, Nat.zero_le _, rfl, Below.refl _ w, hide (by rw [List.drop_zero]; exact HV.out)⟩
  case round =>
    obtain ⟨k, hk, rfl, bw, HR⟩ := hrel
    by_cases hlt : k < l.length
    · have hlt2 : (k : Int) < l.length := by omega
      obtain ⟨x, hx⟩ : ∃ x, l[k]? = some x := ⟨_, List.getElem?_eq_getElem hlt⟩
      obtain ⟨b, o, rfl, hq⟩ := HC.out k x hx
      have hcell := hq wr bw
      have hst := any_step1 q l k hlt
      rw [HR.out, show l[k] = x from (List.getElem?_eq_some_iff.1 hx).2] at hst
      have HQ := hide (HF.out x (List.mem_of_getElem? hx) wr bw)
      clear hq HR hx
      generalize q x = P at *
      generalize (⟨x.toArray⟩ : ByteArray) = y at *
      cases P
      · have HR2 : Hid ((l.drop (k + 1)).any q = V) := hide (by rw [hst]; rfl)
        clear hst
        go_wp2_with fail
        refine HQ.out.mono ?_
        rintro e w1 ⟨rfl, b1⟩
        have b2 := bw.trans (b1.mono bw.size)
        clear b1 hcell
        go_wp2
        go_roundw
        case rel => exact ⟨k + 1, by omega, by go_num, b2, HR2⟩
        case measure => simp [intOf]; omega
      · have HR2 : Hid (V = true) := hide (by rw [hst]; rfl)
        clear hst
        go_wp2_with fail
        refine HQ.out.mono ?_
        rintro e w1 ⟨rfl, b1⟩
        have b2 := bw.trans (b1.mono bw.size)
        clear b1 hcell
        go_wp2
        go_ret
        exact ⟨⟨_, rfl, by rw [HR2.out]; exact decide_eq_true (by omega)⟩, b2⟩
    · have hlt2 : ¬ (k : Int) < l.length := by omega
      have hst := any_end1 q l k (by omega)
      rw [HR.out] at hst
      have HR2 := hide hst
      clear hst HR hlt
      go_wp2
      go_ret
      exact ⟨⟨_, rfl, by rw [HR2.out]; rfl⟩, bw⟩
set_option maxHeartbeats 1000000 in
theorem containsS_any (F : Nat) (caps : List Value) (q : Bs → Bool) (l : List Bs) (hl : l.length ≤ 1000000) (v : Value) (w : World) (hV : IsW w v l) (hen : ∀ (args : Array Value) (w : World), (callFunc F args).run Tryz.prog w = .ok (.enter F args) w)
    (hf : ∀ x ∈ l, ∀ (w1 : World), Below w.heap.size w w1 → Calls Tryz.prog F ((Value.string ⟨x.toArray⟩) :: caps).toArray w1 fun e w' => e = .returned (.bool (q x)) ∧ Below w1.heap.size w1 w') :
    Calls Tryz.prog 46 #[v, .func (.func F) #[] caps.toArray] w fun e w' => e = .returned (.bool (l.any q)) ∧ Below w.heap.size w w' := by
  have H := hide (indexS_any F caps q l hl v w hV hen hf)
  generalize l.any q = V at *
  clear hV hf
  go_enter Tryz.func46, Tryz.ntmps46
  go_wp2_with fail
  refine H.out.mono ?_
  rintro e w1 ⟨⟨z, rfl, hz⟩, b1⟩
  have HZ := hide hz
  clear hz
  go_wp2
  go_ret
  exact ⟨ret_bool HZ.out, b1⟩
theorem find_step {α : Type} (q : α → Bool) (l : List α) (k : Nat) (x : α) (h : l[k]? = some x) : (l.drop k).find? q = if q x then some x else (l.drop (k + 1)).find? q := by
  obtain ⟨hlt, rfl⟩ := List.getElem?_eq_some_iff.1 h
  rw [List.drop_eq_getElem_cons hlt, List.find?_cons]
  cases q l[k] <;> rfl
theorem find_end {α : Type} (q : α → Bool) (l : List α) (k : Nat) (h : l.length ≤ k) : (l.drop k).find? q = none := by
  rw [List.drop_eq_nil_of_le h]; rfl
/-- Where the rule stands. -/
def PlaceR (rs : List RV) (q : RV → Bool) (z : Int) : Prop := (∃ (k : Nat) (r : RV), z = (k : Int) ∧ rs[k]? = some r ∧ rs.find? q = some r) ∨ (z = -1 ∧ rs.find? q = none)
set_option maxHeartbeats 1000000 in
theorem indexR_any (F : Nat) (caps : List Value) (q : RV → Bool) (rs : List RV) (hl : rs.length ≤ 1000000) (v : Value) (w : World) (hV : IsR w v rs) (hen : ∀ (args : Array Value) (w : World), (callFunc F args).run Tryz.prog w = .ok (.enter F args) w)
    (hf : ∀ r ∈ rs, ∀ (w1 : World), Below w.heap.size w w1 → Calls Tryz.prog F (.agg #[.string r.nm, r.av] :: caps).toArray w1 fun e w' => e = .returned (.bool (q r)) ∧ Below w1.heap.size w1 w') :
    Calls Tryz.prog 50 #[v, .func (.func F) #[] caps.toArray] w fun e w' => (∃ z : Int, e = .returned (.int .i64 z) ∧ PlaceR rs q z) ∧ Below w.heap.size w w' := by
  obtain ⟨a, c, rfl⟩ := hV.form
  have HC := hide (fun k r (hk : rs[k]? = some r) => hV.at_ k r hk)
  have HF := hide hf
  clear hf hV
  unfold PlaceR
  generalize hV : rs.find? q = V
  have HV := hide hV
  clear hV
  have HG : Hid (∀ z : Int, (∃ (k : Nat) (r : RV), z = (k : Int) ∧ rs[k]? = some r ∧ V = some r) ∨ (z = -1 ∧ V = none) → ∃ z' : Int, Ending.returned (.int .i64 z) = Ending.returned (.int .i64 z') ∧ ((∃ (k : Nat) (r : RV), z' = (k : Int) ∧ rs[k]? = some r ∧ V = some r) ∨ (z' = -1 ∧ V = none))) := hide (fun z h => ⟨z, rfl, h⟩)
  go_enter Tryz.func50, Tryz.ntmps50
  go_wp2
  go_loopw [8] (fun i wr => ∃ k : Nat, k ≤ rs.length ∧ i = .int .i64 k ∧ Below w.heap.size w wr ∧ Hid ((rs.drop k).find? q = V)) (fun i _ => rs.length - (intOf i).toNat)
  case atStart => exact ⟨0, Nat.zero_le _, rfl, Below.refl _ w, hide (by rw [List.drop_zero]; exact HV.out)⟩
  case round =>
    obtain ⟨k, hk, rfl, bw, HR⟩ := hrel
    by_cases hlt : k < rs.length
    · have hlt2 : (k : Int) < rs.length := by omega
      obtain ⟨x, hx⟩ : ∃ x, rs[k]? = some x := ⟨_, List.getElem?_eq_getElem hlt⟩
      obtain ⟨⟨b, o, rfl, hq⟩, hw⟩ := HC.out k x hx
      obtain ⟨d0, d1⟩ := hq wr bw
      obtain ⟨xa, xc, hxf⟩ := hw.form
      have hst := find_step q rs k x hx
      rw [HR.out] at hst
      have HQ := hide (HF.out x (List.mem_of_getElem? hx) wr bw)
      have HX := hide hx
      clear hq HR hw
      obtain ⟨xn, xat, xav⟩ := x
      simp only [] at hxf d0 d1 HQ
      subst hxf
      cases hP : q ⟨xn, xat, .slice xa xat.length xc⟩
      · rw [hP] at HQ hst
        have HR2 : Hid ((rs.drop (k + 1)).find? q = V) := hide (by rw [hst]; rfl)
        clear hst hx hP
        generalize xat.length = xl at *
        go_wp2_with fail
        refine HQ.out.mono ?_
        rintro e w1 ⟨rfl, b1⟩
        have b2 := bw.trans (b1.mono bw.size)
        clear b1 d0 d1
        go_wp2
        go_roundw
        case rel => exact ⟨k + 1, by omega, by go_num, b2, HR2⟩
        case measure => simp [intOf]; omega
      · rw [hP] at HQ hst
        have HR2 : Hid (∃ r, rs[k]? = some r ∧ V = some r) := hide ⟨_, hx, by rw [hst]; rfl⟩
        clear hst hx hP HX
        generalize xat.length = xl at *
        go_wp2_with fail
        refine HQ.out.mono ?_
        rintro e w1 ⟨rfl, b1⟩
        have b2 := bw.trans (b1.mono bw.size)
        clear b1 d0 d1
        go_wp2
        go_ret
        obtain ⟨r, r1, r2⟩ := HR2.out
        exact ⟨⟨_, rfl, .inl ⟨k, r, rfl, r1, r2⟩⟩, b2⟩
    · have hlt2 : ¬ (k : Int) < rs.length := by omega
      have hst := find_end q rs k (by omega)
      rw [HR.out] at hst
      have HR2 := hide hst
      clear hst HR hlt
      go_wp2
      go_ret
      exact ⟨⟨_, rfl, .inr ⟨rfl, HR2.out⟩⟩, bw⟩
set_option maxHeartbeats 1000000 in
theorem ruleOfC_any (r : RV) (ra : Option Addr) (rl rc : Nat) (hr : r.av = .slice ra rl rc) (s : ByteArray) (nb : Nat) (w : World) (hn : w.cell? ⟨nb, 0, none⟩ = some (.string s)) :
    Calls Tryz.prog 51 #[.agg #[.string r.nm, r.av], .pointer (some ⟨nb, 0, none⟩)] w fun e w' => e = .returned (.bool (r.nm.data.toList == s.data.toList)) ∧ Below w.heap.size w w' := by
  obtain ⟨rn, rat, rav⟩ := r
  simp only [] at hr ⊢
  subst hr
  have hn2 : (w.alloc (.cells #[.string rn, .slice ra rl rc] 53)).cell? ⟨nb, 0, none⟩ = some (.string s) := by
    rw [(below_alloc w _).cell (cell_lt hn)]; exact hn
  have he := str_eq2 rn s
  generalize (rn.data.toList == s.data.toList) = E at *
  clear hn
  go_enter Tryz.func51, Tryz.ntmps51
  go_wp2
  go_ret
  exact ⟨rfl, below_alloc w _⟩
def nameIs (n : Bs) (r : RV) : Bool := r.nm.data.toList == n
set_option maxHeartbeats 1000000 in
theorem ruleOf_any (p : PV) (hl : p.rs.length ≤ 1000000) (s : ByteArray) (w : World) (hI : IsPo w p) :
    Calls Tryz.prog 26 #[poA p, .string s] w fun e w' => (∃ z : Int, e = .returned (.int .i64 z) ∧ PlaceR p.rs (nameIs s.data.toList) z) ∧ Below w.heap.size w w' := by
  have hmf : ∀ (fn : Fn) (first cap : Array Value) (w : World), (Instr.makeFunc fn first cap).run Tryz.prog w = .ok (.func fn first cap) w := fun _ _ _ _ => rfl
  have hen : ∀ (args : Array Value) (w : World), (callFunc 51 args).run Tryz.prog w = .ok (.enter 51 args) w := by intro args w; simp [go_sem]
  have HB := hide (fun x (b : Below (poW w p).heap.size (poW w p) x) => po_box w p b)
  obtain ⟨rs, li, sc, dr, de, rv, lv, sv, dv⟩ := p
  simp only [] at *
  have gr : IsR w rv rs := hI.r
  have gl : IsW w lv li := hI.l
  have gs : IsW w sv sc := hI.s
  have gd : IsW w dv dr := hI.d
  obtain ⟨ra, rc, rfl⟩ := gr.form
  obtain ⟨la, lc, rfl⟩ := gl.form
  obtain ⟨sa, sc', rfl⟩ := gs.form
  obtain ⟨da, dc, rfl⟩ := gd.form
  have b1 := below_alloc w (.cells (poC ⟨rs, li, sc, dr, de, .slice ra rs.length rc, .slice la li.length lc, .slice sa sc.length sc', .slice da dr.length dc⟩) 26)
  have b2 := b1.trans ((below_alloc (poW w ⟨rs, li, sc, dr, de, .slice ra rs.length rc, .slice la li.length lc, .slice sa sc.length sc', .slice da dr.length dc⟩) (.cells #[.string s] 9)).mono b1.size)
  have HS : Hid (∀ W, Below ((poW w ⟨rs, li, sc, dr, de, .slice ra rs.length rc, .slice la li.length lc, .slice sa sc.length sc', .slice da dr.length dc⟩).alloc (.cells #[.string s] 9)).heap.size ((poW w ⟨rs, li, sc, dr, de, .slice ra rs.length rc, .slice la li.length lc, .slice sa sc.length sc', .slice da dr.length dc⟩).alloc (.cells #[.string s] 9)) W → W.cell? ⟨w.heap.size + 1, 0, none⟩ = some (.string s)) := hide (fun W hb => by
    rw [hb.cell (by show w.heap.size + 1 < _; simp)]
    simp [go_sem])
  have HQ := hide (indexR_any 51 [.pointer (some ⟨w.heap.size + 1, 0, none⟩)] (nameIs s.data.toList) rs hl (.slice ra rs.length rc) ((poW w ⟨rs, li, sc, dr, de, .slice ra rs.length rc, .slice la li.length lc, .slice sa sc.length sc', .slice da dr.length dc⟩).alloc (.cells #[.string s] 9)) (gr.below b2) hen (fun r hr W hb => by
    obtain ⟨xa, xc, hx⟩ := (gr.2 r hr).form
    exact ruleOfC_any r xa r.at_.length xc hx s (w.heap.size + 1) W (HS.out W hb)))
  have B2 := hide b2
  have hc0 : (poW w ⟨rs, li, sc, dr, de, .slice ra rs.length rc, .slice la li.length lc, .slice sa sc.length sc', .slice da dr.length dc⟩).cell? ⟨w.heap.size, 0, none⟩ = some (.slice ra rs.length rc) := (HB.out _ (Below.refl _ _)).1
  generalize PlaceR rs (nameIs s.data.toList) = PR at *
  clear HS gr gl gs gd hI HB b1 b2
  go_enter Tryz.func26, Tryz.ntmps26
  go_wp2_with fail
  refine HQ.out.mono ?_
  rintro e w1 ⟨⟨z, rfl, hz⟩, b3⟩
  have HZ := hide hz
  have B3 := hide (B2.out.trans (b3.mono B2.out.size))
  clear hz b3 hc0
  go_wp2
  go_ret
  exact ⟨⟨_, rfl, HZ.out⟩, B3.out⟩
end Go.Proofs.YthopnliaikkhbaaGreatDoor
