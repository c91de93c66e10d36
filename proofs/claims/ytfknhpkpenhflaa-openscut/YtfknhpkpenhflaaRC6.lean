/- What the document's own Cut, Find, Has and Implied answer, of whatever list; nothing that was there is written. -/
import Derived.Test.YtfknhpkpenhflaaRB6
set_option linter.unusedVariables false
set_option linter.unusedSimpArgs false
namespace Go.Proofs.Ytfknhpkpenhflaa
open Go.RowKit

set_option maxHeartbeats 1000000 in
theorem rcut_any (l : List OV) (hl : l.length ≤ 1000000) (names : List (List UInt8)) (hn : names.length ≤ 1000000) (v u : Value) (w : World) (hO : IsO w v l) (hW : IsW w u names) :
    Calls Try.prog 22 #[v, u] w fun e w' => e = .returned (.int .i64 (cutZ l names)) ∧ Below w.heap.size w w' := by
  obtain ⟨a, c, rfl⟩ := isO_form hO
  have HO := hide hO
  have HW := hide hW
  have HF := hide (fun (o : OV) (w1 : World) (b1 : Below w.heap.size w w1) => ramong_any o names hn u w1 (hW.below b1))
  obtain ⟨a2, cc, rfl⟩ := isW_form hW
  clear hO hW
  unfold cutZ
  generalize hV : lastO (namedL names) l l.length = V
  have HV := hide hV
  clear hV
  go_enter Try.func22, Try.ntmps22
  go_wp2
  go_loopw [5] (fun i wr => ∃ k : Nat, k ≤ l.length ∧ i = .int .i64 ((k : Int) - 1) ∧ Below w.heap.size w wr ∧ Hid (lastO (namedL names) l k = V)) (fun i _ => (intOf i + 1).toNat)
  case atStart => exact ⟨l.length, Nat.le_refl _, by go_num, Below.refl _ w, HV⟩
  case round =>
    obtain ⟨k, hk, rfl, bw, HR⟩ := hrel
    cases k with
    | zero =>
      have HV2 : Hid (placeZ V = -1) := hide (by rw [← HR.out]; rfl)
      clear HR
      go_wp2
      go_ret
      exact ⟨ret_int HV2.out.symm, bw⟩
    | succ j =>
      have hj : j < l.length := by omega
      obtain ⟨b, o, rfl, c0, c1, c2⟩ := (HO.out.below bw).get j hj
      have HQ := hide (HF.out l[j] wr bw)
      have hh := last_hit (namedL names) l j hj
      have hm := last_miss (namedL names) l j hj
      generalize hP : namedL names l[j] = P at *
      generalize hE : l[j] = el at *
      obtain ⟨id, sp, nm⟩ := el
      simp only [] at c0 c1 c2 HQ
      have e1 : ((j + 1 : Nat) : Int) - 1 = (j : Int) := by omega
      rw [e1]
      have hlt : (j : Int) < l.length := by omega
      have HH := hide hh
      have HM := hide hm
      clear hh hm hP hE e1
      go_wp2_with fail
      refine HQ.out.mono ?_
      rintro e w1 ⟨rfl, b1⟩
      have b2 := bw.trans (b1.mono bw.size)
      clear c0 c1 c2
      cases P with
      | true =>
        have HV2 : Hid (placeZ V = (j : Int)) := hide (by rw [← HR.out, HH.out rfl]; rfl)
        clear HH HM HR
        go_wp2
        go_ret
        exact ⟨ret_int HV2.out.symm, b2⟩
      | false =>
        have HR2 : Hid (lastO (namedL names) l j = V) := hide (by rw [← HR.out, HM.out rfl])
        clear HH HM HR
        go_wp2
        go_roundw
        case rel => exact ⟨j, by omega, by go_num, b2, HR2⟩
        case measure => simp [intOf]

set_option maxHeartbeats 1000000 in
theorem rfind_any (l : List OV) (hl : l.length ≤ 1000000) (id0 : Int) (v : Value) (w : World) (hO : IsO w v l) :
    Calls Try.prog 24 #[v, .int .i64 id0] w fun e w' => e = .returned (.int .i64 (findZ l id0)) ∧ w' = w := by
  obtain ⟨a, c, rfl⟩ := isO_form hO
  have HO := hide hO
  clear hO
  unfold findZ
  generalize hV : lastO (fun o => o.id == id0) l l.length = V
  have HV := hide hV
  clear hV
  go_enter Try.func24, Try.ntmps24
  go_wp2
  go_loop [5] (fun i => ∃ k : Nat, k ≤ l.length ∧ i = .int .i64 ((k : Int) - 1) ∧ Hid (lastO (fun o => o.id == id0) l k = V)) (fun i => (intOf i + 1).toNat)
  case atStart => exact ⟨l.length, Nat.le_refl _, by go_num, HV⟩
  case round =>
    obtain ⟨k, hk, rfl, HR⟩ := hrel
    cases k with
    | zero =>
      have HV2 : Hid (placeZ V = -1) := hide (by rw [← HR.out]; rfl)
      clear HR
      go_wp2
      go_ret
      exact ⟨ret_int HV2.out.symm, rfl⟩
    | succ j =>
      have hj : j < l.length := by omega
      obtain ⟨b, o, rfl, c0, c1, c2⟩ := HO.out.get j hj
      have hh : (l[j].id == id0) = true → _ := last_hit (fun o => o.id == id0) l j hj
      have hm : (l[j].id == id0) = false → _ := last_miss (fun o => o.id == id0) l j hj
      generalize hE : l[j].id = id at *
      generalize hS : l[j].sp = sp at *
      generalize hN : l[j].nm = nm at *
      have e1 : ((j + 1 : Nat) : Int) - 1 = (j : Int) := by omega
      rw [e1]
      have hlt : (j : Int) < l.length := by omega
      have HH := hide hh
      have HM := hide hm
      clear hh hm hE hS hN e1
      cases hP : (id == id0) with
      | true =>
        have HV2 : Hid (placeZ V = (j : Int)) := hide (by rw [← HR.out, HH.out hP]; rfl)
        clear HH HM HR
        go_wp2
        go_ret
        exact ⟨ret_int HV2.out.symm, rfl⟩
      | false =>
        have HR2 : Hid (lastO (fun o => o.id == id0) l j = V) := hide (by rw [← HR.out, HM.out hP])
        clear HH HM HR
        go_wp2
        go_round
        case rel => exact ⟨j, by omega, by go_num, HR2⟩
        case measure => simp [intOf]

set_option maxHeartbeats 1000000 in
theorem rhas_any (l : List OV) (hl : l.length ≤ 1000000) (names : List (List UInt8)) (hn : names.length ≤ 1000000) (sc : Int) (v u : Value) (w : World) (hO : IsO w v l) (hW : IsW w u names) :
    Calls Try.prog 18 #[v, u, .int .i64 sc] w fun e w' => e = .returned (.bool (hasZ l names sc)) ∧ Below w.heap.size w w' := by
  obtain ⟨a, c, rfl⟩ := isO_form hO
  have HO := hide hO
  have HF := hide (fun (o : OV) (w1 : World) (b1 : Below w.heap.size w w1) => ramong_any o names hn u w1 (hW.below b1))
  have HG := hide (fun (o : OV) (w1 : World) => rends_any o sc w1)
  obtain ⟨a2, cc, rfl⟩ := isW_form hW
  clear hO hW
  unfold hasZ
  generalize hV : hasO names sc l l.length = V
  have HV := hide hV
  clear hV
  go_enter Try.func18, Try.ntmps18
  go_wp2
  go_loopw [7] (fun i wr => ∃ k : Nat, k ≤ l.length ∧ i = .int .i64 ((k : Int) - 1) ∧ Below w.heap.size w wr ∧ Hid (hasO names sc l k = V)) (fun i _ => (intOf i + 1).toNat)
  case atStart => exact ⟨l.length, Nat.le_refl _, by go_num, Below.refl _ w, HV⟩
  case round =>
    obtain ⟨k, hk, rfl, bw, HR⟩ := hrel
    cases k with
    | zero =>
      have HV2 : Hid (V = false) := hide (by rw [← HR.out]; rfl)
      clear HR
      go_wp2
      go_ret
      exact ⟨ret_bool HV2.out.symm, bw⟩
    | succ j =>
      have hj : j < l.length := by omega
      obtain ⟨b, o, rfl, c0, c1, c2⟩ := (HO.out.below bw).get j hj
      have HQ := hide (HF.out l[j] wr bw)
      have HG2 := hide (HG.out l[j])
      have hh := has_hit names sc l j hj
      have hs := has_stop names sc l j hj
      have hm := has_miss names sc l j hj
      generalize hP : namedL names l[j] = P at *
      generalize hP2 : endsL l[j] sc = E at *
      generalize hE : l[j] = el at *
      obtain ⟨id, sp, nm⟩ := el
      simp only [] at c0 c1 c2 HQ HG2
      have e1 : ((j + 1 : Nat) : Int) - 1 = (j : Int) := by omega
      rw [e1]
      have hlt : (j : Int) < l.length := by omega
      have HH := hide hh
      have HS := hide hs
      have HM := hide hm
      clear hh hm hs hP hE e1 hP2
      go_wp2_with fail
      refine HQ.out.mono ?_
      rintro e w1 ⟨rfl, b1⟩
      have b2 := bw.trans (b1.mono bw.size)
      have d0 : w1.cell? ⟨b, o + j * 3, none⟩ = some (.int .i64 id) := by rw [b1.cell (cell_lt c0)]; exact c0
      have d1 : w1.cell? ⟨b, o + j * 3 + 1, none⟩ = some (.int .i64 sp) := by rw [b1.cell (cell_lt c1)]; exact c1
      have d2 : w1.cell? ⟨b, o + j * 3 + 2, none⟩ = some (.string nm) := by rw [b1.cell (cell_lt c2)]; exact c2
      clear c0 c1 c2 HQ b1
      cases P with
      | true =>
        have HV2 : Hid (V = true) := hide (by rw [← HR.out, HH.out rfl])
        clear HH HM HR HS
        go_wp2
        go_ret
        exact ⟨ret_bool HV2.out.symm, b2⟩
      | false =>
        go_wp2_with fail
        refine (HG2.out _).mono ?_
        rintro e w2 ⟨rfl, b3⟩
        have b4 := b2.trans (b3.mono b2.size)
        clear d0 d1 d2 b3
        cases E with
        | true =>
          have HV2 : Hid (V = false) := hide (by rw [← HR.out, HS.out (by simp) (by simp)])
          clear HH HM HR HS
          go_wp2
          go_ret
          exact ⟨ret_bool HV2.out.symm, b4⟩
        | false =>
          have HR2 : Hid (hasO names sc l j = V) := hide (by rw [← HR.out, HM.out (by simp) (by simp)])
          clear HH HM HR HS
          go_wp2
          go_roundw
          case rel => exact ⟨j, by omega, by go_num, b4, HR2⟩
          case measure => simp [intOf]

set_option maxHeartbeats 1000000 in
theorem rimplied_any (l : List OV) (hl : l.length ≤ 1000000) (ex : ByteArray) (v : Value) (w : World) (hO : IsO w v l) :
    Calls Try.prog 23 #[v, .string ex] w fun e w' => e = .returned (.int .i64 (impliedZ l ex)) ∧ Below w.heap.size w w' := by
  obtain ⟨a, c, rfl⟩ := isO_form hO
  have HO := hide hO
  have HI := hide (fun n w => ris_any 8 n w)
  clear hO
  unfold impliedZ
  generalize hV : leftO ex l l.length = V
  have HV := hide hV
  clear hV
  go_enter Try.func23, Try.ntmps23
  go_wp2
  go_loopw [5] (fun i wr => ∃ k : Nat, k ≤ l.length ∧ i = .int .i64 (k : Int) ∧ Below w.heap.size w wr ∧ Hid (leftO ex l k = V)) (fun i _ => (intOf i).toNat)
  case atStart => exact ⟨l.length, Nat.le_refl _, by go_num, Below.refl _ w, HV⟩
  case round =>
    obtain ⟨k, hk, rfl, bw, HR⟩ := hrel
    cases k with
    | zero =>
      have HV2 : Hid ((V : Int) = 0) := hide (by rw [← HR.out]; rfl)
      clear HR
      go_wp2
      go_ret
      exact ⟨ret_int HV2.out.symm, bw⟩
    | succ j =>
      have hj : j < l.length := by omega
      obtain ⟨b, o, rfl, c0, c1, c2⟩ := (HO.out.below bw).get j hj
      have hg := left_go ex l j hj
      have hs := left_stay ex l j hj
      have HI2 := hide (HI.out l[j].nm)
      have he : (l[j].nm.toList == ex.toList) = (l[j].nm.data.toList == ex.data.toList) := by rw [Lib.toList_data, Lib.toList_data]
      have hgo : goesL ex l[j] = (htmlL l[j] && isL 8 l[j].nm.data.toList && !(l[j].nm.data.toList == ex.data.toList)) := rfl
      rw [← he] at hgo
      generalize isL 8 l[j].nm.data.toList = S at *
      generalize goesL ex l[j] = G at *
      have hh : htmlL l[j] = (l[j].sp == 0) := rfl
      rw [hh] at hgo
      generalize hE : l[j].id = id at *
      generalize hS : l[j].sp = sp at *
      generalize hN : l[j].nm = nm at *
      have hlt : (j : Int) < l.length := by omega
      have hlt0 : (0 : Int) < ((j + 1 : Nat) : Int) := by omega
      have e1 : IntKind.i64.wrap (((j + 1 : Nat) : Int) - 1) = (j : Int) := by
        rw [IntKind.wrap_i64]; omega
      have HG := hide hg
      have HS2 := hide hs
      have HGO := hide hgo
      clear hg hs hE hS hN hgo he hh
      by_cases h0 : sp = 0
      · subst h0
        cases S with
        | false =>
          have HV2 : Hid ((V : Int) = ((j + 1 : Nat) : Int)) := hide (by rw [← HR.out, HS2.out (by rw [HGO.out]; rfl)])
          clear HG HS2 HGO HR
          go_wp2_with fail
          refine (HI2.out _).mono ?_
          rintro e w1 ⟨rfl, b1⟩
          have b2 := bw.trans (b1.mono bw.size)
          clear c0 c1 c2 b1
          go_wp2
          go_ret
          exact ⟨ret_int HV2.out.symm, b2⟩
        | true =>
          cases hX : (nm.toList == ex.toList) with
          | true =>
            have HV2 : Hid ((V : Int) = ((j + 1 : Nat) : Int)) := hide (by rw [← HR.out, HS2.out (by rw [HGO.out, hX]; rfl)])
            clear HG HS2 HGO HR
            go_wp2_with fail
            refine (HI2.out _).mono ?_
            rintro e w1 ⟨rfl, b1⟩
            have b2 := bw.trans (b1.mono bw.size)
            have d2 : w1.cell? ⟨b, o + j * 3 + 2, none⟩ = some (.string nm) := by rw [b1.cell (cell_lt c2)]; exact c2
            clear c0 c1 c2 b1
            go_wp2
            go_ret
            exact ⟨ret_int HV2.out.symm, b2⟩
          | false =>
            have HR2 : Hid (leftO ex l j = V) := hide (by rw [← HR.out, HG.out (by rw [HGO.out, hX]; rfl)])
            clear HG HS2 HGO HR
            go_wp2_with fail
            refine (HI2.out _).mono ?_
            rintro e w1 ⟨rfl, b1⟩
            have b2 := bw.trans (b1.mono bw.size)
            have d2 : w1.cell? ⟨b, o + j * 3 + 2, none⟩ = some (.string nm) := by rw [b1.cell (cell_lt c2)]; exact c2
            clear c0 c1 c2 b1
            go_wp2
            go_roundw
            case rel => exact ⟨j, by omega, by go_num, b2, HR2⟩
            case measure => simp [intOf]
      · have e0 := ne_int sp 0 h0
        have HV2 : Hid ((V : Int) = ((j + 1 : Nat) : Int)) := hide (by rw [← HR.out, HS2.out (by rw [HGO.out, e0]; rfl)])
        clear HG HS2 HGO HR h0
        go_wp2
        go_ret
        exact ⟨ret_int HV2.out.symm, bw⟩
end Go.Proofs.Ytfknhpkpenhflaa
