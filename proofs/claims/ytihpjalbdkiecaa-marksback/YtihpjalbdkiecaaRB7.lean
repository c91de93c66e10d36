/- What the document's own Alike, behind, Find, Last and Renew answer; nothing that was there is written. -/
import Derived.Test.YtihpjalbdkiecaaRA7
set_option linter.unusedVariables false
set_option linter.unusedSimpArgs false
namespace Go.Proofs.Ytihpjalbdkiecaa
open Go.RowKit

theorem all_step (p : List UInt8 × List UInt8 → Bool) (l : AttrL) (k : Nat) (h : k < l.length) : (l.drop k).all p = (p l[k] && (l.drop (k + 1)).all p) := by
  rw [List.drop_eq_getElem_cons h]; rfl
theorem all_end (p : List UInt8 × List UInt8 → Bool) (l : AttrL) (k : Nat) (h : l.length ≤ k) : (l.drop k).all p = true := by
  rw [List.drop_eq_nil_of_le h]; rfl

def bothA (l r : AttrL) (k : Nat) : Bool := (l.drop k).all (hasA r) && (r.drop k).all (hasA l)
theorem both_step (l r : AttrL) (k : Nat) (h : k < l.length) (g : k < r.length) : bothA l r k = (hasA r l[k] && (hasA l r[k] && bothA l r (k + 1))) := by
  unfold bothA
  rw [all_step _ l k h, all_step _ r k g]
  cases hasA r l[k] <;> cases hasA l r[k] <;> simp
theorem both_end (l r : AttrL) (k : Nat) (h : l.length ≤ k) (g : r.length ≤ k) : bothA l r k = true := by
  unfold bothA
  rw [all_end _ l k h, all_end _ r k g]; rfl
theorem both_start (l r : AttrL) (h : l.length = r.length) : bothA l r 0 = alikeL l r := by
  unfold bothA alikeL
  rw [List.drop_zero, List.drop_zero, beq_iff_eq.2 h, Bool.true_and]
set_option maxHeartbeats 1000000 in
theorem ralike_any (va vb : Value) (l r : AttrL) (hl : l.length ≤ 1000000) (hr : r.length ≤ 1000000) (w : World) (hA : IsQ w va l) (hB : IsQ w vb r) :
    Calls Try.prog 11 #[va, vb] w fun e w' => e = .returned (.bool (alikeL l r)) ∧ Below w.heap.size w w' := by
  have H1 := hide (fun x w1 (b : Below w.heap.size w w1) => has_any vb r hr x w1 (hB.below b))
  have H2 := hide (fun x w1 (b : Below w.heap.size w w1) => has_any va l hl x w1 (hA.below b))
  obtain ⟨a1, c1, rfl⟩ := isQ_form hA
  obtain ⟨a2, c2, rfl⟩ := isQ_form hB
  have HA := hide hA
  have HB := hide hB
  clear hA hB
  by_cases hle : l.length = r.length
  · generalize hV : alikeL l r = V
    have HV : Hid (bothA l r 0 = V) := hide (by rw [← hV, both_start l r hle])
    clear hV
    rw [hle] at HA H2 ⊢
    generalize hn : r.length = n at *
    have HLL := hide hle
    have HLR := hide hn
    clear hle hn hl
    go_enter Try.func11, Try.ntmps11
    go_wp2
    go_loopw [5] (fun i wr => ∃ k : Nat, k ≤ n ∧ i = .int .i64 k ∧ Below w.heap.size w wr ∧ Hid (bothA l r k = V)) (fun i _ => n - (intOf i).toNat)
    case atStart => exact ⟨0, Nat.zero_le _, rfl, Below.refl _ _, HV⟩
    case round =>
      obtain ⟨k, hk, rfl, bw, HR⟩ := hrel
      by_cases hltn : k < n
      · have hlt : k < l.length := by rw [HLL.out]; exact hltn
        have hlr : k < r.length := by rw [HLR.out]; exact hltn
        obtain ⟨b, o, rfl, x0, x1⟩ := (HA.out.below bw).get k hlt
        obtain ⟨b', o', rfl, y0, y1⟩ := (HB.out.below bw).get k hlr
        have hst := HR.out
        rw [both_step l r k hlt hlr] at hst
        have G1 := hide (H1.out l[k])
        have G2 := hide (H2.out r[k])
        generalize hasA r l[k] = P at *
        generalize hasA l r[k] = Q at *
        generalize (⟨l[k].1.toArray⟩ : ByteArray) = X at *
        generalize (⟨l[k].2.toArray⟩ : ByteArray) = Y at *
        generalize (⟨r[k].1.toArray⟩ : ByteArray) = X' at *
        generalize (⟨r[k].2.toArray⟩ : ByteArray) = Y' at *
        have hlt2 : (k : Int) < n := by omega
        have HST := hide hst
        clear hst HR hlt hlr hltn
        cases P with
        | false =>
          have HR2 : Hid (V = false) := hide (by rw [← HST.out]; rfl)
          clear HST
          go_wp2_with fail
          refine (G1.out _ bw).mono ?_
          rintro e w1 ⟨rfl, b1⟩
          have b2 := bw.trans (b1.mono bw.size)
          clear b1 x0 x1 y0 y1
          go_wp2
          go_ret
          exact ⟨ret_bool HR2.out.symm, b2⟩
        | true =>
          go_wp2_with fail
          refine (G1.out _ bw).mono ?_
          rintro e w1 ⟨rfl, b1⟩
          have b2 := bw.trans (b1.mono bw.size)
          have z0 := b1.cell (cell_lt y0)
          have z1 := b1.cell (cell_lt y1)
          rw [y0] at z0
          rw [y1] at z1
          clear b1 x0 x1 y0 y1
          cases Q with
          | false =>
            have HR2 : Hid (V = false) := hide (by rw [← HST.out]; rfl)
            clear HST
            go_wp2_with fail
            refine (G2.out _ b2).mono ?_
            rintro e w2 ⟨rfl, b3⟩
            have b4 := b2.trans (b3.mono b2.size)
            clear b3 z0 z1
            go_wp2
            go_ret
            exact ⟨ret_bool HR2.out.symm, b4⟩
          | true =>
            have HR2 : Hid (bothA l r (k + 1) = V) := hide (by rw [← HST.out]; rfl)
            clear HST
            go_wp2_with fail
            refine (G2.out _ b2).mono ?_
            rintro e w2 ⟨rfl, b3⟩
            have b4 := b2.trans (b3.mono b2.size)
            clear b3 z0 z1
            go_wp2
            go_roundw
            case rel => exact ⟨k + 1, by omega, by go_num, b4, HR2⟩
            case measure => simp [intOf]; omega
      · have HR2 : Hid (V = true) := hide (by rw [← HR.out, both_end l r k (by rw [HLL.out]; omega) (by rw [HLR.out]; omega)])
        have hlt2 : ¬ (k : Int) < n := by omega
        clear HR hltn
        go_wp2
        go_ret
        exact ⟨ret_bool HR2.out.symm, bw⟩
  · have hleq := ne_int (l.length : Int) (r.length : Int) (by omega)
    have hV : alikeL l r = false := by
      unfold alikeL
      rw [beq_eq_false_iff_ne.2 hle, Bool.false_and]
    rw [hV]
    clear hV hle
    go_enter Try.func11, Try.ntmps11
    go_wp2
    go_ret
    exact ⟨rfl, Below.refl _ _⟩

set_option maxHeartbeats 1000000 in
theorem rbehind_any (v : Value) (l : List MV) (hl : l.length ≤ 1000000) (w : World) (hM : RowM w v l) :
    Calls Try.prog 37 #[v] w fun e w' => e = .returned (.int .i64 (behindL l : Int)) ∧ w' = w := by
  obtain ⟨a, c, rfl⟩ := rowM_form hM
  have HM := hide hM
  clear hM
  unfold behindL
  generalize hV : behindG markerM l l.length = V
  have HV := hide hV
  clear hV
  go_enter Try.func37, Try.ntmps37
  go_wp2
  go_loop [3] (fun i => ∃ k : Nat, k ≤ l.length ∧ i = .int .i64 (k : Int) ∧ Hid (behindG markerM l k = V)) (fun i => (intOf i).toNat)
  case atStart => exact ⟨l.length, Nat.le_refl _, by go_num, HV⟩
  case round =>
    obtain ⟨k, hk, rfl, HR⟩ := hrel
    cases k with
    | zero =>
      have HV2 : Hid ((V : Int) = 0) := hide (by rw [← HR.out]; rfl)
      clear HR
      go_wp2
      go_ret
      exact ⟨ret_int HV2.out.symm, rfl⟩
    | succ j =>
      have hj : j < l.length := by omega
      obtain ⟨b, o, rfl, c0, -, -⟩ := HM.out.get j hj
      have hh : (l[j].id == 0) = true → _ := behind_hit markerM l j hj
      have hm : (l[j].id == 0) = false → _ := behind_miss markerM l j hj
      generalize l[j].id = id at *
      have hlt : (j : Int) < l.length := by omega
      have hlt0 : (0 : Int) < ((j + 1 : Nat) : Int) := by omega
      have e1 : IntKind.i64.wrap (((j + 1 : Nat) : Int) - 1) = (j : Int) := by rw [IntKind.wrap_i64]; omega
      by_cases h0 : id = 0
      · subst h0
        have HV2 : Hid ((V : Int) = ((j + 1 : Nat) : Int)) := hide (by rw [← HR.out, hh rfl])
        clear HR hh hm
        go_wp2
        go_ret
        exact ⟨ret_int HV2.out.symm, rfl⟩
      · have h1 := ne_int id 0 h0
        have HR2 : Hid (behindG markerM l j = V) := hide (by rw [← HR.out, hm h1])
        clear HR hh hm
        go_wp2
        go_round
        case rel => exact ⟨j, by omega, by go_num, HR2⟩
        case measure => simp [intOf]

set_option maxHeartbeats 1000000 in
theorem rfind_any (v : Value) (l : List MV) (hl : l.length ≤ 1000000) (z : Int) (w : World) (hM : RowM w v l) :
    Calls Try.prog 27 #[v, .int .i64 z] w fun e w' => e = .returned (.int .i64 (findZ l z)) ∧ w' = w := by
  obtain ⟨a, c, rfl⟩ := rowM_form hM
  have HM := hide hM
  clear hM
  unfold findZ
  generalize hV : firstO (idM z) l = V
  have HV : Hid ((firstO (idM z) (l.drop 0)).map (· + 0) = V) := hide (by rw [List.drop_zero, ← hV]; cases firstO (idM z) l <;> rfl)
  clear hV
  go_enter Try.func27, Try.ntmps27
  go_wp2
  go_loop [5] (fun i => ∃ k : Nat, k ≤ l.length ∧ i = .int .i64 (k : Int) ∧ Hid ((firstO (idM z) (l.drop k)).map (· + k) = V)) (fun i => l.length - (intOf i).toNat)
  case atStart => exact ⟨0, Nat.zero_le _, rfl, HV⟩
  case round =>
    obtain ⟨k, hk, rfl, HR⟩ := hrel
    by_cases hlt : k < l.length
    · obtain ⟨b, o, rfl, c0, -, -⟩ := HM.out.get k hlt
      have hh : (l[k].id == z) = true → _ := first_hit (idM z) l k hlt
      have hm : (l[k].id == z) = false → _ := first_miss (idM z) l k hlt
      generalize l[k].id = id at *
      have hlt2 : (k : Int) < l.length := by omega
      cases hP : (id == z) with
      | true =>
        have HV2 : Hid (placeZ V = (k : Int)) := hide (by rw [← HR.out, hh hP]; simp [placeZ])
        clear HR hh hm hlt
        go_wp2
        go_ret
        exact ⟨ret_int HV2.out.symm, rfl⟩
      | false =>
        have HR2 : Hid ((firstO (idM z) (l.drop (k + 1))).map (· + (k + 1)) = V) := hide (by rw [← HR.out, hm hP, findZ_first l z k])
        clear HR hh hm hlt
        go_wp2
        go_round
        case rel => exact ⟨k + 1, by omega, by go_num, HR2⟩
        case measure => simp [intOf]; omega
    · have HV2 : Hid (placeZ V = -1) := hide (by rw [← HR.out, first_end _ l k (by omega)]; rfl)
      have hlt2 : ¬ (k : Int) < l.length := by omega
      clear HR hlt
      go_wp2
      go_ret
      exact ⟨ret_int HV2.out.symm, rfl⟩

set_option maxHeartbeats 1000000 in
theorem rlast_any (v : Value) (l : List MV) (hl : l.length ≤ 1000000) (n : ByteArray) (w : World) (hM : RowM w v l) :
    Calls Try.prog 25 #[v, .string n] w fun e w' => e = .returned (.int .i64 (lastZ l n)) ∧ w' = w := by
  have H1 := hide (rbehind_any v l hl w hM)
  obtain ⟨a, c, rfl⟩ := rowM_form hM
  have HM := hide hM
  clear hM
  have hbl := behind_len l
  have HL := hide (last_lt (nameM n) l)
  unfold lastZ
  generalize behindL l = B at *
  generalize hV : lastG (nameM n) l l.length = V
  have HV := hide hV
  clear hV
  go_enter Try.func25, Try.ntmps25
  go_wp2_with fail
  go_loop [5] (fun i => ∃ k : Nat, B ≤ k ∧ k ≤ l.length ∧ i = .int .i64 ((k : Int) - 1) ∧ Hid (lastG (nameM n) l k = V)) (fun i => (intOf i + 1).toNat)
  case atStart => exact ⟨l.length, hbl, Nat.le_refl _, by go_num, HV⟩
  case round =>
    obtain ⟨k, hBk, hk, rfl, HR⟩ := hrel
    by_cases hB : B = k
    · subst hB
      have HV2 : Hid (lastOf B V = -1) := hide (by
        cases V with
        | none => rfl
        | some j =>
          have := HL.out _ _ HR.out
          exact if_neg (by omega))
      have hlt : ¬ ((B : Int) ≤ (B : Int) - 1) := by omega
      clear HR
      go_wp2_with fail
      refine H1.out.mono ?_
      rintro e w1 ⟨rfl, rfl⟩
      go_wp2
      go_ret
      exact ⟨ret_int HV2.out.symm, rfl⟩
    · obtain ⟨j, rfl⟩ : ∃ j, k = j + 1 := ⟨k - 1, by omega⟩
      have hj : j < l.length := by omega
      obtain ⟨b, o, rfl, -, c1, -⟩ := HM.out.get j hj
      have he : (l[j].nm.toList == n.toList) = (l[j].nm.data.toList == n.data.toList) := by rw [Lib.toList_data, Lib.toList_data]
      have hh : (l[j].nm.data.toList == n.data.toList) = true → _ := last_hit (nameM n) l j hj
      have hm : (l[j].nm.data.toList == n.data.toList) = false → _ := last_miss (nameM n) l j hj
      rw [← he] at hh hm
      clear he
      generalize l[j].nm = nm at *
      have e1 : ((j + 1 : Nat) : Int) - 1 = (j : Int) := by omega
      rw [e1]
      have hlt : (j : Int) < l.length := by omega
      have hge : (B : Int) ≤ (j : Int) := by omega
      clear e1
      cases hP : (nm.toList == n.toList) with
      | true =>
        have HV2 : Hid (lastOf B V = (j : Int)) := hide (by
          rw [← HR.out, hh hP]
          exact if_pos (by omega))
        clear HR hh hm
        go_wp2_with fail
        refine H1.out.mono ?_
        rintro e w1 ⟨rfl, rfl⟩
        go_wp2
        go_ret
        exact ⟨ret_int HV2.out.symm, rfl⟩
      | false =>
        have HR2 : Hid (lastG (nameM n) l j = V) := hide (by rw [← HR.out, hm hP])
        clear HR hh hm
        go_wp2_with fail
        refine H1.out.mono ?_
        rintro e w1 ⟨rfl, rfl⟩
        go_wp2
        go_round
        case rel => exact ⟨j, by omega, by omega, by go_num, HR2⟩
        case measure => simp [intOf]
end Go.Proofs.Ytihpjalbdkiecaa
