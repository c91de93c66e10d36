import Derived.Test.YtpppdfjdngmaoaaGreatDoorKc23
import Derived.Test.YtpppdfjdngmaoaaGreatDoorKc24
import Derived.Test.YtpppdfjdngmaoaaGreatDoorKc28
import Derived.Deep.RegionHeld2
set_option linter.unusedVariables false
set_option linter.unusedSimpArgs false
set_option maxRecDepth 100000
set_option maxHeartbeats 8000000
namespace Go.Proofs.YtpppdfjdngmaoaaGreatDoor.S7
open Go.RowKit
def likeK (l : List MV) (m : MV) : Nat → List Nat
  | 0 => []
  | k + 1 => likeK l m k ++ (if behindL l ≤ k ∧ (l[k]?).any (likeM m) = true then [k] else [])
theorem likeK_hit (l : List MV) (m : MV) (k : Nat) (h : k < l.length) (hb : behindL l ≤ k) (hp : likeM m l[k] = true) : likeK l m (k + 1) = likeK l m k ++ [k] := by
  rw [likeK, if_pos ⟨hb, by rw [any_at _ l k h]; exact hp⟩]
theorem likeK_miss (l : List MV) (m : MV) (k : Nat) (h : k < l.length) (hp : likeM m l[k] = false) : likeK l m (k + 1) = likeK l m k := by
  rw [likeK, if_neg (fun h2 => by rw [any_at _ l k h, hp] at h2; exact Bool.false_ne_true h2.2), List.append_nil]
theorem likeK_ahead (l : List MV) (m : MV) : ∀ k, k ≤ behindL l → likeK l m k = [] := by
  intro k
  induction k with
  | zero => intro _; rfl
  | succ k ih => intro h; rw [likeK, if_neg (fun h2 => by omega), ih (by omega)]; rfl
theorem likeK_len (l : List MV) (m : MV) : ∀ k, (likeK l m k).length ≤ k := by
  intro k
  induction k with
  | zero => exact Nat.le_refl _
  | succ k ih =>
    rw [likeK, List.length_append]
    split
    · simp; omega
    · simp; omega
theorem first_app_some (p : MV → Bool) : ∀ (T : List MV) (x : MV) (j : Nat), firstO p T = some j → firstO p (T ++ [x]) = some j
  | [], x, j, h => by simp [firstO] at h
  | y :: r, x, j, h => by
    rw [List.cons_append, firstO]
    rw [firstO] at h
    split at h
    · rename_i h1; rw [if_pos h1]; exact h
    · rename_i h1
      rw [if_neg h1]
      cases hr : firstO p r with
      | none => rw [hr] at h; simp at h
      | some i => rw [hr] at h; rw [first_app_some p r x i hr]; exact h
theorem first_app_miss (p : MV → Bool) : ∀ (T : List MV) (x : MV), p x = false → firstO p (T ++ [x]) = firstO p T
  | [], x, h => by simp [firstO, h]
  | y :: r, x, h => by rw [List.cons_append, firstO, firstO, first_app_miss p r x h]
theorem likeK_count (l : List MV) (m : MV) : ∀ k, k ≤ l.length → (likeK l m k).length = ((l.take k).drop (behindL l)).countP (likeM m) ∧ (likeK l m k).head? = (firstO (likeM m) ((l.take k).drop (behindL l))).map (· + behindL l) := by
  intro k
  induction k with
  | zero => intro _; simp [likeK, firstO]
  | succ k ih =>
    intro hk
    have hk2 : k < l.length := by omega
    obtain ⟨ih1, ih2⟩ := ih (by omega)
    by_cases hb : behindL l ≤ k
    · have e : (l.take (k + 1)).drop (behindL l) = (l.take k).drop (behindL l) ++ [l[k]] := by
        rw [List.take_succ_eq_append_getElem hk2, List.drop_append_of_le_length (by rw [List.length_take]; omega)]
      have hlen : ((l.take k).drop (behindL l)).length = k - behindL l := by rw [List.length_drop, List.length_take]; omega
      rw [e]
      generalize (l.take k).drop (behindL l) = T at *
      cases hp : likeM m l[k] with
      | true =>
        rw [likeK_hit l m k hk2 hb hp]
        refine ⟨by simp [ih1, hp], ?_⟩
        cases hF : firstO (likeM m) T with
        | none =>
          rw [hF] at ih2
          have hnil : likeK l m k = [] := by
            cases hL : likeK l m k with
            | nil => rfl
            | cons x r => rw [hL] at ih2; simp at ih2
          rw [hnil, first_app_none _ _ _ (first_none _ _ hF)]
          simp [firstO, hp, hlen]
          omega
        | some j =>
          rw [hF] at ih2
          have e2 := first_app_some (likeM m) T l[k] j hF
          rw [e2]
          cases hL : likeK l m k with
          | nil => rw [hL] at ih2; simp at ih2
          | cons x r => rw [hL] at ih2; rw [List.cons_append]; exact ih2
      | false =>
        rw [likeK_miss l m k hk2 hp]
        refine ⟨by simp [ih1, hp], ?_⟩
        rw [ih2, first_app_miss (likeM m) T l[k] hp]
    · rw [likeK_ahead l m (k + 1) (by omega)]
      rw [List.drop_eq_nil_of_le (by rw [List.length_take]; omega)]
      simp [firstO]
theorem gone_like (l : List MV) (m : MV) : placeZ (goneO l m) = if m.id = 0 ∨ (likeK l m l.length).length < 3 then -1 else placeZ (likeK l m l.length).head? := by
  obtain ⟨h1, h2⟩ := likeK_count l m l.length (Nat.le_refl _)
  rw [List.take_length] at h1 h2
  rw [h1, h2]
  unfold goneO tailM
  split <;> rfl
def intCells (zs : List Nat) : List Value := zs.map fun (z : Nat) => Value.int .i64 (z : Int)
theorem intCells_app (a b : List Nat) : intCells (a ++ b) = intCells a ++ intCells b := by simp [intCells]
theorem append_int (W : World) (B n : Nat) (v : Value) (zs : List Nat) (i : Nat) (hown : W.ownsRow B 3 1 v n (intCells zs)) (hl : n ≤ 2000000000) (hB : B ≤ W.heap.size) :
    ∃ v' w', (Builtin.append_ #[27, 27] 27 #[v, .slice (some ⟨W.heap.size, 0, none⟩) 1 1]).run Tryz.prog (W.alloc (.cells #[.int .i64 (i : Int)] 3)) = .ok v' w' ∧ w'.ownsRow B 3 1 v' (n + 1) (intCells (zs ++ [i])) ∧ Below B W w' := by
  have b0 := below_alloc W (.cells #[.int .i64 (i : Int)] 3)
  obtain ⟨v', w', hr, ho, hg, _⟩ := run_append_own (P := Tryz.prog) (W.alloc (.cells #[.int .i64 (i : Int)] 3)) B 27 27 3 Tryz.t3 _ 1 8 Tryz.underlying27 (by kernel_rfl) rfl (by kernel_rfl) (by kernel_rfl) (by kernel_rfl) (by omega)
      v n (intCells zs) (owns_below hown b0) ⟨W.heap.size, 0, none⟩ 1 1 [.int .i64 (i : Int)] rfl
      (by
        intro j u hu
        have hj : j < 1 := (List.getElem?_eq_some_iff.1 hu).1
        obtain rfl : j = 0 := by omega
        rw [addr_add, Nat.zero_add, ← hu]; simp [go_sem])
      (by
        intro u hu
        simp only [List.mem_cons, List.not_mem_nil, or_false] at hu
        subst hu; rfl) (by unfold maxLen; omega) (by omega) (by simp; omega)
  refine ⟨v', w', hr, ?_, (b0.mono hB).grown hg (by simp; omega) (owns_own hown)⟩
  rw [intCells_app]
  exact ho
theorem owns_head {w : World} {B n c : Nat} {a : Option Addr} {z : Nat} {zs : List Nat} (h : w.ownsRow B 3 1 (.slice a n c) n (intCells (z :: zs))) : ∃ g, a = some ⟨g, 0, none⟩ ∧ w.cell? ⟨g, 0, none⟩ = some (.int .i64 (z : Int)) := by
  have hl := h.1
  rcases h.2 with ⟨e, h0⟩ | ⟨g, cap, cur, e, _⟩
  · subst h0
    simp [intCells] at hl
  · simp only [Value.slice.injEq] at e
    obtain ⟨rfl, -, -⟩ := e
    have := h.cells (g := g) (by rfl) 0 _ (by rfl)
    rw [addr_add] at this
    exact ⟨g, rfl, this⟩
theorem owns_len {w : World} {B n : Nat} {v : Value} {zs : List Nat} (h : w.ownsRow B 3 1 v n (intCells zs)) : zs.length = n := by
  have := h.1
  simpa [intCells] using this
theorem surplus_p (v : Value) (l : List MV) (hs : SmallM l) (m : MV) (hma : m.aa.length ≤ 400000000) (w : World) (hM : RowM w v l) (hOk : OkM w l) (hm : IsQ w m.av m.aa) :
    Calls Tryz.prog 224 #[v, .agg #[.int .i64 m.id, .string m.nm, m.av]] w fun e w' => e = .returned (.int .i64 (placeZ (goneO l m))) ∧ Below w.heap.size w w' := by
  have hl : l.length ≤ 400000000 := hs.1
  obtain ⟨ma, mc, hmv⟩ := isQ_form hm
  have H0 := hide (fun w1 => marker_p m ma _ mc hmv w1)
  have hB : placeZ (lastG markerM l l.length) = (behindL l : Int) - 1 := by
    have := behind_last markerM l l.length
    unfold behindL
    omega
  have H1 := hide (fun w1 (b : Below w.heap.size w w1) => lastMarker_p l (by omega) v w1 (hM.below b) (hOk.below b))
  rw [hB] at H1
  have H2 := hide (fun (x : MV) (hx : x ∈ l) w1 (b : Below w.heap.size w w1) => alike_p x.av m.av x.aa m.aa (hs.2 x hx) hma w1 ((hOk x hx).below b) (hm.below b))
  obtain ⟨a, c, rfl⟩ := rowM_form hM
  have HM := hide hM
  have HOK := hide hOk
  have hbl := behind_len l
  have HBX := hide (fun w1 (b : Below (w.heap.size + 1) (boxM w m.id m.nm m.av) w1) => And.intro (boxM_below w _ _ _ b) (boxM_cells w m.id m.nm m.av b))
  have BA : Hid (Below (w.heap.size + 1) (boxM w m.id m.nm m.av) (boxM w m.id m.nm m.av)) := hide (Below.refl _ _)
  have HLIKE : Hid (∀ x, likeM m x = (x.nm.data.toList == m.nm.data.toList && alikeL x.aa m.aa)) := hide fun x => rfl
  have HG := hide (gone_like l m)
  have HKH := hide (fun k h hb hp => likeK_hit l m k h hb hp)
  have HKM := hide (fun k h hp => likeK_miss l m k h hp)
  have HK0 := hide (likeK_ahead l m (behindL l) (Nat.le_refl _))
  have HKL := hide (likeK_len l m)
  have HEQ : Hid (∀ x : ByteArray, (x.toList == m.nm.toList) = (x.data.toList == m.nm.data.toList)) := hide fun x => by rw [Lib.toList_data, Lib.toList_data]
  have HMK : Hid (markerM m = (m.id == 0)) := hide rfl
  rw [HMK.out] at H0
  obtain ⟨N, hNl⟩ : ∃ N, N = l.length := ⟨_, rfl⟩
  rw [← hNl] at HM H1 HG hl hbl ⊢
  have HNL := hide hNl
  clear hNl hs hM hOk hm hB HMK
  rw [hmv] at BA HBX H2 H0 ⊢
  generalize m.id = id at *
  generalize m.nm = nm at *
  generalize m.aa.length = ml at *
  generalize placeZ (goneO l m) = GZ at *
  generalize likeK l m = KK at *
  generalize behindL l = B at *
  clear hmv
  by_cases h0 : id = 0
  · subst h0
    have HGZ : Hid (GZ = -1) := hide (by rw [HG.out, if_pos (.inl rfl)])
    simp only [beq_self_eq_true] at H0
    go_enter Tryz.func224, Tryz.ntmps224
    go_wp2_with fail
    refine (H0.out _).mono ?_
    rintro e w1 ⟨rfl, b1⟩
    have B1 := hide (box_below w _ b1)
    clear b1
    go_wp2
    go_ret
    exact ⟨ret_int HGZ.out.symm, B1.out⟩
  · have h0' := ne_int id 0 h0
    rw [h0'] at H0
    have HG2 : Hid (GZ = if (KK N).length < 3 then -1 else placeZ (KK N).head?) := hide (by
      rw [HG.out]
      by_cases h : (KK N).length < 3
      · rw [if_pos (.inr h), if_pos h]
      · rw [if_neg (by rintro (h1 | h1); exact h0 h1; exact h h1), if_neg h])
    clear HG
    go_enter Tryz.func224, Tryz.ntmps224
    go_wp2_with fail
    refine (H0.out _).mono ?_
    rintro e w1 ⟨rfl, b1⟩
    have B1 : Hid (Below (w.heap.size + 1) (boxM w id nm (.slice ma ml mc)) w1) := hide (b1.mono (by simp))
    clear b1
    go_wp2_with fail
    refine (H1.out _ (HBX.out _ B1.out).1).mono ?_
    rintro e w2 ⟨rfl, b2⟩
    have B2 : Hid (Below (w.heap.size + 1) (boxM w id nm (.slice ma ml mc)) w2) := hide (B1.out.trans (b2.mono (by have := B1.out.size; rw [boxM_size] at this; exact this)))
    clear b2
    go_wp2_with fail
    go_loopw [5, 6] (fun sm i wr => ∃ (k n : Nat) (a3 : Option Addr) (c3 : Nat), B ≤ k ∧ k ≤ N ∧ sm = .slice a3 n c3 ∧ i = .int .i64 (k : Int) ∧ Hid (wr.ownsRow (w.heap.size + 1) 3 1 (.slice a3 n c3) n (intCells (KK k))) ∧ Hid (Below (w.heap.size + 1) (boxM w id nm (.slice ma ml mc)) wr)) (fun _ i _ => N - (intOf i).toNat)
    case atStart => exact ⟨B, 0, none, 0, Nat.le_refl _, hbl, rfl, rfl, hide (by rw [HK0.out]; exact World.ownsRow_nil _ _ _ _), B2⟩
    case round =>
      obtain ⟨k, n, a3, c3, hBk, hkN, rfl, rfl, HOW, BW⟩ := hrel
      obtain ⟨bb, d0, d1, d2⟩ := HBX.out _ BW.out
      have hnk : n ≤ k := by
        have h1 := owns_len HOW.out
        have h2 := HKL.out k
        omega
      by_cases hlt : k < N
      · have hj : k < l.length := by rw [← HNL.out]; exact hlt
        have hjN : (k : Int) < N := by omega
        obtain ⟨b, o, rfl, c0, c1, c2⟩ := (HM.out.below bb).get k hj
        have HAL := hide (H2.out l[k] (List.getElem_mem hj))
        have HSC0 : Hid (∀ W', Below (w.heap.size + 1) (boxM w id nm (.slice ma ml mc)) W' → W'.cell? ⟨b, o + k * 3 + 1, none⟩ = some (.string l[k].nm) ∧ W'.cell? ⟨b, o + k * 3 + 2, none⟩ = some l[k].av ∧ W'.cell? ⟨w.heap.size, 1, none⟩ = some (.string nm) ∧ W'.cell? ⟨w.heap.size, 2, none⟩ = some (.slice ma ml mc)) := hide fun W' h => by
          obtain ⟨bw', -, p1, p2⟩ := HBX.out W' h
          obtain ⟨b', o', e, -, h1, h2⟩ := (HM.out.below bw').get k hj
          simp only [Option.some.injEq, Addr.mk.injEq, and_true] at e
          obtain ⟨rfl, rfl⟩ := e
          exact ⟨h1, h2, p1, p2⟩
        have hlk := HLIKE.out l[k]
        rw [← HEQ.out l[k].nm] at hlk
        have f1 := HKH.out k hj hBk
        have f2 := HKM.out k hj
        rw [hlk] at f1 f2
        obtain ⟨qa, qc, hqa⟩ := isQ_form (HOK.out.at_ k hj)
        rw [hqa] at c2 HAL HSC0
        generalize alikeL l[k].aa m.aa = AL at *
        generalize l[k].nm = X at *
        generalize l[k].id = idj at *
        generalize l[k].aa.length = ql at *
        have F1 := hide f1
        have F2 := hide f2
        clear f1 f2 hlk hqa hj
        cases hX : (X.toList == nm.toList) with
        | false =>
          have HF := hide (F2.out (by rw [hX, Bool.false_and]))
          clear F1 F2
          go_wp2_with fail
          go_region
          all_goals (try go_wp2)
          all_goals go_roundw
          case rel => exact ⟨k + 1, n, a3, c3, by omega, by omega, rfl, by go_num, hide (by rw [HF.out]; exact HOW.out), hide BW.out.drew⟩
          case measure => simp [intOf]; omega
        | true =>
          obtain rfl : X = nm := by
            have h := beq_iff_eq.1 hX
            rw [Lib.toList_data, Lib.toList_data] at h
            cases X
            cases nm
            simpa [Array.toList_inj] using h
          have HAL2 := hide (HAL.out wr.drew bb.drew)
          have DD := hide BW.out.drew
          have HOD : Hid (wr.drew.ownsRow (w.heap.size + 1) 3 1 (.slice a3 n c3) n (intCells (KK k))) := HOW
          have HSZ : Hid (w.heap.size + 1 ≤ wr.drew.heap.size) := hide (by have := DD.out.size; rw [boxM_size] at this; exact this)
          clear c0 c1 c2 d1 d2
          cases AL with
          | false =>
            have HF := hide (F2.out (by rw [hX]; rfl))
            clear F1 F2
            go_wp2_with fail
            go_region_held2 (fun W' => W'.cell? ⟨b, o + k * 3 + 1, none⟩ = some (.string X) ∧ W'.cell? ⟨b, o + k * 3 + 2, none⟩ = some (.slice qa ql qc) ∧ W'.cell? ⟨w.heap.size, 1, none⟩ = some (.string X) ∧ W'.cell? ⟨w.heap.size, 2, none⟩ = some (.slice ma ml mc)) (first | with_reducible exact HSC0.out _ DD.out | with_reducible exact HSC0.out _ B3.out) (first | (go_at_call 248; refine HAL2.out.mono ?_; rintro e w3 ⟨rfl, b3⟩; have B3 := hide (DD.out.trans (b3.mono HSZ.out)); have HO3 := hide (owns_below HOD.out b3); clear b3))
            go_wp2
            go_roundw
            case rel => exact ⟨k + 1, n, a3, c3, by omega, by omega, rfl, by go_num, hide (by rw [HF.out]; exact HO3.out), B3⟩
            case measure => simp [intOf]; omega
          | true =>
            have HF := hide (F1.out (by rw [hX]; rfl))
            clear F1 F2
            go_wp2_with fail
            go_region_held2 (fun W' => W'.cell? ⟨b, o + k * 3 + 1, none⟩ = some (.string X) ∧ W'.cell? ⟨b, o + k * 3 + 2, none⟩ = some (.slice qa ql qc) ∧ W'.cell? ⟨w.heap.size, 1, none⟩ = some (.string X) ∧ W'.cell? ⟨w.heap.size, 2, none⟩ = some (.slice ma ml mc)) (first | with_reducible exact HSC0.out _ DD.out | with_reducible exact HSC0.out _ B3.out) (first | (go_at_call 248; refine HAL2.out.mono ?_; rintro e w3 ⟨rfl, b3⟩; have B3 := hide (DD.out.trans (b3.mono HSZ.out)); have HO3 := hide (owns_below HOD.out b3); clear b3))
            obtain ⟨v4, w4, hr4, ho4, b4⟩ := append_int w3 (w.heap.size + 1) n (.slice a3 n c3) (KK k) k HO3.out (by omega) (by have := B3.out.size; rw [boxM_size] at this; exact this)
            obtain ⟨a4, c4, rfl⟩ := owns_form ho4
            have HR4 := hide hr4
            have HO4 := hide ho4
            have B4 := hide (B3.out.trans b4)
            clear hr4 ho4 b4
            go_wp2_with (with_reducible refine wpList_append_run rfl _ _ 27 rfl (.slice a3 n c3) (.slice (some ⟨w3.heap.size, 0, none⟩) 1 1) _ w4 rfl rfl HR4.out ?_)
            go_roundw
            case rel => exact ⟨k + 1, n + 1, a4, c4, by omega, by omega, rfl, by go_num, hide (by rw [HF.out]; exact HO4.out), B4⟩
            case measure => simp [intOf]; omega
      · obtain rfl : k = N := by omega
        have hjN : ¬ (k : Int) < (k : Int) := by omega
        have hlen := owns_len HOW.out
        by_cases h3 : n < 3
        · have h3' : (n : Int) < 3 := by omega
          have HGZ : Hid (GZ = -1) := hide (by rw [HG2.out, if_pos (by omega)])
          clear hlen hlt
          go_wp2
          go_ret
          exact ⟨ret_int HGZ.out.symm, bb⟩
        · have h3' : ¬ (n : Int) < 3 := by omega
          have h4 : (0 : Int) < n := by omega
          obtain ⟨z, zs, hz⟩ : ∃ z zs, KK k = z :: zs := by
            cases hK : KK k with
            | nil => rw [hK] at hlen; simp at hlen; omega
            | cons z zs => exact ⟨z, zs, rfl⟩
          have HGZ : Hid (GZ = (z : Int)) := hide (by rw [HG2.out, if_neg (by omega), hz]; rfl)
          have ho := HOW.out
          rw [hz] at ho
          obtain ⟨g, rfl, hg⟩ := owns_head ho
          clear hlen hlt ho hz
          go_wp2
          go_ret
          exact ⟨ret_int HGZ.out.symm, bb⟩
theorem push_p (v : Value) (l : List MV) (hs : SmallM l) (m : MV) (hma : m.aa.length ≤ 400000000) (w : World) (hM : RowM w v l) (hOk : OkM w l) (hm : IsQ w m.av m.aa) :
    Calls Tryz.prog 183 #[v, .agg #[.int .i64 m.id, .string m.nm, m.av]] w fun e w' => (∃ v', e = .returned v' ∧ NewM w.heap.size w' v' (pushL l m)) ∧ Below w.heap.size w w' := by
  have hl : l.length ≤ 400000000 := hs.1
  have H1 := hide (fun w1 (b : Below w.heap.size w w1) => surplus_p v l hs m hma w1 (hM.below b) (hOk.below b) (hm.below b))
  have H2 := hide (fun k (hk : k < l.length) w1 (b : Below w.heap.size w w1) => without_p v l (by omega) k hk w1 (hM.below b) (hOk.below b))
  have H3 := hide (fun u (r : List MV) (hr : r.length ≤ l.length) w1 (b : Below w.heap.size w w1) (hu : RowM w1 u r) => grown_p u r (by omega) m w1 hu (hm.below b))
  have HR := hide (fun w1 (b : Below w.heap.size w w1) => hM.below b)
  have HBX := hide (fun w1 (b : Below (w.heap.size + 1) (boxM w m.id m.nm m.av) w1) => And.intro (boxM_below w _ _ _ b) (boxM_cells w m.id m.nm m.av b))
  have BA : Hid (Below (w.heap.size + 1) (boxM w m.id m.nm m.av) (boxM w m.id m.nm m.av)) := hide (Below.refl _ _)
  have HSZ : Hid (∀ w1, Below (w.heap.size + 1) (boxM w m.id m.nm m.av) w1 → w.heap.size + 1 ≤ w1.heap.size) := hide fun w1 b => by have := b.size; rw [boxM_size] at this; exact this
  obtain ⟨a, c, rfl⟩ := rowM_form hM
  obtain ⟨ma, mc, hmv⟩ := isQ_form hm
  have HP : Hid (pushL l m = withoutZ l (placeZ (goneO l m)) ++ [m]) := hide rfl
  cases hG : goneO l m with
  | none =>
    rw [hG] at H1 HP
    have e : withoutZ l (placeZ none) = l := by unfold withoutZ; rw [if_pos (by simp [placeZ])]
    rw [e] at HP
    have H4 := hide (fun w1 b => H3.out _ l (Nat.le_refl _) w1 b (HR.out w1 b))
    rw [← HP.out] at H4
    simp only [placeZ] at H1
    rw [hmv] at H1 H4 BA HBX HSZ ⊢
    generalize pushL l m = PL at *
    generalize m.id = id at *
    generalize m.nm = nm at *
    generalize m.aa.length = ml at *
    clear hM hOk hm hs e hG HP H2 H3 HR hmv
    generalize l.length = N at *
    go_enter Tryz.func183, Tryz.ntmps183
    go_wp2_with fail
    refine (H1.out _ (HBX.out _ BA.out).1).mono ?_
    rintro e w1 ⟨rfl, b1⟩
    have B1 : Hid (Below (w.heap.size + 1) (boxM w id nm (.slice ma ml mc)) w1) := hide (BA.out.trans (b1.mono (HSZ.out _ BA.out)))
    obtain ⟨bb, d0, d1, d2⟩ := HBX.out _ B1.out
    clear b1
    go_wp2_with fail
    refine (H4.out _ bb).mono ?_
    rintro e w2 ⟨⟨v', rfl, hN⟩, b2⟩
    obtain ⟨a4, c4, rfl⟩ := new_form hN
    have HN := hide (hN.mono bb.size)
    have B2 := hide (bb.trans (b2.mono bb.size))
    clear hN b2
    go_wp2
    go_ret
    exact ⟨⟨_, rfl, HN.out⟩, B2.out⟩
  | some k =>
    rw [hG] at H1 HP
    have hk : k < l.length := by
      unfold goneO at hG
      split at hG
      · cases hG
      · cases hF : firstO (likeM m) (tailM l) with
        | none => rw [hF] at hG; cases hG
        | some j =>
          rw [hF] at hG
          obtain ⟨hj, -⟩ := first_some _ _ _ hF
          simp only [Option.map_some, Option.some.injEq] at hG
          unfold tailM at hj
          rw [List.length_drop] at hj
          omega
    have e : withoutZ l (placeZ (some k)) = l.eraseIdx k := by unfold withoutZ; rw [if_neg (by simp [placeZ])]; rfl
    rw [e] at HP
    have H4 := hide (fun u w1 b hu => H3.out u (l.eraseIdx k) (List.length_eraseIdx_le l k) w1 b hu)
    have H5 := hide (fun w1 b => H2.out k hk w1 b)
    rw [← HP.out] at H4
    simp only [placeZ] at H1
    rw [hmv] at H1 H4 BA HBX HSZ ⊢
    generalize pushL l m = PL at *
    generalize m.id = id at *
    generalize m.nm = nm at *
    generalize m.aa.length = ml at *
    generalize l.eraseIdx k = R at *
    clear hM hOk hm hs e hG HP H2 H3 HR hmv hk
    generalize l.length = N at *
    have hk1 : ¬ (k : Int) = -1 := by omega
    have hk2 : ((k : Int) == -1) = false := by simp
    go_enter Tryz.func183, Tryz.ntmps183
    go_wp2_with fail
    refine (H1.out _ (HBX.out _ BA.out).1).mono ?_
    rintro e w1 ⟨rfl, b1⟩
    have B1 : Hid (Below (w.heap.size + 1) (boxM w id nm (.slice ma ml mc)) w1) := hide (BA.out.trans (b1.mono (HSZ.out _ BA.out)))
    obtain ⟨bb, d0, d1, d2⟩ := HBX.out _ B1.out
    have HCE : Hid (∀ W, Below (w.heap.size + 1) (boxM w id nm (.slice ma ml mc)) W → W.cell? ⟨w.heap.size, 0, none⟩ = some (.int .i64 id) ∧ W.cell? ⟨w.heap.size, 1, none⟩ = some (.string nm) ∧ W.cell? ⟨w.heap.size, 2, none⟩ = some (.slice ma ml mc)) := hide fun W b => (HBX.out W b).2
    have DD := hide B1.out.drew
    have D1 := hide bb.drew
    clear b1 d0 d1 d2 bb
    go_wp2_with fail
    go_region_held2 (fun W' => W'.cell? ⟨w.heap.size, 0, none⟩ = some (.int .i64 id) ∧ W'.cell? ⟨w.heap.size, 1, none⟩ = some (.string nm) ∧ W'.cell? ⟨w.heap.size, 2, none⟩ = some (.slice ma ml mc)) (first | with_reducible exact HCE.out _ DD.out | with_reducible exact HCE.out _ B2.out | with_reducible exact HCE.out _ B3.out) (first | (go_at_call 226; refine (H5.out _ D1.out).mono ?_; rintro e w2 ⟨⟨v2, rfl, hN⟩, b2⟩; obtain ⟨a4, c4, rfl⟩ := new_form hN; have R2 := hide hN.row; have B2 := hide (DD.out.trans (b2.mono (HSZ.out _ DD.out))); have D2 := hide (D1.out.trans (b2.mono D1.out.size)); clear hN b2) | (go_at_call 225; refine (H4.out _ _ D2.out R2.out).mono ?_; rintro e w3 ⟨⟨v3, rfl, hN⟩, b3⟩; obtain ⟨a5, c5, rfl⟩ := new_form hN; have R3 := hide (hN.mono D2.out.size); have B3 := hide (B2.out.trans (b3.mono (HSZ.out _ B2.out))); have D3 := hide (D2.out.trans (b3.mono D2.out.size)); clear hN b3))
    go_wp2
    go_ret
    exact ⟨⟨_, rfl, R3.out⟩, D3.out⟩
end Go.Proofs.YtpppdfjdngmaoaaGreatDoor.S7
namespace Go.Proofs.YtpppdfjdngmaoaaGreatDoor.S7
open Go.RowKit Go.Sort
theorem equal_g (va vb : Value) (l r : AttrL) (hl : l.length ≤ 9223372036854775807) (hr : r.length ≤ 9223372036854775807) (w : World) (hA : IsQ w va l) (hB : IsQ w vb r) :
    Calls Tryz.prog 39 #[va, vb] w fun e w' => e = .returned (.bool (decide (l = r))) ∧ Below w.heap.size w w' := by
  obtain ⟨a1, c1, rfl⟩ := isQ_form hA
  obtain ⟨a2, c2, rfl⟩ := isQ_form hB
  by_cases hlr : l.length = r.length
  · generalize hV : decide (l = r) = V
    have HV := hide hV
    have HA := hide hA
    have HB := hide hB
    have HE := hide (fun k (h1 : k < l.length) (h2 : k < r.length) => drop_eq_step l r k h1 h2)
    have HS := hide (fun k (h1 : k < l.length) (h2 : k < r.length) => And.intro (str_beq l[k].1 r[k].1) (str_beq l[k].2 r[k].2))
    clear hV hA hB
    rw [hlr] at HA ⊢
    obtain ⟨N, hN⟩ : ∃ N, N = r.length := ⟨_, rfl⟩
    rw [← hN] at HA HB hr ⊢
    have HNL : Hid (N = l.length) := hide (by rw [hlr, hN])
    have HNR := hide hN
    clear hN hlr hl
    go_enter Tryz.func39, Tryz.ntmps39
    go_wp2
    go_loopw [13] (fun i wr => ∃ k : Nat, k ≤ N ∧ i = .int .i64 k ∧ Hid (Below w.heap.size w wr) ∧ Hid (decide (l.drop k = r.drop k) = V)) (fun i _ => N - (intOf i).toNat)
    case atStart => exact ⟨0, Nat.zero_le _, rfl, hide (Below.refl _ _), hide (by rw [List.drop_zero, List.drop_zero]; exact HV.out)⟩
    case round =>
      obtain ⟨k, hk, rfl, BW, HR⟩ := hrel
      by_cases hltN : k < N
      · have h1 : k < l.length := by rw [← HNL.out]; exact hltN
        have h2 : k < r.length := by rw [← HNR.out]; exact hltN
        obtain ⟨b, o, rfl, x0, x1⟩ := (HA.out.below BW.out).get k h1
        obtain ⟨b', o', rfl, y0, y1⟩ := (HB.out.below BW.out).get k h2
        obtain ⟨s1, s2⟩ := HS.out k h1 h2
        have hst := HE.out k h1 h2
        rw [HR.out] at hst
        generalize (⟨l[k].1.toArray⟩ : ByteArray) = X at *
        generalize (⟨l[k].2.toArray⟩ : ByteArray) = Y at *
        generalize (⟨r[k].1.toArray⟩ : ByteArray) = P at *
        generalize (⟨r[k].2.toArray⟩ : ByteArray) = Q at *
        rw [← s1, ← s2] at hst
        have hlt2 : (k : Int) < N := by omega
        clear h1 h2 hltN s1 s2 HR
        by_cases e1 : (X.toList == P.toList) = true
        · by_cases e2 : (Y.toList == Q.toList) = true
          · have HR2 : Hid (decide (l.drop (k + 1) = r.drop (k + 1)) = V) := hide (by rw [hst, e1, e2]; rfl)
            clear hst
            go_wp2_with fail
            go_region
            all_goals (try go_wp2)
            all_goals go_roundw
            case rel => exact ⟨k + 1, by omega, by go_num, hide BW.out.drew, HR2⟩
            case measure => simp [intOf]; omega
          · have e2 := Bool.eq_false_iff.2 e2
            have HR2 : Hid (V = false) := hide (by rw [hst, e1, e2]; rfl)
            clear hst
            go_wp2_with fail
            go_region
            all_goals (try go_wp2)
            all_goals go_ret
            all_goals exact ⟨ret_bool HR2.out.symm, BW.out.drew⟩
        · have e1 := Bool.eq_false_iff.2 e1
          have HR2 : Hid (V = false) := hide (by rw [hst, e1]; rfl)
          clear hst
          go_wp2_with fail
          go_region
          all_goals (try go_wp2)
          all_goals go_ret
          all_goals exact ⟨ret_bool HR2.out.symm, BW.out.drew⟩
      · have HV2 : Hid (V = true) := hide (by
          rw [← HR.out, List.drop_eq_nil_of_le (by rw [← HNL.out]; omega), List.drop_eq_nil_of_le (by rw [← HNR.out]; omega)]
          exact decide_eq_true rfl)
        have hlt2 : ¬ (k : Int) < N := by omega
        clear hltN HR
        go_wp2
        go_ret
        exact ⟨ret_bool HV2.out.symm, BW.out⟩
  · rw [decide_eq_false (fun h => hlr (by rw [h]))]
    have h2 : ¬ (l.length : Int) = r.length := by omega
    have h3 := ne_int _ _ h2
    clear hA hB
    generalize l.length = N at *
    generalize r.length = M at *
    go_enter Tryz.func39, Tryz.ntmps39
    go_wp2
    go_ret
    exact ⟨rfl, Below.refl _ _⟩
end Go.Proofs.YtpppdfjdngmaoaaGreatDoor.S7
