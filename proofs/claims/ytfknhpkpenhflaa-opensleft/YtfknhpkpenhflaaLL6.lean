/- OpensLeft's walk. -/
import Derived.Test.YtfknhpkpenhflaaLW6
import Derived.Deep.RegionHeld2
set_option linter.unusedVariables false
set_option linter.unusedSimpArgs false
namespace Go.Proofs.Ytfknhpkpenhflaa
open Go.RowKit

/-- What is asked while the names are gone through: so far, or further on. -/
def asks (B : Bool) (names : List (List UInt8)) (k : Nat) (sp : Int) (nm : ByteArray) : Bool := B || (sp == 0 && amongL (names.drop k) nm.data.toList)
theorem asks_start (names : List (List UInt8)) (el : OV) : asks false names 0 el.sp el.nm = namedL names el := by
  unfold asks namedL htmlL
  rw [Bool.false_or, List.drop_zero]
theorem asks_end (B : Bool) (names : List (List UInt8)) (k : Nat) (hk : names.length ≤ k) (sp : Int) (nm : ByteArray) : asks B names k sp nm = B := by
  unfold asks
  rw [among_end names _ k hk, Bool.and_false, Bool.or_false]
theorem asks_true (names : List (List UInt8)) (k j : Nat) (sp : Int) (nm : ByteArray) : asks true names k sp nm = asks true names j sp nm := rfl
theorem asks_other (names : List (List UInt8)) (k : Nat) (sp : Int) (hs : (sp == 0) = false) (nm : ByteArray) : asks false names k sp nm = asks false names (k + 1) sp nm := by
  unfold asks
  rw [hs, Bool.false_and, Bool.false_and]
theorem asks_hit (names : List (List UInt8)) (k : Nat) (hk : k < names.length) (nm : ByteArray) (h : (nm.data.toList == names[k]) = true) : asks false names k 0 nm = asks true names (k + 1) 0 nm := by
  unfold asks
  rw [among_step names _ k hk, h]
  rfl
theorem asks_miss (names : List (List UInt8)) (k : Nat) (hk : k < names.length) (nm : ByteArray) (h : (nm.data.toList == names[k]) = false) : asks false names k 0 nm = asks false names (k + 1) 0 nm := by
  unfold asks
  rw [among_step names _ k hk, h]
  simp

set_option maxRecDepth 10000 in
set_option maxHeartbeats 4000000 in
theorem left_walk (l : List OV) (names : List (List UInt8)) (ex : ByteArray) (hl : l.length ≤ 60 ∧ names.length ≤ 60) (Z M : Int) (v u : Value) (w : World) (hO : IsO w v l) (hW : IsW w u names)
    (hZ : cutZ l names = Z) (hM : impliedZ l ex = M) (hZr : -1 ≤ Z ∧ Z < l.length) (hMr : 0 ≤ M ∧ M ≤ l.length)
    (hcut : ∀ i (h : i < l.length), Z ≤ (i : Int) → namedL names l[i] = ((i : Int) == Z)) (himp : ∀ i (h : i < l.length), M ≤ (i : Int) + 1 → goesL ex l[i] = decide (M ≤ (i : Int))) :
    Calls Try.prog 7 #[v, u, .string ex] w fun e w' => e = .returned (.bool true) ∧ Below w.heap.size w w' := by
  have H1 := hide alive_any
  have H2 := hide (cut_any l (by omega) names (by omega) v u w hO hW)
  have H3 := hide (fun w1 (b : Below w.heap.size w w1) => implied_any l (by omega) ex v w1 (hO.below b))
  rw [hZ] at H2
  rw [hM] at H3
  have H4 := hide (fun n w => isp_8 n w)
  obtain ⟨a, c, rfl⟩ := isO_form hO
  have HO := hide hO
  have HW := hide hW
  obtain ⟨a2, c2, rfl⟩ := isW_form hW
  have HS := hide (small_any a a2 l.length names.length c c2)
  rw [decide_eq_true hl.1, decide_eq_true hl.2] at HS
  have HCUT := hide hcut
  have HIMP := hide himp
  obtain ⟨hl1, hl2⟩ := hl
  obtain ⟨hz1, hz2⟩ := hZr
  obtain ⟨hm1, hm2⟩ := hMr
  have hq1 : ¬ ((l.length : Int) ≤ Z) := by omega
  have hq2 : ¬ (Z < -1) := by omega
  clear hO hW hcut himp hZ hM
  go_enter Try.func7, Try.ntmps7
  go_wp2_with fail
  refine (HS.out _).mono ?_
  rintro e w0 ⟨rfl, rfl⟩
  go_wp2_with fail
  refine H2.out.mono ?_
  rintro e w1 ⟨rfl, b1⟩
  have B1 := hide b1
  clear b1 H2
  go_wp2_with fail
  go_loopw [8] (fun i wr => ∃ z : Int, i = .int .i64 z ∧ Z ≤ z ∧ z ≤ l.length ∧ Hid (Below w0.heap.size w0 wr)) (fun i _ => ((l.length : Int) - intOf i).toNat)
  case atStart => exact ⟨Z, rfl, Int.le_refl _, by omega, B1⟩
  case round =>
    obtain ⟨z, rfl, hzz, hzl, BR⟩ := hrel
    generalize wr = wr2 at *
    by_cases hzlt : z < l.length
    · by_cases hz0 : z < 0
      · have hz00 : ¬ (0 ≤ z) := by omega
        go_wp2_with fail
        go_loop [10] (fun vk => vk = .int .i64 0) (fun _ => 0)
        case atStart => rfl
        case round =>
          subst hrel
          by_cases hn0 : (0 : Int) < names.length
          · go_wp2
            go_roundw
            case rel => exact ⟨z + 1, by go_num, by omega, by omega, BR⟩
            case measure => simp [intOf]; omega
          · go_wp2
            go_roundw
            case rel => exact ⟨z + 1, by go_num, by omega, by omega, BR⟩
            case measure => simp [intOf]; omega
      · obtain ⟨i, rfl⟩ : ∃ i : Nat, z = (i : Int) := ⟨z.toNat, by omega⟩
        have hi : i < l.length := by omega
        have hz00 : (0 : Int) ≤ (i : Int) := by omega
        have hN := HCUT.out i hi hzz
        have hA := asks_start names l[i]
        obtain ⟨b, o, ha, -, -, -⟩ := HO.out.get i hi
        subst ha
        have HC3 := hide (fun W' (h : Below w0.heap.size w0 W') => (HO.out.below h).get i hi)
        generalize namedL names l[i] = N at *
        generalize l[i].id = id at *
        generalize l[i].sp = sp at *
        generalize l[i].nm = nm at *
        have HNN := hide hN
        have HA := hide hA
        have HCC : Hid (∀ W', Below w0.heap.size w0 W' → W'.cell? ⟨b, o + i * 3, none⟩ = some (.int .i64 id) ∧ W'.cell? ⟨b, o + i * 3 + 1, none⟩ = some (.int .i64 sp) ∧ W'.cell? ⟨b, o + i * 3 + 2, none⟩ = some (.string nm)) := hide fun W' h => by
          obtain ⟨b', o', e, h0, h1, h2⟩ := HC3.out W' h
          simp only [Option.some.injEq, Addr.mk.injEq, and_true] at e
          obtain ⟨rfl, rfl⟩ := e
          exact ⟨h0, h1, h2⟩
        clear hN hA hi HC3 hz0
        go_wp2_with fail
        go_loopw [9, 10] (fun vb vk wq => ∃ (B : Bool) (k : Nat), vb = .bool B ∧ vk = .int .i64 (k : Int) ∧ k ≤ names.length ∧ Hid (Below w0.heap.size w0 wq) ∧ Hid (asks B names k sp nm = N)) (fun _ vk _ => names.length - (intOf vk).toNat)
        case atStart => exact ⟨false, 0, rfl, rfl, Nat.zero_le _, BR, HA⟩
        case round =>
          obtain ⟨B, k, rfl, rfl, hk, BQ, HAS⟩ := hrel
          by_cases hkl : k < names.length
          · have hkl2 : (k : Int) < names.length := by omega
            obtain ⟨nb, no, hna, hnc⟩ : ∃ nb no, a2 = some ⟨nb, no, none⟩ ∧ ∀ W', Below w0.heap.size w0 W' → W'.cell? ⟨nb, no + k, none⟩ = some (.string ⟨(names[k]).toArray⟩) := by
              rcases HW.out with ⟨rfl, _⟩ | ⟨nb, no, cap, e, h⟩
              · exact absurd hkl (by simp)
              · simp only [Value.slice.injEq] at e
                exact ⟨nb, no, e.1, fun W' hB => by rw [hB.cell (cell_lt (h k hkl))]; exact h k hkl⟩
            subst hna
            have HNC := hide hnc
            have DD := hide BQ.out.drew
            cases B with
            | true =>
              have HAS2 : Hid (asks true names (k + 1) sp nm = N) := hide (by rw [← HAS.out]; rfl)
              clear HAS HNC hnc hkl
              go_wp2_with fail
              go_region
              all_goals (try go_wp2)
              all_goals go_roundw
              case rel => exact ⟨true, k + 1, rfl, by go_num, by omega, DD, HAS2⟩
              case measure => simp [intOf]; omega
            | false =>
              obtain ⟨c0, c1, c2⟩ := HCC.out _ BQ.out
              have cn := HNC.out _ BQ.out
              by_cases hs : sp = 0
              · subst hs
                have he : (nm.toList == (⟨(names[k]).toArray⟩ : ByteArray).toList) = (nm.data.toList == names[k]) := by rw [Lib.toList_data, Lib.toList_data, str_data]
                have hh := asks_hit names k hkl nm
                have hm := asks_miss names k hkl nm
                generalize (nm.data.toList == names[k]) = X at *
                generalize (⟨(names[k]).toArray⟩ : ByteArray) = y at *
                cases X with
                | true =>
                  have HAS2 : Hid (asks true names (k + 1) 0 nm = N) := hide (by rw [← HAS.out, hh rfl])
                  have HSC : Hid (∀ W', Below w0.heap.size w0 W' → (fun W' => W'.cell? ⟨b, o + i * 3, none⟩ = some (.int .i64 id) ∧ W'.cell? ⟨b, o + i * 3 + 1, none⟩ = some (.int .i64 0) ∧ W'.cell? ⟨b, o + i * 3 + 2, none⟩ = some (.string nm) ∧ W'.cell? ⟨nb, no + k, none⟩ = some (.string y)) W') := hide fun W' h => ⟨(HCC.out W' h).1, (HCC.out W' h).2.1, (HCC.out W' h).2.2, HNC.out W' h⟩
                  clear HAS hkl hnc hh hm
                  go_wp2_with fail
                  go_region_held2 (fun W' => W'.cell? ⟨b, o + i * 3, none⟩ = some (.int .i64 id) ∧ W'.cell? ⟨b, o + i * 3 + 1, none⟩ = some (.int .i64 0) ∧ W'.cell? ⟨b, o + i * 3 + 2, none⟩ = some (.string nm) ∧ W'.cell? ⟨nb, no + k, none⟩ = some (.string y)) (with_reducible exact HSC.out _ DD.out) (fail)
                  go_wp2
                  go_roundw
                  case rel => exact ⟨true, k + 1, rfl, by go_num, by omega, DD, HAS2⟩
                  case measure => simp [intOf]; omega
                | false =>
                  have HAS2 : Hid (asks false names (k + 1) 0 nm = N) := hide (by rw [← HAS.out, hm rfl])
                  have HSC : Hid (∀ W', Below w0.heap.size w0 W' → (fun W' => W'.cell? ⟨b, o + i * 3, none⟩ = some (.int .i64 id) ∧ W'.cell? ⟨b, o + i * 3 + 1, none⟩ = some (.int .i64 0) ∧ W'.cell? ⟨b, o + i * 3 + 2, none⟩ = some (.string nm) ∧ W'.cell? ⟨nb, no + k, none⟩ = some (.string y)) W') := hide fun W' h => ⟨(HCC.out W' h).1, (HCC.out W' h).2.1, (HCC.out W' h).2.2, HNC.out W' h⟩
                  clear HAS hkl hnc hh hm
                  go_wp2_with fail
                  go_region_held2 (fun W' => W'.cell? ⟨b, o + i * 3, none⟩ = some (.int .i64 id) ∧ W'.cell? ⟨b, o + i * 3 + 1, none⟩ = some (.int .i64 0) ∧ W'.cell? ⟨b, o + i * 3 + 2, none⟩ = some (.string nm) ∧ W'.cell? ⟨nb, no + k, none⟩ = some (.string y)) (with_reducible exact HSC.out _ DD.out) (fail)
                  go_wp2
                  go_roundw
                  case rel => exact ⟨false, k + 1, rfl, by go_num, by omega, DD, HAS2⟩
                  case measure => simp [intOf]; omega
              · have hs2 := ne_int sp 0 hs
                have HAS2 : Hid (asks false names (k + 1) sp nm = N) := hide (by rw [← HAS.out, asks_other names k sp hs2])
                clear HAS HNC hnc cn hkl hs c0 c2
                go_wp2_with fail
                go_region
                all_goals (try go_wp2)
                all_goals go_roundw
                case rel => exact ⟨false, k + 1, rfl, by go_num, by omega, DD, HAS2⟩
                case measure => simp [intOf]; omega
          · have hkl2 : ¬ (k : Int) < names.length := by omega
            obtain rfl : B = N := by rw [← HAS.out, asks_end B names k (by omega)]
            clear HAS hkl
            cases hB : B with
            | true =>
              have hE : (i : Int) = Z := by
                have := HNN.out
                rw [hB] at this
                simpa using this.symm
              have hE2 : ((i : Int) == Z) = true := beq_iff_eq.2 hE
              clear HNN HA hE
              subst hB
              go_wp2
              go_roundw
              case rel => exact ⟨(i : Int) + 1, by go_num, by omega, by omega, BQ⟩
              case measure => simp [intOf]; omega
            | false =>
              have hE2 : ((i : Int) == Z) = false := by rw [← HNN.out, hB]
              clear HNN HA
              subst hB
              go_wp2
              go_roundw
              case rel => exact ⟨(i : Int) + 1, by go_num, by omega, by omega, BQ⟩
              case measure => simp [intOf]; omega
    · have hge : ¬ (M < 0) := by omega
      have hge2 : ¬ ((l.length : Int) < M) := by omega
      go_wp2_with fail
      refine (H3.out _ BR.out).mono ?_
      rintro e w3 ⟨rfl, b3⟩
      have B3 := hide (BR.out.trans (b3.mono BR.out.size))
      clear b3 H3 BR
      go_wp2_with fail
      go_loopw [12] (fun i wr => ∃ z : Int, i = .int .i64 z ∧ M - 1 ≤ z ∧ z ≤ l.length ∧ Hid (Below w0.heap.size w0 wr)) (fun i _ => ((l.length : Int) - intOf i).toNat)
      case atStart => exact ⟨M - 1, by go_num, by omega, by omega, B3⟩
      case round =>
        obtain ⟨y, rfl, hy1, hy2, BQ⟩ := hrel
        by_cases hylt : y < l.length
        · by_cases hy0 : y < 0
          · go_wp2
            go_roundw
            case rel => exact ⟨y + 1, by go_num, by omega, by omega, BQ⟩
            case measure => simp [intOf]; omega
          · obtain ⟨i, rfl⟩ : ∃ i : Nat, y = (i : Int) := ⟨y.toNat, by omega⟩
            have hi : i < l.length := by omega
            have hG := HIMP.out i hi (by omega)
            have hgo : goesL ex l[i] = (l[i].sp == 0 && isL 8 l[i].nm.data.toList && !(l[i].nm.data.toList == ex.data.toList)) := rfl
            rw [hG] at hgo
            have he : (l[i].nm.toList == ex.toList) = (l[i].nm.data.toList == ex.data.toList) := by rw [Lib.toList_data, Lib.toList_data]
            have HI := hide (H4.out l[i].nm)
            obtain ⟨b, o, ha, c0, c1, c2⟩ := (HO.out.below BQ.out).get i hi
            subst ha
            generalize isL 8 l[i].nm.data.toList = S at *
            generalize (l[i].nm.data.toList == ex.data.toList) = X at *
            generalize l[i].id = id at *
            generalize l[i].sp = sp at *
            generalize l[i].nm = nm at *
            have HGO := hide hgo
            clear hgo hG hi hy0
            have hy00 : (0 : Int) ≤ (i : Int) := by omega
            by_cases hs : sp = 0
            · subst hs
              cases X with
              | true =>
                have hMi : ¬ (M ≤ (i : Int)) := by
                  have := HGO.out
                  rw [Bool.not_true, Bool.and_false] at this
                  exact of_decide_eq_false this
                clear HGO
                go_wp2
                go_roundw
                case rel => exact ⟨(i : Int) + 1, by go_num, by omega, by omega, BQ⟩
                case measure => simp [intOf]; omega
              | false =>
                have hMi : decide (M ≤ (i : Int)) = S := by
                  have := HGO.out
                  simpa using this
                clear HGO
                cases S with
                | true =>
                  have hMi2 : M ≤ (i : Int) := of_decide_eq_true hMi
                  clear hMi
                  go_wp2_with fail
                  refine (HI.out _).mono ?_
                  rintro e w4 ⟨rfl, b4⟩
                  have B4 := hide (BQ.out.trans (b4.mono BQ.out.size))
                  clear b4 c0 c1 c2
                  go_wp2
                  go_roundw
                  case rel => exact ⟨(i : Int) + 1, by go_num, by omega, by omega, B4⟩
                  case measure => simp [intOf]; omega
                | false =>
                  have hMi2 : ¬ (M ≤ (i : Int)) := of_decide_eq_false hMi
                  clear hMi
                  go_wp2_with fail
                  refine (HI.out _).mono ?_
                  rintro e w4 ⟨rfl, b4⟩
                  have B4 := hide (BQ.out.trans (b4.mono BQ.out.size))
                  clear b4 c0 c1 c2
                  go_wp2
                  go_roundw
                  case rel => exact ⟨(i : Int) + 1, by go_num, by omega, by omega, B4⟩
                  case measure => simp [intOf]; omega
            · have hs2 := ne_int sp 0 hs
              have hMi : ¬ (M ≤ (i : Int)) := by
                have := HGO.out
                rw [hs2, Bool.false_and, Bool.false_and] at this
                exact of_decide_eq_false this
              clear HGO hs
              go_wp2
              go_roundw
              case rel => exact ⟨(i : Int) + 1, by go_num, by omega, by omega, BQ⟩
              case measure => simp [intOf]; omega
        · have hyl : ¬ (y < l.length) := hylt
          go_wp2_with fail
          refine (H1.out _).mono ?_
          rintro e w4 ⟨rfl, b4⟩
          go_wp2
          go_ret
          exact ⟨rfl, BQ.out.trans (b4.mono BQ.out.size)⟩
set_option maxHeartbeats 1000000 in
theorem opensLeft_walk (l : List OV) (names : List (List UInt8)) (ex : ByteArray) (v u : Value) (w : World) (hO : IsO w v l) (hW : IsW w u names) :
    Calls Try.prog 7 #[v, u, .string ex] w fun e w' => e = .returned (.bool true) ∧ Below w.heap.size w w' := by
  by_cases hl : l.length ≤ 60 ∧ names.length ≤ 60
  · have hle := left_le ex l l.length
    obtain ⟨g1, g2⟩ := left_goes ex l l.length (Nat.le_refl _)
    refine left_walk l names ex hl _ _ v u w hO hW rfl rfl (place_range (namedL names) l) ⟨by unfold impliedZ; omega, by unfold impliedZ; omega⟩ ?_ ?_
    · intro i hi hz
      unfold cutZ at hz ⊢
      cases hV : lastO (namedL names) l l.length with
      | none =>
        rw [last_none _ l _ (Nat.le_refl _) hV i hi hi]
        exact (beq_eq_false_iff_ne.2 (by simp [placeZ])).symm
      | some j =>
        obtain ⟨h1, h2, h3⟩ := last_some _ l _ j (Nat.le_refl _) hV
        rw [hV] at hz
        simp only [placeZ] at hz ⊢
        by_cases e : i = j
        · subst e
          rw [h2 hi]; simp
        · rw [h3 i hi (by omega) hi]
          exact (beq_eq_false_iff_ne.2 (by omega)).symm
    · intro i hi hm
      unfold impliedZ at hm ⊢
      by_cases e : leftO ex l l.length ≤ i
      · rw [g1 i hi e hi, decide_eq_true (by omega)]
      · rw [g2 i hi (by omega), decide_eq_false (by omega)]
  · have H1 := hide alive_any
    obtain ⟨a, c, rfl⟩ := isO_form hO
    obtain ⟨a2, c2, rfl⟩ := isW_form hW
    have HS := hide (small_any a a2 l.length names.length c c2)
    rw [not_small l names hl] at HS
    clear hO hW hl
    go_enter Try.func7, Try.ntmps7
    go_wp2_with fail
    refine (HS.out _).mono ?_
    rintro e w0 ⟨rfl, rfl⟩
    go_wp2_with fail
    refine (H1.out _).mono ?_
    rintro e w1 ⟨rfl, b1⟩
    go_wp2
    go_ret
    exact ⟨rfl, b1⟩
end Go.Proofs.Ytfknhpkpenhflaa
