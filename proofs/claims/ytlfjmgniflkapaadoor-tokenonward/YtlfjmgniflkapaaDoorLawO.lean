/- What TokenOnward answers: true; nothing that was there is written. -/
import Derived.Test.YtlfjmgniflkapaaDoorAlive4
import Derived.Test.YtlfjmgniflkapaaDoorFew
set_option linter.unusedVariables false
set_option linter.unusedSimpArgs false
namespace Go.Proofs.YtlfjmgniflkapaaDoor
open Go.RowKit

set_option maxHeartbeats 2000000 in
theorem onward_long (s n : ByteArray) (z m : Int) (f : Bool) (w : World) (he : Env w) (h : 200 < s.size ∨ 200 < n.size) :
    Calls Tryd.prog 4 #[.string s, .agg #[.int .i64 z, .int .i64 m, .string n, .bool f]] w fun e w' => e = .returned (.bool true) ∧ Below w.heap.size w w' := by
  have H1 := hide alive_any
  have HE := hide (he.alloc (.cells #[.int .i64 z, .int .i64 m, .string n, .bool f] 29))
  have HB := hide (below_alloc w (.cells #[.int .i64 z, .int .i64 m, .string n, .bool f] 29))
  clear he
  by_cases hs : 200 < s.size
  · have hs2 : (200 : Int) < s.size := by omega
    clear h
    go_enter Tryd.func4, Tryd.ntmps4
    go_wp2_with fail
    refine (H1.out _ HE.out).mono ?_
    rintro e w1 ⟨rfl, b1⟩
    go_wp2
    go_ret
    exact ⟨rfl, HB.out.trans (b1.mono HB.out.size)⟩
  · have hs2 : ¬ (200 : Int) < s.size := by omega
    have hn2 : (200 : Int) < n.size := by rcases h with h | h <;> omega
    clear h
    go_enter Tryd.func4, Tryd.ntmps4
    go_wp2_with fail
    refine (H1.out _ HE.out).mono ?_
    rintro e w1 ⟨rfl, b1⟩
    go_wp2
    go_ret
    exact ⟨rfl, HB.out.trans (b1.mono HB.out.size)⟩

set_option maxHeartbeats 2000000 in
theorem onward_out (s n : ByteArray) (z m : Int) (f : Bool) (w : World) (he : Env w) (hs : s.size ≤ 200) (hn : n.size ≤ 200) (hz : z < 0 ∨ (s.size : Int) ≤ z) :
    Calls Tryd.prog 4 #[.string s, .agg #[.int .i64 z, .int .i64 m, .string n, .bool f]] w fun e w' => e = .returned (.bool true) ∧ Below w.heap.size w w' := by
  have H1 := hide alive_any
  have HE := hide (he.alloc (.cells #[.int .i64 z, .int .i64 m, .string n, .bool f] 29))
  have HB := hide (below_alloc w (.cells #[.int .i64 z, .int .i64 m, .string n, .bool f] 29))
  have HN := hide (fun w => pnext_out s n z m f hz w)
  have KO := hide (Kept.new w [.int .i64 z, .int .i64 m, .string n, .bool f] 29)
  have hs2 : ¬ (200 : Int) < s.size := by omega
  have hn2 : ¬ (200 : Int) < n.size := by omega
  clear he
  by_cases h0 : z < 0
  all_goals
    try have h1 : (s.size : Int) ≤ z := hz.resolve_left h0
    clear hz
    go_enter Tryd.func4, Tryd.ntmps4
    go_wp2_with fail
    refine (HN.out _).mono ?_
    rintro e w1 ⟨⟨sv, hA, hob, rfl⟩, b1⟩
    obtain ⟨sa, sc, rfl⟩ := isA_form hA
    have bA := below_alloc w1 (.cells #[.int .i64 0, .string ⟨#[]⟩, .slice sa ([] : AttrL).length sc, .bool false, .string ⟨#[]⟩] 32)
    have KO2 := hide (((KO.out.below b1)).below bA)
    have KT := hide (Kept.new w1 [.int .i64 0, .string ⟨#[]⟩, .slice sa ([] : AttrL).length sc, .bool false, .string ⟨#[]⟩] 32)
    have B1 := hide ((HB.out.trans (b1.mono HB.out.size)).trans (bA.mono (HB.out.trans (b1.mono HB.out.size)).size))
    have E1 := hide ((HE.out.below b1).below bA)
    have o0 := (KO.out.below b1).1
    have hzw : w.heap.size < w1.heap.size := (KO.out.below b1).lt
    have p0 : w1.cell? ⟨w.heap.size, 0, none⟩ = some (.int .i64 z) := o0 0
    clear hA hob b1 bA KO HE HB HN o0
    unfold tokV
    go_wp2_with fail
    refine (H1.out _ E1.out).mono ?_
    rintro e w2 ⟨rfl, b2⟩
    have KT2 := hide (KT.out.below b2)
    have B2 := hide (B1.out.trans (b2.mono B1.out.size))
    clear b2 KT B1 KO2 E1 p0
    generalize w1.heap.size = G at *
    have g0 : w2.cell? ⟨G, 0, none⟩ = some (.int .i64 0) := KT2.out.1 0
    go_wp2
    go_ret
    exact ⟨rfl, B2.out⟩

set_option maxHeartbeats 4000000 in
theorem onward_text (s n : ByteArray) (p : Nat) (m : Int) (f : Bool) (w : World) (he : Env w) (hs : s.size ≤ 200) (hn : n.size ≤ 200) (hp : p < s.size) (hK : (nextR m n.data.toList f (s.data.toList.drop p)).1.kind = 1) :
    Calls Tryd.prog 4 #[.string s, .agg #[.int .i64 (p : Int), .int .i64 m, .string n, .bool f]] w fun e w' => e = .returned (.bool true) ∧ Below w.heap.size w w' := by
  have H1 := hide alive_any
  have HE := hide (he.alloc (.cells #[.int .i64 (p : Int), .int .i64 m, .string n, .bool f] 29))
  have HB := hide (below_alloc w (.cells #[.int .i64 (p : Int), .int .i64 m, .string n, .bool f] 29))
  have HN := hide (fun w he => pnext_in s n (by omega) (by omega) p hp m f w he)
  have KO := hide (Kept.new w [.int .i64 (p : Int), .int .i64 m, .string n, .bool f] 29)
  have hs2 : ¬ (200 : Int) < s.size := by omega
  have hn2 : ¬ (200 : Int) < n.size := by omega
  have hp0 : ¬ (p : Int) < 0 := by omega
  have hp1 : ¬ (s.size : Int) ≤ p := by omega
  have hG := next_good m n.data.toList f (s.data.toList.drop p) (by rw [drop_cons s p hp]; simp)
  have hl := hG.short
  have hfw := nextR_few m n.data.toList f (s.data.toList.drop p)
  rw [List.length_drop, ← size_list] at hl hfw
  clear he
  generalize nextR m n.data.toList f (s.data.toList.drop p) = R at *
  obtain ⟨⟨kd, nm, aa, cl, tx⟩, V⟩ := R
  simp only at hK
  have g1 := hG.none
  have g2 := hG.text
  have g3 := hG.name
  have g4 := hG.once
  have g5 := hG.bare
  simp only at g1 g2 g3 g4 g5 hl hfw
  clear hG
  subst hK
  obtain ⟨rfl, rfl⟩ := g5 (by decide)
  have g2' := g2 rfl
  have htx0 : (⟨tx.toArray⟩ : ByteArray).toList.isEmpty = false := by
    rw [Lib.toList_data, str_data]
    cases tx with
    | nil => exact absurd rfl g2'
    | cons c q => rfl
  clear g1 g2 g3 g4 g5 g2'
  have hq1 : ¬ ((s.size - V.length : Nat) : Int) ≤ p := by omega
  have hq2 : ¬ ((s.size : Int) < ((s.size - V.length : Nat) : Int)) := by omega
  have hqn : True := trivial
  generalize s.size - V.length = N at *
  go_enter Tryd.func4, Tryd.ntmps4
  go_wp2_with fail
  refine (HN.out _ HE.out).mono ?_
  rintro e w1 ⟨⟨sv, hA, hob, rfl⟩, b1⟩
  obtain ⟨sa, sc, rfl⟩ := isA_form hA
  unfold tokV
  simp only
  simp only at hA hob
  generalize hnm : (⟨nm.toArray⟩ : ByteArray) = x1 at *
  generalize htx : (⟨tx.toArray⟩ : ByteArray) = x2 at *
  clear hnm htx
  have bA := below_alloc w1 (.cells #[.int .i64 1, .string x1, .slice sa 0 sc, .bool false, .string x2] 32)
  have KT := hide (Kept.new w1 [.int .i64 1, .string x1, .slice sa 0 sc, .bool false, .string x2] 32)
  have HA := hide (hA.below bA)
  have B1 := hide ((HB.out.trans (b1.mono HB.out.size)).trans (bA.mono (HB.out.trans (b1.mono HB.out.size)).size))
  have E1 := hide ((HE.out.below b1).below bA)
  have hzw : w.heap.size < w1.heap.size := (KO.out.below b1).lt
  have p0 : w1.cell? ⟨w.heap.size, 0, none⟩ = some (.int .i64 (p : Int)) := (KO.out.below b1).1 0
  clear hA hob b1 bA KO HE HB HN
  go_wp2
  go_loop [7] (fun ti => ti = .int .i64 0) (fun _ => 0)
  case atStart => rfl
  case round =>
    subst hrel
    go_wp2_with fail
    refine (H1.out _ E1.out).mono ?_
    rintro e w2 ⟨rfl, b2⟩
    have KT2 := hide (KT.out.below b2)
    have B2 := hide (B1.out.trans (b2.mono B1.out.size))
    clear b2 KT B1 E1 p0 HA
    generalize w1.heap.size = G at *
    have c0 : w2.cell? ⟨G, 0, none⟩ = some (.int .i64 1) := KT2.out.1 0
    have c2 : w2.cell? ⟨G, 2, none⟩ = some (.slice sa 0 sc) := KT2.out.1 2
    have c3 : w2.cell? ⟨G, 3, none⟩ = some (.bool false) := KT2.out.1 3
    go_wp2
    go_ret
    exact ⟨rfl, B2.out⟩

set_option maxHeartbeats 4000000 in
theorem onward_none (s n : ByteArray) (p : Nat) (m : Int) (f : Bool) (w : World) (he : Env w) (hs : s.size ≤ 200) (hn : n.size ≤ 200) (hp : p < s.size) (hK : (nextR m n.data.toList f (s.data.toList.drop p)).1.kind = 0) :
    Calls Tryd.prog 4 #[.string s, .agg #[.int .i64 (p : Int), .int .i64 m, .string n, .bool f]] w fun e w' => e = .returned (.bool true) ∧ Below w.heap.size w w' := by
  have H1 := hide alive_any
  have HE := hide (he.alloc (.cells #[.int .i64 (p : Int), .int .i64 m, .string n, .bool f] 29))
  have HB := hide (below_alloc w (.cells #[.int .i64 (p : Int), .int .i64 m, .string n, .bool f] 29))
  have HN := hide (fun w he => pnext_in s n (by omega) (by omega) p hp m f w he)
  have KO := hide (Kept.new w [.int .i64 (p : Int), .int .i64 m, .string n, .bool f] 29)
  have hs2 : ¬ (200 : Int) < s.size := by omega
  have hn2 : ¬ (200 : Int) < n.size := by omega
  have hp0 : ¬ (p : Int) < 0 := by omega
  have hp1 : ¬ (s.size : Int) ≤ p := by omega
  have hG := next_good m n.data.toList f (s.data.toList.drop p) (by rw [drop_cons s p hp]; simp)
  have hl := hG.short
  have hfw := nextR_few m n.data.toList f (s.data.toList.drop p)
  rw [List.length_drop, ← size_list] at hl hfw
  clear he
  generalize nextR m n.data.toList f (s.data.toList.drop p) = R at *
  obtain ⟨⟨kd, nm, aa, cl, tx⟩, V⟩ := R
  simp only at hK
  have g1 := hG.none
  have g2 := hG.text
  have g3 := hG.name
  have g4 := hG.once
  have g5 := hG.bare
  simp only at g1 g2 g3 g4 g5 hl hfw
  clear hG
  subst hK
  obtain ⟨rfl, rfl⟩ := g5 (by decide)
  have hV0 : V.length = 0 := by rw [g1 rfl]; rfl
  clear g1 g2 g3 g4 g5
  have hq1 : ¬ ((s.size - V.length : Nat) : Int) ≤ p := by omega
  have hq2 : ¬ ((s.size : Int) < ((s.size - V.length : Nat) : Int)) := by omega
  have hqn : ((s.size - V.length : Nat) : Int) = (s.size : Int) := by omega
  generalize s.size - V.length = N at *
  go_enter Tryd.func4, Tryd.ntmps4
  go_wp2_with fail
  refine (HN.out _ HE.out).mono ?_
  rintro e w1 ⟨⟨sv, hA, hob, rfl⟩, b1⟩
  obtain ⟨sa, sc, rfl⟩ := isA_form hA
  unfold tokV
  simp only
  simp only at hA hob
  generalize hnm : (⟨nm.toArray⟩ : ByteArray) = x1 at *
  generalize htx : (⟨tx.toArray⟩ : ByteArray) = x2 at *
  clear hnm htx
  have bA := below_alloc w1 (.cells #[.int .i64 0, .string x1, .slice sa 0 sc, .bool false, .string x2] 32)
  have KT := hide (Kept.new w1 [.int .i64 0, .string x1, .slice sa 0 sc, .bool false, .string x2] 32)
  have HA := hide (hA.below bA)
  have B1 := hide ((HB.out.trans (b1.mono HB.out.size)).trans (bA.mono (HB.out.trans (b1.mono HB.out.size)).size))
  have E1 := hide ((HE.out.below b1).below bA)
  have hzw : w.heap.size < w1.heap.size := (KO.out.below b1).lt
  have p0 : w1.cell? ⟨w.heap.size, 0, none⟩ = some (.int .i64 (p : Int)) := (KO.out.below b1).1 0
  clear hA hob b1 bA KO HE HB HN
  go_wp2
  go_loop [7] (fun ti => ti = .int .i64 0) (fun _ => 0)
  case atStart => rfl
  case round =>
    subst hrel
    go_wp2_with fail
    refine (H1.out _ E1.out).mono ?_
    rintro e w2 ⟨rfl, b2⟩
    have KT2 := hide (KT.out.below b2)
    have B2 := hide (B1.out.trans (b2.mono B1.out.size))
    clear b2 KT B1 E1 p0 HA
    generalize w1.heap.size = G at *
    have c0 : w2.cell? ⟨G, 0, none⟩ = some (.int .i64 0) := KT2.out.1 0
    have c2 : w2.cell? ⟨G, 2, none⟩ = some (.slice sa 0 sc) := KT2.out.1 2
    have c3 : w2.cell? ⟨G, 3, none⟩ = some (.bool false) := KT2.out.1 3
    go_wp2
    go_ret
    exact ⟨rfl, B2.out⟩

set_option maxHeartbeats 4000000 in
theorem onward_else (s n : ByteArray) (p : Nat) (m : Int) (f : Bool) (w : World) (he : Env w) (hs : s.size ≤ 200) (hn : n.size ≤ 200) (hp : p < s.size) (hK : (nextR m n.data.toList f (s.data.toList.drop p)).1.kind ≠ 0 ∧ (nextR m n.data.toList f (s.data.toList.drop p)).1.kind ≠ 1 ∧ (nextR m n.data.toList f (s.data.toList.drop p)).1.kind ≠ 2) :
    Calls Tryd.prog 4 #[.string s, .agg #[.int .i64 (p : Int), .int .i64 m, .string n, .bool f]] w fun e w' => e = .returned (.bool true) ∧ Below w.heap.size w w' := by
  have H1 := hide alive_any
  have HE := hide (he.alloc (.cells #[.int .i64 (p : Int), .int .i64 m, .string n, .bool f] 29))
  have HB := hide (below_alloc w (.cells #[.int .i64 (p : Int), .int .i64 m, .string n, .bool f] 29))
  have HN := hide (fun w he => pnext_in s n (by omega) (by omega) p hp m f w he)
  have KO := hide (Kept.new w [.int .i64 (p : Int), .int .i64 m, .string n, .bool f] 29)
  have hs2 : ¬ (200 : Int) < s.size := by omega
  have hn2 : ¬ (200 : Int) < n.size := by omega
  have hp0 : ¬ (p : Int) < 0 := by omega
  have hp1 : ¬ (s.size : Int) ≤ p := by omega
  have hG := next_good m n.data.toList f (s.data.toList.drop p) (by rw [drop_cons s p hp]; simp)
  have hl := hG.short
  have hfw := nextR_few m n.data.toList f (s.data.toList.drop p)
  rw [List.length_drop, ← size_list] at hl hfw
  clear he
  generalize nextR m n.data.toList f (s.data.toList.drop p) = R at *
  obtain ⟨⟨kd, nm, aa, cl, tx⟩, V⟩ := R
  simp only at hK
  have g1 := hG.none
  have g2 := hG.text
  have g3 := hG.name
  have g4 := hG.once
  have g5 := hG.bare
  simp only at g1 g2 g3 g4 g5 hl hfw
  clear hG
  obtain ⟨k0, k1, k2⟩ := hK
  obtain ⟨rfl, rfl⟩ := g5 k2
  have e0 := ne_lit kd 0 (by omega)
  have e1 := ne_lit kd 1 (by omega)
  have e2 := ne_lit kd 2 (by omega)
  clear g1 g2 g3 g4 g5 k0 k1 k2
  have hq1 : ¬ ((s.size - V.length : Nat) : Int) ≤ p := by omega
  have hq2 : ¬ ((s.size : Int) < ((s.size - V.length : Nat) : Int)) := by omega
  have hqn : True := trivial
  generalize s.size - V.length = N at *
  go_enter Tryd.func4, Tryd.ntmps4
  go_wp2_with fail
  refine (HN.out _ HE.out).mono ?_
  rintro e w1 ⟨⟨sv, hA, hob, rfl⟩, b1⟩
  obtain ⟨sa, sc, rfl⟩ := isA_form hA
  unfold tokV
  simp only
  simp only at hA hob
  generalize hnm : (⟨nm.toArray⟩ : ByteArray) = x1 at *
  generalize htx : (⟨tx.toArray⟩ : ByteArray) = x2 at *
  clear hnm htx
  have bA := below_alloc w1 (.cells #[.int .i64 (kd : Int), .string x1, .slice sa 0 sc, .bool false, .string x2] 32)
  have KT := hide (Kept.new w1 [.int .i64 (kd : Int), .string x1, .slice sa 0 sc, .bool false, .string x2] 32)
  have HA := hide (hA.below bA)
  have B1 := hide ((HB.out.trans (b1.mono HB.out.size)).trans (bA.mono (HB.out.trans (b1.mono HB.out.size)).size))
  have E1 := hide ((HE.out.below b1).below bA)
  have hzw : w.heap.size < w1.heap.size := (KO.out.below b1).lt
  have p0 : w1.cell? ⟨w.heap.size, 0, none⟩ = some (.int .i64 (p : Int)) := (KO.out.below b1).1 0
  clear hA hob b1 bA KO HE HB HN
  go_wp2
  go_loop [7] (fun ti => ti = .int .i64 0) (fun _ => 0)
  case atStart => rfl
  case round =>
    subst hrel
    go_wp2_with fail
    refine (H1.out _ E1.out).mono ?_
    rintro e w2 ⟨rfl, b2⟩
    have KT2 := hide (KT.out.below b2)
    have B2 := hide (B1.out.trans (b2.mono B1.out.size))
    clear b2 KT B1 E1 p0 HA
    generalize w1.heap.size = G at *
    have c0 : w2.cell? ⟨G, 0, none⟩ = some (.int .i64 (kd : Int)) := KT2.out.1 0
    have c2 : w2.cell? ⟨G, 2, none⟩ = some (.slice sa 0 sc) := KT2.out.1 2
    have c3 : w2.cell? ⟨G, 3, none⟩ = some (.bool false) := KT2.out.1 3
    go_wp2
    go_ret
    exact ⟨rfl, B2.out⟩

set_option maxHeartbeats 4000000 in
theorem onward_start (s n : ByteArray) (p : Nat) (m : Int) (f : Bool) (w : World) (he : Env w) (hs : s.size ≤ 200) (hn : n.size ≤ 200) (hp : p < s.size) (hK : (nextR m n.data.toList f (s.data.toList.drop p)).1.kind = 2) :
    Calls Tryd.prog 4 #[.string s, .agg #[.int .i64 (p : Int), .int .i64 m, .string n, .bool f]] w fun e w' => e = .returned (.bool true) ∧ Below w.heap.size w w' := by
  have H1 := hide alive_any
  have HE := hide (he.alloc (.cells #[.int .i64 (p : Int), .int .i64 m, .string n, .bool f] 29))
  have HB := hide (below_alloc w (.cells #[.int .i64 (p : Int), .int .i64 m, .string n, .bool f] 29))
  have HN := hide (fun w he => pnext_in s n (by omega) (by omega) p hp m f w he)
  have KO := hide (Kept.new w [.int .i64 (p : Int), .int .i64 m, .string n, .bool f] 29)
  have hs2 : ¬ (200 : Int) < s.size := by omega
  have hn2 : ¬ (200 : Int) < n.size := by omega
  have hp0 : ¬ (p : Int) < 0 := by omega
  have hp1 : ¬ (s.size : Int) ≤ p := by omega
  have hG := next_good m n.data.toList f (s.data.toList.drop p) (by rw [drop_cons s p hp]; simp)
  have hl := hG.short
  have hfw := nextR_few m n.data.toList f (s.data.toList.drop p)
  rw [List.length_drop, ← size_list] at hl hfw
  clear he
  generalize nextR m n.data.toList f (s.data.toList.drop p) = R at *
  obtain ⟨⟨kd, nm, aa, cl, tx⟩, V⟩ := R
  simp only at hK
  have g1 := hG.none
  have g2 := hG.text
  have g3 := hG.name
  have g4 := hG.once
  have g5 := hG.bare
  simp only at g1 g2 g3 g4 g5 hl hfw
  clear hG
  subst hK
  obtain ⟨c, q, rfl, hc⟩ := g3 rfl
  have hc1 : 97 ≤ c.toNat ∧ c.toNat ≤ 122 := by
    unfold smallC at hc
    simpa using hc
  have hnm0 : (⟨(c :: q).toArray⟩ : ByteArray).toList.isEmpty = false := by rw [Lib.toList_data, str_data]; rfl
  have hix : ∀ w, (Instr.index 9 (.string ⟨(c :: q).toArray⟩) (.int .i64 0)).run Tryd.prog w = .ok (.int .u8 (c.toNat : Int)) w := fun w => by
    have h := run_index_at ⟨(c :: q).toArray⟩ 0 0 rfl (by rw [size_list, str_data]; simp) w
    exact h
  have d1 : ¬ (c.toNat : Int) < 97 := by omega
  have d2 : ¬ (122 : Int) < (c.toNat : Int) := by omega
  have HND := hide g4
  clear g1 g2 g3 g4 g5 hc hc1
  have hq1 : ¬ ((s.size - V.length : Nat) : Int) ≤ p := by omega
  have hq2 : ¬ ((s.size : Int) < ((s.size - V.length : Nat) : Int)) := by omega
  have hqn : True := trivial
  generalize s.size - V.length = N at *
  go_enter Tryd.func4, Tryd.ntmps4
  go_wp2_with fail
  refine (HN.out _ HE.out).mono ?_
  rintro e w1 ⟨⟨sv, hA, hob, rfl⟩, b1⟩
  obtain ⟨sa, sc, rfl⟩ := isA_form hA
  unfold tokV
  simp only
  simp only at hA hob
  generalize hnm : (⟨(c :: q).toArray⟩ : ByteArray) = x1 at *
  generalize htx : (⟨tx.toArray⟩ : ByteArray) = x2 at *
  clear hnm htx
  have bA := below_alloc w1 (.cells #[.int .i64 2, .string x1, .slice sa aa.length sc, .bool cl, .string x2] 32)
  have KT := hide (Kept.new w1 [.int .i64 2, .string x1, .slice sa aa.length sc, .bool cl, .string x2] 32)
  have HA := hide (hA.below bA)
  have B1 := hide ((HB.out.trans (b1.mono HB.out.size)).trans (bA.mono (HB.out.trans (b1.mono HB.out.size)).size))
  have E1 := hide ((HE.out.below b1).below bA)
  have hzw : w.heap.size < w1.heap.size := (KO.out.below b1).lt
  have p0 : w1.cell? ⟨w.heap.size, 0, none⟩ = some (.int .i64 (p : Int)) := (KO.out.below b1).1 0
  clear hA hob b1 bA KO HE HB HN
  generalize c.toNat = cc at *
  have hGW : w1.heap.size < (w1.alloc (.cells #[.int .i64 2, .string x1, .slice sa aa.length sc, .bool cl, .string x2] 32)).heap.size := by simp
  go_wp2
  generalize hWT : w1.alloc (.cells #[.int .i64 2, .string x1, .slice sa aa.length sc, .bool cl, .string x2] 32) = WT at *
  clear hWT
  generalize w1.heap.size = G at *
  have t2 : WT.cell? ⟨G, 2, none⟩ = some (.slice sa aa.length sc) := KT.out.1 2
  have HCS : Hid (∀ j (hj : j < aa.length), ∃ b o, sa = some ⟨b, o, none⟩ ∧ aa.length ≤ sc ∧ ∀ i (hi : i < aa.length), WT.cell? ⟨b, o + i * 2, none⟩ = some (.string ⟨aa[i].1.toArray⟩) ∧ WT.cell? ⟨b, o + i * 2 + 1, none⟩ = some (.string ⟨aa[i].2.toArray⟩)) := by
    refine hide fun j hj => ?_
    rcases HA.out with ⟨h, h2⟩ | ⟨b, o, cap, h, h2, h3⟩
    · rw [h2] at hj
      exact absurd hj (by simp)
    · injection h with e1 e2 e3
      exact ⟨b, o, e1, by rw [e3]; exact h2, h3⟩
  have HNE : Hid (∀ i j (hi : i < aa.length) (hj : j < i), ((⟨(aa[i]).1.toArray⟩ : ByteArray).toList == (⟨(aa[j]'(by omega)).1.toArray⟩ : ByteArray).toList) = false) := by
    refine hide fun i j hi hj => ?_
    rw [Lib.toList_data, Lib.toList_data, str_data, str_data]
    refine beq_eq_false_iff_ne.2 fun e => ?_
    have h := List.pairwise_iff_getElem.1 HND.out j i (by simp [namesA]; omega) (by simp [namesA]; omega) hj
    exact h (by simp only [namesA, List.getElem_map]; exact e.symm)
  clear HA HND
  go_loopw [7] (fun ti wr => ∃ k : Nat, ti = .int .i64 (k : Int) ∧ k ≤ aa.length ∧ ∃ n, wr = WT.drewN n) (fun ti _ => aa.length - (intOf ti).toNat)
  case atStart => exact ⟨0, rfl, by omega, 0, rfl⟩
  case round =>
    obtain ⟨k, rfl, hk, n1, rfl⟩ := hrel
    by_cases hlt : k < aa.length
    · have hlt2 : (k : Int) < aa.length := by omega
      obtain ⟨b, o, rfl, hcap, hcs⟩ := HCS.out k hlt
      have HCC := hide hcs
      clear hcs
      go_wp2
      go_loopw [8] (fun tj wr => ∃ j : Nat, tj = .int .i64 (j : Int) ∧ j ≤ k ∧ ∃ n, wr = WT.drewN n) (fun tj _ => k - (intOf tj).toNat)
      case atStart => exact ⟨0, rfl, by omega, n1, rfl⟩
      case round =>
        obtain ⟨j, rfl, hj, n2, rfl⟩ := hrel
        by_cases hjk : j < k
        · have hjk2 : (j : Int) < k := by omega
          have hjl : (j : Int) < aa.length := by omega
          have ck := (HCC.out k hlt).1
          have cj := (HCC.out j (by omega)).1
          have hne := HNE.out k j hlt hjk
          generalize (⟨(aa[k]).1.toArray⟩ : ByteArray) = y1 at *
          generalize (⟨(aa[j]'(by omega)).1.toArray⟩ : ByteArray) = y2 at *
          go_wp2
          go_quiet (fail)
          go_wp2
          go_roundw
          case rel => exact ⟨j + 1, by go_num, by omega, _, rfl⟩
          case measure => simp [intOf]; omega
        · have hjk2 : ¬ (j : Int) < k := by omega
          go_wp2
          go_roundw
          case rel => exact ⟨k + 1, by go_num, by omega, n2, rfl⟩
          case measure => simp [intOf]; omega
    · have hlt2 : ¬ (k : Int) < aa.length := by omega
      go_wp2_with fail
      refine (H1.out _ (E1.out.drewN n1)).mono ?_
      rintro e w2 ⟨rfl, b2⟩
      have KT2 := hide ((KT.out.drewN n1).below b2)
      have B2 : Hid (Below w.heap.size w w2) := hide ((below_drewN B1.out n1).trans (b2.mono (below_drewN B1.out n1).size))
      clear b2 KT B1 E1 p0
      have c0 : w2.cell? ⟨G, 0, none⟩ = some (.int .i64 2) := KT2.out.1 0
      go_wp2
      go_ret
      exact ⟨rfl, B2.out⟩
theorem onward_walk (s : ByteArray) (z m : Int) (n : ByteArray) (f : Bool) (w : World) (he : Env w) :
    Calls Tryd.prog 4 #[.string s, .agg #[.int .i64 z, .int .i64 m, .string n, .bool f]] w fun e w' => e = .returned (.bool true) ∧ Below w.heap.size w w' := by
  by_cases hs : 200 < s.size ∨ 200 < n.size
  · exact onward_long s n z m f w he hs
  · by_cases hz : z < 0 ∨ (s.size : Int) ≤ z
    · exact onward_out s n z m f w he (by omega) (by omega) hz
    · obtain ⟨p, rfl⟩ : ∃ p : Nat, z = (p : Int) := ⟨z.toNat, by omega⟩
      have hp : p < s.size := by omega
      by_cases h0 : (nextR m n.data.toList f (s.data.toList.drop p)).1.kind = 0
      · exact onward_none s n p m f w he (by omega) (by omega) hp h0
      · by_cases h1 : (nextR m n.data.toList f (s.data.toList.drop p)).1.kind = 1
        · exact onward_text s n p m f w he (by omega) (by omega) hp h1
        · by_cases h2 : (nextR m n.data.toList f (s.data.toList.drop p)).1.kind = 2
          · exact onward_start s n p m f w he (by omega) (by omega) hp h2
          · exact onward_else s n p m f w he (by omega) (by omega) hp ⟨h0, h1, h2⟩
end Go.Proofs.YtlfjmgniflkapaaDoor
