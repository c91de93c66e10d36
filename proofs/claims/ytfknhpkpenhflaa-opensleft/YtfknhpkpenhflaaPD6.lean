/- What the closures and Cut, Find, Implied and Has answer, of whatever list; nothing that was there is written. -/
import Derived.Test.YtfknhpkpenhflaaPC6
set_option linter.unusedVariables false
set_option linter.unusedSimpArgs false
namespace Go.Proofs.Ytfknhpkpenhflaa
open Go.RowKit

set_option maxHeartbeats 1000000 in
theorem cutC_any (o : OV) (names : List (List UInt8)) (hl : names.length ≤ 1000000) (v : Value) (nb : Nat) (w : World) (hn : w.cell? ⟨nb, 0, none⟩ = some v) (hW : IsW w v names) :
    Calls Try.prog 35 #[.agg #[.int .i64 o.id, .int .i64 o.sp, .string o.nm], .pointer (some ⟨nb, 0, none⟩)] w fun e w' => e = .returned (.bool (namedL names o)) ∧ Below w.heap.size w w' := by
  obtain ⟨a, c, rfl⟩ := isW_form hW
  have H := hide (named_any o names hl _ (w.alloc (.cells #[.int .i64 o.id, .int .i64 o.sp, .string o.nm] 24)) (hW.below (below_alloc w _)))
  generalize namedL names o = B at *
  obtain ⟨id, sp, nm⟩ := o
  simp only [] at H
  have hn2 : (w.alloc (.cells #[.int .i64 id, .int .i64 sp, .string nm] 24)).cell? ⟨nb, 0, none⟩ = some (.slice a names.length c) := by
    rw [(below_alloc w _).cell (cell_lt hn)]; exact hn
  clear hW hn
  go_enter Try.func35, Try.ntmps35
  go_wp2_with fail
  refine H.out.mono ?_
  rintro e w1 ⟨rfl, b1⟩
  go_wp2
  go_ret
  exact ⟨rfl, box_below w _ b1⟩

set_option maxHeartbeats 1000000 in
theorem findC_any (o : OV) (id0 : Int) (nb : Nat) (w : World) (hn : w.cell? ⟨nb, 0, none⟩ = some (.int .i64 id0)) :
    Calls Try.prog 37 #[.agg #[.int .i64 o.id, .int .i64 o.sp, .string o.nm], .pointer (some ⟨nb, 0, none⟩)] w fun e w' => e = .returned (.bool (o.id == id0)) ∧ Below w.heap.size w w' := by
  obtain ⟨id, sp, nm⟩ := o
  have hn2 : (w.alloc (.cells #[.int .i64 id, .int .i64 sp, .string nm] 24)).cell? ⟨nb, 0, none⟩ = some (.int .i64 id0) := by
    rw [(below_alloc w _).cell (cell_lt hn)]; exact hn
  clear hn
  go_enter Try.func37, Try.ntmps37
  go_wp2
  go_ret
  exact ⟨rfl, below_alloc w _⟩

set_option maxHeartbeats 1000000 in
theorem impliedC_any (o : OV) (ex : ByteArray) (nb : Nat) (w : World) (hn : w.cell? ⟨nb, 0, none⟩ = some (.string ex)) :
    Calls Try.prog 36 #[.agg #[.int .i64 o.id, .int .i64 o.sp, .string o.nm], .pointer (some ⟨nb, 0, none⟩)] w fun e w' => e = .returned (.bool (staysL ex o)) ∧ Below w.heap.size w w' := by
  have H1 := hide (html_any o)
  have H2 := hide (isp_8 o.nm)
  have he : (o.nm.toList == ex.toList) = (o.nm.data.toList == ex.data.toList) := by rw [Lib.toList_data, Lib.toList_data]
  unfold staysL
  generalize isL 8 o.nm.data.toList = S at *
  generalize (o.nm.data.toList == ex.data.toList) = X at *
  generalize htmlL o = B at *
  obtain ⟨id, sp, nm⟩ := o
  simp only [] at H1 H2 he ⊢
  have HN := hide (fun (w1 : World) (b : Below (w.alloc (.cells #[.int .i64 id, .int .i64 sp, .string nm] 24)).heap.size (w.alloc (.cells #[.int .i64 id, .int .i64 sp, .string nm] 24)) w1) =>
    show w1.cell? ⟨nb, 0, none⟩ = some (.string ex) by rw [(box_below w _ b).cell (cell_lt hn)]; exact hn)
  clear hn
  cases B with
  | false =>
    go_enter Try.func36, Try.ntmps36
    go_wp2_with fail
    refine (H1.out _).mono ?_
    rintro e w1 ⟨rfl, b1⟩
    go_wp2
    go_ret
    exact ⟨rfl, box_below w _ b1⟩
  | true =>
    cases S with
    | false =>
      go_enter Try.func36, Try.ntmps36
      go_wp2_with fail
      refine (H1.out _).mono ?_
      rintro e w1 ⟨rfl, b1⟩
      obtain ⟨c0, c1, c2⟩ := box_cells w id sp nm b1
      have bb := box_below w _ b1
      clear b1
      go_wp2_with fail
      refine (H2.out _).mono ?_
      rintro e w2 ⟨rfl, b2⟩
      go_wp2
      go_ret
      exact ⟨rfl, bb.trans (b2.mono bb.size)⟩
    | true =>
      go_enter Try.func36, Try.ntmps36
      go_wp2_with fail
      refine (H1.out _).mono ?_
      rintro e w1 ⟨rfl, b1⟩
      obtain ⟨c0, c1, c2⟩ := box_cells w id sp nm b1
      go_wp2_with fail
      refine (H2.out _).mono ?_
      rintro e w2 ⟨rfl, b2⟩
      have b12 := b1.trans (b2.mono b1.size)
      obtain ⟨d0, d1, d2⟩ := box_cells w id sp nm b12
      have hn3 := HN.out _ b12
      have bb2 := box_below w _ b12
      clear b1 b2 b12 c0 c1 c2
      go_wp2
      go_ret
      exact ⟨rfl, bb2⟩

set_option maxHeartbeats 1000000 in
theorem hasC_any (o : OV) (names : List (List UInt8)) (hl : names.length ≤ 1000000) (sc : Int) (v : Value) (nb sb : Nat) (w : World) (hn : w.cell? ⟨nb, 0, none⟩ = some v) (hs : w.cell? ⟨sb, 0, none⟩ = some (.int .i64 sc)) (hW : IsW w v names) :
    Calls Try.prog 32 #[.agg #[.int .i64 o.id, .int .i64 o.sp, .string o.nm], .pointer (some ⟨nb, 0, none⟩), .pointer (some ⟨sb, 0, none⟩)] w fun e w' => e = .returned (.bool (namedL names o || endsL o sc)) ∧ Below w.heap.size w w' := by
  obtain ⟨a, c, rfl⟩ := isW_form hW
  have H := hide (named_any o names hl _ (w.alloc (.cells #[.int .i64 o.id, .int .i64 o.sp, .string o.nm] 24)) (hW.below (below_alloc w _)))
  have H2 := hide (ends_any o sc)
  generalize namedL names o = B at *
  generalize endsL o sc = E at *
  obtain ⟨id, sp, nm⟩ := o
  simp only [] at H H2
  have hn2 : (w.alloc (.cells #[.int .i64 id, .int .i64 sp, .string nm] 24)).cell? ⟨nb, 0, none⟩ = some (.slice a names.length c) := by
    rw [(below_alloc w _).cell (cell_lt hn)]; exact hn
  have HS := hide (fun (w1 : World) (b : Below (w.alloc (.cells #[.int .i64 id, .int .i64 sp, .string nm] 24)).heap.size (w.alloc (.cells #[.int .i64 id, .int .i64 sp, .string nm] 24)) w1) =>
    show w1.cell? ⟨sb, 0, none⟩ = some (.int .i64 sc) by rw [(box_below w _ b).cell (cell_lt hs)]; exact hs)
  clear hW hn hs
  cases B with
  | true =>
    go_enter Try.func32, Try.ntmps32
    go_wp2_with fail
    refine H.out.mono ?_
    rintro e w1 ⟨rfl, b1⟩
    go_wp2
    go_ret
    exact ⟨rfl, box_below w _ b1⟩
  | false =>
    go_enter Try.func32, Try.ntmps32
    go_wp2_with fail
    refine H.out.mono ?_
    rintro e w1 ⟨rfl, b1⟩
    obtain ⟨c0, c1, c2⟩ := box_cells w id sp nm b1
    have hs3 := HS.out _ b1
    have bb := box_below w _ b1
    clear b1 hn2
    go_wp2_with fail
    refine (H2.out _).mono ?_
    rintro e w2 ⟨rfl, b2⟩
    go_wp2
    go_ret
    exact ⟨rfl, bb.trans (b2.mono bb.size)⟩

theorem enters_cut : ∀ (args : Array Value) (w : World), (callFunc 35 args).run Try.prog w = .ok (.enter 35 args) w := by intro args w; simp [go_sem]
theorem enters_find : ∀ (args : Array Value) (w : World), (callFunc 37 args).run Try.prog w = .ok (.enter 37 args) w := by intro args w; simp [go_sem]
theorem enters_implied : ∀ (args : Array Value) (w : World), (callFunc 36 args).run Try.prog w = .ok (.enter 36 args) w := by intro args w; simp [go_sem]
theorem enters_has : ∀ (args : Array Value) (w : World), (callFunc 32 args).run Try.prog w = .ok (.enter 32 args) w := by intro args w; simp [go_sem]
theorem one_cell (w : World) (v : Value) (t : TypeId) : (w.alloc (.cells #[v] t)).cell? ⟨w.heap.size, 0, none⟩ = some v := by simp [go_sem]

set_option maxHeartbeats 1000000 in
theorem cut_any (l : List OV) (hl : l.length ≤ 1000000) (names : List (List UInt8)) (hn : names.length ≤ 1000000) (v u : Value) (w : World) (hO : IsO w v l) (hW : IsW w u names) :
    Calls Try.prog 19 #[v, u] w fun e w' => e = .returned (.int .i64 (cutZ l names)) ∧ Below w.heap.size w w' := by
  have hmf : ∀ (fn : Fn) (first cap : Array Value) (w : World), (Instr.makeFunc fn first cap).run Try.prog w = .ok (.func fn first cap) w := fun _ _ _ _ => rfl
  have bA := below_alloc w (.cells #[u] 30)
  have H := hide (last_any 35 [.pointer (some ⟨w.heap.size, 0, none⟩)] (namedL names) l hl v (w.alloc (.cells #[u] 30)) (hO.below bA) enters_cut
    (fun o w1 b1 => cutC_any o names hn u w.heap.size w1 (by rw [b1.cell (by simp)]; exact one_cell w u _) (hW.below (bA.trans (b1.mono bA.size)))))
  obtain ⟨a, c, rfl⟩ := isO_form hO
  obtain ⟨a2, c2, rfl⟩ := isW_form hW
  unfold cutZ
  generalize placeZ (lastO (namedL names) l l.length) = Z at *
  clear hO hW
  have BA := hide bA
  clear bA
  go_enter Try.func19, Try.ntmps19
  go_wp2_with fail
  refine H.out.mono ?_
  rintro e w1 ⟨rfl, b1⟩
  go_wp2
  go_ret
  exact ⟨rfl, BA.out.trans (b1.mono BA.out.size)⟩

set_option maxHeartbeats 1000000 in
theorem find_any (l : List OV) (hl : l.length ≤ 1000000) (id : Int) (v : Value) (w : World) (hO : IsO w v l) :
    Calls Try.prog 21 #[v, .int .i64 id] w fun e w' => e = .returned (.int .i64 (findZ l id)) ∧ Below w.heap.size w w' := by
  have hmf : ∀ (fn : Fn) (first cap : Array Value) (w : World), (Instr.makeFunc fn first cap).run Try.prog w = .ok (.func fn first cap) w := fun _ _ _ _ => rfl
  have bA := below_alloc w (.cells #[.int .i64 id] 3)
  have H := hide (last_any 37 [.pointer (some ⟨w.heap.size, 0, none⟩)] (fun o => o.id == id) l hl v (w.alloc (.cells #[.int .i64 id] 3)) (hO.below bA) enters_find
    (fun o w1 b1 => findC_any o id w.heap.size w1 (by rw [b1.cell (by simp)]; exact one_cell w _ _)))
  obtain ⟨a, c, rfl⟩ := isO_form hO
  unfold findZ
  generalize placeZ (lastO (fun o => o.id == id) l l.length) = Z at *
  clear hO
  have BA := hide bA
  clear bA
  go_enter Try.func21, Try.ntmps21
  go_wp2_with fail
  refine H.out.mono ?_
  rintro e w1 ⟨rfl, b1⟩
  go_wp2
  go_ret
  exact ⟨rfl, BA.out.trans (b1.mono BA.out.size)⟩

set_option maxHeartbeats 1000000 in
theorem implied_any (l : List OV) (hl : l.length ≤ 1000000) (ex : ByteArray) (v : Value) (w : World) (hO : IsO w v l) :
    Calls Try.prog 20 #[v, .string ex] w fun e w' => e = .returned (.int .i64 (impliedZ l ex)) ∧ Below w.heap.size w w' := by
  have hmf : ∀ (fn : Fn) (first cap : Array Value) (w : World), (Instr.makeFunc fn first cap).run Try.prog w = .ok (.func fn first cap) w := fun _ _ _ _ => rfl
  have bA := below_alloc w (.cells #[.string ex] 9)
  have H := hide (last_any 36 [.pointer (some ⟨w.heap.size, 0, none⟩)] (staysL ex) l hl v (w.alloc (.cells #[.string ex] 9)) (hO.below bA) enters_implied
    (fun o w1 b1 => impliedC_any o ex w.heap.size w1 (by rw [b1.cell (by simp)]; exact one_cell w _ _)))
  obtain ⟨a, c, rfl⟩ := isO_form hO
  unfold impliedZ
  rw [left_last ex l _ (Nat.le_refl _)]
  have hr := place_range (staysL ex) l
  generalize placeZ (lastO (staysL ex) l l.length) = Z at *
  clear hO
  have BA := hide bA
  clear bA
  go_enter Try.func20, Try.ntmps20
  go_wp2_with fail
  refine H.out.mono ?_
  rintro e w1 ⟨rfl, b1⟩
  go_wp2
  go_ret
  exact ⟨rfl, BA.out.trans (b1.mono BA.out.size)⟩
end Go.Proofs.Ytfknhpkpenhflaa
