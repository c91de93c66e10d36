import Derived.Test.YtfohijnkeefcfaaGreatDoorKn14
import Derived.Test.YtfohijnkeefcfaaGreatDoorKn23
import Derived.Test.YtfohijnkeefcfaaGreatDoorKn24
import Derived.Test.YtfohijnkeefcfaaGreatDoorKn26
import Derived.Test.YtfohijnkeefcfaaGreatDoorKn27
import Derived.Deep.RegionHeld2
import Derived.Laws.IdiomCopy
import Derived.Lib.SliceRun
set_option linter.unusedVariables false
set_option linter.unusedSimpArgs false
set_option maxRecDepth 100000
set_option maxHeartbeats 8000000
namespace Go.Proofs.YtfohijnkeefcfaaGreatDoor.S7
open Go.RowKit Go.Sort
theorem nan_p (x : ByteArray) (w : World) : Calls Tryz.prog 286 #[.string x] w fun e w' => e = .returned (.bool false) /\ w' = w := by
  go_enter Tryz.func286, Tryz.ntmps286
  go_wp2
  go_ret
  exact ⟨by simp, rfl⟩
theorem compare_p (a b : List UInt8) (w : World) : Calls Tryz.prog 279 #[.string ⟨a.toArray⟩, .string ⟨b.toArray⟩] w fun e w' => e = .returned (.int .i64 (cmpB a b)) /\ w' = w := by
  have H := hide nan_p
  have e1 : Op.bytesLess (⟨a.toArray⟩ : ByteArray).toList (⟨b.toArray⟩ : ByteArray).toList = Op.bytesLess a b := by rw [Lib.toList_data, Lib.toList_data, str_data, str_data]
  have e2 : ((⟨a.toArray⟩ : ByteArray).toList == (⟨b.toArray⟩ : ByteArray).toList) = (a == b) := by rw [Lib.toList_data, Lib.toList_data, str_data, str_data]
  unfold cmpB
  rw [<- e1, <- e2]
  clear e1 e2
  generalize (⟨a.toArray⟩ : ByteArray) = x
  generalize (⟨b.toArray⟩ : ByteArray) = y
  by_cases h1 : Op.bytesLess x.toList y.toList = true
  · rw [if_pos h1]
    go_enter Tryz.func279, Tryz.ntmps279
    go_wp2_with fail
    refine (H.out _ _).mono ?_
    rintro e w1 ⟨rfl, rfl⟩
    go_wp2_with fail
    refine (H.out _ _).mono ?_
    rintro e w1 ⟨rfl, rfl⟩
    go_wp2
    go_ret
    exact ⟨rfl, rfl⟩
  · rw [if_neg h1]
    have h1 := Bool.eq_false_iff.2 h1
    by_cases h2 : (x.toList == y.toList) = true
    · rw [if_pos h2]
      go_enter Tryz.func279, Tryz.ntmps279
      go_wp2_with fail
      refine (H.out _ _).mono ?_
      rintro e w1 ⟨rfl, rfl⟩
      go_wp2_with fail
      refine (H.out _ _).mono ?_
      rintro e w1 ⟨rfl, rfl⟩
      go_wp2
      go_ret
      exact ⟨rfl, rfl⟩
    · rw [if_neg h2]
      have h2 := Bool.eq_false_iff.2 h2
      go_enter Tryz.func279, Tryz.ntmps279
      go_wp2_with fail
      refine (H.out _ _).mono ?_
      rintro e w1 ⟨rfl, rfl⟩
      go_wp2_with fail
      refine (H.out _ _).mono ?_
      rintro e w1 ⟨rfl, rfl⟩
      go_wp2
      go_ret
      exact ⟨rfl, rfl⟩
theorem or_p (x y : Int) (b : Nat) (w : World) (h0 : w.cell? ⟨b, 0, none⟩ = some (.int .i64 x)) (h1 : w.cell? ⟨b, 1, none⟩ = some (.int .i64 y)) :
    Calls Tryz.prog 278 #[.slice (some ⟨b, 0, none⟩) 2 2] w fun e w' => e = .returned (.int .i64 (if x = 0 then y else x)) /\ w' = w := by
  by_cases hx : x = 0
  · rw [if_pos hx]
    subst hx
    by_cases hy : y = 0
    · subst hy
      go_enter Tryz.func278, Tryz.ntmps278
      go_wp2
      refine wp_loop_rounds 3 ?_
      rw [rounds_succ]
      go_wp2
      rw [rounds_succ]
      go_wp2
      rw [rounds_succ]
      go_wp2
      go_ret
      exact ⟨rfl, rfl⟩
    · have hy2 := ne_int y 0 hy
      go_enter Tryz.func278, Tryz.ntmps278
      go_wp2
      refine wp_loop_rounds 2 ?_
      rw [rounds_succ]
      go_wp2
      rw [rounds_succ]
      go_wp2
      go_ret
      exact ⟨rfl, rfl⟩
  · rw [if_neg hx]
    have hx2 := ne_int x 0 hx
    go_enter Tryz.func278, Tryz.ntmps278
    go_wp2
    refine wp_loop_rounds 1 ?_
    rw [rounds_succ]
    go_wp2
    go_ret
    exact ⟨rfl, rfl⟩
def encA (x : At) : List Value := [.string ⟨x.1.toArray⟩, .string ⟨x.2.toArray⟩]
theorem closure_p (x y : At) (w : World) :
    Calls Tryz.prog 277 #[.agg #[.string ⟨x.1.toArray⟩, .string ⟨x.2.toArray⟩], .agg #[.string ⟨y.1.toArray⟩, .string ⟨y.2.toArray⟩]] w fun e w' => e = .returned (.int .i64 (cmpA x y)) /\ ∃ q os', w' = grow (w.drewN q) os' := by
  have H1 := hide (fun W => compare_p x.1 y.1 W)
  have H2 := hide (fun W => compare_p x.2 y.2 W)
  unfold cmpA
  generalize cmpB x.1 y.1 = P at *
  generalize cmpB x.2 y.2 = Q at *
  have H3 := hide (fun b w h0 h1 => or_p P Q b w h0 h1)
  generalize (if P = 0 then Q else P) = R at *
  generalize (⟨x.1.toArray⟩ : ByteArray) = a at *
  generalize (⟨x.2.toArray⟩ : ByteArray) = b at *
  generalize (⟨y.1.toArray⟩ : ByteArray) = c at *
  generalize (⟨y.2.toArray⟩ : ByteArray) = d at *
  go_enter Tryz.func277, Tryz.ntmps277
  go_wp2_with fail
  generalize hW0 : (w.alloc (.cells #[.string a, .string b] 62)).alloc (.cells #[.string c, .string d] 62) = W0
  have HE : Hid (W0 = grow w #[.cells #[.string a, .string b] 62, .cells #[.string c, .string d] 62]) := hide (by rw [<- hW0, alloc_eq_grow, alloc_eq_grow, grow_grow]; rfl)
  have h0 : W0.cell? ⟨w.heap.size, 0, none⟩ = some (.string a) := by rw [<- hW0]; simp [go_sem]
  have h1 : W0.cell? ⟨w.heap.size, 1, none⟩ = some (.string b) := by rw [<- hW0]; simp [go_sem]
  have h2 : W0.cell? ⟨w.heap.size + 1, 0, none⟩ = some (.string c) := by rw [<- hW0]; simp [go_sem]
  have h3 : W0.cell? ⟨w.heap.size + 1, 1, none⟩ = some (.string d) := by rw [<- hW0]; simp [go_sem]
  have HC := hide (And.intro h0 (And.intro h1 (And.intro h2 h3)))
  have HO := hide (H3.out W0.heap.size (W0.drew.alloc (.cells #[.int .i64 P, .int .i64 Q] 3)) (by simp [go_sem]) (by simp [go_sem]))
  have HO2 := hide (H3.out W0.heap.size (W0.alloc (.cells #[.int .i64 P, .int .i64 Q] 3)).drew (by simp [go_sem]) (by simp [go_sem]))
  have HC2 : Hid ((W0.alloc (.cells #[.int .i64 P, .int .i64 Q] 3)).drew.cell? ⟨w.heap.size, 0, none⟩ = some (.string a) /\ (W0.alloc (.cells #[.int .i64 P, .int .i64 Q] 3)).drew.cell? ⟨w.heap.size, 1, none⟩ = some (.string b) /\ (W0.alloc (.cells #[.int .i64 P, .int .i64 Q] 3)).drew.cell? ⟨w.heap.size + 1, 0, none⟩ = some (.string c) /\ (W0.alloc (.cells #[.int .i64 P, .int .i64 Q] 3)).drew.cell? ⟨w.heap.size + 1, 1, none⟩ = some (.string d)) := hide (by
    have bb := (below_alloc W0 (.cells #[.int .i64 P, .int .i64 Q] 3)).drew
    exact ⟨by rw [bb.cell (cell_lt h0)]; exact h0, by rw [bb.cell (cell_lt h1)]; exact h1, by rw [bb.cell (cell_lt h2)]; exact h2, by rw [bb.cell (cell_lt h3)]; exact h3⟩)
  clear hW0 h0 h1 h2 h3 H3
  go_region_held2 (fun W' => W'.cell? ⟨w.heap.size, 0, none⟩ = some (.string a) /\ W'.cell? ⟨w.heap.size, 1, none⟩ = some (.string b) /\ W'.cell? ⟨w.heap.size + 1, 0, none⟩ = some (.string c) /\ W'.cell? ⟨w.heap.size + 1, 1, none⟩ = some (.string d)) (first | with_reducible exact HC.out | with_reducible exact HC2.out | exact HC.out) (first | (go_at_call 279; first | (with_reducible refine (H1.out _).mono ?_; rintro e w1 ⟨rfl, rfl⟩) | (with_reducible refine (H2.out _).mono ?_; rintro e w1 ⟨rfl, rfl⟩)) | (go_at_call 278; first | (with_reducible refine HO.out.mono ?_; rintro e w1 ⟨rfl, rfl⟩) | (with_reducible refine HO2.out.mono ?_; rintro e w1 ⟨rfl, rfl⟩)))
  go_wp2
  go_ret
  refine ⟨rfl, 1, #[.cells #[.string a, .string b] 62, .cells #[.string c, .string d] 62, .cells #[.int .i64 P, .int .i64 Q] 3], ?_⟩
  rw [HE.out, alloc_eq_grow, grow_grow]
  rfl
end Go.Proofs.YtfohijnkeefcfaaGreatDoor.S7
namespace Go.Proofs.YtfohijnkeefcfaaGreatDoor.S7
open Go.RowKit Go.Sort
def RowA (w : World) (b : Nat) (l : AttrL) : Prop := ∀ j (hj : j < l.length), (w.cell? ⟨b, j * 2, none⟩ = some (.string ⟨l[j].1.toArray⟩) /\ w.cell? ⟨b, j * 2 + 1, none⟩ = some (.string ⟨l[j].2.toArray⟩)) /\ w.frozen? ⟨b, j * 2, none⟩ = false /\ w.frozen? ⟨b, j * 2 + 1, none⟩ = false
theorem rowA_q {w : World} {b : Nat} {l : AttrL} (h : RowA w b l) (c : Nat) : IsQ w (.slice (some ⟨b, 0, none⟩) l.length c) l :=
  .inr ⟨b, 0, c, rfl, fun j hj => by rw [Nat.zero_add]; exact (h j hj).1⟩
theorem rowA_holds {w : World} {b : Nat} {l : AttrL} (h : RowA w b l) : HoldsK encA 2 w b 0 l.toArray := by
  intro j hj
  rw [size_flatK, List.size_toArray] at hj
  have hq : j / 2 < l.length := by omega
  obtain ⟨⟨h0, h1⟩, f0, f1⟩ := h (j / 2) hq
  rw [get_flatK _ _ _ _ (by rw [List.size_toArray]; exact hj), Nat.zero_add]
  have e : l.toArray[j / 2]! = l[j / 2] := by simp [hq]
  rw [e]
  generalize l[j / 2] = x at *
  rcases (by omega : j % 2 = 0 \/ j % 2 = 1) with hr | hr
  · rw [hr]
    have ej : j = j / 2 * 2 := by omega
    rw [<- ej] at h0 f0
    exact ⟨h0, f0⟩
  · rw [hr]
    have ej : j = j / 2 * 2 + 1 := by omega
    rw [<- ej] at h1 f1
    exact ⟨h1, f1⟩
theorem holds_rowA {w : World} {b : Nat} {l : AttrL} (h : HoldsK encA 2 w b 0 l.toArray) : RowA w b l := by
  intro j hj
  have h0 := h.cell (i := j) (c := 0) (by simpa using hj) (by omega)
  have h1 := h.cell (i := j) (c := 1) (by simpa using hj) (by omega)
  have e : l.toArray[j]! = l[j] := by simp [hj]
  rw [e, Nat.zero_add, Nat.add_zero] at h0
  rw [e, Nat.zero_add] at h1
  exact ⟨⟨h0.1, h1.1⟩, h0.2, h1.2⟩
theorem below_sort {B b n : Nat} {w : World} {d : Array At} {os : Array Obj} (hB : B <= b) (hs : B <= w.heap.size) : Below B w (sortWorldK encA 2 w b 0 n d os) := by
  unfold sortWorldK
  refine ⟨rfl, rfl, rfl, ?_, fun k hk => ?_⟩
  · rw [size_grow]
    unfold putRowK
    rw [size_putRow]
    simp
  · rw [heap_grow_old _ _ (by unfold putRowK; rw [size_putRow]; show k < w.heap.size; omega)]
    show ((Sort.ahead w n).heap.modify b _)[k]? = _
    rw [Array.getElem?_modify, if_neg (by omega)]
    rfl
theorem enters_distinct1 : ∀ (args : Array Value) (w : World), (callFunc 277 args).run Tryz.prog w = .ok (.enter 277 args) w := by intro args w; simp [go_sem]
theorem sort_p (B : Nat) (l : AttrL) (hl : l.length <= 2000000000) (b c : Nat) (w : World) (hB : B <= b) (hs : B <= w.heap.size) (hb : b < w.heap.size) (hR : RowA w b l) :
    Calls Tryz.prog 276 #[.slice (some ⟨b, 0, none⟩) l.length c, .func (.func 277) #[] #[]] w fun e w' => e = .returned (.tuple #[]) /\ (∃ s : AttrL, s.length = l.length /\ (∀ x, x ∈ s ↔ x ∈ l) /\ (∀ i j (hi : i < s.length) (hj : j < s.length), i < j -> ltOf cmpA s[j] s[i] = false) /\ RowA w' b s) /\ Below B w w' := by
  have hH := rowA_holds hR
  have h := AnyQ.slices_SortFunc Tryz.sortAttr 2 Tryz.isAgg62 Tryz.sizeOf62 encA (fun _ => rfl) (fun x v hv => by simp [encA] at hv; rcases hv with rfl | rfl <;> rfl) cmpA lt_swo 277 #[] b 0 c l.toArray w enters_distinct1 (fun _ _ _ _ x y => closure_p x y _) hH hb (by rw [List.size_toArray]; omega)
  rw [List.size_toArray] at h
  refine h.mono ?_
  rintro e w' ⟨rfl, d', n, os, hp, hsd, rfl⟩
  have hsz : d'.size = l.length := by have := hp.1; rwa [List.size_toArray] at this
  have hperm : d'.toList.Perm l := by
    have := hp.2.2
    rw [show d'.extract 0 l.length = d' by rw [<- hsz]; simp] at this
    simpa using this
  refine ⟨rfl, ⟨d'.toList, by rw [Array.length_toList]; exact hsz, fun x => hperm.mem_iff, ?_, ?_⟩, below_sort hB hs⟩
  · intro i j hi hj hij
    rw [Array.length_toList] at hi hj
    have := hsd i j (Nat.zero_le _) hij (by omega)
    rw [getElem!_pos d' i hi, getElem!_pos d' j hj] at this
    exact this
  · refine holds_rowA ?_
    have hS : SWK encA 2 w b 0 d' (sortWorldK encA 2 w b 0 n d' os) := ⟨n, os, rfl⟩
    have := hS.holds hb hH (by rw [hsz, List.size_toArray])
    exact this
theorem insertion_none (a : Option Addr) (c : Nat) (fv : Value) (w : World) :
    Calls Tryz.prog 288 #[.slice a 0 c, .int .i64 0, .int .i64 0, fv] w fun e w' => e = .returned (.tuple #[]) /\ w' = w := by
  go_enter Tryz.func288, Tryz.ntmps288
  go_wp2
  refine wp_loop_rounds 1 ?_
  rw [rounds_succ]
  go_wp2
  go_end0
  exact ⟨rfl, rfl⟩
theorem pdq_none (a : Option Addr) (c : Nat) (lim : Int) (fv : Value) (w : World) :
    Calls Tryz.prog 284 #[.slice a 0 c, .int .i64 0, .int .i64 0, .int .i64 lim, fv] w fun e w' => e = .returned (.tuple #[]) /\ w' = w := by
  have H := hide (fun W => insertion_none a c fv W)
  go_enter Tryz.func284, Tryz.ntmps284
  go_wp2
  refine wp_loop_rounds 1 ?_
  rw [rounds_succ]
  go_wp2_with fail
  refine (H.out _).mono ?_
  rintro e w1 ⟨rfl, rfl⟩
  go_wp2
  (try simp only [Exit.inBlock, Exit.then]); refine bodyPost_ret (results_none rfl _ _ _) rfl ?_
  exact ⟨rfl, rfl⟩
theorem sort_none (a : Option Addr) (c : Nat) (fv : Value) (w : World) :
    Calls Tryz.prog 276 #[.slice a 0 c, fv] w fun e w' => e = .returned (.tuple #[]) /\ w' = w := by
  have H := hide (fun lim W => pdq_none a c lim fv W)
  have HL := hide (fun W => Any.bits_Len Tryz.lays125 0 W (by omega) (by omega))
  have HL2 : Hid (∀ W, Calls Tryz.prog 285 #[.int .u64 0] W fun e w' => e = .returned (.int .i64 (Lib.bitLen (0 : Int).toNat)) /\ w' = W) := HL
  generalize ((Lib.bitLen (0 : Int).toNat : Nat) : Int) = Z at *
  clear HL
  go_enter Tryz.func276, Tryz.ntmps276
  go_wp2_with fail
  refine (HL2.out _).mono ?_
  rintro e w1 ⟨rfl, rfl⟩
  go_wp2_with fail
  refine (H.out _ _).mono ?_
  rintro e w1 ⟨rfl, rfl⟩
  go_wp2
  go_end0
  exact ⟨rfl, rfl⟩
end Go.Proofs.YtfohijnkeefcfaaGreatDoor.S7
namespace Go.Proofs.YtfohijnkeefcfaaGreatDoor.S7
open Go.RowKit Go.Sort
def attrCells : AttrL -> List Value
  | [] => []
  | x :: r => encA x ++ attrCells r
theorem attrCells_len : ∀ l : AttrL, (attrCells l).length = l.length * 2
  | [] => rfl
  | p :: r => by
    simp only [attrCells, encA, List.length_append, List.length_cons, List.length_nil, attrCells_len r]
    omega
theorem attrCells_get : ∀ (l : AttrL) (j : Nat) (hj : j < l.length) (o : Nat) (ho : o < 2), (attrCells l)[j * 2 + o]? = (encA l[j])[o]?
  | p :: r, 0, _, o, ho => by
    simp only [attrCells, Nat.zero_mul, Nat.zero_add, List.getElem_cons_zero]
    rw [List.getElem?_append_left (by simpa [encA] using ho)]
  | p :: r, j + 1, hj, o, ho => by
    have h := attrCells_get r j (by simpa using hj) o ho
    simp only [attrCells, List.getElem_cons_succ]
    rw [List.getElem?_append_right (by simp [encA]; omega), show (j + 1) * 2 + o - (encA p).length = j * 2 + o by simp [encA]; omega]
    exact h
theorem attrCells_1c : ∀ (l : AttrL), ∀ u ∈ attrCells l, u.oneCell' = true
  | [], u, hu => by simp [attrCells] at hu
  | p :: r, u, hu => by
    rcases List.mem_append.1 hu with hu | hu
    · simp only [encA, List.mem_cons, List.not_mem_nil, or_false] at hu
      rcases hu with rfl | rfl <;> rfl
    · exact attrCells_1c r u hu
theorem q_cells {w : World} {a : Option Addr} {n c : Nat} {l : AttrL} (h : IsQ w (.slice a n c) l) (h0 : 0 < l.length) : ∃ b o, a = some ⟨b, o, none⟩ /\ ∀ j u, (attrCells l)[j]? = some u -> w.cell? ⟨b, o + j, none⟩ = some u := by
  obtain ⟨b, o, rfl, -⟩ := h.get 0 h0
  refine ⟨b, o, rfl, fun j u hu => ?_⟩
  have hj : j < (attrCells l).length := (List.getElem?_eq_some_iff.1 hu).1
  rw [attrCells_len] at hj
  have hq : j / 2 < l.length := by omega
  have hgt := attrCells_get l (j / 2) hq (j % 2) (by omega)
  rw [show j / 2 * 2 + j % 2 = j by omega, hu] at hgt
  obtain ⟨b', o', e, c0, c1⟩ := h.get (j / 2) hq
  simp only [Option.some.injEq, Addr.mk.injEq, and_true] at e
  obtain ⟨rfl, rfl⟩ := e
  rcases (by omega : j % 2 = 0 \/ j % 2 = 1) with h | h
  · rw [h] at hgt
    rw [show o + j = o + j / 2 * 2 by omega, c0, hgt]; rfl
  · rw [h] at hgt
    rw [show o + j = o + j / 2 * 2 + 1 by omega, c1, hgt]; rfl
theorem owns_rowA {w : World} {B : Nat} {v : Value} {l : AttrL} (h : w.ownsRow B 62 2 v l.length (attrCells l)) (h0 : 0 < l.length) : ∃ g c, v = .slice (some ⟨g, 0, none⟩) l.length c /\ l.length <= c /\ B <= g /\ g < w.heap.size /\ RowA w g l := by
  rcases h.2 with ⟨rfl, h1⟩ | ⟨g, cap, cur, rfl, hbg, hg, hnc, hcm, hcs, htake⟩
  · omega
  · refine ⟨g, cap, rfl, hnc, hbg, (Array.getElem?_eq_some_iff.1 hg).1, fun j hj => ?_⟩
    have hc : ∀ i, i < 2 -> ∀ u, (encA l[j])[i]? = some u -> w.cell? ⟨g, j * 2 + i, none⟩ = some u := by
      intro i hi u hu
      have hr := attrCells_get l j hj i hi
      rw [hu] at hr
      have hc := h.cells (g := g) rfl _ _ hr
      rw [addr_add, Nat.zero_add] at hc
      exact hc
    have hf : ∀ k, w.frozen? ⟨g, k, none⟩ = false := fun k => by
      unfold World.frozen?
      simp [hg]
    exact ⟨⟨hc 0 (by omega) _ rfl, hc 1 (by omega) _ rfl⟩, hf _, hf _⟩
theorem clone_p (v : Value) (l : AttrL) (hl : l.length <= 900000000) (w : World) (hQ : IsQ w v l) :
    Calls Tryz.prog 275 #[v] w fun e w' => (∃ a c, e = .returned (.slice a l.length c) /\ (0 < l.length -> ∃ g, a = some ⟨g, 0, none⟩ /\ l.length <= c /\ w.heap.size <= g /\ g < w'.heap.size /\ RowA w' g l)) /\ Below w.heap.size w w' := by
  obtain ⟨a, c, rfl⟩ := isQ_form hQ
  cases a with
  | none =>
    have h0 : l.length = 0 := by
      rcases Nat.eq_zero_or_pos l.length with h | h
      · exact h
      · obtain ⟨b, o, e, -⟩ := hQ.get 0 h
        cases e
    rw [h0]
    have hE := fun w => Lib.run_eql_slice_nil (P := Tryz.prog) w 43 62 none 0 c 0 0 Tryz.underlying43
    simp only [Option.isNone_none] at hE
    clear hQ
    go_enter Tryz.func275, Tryz.ntmps275
    go_wp2
    go_ret
    exact ⟨⟨_, _, rfl, fun h => by omega⟩, Below.refl _ _⟩
  | some x =>
    have b1 := below_alloc w (.cells #[] 62)
    have hown : (w.alloc (.cells #[] 62)).ownsRow w.heap.size 62 2 (.slice (some ⟨w.heap.size, 0, none⟩) 0 0) 0 [] := World.ownsRow_made w #[] 0 (Nat.le_refl _) (by unfold maxLen; omega) (by simp)
    obtain ⟨v', w2, hr, hN, hb⟩ : ∃ v' w', (Builtin.append_ #[43, 43] 43 #[.slice (some ⟨w.heap.size, 0, none⟩) 0 0, .slice (some x) l.length c]).run Tryz.prog (w.alloc (.cells #[] 62)) = .ok v' w' /\ (∃ a c, v' = .slice a l.length c /\ (0 < l.length -> ∃ g, a = some ⟨g, 0, none⟩ /\ l.length <= c /\ w.heap.size <= g /\ g < w'.heap.size /\ RowA w' g l)) /\ Below w.heap.size w w' := by
      by_cases h0 : l.length = 0
      · obtain rfl := List.eq_nil_of_length_eq_zero h0
        have hr := run_append_room_src (P := Tryz.prog) (w.alloc (.cells #[] 62)) 43 43 43 62 Tryz.t62 Tryz.underlying43 (by kernel_rfl) w.heap.size 0 0 0 (.slice (some x) 0 c) 0 [] (Src.ofSlice _ Tryz.underlying43 x 0 c [] (by simp) (by simp) (by simp)) (by omega) (by simp) (by simp)
        exact ⟨_, _, hr, ⟨_, _, rfl, fun h => by simp at h⟩, b1⟩
      · obtain ⟨b, o, e, hcs⟩ := q_cells (hQ.below b1) (by omega)
        obtain rfl : x = ⟨b, o, none⟩ := by simpa using e
        obtain ⟨v', w', hr, ho, hg, _⟩ := run_append_own (P := Tryz.prog) (w.alloc (.cells #[] 62)) w.heap.size 43 43 62 Tryz.t62 _ 2 32 Tryz.underlying43 (by kernel_rfl) rfl (by kernel_rfl) (by kernel_rfl) (by kernel_rfl) (by omega)
          (.slice (some ⟨w.heap.size, 0, none⟩) 0 0) 0 [] hown ⟨b, o, none⟩ l.length c (attrCells l) (attrCells_len l) (fun j u hu => by rw [addr_add]; exact hcs j u hu) (attrCells_1c l) (by unfold maxLen; omega) (by omega) b1.size
        rw [Nat.zero_add] at ho
        obtain ⟨g, c', rfl, h1, h2, h3, h4⟩ := owns_rowA ho (by omega)
        exact ⟨_, w', hr, ⟨_, _, rfl, fun _ => ⟨g, rfl, h1, h2, h3, h4⟩⟩, b1.grown hg b1.size (owns_own hown)⟩
    obtain ⟨a4, c4, rfl, h4⟩ := hN
    have HN := hide h4
    have HR := hide hr
    have BB := hide hb
    clear hQ b1 hown hr hb h4
    generalize l.length = N at *
    have hE := fun w => Lib.run_eql_slice_nil (P := Tryz.prog) w 43 62 (some x) N c 0 0 Tryz.underlying43
    simp only [Option.isNone_some] at hE
    go_enter Tryz.func275, Tryz.ntmps275
    go_wp2_with (with_reducible refine wpList_append_run rfl _ _ 43 rfl (.slice (some ⟨w.heap.size, 0, none⟩) 0 0) (.slice (some x) N c) _ w2 rfl rfl HR.out ?_)
    go_ret
    exact ⟨⟨_, _, rfl, HN.out⟩, BB.out⟩
theorem drop_eq_step (l r : AttrL) (k : Nat) (h1 : k < l.length) (h2 : k < r.length) : decide (l.drop k = r.drop k) = ((l[k].1 == r[k].1 && l[k].2 == r[k].2) && decide (l.drop (k + 1) = r.drop (k + 1))) := by
  have e0 : (l[k].1 == r[k].1 && l[k].2 == r[k].2) = decide (l[k] = r[k]) := by
    by_cases e : l[k] = r[k]
    · rw [decide_eq_true e, e]; simp
    · rw [decide_eq_false e, <- Bool.not_eq_true, Bool.and_eq_true, beq_iff_eq, beq_iff_eq]
      exact fun h => e (Prod.ext h.1 h.2)
  rw [e0, List.drop_eq_getElem_cons h1, List.drop_eq_getElem_cons h2]
  rw [decide_eq_decide.2 (show (l[k] :: l.drop (k + 1) = r[k] :: r.drop (k + 1)) ↔ (l[k] = r[k] /\ l.drop (k + 1) = r.drop (k + 1)) from ⟨fun h => by injection h with h1 h2; exact ⟨h1, h2⟩, fun h => by rw [h.1, h.2]⟩), Bool.decide_and]
theorem equal_p (va vb : Value) (l r : AttrL) (hl : l.length <= 2000000000) (hr : r.length <= 2000000000) (w : World) (hA : IsQ w va l) (hB : IsQ w vb r) :
    Calls Tryz.prog 56 #[va, vb] w fun e w' => e = .returned (.bool (decide (l = r))) /\ Below w.heap.size w w' := by
  obtain ⟨a1, c1, rfl⟩ := isQ_form hA
  obtain ⟨a2, c2, rfl⟩ := isQ_form hB
  by_cases hlr : l.length = r.length
  · generalize hV : decide (l = r) = V
    have HV := hide hV
    have HA := hide hA
    have HB := hide hB
    have HE := hide (fun k (h1 : k < l.length) (h2 : k < r.length) => drop_eq_step l r k h1 h2)
    have HS := hide (fun k (h1 : k < l.length) (h2 : k < r.length) => And.intro (str_beq l[k].1 r[k].1) (str_beq l[k].2 r[k].2))
    clear hV hA hB
    rw [hlr] at HA ⊢
    obtain ⟨N, hN⟩ : ∃ N, N = r.length := ⟨_, rfl⟩
    rw [<- hN] at HA HB hr ⊢
    have HNL : Hid (N = l.length) := hide (by rw [hlr, hN])
    have HNR := hide hN
    clear hN hlr hl
    go_enter Tryz.func56, Tryz.ntmps56
    go_wp2
    go_loopw [13] (fun i wr => ∃ k : Nat, k <= N /\ i = .int .i64 k /\ Hid (Below w.heap.size w wr) /\ Hid (decide (l.drop k = r.drop k) = V)) (fun i _ => N - (intOf i).toNat)
    case atStart => exact ⟨0, Nat.zero_le _, rfl, hide (Below.refl _ _), hide (by rw [List.drop_zero, List.drop_zero]; exact HV.out)⟩
    case round =>
      obtain ⟨k, hk, rfl, BW, HR⟩ := hrel
      by_cases hltN : k < N
      · have h1 : k < l.length := by rw [<- HNL.out]; exact hltN
        have h2 : k < r.length := by rw [<- HNR.out]; exact hltN
        obtain ⟨b, o, rfl, x0, x1⟩ := (HA.out.below BW.out).get k h1
        obtain ⟨b', o', rfl, y0, y1⟩ := (HB.out.below BW.out).get k h2
        obtain ⟨s1, s2⟩ := HS.out k h1 h2
        have hst := HE.out k h1 h2
        rw [HR.out] at hst
        generalize (⟨l[k].1.toArray⟩ : ByteArray) = X at *
        generalize (⟨l[k].2.toArray⟩ : ByteArray) = Y at *
        generalize (⟨r[k].1.toArray⟩ : ByteArray) = P at *
        generalize (⟨r[k].2.toArray⟩ : ByteArray) = Q at *
        rw [<- s1, <- s2] at hst
        have hlt2 : (k : Int) < N := by omega
        clear h1 h2 hltN s1 s2 HR
        by_cases e1 : (X.toList == P.toList) = true
        · by_cases e2 : (Y.toList == Q.toList) = true
          · have HR2 : Hid (decide (l.drop (k + 1) = r.drop (k + 1)) = V) := hide (by rw [hst, e1, e2]; rfl)
            clear hst
            go_wp2_with fail
            go_region
            all_goals (try go_wp2)
            all_goals go_roundw
            case rel => exact ⟨k + 1, by omega, by go_num, hide BW.out.drew, HR2⟩
            case measure => simp [intOf]; omega
          · have e2 := Bool.eq_false_iff.2 e2
            have HR2 : Hid (V = false) := hide (by rw [hst, e1, e2]; rfl)
            clear hst
            go_wp2_with fail
            go_region
            all_goals (try go_wp2)
            all_goals go_ret
            all_goals exact ⟨ret_bool HR2.out.symm, BW.out.drew⟩
        · have e1 := Bool.eq_false_iff.2 e1
          have HR2 : Hid (V = false) := hide (by rw [hst, e1]; rfl)
          clear hst
          go_wp2_with fail
          go_region
          all_goals (try go_wp2)
          all_goals go_ret
          all_goals exact ⟨ret_bool HR2.out.symm, BW.out.drew⟩
      · have HV2 : Hid (V = true) := hide (by
          rw [<- HR.out, List.drop_eq_nil_of_le (by rw [<- HNL.out]; omega), List.drop_eq_nil_of_le (by rw [<- HNR.out]; omega)]
          exact decide_eq_true rfl)
        have hlt2 : ¬ (k : Int) < N := by omega
        clear hltN HR
        go_wp2
        go_ret
        exact ⟨ret_bool HV2.out.symm, BW.out⟩
  · rw [decide_eq_false (fun h => hlr (by rw [h]))]
    have h2 : ¬ (l.length : Int) = r.length := by omega
    have h3 := ne_int _ _ h2
    clear hA hB
    generalize l.length = N at *
    generalize r.length = M at *
    go_enter Tryz.func56, Tryz.ntmps56
    go_wp2
    go_ret
    exact ⟨rfl, Below.refl _ _⟩
end Go.Proofs.YtfohijnkeefcfaaGreatDoor.S7
namespace Go.Proofs.YtfohijnkeefcfaaGreatDoor.S7
open Go.RowKit Go.Sort
def HalfA (w : World) (b : Nat) (l : AttrL) (m : Nat) : Prop :=
  (∀ j (hj : j < (onceK l m).length), w.cell? ⟨b, j * 2, none⟩ = some (.string ⟨(onceK l m)[j].1.toArray⟩) /\ w.cell? ⟨b, j * 2 + 1, none⟩ = some (.string ⟨(onceK l m)[j].2.toArray⟩)) /\
  (∀ j (hj : j < l.length), m <= j + 1 -> w.cell? ⟨b, j * 2, none⟩ = some (.string ⟨l[j].1.toArray⟩) /\ w.cell? ⟨b, j * 2 + 1, none⟩ = some (.string ⟨l[j].2.toArray⟩)) /\
  (∀ i, i < l.length * 2 -> (w.cell? ⟨b, i, none⟩).isSome = true /\ w.frozen? ⟨b, i, none⟩ = false)
theorem HalfA.start {w : World} {b : Nat} {l : AttrL} (h : RowA w b l) (k : Nat) (hk : k + 1 < l.length) (hf : ∀ i, 0 < i -> i < k + 1 -> l[i]? ≠ l[i - 1]?) (he : l[k + 1]? = l[k]?) : HalfA w b l (k + 2) /\ (onceK l (k + 2)).length = k + 1 := by
  have e : onceK l (k + 2) = l.take (k + 1) := by
    rw [once_old l (k + 1) (by simpa using he), once_first l (k + 1) (by omega) hf]
  unfold HalfA
  rw [e]
  refine ⟨⟨fun j hj => ?_, fun j hj _ => (h j hj).1, fun i hi => ?_⟩, by rw [List.length_take]; omega⟩
  · rw [List.length_take] at hj
    simp only [List.getElem_take]
    exact (h j (by omega)).1
  · obtain ⟨⟨h0, h1⟩, f0, f1⟩ := h (i / 2) (by omega)
    rcases (by omega : i = i / 2 * 2 \/ i = i / 2 * 2 + 1) with e | e
    · rw [e]
      exact ⟨by rw [h0]; rfl, f0⟩
    · rw [e]
      exact ⟨by rw [h1]; rfl, f1⟩
theorem HalfA.same {w : World} {b : Nat} {l : AttrL} {m : Nat} (h : HalfA w b l m) (hm : 0 < m) (he : l[m]? = l[m - 1]?) : HalfA w b l (m + 1) /\ onceK l (m + 1) = onceK l m := by
  have e := once_old l m (by rw [not_or]; exact ⟨by omega, by simpa using he⟩)
  unfold HalfA
  rw [e]
  exact ⟨⟨h.1, fun j hj hm => h.2.1 j hj (by omega), h.2.2⟩, rfl⟩
theorem HalfA.put {w : World} {b : Nat} {l : AttrL} {m : Nat} (h : HalfA w b l m) (hm : m < l.length) (hK : (onceK l m).length < m) (hne : l[m]? ≠ l[m - 1]?) (K : Nat) (hKK : K = (onceK l m).length) :
    HalfA ((w.setCell ⟨b, K * 2, none⟩ (.string ⟨l[m].1.toArray⟩)).setCell ⟨b, K * 2 + 1, none⟩ (.string ⟨l[m].2.toArray⟩)) b l (m + 1) /\ onceK l (m + 1) = onceK l m ++ [l[m]] := by
  subst hKK
  have e := once_new l m hm (.inr hne)
  obtain ⟨h1, h2, h3⟩ := h
  have hlast : ∀ W : World, W = (w.setCell ⟨b, (onceK l m).length * 2, none⟩ (.string ⟨l[m].1.toArray⟩)).setCell ⟨b, (onceK l m).length * 2 + 1, none⟩ (.string ⟨l[m].2.toArray⟩) -> (∀ j, j ≠ (onceK l m).length -> W.cell? ⟨b, j * 2, none⟩ = w.cell? ⟨b, j * 2, none⟩ /\ W.cell? ⟨b, j * 2 + 1, none⟩ = w.cell? ⟨b, j * 2 + 1, none⟩) /\ W.cell? ⟨b, (onceK l m).length * 2, none⟩ = some (.string ⟨l[m].1.toArray⟩) /\ W.cell? ⟨b, (onceK l m).length * 2 + 1, none⟩ = some (.string ⟨l[m].2.toArray⟩) := by
    rintro W rfl
    obtain ⟨u0, hu0⟩ := Option.isSome_iff_exists.1 (h3 ((onceK l m).length * 2) (by omega)).1
    obtain ⟨u1, hu1⟩ := Option.isSome_iff_exists.1 (h3 ((onceK l m).length * 2 + 1) (by omega)).1
    refine ⟨fun j hj => ⟨?_, ?_⟩, ?_, ?_⟩
    · rw [World.cell?_setCell_other _ _ _ _ (fun e => by injection e with _ e; omega), World.cell?_setCell_other _ _ _ _ (fun e => by injection e with _ e; omega)]
    · rw [World.cell?_setCell_other _ _ _ _ (fun e => by injection e with _ e; omega), World.cell?_setCell_other _ _ _ _ (fun e => by injection e with _ e; omega)]
    · rw [World.cell?_setCell_other _ _ _ _ (by simp), World.cell?_setCell_same _ _ _ hu0]
    · exact World.cell?_setCell_same (w.setCell _ _) _ _ (by rw [World.cell?_setCell_other _ _ _ _ (by simp)]; exact hu1)
  obtain ⟨ho, g0, g1⟩ := hlast _ rfl
  refine ⟨?_, e⟩
  unfold HalfA
  rw [e]
  refine ⟨fun j hj => ?_, fun j hj hmj => ?_, fun i hi => ?_⟩
  · rw [List.length_append] at hj
    by_cases hjk : j < (onceK l m).length
    · rw [(ho j (by omega)).1, (ho j (by omega)).2]
      simp only [List.getElem_append_left hjk]
      exact h1 j hjk
    · obtain rfl : j = (onceK l m).length := by simp at hj; omega
      simp only [List.getElem_append_right (Nat.le_refl _), Nat.sub_self, List.getElem_cons_zero]
      exact ⟨g0, g1⟩
  · rw [(ho j (by omega)).1, (ho j (by omega)).2]
    exact h2 j hj (by omega)
  · rw [World.frozen?_setCell, World.frozen?_setCell]
    refine ⟨?_, (h3 i hi).2⟩
    by_cases hj : i / 2 = (onceK l m).length
    · rcases (by omega : i = (onceK l m).length * 2 \/ i = (onceK l m).length * 2 + 1) with rfl | rfl
      · rw [g0]; rfl
      · rw [g1]; rfl
    · rcases (by omega : i = i / 2 * 2 \/ i = i / 2 * 2 + 1) with e2 | e2
      · have := (ho (i / 2) hj).1
        rw [<- e2] at this
        rw [this]
        exact (h3 i hi).1
      · have := (ho (i / 2) hj).2
        rw [<- e2] at this
        rw [this]
        exact (h3 i hi).1
theorem zero_1c (n : Nat) : ∀ v ∈ (Builtin.zeroCells #[.string ⟨#[]⟩, .string ⟨#[]⟩] n).toList, v.oneCell' = true := by
  intro v hv
  simp only [Builtin.zeroCells, Array.toList_map, List.mem_map] at hv
  obtain ⟨i, -, rfl⟩ := hv
  rcases (by have : i % 2 < 2 := Nat.mod_lt _ (by omega); omega : i % 2 = 0 \/ i % 2 = 1) with h | h <;> simp [h] <;> rfl
theorem clear_run (B : Nat) (w : World) (b o n c : Nat) (ty : TypeId) (hB : B <= b) (hn : 0 < n) (h : ∀ i, i < n * 2 -> (w.cell? ⟨b, o * 2 + i, none⟩).isSome = true /\ w.frozen? ⟨b, o * 2 + i, none⟩ = false) :
    ∃ w', (Builtin.clear_ #[43] ty #[.slice (some ⟨b, o * 2, none⟩) n c]).run Tryz.prog w = .ok (.tuple #[]) w' /\ (∀ i, i < o * 2 -> w'.cell? ⟨b, i, none⟩ = w.cell? ⟨b, i, none⟩) /\ Below B w w' := by
  have hv : (zeroValue 62).run Tryz.prog w = .ok (.agg #[.string ⟨#[]⟩, .string ⟨#[]⟩]) w := Tryz.zeroValue62 w
  have hz : (Value.agg #[.string ⟨#[]⟩, .string ⟨#[]⟩]).cells = #[.string ⟨#[]⟩, .string ⟨#[]⟩] := by kernel_rfl
  have hlen : (Builtin.zeroCells #[.string ⟨#[]⟩, .string ⟨#[]⟩] n).toList.length = n * 2 := by simp [Builtin.zeroCells]
  have hst := run_storeCells_cells (P := Tryz.prog) b (o * 2) (Builtin.zeroCells #[.string ⟨#[]⟩, .string ⟨#[]⟩] n).toList 0 w (by rw [hlen]; simpa using fun j hj => (h j hj).1) (by rw [hlen]; simpa using fun j hj => (h j hj).2) (zero_1c n)
  simp only [Nat.add_zero] at hst
  refine ⟨_, ?_, fun i hi => ?_, below_setCells b hB (Builtin.zeroCells #[.string ⟨#[]⟩, .string ⟨#[]⟩] n).toList (o * 2) (Below.refl _ _)⟩
  · obtain ⟨m, rfl⟩ : ∃ m, n = m + 1 := ⟨n - 1, by omega⟩
    simp [Builtin.clear_, run_underlying Tryz.underlying43, hv, hz, hst]
  · exact World.cell?_setCells_out b _ _ _ _ (fun _ _ => .inl hi)
theorem compact_one (a : Option Addr) (n c : Nat) (hn : n < 2) (w : World) :
    Calls Tryz.prog 280 #[.slice a n c] w fun e w' => e = .returned (.slice a n c) /\ w' = w := by
  have h : (n : Int) < 2 := by omega
  go_enter Tryz.func280, Tryz.ntmps280
  go_wp2
  go_ret
  exact ⟨rfl, rfl⟩
theorem compact_p (B : Nat) (l : AttrL) (hl : l.length <= 2000000000) (hn : 2 <= l.length) (b c : Nat) (hc : l.length <= c) (w : World) (hB : B <= b) (hR : RowA w b l) :
    Calls Tryz.prog 280 #[.slice (some ⟨b, 0, none⟩) l.length c] w fun e w' => (∃ c', e = .returned (.slice (some ⟨b, 0, none⟩) (onceK l l.length).length c') /\ IsQ w' (.slice (some ⟨b, 0, none⟩) (onceK l l.length).length c') (onceK l l.length)) /\ Below B w w' := by
  obtain ⟨N, hN⟩ : ∃ N, N = l.length := ⟨_, rfl⟩
  have HN := hide hN
  have hR2 : RowA w b l := hR
  have HR := hide hR
  have HQ := hide (fun (W : World) (h : RowA W b l) => rowA_q h c)
  rw [<- hN] at hl hn hc HQ ⊢
  clear hN hR hR2
  have hge : ¬ (N : Int) < 2 := by omega
  have HS : Hid (∀ (k : Nat), k < c -> k <= N -> ∀ W, (Instr.slice 43 (.slice (some ⟨b, 0, none⟩) N c) (some (.int .i64 (k : Int))) none none).run Tryz.prog W = .ok (.slice (some ⟨b, k * 2, none⟩) (N - k) (c - k)) W) := hide fun k hk hkN W => by
    have h1 : ¬ c = k := by omega
    simp [Instr.slice, run_underlying Tryz.underlying43, Instr.sliceBounds, Instr.sliceBound, asIntOf, hkN, Tryz.sizeOf62, h1, addr_add]
  have HT : Hid (∀ (k : Nat), k <= c -> ∀ W, (Instr.slice 43 (.slice (some ⟨b, 0, none⟩) N c) none (some (.int .i64 (k : Int))) none).run Tryz.prog W = .ok (.slice (some ⟨b, 0, none⟩) k c) W) := hide fun k hk W => by
    simp [Instr.slice, run_underlying Tryz.underlying43, Instr.sliceBounds, Instr.sliceBound, asIntOf, hk, addr_zero]
  have HD : Hid (∀ k (h : k + 1 < l.length), (l[k + 1]? = l[k]?) ↔ ((l[k + 1].1 == l[k].1 && l[k + 1].2 == l[k].2) = true)) := hide fun k h => by
    rw [List.getElem?_eq_getElem h, List.getElem?_eq_getElem (by omega), Bool.and_eq_true, beq_iff_eq, beq_iff_eq, Option.some_inj]
    exact ⟨fun e => by rw [e]; exact ⟨rfl, rfl⟩, fun e => Prod.ext e.1 e.2⟩
  have HB := hide (fun k (h : k + 1 < l.length) => And.intro (str_beq l[k + 1].1 l[k].1) (str_beq l[k + 1].2 l[k].2))
  generalize hV : onceK l N = V
  have HV := hide hV
  clear hV
  go_enter Tryz.func280, Tryz.ntmps280
  go_wp2
  go_loopw [3] (fun i wr => ∃ k : Nat, k + 1 <= N /\ i = .int .i64 ((k + 1 : Nat) : Int) /\ Hid (RowA wr b l) /\ Hid (Below B w wr) /\ Hid (∀ i, 0 < i -> i < k + 1 -> l[i]? ≠ l[i - 1]?)) (fun i _ => N - (intOf i).toNat)
  case atStart => exact ⟨0, by omega, by simp, HR, hide (Below.refl _ _), hide fun i h1 h2 => by omega⟩
  case round =>
    obtain ⟨k, hk, rfl, HW, BW, HF⟩ := hrel
    by_cases hlt : k + 1 < N
    · have hkl : k + 1 < l.length := by rw [<- HN.out]; exact hlt
      obtain ⟨⟨x0, x1⟩, -⟩ := HW.out (k + 1) hkl
      obtain ⟨⟨y0, y1⟩, -⟩ := HW.out k (by omega)
      obtain ⟨s1, s2⟩ := HB.out k hkl
      have hd := HD.out k hkl
      generalize (⟨l[k + 1].1.toArray⟩ : ByteArray) = X at *
      generalize (⟨l[k + 1].2.toArray⟩ : ByteArray) = Y at *
      generalize (⟨l[k].1.toArray⟩ : ByteArray) = P at *
      generalize (⟨l[k].2.toArray⟩ : ByteArray) = Q at *
      rw [<- s1, <- s2] at hd
      have hlt2 : ((k + 1 : Nat) : Int) < N := by omega
      have hlt3 : (k : Int) < N := by omega
      have e1 : IntKind.i64.wrap (((k + 1 : Nat) : Int) - 1) = (k : Int) := by rw [IntKind.wrap_i64]; omega
      have HKL := hide hkl
      clear s1 s2 hkl
      have hnext : ¬ (l[k + 1]? = l[k]?) -> Hid (∀ i, 0 < i -> i < k + 1 + 1 -> l[i]? ≠ l[i - 1]?) := fun hne => hide fun i h1 h2 => by
        by_cases hi : i = k + 1
        · subst hi; exact hne
        · exact HF.out i h1 (by omega)
      have HNX := hide hnext
      clear hnext
      by_cases q1 : (X.toList == P.toList) = true
      · by_cases q2 : (Y.toList == Q.toList) = true
        · have HE := hide (hd.2 (by rw [q1, q2]; rfl))
          obtain ⟨hH, hKl⟩ := HalfA.start HW.out k HKL.out HF.out HE.out
          have HH := hide hH
          have HKl := hide hKl
          have hsl := HS.out (k + 1) (by omega) (by omega)
          clear hd HNX hH hKl
          go_wp2_with fail
          go_region
          go_wp2
          clear x0 x1 y0 y1 hsl q1 q2 e1
          obtain ⟨M, hM⟩ : ∃ M, M = N - (k + 1) := ⟨_, rfl⟩
          rw [<- hM]
          have HM := hide hM
          clear hM
          go_loopw [3, 5] (fun kk i wr2 => ∃ q K : Nat, q + 1 <= M /\ i = .int .i64 ((q + 1 : Nat) : Int) /\ kk = .int .i64 (K : Int) /\ K + 1 <= k + 2 + q /\ Hid (K = (onceK l (k + 2 + q)).length) /\ Hid (HalfA wr2 b l (k + 2 + q)) /\ Hid (Below B w wr2)) (fun _ i _ => M - (intOf i).toNat)
          case atStart => exact ⟨0, k + 1, by have := HM.out; omega, by simp, rfl, by omega, hide HKl.out.symm, HH, hide BW.out.drew⟩
          case round =>
            generalize wr = wr0 at *
            obtain ⟨q, K, hq, rfl, rfl, hK, HKK, HA, BA⟩ := hrel
            by_cases hq2 : q + 1 < M
            · have hmN : k + 2 + q < N := by have := HM.out; omega
              have hml : k + 2 + q < l.length := by rw [<- HN.out]; exact hmN
              obtain ⟨x0, x1⟩ := HA.out.2.1 (k + 2 + q) hml (by omega)
              obtain ⟨y0, y1⟩ := HA.out.2.1 (k + 1 + q) (by omega) (by omega)
              have hix : k + 2 + q = k + 1 + q + 1 := by omega
              obtain ⟨s1, s2⟩ := HB.out (k + 1 + q) (by omega)
              have hd := HD.out (k + 1 + q) (by omega)
              have hpt := HalfA.put HA.out hml (by rw [<- HKK.out]; omega)
              have HSM := hide (fun h => HalfA.same HA.out (by omega) h)
              have em1 : k + 2 + q - 1 = k + 1 + q := by omega
              rw [em1] at HSM hpt
              simp only [<- hix] at s1 s2 hd
              have f0 := (HA.out.2.2 (K * 2) (by omega)).2
              have f1 := (HA.out.2.2 (K * 2 + 1) (by omega)).2
              obtain ⟨z0, hz0⟩ := Option.isSome_iff_exists.1 (HA.out.2.2 (K * 2) (by omega)).1
              obtain ⟨z1, hz1⟩ := Option.isSome_iff_exists.1 (HA.out.2.2 (K * 2 + 1) (by omega)).1
              have HP : Hid (¬ l[k + 2 + q]? = l[k + 1 + q]? -> HalfA ((wr0.setCell ⟨b, K * 2, none⟩ (.string ⟨l[k + 2 + q].1.toArray⟩)).setCell ⟨b, K * 2 + 1, none⟩ (.string ⟨l[k + 2 + q].2.toArray⟩)) b l (k + 2 + q + 1) /\ (onceK l (k + 2 + q + 1)).length = K + 1) := hide fun hne => ⟨(hpt hne K HKK.out).1, by rw [(hpt hne K HKK.out).2, List.length_append, <- HKK.out]; rfl⟩
              clear hpt
              generalize hXe : (⟨l[k + 2 + q].1.toArray⟩ : ByteArray) = X1 at *
              generalize hYe : (⟨l[k + 2 + q].2.toArray⟩ : ByteArray) = Y1 at *
              generalize (⟨l[k + 1 + q].1.toArray⟩ : ByteArray) = P1 at *
              generalize (⟨l[k + 1 + q].2.toArray⟩ : ByteArray) = Q1 at *
              rw [<- s1, <- s2] at hd
              rw [show (k + 2 + q) * 2 = (k + 1) * 2 + (q + 1) * 2 by omega] at x0 x1
              rw [show (k + 1 + q) * 2 = (k + 1) * 2 + q * 2 by omega] at y0 y1
              have hlt4 : ((q + 1 : Nat) : Int) < M := by omega
              have hlt5 : (q : Int) < M := by omega
              have hlt6 : (K : Int) < N := by omega
              have e1 : IntKind.i64.wrap (((q + 1 : Nat) : Int) - 1) = (q : Int) := by rw [IntKind.wrap_i64]; omega
              clear s1 s2 hXe hYe hq2 hix em1 hml
              by_cases q1 : (X1.toList == P1.toList) = true
              · by_cases q2 : (Y1.toList == Q1.toList) = true
                · obtain ⟨hA2, hO2⟩ := HSM.out (hd.2 (by rw [q1, q2]; rfl))
                  have HA2 := hide hA2
                  have HO2 := hide hO2
                  clear hd HSM HP hA2 hO2
                  go_wp2_with fail
                  go_region
                  all_goals (try go_wp2)
                  all_goals go_roundw
                  case rel => exact ⟨q + 1, K, by omega, by go_num, rfl, by omega, hide (by rw [show k + 2 + (q + 1) = k + 2 + q + 1 by omega, HO2.out]; exact HKK.out), HA2, hide BA.out.drew⟩
                  case measure => simp [intOf]; omega
                · have q2 := Bool.eq_false_iff.2 q2
                  have HD2 := hide (HP.out (fun h => by have := hd.1 h; rw [q1, q2] at this; exact Bool.false_ne_true this))
                  clear hd HSM HP
                  go_wp2_with fail
                  go_region
                  all_goals (try go_wp2)
                  all_goals go_roundw
                  case rel => exact ⟨q + 1, K + 1, by omega, by go_num, by go_num, by omega, hide (by rw [show k + 2 + (q + 1) = k + 2 + q + 1 by omega]; exact HD2.out.2.symm), hide HD2.out.1, hide ((BA.out.drew.setCell (p := ⟨b, K * 2, none⟩) hB _).setCell (p := ⟨b, K * 2 + 1, none⟩) hB _)⟩
                  case measure => simp [intOf]; omega
              · have q1 := Bool.eq_false_iff.2 q1
                have HD2 := hide (HP.out (fun h => by have := hd.1 h; rw [q1] at this; exact Bool.false_ne_true this))
                clear hd HSM HP
                go_wp2_with fail
                go_region
                all_goals (try go_wp2)
                all_goals go_roundw
                case rel => exact ⟨q + 1, K + 1, by omega, by go_num, by go_num, by omega, hide (by rw [show k + 2 + (q + 1) = k + 2 + q + 1 by omega]; exact HD2.out.2.symm), hide HD2.out.1, hide ((BA.out.drew.setCell (p := ⟨b, K * 2, none⟩) hB _).setCell (p := ⟨b, K * 2 + 1, none⟩) hB _)⟩
                case measure => simp [intOf]; omega
            · have hmN : k + 2 + q = N := by have := HM.out; omega
              have hKN : K < N := by omega
              have hsl := HS.out K (by omega) (by omega)
              have hst := HT.out K (by omega)
              rw [hmN] at HKK HA
              rw [HV.out] at HKK
              obtain ⟨w2, hcl, hkeep, bcl⟩ := clear_run B wr0 b K (N - K) (c - K) 0 hB (by omega) (fun i hi => HA.out.2.2 (K * 2 + i) (by rw [<- HN.out]; omega))
              have HRES : Hid (IsQ w2 (.slice (some ⟨b, 0, none⟩) K c) V) := hide (by
                refine .inr ⟨b, 0, c, by rw [HKK.out], fun j hj => ?_⟩
                have h1 := HA.out.1
                rw [HV.out] at h1
                have h2 := h1 j hj
                rw [<- HKK.out] at hj
                rw [Nat.zero_add, hkeep (j * 2) (by omega), hkeep (j * 2 + 1) (by omega)]
                exact h2)
              have B2 := hide (BA.out.trans bcl)
              have hlt4 : ¬ ((q + 1 : Nat) : Int) < M := by omega
              clear hkeep bcl hq2
              go_wp2
              go_ret
              refine ⟨⟨c, ?_, ?_⟩, B2.out⟩
              · rw [<- HKK.out]; rfl
              · rw [<- HKK.out]; exact HRES.out
        · have q2 := Bool.eq_false_iff.2 q2
          have HF2 := HNX.out (fun h => by have := hd.1 h; rw [q1, q2] at this; exact Bool.false_ne_true this)
          clear hd HNX
          go_wp2_with fail
          go_region
          all_goals (try go_wp2)
          all_goals go_roundw
          case rel => exact ⟨k + 1, by omega, by go_num, HW, hide BW.out.drew, HF2⟩
          case measure => simp [intOf]; omega
      · have q1 := Bool.eq_false_iff.2 q1
        have HF2 := HNX.out (fun h => by have := hd.1 h; rw [q1] at this; exact Bool.false_ne_true this)
        clear hd HNX
        go_wp2_with fail
        go_region
        all_goals (try go_wp2)
        all_goals go_roundw
        case rel => exact ⟨k + 1, by omega, by go_num, HW, hide BW.out.drew, HF2⟩
        case measure => simp [intOf]; omega
    · obtain rfl : N = k + 1 := by omega
      have HV2 : Hid (V = l) := hide (by
        rw [<- HV.out, once_first l (k + 1) (by rw [<- HN.out]; omega) HF.out, HN.out, List.take_length])
      have hlen : V.length = k + 1 := by rw [HV2.out, <- HN.out]
      have HQ2 := hide (HQ.out wr HW.out)
      have HRES : Hid (IsQ wr (.slice (some ⟨b, 0, none⟩) V.length c) V) := hide (by rw [HV2.out, <- HN.out]; exact HQ2.out)
      have HL := hide hlen
      clear hlt hlen HQ2
      go_wp2
      go_ret
      rw [HL.out] at HRES
      refine ⟨⟨c, ?_, ?_⟩, BW.out⟩
      · rw [HL.out]; rfl
      · rw [HL.out]; exact HRES.out
end Go.Proofs.YtfohijnkeefcfaaGreatDoor.S7
namespace Go.Proofs.YtfohijnkeefcfaaGreatDoor.S7
open Go.RowKit Go.Sort
theorem distinct_p (v : Value) (l : AttrL) (hl : l.length <= 900000000) (w : World) (hQ : IsQ w v l) :
    Calls Tryz.prog 263 #[v] w fun e w' => (∃ a c d, e = .returned (.slice a (List.length d) c) /\ IsQ w' (.slice a (List.length d) c) d /\ DistL l d) /\ Below w.heap.size w w' := by
  have hmf : ∀ (fn : Fn) (first cap : Array Value) (w : World), (Instr.makeFunc fn first cap).run Tryz.prog w = .ok (.func fn first cap) w := fun _ _ _ _ => rfl
  have H1 := hide (clone_p v l hl w hQ)
  obtain ⟨a, c, rfl⟩ := isQ_form hQ
  clear hQ
  rcases (by omega : l.length = 0 \/ l.length = 1 \/ 2 <= l.length) with h0 | h0 | h0
  · obtain rfl := List.eq_nil_of_length_eq_zero h0
    simp only [List.length_nil] at H1 ⊢
    have H2 := hide (fun a c w1 => sort_none a c (.func (.func 277) #[] #[]) w1)
    have H3 := hide (fun a c w1 => compact_one a 0 c (by omega) w1)
    clear h0 hl
    go_enter Tryz.func263, Tryz.ntmps263
    go_wp2_with fail
    refine H1.out.mono ?_
    rintro e w1 ⟨⟨a1, c1, rfl, -⟩, b1⟩
    have B1 := hide b1
    clear b1
    go_wp2_with fail
    refine (H2.out _ _ _).mono ?_
    rintro e w2 ⟨rfl, rfl⟩
    go_wp2_with fail
    refine (H3.out _ _ _).mono ?_
    rintro e w3 ⟨rfl, rfl⟩
    go_wp2
    go_ret
    exact ⟨⟨_, _, [], rfl, .inl ⟨rfl, _, _, rfl⟩, List.Pairwise.nil, Nat.le_refl _, fun _ => Iff.rfl⟩, B1.out⟩
  · have H2 := hide (fun b c w1 h1 h2 h3 h4 => sort_p w.heap.size l (by omega) b c w1 h1 h2 h3 h4)
    have H3 := hide (fun a c w1 => compact_one a 1 c (by omega) w1)
    rw [h0] at H1 H2 ⊢
    have HL := hide h0
    clear h0 hl
    go_enter Tryz.func263, Tryz.ntmps263
    go_wp2_with fail
    refine H1.out.mono ?_
    rintro e w1 ⟨⟨a1, c1, rfl, hx⟩, b1⟩
    obtain ⟨g, rfl, hg1, hg2, hg3, hg4⟩ := hx (by omega)
    have B1 := hide b1
    have HG := hide (And.intro hg2 (And.intro hg3 hg4))
    clear b1 hx hg1 hg2 hg3 hg4
    go_wp2_with fail
    refine (H2.out _ _ _ HG.out.1 B1.out.size HG.out.2.1 HG.out.2.2).mono ?_
    rintro e w2 ⟨rfl, ⟨s, hs1, hs2, hs3, hs4⟩, b2⟩
    have HS := hide (And.intro hs1 (And.intro hs2 hs4))
    have B2 := hide b2
    clear hs1 hs2 hs3 hs4 b2
    go_wp2_with fail
    refine (H3.out _ _ _).mono ?_
    rintro e w3 ⟨rfl, rfl⟩
    go_wp2
    go_ret
    obtain ⟨hs1, hs2, hs4⟩ := HS.out
    have hq := rowA_q hs4 c1
    refine ⟨⟨_, c1, s, ?_, hq, ?_, by rw [hs1, HL.out]; exact Nat.le_refl _, hs2⟩, B1.out.trans B2.out⟩
    · rw [hs1]; rfl
    · match s, hs1 with
      | [x], _ => exact List.pairwise_singleton _ _
  · have H2 := hide (fun b c w1 h1 h2 h3 h4 => sort_p w.heap.size l (by omega) b c w1 h1 h2 h3 h4)
    have H3 := hide (fun (s : AttrL) (hs : s.length = l.length) b c (hc : l.length <= c) w1 (hB : w.heap.size <= b) hR => compact_p w.heap.size s (by omega) (by omega) b c (by omega) w1 hB hR)
    have H4 : Hid (∀ (s : AttrL), s.length = l.length -> (∀ x, x ∈ s ↔ x ∈ l) -> (∀ i j (hi : i < s.length) (hj : j < s.length), i < j -> ltOf cmpA s[j] s[i] = false) -> DistL l (onceK s s.length)) := hide fun s h1 h2 h3 => ⟨once_up s h3 _ (Nat.le_refl _), by have := once_len s s.length; omega, fun x => by rw [once_mem s _ (Nat.le_refl _), List.take_length]; exact h2 x⟩
    obtain ⟨N, hN⟩ : ∃ N, N = l.length := ⟨_, rfl⟩
    rw [<- hN] at H1 H2 H3 H4 ⊢
    have HN : Hid (0 < N) := hide (by omega)
    have HNL := hide hN
    clear h0 hl hN
    go_enter Tryz.func263, Tryz.ntmps263
    go_wp2_with fail
    refine H1.out.mono ?_
    rintro e w1 ⟨⟨a1, c1, rfl, hx⟩, b1⟩
    obtain ⟨g, rfl, hg1, hg2, hg3, hg4⟩ := hx HN.out
    have B1 := hide b1
    have HG := hide (And.intro hg2 (And.intro hg3 hg4))
    have HC := hide hg1
    clear b1 hx hg1 hg2 hg3 hg4
    go_wp2_with fail
    refine (H2.out _ _ _ HG.out.1 B1.out.size HG.out.2.1 HG.out.2.2).mono ?_
    rintro e w2 ⟨rfl, ⟨s, hs1, hs2, hs3, hs4⟩, b2⟩
    have hs1' : s.length = N := by rw [hs1, HNL.out]
    have H5 := hide (H3.out s hs1' g c1 HC.out w2 HG.out.1 hs4)
    have HD := hide (H4.out s hs1' hs2 hs3)
    rw [hs1'] at H5 HD
    have B2 := hide b2
    generalize onceK s N = D at *
    clear hs1 hs2 hs3 hs4 b2 hs1'
    go_wp2_with fail
    refine H5.out.mono ?_
    rintro e w3 ⟨⟨c3, rfl, hq⟩, b3⟩
    go_wp2
    go_ret
    exact ⟨⟨_, c3, D, rfl, hq, HD.out⟩, (B1.out.trans B2.out).trans b3⟩
theorem alike_p (va vb : Value) (l r : AttrL) (hl : l.length <= 400000000) (hr : r.length <= 400000000) (w : World) (hA : IsQ w va l) (hB : IsQ w vb r) :
    Calls Tryz.prog 240 #[va, vb] w fun e w' => e = .returned (.bool (alikeL l r)) /\ Below w.heap.size w w' := by
  have H1 := hide (fun w1 (b : Below w.heap.size w w1) => distinct_p va l (by omega) w1 (hA.below b))
  have H2 := hide (fun w1 (b : Below w.heap.size w w1) => distinct_p vb r (by omega) w1 (hB.below b))
  obtain ⟨a1, c1, rfl⟩ := isQ_form hA
  obtain ⟨a2, c2, rfl⟩ := isQ_form hB
  clear hA hB
  by_cases hlr : l.length = r.length
  · have H3 : Hid (∀ d1 d2 (v1 v2 : Value) w1, DistL l d1 -> DistL r d2 -> IsQ w1 v1 d1 -> IsQ w1 v2 d2 -> Calls Tryz.prog 56 #[v1, v2] w1 fun e w' => e = .returned (.bool (alikeL l r)) /\ Below w1.heap.size w1 w') := hide fun d1 d2 v1 v2 w1 h1 h2 q1 q2 => by
      rw [alike_dist l r d1 d2 h1 h2 hlr]
      exact equal_p v1 v2 d1 d2 (by have := h1.2.1; omega) (by have := h2.2.1; omega) w1 q1 q2
    generalize alikeL l r = V at *
    rw [hlr] at H1 ⊢
    obtain ⟨N, hN⟩ : ∃ N, N = r.length := ⟨_, rfl⟩
    rw [<- hN] at H1 H2 ⊢
    clear hN hlr hl hr
    go_enter Tryz.func240, Tryz.ntmps240
    go_wp2_with fail
    refine (H1.out _ (Below.refl _ _)).mono ?_
    rintro e w1 ⟨⟨b1, k1, d1, rfl, q1, m1⟩, bb1⟩
    have Q1 := hide q1
    have M1 := hide m1
    have B1 := hide bb1
    clear q1 m1 bb1
    generalize hn1 : List.length d1 = n1 at *
    clear hn1
    go_wp2_with fail
    refine (H2.out _ B1.out).mono ?_
    rintro e w2 ⟨⟨b2, k2, d2, rfl, q2, m2⟩, bb2⟩
    have H4 := hide (H3.out d1 d2 _ _ w2 M1.out m2 (Q1.out.below bb2) q2)
    have B2 := hide (B1.out.trans (bb2.mono B1.out.size))
    clear q2 m2 bb2
    generalize hn2 : List.length d2 = n2 at *
    clear hn2
    go_wp2_with fail
    refine H4.out.mono ?_
    rintro e w3 ⟨rfl, bb3⟩
    go_wp2
    go_ret
    exact ⟨rfl, B2.out.trans (bb3.mono B2.out.size)⟩
  · have hV : alikeL l r = false := by
      have : ¬ alikeL l r = true := fun h => hlr ((alike_iff l r).1 h).1
      exact Bool.eq_false_iff.2 this
    rw [hV]
    have h2 : ¬ (l.length : Int) = r.length := by omega
    have h3 := ne_int _ _ h2
    generalize l.length = N at *
    generalize r.length = M at *
    go_enter Tryz.func240, Tryz.ntmps240
    go_wp2
    go_ret
    exact ⟨rfl, Below.refl _ _⟩
end Go.Proofs.YtfohijnkeefcfaaGreatDoor.S7
namespace Go.Proofs.YtfohijnkeefcfaaGreatDoor.S7
open Go.RowKit
def likeK (l : List MV) (m : MV) : Nat -> List Nat
  | 0 => []
  | k + 1 => likeK l m k ++ (if behindL l <= k /\ (l[k]?).any (likeM m) = true then [k] else [])
theorem likeK_hit (l : List MV) (m : MV) (k : Nat) (h : k < l.length) (hb : behindL l <= k) (hp : likeM m l[k] = true) : likeK l m (k + 1) = likeK l m k ++ [k] := by
  rw [likeK, if_pos ⟨hb, by rw [any_at _ l k h]; exact hp⟩]
theorem likeK_miss (l : List MV) (m : MV) (k : Nat) (h : k < l.length) (hp : likeM m l[k] = false) : likeK l m (k + 1) = likeK l m k := by
  rw [likeK, if_neg (fun h2 => by rw [any_at _ l k h, hp] at h2; exact Bool.false_ne_true h2.2), List.append_nil]
theorem likeK_ahead (l : List MV) (m : MV) : ∀ k, k <= behindL l -> likeK l m k = [] := by
  intro k
  induction k with
  | zero => intro _; rfl
  | succ k ih => intro h; rw [likeK, if_neg (fun h2 => by omega), ih (by omega)]; rfl
theorem likeK_len (l : List MV) (m : MV) : ∀ k, (likeK l m k).length <= k := by
  intro k
  induction k with
  | zero => exact Nat.le_refl _
  | succ k ih =>
    rw [likeK, List.length_append]
    split
    · simp; omega
    · simp; omega
theorem first_app_some (p : MV -> Bool) : ∀ (T : List MV) (x : MV) (j : Nat), firstO p T = some j -> firstO p (T ++ [x]) = some j
  | [], x, j, h => by simp [firstO] at h
  | y :: r, x, j, h => by
    rw [List.cons_append, firstO]
    rw [firstO] at h
    split at h
    · rename_i h1; rw [if_pos h1]; exact h
    · rename_i h1
      rw [if_neg h1]
      cases hr : firstO p r with
      | none => rw [hr] at h; simp at h
      | some i => rw [hr] at h; rw [first_app_some p r x i hr]; exact h
theorem first_app_miss (p : MV -> Bool) : ∀ (T : List MV) (x : MV), p x = false -> firstO p (T ++ [x]) = firstO p T
  | [], x, h => by simp [firstO, h]
  | y :: r, x, h => by rw [List.cons_append, firstO, firstO, first_app_miss p r x h]
theorem likeK_count (l : List MV) (m : MV) : ∀ k, k <= l.length -> (likeK l m k).length = ((l.take k).drop (behindL l)).countP (likeM m) /\ (likeK l m k).head? = (firstO (likeM m) ((l.take k).drop (behindL l))).map (· + behindL l) := by
  intro k
  induction k with
  | zero => intro _; simp [likeK, firstO]
  | succ k ih =>
    intro hk
    have hk2 : k < l.length := by omega
    obtain ⟨ih1, ih2⟩ := ih (by omega)
    by_cases hb : behindL l <= k
    · have e : (l.take (k + 1)).drop (behindL l) = (l.take k).drop (behindL l) ++ [l[k]] := by
        rw [List.take_succ_eq_append_getElem hk2, List.drop_append_of_le_length (by rw [List.length_take]; omega)]
      have hlen : ((l.take k).drop (behindL l)).length = k - behindL l := by rw [List.length_drop, List.length_take]; omega
      rw [e]
      generalize (l.take k).drop (behindL l) = T at *
      cases hp : likeM m l[k] with
      | true =>
        rw [likeK_hit l m k hk2 hb hp]
        refine ⟨by simp [ih1, hp], ?_⟩
        cases hF : firstO (likeM m) T with
        | none =>
          rw [hF] at ih2
          have hnil : likeK l m k = [] := by
            cases hL : likeK l m k with
            | nil => rfl
            | cons x r => rw [hL] at ih2; simp at ih2
          rw [hnil, first_app_none _ _ _ (first_none _ _ hF)]
          simp [firstO, hp, hlen]
          omega
        | some j =>
          rw [hF] at ih2
          have e2 := first_app_some (likeM m) T l[k] j hF
          rw [e2]
          cases hL : likeK l m k with
          | nil => rw [hL] at ih2; simp at ih2
          | cons x r => rw [hL] at ih2; rw [List.cons_append]; exact ih2
      | false =>
        rw [likeK_miss l m k hk2 hp]
        refine ⟨by simp [ih1, hp], ?_⟩
        rw [ih2, first_app_miss (likeM m) T l[k] hp]
    · rw [likeK_ahead l m (k + 1) (by omega)]
      rw [List.drop_eq_nil_of_le (by rw [List.length_take]; omega)]
      simp [firstO]
theorem gone_like (l : List MV) (m : MV) : placeZ (goneO l m) = if m.id = 0 \/ (likeK l m l.length).length < 3 then -1 else placeZ (likeK l m l.length).head? := by
  obtain ⟨h1, h2⟩ := likeK_count l m l.length (Nat.le_refl _)
  rw [List.take_length] at h1 h2
  rw [h1, h2]
  unfold goneO tailM
  split <;> rfl
def intCells (zs : List Nat) : List Value := zs.map fun (z : Nat) => Value.int .i64 (z : Int)
theorem intCells_app (a b : List Nat) : intCells (a ++ b) = intCells a ++ intCells b := by simp [intCells]
theorem append_int (W : World) (B n : Nat) (v : Value) (zs : List Nat) (i : Nat) (hown : W.ownsRow B 3 1 v n (intCells zs)) (hl : n <= 2000000000) (hB : B <= W.heap.size) :
    ∃ v' w', (Builtin.append_ #[22, 22] 22 #[v, .slice (some ⟨W.heap.size, 0, none⟩) 1 1]).run Tryz.prog (W.alloc (.cells #[.int .i64 (i : Int)] 3)) = .ok v' w' /\ w'.ownsRow B 3 1 v' (n + 1) (intCells (zs ++ [i])) /\ Below B W w' := by
  have b0 := below_alloc W (.cells #[.int .i64 (i : Int)] 3)
  obtain ⟨v', w', hr, ho, hg, _⟩ := run_append_own (P := Tryz.prog) (W.alloc (.cells #[.int .i64 (i : Int)] 3)) B 22 22 3 Tryz.t3 _ 1 8 Tryz.underlying22 (by kernel_rfl) rfl (by kernel_rfl) (by kernel_rfl) (by kernel_rfl) (by omega)
      v n (intCells zs) (owns_below hown b0) ⟨W.heap.size, 0, none⟩ 1 1 [.int .i64 (i : Int)] rfl
      (by
        intro j u hu
        have hj : j < 1 := (List.getElem?_eq_some_iff.1 hu).1
        obtain rfl : j = 0 := by omega
        rw [addr_add, Nat.zero_add, <- hu]; simp [go_sem])
      (by
        intro u hu
        simp only [List.mem_cons, List.not_mem_nil, or_false] at hu
        subst hu; rfl) (by unfold maxLen; omega) (by omega) (by simp; omega)
  refine ⟨v', w', hr, ?_, (b0.mono hB).grown hg (by simp; omega) (owns_own hown)⟩
  rw [intCells_app]
  exact ho
theorem owns_head {w : World} {B n c : Nat} {a : Option Addr} {z : Nat} {zs : List Nat} (h : w.ownsRow B 3 1 (.slice a n c) n (intCells (z :: zs))) : ∃ g, a = some ⟨g, 0, none⟩ /\ w.cell? ⟨g, 0, none⟩ = some (.int .i64 (z : Int)) := by
  have hl := h.1
  rcases h.2 with ⟨e, h0⟩ | ⟨g, cap, cur, e, _⟩
  · subst h0
    simp [intCells] at hl
  · simp only [Value.slice.injEq] at e
    obtain ⟨rfl, -, -⟩ := e
    have := h.cells (g := g) (by rfl) 0 _ (by rfl)
    rw [addr_add] at this
    exact ⟨g, rfl, this⟩
theorem owns_len {w : World} {B n : Nat} {v : Value} {zs : List Nat} (h : w.ownsRow B 3 1 v n (intCells zs)) : zs.length = n := by
  have := h.1
  simpa [intCells] using this
theorem surplus_p (v : Value) (l : List MV) (hs : SmallM l) (m : MV) (hma : m.aa.length <= 400000000) (w : World) (hM : RowM w v l) (hOk : OkM w l) (hm : IsQ w m.av m.aa) :
    Calls Tryz.prog 216 #[v, .agg #[.int .i64 m.id, .string m.nm, m.av]] w fun e w' => e = .returned (.int .i64 (placeZ (goneO l m))) /\ Below w.heap.size w w' := by
  have hl : l.length <= 400000000 := hs.1
  obtain ⟨ma, mc, hmv⟩ := isQ_form hm
  have H0 := hide (fun w1 => marker_p m ma _ mc hmv w1)
  have hB : placeZ (lastG markerM l l.length) = (behindL l : Int) - 1 := by
    have := behind_last markerM l l.length
    unfold behindL
    omega
  have H1 := hide (fun w1 (b : Below w.heap.size w w1) => lastMarker_p l (by omega) v w1 (hM.below b) (hOk.below b))
  rw [hB] at H1
  have H2 := hide (fun (x : MV) (hx : x ∈ l) w1 (b : Below w.heap.size w w1) => alike_p x.av m.av x.aa m.aa (hs.2 x hx) hma w1 ((hOk x hx).below b) (hm.below b))
  obtain ⟨a, c, rfl⟩ := rowM_form hM
  have HM := hide hM
  have HOK := hide hOk
  have hbl := behind_len l
  have HBX := hide (fun w1 (b : Below (w.heap.size + 1) (boxM w m.id m.nm m.av) w1) => And.intro (boxM_below w _ _ _ b) (boxM_cells w m.id m.nm m.av b))
  have BA : Hid (Below (w.heap.size + 1) (boxM w m.id m.nm m.av) (boxM w m.id m.nm m.av)) := hide (Below.refl _ _)
  have HLIKE : Hid (∀ x, likeM m x = (x.nm.data.toList == m.nm.data.toList && alikeL x.aa m.aa)) := hide fun x => rfl
  have HG := hide (gone_like l m)
  have HKH := hide (fun k h hb hp => likeK_hit l m k h hb hp)
  have HKM := hide (fun k h hp => likeK_miss l m k h hp)
  have HK0 := hide (likeK_ahead l m (behindL l) (Nat.le_refl _))
  have HKL := hide (likeK_len l m)
  have HEQ : Hid (∀ x : ByteArray, (x.toList == m.nm.toList) = (x.data.toList == m.nm.data.toList)) := hide fun x => by rw [Lib.toList_data, Lib.toList_data]
  have HMK : Hid (markerM m = (m.id == 0)) := hide rfl
  rw [HMK.out] at H0
  obtain ⟨N, hNl⟩ : ∃ N, N = l.length := ⟨_, rfl⟩
  rw [<- hNl] at HM H1 HG hl hbl ⊢
  have HNL := hide hNl
  clear hNl hs hM hOk hm hB HMK
  rw [hmv] at BA HBX H2 H0 ⊢
  generalize m.id = id at *
  generalize m.nm = nm at *
  generalize m.aa.length = ml at *
  generalize placeZ (goneO l m) = GZ at *
  generalize likeK l m = KK at *
  generalize behindL l = B at *
  clear hmv
  by_cases h0 : id = 0
  · subst h0
    have HGZ : Hid (GZ = -1) := hide (by rw [HG.out, if_pos (.inl rfl)])
    simp only [beq_self_eq_true] at H0
    go_enter Tryz.func216, Tryz.ntmps216
    go_wp2_with fail
    refine (H0.out _).mono ?_
    rintro e w1 ⟨rfl, b1⟩
    have B1 := hide (box_below w _ b1)
    clear b1
    go_wp2
    go_ret
    exact ⟨ret_int HGZ.out.symm, B1.out⟩
  · have h0' := ne_int id 0 h0
    rw [h0'] at H0
    have HG2 : Hid (GZ = if (KK N).length < 3 then -1 else placeZ (KK N).head?) := hide (by
      rw [HG.out]
      by_cases h : (KK N).length < 3
      · rw [if_pos (.inr h), if_pos h]
      · rw [if_neg (by rintro (h1 | h1); exact h0 h1; exact h h1), if_neg h])
    clear HG
    go_enter Tryz.func216, Tryz.ntmps216
    go_wp2_with fail
    refine (H0.out _).mono ?_
    rintro e w1 ⟨rfl, b1⟩
    have B1 : Hid (Below (w.heap.size + 1) (boxM w id nm (.slice ma ml mc)) w1) := hide (b1.mono (by simp))
    clear b1
    go_wp2_with fail
    refine (H1.out _ (HBX.out _ B1.out).1).mono ?_
    rintro e w2 ⟨rfl, b2⟩
    have B2 : Hid (Below (w.heap.size + 1) (boxM w id nm (.slice ma ml mc)) w2) := hide (B1.out.trans (b2.mono (by have := B1.out.size; rw [boxM_size] at this; exact this)))
    clear b2
    go_wp2_with fail
    go_loopw [5, 6] (fun sm i wr => ∃ (k n : Nat) (a3 : Option Addr) (c3 : Nat), B <= k /\ k <= N /\ sm = .slice a3 n c3 /\ i = .int .i64 (k : Int) /\ Hid (wr.ownsRow (w.heap.size + 1) 3 1 (.slice a3 n c3) n (intCells (KK k))) /\ Hid (Below (w.heap.size + 1) (boxM w id nm (.slice ma ml mc)) wr)) (fun _ i _ => N - (intOf i).toNat)
    case atStart => exact ⟨B, 0, none, 0, Nat.le_refl _, hbl, rfl, rfl, hide (by rw [HK0.out]; exact World.ownsRow_nil _ _ _ _), B2⟩
    case round =>
      obtain ⟨k, n, a3, c3, hBk, hkN, rfl, rfl, HOW, BW⟩ := hrel
      obtain ⟨bb, d0, d1, d2⟩ := HBX.out _ BW.out
      have hnk : n <= k := by
        have h1 := owns_len HOW.out
        have h2 := HKL.out k
        omega
      by_cases hlt : k < N
      · have hj : k < l.length := by rw [<- HNL.out]; exact hlt
        have hjN : (k : Int) < N := by omega
        obtain ⟨b, o, rfl, c0, c1, c2⟩ := (HM.out.below bb).get k hj
        have HAL := hide (H2.out l[k] (List.getElem_mem hj))
        have HSC0 : Hid (∀ W', Below (w.heap.size + 1) (boxM w id nm (.slice ma ml mc)) W' -> W'.cell? ⟨b, o + k * 3 + 1, none⟩ = some (.string l[k].nm) /\ W'.cell? ⟨b, o + k * 3 + 2, none⟩ = some l[k].av /\ W'.cell? ⟨w.heap.size, 1, none⟩ = some (.string nm) /\ W'.cell? ⟨w.heap.size, 2, none⟩ = some (.slice ma ml mc)) := hide fun W' h => by
          obtain ⟨bw', -, p1, p2⟩ := HBX.out W' h
          obtain ⟨b', o', e, -, h1, h2⟩ := (HM.out.below bw').get k hj
          simp only [Option.some.injEq, Addr.mk.injEq, and_true] at e
          obtain ⟨rfl, rfl⟩ := e
          exact ⟨h1, h2, p1, p2⟩
        have hlk := HLIKE.out l[k]
        rw [<- HEQ.out l[k].nm] at hlk
        have f1 := HKH.out k hj hBk
        have f2 := HKM.out k hj
        rw [hlk] at f1 f2
        obtain ⟨qa, qc, hqa⟩ := isQ_form (HOK.out.at_ k hj)
        rw [hqa] at c2 HAL HSC0
        generalize alikeL l[k].aa m.aa = AL at *
        generalize l[k].nm = X at *
        generalize l[k].id = idj at *
        generalize l[k].aa.length = ql at *
        have F1 := hide f1
        have F2 := hide f2
        clear f1 f2 hlk hqa hj
        cases hX : (X.toList == nm.toList) with
        | false =>
          have HF := hide (F2.out (by rw [hX, Bool.false_and]))
          clear F1 F2
          go_wp2_with fail
          go_region
          all_goals (try go_wp2)
          all_goals go_roundw
          case rel => exact ⟨k + 1, n, a3, c3, by omega, by omega, rfl, by go_num, hide (by rw [HF.out]; exact HOW.out), hide BW.out.drew⟩
          case measure => simp [intOf]; omega
        | true =>
          obtain rfl : X = nm := by
            have h := beq_iff_eq.1 hX
            rw [Lib.toList_data, Lib.toList_data] at h
            cases X
            cases nm
            simpa [Array.toList_inj] using h
          have HAL2 := hide (HAL.out wr.drew bb.drew)
          have DD := hide BW.out.drew
          have HOD : Hid (wr.drew.ownsRow (w.heap.size + 1) 3 1 (.slice a3 n c3) n (intCells (KK k))) := HOW
          have HSZ : Hid (w.heap.size + 1 <= wr.drew.heap.size) := hide (by have := DD.out.size; rw [boxM_size] at this; exact this)
          clear c0 c1 c2 d1 d2
          cases AL with
          | false =>
            have HF := hide (F2.out (by rw [hX]; rfl))
            clear F1 F2
            go_wp2_with fail
            go_region_held2 (fun W' => W'.cell? ⟨b, o + k * 3 + 1, none⟩ = some (.string X) /\ W'.cell? ⟨b, o + k * 3 + 2, none⟩ = some (.slice qa ql qc) /\ W'.cell? ⟨w.heap.size, 1, none⟩ = some (.string X) /\ W'.cell? ⟨w.heap.size, 2, none⟩ = some (.slice ma ml mc)) (first | with_reducible exact HSC0.out _ DD.out | with_reducible exact HSC0.out _ B3.out) (first | (go_at_call 240; refine HAL2.out.mono ?_; rintro e w3 ⟨rfl, b3⟩; have B3 := hide (DD.out.trans (b3.mono HSZ.out)); have HO3 := hide (owns_below HOD.out b3); clear b3))
            go_wp2
            go_roundw
            case rel => exact ⟨k + 1, n, a3, c3, by omega, by omega, rfl, by go_num, hide (by rw [HF.out]; exact HO3.out), B3⟩
            case measure => simp [intOf]; omega
          | true =>
            have HF := hide (F1.out (by rw [hX]; rfl))
            clear F1 F2
            go_wp2_with fail
            go_region_held2 (fun W' => W'.cell? ⟨b, o + k * 3 + 1, none⟩ = some (.string X) /\ W'.cell? ⟨b, o + k * 3 + 2, none⟩ = some (.slice qa ql qc) /\ W'.cell? ⟨w.heap.size, 1, none⟩ = some (.string X) /\ W'.cell? ⟨w.heap.size, 2, none⟩ = some (.slice ma ml mc)) (first | with_reducible exact HSC0.out _ DD.out | with_reducible exact HSC0.out _ B3.out) (first | (go_at_call 240; refine HAL2.out.mono ?_; rintro e w3 ⟨rfl, b3⟩; have B3 := hide (DD.out.trans (b3.mono HSZ.out)); have HO3 := hide (owns_below HOD.out b3); clear b3))
            obtain ⟨v4, w4, hr4, ho4, b4⟩ := append_int w3 (w.heap.size + 1) n (.slice a3 n c3) (KK k) k HO3.out (by omega) (by have := B3.out.size; rw [boxM_size] at this; exact this)
            obtain ⟨a4, c4, rfl⟩ := owns_form ho4
            have HR4 := hide hr4
            have HO4 := hide ho4
            have B4 := hide (B3.out.trans b4)
            clear hr4 ho4 b4
            go_wp2_with (with_reducible refine wpList_append_run rfl _ _ 22 rfl (.slice a3 n c3) (.slice (some ⟨w3.heap.size, 0, none⟩) 1 1) _ w4 rfl rfl HR4.out ?_)
            go_roundw
            case rel => exact ⟨k + 1, n + 1, a4, c4, by omega, by omega, rfl, by go_num, hide (by rw [HF.out]; exact HO4.out), B4⟩
            case measure => simp [intOf]; omega
      · obtain rfl : k = N := by omega
        have hjN : ¬ (k : Int) < (k : Int) := by omega
        have hlen := owns_len HOW.out
        by_cases h3 : n < 3
        · have h3' : (n : Int) < 3 := by omega
          have HGZ : Hid (GZ = -1) := hide (by rw [HG2.out, if_pos (by omega)])
          clear hlen hlt
          go_wp2
          go_ret
          exact ⟨ret_int HGZ.out.symm, bb⟩
        · have h3' : ¬ (n : Int) < 3 := by omega
          have h4 : (0 : Int) < n := by omega
          obtain ⟨z, zs, hz⟩ : ∃ z zs, KK k = z :: zs := by
            cases hK : KK k with
            | nil => rw [hK] at hlen; simp at hlen; omega
            | cons z zs => exact ⟨z, zs, rfl⟩
          have HGZ : Hid (GZ = (z : Int)) := hide (by rw [HG2.out, if_neg (by omega), hz]; rfl)
          have ho := HOW.out
          rw [hz] at ho
          obtain ⟨g, rfl, hg⟩ := owns_head ho
          clear hlen hlt ho hz
          go_wp2
          go_ret
          exact ⟨ret_int HGZ.out.symm, bb⟩
theorem push_p (v : Value) (l : List MV) (hs : SmallM l) (m : MV) (hma : m.aa.length <= 400000000) (w : World) (hM : RowM w v l) (hOk : OkM w l) (hm : IsQ w m.av m.aa) :
    Calls Tryz.prog 175 #[v, .agg #[.int .i64 m.id, .string m.nm, m.av]] w fun e w' => (∃ v', e = .returned v' /\ NewM w.heap.size w' v' (pushL l m)) /\ Below w.heap.size w w' := by
  have hl : l.length <= 400000000 := hs.1
  have H1 := hide (fun w1 (b : Below w.heap.size w w1) => surplus_p v l hs m hma w1 (hM.below b) (hOk.below b) (hm.below b))
  have H2 := hide (fun k (hk : k < l.length) w1 (b : Below w.heap.size w w1) => without_p v l (by omega) k hk w1 (hM.below b) (hOk.below b))
  have H3 := hide (fun u (r : List MV) (hr : r.length <= l.length) w1 (b : Below w.heap.size w w1) (hu : RowM w1 u r) => grown_p u r (by omega) m w1 hu (hm.below b))
  have HR := hide (fun w1 (b : Below w.heap.size w w1) => hM.below b)
  have HBX := hide (fun w1 (b : Below (w.heap.size + 1) (boxM w m.id m.nm m.av) w1) => And.intro (boxM_below w _ _ _ b) (boxM_cells w m.id m.nm m.av b))
  have BA : Hid (Below (w.heap.size + 1) (boxM w m.id m.nm m.av) (boxM w m.id m.nm m.av)) := hide (Below.refl _ _)
  have HSZ : Hid (∀ w1, Below (w.heap.size + 1) (boxM w m.id m.nm m.av) w1 -> w.heap.size + 1 <= w1.heap.size) := hide fun w1 b => by have := b.size; rw [boxM_size] at this; exact this
  obtain ⟨a, c, rfl⟩ := rowM_form hM
  obtain ⟨ma, mc, hmv⟩ := isQ_form hm
  have HP : Hid (pushL l m = withoutZ l (placeZ (goneO l m)) ++ [m]) := hide rfl
  cases hG : goneO l m with
  | none =>
    rw [hG] at H1 HP
    have e : withoutZ l (placeZ none) = l := by unfold withoutZ; rw [if_pos (by simp [placeZ])]
    rw [e] at HP
    have H4 := hide (fun w1 b => H3.out _ l (Nat.le_refl _) w1 b (HR.out w1 b))
    rw [<- HP.out] at H4
    simp only [placeZ] at H1
    rw [hmv] at H1 H4 BA HBX HSZ ⊢
    generalize pushL l m = PL at *
    generalize m.id = id at *
    generalize m.nm = nm at *
    generalize m.aa.length = ml at *
    clear hM hOk hm hs e hG HP H2 H3 HR hmv
    generalize l.length = N at *
    go_enter Tryz.func175, Tryz.ntmps175
    go_wp2_with fail
    refine (H1.out _ (HBX.out _ BA.out).1).mono ?_
    rintro e w1 ⟨rfl, b1⟩
    have B1 : Hid (Below (w.heap.size + 1) (boxM w id nm (.slice ma ml mc)) w1) := hide (BA.out.trans (b1.mono (HSZ.out _ BA.out)))
    obtain ⟨bb, d0, d1, d2⟩ := HBX.out _ B1.out
    clear b1
    go_wp2_with fail
    refine (H4.out _ bb).mono ?_
    rintro e w2 ⟨⟨v', rfl, hN⟩, b2⟩
    obtain ⟨a4, c4, rfl⟩ := new_form hN
    have HN := hide (hN.mono bb.size)
    have B2 := hide (bb.trans (b2.mono bb.size))
    clear hN b2
    go_wp2
    go_ret
    exact ⟨⟨_, rfl, HN.out⟩, B2.out⟩
  | some k =>
    rw [hG] at H1 HP
    have hk : k < l.length := by
      unfold goneO at hG
      split at hG
      · cases hG
      · cases hF : firstO (likeM m) (tailM l) with
        | none => rw [hF] at hG; cases hG
        | some j =>
          rw [hF] at hG
          obtain ⟨hj, -⟩ := first_some _ _ _ hF
          simp only [Option.map_some, Option.some.injEq] at hG
          unfold tailM at hj
          rw [List.length_drop] at hj
          omega
    have e : withoutZ l (placeZ (some k)) = l.eraseIdx k := by unfold withoutZ; rw [if_neg (by simp [placeZ])]; rfl
    rw [e] at HP
    have H4 := hide (fun u w1 b hu => H3.out u (l.eraseIdx k) (List.length_eraseIdx_le l k) w1 b hu)
    have H5 := hide (fun w1 b => H2.out k hk w1 b)
    rw [<- HP.out] at H4
    simp only [placeZ] at H1
    rw [hmv] at H1 H4 BA HBX HSZ ⊢
    generalize pushL l m = PL at *
    generalize m.id = id at *
    generalize m.nm = nm at *
    generalize m.aa.length = ml at *
    generalize l.eraseIdx k = R at *
    clear hM hOk hm hs e hG HP H2 H3 HR hmv hk
    generalize l.length = N at *
    have hk1 : ¬ (k : Int) = -1 := by omega
    have hk2 : ((k : Int) == -1) = false := by simp
    go_enter Tryz.func175, Tryz.ntmps175
    go_wp2_with fail
    refine (H1.out _ (HBX.out _ BA.out).1).mono ?_
    rintro e w1 ⟨rfl, b1⟩
    have B1 : Hid (Below (w.heap.size + 1) (boxM w id nm (.slice ma ml mc)) w1) := hide (BA.out.trans (b1.mono (HSZ.out _ BA.out)))
    obtain ⟨bb, d0, d1, d2⟩ := HBX.out _ B1.out
    have HCE : Hid (∀ W, Below (w.heap.size + 1) (boxM w id nm (.slice ma ml mc)) W -> W.cell? ⟨w.heap.size, 0, none⟩ = some (.int .i64 id) /\ W.cell? ⟨w.heap.size, 1, none⟩ = some (.string nm) /\ W.cell? ⟨w.heap.size, 2, none⟩ = some (.slice ma ml mc)) := hide fun W b => (HBX.out W b).2
    have DD := hide B1.out.drew
    have D1 := hide bb.drew
    clear b1 d0 d1 d2 bb
    go_wp2_with fail
    go_region_held2 (fun W' => W'.cell? ⟨w.heap.size, 0, none⟩ = some (.int .i64 id) /\ W'.cell? ⟨w.heap.size, 1, none⟩ = some (.string nm) /\ W'.cell? ⟨w.heap.size, 2, none⟩ = some (.slice ma ml mc)) (first | with_reducible exact HCE.out _ DD.out | with_reducible exact HCE.out _ B2.out | with_reducible exact HCE.out _ B3.out) (first | (go_at_call 218; refine (H5.out _ D1.out).mono ?_; rintro e w2 ⟨⟨v2, rfl, hN⟩, b2⟩; obtain ⟨a4, c4, rfl⟩ := new_form hN; have R2 := hide hN.row; have B2 := hide (DD.out.trans (b2.mono (HSZ.out _ DD.out))); have D2 := hide (D1.out.trans (b2.mono D1.out.size)); clear hN b2) | (go_at_call 217; refine (H4.out _ _ D2.out R2.out).mono ?_; rintro e w3 ⟨⟨v3, rfl, hN⟩, b3⟩; obtain ⟨a5, c5, rfl⟩ := new_form hN; have R3 := hide (hN.mono D2.out.size); have B3 := hide (B2.out.trans (b3.mono (HSZ.out _ B2.out))); have D3 := hide (D2.out.trans (b3.mono D2.out.size)); clear hN b3))
    go_wp2
    go_ret
    exact ⟨⟨_, rfl, R3.out⟩, D3.out⟩
end Go.Proofs.YtfohijnkeefcfaaGreatDoor.S7
