import Derived.Test.YthpepkfodcgbcaaWxA
/- WalKeeps: the list of what was appended, in a row of the statement's own, beside a log of the program's. -/
set_option linter.unusedVariables false
set_option linter.unusedSimpArgs false
set_option maxRecDepth 40000
namespace Go.Proofs.Ythpepkfodcgbcaa
open Go.RowKit

/-- A row of rows that may be appended to. -/
def AllRow (B : Nat) (w : World) (v : Value) (l : List (Bs × Value)) : Prop := (l = [] ∧ v = .slice none 0 0) ∨ ∃ g cap cur, v = .slice (some ⟨g, 0, none⟩) l.length cap ∧ B ≤ g ∧ w.heap[g]? = some (.cells cur 43 (0, 0)) ∧ l.length ≤ cap ∧ cap ≤ cur.size ∧ ∀ j (hj : j < l.length), cur[j]? = some l[j].2
theorem AllRow.form {B : Nat} {w : World} {v : Value} {l : List (Bs × Value)} (h : AllRow B w v l) : ∃ a c, v = .slice a l.length c := by
  rcases h with ⟨rfl, rfl⟩ | ⟨g, cap, cur, rfl, _⟩
  · exact ⟨none, 0, rfl⟩
  · exact ⟨_, _, rfl⟩
theorem AllRow.keep {B : Nat} {w x : World} {v : Value} {l : List (Bs × Value)} (h : AllRow B w v l) (hk : ∀ k, v.ownBlock = some k → x.heap[k]? = w.heap[k]?) : AllRow B x v l := by
  rcases h with h | ⟨g, cap, cur, rfl, h1, h2, h3⟩
  · exact .inl h
  · exact .inr ⟨g, cap, cur, rfl, h1, (hk g rfl).trans h2, h3⟩
theorem AllRow.lt {B : Nat} {w : World} {v : Value} {l : List (Bs × Value)} (h : AllRow B w v l) : ∀ k, v.ownBlock = some k → B ≤ k ∧ k < w.heap.size := by
  rcases h with ⟨_, rfl⟩ | ⟨g, cap, cur, rfl, h1, h2, _⟩
  · intro k hk; cases hk
  · intro k hk
    cases hk
    exact ⟨h1, (Array.getElem?_eq_some_iff.1 h2).1⟩
theorem AllRow.cells {B : Nat} {w : World} {a : Option Addr} {n c : Nat} {l : List (Bs × Value)} (h : AllRow B w (.slice a n c) l) : (l = [] ∧ a = none) ∨ ∃ g, a = some ⟨g, 0, none⟩ ∧ B ≤ g ∧ ∀ j (hj : j < l.length), w.cell? ⟨g, j, none⟩ = some l[j].2 := by
  rcases h with ⟨h1, h2⟩ | ⟨g, cap, cur, e, h1, h2, h3, h4, h5⟩
  · cases h2; exact .inl ⟨h1, rfl⟩
  · injection e with e1
    exact .inr ⟨g, e1, h1, fun j hj => by rw [cell_of_row w g j _ _ _ h2]; exact h5 j hj⟩
/-- all[:k:k]. -/
theorem AllRow.cut {B : Nat} {w : World} {a : Option Addr} {n c : Nat} {l : List (Bs × Value)} (h : AllRow B w (.slice a n c) l) (k : Nat) (hk : k ≤ l.length) : (∀ W, (Instr.slice 38 (.slice a n c) none (some (.int .i64 (k : Int))) (some (.int .i64 (k : Int)))).run Try.prog W = .ok (.slice a k k) W) ∧ AllRow B w (.slice a k k) (l.take k) := by
  have hlen : (l.take k).length = k := by rw [List.length_take]; omega
  rcases h with ⟨rfl, h2⟩ | ⟨g, cap, cur, e, h1, h2, h3, h4, h5⟩
  · cases h2
    obtain rfl : k = 0 := by simpa using hk
    refine ⟨fun W => ?_, .inl ⟨by simp, rfl⟩⟩
    simp [Instr.slice, run_underlying Try.underlying38, Instr.sliceBounds, Instr.sliceBound, asIntOf, Try.sizeOf43]
  · injection e with e1 e2 e3
    subst e1 e2 e3
    refine ⟨fun W => ?_, .inr ⟨g, k, cur, by rw [hlen], h1, h2, by rw [hlen]; exact Nat.le_refl _, by omega, fun j hj => ?_⟩⟩
    · have q1 : (k : Int) ≤ c := by omega
      have q2 : k ≤ c := by omega
      simp [Instr.slice, run_underlying Try.underlying38, Instr.sliceBounds, Instr.sliceBound, asIntOf, Try.sizeOf43, addr_addo, q1, q2]
    · rw [hlen] at hj
      rw [h5 j (by omega), List.getElem_take]
/-- append(all, b). -/
theorem AllRow.push {B : Nat} {w : World} {v : Value} {l : List (Bs × Value)} (h : AllRow B w v l) (hB : B ≤ w.heap.size) (hl : l.length ≤ 100000) (d : Bs) (a : Option Addr) (n c : Nat) :
    ∃ a' c' w', (Builtin.append_ #[38, 38] 38 #[v, .slice (some ⟨w.heap.size, 0, none⟩) 1 1]).run Try.prog (w.alloc (.cells #[.slice a n c] 43)) = .ok (.slice a' (l.length + 1) c') w' ∧ AllRow B w' (.slice a' (l.length + 1) c') (l ++ [(d, .slice a n c)]) ∧ (w'.os = w.os ∧ w'.tape = w.tape ∧ w'.output = w.output ∧ w.heap.size ≤ w'.heap.size) ∧ (∀ k, k < w.heap.size → v.ownBlock ≠ some k → w'.heap[k]? = w.heap[k]?) ∧ ∀ k, (Value.slice a' (l.length + 1) c').ownBlock = some k → v.ownBlock = some k ∨ w.heap.size ≤ k := by
  have b0 := below_alloc w (.cells #[.slice a n c] 43)
  have hz0 : (w.alloc (.cells #[.slice a n c] 43)).heap.size = w.heap.size + 1 := by simp
  have hsz : Try.t43.size = 1 := by kernel_rfl
  have hby : Try.t43.bytes = 24 := by kernel_rfl
  have hsrc : Src Try.prog Try.t43.size 38 (.slice (some ⟨w.heap.size, 0, none⟩) 1 1) 1 [.slice a n c] (w.alloc (.cells #[.slice a n c] 43)) :=
    Src.ofSlice _ Try.underlying38 _ 1 1 [.slice a n c] (by rw [hsz]; rfl) (by
        intro j u hu
        have hj : j < 1 := (List.getElem?_eq_some_iff.1 hu).1
        obtain rfl : j = 0 := by omega
        rw [addr_add, ← hu]
        exact World.cell?_alloc_mark w _ _ _ 0) (by
        intro u hu
        simp only [List.mem_cons, List.not_mem_nil, or_false] at hu
        subst hu
        rfl)
  have grow : ∀ (base : Option Addr) (cap : Nat) (olds : List Value), cap = l.length → v = .slice base l.length cap → olds.length = l.length → (∀ j (hj : j < l.length), olds[j]? = some l[j].2) → (Builtin.firstCells Try.t43.size l.length (.slice base l.length cap)).run Try.prog (w.alloc (.cells #[.slice a n c] 43)).drew = .ok olds.toArray (w.alloc (.cells #[.slice a n c] 43)).drew →
      ∃ a' c' w', (Builtin.append_ #[38, 38] 38 #[v, .slice (some ⟨w.heap.size, 0, none⟩) 1 1]).run Try.prog (w.alloc (.cells #[.slice a n c] 43)) = .ok (.slice a' (l.length + 1) c') w' ∧ AllRow B w' (.slice a' (l.length + 1) c') (l ++ [(d, .slice a n c)]) ∧ (w'.os = w.os ∧ w'.tape = w.tape ∧ w'.output = w.output ∧ w.heap.size ≤ w'.heap.size) ∧ (∀ k, k < w.heap.size → v.ownBlock ≠ some k → w'.heap[k]? = w.heap[k]?) ∧ ∀ k, (Value.slice a' (l.length + 1) c').ownBlock = some k → v.ownBlock = some k ∨ w.heap.size ≤ k := by
    rintro base cap olds rfl rfl ho hol hold
    generalize hW1 : w.alloc (.cells #[.slice a n c] 43) = W1 at *
    have hr := run_append_grow_src (P := Try.prog) W1 38 38 38 43 Try.t43 (.slice none 0 0) Try.underlying38 (by kernel_rfl) (by kernel_rfl) base l.length l.length olds hold _ 1 [.slice a n c] hsrc (by omega) (by omega) (by
      rw [hby]
      have := nextslicecap_le (need := l.length + 1) (old := l.length) (by omega)
      omega)
    have hge := grownCap_ge W1 (l.length + 1) l.length 43
    generalize grownCap W1 (l.length + 1) l.length 43 = gc at *
    have hb2 : Below w.heap.size w (W1.drew.alloc (.cells ((olds ++ [Value.slice a n c]).toArray ++ Builtin.zeroCells (Value.slice none 0 0).cells (gc - (l.length + 1))) 43)) := b0.trans (((Below.refl _ W1).drew.trans (below_alloc W1.drew _)).mono b0.size)
    refine ⟨_, _, _, hr, .inr ⟨W1.heap.size, gc, (olds ++ [Value.slice a n c]).toArray ++ Builtin.zeroCells (Value.slice none 0 0).cells (gc - (l.length + 1)), by rw [List.length_append]; rfl, by omega, ?_, by rw [List.length_append]; exact hge, ?_, fun j hj => ?_⟩, ⟨hb2.os, hb2.tape, hb2.output, hb2.size⟩, fun k hk _ => hb2.block k hk, fun k hk => .inr (by cases hk; show w.heap.size ≤ W1.heap.size; omega)⟩
    · exact alloc_new W1.drew _
    · have hc1 : (Builtin.zeroCells (Value.slice none 0 0).cells (gc - (l.length + 1))).size = gc - (l.length + 1) := by
        simp [Builtin.zeroCells, Value.cells]
      rw [Array.size_append, hc1]
      simp only [List.size_toArray, List.length_append, List.length_singleton, ho]
      omega
    · rw [List.length_append, List.length_singleton] at hj
      rw [Array.getElem?_append_left (by simp only [List.size_toArray, List.length_append, List.length_singleton, ho]; omega)]
      simp only [List.getElem?_toArray]
      by_cases hj2 : j < l.length
      · rw [List.getElem?_append_left (by omega), List.getElem_append_left hj2]
        exact hol j hj2
      · obtain rfl : j = l.length := by omega
        rw [List.getElem?_append_right (by omega), ho, Nat.sub_self, List.getElem_append_right (Nat.le_refl _)]
        simp
  rcases h with ⟨rfl, rfl⟩ | ⟨g, cap, cur, rfl, h1, h2, h3, h4, h5⟩
  · exact grow none 0 [] rfl rfl rfl (fun j hj => absurd hj (Nat.not_lt_zero j)) (run_firstCells_none _ _ 0 0 0)
  · have hgl := (Array.getElem?_eq_some_iff.1 h2).1
    have h2a := (b0.block g hgl).trans h2
    by_cases hc : cap = l.length
    · refine grow _ cap (recsV l) hc rfl (recsV_len l) (fun j hj => recsV_get l j hj) ?_
      have hall : ∀ j u, (recsV l)[j]? = some u → (w.alloc (.cells #[.slice a n c] 43)).drew.cell? ((⟨g, 0, none⟩ : Addr).add j) = some u := fun j u hu => by
        have hj : j < l.length := by rw [← recsV_len]; exact (List.getElem?_eq_some_iff.1 hu).1
        rw [recsV_get l j hj] at hu
        rw [addr_add, ← hu, ← h5 j hj]
        exact cell_of_row _ g j _ _ _ h2a
      exact run_firstCells_some _ _ l.length _ l.length cap (recsV l) (by rw [recsV_len, hsz, Nat.mul_one]) hall
    · have hj0 : l.length < cur.size := by omega
      have hr := run_append_room_src (P := Try.prog) (w.alloc (.cells #[.slice a n c] 43)) 38 38 38 43 Try.t43 Try.underlying38 (by kernel_rfl) g 0 l.length cap _ 1 [.slice a n c] hsrc (by omega) (by
        intro j hj
        obtain rfl : j = 0 := by simpa using hj
        rw [hsz, Nat.mul_one, Nat.zero_add, Nat.add_zero, cell_of_row _ g _ _ _ _ h2a, Array.getElem?_eq_getElem hj0]
        rfl) (by
        intro j _
        simp [World.frozen?, h2a])
      rw [hsz, Nat.mul_one, Nat.zero_add] at hr
      have hset : ((w.alloc (.cells #[.slice a n c] 43)).setCells g l.length [.slice a n c]).heap[g]? = some (.cells (cur.setIfInBounds l.length (.slice a n c)) 43 (0, 0)) := by
        show ((w.alloc (.cells #[.slice a n c] 43)).setCell ⟨g, l.length, none⟩ (.slice a n c)).heap[g]? = _
        rw [setCell_eq_setRow _ g _ _ _ _ _ h2a, setRow_heap _ g _ _ _ _ h2a]
      have hoth : ∀ k, k ≠ g → ((w.alloc (.cells #[.slice a n c] 43)).setCells g l.length [.slice a n c]).heap[k]? = (w.alloc (.cells #[.slice a n c] 43)).heap[k]? := fun k hk => Below.heap_setCell _ _ _ _ hk
      have hsz2 : ((w.alloc (.cells #[.slice a n c] 43)).setCells g l.length [.slice a n c]).heap.size = w.heap.size + 1 := by
        show ((w.alloc (.cells #[.slice a n c] 43)).setCell ⟨g, l.length, none⟩ (.slice a n c)).heap.size = _
        simp [World.setCell]
      refine ⟨_, _, _, hr, .inr ⟨g, cap, cur.setIfInBounds l.length (.slice a n c), by rw [List.length_append]; rfl, h1, hset, by rw [List.length_append, List.length_singleton]; omega, by simpa using h4, fun j hj => ?_⟩, ⟨b0.os, b0.tape, b0.output, by rw [hsz2]; omega⟩, fun k hk hne => ?_, fun k hk => .inl hk⟩
      · rw [List.length_append, List.length_singleton] at hj
        rw [Array.getElem?_setIfInBounds]
        by_cases hj2 : l.length = j
        · subst hj2
          rw [if_pos rfl, if_pos hj0, List.getElem_append_right (Nat.le_refl _)]
          simp
        · rw [if_neg hj2, h5 j (by omega), List.getElem_append_left (by omega)]
      · have hkg : k ≠ g := fun e => hne (by rw [e]; rfl)
        rw [hoth k hkg]
        exact b0.block k hk
end Go.Proofs.Ythpepkfodcgbcaa
/- WalKeeps: what stands while a script is gone through. -/
set_option linter.unusedVariables false
set_option linter.unusedSimpArgs false
set_option maxRecDepth 40000
namespace Go.Proofs.Ythpepkfodcgbcaa
open Go.RowKit

structure KS (w : World) (dv lv v : Value) (d : DM) (m : LM) (l : List (Bs × Value)) (x : World) : Prop where
  k : ∃ A, DL A x dv lv d m ∧ (∀ k, A k → w.heap.size ≤ k) ∧ ∀ k, v.ownBlock = some k → ¬ A k
  r : AllRow w.heap.size x v l
  e : ∀ y ∈ l, IsYP (· < w.heap.size) w y.2 y.1
  b : Below w.heap.size w x
theorem KS.below {w x y : World} {dv lv v : Value} {d : DM} {m : LM} {l : List (Bs × Value)} (h : KS w dv lv v d m l x) (hb : Below x.heap.size x y) : KS w dv lv v d m l y := by
  obtain ⟨A, h1, h2, h3⟩ := h.k
  exact ⟨⟨A, h1.below hb, h2, h3⟩, h.r.keep fun k hk => hb.block k (h.r.lt k hk).2, h.e, h.b.trans (hb.mono h.b.size)⟩
theorem KS.lw {w x : World} {dv lv v : Value} {d : DM} {m : LM} {l : List (Bs × Value)} (h : KS w dv lv v d m l x) : LW w dv lv d m x := by
  obtain ⟨A, h1, h2, _⟩ := h.k
  exact ⟨⟨A, h1, h2⟩, h.b⟩
theorem KS.isRs {w x : World} {dv lv v : Value} {d : DM} {m : LM} {l : List (Bs × Value)} (h : KS w dv lv v d m l x) : IsRs (fun _ => True) x v (l.map Prod.fst) := by
  have hsz := h.b.size
  refine ⟨l, rfl, ?_, fun y hy => ⟨isY_keepN (h.e y hy).1 fun hl k hk => h.b.block k ((h.e y hy).2 hl k hk), fun hl k hk => ⟨trivial, Nat.lt_of_lt_of_le ((h.e y hy).2 hl k hk) hsz⟩⟩⟩
  obtain ⟨a, c, rfl⟩ := h.r.form
  rcases h.r.cells with ⟨rfl, rfl⟩ | ⟨g, rfl, h1, h2⟩
  · exact .inl ⟨rfl, _, _, rfl⟩
  · exact .inr ⟨g, 0, c, rfl, ⟨trivial, (h.r.lt g rfl).2⟩, fun j hj => by rw [Nat.zero_add]; exact h2 j hj⟩
/-- of[:k]. -/
theorem KS.pre {w x : World} {dv lv : Value} {va : Option Addr} {vn vc : Nat} {d : DM} {m : LM} {l : List (Bs × Value)} (h : KS w dv lv (.slice va vn vc) d m l x) (k : Nat) (hk : k ≤ l.length) : (∀ W, (Instr.slice 38 (.slice va vn vc) none (some (.int .i64 (k : Int))) none).run Try.prog W = .ok (.slice va k vc) W) ∧ IsRs (fun _ => True) x (.slice va k vc) ((l.map Prod.fst).take k) := by
  have hlen : (l.take k).length = k := by rw [List.length_take]; omega
  have hkc : k ≤ vc := by
    rcases h.r with ⟨rfl, e⟩ | ⟨g, cap, cur, e, _, _, h3, _⟩
    · simp at hk; omega
    · injection e with e1 e2 e3; omega
  refine ⟨fun W => ?_, l.take k, List.map_take, ?_, fun y hy => ?_⟩
  · have q1 : (k : Int) ≤ vc := by omega
    by_cases h0 : vc = 0
    · subst h0
      obtain rfl : k = 0 := by omega
      simp [Instr.slice, run_underlying Try.underlying38, Instr.sliceBounds, Instr.sliceBound, asIntOf, Try.sizeOf43]
    · cases va with
      | none =>
        simp [Instr.slice, run_underlying Try.underlying38, Instr.sliceBounds, Instr.sliceBound, asIntOf, Try.sizeOf43, q1, hkc]
      | some ad =>
        have had : ad.add 0 = ad := by unfold Addr.add; split <;> simp_all
        simp [Instr.slice, run_underlying Try.underlying38, Instr.sliceBounds, Instr.sliceBound, asIntOf, Try.sizeOf43, q1, hkc, had]
  · rcases h.r.cells with ⟨rfl, rfl⟩ | ⟨g, rfl, h1, h2⟩
    · obtain rfl : k = 0 := by simpa using hk
      exact .inl ⟨rfl, _, _, rfl⟩
    · exact .inr ⟨g, 0, vc, by rw [hlen], ⟨trivial, (h.r.lt g rfl).2⟩, fun j hj => by rw [hlen] at hj; rw [Nat.zero_add, h2 j (by omega), List.getElem_take]⟩
  · have hy2 := List.mem_of_mem_take hy
    exact ⟨isY_keepN (h.e y hy2).1 fun hl k hk => h.b.block k ((h.e y hy2).2 hl k hk), fun hl k hk => ⟨trivial, Nat.lt_of_lt_of_le ((h.e y hy2).2 hl k hk) h.b.size⟩⟩
theorem NewRs.isRs {B : Nat} {w : World} {v : Value} {recs : List Bs} (h : NewRs B w v recs) : IsRs (fun _ => True) w v recs := by
  obtain ⟨l, rfl, h1, h2⟩ := h
  refine ⟨l, rfl, ?_, fun y hy => ⟨(h2 y hy).isY, fun hl k hk => ⟨trivial, ((h2 y hy).blk k hk).2⟩⟩⟩
  rcases h1 with ⟨rfl, rfl⟩ | ⟨g, o, cap, rfl, p1, p2, p3, _⟩
  · exact .inl ⟨rfl, _, _, rfl⟩
  · exact .inr ⟨g, o, cap, rfl, ⟨trivial, p2⟩, p3⟩
theorem ks_call {w x : World} {dv lv v : Value} {d d' : DM} {m m' : LM} {l : List (Bs × Value)} {F : Nat} {args : Array Value} {E : Int} (h : KS w dv lv v d m l x) (hc : ∀ A, DL A x dv lv d m → (∀ k, A k → w.heap.size ≤ k) → Calls Try.prog F args x (PActR A x dv lv m' d' E)) :
    Calls Try.prog F args x fun e y => e = .returned (.int .i64 E) ∧ Hid (KS w dv lv v d' m' l y) := by
  obtain ⟨A, h1, h2, h3⟩ := h.k
  refine (hc A h1 h2).mono ?_
  rintro e y ⟨rfl, A', k1, k2, k3⟩
  have hlt := h.r.lt
  exact ⟨rfl, hide ⟨⟨A', k1, fun k hk => (k2 k hk).elim (h2 k) (fun q => Nat.le_trans h.b.size q), fun k hk ha => (k2 k ha).elim (h3 k hk) (fun q => by have := (hlt k hk).2; omega)⟩, h.r.keep fun k hk => k3.block k (hlt k hk).2 (h3 k hk), h.e, h.b.trans (k3.below h2 h.b.size)⟩⟩
theorem ks_append {w x : World} {dv lv v : Value} {d : DM} {m : LM} {l : List (Bs × Value)} {i : Nat} {bv : Value} {b : Bs} (h : KS w dv lv v d m l x) (hf : FitW i d m) (hi : i ≤ 400) (hs : d.safe.length ≤ 800) (hY : IsY w bv b) (hb : b.length ≤ 1000000) :
    Calls Try.prog 14 #[lv, bv] x fun e y => e = .returned (.int .i64 (appendW m d b).2.2) ∧ Hid (KS w dv lv v (appendW m d b).2.1 (appendW m d b).1 l y) :=
  ks_call h fun A hA hlo => pappend_any A dv lv d m bv b x hA hf.fit (by have := hf.l; omega) hs hf.room hf.ok (by have := hf.recs; have := hf.ok.le; have := hf.ok.size; omega) (hY.below h.b) (fun hne k hk ha => by have := hlo k ha; have := (isY_old hY).2 hne k hk; omega) hb
theorem ks_sync {w x : World} {dv lv v : Value} {d : DM} {m : LM} {l : List (Bs × Value)} {i : Nat} (h : KS w dv lv v d m l x) (hf : FitW i d m) :
    Calls Try.prog 16 #[lv] x fun e y => e = .returned (.int .i64 (syncW m d).2.2) ∧ Hid (KS w dv lv v (syncW m d).2.1 (syncW m d).1 l y) :=
  ks_call h fun A hA _ => psync_any A dv lv d m x hA hf.fit
theorem ks_reset {w x : World} {dv lv v : Value} {d : DM} {m : LM} {l : List (Bs × Value)} {i ep : Nat} (h : KS w dv lv v d m l x) (hf : FitW i d m) (he : ep < 18446744073709551616) :
    Calls Try.prog 18 #[lv, .int .u64 (ep : Int)] x fun e y => e = .returned (.int .i64 (resetW m ep).2) ∧ Hid (KS w dv lv v d (resetW m ep).1 l y) :=
  ks_call h fun A hA _ => preset_any A dv lv d m ep x hA hf.ok he
theorem ks_disk {w x : World} {dv lv v : Value} {d d' : DM} {m : LM} {l : List (Bs × Value)} {F : Nat} {args : Array Value} (h : KS w dv lv v d m l x) (hc : ∀ B, IsK B x dv d → (∀ k, B k → w.heap.size ≤ k) → Calls Try.prog F args x fun e y => e = .returned (.tuple #[]) ∧ KR IsK B x dv d' y) :
    Calls Try.prog F args x fun e y => e = .returned (.tuple #[]) ∧ Hid (KS w dv lv v d' m l y) := by
  obtain ⟨A, ⟨B, C, h1, h2, h3, h4⟩, hA, hv⟩ := h.k
  have hBA : ∀ k, B k → A k := fun k hk => (h4 k).2 (.inl hk)
  refine (hc B h1 fun k hk => hA k (hBA k hk)).mono ?_
  rintro e y ⟨rfl, B', k1, k2, k3⟩
  have hlt := h.r.lt
  refine ⟨rfl, hide ⟨⟨fun k => B' k ∨ C k, ⟨B', C, k1, h2.keep fun k hk => k3.block k (h2.lt k hk) (h3 k hk), fun k hk hb => (k2 k hb).elim (h3 k hk) (fun q => by have := h2.lt k hk; omega), fun k => Iff.rfl⟩, fun k hk => hk.elim (fun q => (k2 k q).elim (fun q => hA k (hBA k q)) (fun q => Nat.le_trans h.b.size q)) (fun q => hA k ((h4 k).2 (.inr q))), fun k hk ha => ha.elim (fun q => (k2 k q).elim (fun q => hv k hk (hBA k q)) (fun q => by have := (hlt k hk).2; omega)) (fun q => hv k hk ((h4 k).2 (.inr q)))⟩, h.r.keep fun k hk => k3.block k (hlt k hk).2 (fun q => hv k hk (hBA k q)), h.e, h.b.trans (k3.below (fun k hk => hA k (hBA k hk)) h.b.size)⟩⟩
theorem ks_fuse {w x : World} {dv lv v : Value} {d : DM} {m : LM} {l : List (Bs × Value)} {n : Int} (h : KS w dv lv v d m l x) (hF : Fit d) (hn : -9223372036854775808 ≤ n ∧ n ≤ 9223372036854775807) :
    Calls Try.prog 22 #[dv, .int .i64 n] x fun e y => e = .returned (.tuple #[]) ∧ Hid (KS w dv lv v (armD d n) m l y) :=
  ks_disk h fun B hB _ => pfuse_any B dv d n x hB hF hn
theorem ks_crash {w x : World} {dv lv v : Value} {d : DM} {m : LM} {l : List (Bs × Value)} {kv : Value} {keep : List Bool} (h : KS w dv lv v d m l x) (hF : Fit d) (hk : IsF w kv keep) (hl : keep.length ≤ 9223372036854775807) :
    Calls Try.prog 20 #[dv, kv] x fun e y => e = .returned (.tuple #[]) ∧ Hid (KS w dv lv v (crashD d keep) m l y) :=
  ks_disk h fun B hB hlo => pcrash_any B dv d kv keep x hB hF (hk.below h.b) (fun hne k hk2 ha => by
    have q := hlo k ha
    rcases hk with ⟨e, _⟩ | ⟨g, o, cap, rfl, hc⟩
    · exact hne e
    · cases hk2
      have q2 : g < w.heap.size := cell_lt (hc 0 (List.length_pos_iff.2 hne))
      have q3 : w.heap.size ≤ g := q
      omega) hl
theorem ks_open {w x : World} {dv lv v : Value} {d : DM} {m m' : LM} {l : List (Bs × Value)} {ep : Nat} (h : KS w dv lv v d m l x) (hF : Fit d) (hs : d.safe.length ≤ 800) (he : ep < 18446744073709551616) (hm : openW d 2 8 ep = (some m', 0)) :
    Calls Try.prog 11 #[dv, .int .i64 2, .int .i64 8, .int .u64 (ep : Int)] x fun e y => ∃ a, e = .returned (.tuple #[.pointer (some a), .int .i64 0]) ∧ Hid (KS w dv (.pointer (some a)) v d m' l y) ∧ Hid (Below x.heap.size x y) := by
  obtain ⟨A, ⟨B, C, h1, h2, h3, h4⟩, hA, hv⟩ := h.k
  have hBA : ∀ k, B k → A k := fun k hk => (h4 k).2 (.inl hk)
  refine (popen_any B dv d 2 8 ep x h1 hF hs (by decide) (by decide) he).mono ?_
  rintro e y ⟨hb, ⟨E, e1, _⟩ | ⟨m2, a, C2, e1, rfl, hl, hc⟩⟩
  · rw [hm] at e1; cases e1
  · rw [hm] at e1
    cases e1
    have hlt := h.r.lt
    refine ⟨a, rfl, hide ⟨⟨fun k => B k ∨ C2 k, ⟨B, C2, h1.below hb, hl, fun k q1 q2 => by have q3 := hc k q1; have q4 := h1.lt k q2; omega, fun k => Iff.rfl⟩, fun k hk => hk.elim (fun q => hA k (hBA k q)) (fun q => Nat.le_trans h.b.size (hc k q)), fun k hk ha => ha.elim (fun q => hv k hk (hBA k q)) (fun q => by have := (hlt k hk).2; have := hc k q; omega)⟩, h.r.keep fun k hk => hb.block k (hlt k hk).2, h.e, h.b.trans (hb.mono h.b.size)⟩, hide hb⟩
/-- all = append(all, b). -/
theorem ks_push {w x : World} {dv lv v : Value} {d : DM} {m : LM} {l : List (Bs × Value)} (h : KS w dv lv v d m l x) (hl : l.length ≤ 100000) {b : Bs} {a : Option Addr} {c : Nat} (hY : IsY w (.slice a b.length c) b) :
    ∃ a' c' y, (Builtin.append_ #[38, 38] 38 #[v, .slice (some ⟨x.heap.size, 0, none⟩) 1 1]).run Try.prog (x.alloc (.cells #[.slice a b.length c] 43)) = .ok (.slice a' (l.length + 1) c') y ∧ KS w dv lv (.slice a' (l.length + 1) c') d m (l ++ [(b, .slice a b.length c)]) y := by
  obtain ⟨a', c', y, hr, hrow, ⟨o1, o2, o3, o4⟩, hkeep, hblk⟩ := h.r.push h.b.size hl b a b.length c
  obtain ⟨A, h1, h2, h3⟩ := h.k
  refine ⟨a', c', y, hr, ⟨⟨A, h1.keep fun k hk => hkeep k (h1.lt k hk) (fun e => h3 k e hk), h2, fun k hk ha => (hblk k hk).elim (fun q => h3 k q ha) (fun q => by have := h1.lt k ha; omega)⟩, hrow, fun z hz => ?_, ?_⟩⟩
  · rcases List.mem_append.1 hz with hz | hz
    · exact h.e z hz
    · obtain rfl := List.mem_singleton.1 hz
      exact isY_old hY
  · exact h.b.trans ⟨o1, o2, o3, o4, fun k hk => hkeep k (Nat.lt_of_lt_of_le hk h.b.size) (fun e => by have := (h.r.lt k e).1; omega)⟩
theorem ks_clear {w x : World} {dv lv v : Value} {d : DM} {m : LM} {l : List (Bs × Value)} (h : KS w dv lv v d m l x) : KS w dv lv (.slice none 0 0) d m [] x := by
  obtain ⟨A, h1, h2, h3⟩ := h.k
  exact ⟨⟨A, h1, h2, fun k hk => by cases hk⟩, .inl ⟨rfl, rfl⟩, fun y hy => absurd hy (by simp), h.b⟩
theorem ks_cut {w x : World} {dv lv : Value} {va : Option Addr} {vn vc : Nat} {d : DM} {m : LM} {l : List (Bs × Value)} (h : KS w dv lv (.slice va vn vc) d m l x) (k : Nat) (hk : k ≤ l.length) : KS w dv lv (.slice va k k) d m (l.take k) x := by
  obtain ⟨A, h1, h2, h3⟩ := h.k
  exact ⟨⟨A, h1, h2, fun j hj => h3 j (by cases va with | none => cases hj | some ad => exact hj)⟩, (h.r.cut k hk).2, fun y hy => h.e y (List.mem_of_mem_take hy), h.b⟩
end Go.Proofs.Ythpepkfodcgbcaa
