import Derived.Test.YthpepkfodcgbcaaWq21
import Derived.Test.YthpepkfodcgbcaaWq05
import Derived.Test.YthpepkfodcgbcaaWq10
import Derived.Test.YthpepkfodcgbcaaWq12
import Derived.Lib.SlBuf
/- The program's log: how it lies; rows of numbers of one's own. -/
set_option linter.unusedVariables false
set_option linter.unusedSimpArgs false
set_option maxRecDepth 4000
namespace Go.Proofs.Ythpepkfodcgbcaa
open Go.RowKit

/-- A row of numbers of one's own. -/
structure RowI (w : World) (T : TypeId) (v : Value) (n : Nat) (xs : List Value) : Prop where
  o : w.ownsRow 0 T 1 v n xs
  i : ∀ j, v.ownBlock = some j → IntB w j
theorem RowI.keep {w W : World} {T : TypeId} {v : Value} {n : Nat} {xs : List Value} (h : RowI w T v n xs) (hk : ∀ j, v.ownBlock = some j → W.heap[j]? = w.heap[j]?) : RowI W T v n xs := by
  refine ⟨⟨h.o.1, ?_⟩, fun j hj => (h.i j hj).keep (hk j hj)⟩
  rcases h.o.2 with h1 | ⟨g, cap, cur, rfl, h2, h3, h4⟩
  · exact .inl h1
  · exact .inr ⟨g, cap, cur, rfl, h2, (hk g rfl).trans h3, h4⟩
theorem RowI.nil (w : World) (T : TypeId) : RowI w T (.slice none 0 0) 0 [] := ⟨World.ownsRow_nil _ _ _ _, fun j hj => by cases hj⟩
theorem RowI.lt {w : World} {T : TypeId} {v : Value} {n : Nat} {xs : List Value} (h : RowI w T v n xs) : ∀ j, v.ownBlock = some j → j < w.heap.size := fun j hj => (h.o.lt j hj).2
theorem RowI.form {w : World} {T : TypeId} {v : Value} {n : Nat} {xs : List Value} (h : RowI w T v n xs) : ∃ a c, v = .slice a n c := owns_formG h.o
theorem RowI.typ {w : World} {T : TypeId} {v : Value} {n : Nat} {xs : List Value} (h : RowI w T v n xs) : ∀ j, v.ownBlock = some j → ∃ cur, w.heap[j]? = some (.cells cur T (0, 0)) := fun j hj => by
  rcases h.o.2 with ⟨rfl, _⟩ | ⟨g, cap, cur, rfl, h2, h3, h4⟩
  · cases hj
  · cases hj; exact ⟨_, h3⟩
theorem intV_one {v : Value} (h : IntV v) : v.oneCell' = true := by
  obtain ⟨k, z, rfl⟩ := h
  rfl
theorem zeros_one (z : Value) (hz : IntV z) (n : Nat) : ∀ v ∈ (Builtin.zeroCells #[z] n).toList, IntV v := by
  intro v hv
  unfold Builtin.zeroCells at hv
  rw [Array.toList_map] at hv
  obtain ⟨i, _, rfl⟩ := List.mem_map.1 hv
  have e : i % (#[z] : Array Value).size = 0 := Nat.mod_one i
  rw [e]
  exact hz
/-- append(v, x...), v a row of numbers of one's own. -/
theorem append_rowI (W : World) (S T : TypeId) (ti : TypeInfo) (z : Value) (bys : Nat) (h0 : Try.prog.underlying S = some (.slice T)) (h1 : Try.prog.info? T = some ti) (h2 : ti.zero = some z) (h3 : ti.size = 1) (h4 : ti.bytes = bys) (hzc : z.cells = #[z]) (hz : IntV z) (hb8 : bys ≤ 8)
    {v : Value} {n : Nat} {xs news : List Value} (h : RowI W T v n xs) (hxs : ∀ u ∈ xs, IntV u) (hns : ∀ u ∈ news, IntV u) (a : Addr) (m c : Nat) (hl : news.length = m) (hm : 0 < m) (hnews : ∀ j u, news[j]? = some u → W.cell? (a.add j) = some u) (hn : n ≤ 10000000) (hm2 : m ≤ 10000000) :
    ∃ a' c' w', (Builtin.append_ #[S, S] S #[v, .slice (some a) m c]).run Try.prog W = .ok (.slice a' (n + m) c') w' ∧ RowI w' T (.slice a' (n + m) c') (n + m) (xs ++ news) ∧ W.grownBy w' v.ownBlock ∧ ((Value.slice a' (n + m) c').ownBlock = v.ownBlock ∨ (Value.slice a' (n + m) c').ownBlock = some W.heap.size) := by
  have hby : (n + m) * bys ≤ 140737488355328 := by
    have : (n + m) * bys ≤ 20000000 * 8 := Nat.mul_le_mul (by omega) hb8
    omega
  have hone : ∀ u ∈ news, u.oneCell' = true := fun u hu => intV_one (hns u hu)
  have hl1 : news.length = m * 1 := by rw [Nat.mul_one]; exact hl
  have hl2 : news.length = m * ti.size := by rw [h3]; exact hl1
  obtain ⟨v', w', hr, how, hg, _, hat⟩ := run_append_own_at (P := Try.prog) W 0 S S T ti z 1 bys h0 h1 h2 h3 h4 (by rw [hzc]; rfl) (by omega) v n xs h.o a m c news hl1 hnews hone (by unfold maxLen; omega) hby (Nat.zero_le _)
  obtain ⟨a', c', rfl⟩ := owns_formG how
  refine ⟨a', c', w', hr, ⟨how, ?_⟩, hg, hat⟩
  intro j hj
  rcases h.o.2 with ⟨rfl, h00⟩ | ⟨g, cap, cur, rfl, hbg, hgg, hnc, hcm, hcs, htake⟩
  · have hr2 := run_append_nil (P := Try.prog) W S S T ti z h0 h1 h2 a m c news hl2 hnews hm (by omega) (by rw [h4]; have : m * bys ≤ 10000000 * 8 := Nat.mul_le_mul hm2 hb8; omega)
    obtain ⟨e1, rfl⟩ := run_ok_inj hr hr2
    rw [e1] at hj
    cases hj
    refine intB_cells (heap_alloc_new _ _) ?_
    intro u hu
    rw [Array.toList_append] at hu
    rcases List.mem_append.1 hu with hu | hu
    · exact hns u (by simpa using hu)
    · rw [hzc] at hu
      exact zeros_one z hz _ u hu
  · have hci : ∀ u ∈ cur.toList, IntV u := by
      intro u hu
      obtain ⟨k, hk, rfl⟩ := List.getElem_of_mem hu
      refine h.i g rfl k _ ?_
      rw [cell_of_row W g k cur _ _ hgg]
      simp at hk ⊢
    by_cases hroom : n + m ≤ cap
    · have hr2 := run_append_room (P := Try.prog) W S S T ti h0 h1 g n cap cur hgg a m c news hl2 hnews hone hroom (by rw [h3, hl, hcs]; omega)
      obtain ⟨e1, rfl⟩ := run_ok_inj hr hr2
      rw [e1] at hj
      cases hj
      refine intB_cells (setRow_heap _ g cur _ _ _ hgg) ?_
      intro u hu
      rcases List.mem_append.1 (by simpa using hu : u ∈ (cur.toList.take (n * ti.size) ++ news) ++ cur.toList.drop (n * ti.size + news.length)) with hu | hu
      · rcases List.mem_append.1 hu with hu | hu
        · exact hci u (List.mem_of_mem_take hu)
        · exact hns u hu
      · exact hci u (List.mem_of_mem_drop hu)
    · have hr2 := run_append_grow (P := Try.prog) W S S T ti z h0 h1 h2 ⟨g, 0, none⟩ n cap xs (by rw [h3]; exact h.o.1) (fun j u hu => h.o.cells (g := g) rfl j u hu) a m c news hl2 hnews (by omega) (by omega) (growslice_fits (by omega) (by rw [h4]; omega))
      obtain ⟨e1, rfl⟩ := run_ok_inj hr hr2
      rw [e1] at hj
      cases hj
      refine intB_cells (heap_alloc_new _ _) ?_
      intro u hu
      rw [Array.toList_append, Array.toList_append] at hu
      rcases List.mem_append.1 hu with hu | hu
      · rcases List.mem_append.1 hu with hu | hu
        · exact hxs u (by simpa using hu)
        · exact hns u (by simpa using hu)
      · rw [hzc] at hu
        exact zeros_one z hz _ u hu
theorem bytesV_int (l : Bs) : ∀ u ∈ bytesV l, IntV u := by
  intro u hu
  unfold bytesV at hu
  obtain ⟨x, _, rfl⟩ := List.mem_map.1 hu
  exact ⟨_, _, rfl⟩
theorem append_b17 (W : World) (tv u : Value) (l x : Bs) (h : RowI W 5 tv l.length (bytesV l)) (hU : IsY W u x) (hx : x ≠ []) (hl : l.length ≤ 10000000) (hx2 : x.length ≤ 10000000) :
    ∃ a' c' w', (Builtin.append_ #[43, 43] 43 #[tv, u]).run Try.prog W = .ok (.slice a' (l ++ x).length c') w' ∧ RowI w' 5 (.slice a' (l ++ x).length c') (l ++ x).length (bytesV (l ++ x)) ∧ W.grownBy w' tv.ownBlock ∧ ((Value.slice a' (l ++ x).length c').ownBlock = tv.ownBlock ∨ (Value.slice a' (l ++ x).length c').ownBlock = some W.heap.size) := by
  rcases hU with ⟨e, _⟩ | ⟨b, o, cap, rfl, _, hc⟩
  · exact absurd e hx
  · rw [List.length_append, bytesV_app]
    exact append_rowI W 43 5 Try.t5 (.int .u8 0) 1 Try.underlying43 (by kernel_rfl) (by kernel_rfl) (by kernel_rfl) (by kernel_rfl) rfl ⟨_, _, rfl⟩ (by omega) h (bytesV_int l) (bytesV_int x) ⟨b, o, none⟩ x.length cap (bytesV_len x) (List.length_pos_iff.2 hx) (fun j u hu => by
      have hj : j < x.length := by have := (List.getElem?_eq_some_iff.1 hu).1; rwa [bytesV_len] at this
      rw [bytesV_get x j hj] at hu
      rw [addr_addo, ← hu]
      exact hc j hj) hl hx2
theorem append_i17 (W : World) (ev : Value) (n : Nat) (xs : List Value) (k : Int) (h : RowI W 3 ev n xs) (hxs : ∀ u ∈ xs, IntV u) (hn : n ≤ 10000000) :
    ∃ a' c' w', (Builtin.append_ #[81, 81] 81 #[ev, .slice (some ⟨W.heap.size, 0, none⟩) 1 1]).run Try.prog (W.alloc (.cells #[.int .i64 k] 3)) = .ok (.slice a' (n + 1) c') w' ∧ RowI w' 3 (.slice a' (n + 1) c') (n + 1) (xs ++ [.int .i64 k]) ∧ W.grownBy w' ev.ownBlock ∧ ((Value.slice a' (n + 1) c').ownBlock = ev.ownBlock ∨ ∀ j, (Value.slice a' (n + 1) c').ownBlock = some j → W.heap.size ≤ j) := by
  have hb := below_alloc W (.cells #[.int .i64 k] 3)
  obtain ⟨a', c', w', hr, hR, hg, hat⟩ := append_rowI (W.alloc (.cells #[.int .i64 k] 3)) 81 3 Try.t3 (.int .i64 0) 8 Try.underlying81 (by kernel_rfl) (by kernel_rfl) (by kernel_rfl) (by kernel_rfl) rfl ⟨_, _, rfl⟩ (by omega) (h.keep fun j hj => hb.block j (h.lt j hj)) hxs (news := [.int .i64 k]) (fun u hu => by rw [List.mem_singleton.1 hu]; exact ⟨_, _, rfl⟩) ⟨W.heap.size, 0, none⟩ 1 1 rfl (by omega) (fun j u hu => by
      rw [addr_add]
      have hj : j < 1 := (List.getElem?_eq_some_iff.1 hu).1
      obtain rfl : j = 0 := by omega
      have hc : (W.alloc (.cells #[.int .i64 k] 3)).cell? ⟨W.heap.size, 0, none⟩ = (#[.int .i64 k] : Array Value)[0]? := World.cell?_alloc_mark W _ _ _ 0
      rw [hc]
      exact hu) hn (by omega)
  refine ⟨a', c', w', hr, hR, ⟨hg.os, hg.tape, hg.output, Nat.le_trans hb.size hg.size, fun j hj hne => (hg.block j (Nat.lt_of_lt_of_le hj hb.size) hne).trans (hb.block j hj)⟩, ?_⟩
  rcases hat with h1 | h1
  · exact .inl h1
  · refine .inr fun j hj => ?_
    rw [h1] at hj
    injection hj with hj
    have := hb.size
    omega
/-- Where the records end. -/
def endsV (recs : List Bs) : List Value := (List.range recs.length).map fun i => .int .i64 (((recs.take (i + 1)).flatten.length : Nat) : Int)
theorem endsV_len (recs : List Bs) : (endsV recs).length = recs.length := by unfold endsV; rw [List.length_map, List.length_range]
theorem endsV_get (recs : List Bs) (i : Nat) (hi : i < recs.length) : (endsV recs)[i]? = some (.int .i64 (((recs.take (i + 1)).flatten.length : Nat) : Int)) := by
  unfold endsV
  rw [List.getElem?_map, List.getElem?_range hi]
  rfl
theorem endsV_app (recs : List Bs) (b : Bs) : endsV (recs ++ [b]) = endsV recs ++ [.int .i64 (((recs.flatten ++ b).length : Nat) : Int)] := by
  apply List.ext_getElem?
  intro i
  by_cases hi : i < recs.length
  · rw [endsV_get _ i (by rw [List.length_append]; omega), List.getElem?_append_left (by rw [endsV_len]; exact hi), endsV_get _ i hi, List.take_append_of_le_length (by omega)]
  · by_cases h2 : i = recs.length
    · subst h2
      rw [endsV_get _ _ (by rw [List.length_append]; simp), List.getElem?_append_right (by rw [endsV_len]; exact Nat.le_refl _), endsV_len, Nat.sub_self, List.take_of_length_le (by rw [List.length_append]; simp), List.flatten_append]
      simp
    · rw [List.getElem?_eq_none (by rw [endsV_len, List.length_append]; simp; omega), List.getElem?_eq_none (by rw [List.length_append, endsV_len]; simp; omega)]
theorem endsV_int (recs : List Bs) : ∀ u ∈ endsV recs, IntV u := by
  intro u hu
  unfold endsV at hu
  obtain ⟨x, _, rfl⟩ := List.mem_map.1 hu
  exact ⟨_, _, rfl⟩
abbrev lpC (dv tv ev : Value) (m : LM) : Array Value := #[dv, .int .i64 (m.first : Int), .int .i64 (m.size : Int), .int .u64 (m.ep : Int), .int .u64 (m.li : Int), .int .i64 (m.end_ : Int), tv, ev, .bool m.broken]
/-- The program's log lies there. -/
structure IsLP (w : World) (a : Nat) (dv tv ev : Value) (m : LM) : Prop where
  box : w.heap[a]? = some (.cells (lpC dv tv ev m) 83 (0, 0))
  t : RowI w 5 tv m.recs.flatten.length (bytesV m.recs.flatten)
  e : RowI w 3 ev m.recs.length (endsV m.recs)
  en : m.end_ ≤ 20000
  fl : m.recs.flatten.length ≤ 39 * m.end_
  rl : m.recs.length ≤ m.end_
  ne : ∀ r ∈ m.recs, r ≠ []
  dp : ∃ d, dv = .pointer (some d)
def lpA (a : Nat) (tv ev : Value) : Nat → Prop := fun k => k = a ∨ tv.ownBlock = some k ∨ ev.ownBlock = some k
def IsLog (A : Nat → Prop) (w : World) (dv lv : Value) (m : LM) : Prop := ∃ a tv ev, A = lpA a tv ev ∧ lv = .pointer (some ⟨a, 0, none⟩) ∧ IsLP w a dv tv ev m
theorem IsLP.keep {w x : World} {a : Nat} {dv tv ev : Value} {m : LM} (h : IsLP w a dv tv ev m) (hk : ∀ k, lpA a tv ev k → x.heap[k]? = w.heap[k]?) : IsLP x a dv tv ev m :=
  ⟨(hk a (.inl rfl)).trans h.box, h.t.keep fun j hj => hk j (.inr (.inl hj)), h.e.keep fun j hj => hk j (.inr (.inr hj)), h.en, h.fl, h.rl, h.ne, h.dp⟩
theorem IsLP.lt {w : World} {a : Nat} {dv tv ev : Value} {m : LM} (h : IsLP w a dv tv ev m) : ∀ k, lpA a tv ev k → k < w.heap.size := by
  rintro k (rfl | hk | hk)
  · exact (Array.getElem?_eq_some_iff.1 h.box).1
  · exact h.t.lt k hk
  · exact h.e.lt k hk
theorem IsLP.below {w x : World} {a : Nat} {dv tv ev : Value} {m : LM} (h : IsLP w a dv tv ev m) (hb : Below w.heap.size w x) : IsLP x a dv tv ev m := h.keep fun k hk => hb.block k (h.lt k hk)
theorem IsLP.apart {w : World} {a : Nat} {dv tv ev : Value} {m : LM} (h : IsLP w a dv tv ev m) : (∀ j, tv.ownBlock = some j → j ≠ a) ∧ (∀ j, ev.ownBlock = some j → j ≠ a) ∧ ∀ j, tv.ownBlock = some j → ev.ownBlock ≠ some j := by
  have h1 := h.box
  refine ⟨fun j hj e => ?_, fun j hj e => ?_, fun j hj hk => ?_⟩
  · subst e
    obtain ⟨cur, hc⟩ := h.t.typ _ hj
    rw [hc] at h1
    injection h1 with h1
    injection h1 with _ h1
    exact absurd h1 (by decide)
  · subst e
    obtain ⟨cur, hc⟩ := h.e.typ _ hj
    rw [hc] at h1
    injection h1 with h1
    injection h1 with _ h1
    exact absurd h1 (by decide)
  · obtain ⟨cur, hc⟩ := h.t.typ _ hj
    obtain ⟨cur2, hc2⟩ := h.e.typ _ hk
    rw [hc] at hc2
    injection hc2 with h1
    injection h1 with _ h1
    exact absurd h1 (by decide)
theorem IsLog.keep {A : Nat → Prop} {w x : World} {dv lv : Value} {m : LM} (h : IsLog A w dv lv m) (hk : ∀ k, A k → x.heap[k]? = w.heap[k]?) : IsLog A x dv lv m := by
  obtain ⟨a, tv, ev, rfl, rfl, h⟩ := h
  exact ⟨a, tv, ev, rfl, rfl, h.keep hk⟩
theorem IsLog.lt {A : Nat → Prop} {w : World} {dv lv : Value} {m : LM} (h : IsLog A w dv lv m) : ∀ k, A k → k < w.heap.size := by
  obtain ⟨a, tv, ev, rfl, rfl, h⟩ := h
  exact h.lt
theorem IsLog.ns {A : Nat → Prop} {w : World} {dv lv : Value} {m : LM} (h : IsLog A w dv lv m) : ∀ k, A k → NoStr w k := by
  obtain ⟨a, tv, ev, rfl, rfl, h⟩ := h
  rintro k (rfl | hk | hk)
  · obtain ⟨d, hd⟩ := h.dp
    obtain ⟨ta, tc, ht⟩ := h.t.form
    obtain ⟨ea, ec, he⟩ := h.e.form
    intro j s hj
    have h2 : w.cell? ⟨k, j, none⟩ = (lpC dv tv ev m)[j]? := by simp [World.cell?, h.box]
    rw [h2, hd, ht, he] at hj
    match j with
    | 0 => simp [lpC] at hj
    | 1 => simp [lpC] at hj
    | 2 => simp [lpC] at hj
    | 3 => simp [lpC] at hj
    | 4 => simp [lpC] at hj
    | 5 => simp [lpC] at hj
    | 6 => simp [lpC] at hj
    | 7 => simp [lpC] at hj
    | 8 => simp [lpC] at hj
    | j + 9 => simp [lpC] at hj
  · exact (h.t.i k hk).ns
  · exact (h.e.i k hk).ns
theorem lp_cells {w : World} {a : Nat} {dv tv ev : Value} {m : LM} (h : w.heap[a]? = some (.cells (lpC dv tv ev m) 83 (0, 0))) : w.cell? ⟨a, 0, none⟩ = some dv ∧ w.cell? ⟨a, 1, none⟩ = some (.int .i64 (m.first : Int)) ∧ w.cell? ⟨a, 2, none⟩ = some (.int .i64 (m.size : Int)) ∧ w.cell? ⟨a, 3, none⟩ = some (.int .u64 (m.ep : Int)) ∧ w.cell? ⟨a, 4, none⟩ = some (.int .u64 (m.li : Int)) ∧ w.cell? ⟨a, 5, none⟩ = some (.int .i64 (m.end_ : Int)) ∧ w.cell? ⟨a, 6, none⟩ = some tv ∧ w.cell? ⟨a, 7, none⟩ = some ev ∧ w.cell? ⟨a, 8, none⟩ = some (.bool m.broken) ∧ ∀ j, w.frozen? ⟨a, j, none⟩ = false := by
  refine ⟨?_, ?_, ?_, ?_, ?_, ?_, ?_, ?_, ?_, fun j => ?_⟩ <;> simp [World.cell?, World.frozen?, h]
/-- A disk and a log over it, in blocks of A. -/
def DL (A : Nat → Prop) (w : World) (dv lv : Value) (d : DM) (m : LM) : Prop := ∃ B C, IsK B w dv d ∧ IsLog C w dv lv m ∧ (∀ k, C k → ¬ B k) ∧ (∀ k, A k ↔ (B k ∨ C k))
/-- Rows of bytes in blocks from B on, that may be written over; none of them in the list's own block. -/
def NewRs (B : Nat) (w : World) (v : Value) (recs : List Bs) : Prop := ∃ l : List (Bs × Value), l.map Prod.fst = recs ∧ ((l = [] ∧ v = .slice none 0 0) ∨ ∃ b o cap, v = .slice (some ⟨b, o, none⟩) l.length cap ∧ B ≤ b ∧ b < w.heap.size ∧ (∀ j (hj : j < l.length), w.cell? ⟨b, o + j, none⟩ = some l[j].2) ∧ ∀ x ∈ l, x.2.ownBlock ≠ some b) ∧ ∀ x ∈ l, NewY B w x.2 x.1
def POpenR (w : World) (dv : Value) (r : Option LM × Int) (e : Ending) (w' : World) : Prop := Below w.heap.size w w' ∧ ((∃ E, r = (none, E) ∧ e = .returned (.tuple #[.pointer none, .int .i64 E])) ∨ ∃ m a C, r = (some m, 0) ∧ e = .returned (.tuple #[.pointer (some a), .int .i64 0]) ∧ IsLog C w' dv (.pointer (some a)) m ∧ ∀ k, C k → w.heap.size ≤ k)
def PActR (A : Nat → Prop) (w : World) (dv lv : Value) (m' : LM) (d' : DM) (E : Int) (e : Ending) (w' : World) : Prop := e = .returned (.int .i64 E) ∧ ∃ A', DL A' w' dv lv d' m' ∧ Grew A A' w.heap.size ∧ ButA A w w'
end Go.Proofs.Ythpepkfodcgbcaa
/- What the program's Room, Epoch, Life, Sync and Reset answer; calls on no log. -/
set_option linter.unusedVariables false
set_option linter.unusedSimpArgs false
set_option maxRecDepth 40000
namespace Go.Proofs.Ythpepkfodcgbcaa
open Go.RowKit

set_option maxHeartbeats 1000000 in
theorem nil_sync (w : World) : Calls Try.prog 16 #[.pointer none] w fun e w' => e = .returned (.int .i64 1) ∧ Below w.heap.size w w' := by
  go_enter Try.func16, Try.ntmps16
  go_wp2
  go_ret
  exact ⟨rfl, Below.refl _ _⟩
set_option maxHeartbeats 1000000 in
theorem nil_reset (ep : Int) (w : World) : Calls Try.prog 18 #[.pointer none, .int .u64 ep] w fun e w' => e = .returned (.int .i64 1) ∧ Below w.heap.size w w' := by
  go_enter Try.func18, Try.ntmps18
  go_wp2
  go_ret
  exact ⟨rfl, Below.refl _ _⟩
set_option maxHeartbeats 1000000 in
theorem nil_room (w : World) : Calls Try.prog 26 #[.pointer none] w fun e w' => e = .returned (.int .i64 0) ∧ Below w.heap.size w w' := by
  go_enter Try.func26, Try.ntmps26
  go_wp2
  go_ret
  exact ⟨rfl, Below.refl _ _⟩
set_option maxHeartbeats 1000000 in
theorem nil_epoch (w : World) : Calls Try.prog 29 #[.pointer none] w fun e w' => e = .returned (.int .u64 0) ∧ Below w.heap.size w w' := by
  go_enter Try.func29, Try.ntmps29
  go_wp2
  go_ret
  exact ⟨rfl, Below.refl _ _⟩
set_option maxHeartbeats 1000000 in
theorem nil_life (w : World) : Calls Try.prog 28 #[.pointer none] w fun e w' => e = .returned (.int .u64 0) ∧ Below w.heap.size w w' := by
  go_enter Try.func28, Try.ntmps28
  go_wp2
  go_ret
  exact ⟨rfl, Below.refl _ _⟩
set_option maxHeartbeats 1000000 in
theorem nil_records (w : World) : Calls Try.prog 24 #[.pointer none] w fun e w' => (∃ a c, e = .returned (.slice a 0 c)) ∧ Below w.heap.size w w' := by
  go_enter Try.func24, Try.ntmps24
  go_wp2
  go_ret
  exact ⟨⟨_, _, rfl⟩, Below.refl _ _⟩
set_option maxHeartbeats 1000000 in
theorem nil_append (bv : Value) (b : Bs) (w : World) (hY : IsY w bv b) : Calls Try.prog 14 #[.pointer none, bv] w fun e w' => e = .returned (.int .i64 1) ∧ Below w.heap.size w w' := by
  obtain ⟨ba, bc, rfl⟩ := hY.form
  clear hY
  generalize b.length = n at *
  go_enter Try.func14, Try.ntmps14
  go_wp2
  go_ret
  exact ⟨rfl, Below.refl _ _⟩
set_option maxHeartbeats 1000000 in
theorem pepoch_any (A : Nat → Prop) (dv lv : Value) (m : LM) (w : World) (h : IsLog A w dv lv m) : Calls Try.prog 29 #[lv] w fun e w' => e = .returned (.int .u64 (m.ep : Int)) ∧ Below w.heap.size w w' := by
  obtain ⟨a, tv, ev, rfl, rfl, h⟩ := h
  obtain ⟨x0, x1, x2, x3, x4, x5, x6, x7, x8, xf⟩ := lp_cells h.box
  clear h x0 x6 x7
  go_enter Try.func29, Try.ntmps29
  go_wp2
  go_ret
  exact ⟨rfl, Below.refl _ _⟩
set_option maxHeartbeats 1000000 in
theorem plife_any (A : Nat → Prop) (dv lv : Value) (m : LM) (w : World) (h : IsLog A w dv lv m) : Calls Try.prog 28 #[lv] w fun e w' => e = .returned (.int .u64 (m.li : Int)) ∧ Below w.heap.size w w' := by
  obtain ⟨a, tv, ev, rfl, rfl, h⟩ := h
  obtain ⟨x0, x1, x2, x3, x4, x5, x6, x7, x8, xf⟩ := lp_cells h.box
  clear h x0 x6 x7
  go_enter Try.func28, Try.ntmps28
  go_wp2
  go_ret
  exact ⟨rfl, Below.refl _ _⟩
set_option maxHeartbeats 2000000 in
theorem proom_same (A : Nat → Prop) (dv lv : Value) (m : LM) (w : World) (h : IsLog A w dv lv m) (hO : OkG m) : Calls Try.prog 26 #[lv] w fun e w' => e = .returned (.int .i64 (roomW m : Int)) ∧ ∃ n, w' = w.drewN n := by
  obtain ⟨a, tv, ev, rfl, rfl, h⟩ := h
  obtain ⟨x0, x1, x2, x3, x4, x5, x6, x7, x8, xf⟩ := lp_cells h.box
  clear h x0 x6 x7
  obtain ⟨first, size, ep, li, en, recs, broken⟩ := m
  obtain ⟨h1, h2, h3, _, _⟩ := hO
  simp only at h1 h2 h3 x1 x2 x3 x4 x5 x8
  cases broken
  · have HR : Hid (roomW ⟨first, size, ep, li, en, recs, false⟩ = min ((size * 4 - en) * 39) 6000) := hide rfl
    generalize roomW ⟨first, size, ep, li, en, recs, false⟩ = R at *
    have hc : (((4 * (size : Int) - en) * 39 ≤ 6000 ∧ (R : Int) = (4 * (size : Int) - en) * 39) ∨ (¬ (4 * (size : Int) - en) * 39 ≤ 6000 ∧ (R : Int) = 6000)) := by
      have := HR.out
      omega
    clear HR
    go_enter Try.func26, Try.ntmps26
    go_wp2
    have HC := hide hc
    clear hc
    go_quiet (fail)
    go_wp2
    go_ret
    refine ⟨congrArg (fun z : Int => Ending.returned (Value.int IntKind.i64 z)) (show min (39 * (4 * (size : Int) - en)) 6000 = R by have := HC.out; omega), _, rfl⟩
  · go_enter Try.func26, Try.ntmps26
    go_wp2
    go_ret
    exact ⟨rfl, 0, rfl⟩
theorem proom_any (A : Nat → Prop) (dv lv : Value) (m : LM) (w : World) (h : IsLog A w dv lv m) (hO : OkG m) : Calls Try.prog 26 #[lv] w fun e w' => e = .returned (.int .i64 (roomW m : Int)) ∧ Below w.heap.size w w' := (proom_same A dv lv m w h hO).mono fun e w' hh => by
  obtain ⟨h1, n, rfl⟩ := hh
  exact ⟨h1, below_drewN (Below.refl _ w) n⟩
end Go.Proofs.Ythpepkfodcgbcaa
/- What the program's Sync and Reset answer. -/
set_option linter.unusedVariables false
set_option linter.unusedSimpArgs false
set_option maxRecDepth 40000
namespace Go.Proofs.Ythpepkfodcgbcaa
open Go.RowKit

/-- Behind an act: the disk was written first, then the log. -/
theorem act_end {A B B' : Nat → Prop} {w x y : World} {a : Nat} {dv tv ev tv' ev' : Value} {d' : DM} {m m' : LM} (hL : IsLP w a dv tv ev m) (hCB : ∀ k, lpA a tv ev k → ¬ B k) (hA : ∀ k, A k ↔ (B k ∨ lpA a tv ev k)) (hK : IsK B' x dv d') (hg : Grew B B' w.heap.size) (hbx : ButA B w x)
    (hL' : IsLP y a dv tv' ev' m') (hby : ButA (lpA a tv ev) x y) (hg' : Grew (lpA a tv ev) (lpA a tv' ev') x.heap.size) : ∃ A', DL A' y dv (.pointer (some ⟨a, 0, none⟩)) d' m' ∧ Grew A A' w.heap.size ∧ ButA A w y := by
  have h1 : ∀ k, lpA a tv ev k → ¬ B' k := fun k hk hb => by
    rcases hg k hb with h | h
    · exact hCB k hk h
    · have := hL.lt k hk
      omega
  refine ⟨fun k => B' k ∨ lpA a tv' ev' k, ⟨B', _, hK.keep fun k hk => hby.block k (hK.lt k hk) fun hc => h1 k hc hk, ⟨a, tv', ev', rfl, rfl, hL'⟩, fun k hk hb => ?_, fun k => Iff.rfl⟩, fun k hk => ?_, (hbx.mono fun k hk => (hA k).2 (.inl hk)).trans (hby.mono fun k hk => (hA k).2 (.inr hk)) fun _ _ h => h⟩
  · rcases hg' k hk with h | h
    · exact h1 k h hb
    · have := hK.lt k hb
      omega
  · rcases hk with hk | hk
    · exact (hg k hk).imp (fun h => (hA k).2 (.inl h)) id
    · exact (hg' k hk).imp (fun h => (hA k).2 (.inr h)) fun h => Nat.le_trans hbx.size h
/-- The box is written over, the rows are kept. -/
theorem IsLP.box_set {w x : World} {a : Nat} {dv tv ev : Value} {m m' : LM} (h : IsLP w a dv tv ev m) (hb : x.heap[a]? = some (.cells (lpC dv tv ev m') 83 (0, 0))) (ho : ∀ k, k ≠ a → x.heap[k]? = w.heap[k]?) (hr : m'.recs = m.recs) (he : m'.end_ = m.end_) : IsLP x a dv tv ev m' := by
  obtain ⟨n1, n2, n3⟩ := h.apart
  refine ⟨hb, ?_, ?_, by rw [he]; exact h.en, by rw [hr, he]; exact h.fl, by rw [hr, he]; exact h.rl, by rw [hr]; exact h.ne, h.dp⟩
  · rw [hr]; exact h.t.keep fun j hj => ho j (n1 j hj)
  · rw [hr]; exact h.e.keep fun j hj => ho j (n2 j hj)
theorem IsLP.disk {w x : World} {a : Nat} {dv tv ev : Value} {m : LM} {B : Nat → Prop} (h : IsLP w a dv tv ev m) (hCB : ∀ k, lpA a tv ev k → ¬ B k) (hb : ButA B w x) : IsLP x a dv tv ev m := h.keep fun k hk => hb.block k (h.lt k hk) (hCB k hk)
theorem IsLP.setBroken {w : World} {a : Nat} {dv tv ev : Value} {m : LM} (h : IsLP w a dv tv ev m) (bb : Bool) : IsLP (w.setCell ⟨a, 8, none⟩ (.bool bb)) a dv tv ev { m with broken := bb } ∧ ButA (lpA a tv ev) w (w.setCell ⟨a, 8, none⟩ (.bool bb)) :=
  ⟨h.box_set (by rw [heap_box_set h.box 8 _]; rfl) (fun k hk => Below.heap_setCell _ _ _ _ hk) rfl rfl, (ButA.refl _ w).setCell (.inl (.inl rfl)) _⟩
theorem flush_code (d : DM) : (flushD d).2 = 0 ∨ (flushD d).2 = 9 := by
  unfold flushD
  split
  · exact .inl rfl
  · exact .inr rfl
set_option maxHeartbeats 4000000 in
theorem psync_any (A : Nat → Prop) (dv lv : Value) (d : DM) (m : LM) (w : World) (h : DL A w dv lv d m) (hF : Fit d) :
    Calls Try.prog 16 #[lv] w (PActR A w dv lv (syncW m d).1 (syncW m d).2.1 (syncW m d).2.2) := by
  have h0 := h
  obtain ⟨B, C, hK, ⟨a, tv, ev, rfl, rfl, hL⟩, hCB, hA⟩ := h
  obtain ⟨x0, x1, x2, x3, x4, x5, x6, x7, x8, xf⟩ := lp_cells hL.box
  obtain ⟨dp, rfl⟩ := hL.dp
  obtain ⟨first, size, ep, li, en, recs, broken⟩ := m
  simp only at x8
  cases broken
  · have HFL := hide (pflush_any B _ d w hK hF)
    have e1 : syncW ⟨first, size, ep, li, en, recs, false⟩ d = ((if (flushD d).2 = 0 then ⟨first, size, ep, li, en, recs, false⟩ else ⟨first, size, ep, li, en, recs, true⟩), (flushD d).1, (flushD d).2) := rfl
    rw [e1]
    have HST : Hid (∀ x bb, KR IsK B w (.pointer (some dp)) (flushD d).1 x → ((∃ old, x.cell? ⟨a, 8, none⟩ = some old) ∧ x.frozen? ⟨a, 8, none⟩ = false) ∧ ∃ A', DL A' (x.setCell ⟨a, 8, none⟩ (.bool bb)) (.pointer (some dp)) (.pointer (some ⟨a, 0, none⟩)) (flushD d).1 ⟨first, size, ep, li, en, recs, bb⟩ ∧ Grew A A' w.heap.size ∧ ButA A w (x.setCell ⟨a, 8, none⟩ (.bool bb))) := hide (fun x bb hx => by
      obtain ⟨B', q1, q2, q3⟩ := hx
      have hL2 := hL.disk hCB q3
      obtain ⟨_, _, _, _, _, _, _, _, y8, yf⟩ := lp_cells hL2.box
      obtain ⟨p1, p2⟩ := hL2.setBroken bb
      exact ⟨⟨⟨_, y8⟩, yf 8⟩, act_end hL hCB hA q1 q2 q3 p1 p2 (Grew.refl _ _)⟩)
    clear hK hL hCB hA h0 x1 x2 x3 x4 x5 x6 x7
    rcases flush_code d with hc | hc
    all_goals
      rw [hc] at HFL ⊢
      go_enter Try.func16, Try.ntmps16
      go_wp2_with fail
      refine HFL.out.mono ?_
      rintro e w1 ⟨rfl, hk⟩
      first
        | (obtain ⟨⟨⟨old, hold⟩, hfro⟩, hend⟩ := HST.out w1 false hk
           have HE := hide hend
           clear HST HFL hk hend
           go_wp2
           go_ret
           exact ⟨rfl, HE.out⟩)
        | (obtain ⟨⟨⟨old, hold⟩, hfro⟩, hend⟩ := HST.out w1 true hk
           have HE := hide hend
           clear HST HFL hk hend
           go_wp2
           go_ret
           exact ⟨rfl, HE.out⟩)
  · have HE : Hid (PActR A w (.pointer (some dp)) (.pointer (some ⟨a, 0, none⟩)) (syncW ⟨first, size, ep, li, en, recs, true⟩ d).1 (syncW ⟨first, size, ep, li, en, recs, true⟩ d).2.1 (syncW ⟨first, size, ep, li, en, recs, true⟩ d).2.2 (.returned (.int .i64 9)) w) := hide ⟨rfl, A, h0, Grew.refl _ _, ButA.refl _ _⟩
    clear hK hL hCB hA h0 x1 x2 x3 x4 x5 x6 x7
    go_enter Try.func16, Try.ntmps16
    go_wp2
    go_ret
    exact HE.out
set_option maxHeartbeats 4000000 in
theorem preset_any (A : Nat → Prop) (dv lv : Value) (d : DM) (m : LM) (ep : Nat) (w : World) (h : DL A w dv lv d m) (hO : OkG m) (he : ep < 18446744073709551616) :
    Calls Try.prog 18 #[lv, .int .u64 (ep : Int)] w (PActR A w dv lv (resetW m ep).1 d (resetW m ep).2) := by
  have h0 := h
  obtain ⟨B, C, hK, ⟨a, tv, ev, rfl, rfl, hL⟩, hCB, hA⟩ := h
  obtain ⟨x0, x1, x2, x3, x4, x5, x6, x7, x8, xf⟩ := lp_cells hL.box
  obtain ⟨first, size, ep0, li, en, recs, broken⟩ := m
  simp only at x3 x5 x8
  have HSAME : Hid (∃ A', DL A' w dv (.pointer (some ⟨a, 0, none⟩)) d ⟨first, size, ep0, li, en, recs, broken⟩ ∧ Grew A A' w.heap.size ∧ ButA A w w) := hide ⟨A, h0, Grew.refl _ _, ButA.refl _ _⟩
  cases broken
  · by_cases hle : ep ≤ ep0
    · have hle2 : (ep : Int) ≤ ep0 := by omega
      have e1 : resetW ⟨first, size, ep0, li, en, recs, false⟩ ep = (⟨first, size, ep0, li, en, recs, false⟩, 1) := by unfold resetW; simp [hle]
      rw [e1]
      clear hK hL hCB hA h0 x0 x6 x7 e1
      go_enter Try.func18, Try.ntmps18
      go_wp2
      go_ret
      exact ⟨rfl, HSAME.out⟩
    · have hle2 : ¬ (ep : Int) ≤ ep0 := by omega
      have e1 : resetW ⟨first, size, ep0, li, en, recs, false⟩ ep = (⟨first, size, ep, li, 0, [], false⟩, 0) := by unfold resetW; simp [hle]
      rw [e1]
      have HE : Hid (∃ A', DL A' ((((w.setCell ⟨a, 3, none⟩ (.int .u64 (ep : Int))).setCell ⟨a, 5, none⟩ (.int .i64 0)).setCell ⟨a, 6, none⟩ (.slice none 0 0)).setCell ⟨a, 7, none⟩ (.slice none 0 0)) dv (.pointer (some ⟨a, 0, none⟩)) d ⟨first, size, ep, li, 0, [], false⟩ ∧ Grew A A' w.heap.size ∧ ButA A w ((((w.setCell ⟨a, 3, none⟩ (.int .u64 (ep : Int))).setCell ⟨a, 5, none⟩ (.int .i64 0)).setCell ⟨a, 6, none⟩ (.slice none 0 0)).setCell ⟨a, 7, none⟩ (.slice none 0 0))) := hide (by
        refine act_end hL hCB hA hK (Grew.refl _ _) (ButA.refl _ _) (tv' := .slice none 0 0) (ev' := .slice none 0 0) ⟨?_, RowI.nil _ _, RowI.nil _ _, Nat.zero_le _, Nat.zero_le _, Nat.zero_le _, fun r hr => (by cases hr), hL.dp⟩ ((((((ButA.refl _ w).setCell (.inl (.inl rfl)) _).setCell (.inl (.inl rfl)) _).setCell (.inl (.inl rfl)) _).setCell (.inl (.inl rfl)) _)) ?_
        · rw [heap_box_set (heap_box_set (heap_box_set (heap_box_set hL.box 3 _) 5 _) 6 _) 7 _]
          rfl
        · rintro k (rfl | hk | hk)
          · exact .inl (.inl rfl)
          · cases hk
          · cases hk)
      clear hK hL hCB hA h0 e1 HSAME
      go_enter Try.func18, Try.ntmps18
      go_wp2
      go_ret
      exact ⟨rfl, HE.out⟩
  · have e1 : resetW ⟨first, size, ep0, li, en, recs, true⟩ ep = (⟨first, size, ep0, li, en, recs, true⟩, 9) := by unfold resetW; simp
    rw [e1]
    clear hK hL hCB hA h0 x0 x6 x7 e1
    go_enter Try.func18, Try.ntmps18
    go_wp2
    go_ret
    exact ⟨rfl, HSAME.out⟩
end Go.Proofs.Ythpepkfodcgbcaa
/- Bytes of one block, written over; what the program's put does. -/
set_option linter.unusedVariables false
set_option linter.unusedSimpArgs false
set_option maxRecDepth 40000
namespace Go.Proofs.Ythpepkfodcgbcaa
open Go.RowKit

/-- Bytes laid over others from a place on. -/
def setBK (F : Bs) (o : Nat) : Bs → Bs
  | [] => F
  | v :: r => setBK (F.set o v) (o + 1) r
theorem setB_lenK : ∀ (x : Bs) (F : Bs) (o : Nat), (setBK F o x).length = F.length
  | [], F, o => rfl
  | v :: r, F, o => by rw [setBK, setB_lenK r]; simp
theorem setB_getK : ∀ (x : Bs) (F : Bs) (o j : Nat), o + x.length ≤ F.length → (setBK F o x)[j]? = if o ≤ j ∧ j < o + x.length then x[j - o]? else F[j]?
  | [], F, o, j, h => by
    show F[j]? = _
    rw [if_neg (by rw [List.length_nil]; omega)]
  | v :: r, F, o, j, h => by
    have h' : o + (r.length + 1) ≤ F.length := h
    rw [setBK, setB_getK r (F.set o v) (o + 1) j (by rw [List.length_set]; omega), List.length_cons]
    by_cases h1 : j = o
    · subst h1
      rw [if_neg (by omega), if_pos (by omega), List.getElem?_set_self (by omega)]
      simp
    · rw [List.getElem?_set_ne (by omega)]
      by_cases h2 : o ≤ j ∧ j < o + (r.length + 1)
      · rw [if_pos (by omega), if_pos h2, show j - o = (j - (o + 1)) + 1 by omega, List.getElem?_cons_succ]
      · rw [if_neg (by omega), if_neg h2]
theorem setB_isK (x F : Bs) (o : Nat) (h : o + x.length ≤ F.length) : setBK F o x = F.take o ++ (x ++ F.drop (o + x.length)) := by
  apply List.ext_getElem?
  intro j
  rw [setB_getK x F o j h]
  have hl : (F.take o).length = o := by rw [List.length_take]; omega
  by_cases h1 : o ≤ j
  · rw [List.getElem?_append_right (by omega), hl]
    by_cases h2 : j < o + x.length
    · rw [if_pos ⟨h1, h2⟩, List.getElem?_append_left (by omega)]
    · rw [if_neg (by omega), List.getElem?_append_right (by omega), List.getElem?_drop]
      congr 1
      omega
  · rw [if_neg (by omega), List.getElem?_append_left (by omega), List.getElem?_take, if_pos (by omega)]
theorem setB_frontK (F x : Bs) (o : Nat) (v : UInt8) (h : o + 1 + x.length ≤ F.length) : (setBK F (o + 1) x).set o v = setBK F o (v :: x) := by
  apply List.ext_getElem?
  intro j
  rw [setB_getK (v :: x) F o j (by rw [List.length_cons]; omega), List.length_cons]
  by_cases h1 : j = o
  · subst h1
    rw [List.getElem?_set_self (by rw [setB_lenK]; omega), if_pos (by omega)]
    simp
  · rw [List.getElem?_set_ne (by omega), setB_getK x F (o + 1) j (by omega)]
    by_cases h2 : o + 1 ≤ j ∧ j < o + 1 + x.length
    · rw [if_pos h2, if_pos (by omega), show j - o = (j - (o + 1)) + 1 by omega, List.getElem?_cons_succ]
    · rw [if_neg h2, if_neg (by omega)]
/-- What is laid behind what was laid. -/
theorem setB_nextK (A X Z x : Bs) (h : Z.length = x.length + X.length) : setBK (A ++ Z) A.length x = A ++ x ++ Z.drop x.length := by
  rw [setB_isK x _ _ (by rw [List.length_append]; omega), List.take_left, List.drop_append, List.drop_of_length_le (by omega), List.nil_append, show A.length + x.length - A.length = x.length by omega, List.append_assoc]
abbrev bytesVK (l : Bs) : List Value := Lib.byteCells l
theorem bytesV_lenK (l : Bs) : (bytesVK l).length = l.length := byteCells_len l
/-- All bytes of a block. -/
def BlkY (w : World) (g : Nat) (t : TypeId) (F : Bs) : Prop := w.heap[g]? = some (.cells (bytesVK F).toArray t (0, 0))
theorem BlkY.cell {w : World} {g : Nat} {t : TypeId} {F : Bs} (h : BlkY w g t F) (j : Nat) (hj : j < F.length) : w.cell? ⟨g, j, none⟩ = some (.int .u8 (F[j].toNat : Int)) := by
  rw [cell_of_row w g j _ t _ h]
  have := byteCells_get F j hj
  simpa using this
theorem BlkY.frozen {w : World} {g : Nat} {t : TypeId} {F : Bs} (h : BlkY w g t F) (j : Nat) : w.frozen? ⟨g, j, none⟩ = false := by unfold BlkY at h; simp [World.frozen?, h]
theorem BlkY.lt {w : World} {g : Nat} {t : TypeId} {F : Bs} (h : BlkY w g t F) : g < w.heap.size := (Array.getElem?_eq_some_iff.1 h).1
theorem BlkY.keep {w W : World} {g : Nat} {t : TypeId} {F : Bs} (h : BlkY w g t F) (hk : W.heap[g]? = w.heap[g]?) : BlkY W g t F := hk.trans h
theorem bytesV_setAK (F : Bs) (o : Nat) (v : UInt8) : (bytesVK F).toArray.setIfInBounds o (.int .u8 (v.toNat : Int)) = (bytesVK (F.set o v)).toArray := by
  apply Array.ext'
  simp [bytesVK, Lib.byteCells, List.map_set]
theorem BlkY.set {w : World} {g : Nat} {t : TypeId} {F : Bs} (h : BlkY w g t F) (o : Nat) (v : UInt8) : BlkY (w.setCell ⟨g, o, none⟩ (.int .u8 (v.toNat : Int))) g t (F.set o v) := by
  unfold BlkY at *
  rw [setCell_eq_setRow w g o _ t _ _ h, setRow_heap w g _ _ t _ h, bytesV_setAK]
theorem BlkY.isY {w : World} {g : Nat} {t : TypeId} {F : Bs} (h : BlkY w g t F) (o k cap : Nat) (hk : o + k ≤ F.length) (hc : k ≤ cap) : IsY w (.slice (some ⟨g, o, none⟩) k cap) ((F.drop o).take k) := by
  have hlen : ((F.drop o).take k).length = k := by rw [List.length_take, List.length_drop]; omega
  refine .inr ⟨g, o, cap, by rw [hlen], by rw [hlen]; omega, fun j hj => ?_⟩
  rw [hlen] at hj
  rw [h.cell (o + j) (by omega)]
  congr 3
  rw [List.getElem_take, List.getElem_drop]
/-- Nothing is written but block g. -/
structure ButG (g : Nat) (w w' : World) : Prop where
  os : w'.os = w.os
  tape : w'.tape = w.tape
  output : w'.output = w.output
  size : w'.heap.size = w.heap.size
  block : ∀ k, k ≠ g → w'.heap[k]? = w.heap[k]?
theorem ButG.refl (g : Nat) (w : World) : ButG g w w := ⟨rfl, rfl, rfl, rfl, fun _ _ => rfl⟩
theorem ButG.trans {g : Nat} {w w1 w2 : World} (h : ButG g w w1) (k : ButG g w1 w2) : ButG g w w2 := ⟨k.os.trans h.os, k.tape.trans h.tape, k.output.trans h.output, k.size.trans h.size, fun j hj => (k.block j hj).trans (h.block j hj)⟩
theorem ButG.setCell {g : Nat} {w w' : World} (h : ButG g w w') (o : Nat) (v : Value) : ButG g w (w'.setCell ⟨g, o, none⟩ v) := ⟨h.os, h.tape, h.output, by rw [← h.size]; simp [World.setCell], fun k hk => (Below.heap_setCell _ _ _ _ hk).trans (h.block k hk)⟩
theorem ButG.below {g n : Nat} {w w' : World} (h : ButG g w w') (hn : n ≤ g) : Below n w w' := ⟨h.os, h.tape, h.output, by have := h.size; omega, fun k hk => h.block k (by omega)⟩
theorem ButG.drew {g : Nat} {w w' : World} (h : ButG g w w') : ButG g w w'.drew := ⟨h.os, h.tape, h.output, h.size, h.block⟩
def PutR (w : World) (g o N n : Nat) (t : TypeId) (F : Bs) (e : Ending) (w' : World) : Prop := e = .returned (.tuple #[]) ∧ BlkY w' g t (setBK F o (putB n N)) ∧ ButG g w w'
theorem div_next (n i : Nat) : ((n / 256 ^ i : Nat) : Int) / 256 = ((n / 256 ^ (i + 1) : Nat) : Int) := by
  rw [Nat.pow_succ, ← Nat.div_div_eq_div_mul]
  omega
set_option maxHeartbeats 4000000 in
theorem pput_any (g o N cap n : Nat) (t : TypeId) (F : Bs) (w : World) (hB : BlkY w g t F) (hN : N ≤ 8) (hoN : o + N ≤ F.length) (hF : F.length ≤ 1000) (hn : n < 18446744073709551616) : Calls Try.prog 79 #[.slice (some ⟨g, o, none⟩) N cap, .int .u64 (n : Int)] w (PutR w g o N n t F) := by
  have HS0 : Hid (BlkY w g t (setBK F (o + N - 0) (putB n 0)) ∧ ButG g w w) := hide ⟨hB, ButG.refl _ _⟩
  have HP : Hid (∀ i, i < N → setBK F (o + N - (i + 1)) (putB n (i + 1)) = (setBK F (o + N - i) (putB n i)).set (o + N - (i + 1)) (UInt8.ofNat (n / 256 ^ i))) := hide (fun i hi => by
    have h := setB_frontK F (putB n i) (o + N - (i + 1)) (UInt8.ofNat (n / 256 ^ i)) (by rw [put_len]; omega)
    rw [show o + N - (i + 1) + 1 = o + N - i by omega] at h
    rw [h]
    rfl)
  have HL := hide (fun i => setB_lenK (putB n i) F (o + N - i))
  have HD := hide (fun i => div_next n i)
  have hn0 : ((n / 256 ^ 0 : Nat) : Int) = (n : Int) := by rw [Nat.pow_zero, Nat.div_one]
  clear hB
  go_enter Try.func79, Try.ntmps79
  go_wp2
  go_loopw [1, 7] (fun nv iv wr => ∃ (i : Nat), i ≤ N ∧ iv = .int .i64 (i : Int) ∧ nv = .int .u64 ((n / 256 ^ i : Nat) : Int) ∧ Hid (BlkY wr g t (setBK F (o + N - i) (putB n i)) ∧ ButG g w wr)) (fun _ iv _ => N - (intOf iv).toNat)
  case atStart => exact ⟨0, Nat.zero_le _, rfl, by rw [hn0], HS0⟩
  case round =>
    clear HS0 hn0
    obtain ⟨i, hi, rfl, rfl, HS⟩ := hrel
    by_cases hlt : i < N
    · have hlt2 : (i : Int) < (N : Int) := by omega
      obtain ⟨q, rfl⟩ : ∃ q, N = i + 1 + q := ⟨N - (i + 1), by omega⟩
      have hq : o + (i + 1 + q) - (i + 1) = o + q := by omega
      have hw1 : wrap64 (((i + 1 + q : Nat) : Int) - 1) = ((i + q : Nat) : Int) := by unfold wrap64; omega
      have hw2 : wrap64 (((i + q : Nat) : Int) - (i : Int)) = (q : Int) := by unfold wrap64; omega
      have hp := HP.out i (by omega)
      rw [hq] at hp
      have hl := HL.out i
      have hc : wr.cell? ⟨g, o + q, none⟩ = some (.int .u8 (((setBK F (o + (i + 1 + q) - i) (putB n i))[o + q]'(by rw [hl]; omega)).toNat : Int)) := HS.out.1.cell (o + q) (by rw [hl]; omega)
      have hf := HS.out.1.frozen (o + q)
      have hs := HS.out.1.set (o + q) (UInt8.ofNat (n / 256 ^ i))
      rw [← hp] at hs
      have hby : ((UInt8.ofNat (n / 256 ^ i)).toNat : Int) = ((n / 256 ^ i : Nat) : Int) % 256 := by rw [UInt8.toNat_ofNat']; rfl
      have hb2 := HS.out.2.setCell (o + q) (.int .u8 (((n / 256 ^ i : Nat) : Int) % 256))
      rw [hby] at hs
      have HS2 := hide (And.intro hs hb2)
      have hdv := HD.out i
      have hlq : q < i + 1 + q := by omega
      generalize hX : ((setBK F (o + (i + 1 + q) - i) (putB n i))[o + q]'(by rw [hl]; omega)).toNat = X at *
      have hM : n / 256 ^ i < 18446744073709551616 := Nat.lt_of_le_of_lt (Nat.div_le_self _ _) hn
      clear hs hb2 hp hl HS HP HL HD hby hX hoN hF hn
      generalize hM2 : n / 256 ^ (i + 1) = M2 at *
      have HM2 := hide hM2
      clear hM2
      generalize n / 256 ^ i = M at *
      go_wp2
      go_roundw
      case rel => exact ⟨i + 1, by omega, by go_num, by rw [HM2.out], by rw [hq]; exact HS2⟩
      case measure => simp [intOf]; omega
    · have hlt2 : ¬ (i : Int) < (N : Int) := by omega
      obtain rfl : i = N := by omega
      have HF : Hid (PutR w g o i n t F (.returned (.tuple #[])) wr) := hide ⟨rfl, by have h := HS.out.1; rw [show o + i - i = o by omega] at h; exact h, HS.out.2⟩
      clear HS HP HL HD
      go_wp2
      go_end0
      exact HF.out
theorem cells_otherK (g : Nat) : ∀ (vs : List Value) (o : Nat) (w : World) (k : Nat), k ≠ g → (w.setCells g o vs).heap[k]? = w.heap[k]?
  | [], _, _, _, _ => rfl
  | v :: r, o, w, k, h => by rw [World.setCells, cells_otherK g r (o + 1) _ k h, Below.heap_setCell _ _ _ _ h]
theorem cells_sizeK (g : Nat) : ∀ (vs : List Value) (o : Nat) (w : World), (w.setCells g o vs).heap.size = w.heap.size
  | [], _, _ => rfl
  | v :: r, o, w => by rw [World.setCells, cells_sizeK g r]; simp [World.setCell]
theorem cells_outK (g : Nat) : ∀ (vs : List Value) (o : Nat) (w : World), (w.setCells g o vs).os = w.os ∧ (w.setCells g o vs).tape = w.tape ∧ (w.setCells g o vs).output = w.output
  | [], _, _ => ⟨rfl, rfl, rfl⟩
  | v :: r, o, w => by rw [World.setCells]; exact cells_outK g r (o + 1) _
theorem ButG.cells (g : Nat) (vs : List Value) (o : Nat) (w : World) : ButG g w (w.setCells g o vs) := by
  obtain ⟨h1, h2, h3⟩ := cells_outK g vs o w
  exact ⟨h1, h2, h3, cells_sizeK g vs o w, fun k hk => cells_otherK g vs o w k hk⟩
theorem BlkY.cells {g : Nat} {t : TypeId} : ∀ (x F : Bs) (o : Nat) (w : World), BlkY w g t F → BlkY (w.setCells g o (bytesVK x)) g t (setBK F o x)
  | [], F, o, w, h => h
  | v :: r, F, o, w, h => by
    show BlkY ((w.setCell ⟨g, o, none⟩ (.int .u8 (v.toNat : Int))).setCells g (o + 1) (bytesVK r)) g t _
    exact BlkY.cells r (F.set o v) (o + 1) _ (h.set o v)
/-- copy(d, u), d a part of a block of the call's own. -/
theorem copy_isY (W : World) (g o dl dc : Nat) (t : TypeId) (F x : Bs) (u : Value) (hB : BlkY W g t F) (hU : IsY W u x) (hx : x.length ≤ dl) (ho : o + dl ≤ F.length) :
    ∃ W', (Builtin.copy_ #[43, 43] 3 #[.slice (some ⟨g, o, none⟩) dl dc, u]).run Try.prog W = .ok (.int .i64 (x.length : Int)) W' ∧ BlkY W' g t (setBK F o x) ∧ ButG g W W' := by
  rcases hU with ⟨rfl, a, c, rfl⟩ | ⟨b, so, cap, rfl, _, hh⟩
  · exact ⟨W, run_copy_none W _ _ _ 5 _ _ _ _ _ _ Try.underlying43 (by kernel_rfl) (by simp), hB, ButG.refl _ _⟩
  · have h := run_copy_cells (P := Try.prog) W 43 43 3 5 g o dl dc ⟨b, so, none⟩ x.length cap (bytesVK x) Try.underlying43 (by kernel_rfl) (by rw [bytesV_lenK]; exact (Nat.min_eq_left hx).symm)
      (fun j v hv => by
        have hj : j < x.length := by rw [← bytesV_lenK]; exact (List.getElem?_eq_some_iff.1 hv).1
        rw [byteCells_get x j hj] at hv
        rw [addr_addo, hh j hj]
        exact hv)
      (fun j hj => by rw [bytesV_lenK] at hj; rw [hB.cell (o + j) (by omega)]; rfl) (fun j _ => hB.frozen (o + j)) (byteCells_one x)
    rw [bytesV_lenK] at h
    exact ⟨_, h, BlkY.cells x F o W hB, ButG.cells g _ o W⟩
theorem step_wpK {P : Program} {ops : Array Oper} {o : Oper} {a : Act} {w : World} {K : Act → World → Prop} {Q : Exit → Act → World → Prop} {E : Prop} (hgd : o.guard = none) (h : Oper.wp P o a w K Q) : if Region.wanted o (yielded ops a.tmps) = true then Oper.wp P o a w K Q else E := by
  have hw : Region.wanted o (yielded ops a.tmps) = true := by simp [Region.wanted, hgd]
  rw [if_pos hw]
  exact h
end Go.Proofs.Ythpepkfodcgbcaa
