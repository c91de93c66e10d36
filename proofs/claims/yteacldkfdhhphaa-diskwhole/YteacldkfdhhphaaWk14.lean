/- DiskWhole: the program's disk beside the rows that it told. -/
import Derived.Test.YteacldkfdhhphaaWl14
import Derived.Test.YteacldkfdhhphaaSc14
import Derived.Maps.AppendAt
set_option linter.unusedVariables false
set_option linter.unusedSimpArgs false
set_option maxRecDepth 40000
namespace Go.Proofs.Yteacldkfdhhphaa
open Go.RowKit

/-- What was told first, and the list of what was told behind each write. -/
structure WF (w : World) (ws : List (Nat × Bs)) (wv av : Value) (us : List Value) (x : World) : Prop where
  y : NewY w.heap.size x wv (dumpW [])
  o : x.ownsRow w.heap.size 34 1 av us.length us
  d : ∀ j (hj : j < us.length), NewY w.heap.size x us[j] (dumpW (ws.take (j + 1)))
  b : Below w.heap.size w x
/-- The disk beside it. -/
structure WS (w : World) (v : Value) (m : DM) (ws : List (Nat × Bs)) (wv av : Value) (us : List Value) (x : World) : Prop where
  f : WF w ws wv av us x
  k : ∃ A, IsK A x v m ∧ (∀ k, A k → w.heap.size ≤ k) ∧ Off A wv ∧ Off A av ∧ ∀ u ∈ us, Off A u
  s : ∀ k, av.ownBlock = some k → wv.ownBlock ≠ some k ∧ ∀ u ∈ us, u.ownBlock ≠ some k
theorem owns_keep {w W : World} {B n : Nat} {e : TypeId} {z : Nat} {v : Value} {xs : List Value} (h : w.ownsRow B e z v n xs) (hk : ∀ k, v.ownBlock = some k → W.heap[k]? = w.heap[k]?) : W.ownsRow B e z v n xs := by
  refine ⟨h.1, ?_⟩
  rcases h.2 with h | ⟨g, cap, cur, h1, h2, h3, h4⟩
  · exact .inl h
  · subst h1
    exact .inr ⟨g, cap, cur, rfl, h2, (hk g rfl).trans h3, h4⟩
/-- Blocks of the rows stay. -/
theorem WF.keep {w x y : World} {ws : List (Nat × Bs)} {wv av : Value} {us : List Value} (h : WF w ws wv av us x) (hs : x.heap.size ≤ y.heap.size) (hb : Below w.heap.size w y) (h1 : ∀ k, wv.ownBlock = some k → y.heap[k]? = x.heap[k]?) (h2 : ∀ k, av.ownBlock = some k → y.heap[k]? = x.heap[k]?) (h3 : ∀ u ∈ us, ∀ k, u.ownBlock = some k → y.heap[k]? = x.heap[k]?) : WF w ws wv av us y :=
  ⟨h.y.keep hs h1, owns_keep h.o h2, fun j hj => (h.d j hj).keep hs (h3 _ (List.getElem_mem hj)), hb⟩
theorem WF.blk {w x : World} {ws : List (Nat × Bs)} {wv av : Value} {us : List Value} (h : WF w ws wv av us x) : (∀ k, wv.ownBlock = some k → k < x.heap.size) ∧ (∀ k, av.ownBlock = some k → k < x.heap.size) ∧ ∀ u ∈ us, ∀ k, u.ownBlock = some k → k < x.heap.size :=
  ⟨fun k hk => (h.y.blk k hk).2, fun k hk => (h.o.lt k hk).2, fun u hu k hk => by
    obtain ⟨j, hj, rfl⟩ := List.getElem_of_mem hu
    exact ((h.d j hj).blk k hk).2⟩
theorem WF.below {w x y : World} {ws : List (Nat × Bs)} {wv av : Value} {us : List Value} (h : WF w ws wv av us x) (hb : Below x.heap.size x y) : WF w ws wv av us y := by
  obtain ⟨h1, h2, h3⟩ := h.blk
  exact h.keep hb.size (h.b.trans (hb.mono h.b.size)) (fun k hk => hb.block k (h1 k hk)) (fun k hk => hb.block k (h2 k hk)) (fun u hu k hk => hb.block k (h3 u hu k hk))
theorem WF.but {A : Nat → Prop} {w x y : World} {ws : List (Nat × Bs)} {wv av : Value} {us : List Value} (h : WF w ws wv av us x) (hA : ∀ k, A k → w.heap.size ≤ k) (h1 : Off A wv) (h2 : Off A av) (h3 : ∀ u ∈ us, Off A u) (hb : ButA A x y) : WF w ws wv av us y := by
  obtain ⟨b1, b2, b3⟩ := h.blk
  exact h.keep hb.size (h.b.trans (hb.below hA h.b.size)) (fun k hk => hb.block k (b1 k hk) (h1 k hk)) (fun k hk => hb.block k (b2 k hk) (h2 k hk)) (fun u hu k hk => hb.block k (b3 u hu k hk) (h3 u hu k hk))
theorem WF.ws {w x : World} {ws ws' : List (Nat × Bs)} {wv av : Value} {us : List Value} (h : WF w ws wv av us x) (he : ∀ j, j < us.length → ws'.take (j + 1) = ws.take (j + 1)) : WF w ws' wv av us x :=
  ⟨h.y, h.o, fun j hj => by rw [he j hj]; exact h.d j hj, h.b⟩
theorem WS.below {w x y : World} {v : Value} {m : DM} {ws : List (Nat × Bs)} {wv av : Value} {us : List Value} (h : WS w v m ws wv av us x) (hb : Below x.heap.size x y) : WS w v m ws wv av us y := by
  obtain ⟨A, h1, h2⟩ := h.k
  exact ⟨h.f.below hb, ⟨A, h1.below hb, h2⟩, h.s⟩
theorem WS.kr {A : Nat → Prop} {w x y : World} {v : Value} {m m' : DM} {ws : List (Nat × Bs)} {wv av : Value} {us : List Value} (h : WS w v m ws wv av us x) (hA : ∀ k, A k → w.heap.size ≤ k) (h1 : Off A wv) (h2 : Off A av) (h3 : ∀ u ∈ us, Off A u) (hk : KR IsK A x v m' y) : WS w v m' ws wv av us y := by
  obtain ⟨A', k1, k2, k3⟩ := hk
  obtain ⟨b1, b2, b3⟩ := h.f.blk
  exact ⟨h.f.but hA h1 h2 h3 k3, ⟨A', k1, fun k hk => (k2 k hk).elim (hA k) (fun hh => Nat.le_trans h.f.b.size hh), fun k hk ha => (k2 k ha).elim (h1 k hk) (fun hh => by have := b1 k hk; omega), fun k hk ha => (k2 k ha).elim (h2 k hk) (fun hh => by have := b2 k hk; omega), fun u hu k hk ha => (k2 k ha).elim (h3 u hu k hk) (fun hh => by have := b3 u hu k hk; omega)⟩, h.s⟩
theorem WS.start {w x0 x : World} {v wv : Value} (hl : Liv w v (newD 3) x0) (hb : Below x0.heap.size x0 x) (hy : NewY x0.heap.size x wv (dumpW [])) : WS w v (dmW []) [] wv (.slice none 0 0) [] x := by
  obtain ⟨A, h1, h2⟩ := hl.k
  exact ⟨⟨hy.base hl.b.size, ⟨rfl, .inl ⟨rfl, rfl⟩⟩, fun j hj => absurd hj (Nat.not_lt_zero j), (hl.below hb).b⟩, ⟨A, h1.below hb, h2, fun k hk ha => by have := (hy.blk k hk).1; have := h1.lt k ha; omega, fun k hk => (by cases hk), fun u hu => (by cases hu)⟩, fun k hk => (by cases hk)⟩
theorem WS.liv {w x : World} {v : Value} {m : DM} {ws : List (Nat × Bs)} {wv av : Value} {us : List Value} (h : WS w v m ws wv av us x) : Liv w v m x := by
  obtain ⟨A, h1, h2, _⟩ := h.k
  exact ⟨⟨A, h1, h2⟩, h.f.b⟩
/-- A write. -/
theorem ws_write {w x x1 : World} {v : Value} {ws : List (Nat × Bs)} {wv av : Value} {us : List Value} (h : WS w v (dmW ws) ws wv av us x) (hok : OkW ws) (hl : ws.length ≤ 100) (hus : us.length = ws.length) (n : Nat) (hn : n < 3) {u : Value} {b : Bs} (hb : Below x.heap.size x x1) (hy : NewY x.heap.size x1 u b) (hbl : b.length = 256) :
    Calls Try.prog 23 #[v, .int .i64 (n : Int), u] x1 fun e y => e = .returned (.int .i64 0) ∧ Hid (WS w v (dmW (ws ++ [(n, b)])) (ws ++ [(n, b)]) wv av us y) := by
  obtain ⟨A, h1, h2, h3, h4, h5⟩ := h.k
  have h6 := h.below hb
  refine (pwrite_any A v (dmW ws) n u b x1 (h1.below hb) (fit_w hok (by omega)) hy.isY (fun _ => off_new h1 fun k hk => (hy.blk k hk).1) (by omega)).mono fun e y hh => ?_
  rw [write_w ws n hn b hbl] at hh
  have h7 := h6.kr h2 h3 h4 h5 hh.2
  exact ⟨hh.1, hide ⟨h7.f.ws fun j hj => by rw [List.take_append_of_le_length (by omega)], h7.k, h7.s⟩⟩
/-- What is told is put behind the list. -/
theorem ws_push {w x0 x : World} {v : Value} {m : DM} {ws : List (Nat × Bs)} {wv av : Value} {us : List Value} (h : WS w v m ws wv av us x0) (hb : Below x0.heap.size x0 x) (a : Option Addr) (n c : Nat) (hu : NewY x0.heap.size x (.slice a n c) (dumpW (ws.take (us.length + 1)))) (hus : us.length ≤ 100) :
    ∃ a' c' x', (Builtin.append_ #[54, 54] 54 #[av, .slice (some ⟨x.heap.size, 0, none⟩) 1 1]).run Try.prog (x.alloc (.cells #[.slice a n c] 34)) = .ok (.slice a' (us.length + 1) c') x' ∧ WS w v m ws wv (.slice a' (us.length + 1) c') (us ++ [.slice a n c]) x' := by
  have h0 := h.below hb
  have hba := below_alloc x (.cells #[.slice a n c] 34)
  have h1 := h0.below hba
  obtain ⟨v', x', hr, ho, hg, _, hat⟩ := run_append_own_at (P := Try.prog) (x.alloc (.cells #[.slice a n c] 34)) w.heap.size 54 54 34 Try.t34 (.slice none 0 0) 1 24 Try.underlying54 (by kernel_rfl) (by kernel_rfl) (by kernel_rfl) (by kernel_rfl) (by kernel_rfl) (by omega)
      av us.length us h1.f.o ⟨x.heap.size, 0, none⟩ 1 1 [.slice a n c] rfl
      (by
        intro j u hu
        have hj : j < 1 := (List.getElem?_eq_some_iff.1 hu).1
        obtain rfl : j = 0 := by omega
        obtain rfl : Value.slice a n c = u := by simpa using hu
        rw [addr_add]
        simp [go_sem]) (by intro u hu; obtain rfl := List.mem_singleton.1 hu; rfl) (by unfold maxLen; omega) (by omega) h1.f.b.size
  obtain ⟨a', c', rfl⟩ := owns_formG ho
  obtain ⟨A, q1, k2, k3, k4, k5⟩ := h.k
  have k1 := (q1.below hb).below hba
  obtain ⟨b1, b2, b3⟩ := h1.f.blk
  obtain ⟨e1, e2, e3⟩ := h.f.blk
  have hublk := hu.blk
  have hsz : x.heap.size < (x.alloc (.cells #[.slice a n c] 34)).heap.size := by simp
  have hkeep : ∀ k, k < (x.alloc (.cells #[.slice a n c] 34)).heap.size → av.ownBlock ≠ some k → x'.heap[k]? = (x.alloc (.cells #[.slice a n c] 34)).heap[k]? := fun k hk hne => hg.block k hk (fun e => hne e.symm)
  have hbw : Below w.heap.size w x' := h1.f.b.trans ⟨hg.os, hg.tape, hg.output, hg.size, fun k hk => hkeep k (Nat.lt_of_lt_of_le hk h1.f.b.size) (fun e => by have := (h1.f.o.lt k e).1; omega)⟩
  have hun : ∀ k, (Value.slice a n c).ownBlock = some k → av.ownBlock ≠ some k := fun k hk e => by
    have := (hublk k hk).1
    have := e2 k e
    omega
  have hu2 : NewY w.heap.size (x.alloc (.cells #[.slice a n c] 34)) (.slice a n c) (dumpW (ws.take (us.length + 1))) := (hu.below hba).base h.f.b.size
  refine ⟨a', c', x', hr, ⟨⟨h1.f.y.keep hg.size fun k hk => hkeep k (b1 k hk) (fun e => (h1.s k e).1 hk), by rw [List.length_append]; exact ho, fun j hj => ?_, hbw⟩, ⟨A, k1.keep fun k ha => hkeep k (k1.lt k ha) (fun e => k4 k e ha), k2, k3, fun k hk ha => ?_, fun u hu' => ?_⟩, fun k hk => ?_⟩⟩
  · by_cases hj2 : j < us.length
    · rw [List.getElem_append_left hj2]
      exact (h1.f.d j hj2).keep hg.size fun k hk => hkeep k (b3 _ (List.getElem_mem hj2) k hk) (fun e => (h1.s k e).2 _ (List.getElem_mem hj2) hk)
    · have hj3 : j = us.length := by rw [List.length_append, List.length_singleton] at hj; omega
      subst hj3
      rw [List.getElem_concat_length]
      exact hu2.keep hg.size fun k hk => hkeep k (hu2.blk k hk).2 (hun k hk)
      rfl
  · rcases hat with e | e
    · exact k4 k (e.symm.trans hk) ha
    · rw [e] at hk
      cases hk
      have := k1.lt _ ha
      omega
  · rcases List.mem_append.1 hu' with h | h
    · exact k5 u h
    · obtain rfl := List.mem_singleton.1 h
      intro k hk ha
      have := (hublk k hk).1
      have := q1.lt k ha
      omega
  · rcases hat with e | e
    · have hk2 := e.symm.trans hk
      refine ⟨(h1.s k hk2).1, fun u hu' => ?_⟩
      rcases List.mem_append.1 hu' with h | h
      · exact (h1.s k hk2).2 u h
      · obtain rfl := List.mem_singleton.1 h
        exact fun e => hun k e hk2
    · rw [e] at hk
      cases hk
      refine ⟨fun e => by have := b1 _ e; omega, fun u hu' => ?_⟩
      rcases List.mem_append.1 hu' with h | h
      · exact fun e => by have := b3 u h _ e; omega
      · obtain rfl := List.mem_singleton.1 h
        exact fun e => by have := (hu2.blk _ e).2; omega
/-- A crash. -/
theorem ws_crash {w x : World} {v : Value} {ws : List (Nat × Bs)} {wv av : Value} {us : List Value} (h : WS w v (dmW ws) ws wv av us x) (hok : OkW ws) (hl : ws.length ≤ 100) {kv : Value} {keep : List Bool} (hk : IsF w kv keep) (hkl : keep.length ≤ 9223372036854775807) :
    Calls Try.prog 22 #[v, kv] x fun e y => e = .returned (.tuple #[]) ∧ Hid (WS w v (crashD (dmW ws) keep) ws wv av us y) := by
  obtain ⟨A, h1, h2, h3, h4, h5⟩ := h.k
  exact (pcrash_any A v (dmW ws) kv keep x h1 (fit_w hok (by omega)) (hk.below h.f.b) (fun hne k hk2 ha => by have := isF_blk hk hne k hk2; have := h2 k ha; omega) hkl).mono fun e y hh => ⟨hh.1, hide (h.kr h2 h3 h4 h5 hh.2)⟩
/-- A part of a row of bytes, as a text. -/
theorem sec_bytes {B : Nat} {w : World} {a : Option Addr} {n c : Nat} {b : Bs} (h : NewY B w (.slice a n c) b) (hl : b.length = 768) (i : Nat) (hi : i < 12) :
    ∃ g o, a = some ⟨g, o, none⟩ ∧ n = 768 ∧ 768 ≤ c ∧ (convert 34 9 (.slice (some ⟨g, o + i * 64, none⟩) 64 (c - i * 64))).run Try.prog w = .ok (.string ⟨(secB b i).toArray⟩) w := by
  rcases h with ⟨h0, _⟩ | ⟨g, o, cap, e, _, _, hc, hh, _⟩
  · rw [h0] at hl; simp at hl
  · injection e with e1 e2 e3
    subst e1 e2 e3
    have hlc : (secB b i).length = 64 := by unfold secB; rw [List.length_take, List.length_drop]; omega
    have hcv := conv_bytes w g (o + i * 64) (c - i * 64) (secB b i) (fun j hj => by
      rw [hlc] at hj
      have h1 := hh (i * 64 + j) (by omega)
      rw [← Nat.add_assoc] at h1
      rw [h1]
      have : (secB b i)[j]'(by rw [hlc]; exact hj) = b[i * 64 + j]'(by omega) := by
        unfold secB
        rw [List.getElem_take, List.getElem_drop]
      rw [this])
    rw [hlc] at hcv
    exact ⟨g, o, rfl, hl, by omega, hcv⟩
theorem sec_slice (g o c s : Nat) (hs : s < 12) (hc : 768 ≤ c) : ∀ W, (Instr.slice 34 (.slice (some ⟨g, o, none⟩) 768 c) (some (.int .i64 ((s : Int) * 64))) (some (.int .i64 (((s : Int) + 1) * 64))) none).run Try.prog W = .ok (.slice (some ⟨g, o + s * 64, none⟩) 64 (c - s * 64)) W := by
  intro W
  have h1 : ((s : Int) * 64).toNat = s * 64 := by omega
  have h2 : (((s : Int) + 1) * 64).toNat = s * 64 + 64 := by omega
  have h3 : (s : Int) * 64 ≤ ((s : Int) + 1) * 64 := by omega
  have h4 : ((s : Int) + 1) * 64 ≤ c := by omega
  have h5 : 0 ≤ (s : Int) * 64 := by omega
  have h6 : 0 ≤ ((s : Int) + 1) * 64 := by omega
  have h7 : ¬ c - s * 64 = 0 := by omega
  have h8 : ¬ s * 64 = c := by omega
  have h9 : (s : Int) * 64 ≤ ((s * 64 + 64 : Nat) : Int) := by omega
  have h10 : s * 64 < c := by omega
  simp [Instr.slice, run_underlying Try.underlying34, Instr.sliceBounds, Instr.sliceBound, asIntOf, h1, h2, h3, h4, h5, h6, h7, h8, h9, Try.sizeOf5, addr_addo]
  rw [if_pos (by omega), if_neg (by omega)]
/-- Is a sector as one of those? -/
def okB (N D0 : Bs) (ds : Nat → Bs) (s : Nat) : Nat → Bool
  | 0 => secB N s == secB D0 s
  | j + 1 => okB N D0 ds s j || (secB N s == secB (ds j) s)
theorem ok_mono {N D0 : Bs} {ds : Nat → Bs} {s : Nat} : ∀ {i j : Nat}, i ≤ j → okB N D0 ds s i = true → okB N D0 ds s j = true
  | i, 0, h, hi => by obtain rfl : i = 0 := by omega
                      exact hi
  | i, j + 1, h, hi => by
    by_cases e : i = j + 1
    · subst e; exact hi
    · show (okB N D0 ds s j || _) = true
      rw [ok_mono (i := i) (j := j) (by omega) hi]
      rfl
theorem ok_of {N D0 : Bs} {ds : Nat → Bs} {s k : Nat} (h : secB N s = secB D0 s ∨ ∃ i, i < k ∧ secB N s = secB (ds i) s) : okB N D0 ds s k = true := by
  rcases h with h | ⟨i, hi, h⟩
  · exact ok_mono (Nat.zero_le k) (by show (secB N s == secB D0 s) = true; rw [h]; exact beq_self_eq_true _)
  · exact ok_mono (i := i + 1) hi (by show (_ || (secB N s == secB (ds i) s)) = true; rw [h, beq_self_eq_true, Bool.or_true])
end Go.Proofs.Yteacldkfdhhphaa
