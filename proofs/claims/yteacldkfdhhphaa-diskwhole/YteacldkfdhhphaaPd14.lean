/- What the program's New and Read answer. -/
import Derived.Test.YteacldkfdhhphaaPc14
import Derived.Lib.SlBuf
set_option linter.unusedVariables false
set_option linter.unusedSimpArgs false
set_option maxRecDepth 4000
namespace Go.Proofs.Yteacldkfdhhphaa
open Go.RowKit

theorem made_noughts (N : Nat) : (madeCells (Array.replicate 256 (Value.int .u8 0)) N).toList = bytesV (List.replicate N 0) := by
  apply List.ext_getElem?
  intro j
  by_cases hj : j < N
  · have hm : j % 256 < 256 := Nat.mod_lt _ (by decide)
    simp [madeCells, bytesV, hj, hm]
  · simp [madeCells, bytesV, hj]
theorem block_bytes : Try.t69.bytes = 256 := by kernel_rfl
theorem make_blocks (w : World) (n : Nat) (hn : n ≤ 4096) : ∃ w1, (Instr.makeSlice 59 (.int .i64 (n : Int)) (.int .i64 (n : Int))).run Try.prog w = .ok (.slice (some ⟨w.heap.size, 0, none⟩) n n) w1 ∧ w1.heap[w.heap.size]? = some (.cells (bytesV (List.replicate (256 * n) 0)).toArray 69 (0, 0)) ∧ Below w.heap.size w w1 := by
  obtain ⟨w1, h1, h2, h3⟩ := run_make_full (P := Try.prog) w w.heap.size 59 69 Try.t69 (.agg (Array.replicate 256 (Value.int .u8 0))) 256 Try.underlying59 (by kernel_rfl) (by kernel_rfl) (by kernel_rfl) .i64 .i64 n (by rw [block_bytes]; omega) (by unfold maxLen; omega) (Nat.le_refl _)
  refine ⟨w1, h1, ?_, (Below.refl _ w).grown h3 (Nat.le_refl _) (fun k hk => by cases hk)⟩
  rcases h2.2 with ⟨e, _⟩ | ⟨g, cap, cur, e, _, hg, _, _, hs, ht⟩
  · cases e
  · injection e with e1 e2 e3
    injection e1 with e1
    injection e1 with e1
    subst e1 e3
    rw [hg]
    have hc : cur.toList = bytesV (List.replicate (256 * n) 0) := by
      have := made_noughts (n * 256)
      rw [show Value.cells (.agg (Array.replicate 256 (Value.int .u8 0))) = Array.replicate 256 (Value.int .u8 0) from rfl] at ht
      rw [this, List.take_of_length_le (by rw [Array.length_toList]; omega)] at ht
      rw [ht, Nat.mul_comm]
    rw [← hc]
theorem new_cast (n : Int) (h : 1 ≤ n ∧ n ≤ 4096) : ∃ m : Nat, n = (m : Int) ∧ 1 ≤ m ∧ m ≤ 4096 := ⟨n.toNat, by omega, by omega, by omega⟩
set_option maxHeartbeats 4000000 in
theorem pnew_no (n : Int) (w : World) (h : ¬ (1 ≤ n ∧ n ≤ 4096)) : Calls Try.prog 10 #[.int .i64 n] w fun e w' => e = .returned (.tuple #[.pointer none, .int .i64 1]) ∧ Below w.heap.size w w' := by
  by_cases h0 : n < 1
  · clear h
    go_enter Try.func10, Try.ntmps10
    go_wp2
    go_ret2
    exact ⟨rfl, Below.refl _ _⟩
  · have h1 : 4096 < n := by omega
    clear h
    go_enter Try.func10, Try.ntmps10
    go_wp2
    go_ret2
    exact ⟨rfl, Below.refl _ _⟩
set_option maxHeartbeats 4000000 in
theorem pnew_ok (n : Int) (w : World) (h : 1 ≤ n ∧ n ≤ 4096) : Calls Try.prog 10 #[.int .i64 n] w fun e w' => ∃ a A, e = .returned (.tuple #[.pointer (some a), .int .i64 0]) ∧ IsK A w' (.pointer (some a)) (newD n.toNat) ∧ (∀ k, A k → w.heap.size ≤ k) ∧ Below w.heap.size w w' := by
  obtain ⟨m, rfl, h1, h2⟩ := new_cast n h
  obtain ⟨w1, hmk, hg, hb⟩ := make_blocks w m h2
  have HF : Hid (∃ A, IsK A (w1.alloc (.cells #[.slice (some ⟨w.heap.size, 0, none⟩) m m, .slice none 0 0, .bool false, .int .i64 0, .bool false] 62)) (.pointer (some ⟨w1.heap.size, 0, none⟩)) (newD (m : Int).toNat) ∧ (∀ k, A k → w.heap.size ≤ k) ∧ Below w.heap.size w (w1.alloc (.cells #[.slice (some ⟨w.heap.size, 0, none⟩) m m, .slice none 0 0, .bool false, .int .i64 0, .bool false] 62))) := hide (by
    have hlt : w.heap.size < w1.heap.size := (Array.getElem?_eq_some_iff.1 hg).1
    have hba := below_alloc w1 (.cells #[.slice (some ⟨w.heap.size, 0, none⟩) m m, .slice none 0 0, .bool false, .int .i64 0, .bool false] 62)
    refine ⟨_, ⟨⟨w1.heap.size, w.heap.size, m, List.replicate (256 * m) 0, .slice none 0 0, [], false, 0, false⟩, rfl, rfl, ⟨alloc_new _ _, (hba.block _ hlt).trans hg, PendAt.nil _, by show w1.heap.size ≠ w.heap.size; omega, fun j hj => by cases hj⟩, PRel.new m⟩, ?_, hb.trans (hba.mono hb.size)⟩
    rintro k (rfl | rfl | hk)
    · exact hb.size
    · exact Nat.le_refl _
    · cases hk)
  have g1 : ¬ (m : Int) < 1 := by omega
  have g2 : ¬ 4096 < (m : Int) := by omega
  clear hg hb h1 h2 h
  go_enter Try.func10, Try.ntmps10
  go_wp2
  go_ret2
  obtain ⟨A, q1, q2, q3⟩ := HF.out
  exact ⟨_, rfl, A, q1, q2, q3⟩
theorem owns_whole {w : World} {B g n : Nat} {e : TypeId} {xs : List Value} (h : w.ownsRow B e 1 (.slice (some ⟨g, 0, none⟩) n n) n xs) : w.heap[g]? = some (.cells xs.toArray e (0, 0)) := by
  rcases h.2 with ⟨e, _⟩ | ⟨g', cap, cur, e, _, hg, _, _, hs, ht⟩
  · cases e
  · injection e with e1 e2 e3
    injection e1 with e1
    injection e1 with e1
    subst e1 e3
    rw [hg]
    rw [List.take_of_length_le (by rw [Array.length_toList]; omega)] at ht
    rw [← ht]
theorem copy_bytes_run (w : World) (b o dLen dCap sg so sLen sCap : Nat) (x : Bs) (hx : x.length = Nat.min sLen dLen) (hs : w.rangeAt sg so (bytesV x)) (ht : w.there b o x.length) :
    (Builtin.copy_ #[34, 34] 3 #[.slice (some ⟨b, o, none⟩) dLen dCap, .slice (some ⟨sg, so, none⟩) sLen sCap]).run Try.prog w = .ok (.int .i64 (x.length : Int)) (w.setCells b o (bytesV x)) := by
  have h := run_copy_cells (P := Try.prog) w 34 34 3 5 b o dLen dCap ⟨sg, so, none⟩ sLen sCap (bytesV x) Try.underlying34 (by kernel_rfl) (by rw [bytesV_len]; exact hx)
    (fun j v hv => by rw [addr_addo]; exact hs j v hv) (fun j hj => (ht j (by rwa [bytesV_len] at hj)).1) (fun j hj => (ht j (by rwa [bytesV_len] at hj)).2) (bytesV_one x)
  rw [bytesV_len] at h
  exact h
theorem setB_all (F x : Bs) (h : x.length = F.length) : setB F 0 x = x := by
  rw [setB_is x F 0 (by omega), Nat.zero_add, List.take_zero, List.nil_append, List.drop_of_length_le (by omega), List.append_nil]
theorem row_newY {w : World} {B g n : Nat} {t : TypeId} {l : Bs} (h : w.heap[g]? = some (.cells (bytesV l).toArray t (0, 0))) (hB : B ≤ g) (hl : l.length = n) : NewY B w (.slice (some ⟨g, 0, none⟩) n n) l := by
  subst hl
  refine .inr ⟨g, 0, l.length, rfl, hB, (Array.getElem?_eq_some_iff.1 h).1, Nat.le_refl _, fun j hj => ?_, fun j _ => by simp [World.frozen?, h]⟩
  rw [cell_of_row w g (0 + j) _ t _ h, Nat.zero_add]
  have := bytesV_get l j hj
  simpa using this
theorem read_on {d : DM} {n : Int} (h : isD d n = true) (ho : d.off = false) : readD d n = ((((nowD d).drop (n.toNat * 4)).take 4).flatten, 0) := by unfold readD; rw [if_pos h, if_neg (by rw [ho]; exact Bool.false_ne_true)]
set_option maxHeartbeats 4000000 in
theorem pread_any (A : Nat → Prop) (v : Value) (d : DM) (n : Int) (w : World) (hK : IsK A w v d) (hF : Fit d) : Calls Try.prog 15 #[v, .int .i64 n] w fun e w' => ∃ u, e = .returned (.tuple #[u, .int .i64 (readD d n).2]) ∧ NewY w.heap.size w' u (readD d n).1 ∧ Below w.heap.size w w' := by
  obtain ⟨k, rfl, rfl, h1, h2⟩ := hK
  have HH := hide (khas k n w h1)
  rw [← h2.is_ n] at HH
  cases hi : isD d n
  · have e : readD d n = ([], 1) := by unfold readD; rw [hi]; rfl
    rw [e]
    rw [hi] at HH
    clear e hi
    go_enter Try.func15, Try.ntmps15
    go_wp2_with fail
    refine HH.out.mono ?_
    rintro e w1 ⟨rfl, rfl⟩
    clear HH
    go_wp2
    go_ret2
    exact ⟨_, rfl, .inl ⟨rfl, rfl⟩, Below.refl _ _⟩
  · have hn : 0 ≤ n ∧ n < (k.n : Int) := by
      rw [h2.is_ n] at hi
      simpa using hi
    obtain ⟨m, rfl⟩ : ∃ m : Nat, n = (m : Int) := ⟨n.toNat, by omega⟩
    have hm : m < k.n := by omega
    have hoff : k.off = d.off := h2.off_
    obtain ⟨x0, x1, x2, x3, x4, xf⟩ := kd_cells h1.box
    cases ho : d.off
    · rw [ho] at hoff
      rw [hoff] at x4
      rw [hi] at HH
      have hrd := h2.read hF.ok m hm
      have e := read_on hi ho
      rw [Int.toNat_natCast, hrd] at e
      rw [e]
      obtain ⟨w1, hmk, how, hb⟩ := make_bytes w 256 (by decide)
      have hwh := owns_whole how
      have hlt := h1.lt k.g (.inr (.inl rfl))
      have hwl : (wasB k.F m).length = 256 := was_len k.F k.n m h2.len hm
      have hcp := copy_bytes_run w1 w.heap.size 0 256 256 k.g (m * 256) 256 256 (wasB k.F m) (by rw [hwl]; rfl) (by
        have := range_sub ((hb.block _ hlt).trans h1.blk) (m * 256) 256
        rw [Nat.mul_comm m 256] at this ⊢
        exact this) (there_sub hwh 0 _ (by rw [hwl]; simp [bytesV]))
      have hnw := heap_cells_bytes w.heap.size _ (wasB k.F m) _ 0 w1 hwh
      rw [setB_all _ _ (by rw [hwl, List.length_replicate])] at hnw
      have HF : Hid (NewY w.heap.size (w1.setCells w.heap.size 0 (bytesV (wasB k.F m))) (.slice (some ⟨w.heap.size, 0, none⟩) 256 256) (wasB k.F m) ∧ Below w.heap.size w (w1.setCells w.heap.size 0 (bytesV (wasB k.F m)))) := hide ⟨row_newY hnw (Nat.le_refl _) hwl, hb.trans ((butA_cells (fun j => j = w.heap.size) w.heap.size rfl _ 0 w1).below (fun k e => by rw [e]; exact Nat.le_refl _) hb.size)⟩
      have x0' := (hb.cell (cell_lt x0)).trans x0
      rw [hwl] at hcp
      change (Instr.makeSlice 34 (.int .i64 256) (.int .i64 256)).run Try.prog w = _ at hmk
      change Calls Try.prog _ _ w fun e w' => ∃ u, e = .returned (.tuple #[u, .int .i64 0]) ∧ NewY w.heap.size w' u (wasB k.F m) ∧ Below w.heap.size w w'
      have hm2 : (m : Int) < k.n := by omega
      clear hi e hrd hoff ho hnw hwl hwh how hn hb hlt h1 h2
      generalize w1.setCells w.heap.size 0 (bytesV (wasB k.F m)) = w2 at *
      generalize wasB k.F m = wb at *
      go_enter Try.func15, Try.ntmps15
      go_wp2_with fail
      refine HH.out.mono ?_
      rintro e w3 ⟨rfl, rfl⟩
      clear HH
      go_wp2_with (at_builtin; refine Lib.wpList_copy_run _ rfl _ _ 34 34 rfl _ _ rfl rfl hcp ?_)
      go_ret2
      exact ⟨_, rfl, HF.out.1, HF.out.2⟩
    · rw [ho] at hoff
      rw [hoff] at x4
      rw [hi] at HH
      have e : readD d (m : Int) = ([], 9) := by unfold readD; rw [hi, ho]; rfl
      rw [e]
      clear e hi hoff ho h1 h2
      go_enter Try.func15, Try.ntmps15
      go_wp2_with fail
      refine HH.out.mono ?_
      rintro e w1 ⟨rfl, rfl⟩
      clear HH
      go_wp2
      go_ret2
      exact ⟨_, rfl, .inl ⟨rfl, rfl⟩, Below.refl _ _⟩
end Go.Proofs.Yteacldkfdhhphaa
