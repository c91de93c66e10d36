import Derived.Test.YthpepkfodcgbcaaWq04
import Derived.Lib.SlBuf
/- What the program's New and Read answer. -/
set_option linter.unusedVariables false
set_option linter.unusedSimpArgs false
set_option maxRecDepth 4000
namespace Go.Proofs.Ythpepkfodcgbcaa
open Go.RowKit

theorem made_noughts (N : Nat) : (madeCells (Array.replicate 256 (Value.int .u8 0)) N).toList = bytesV (List.replicate N 0) := by
  apply List.ext_getElem?
  intro j
  by_cases hj : j < N
  · have hm : j % 256 < 256 := Nat.mod_lt _ (by decide)
    simp [madeCells, bytesV, hj, hm]
  · simp [madeCells, bytesV, hj]
theorem block_bytes : Try.t106.bytes = 256 := by kernel_rfl
theorem make_blocks (w : World) (n : Nat) (hn : n ≤ 4096) : ∃ w1, (Instr.makeSlice 76 (.int .i64 (n : Int)) (.int .i64 (n : Int))).run Try.prog w = .ok (.slice (some ⟨w.heap.size, 0, none⟩) n n) w1 ∧ w1.heap[w.heap.size]? = some (.cells (bytesV (List.replicate (256 * n) 0)).toArray 106 (0, 0)) ∧ Below w.heap.size w w1 := by
  obtain ⟨w1, h1, h2, h3⟩ := run_make_full (P := Try.prog) w w.heap.size 76 106 Try.t106 (.agg (Array.replicate 256 (Value.int .u8 0))) 256 Try.underlying76 (by kernel_rfl) (by kernel_rfl) (by kernel_rfl) .i64 .i64 n (by rw [block_bytes]; omega) (by unfold maxLen; omega) (Nat.le_refl _)
  refine ⟨w1, h1, ?_, (Below.refl _ w).grown h3 (Nat.le_refl _) (fun k hk => by cases hk)⟩
  rcases h2.2 with ⟨e, _⟩ | ⟨g, cap, cur, e, _, hg, _, _, hs, ht⟩
  · cases e
  · injection e with e1 e2 e3
    injection e1 with e1
    injection e1 with e1
    subst e1 e3
    rw [hg]
    have hc : cur.toList = bytesV (List.replicate (256 * n) 0) := by
      have := made_noughts (n * 256)
      rw [show Value.cells (.agg (Array.replicate 256 (Value.int .u8 0))) = Array.replicate 256 (Value.int .u8 0) from rfl] at ht
      rw [this, List.take_of_length_le (by rw [Array.length_toList]; omega)] at ht
      rw [ht, Nat.mul_comm]
    rw [← hc]
theorem new_cast (n : Int) (h : 1 ≤ n ∧ n ≤ 4096) : ∃ m : Nat, n = (m : Int) ∧ 1 ≤ m ∧ m ≤ 4096 := ⟨n.toNat, by omega, by omega, by omega⟩
set_option maxHeartbeats 4000000 in
theorem pnew_no (n : Int) (w : World) (h : ¬ (1 ≤ n ∧ n ≤ 4096)) : Calls Try.prog 9 #[.int .i64 n] w fun e w' => e = .returned (.tuple #[.pointer none, .int .i64 1]) ∧ Below w.heap.size w w' := by
  by_cases h0 : n < 1
  · clear h
    go_enter Try.func9, Try.ntmps9
    go_wp2
    go_ret2
    exact ⟨rfl, Below.refl _ _⟩
  · have h1 : 4096 < n := by omega
    clear h
    go_enter Try.func9, Try.ntmps9
    go_wp2
    go_ret2
    exact ⟨rfl, Below.refl _ _⟩
set_option maxHeartbeats 4000000 in
theorem pnew_ok (n : Int) (w : World) (h : 1 ≤ n ∧ n ≤ 4096) : Calls Try.prog 9 #[.int .i64 n] w fun e w' => ∃ a A, e = .returned (.tuple #[.pointer (some a), .int .i64 0]) ∧ IsK A w' (.pointer (some a)) (newD n.toNat) ∧ (∀ k, A k → w.heap.size ≤ k) ∧ Below w.heap.size w w' := by
  obtain ⟨m, rfl, h1, h2⟩ := new_cast n h
  obtain ⟨w1, hmk, hg, hb⟩ := make_blocks w m h2
  have HF : Hid (∃ A, IsK A (w1.alloc (.cells #[.slice (some ⟨w.heap.size, 0, none⟩) m m, .slice none 0 0, .bool false, .int .i64 0, .bool false] 79)) (.pointer (some ⟨w1.heap.size, 0, none⟩)) (newD (m : Int).toNat) ∧ (∀ k, A k → w.heap.size ≤ k) ∧ Below w.heap.size w (w1.alloc (.cells #[.slice (some ⟨w.heap.size, 0, none⟩) m m, .slice none 0 0, .bool false, .int .i64 0, .bool false] 79))) := hide (by
    have hlt : w.heap.size < w1.heap.size := (Array.getElem?_eq_some_iff.1 hg).1
    have hba := below_alloc w1 (.cells #[.slice (some ⟨w.heap.size, 0, none⟩) m m, .slice none 0 0, .bool false, .int .i64 0, .bool false] 79)
    refine ⟨_, ⟨⟨w1.heap.size, w.heap.size, m, List.replicate (256 * m) 0, .slice none 0 0, [], false, 0, false⟩, rfl, rfl, ⟨alloc_new _ _, (hba.block _ hlt).trans hg, PendAt.nil _, by show w1.heap.size ≠ w.heap.size; omega, fun j hj => by cases hj⟩, PRel.new m⟩, ?_, hb.trans (hba.mono hb.size)⟩
    rintro k (rfl | rfl | hk)
    · exact hb.size
    · exact Nat.le_refl _
    · cases hk)
  have g1 : ¬ (m : Int) < 1 := by omega
  have g2 : ¬ 4096 < (m : Int) := by omega
  clear hg hb h1 h2 h
  go_enter Try.func9, Try.ntmps9
  go_wp2
  go_ret2
  obtain ⟨A, q1, q2, q3⟩ := HF.out
  exact ⟨_, rfl, A, q1, q2, q3⟩
theorem owns_whole {w : World} {B g n : Nat} {e : TypeId} {xs : List Value} (h : w.ownsRow B e 1 (.slice (some ⟨g, 0, none⟩) n n) n xs) : w.heap[g]? = some (.cells xs.toArray e (0, 0)) := by
  rcases h.2 with ⟨e, _⟩ | ⟨g', cap, cur, e, _, hg, _, _, hs, ht⟩
  · cases e
  · injection e with e1 e2 e3
    injection e1 with e1
    injection e1 with e1
    subst e1 e3
    rw [hg]
    rw [List.take_of_length_le (by rw [Array.length_toList]; omega)] at ht
    rw [← ht]
theorem copy_bytes_run (w : World) (b o dLen dCap sg so sLen sCap : Nat) (x : Bs) (hx : x.length = Nat.min sLen dLen) (hs : w.rangeAt sg so (bytesV x)) (ht : w.there b o x.length) :
    (Builtin.copy_ #[43, 43] 3 #[.slice (some ⟨b, o, none⟩) dLen dCap, .slice (some ⟨sg, so, none⟩) sLen sCap]).run Try.prog w = .ok (.int .i64 (x.length : Int)) (w.setCells b o (bytesV x)) := by
  have h := run_copy_cells (P := Try.prog) w 43 43 3 5 b o dLen dCap ⟨sg, so, none⟩ sLen sCap (bytesV x) Try.underlying43 (by kernel_rfl) (by rw [bytesV_len]; exact hx)
    (fun j v hv => by rw [addr_addo]; exact hs j v hv) (fun j hj => (ht j (by rwa [bytesV_len] at hj)).1) (fun j hj => (ht j (by rwa [bytesV_len] at hj)).2) (bytesV_one x)
  rw [bytesV_len] at h
  exact h
theorem setB_all (F x : Bs) (h : x.length = F.length) : setB F 0 x = x := by
  rw [setB_is x F 0 (by omega), Nat.zero_add, List.take_zero, List.nil_append, List.drop_of_length_le (by omega), List.append_nil]
theorem row_newY {w : World} {B g n : Nat} {t : TypeId} {l : Bs} (h : w.heap[g]? = some (.cells (bytesV l).toArray t (0, 0))) (hB : B ≤ g) (hl : l.length = n) : NewY B w (.slice (some ⟨g, 0, none⟩) n n) l := by
  subst hl
  refine .inr ⟨g, 0, l.length, rfl, hB, (Array.getElem?_eq_some_iff.1 h).1, Nat.le_refl _, fun j hj => ?_, fun j _ => by simp [World.frozen?, h]⟩
  rw [cell_of_row w g (0 + j) _ t _ h, Nat.zero_add]
  have := bytesV_get l j hj
  simpa using this
theorem read_on {d : DM} {n : Int} (h : isD d n = true) (ho : d.off = false) : readD d n = ((((nowD d).drop (n.toNat * 4)).take 4).flatten, 0) := by unfold readD; rw [if_pos h, if_neg (by rw [ho]; exact Bool.false_ne_true)]
set_option maxHeartbeats 4000000 in
theorem pread_any (A : Nat → Prop) (v : Value) (d : DM) (n : Int) (w : World) (hK : IsK A w v d) (hF : Fit d) : Calls Try.prog 60 #[v, .int .i64 n] w fun e w' => ∃ u, e = .returned (.tuple #[u, .int .i64 (readD d n).2]) ∧ NewY w.heap.size w' u (readD d n).1 ∧ Below w.heap.size w w' := by
  obtain ⟨k, rfl, rfl, h1, h2⟩ := hK
  have HH := hide (khas k n w h1)
  rw [← h2.is_ n] at HH
  cases hi : isD d n
  · have e : readD d n = ([], 1) := by unfold readD; rw [hi]; rfl
    rw [e]
    rw [hi] at HH
    clear e hi
    go_enter Try.func60, Try.ntmps60
    go_wp2_with fail
    refine HH.out.mono ?_
    rintro e w1 ⟨rfl, rfl⟩
    clear HH
    go_wp2
    go_ret2
    exact ⟨_, rfl, .inl ⟨rfl, rfl⟩, Below.refl _ _⟩
  · have hn : 0 ≤ n ∧ n < (k.n : Int) := by
      rw [h2.is_ n] at hi
      simpa using hi
    obtain ⟨m, rfl⟩ : ∃ m : Nat, n = (m : Int) := ⟨n.toNat, by omega⟩
    have hm : m < k.n := by omega
    have hoff : k.off = d.off := h2.off_
    obtain ⟨x0, x1, x2, x3, x4, xf⟩ := kd_cells h1.box
    cases ho : d.off
    · rw [ho] at hoff
      rw [hoff] at x4
      rw [hi] at HH
      have hrd := h2.read hF.ok m hm
      have e := read_on hi ho
      rw [Int.toNat_natCast, hrd] at e
      rw [e]
      obtain ⟨w1, hmk, how, hb⟩ := make_bytes w 256 (by decide)
      have hwh := owns_whole how
      have hlt := h1.lt k.g (.inr (.inl rfl))
      have hwl : (wasB k.F m).length = 256 := was_len k.F k.n m h2.len hm
      have hcp := copy_bytes_run w1 w.heap.size 0 256 256 k.g (m * 256) 256 256 (wasB k.F m) (by rw [hwl]; rfl) (by
        have := range_sub ((hb.block _ hlt).trans h1.blk) (m * 256) 256
        rw [Nat.mul_comm m 256] at this ⊢
        exact this) (there_sub hwh 0 _ (by rw [hwl]; simp [bytesV]))
      have hnw := heap_cells_bytes w.heap.size _ (wasB k.F m) _ 0 w1 hwh
      rw [setB_all _ _ (by rw [hwl, List.length_replicate])] at hnw
      have HF : Hid (NewY w.heap.size (w1.setCells w.heap.size 0 (bytesV (wasB k.F m))) (.slice (some ⟨w.heap.size, 0, none⟩) 256 256) (wasB k.F m) ∧ Below w.heap.size w (w1.setCells w.heap.size 0 (bytesV (wasB k.F m)))) := hide ⟨row_newY hnw (Nat.le_refl _) hwl, hb.trans ((butA_cells (fun j => j = w.heap.size) w.heap.size rfl _ 0 w1).below (fun k e => by rw [e]; exact Nat.le_refl _) hb.size)⟩
      have x0' := (hb.cell (cell_lt x0)).trans x0
      rw [hwl] at hcp
      change (Instr.makeSlice 43 (.int .i64 256) (.int .i64 256)).run Try.prog w = _ at hmk
      change Calls Try.prog _ _ w fun e w' => ∃ u, e = .returned (.tuple #[u, .int .i64 0]) ∧ NewY w.heap.size w' u (wasB k.F m) ∧ Below w.heap.size w w'
      have hm2 : (m : Int) < k.n := by omega
      clear hi e hrd hoff ho hnw hwl hwh how hn hb hlt h1 h2
      generalize w1.setCells w.heap.size 0 (bytesV (wasB k.F m)) = w2 at *
      generalize wasB k.F m = wb at *
      go_enter Try.func60, Try.ntmps60
      go_wp2_with fail
      refine HH.out.mono ?_
      rintro e w3 ⟨rfl, rfl⟩
      clear HH
      go_wp2_with (at_builtin; refine Lib.wpList_copy_run _ rfl _ _ 43 43 rfl _ _ rfl rfl hcp ?_)
      go_ret2
      exact ⟨_, rfl, HF.out.1, HF.out.2⟩
    · rw [ho] at hoff
      rw [hoff] at x4
      rw [hi] at HH
      have e : readD d (m : Int) = ([], 9) := by unfold readD; rw [hi, ho]; rfl
      rw [e]
      clear e hi hoff ho h1 h2
      go_enter Try.func60, Try.ntmps60
      go_wp2_with fail
      refine HH.out.mono ?_
      rintro e w1 ⟨rfl, rfl⟩
      clear HH
      go_wp2
      go_ret2
      exact ⟨_, rfl, .inl ⟨rfl, rfl⟩, Below.refl _ _⟩
end Go.Proofs.Ythpepkfodcgbcaa
/- What the program's Dump answers. -/
set_option linter.unusedVariables false
set_option linter.unusedSimpArgs false
set_option maxRecDepth 4000
namespace Go.Proofs.Ythpepkfodcgbcaa
open Go.RowKit

/-- One operation of a region that draws its order. -/
theorem step_wp {P : Program} {ops : Array Oper} {o : Oper} {a : Act} {w : World} {K : Act → World → Prop} {Q : Exit → Act → World → Prop} {E : Prop} (hgd : o.guard = none) (h : Oper.wp P o a w K Q) : if Region.wanted o (yielded ops a.tmps) = true then Oper.wp P o a w K Q else E := by
  have hw : Region.wanted o (yielded ops a.tmps) = true := by simp [Region.wanted, hgd]
  rw [if_pos hw]
  exact h
theorem make_great (w : World) (n : Nat) (hn : n ≤ 100000000) : ∃ w1, (Instr.makeSlice 43 (.int .i64 (n : Int)) (.int .i64 (n : Int))).run Try.prog w = .ok (.slice (some ⟨w.heap.size, 0, none⟩) n n) w1 ∧ w1.heap[w.heap.size]? = some (.cells (bytesV (List.replicate n 0)).toArray 5 (0, 0)) ∧ Below w.heap.size w w1 := by
  obtain ⟨w1, h1, h2, h3⟩ := run_make_full (P := Try.prog) w w.heap.size 43 5 Try.t5 (.int .u8 0) 1 Try.underlying43 (by kernel_rfl) (by kernel_rfl) (by kernel_rfl) .i64 .i64 n (by rw [show Try.t5.bytes = 1 from by kernel_rfl]; omega) (by unfold maxLen; omega) (Nat.le_refl _)
  refine ⟨w1, h1, ?_, (Below.refl _ w).grown h3 (Nat.le_refl _) (fun k hk => by cases hk)⟩
  have h4 := owns_whole h2
  rw [h4]
  have e : (madeCells (Value.cells (.int .u8 0)) (n * 1)).toList = bytesV (List.replicate n 0) := by
    rw [show Value.cells (.int .u8 0) = #[.int .u8 0] from rfl, toList_madeCells_one, Nat.mul_one]
    simp [bytesV]
  rw [e]
/-- The bytes told so far. -/
def dumpN (F : Bs) (i : Nat) : Bs := setB (List.replicate F.length 0) 0 (F.take (256 * i))
theorem dumpN_zero (F : Bs) : dumpN F 0 = List.replicate F.length 0 := rfl
theorem dumpN_len (F : Bs) (i : Nat) : (dumpN F i).length = F.length := by unfold dumpN; rw [setB_len, List.length_replicate]
theorem dumpN_end (F : Bs) (i : Nat) (h : F.length ≤ 256 * i) : dumpN F i = F := by
  unfold dumpN
  rw [List.take_of_length_le h, setB_all _ _ (by rw [List.length_replicate])]
theorem dumpN_succ (F : Bs) (i : Nat) (h : 256 * i + 256 ≤ F.length) : setB (dumpN F i) (256 * i) (wasB F i) = dumpN F (i + 1) := by
  unfold dumpN wasB
  have h1 : (F.take (256 * i)).length = 256 * i := by rw [List.length_take]; omega
  have e : F.take (256 * (i + 1)) = F.take (256 * i) ++ (F.drop (256 * i)).take 256 := by rw [show 256 * (i + 1) = 256 * i + 256 by omega, List.take_add]
  rw [e, setB_app, h1, Nat.zero_add]
set_option maxHeartbeats 4000000 in
theorem pdump_any (A : Nat → Prop) (v : Value) (d : DM) (w : World) (hK : IsK A w v d) (hF : Fit d) : Calls Try.prog 30 #[v] w fun e w' => ∃ u, e = .returned u ∧ NewY w.heap.size w' u (dumpD d) ∧ Below w.heap.size w w' := by
  obtain ⟨k, rfl, rfl, h1, h2⟩ := hK
  obtain ⟨x0, x1, x2, x3, x4, xf⟩ := kd_cells h1.box
  have hn : k.n ≤ 25000 := by have := hF.s; have := h2.n4; omega
  have hlen : k.F.length = 256 * k.n := h2.len
  rw [← h2.now]
  obtain ⟨w1, hmk, hwh, hb⟩ := make_great w (256 * k.n) (by omega)
  have hmk2 : (Instr.makeSlice 43 (.int .i64 (256 * (k.n : Int))) (.int .i64 (256 * (k.n : Int)))).run Try.prog w = .ok (.slice (some ⟨w.heap.size, 0, none⟩) (256 * k.n) (256 * k.n)) w1 := by
    have e : ((256 * k.n : Nat) : Int) = 256 * (k.n : Int) := by omega
    rw [e] at hmk
    exact hmk
  have HX : Hid (∀ x, Below w.heap.size w x → x.cell? ⟨k.a, 0, none⟩ = some (.slice (some ⟨k.g, 0, none⟩) k.n k.n)) := hide (fun x b => (b.cell (cell_lt x0)).trans x0)
  have HG : Hid (∀ x, Below w.heap.size w x → x.heap[k.g]? = some (.cells (bytesV k.F).toArray 106 (0, 0))) := hide (fun x b => (b.block _ (h1.lt _ (.inr (.inl rfl)))).trans h1.blk)
  have HB := hide hb
  rw [← hlen, ← dumpN_zero] at hwh
  have HW := hide hwh
  have y0 := HX.out w1 hb
  clear h1 h2 hmk hwh hb x1 x2 x3 x4 xf hF
  generalize k.F = F at *
  generalize k.n = n at *
  generalize k.a = a at *
  generalize k.g = g at *
  have hw1 : wrap64 (256 * (n : Int)) = 256 * (n : Int) := by unfold wrap64; omega
  generalize hN : w.heap.size = N at *
  go_enter Try.func30, Try.ntmps30
  go_wp2
  go_loopw [19] (fun vi wr => ∃ i : Nat, vi = .int .i64 (i : Int) ∧ i ≤ n ∧ Hid (wr.heap[N]? = some (.cells (bytesV (dumpN F i)).toArray 5 (0, 0))) ∧ Hid (Below N w wr)) (fun vi _ => n - (intOf vi).toNat)
  case atStart => exact ⟨0, rfl, Nat.zero_le _, HW, HB⟩
  case round =>
    clear HW HB
    obtain ⟨i, rfl, hi, HW, HB⟩ := hrel
    by_cases hlt : i < n
    · have hlt2 : (i : Int) < n := by omega
      have hw2 : wrap64 (256 * (i : Int)) = 256 * (i : Int) := by unfold wrap64; omega
      have hgw := HG.out wr HB.out
      have hwl : (wasB F i).length = 256 := was_len F n i hlen hlt
      have hcp := copy_bytes_run wr.drew N (256 * i) (256 * n - 256 * i) (256 * n - 256 * i) g (i * 256) 256 256 (wasB F i) (by
          have e : 256 ≤ 256 * n - 256 * i := by omega
          rw [hwl]; exact (Nat.min_eq_left e).symm) (by
        have := range_sub hgw (i * 256) 256
        rw [Nat.mul_comm i 256] at this ⊢
        exact this) (there_sub (w := wr.drew) HW.out (256 * i) _ (by rw [hwl]; simp [bytesV_len, dumpN_len]; omega))
      rw [hwl] at hcp
      have HSL : Hid (∀ W, (Instr.slice 43 (.slice (some ⟨N, 0, none⟩) (256 * n) (256 * n)) (some (.int .i64 (256 * (i : Int)))) none none).run Try.prog W = .ok (.slice (some ⟨N, 256 * i, none⟩) (256 * n - 256 * i) (256 * n - 256 * i)) W) := hide (by
        intro W
        have h1 : (0 : Int) ≤ 256 * (i : Int) := by omega
        have h2 : 256 * (i : Int) ≤ ((256 * n : Nat) : Int) := by omega
        have h3 : (256 * (i : Int)).toNat = 256 * i := by omega
        have h4 : ¬ 256 * n = 256 * i := by omega
        have h5 : ¬ n = i := by omega
        have h6 : i ≤ n := by omega
        simp [Instr.slice, run_underlying Try.underlying43, Instr.sliceBounds, Instr.sliceBound, asIntOf, h1, h2, h3, h4, h5, h6, Try.sizeOf5, addr_addo])
      have HCP := hide hcp
      have hbn : Below N wr.drew (wr.drew.setCells N (256 * i) (bytesV (wasB F i))) := (butA_cells (fun j => j = N) N rfl _ _ _).below (fun k e => by rw [e]; exact Nat.le_refl _) (by
        have h1 := HB.out.size
        have h2 : wr.drew.heap.size = wr.heap.size := rfl
        omega)
      have HB2 := hide (HB.out.drew.trans hbn)
      have HW2 : Hid ((wr.drew.setCells N (256 * i) (bytesV (wasB F i))).heap[N]? = some (.cells (bytesV (dumpN F (i + 1))).toArray 5 (0, 0))) := hide (by
        rw [← dumpN_succ F i (by omega)]
        exact heap_cells_bytes N _ _ _ _ _ HW.out)
      have hwk : IntKind.i64.wrap (256 * (i : Int)) = 256 * (i : Int) := by rw [IntKind.wrap_i64]; omega
      clear hcp hgw hwl hbn HW y0
      go_wp2_with fail
      refine wp_region_held_drew (S := fun W' => Below N w W') (by kernel_rfl) (HB.out.drew) (fun hHeld => ?_)
      refine wpAnyH_take (i := 0) (v := ?_) rfl (by kernel_rfl) (by kernel_rfl) (by kernel_rfl) (fun _ _ _ h => h) (Or.inl ⟨by kernel_rfl, ?_⟩) hHeld ?_
      rotate_left
      · intro W hSw
        clear hSw
        go_simp <;> with_reducible rfl
      simp only [Act.put, List.getElem_toArray, List.getElem_cons_zero, List.getElem_cons_succ, List.setIfInBounds_toArray, List.set_cons_zero, List.set_cons_succ]
      refine wpAnyH_take (i := 1) (v := ?_) rfl (by kernel_rfl) (by kernel_rfl) (by kernel_rfl) (fun _ _ _ h => h) (Or.inl ⟨by kernel_rfl, ?_⟩) hHeld ?_
      rotate_left
      · intro W hSw
        clear hSw
        go_simp <;> with_reducible rfl
      simp only [Act.put, List.getElem_toArray, List.getElem_cons_zero, List.getElem_cons_succ, List.setIfInBounds_toArray, List.set_cons_zero, List.set_cons_succ]
      refine wpAnyH_take (i := 2) (v := ?_) rfl (by kernel_rfl) (by kernel_rfl) (by kernel_rfl) (fun _ _ _ h => h) (Or.inl ⟨by kernel_rfl, ?_⟩) hHeld ?_
      rotate_left
      · intro W hSw
        clear hSw
        go_simp <;> with_reducible rfl
      simp only [Act.put, List.getElem_toArray, List.getElem_cons_zero, List.getElem_cons_succ, List.setIfInBounds_toArray, List.set_cons_zero, List.set_cons_succ]
      refine wpAnyH_take (i := 3) (v := ?_) rfl (by kernel_rfl) (by kernel_rfl) (by kernel_rfl) (fun _ _ _ h => h) (Or.inl ⟨by kernel_rfl, ?_⟩) hHeld ?_
      rotate_left
      · intro W hSw
        have hsl := HSL.out
        clear hSw
        go_simp <;> with_reducible rfl
      simp only [Act.put, List.getElem_toArray, List.getElem_cons_zero, List.getElem_cons_succ, List.setIfInBounds_toArray, List.set_cons_zero, List.set_cons_succ]
      refine wpAnyH_take (i := 4) (v := ?_) rfl (by kernel_rfl) (by kernel_rfl) (by kernel_rfl) (fun _ _ _ h => h) (Or.inl ⟨by kernel_rfl, ?_⟩) hHeld ?_
      rotate_left
      · intro W hSw
        clear hSw
        go_simp <;> with_reducible rfl
      simp only [Act.put, List.getElem_toArray, List.getElem_cons_zero, List.getElem_cons_succ, List.setIfInBounds_toArray, List.set_cons_zero, List.set_cons_succ]
      refine wpAnyH_take (i := 5) (v := ?_) rfl (by kernel_rfl) (by kernel_rfl) (by kernel_rfl) (fun _ _ _ h => h) (Or.inl ⟨by kernel_rfl, ?_⟩) hHeld ?_
      rotate_left
      · intro W hSw
        clear hSw
        go_simp <;> with_reducible rfl
      simp only [Act.put, List.getElem_toArray, List.getElem_cons_zero, List.getElem_cons_succ, List.setIfInBounds_toArray, List.set_cons_zero, List.set_cons_succ]
      refine wpAnyH_take (i := 6) (v := ?_) rfl (by kernel_rfl) (by kernel_rfl) (by kernel_rfl) (fun _ _ _ h => h) (Or.inl ⟨by kernel_rfl, ?_⟩) hHeld ?_
      rotate_left
      · intro W hSw
        clear hSw
        go_simp <;> with_reducible rfl
      simp only [Act.put, List.getElem_toArray, List.getElem_cons_zero, List.getElem_cons_succ, List.setIfInBounds_toArray, List.set_cons_zero, List.set_cons_succ]
      refine wpAnyH_take (i := 7) (v := ?_) rfl (by kernel_rfl) (by kernel_rfl) (by kernel_rfl) (fun _ _ _ h => h) (Or.inl ⟨by kernel_rfl, ?_⟩) hHeld ?_
      rotate_left
      · intro W hSw
        have hc := HX.out W hSw
        clear hSw
        go_simp <;> with_reducible rfl
      simp only [Act.put, List.getElem_toArray, List.getElem_cons_zero, List.getElem_cons_succ, List.setIfInBounds_toArray, List.set_cons_zero, List.set_cons_succ]
      refine wpAnyH_take (i := 8) (v := ?_) rfl (by kernel_rfl) (by kernel_rfl) (by kernel_rfl) (fun _ _ _ h => h) (Or.inl ⟨by kernel_rfl, ?_⟩) hHeld ?_
      rotate_left
      · intro W hSw
        clear hSw
        go_simp <;> with_reducible rfl
      simp only [Act.put, List.getElem_toArray, List.getElem_cons_zero, List.getElem_cons_succ, List.setIfInBounds_toArray, List.set_cons_zero, List.set_cons_succ]
      refine wpAnyH_take (i := 9) (v := ?_) rfl (by kernel_rfl) (by kernel_rfl) (by kernel_rfl) (fun _ _ _ h => h) (Or.inl ⟨by kernel_rfl, ?_⟩) hHeld ?_
      rotate_left
      · intro W hSw
        clear hSw
        go_simp <;> with_reducible rfl
      simp only [Act.put, List.getElem_toArray, List.getElem_cons_zero, List.getElem_cons_succ, List.setIfInBounds_toArray, List.set_cons_zero, List.set_cons_succ]
      refine wpAnyH_take (i := 10) (v := ?_) rfl (by kernel_rfl) (by kernel_rfl) (by kernel_rfl) (fun _ _ _ h => h) (Or.inl ⟨by kernel_rfl, ?_⟩) hHeld ?_
      rotate_left
      · intro W hSw
        clear hSw
        go_simp <;> with_reducible rfl
      simp only [Act.put, List.getElem_toArray, List.getElem_cons_zero, List.getElem_cons_succ, List.setIfInBounds_toArray, List.set_cons_zero, List.set_cons_succ]
      refine wpAnyH_ready (rs := [11]) (by kernel_rfl) (by simp) ?_
      refine AllReadyH.cons rfl (fun K hK => ?_) AllReadyH.nil
      refine step_wp rfl (Lib.wp_copy_run _ (.tmp 25) (.tmp 32) 43 43 rfl _ _ rfl rfl HCP.out ?_)
      refine hK.out _ _ ?_ (fun hHeld => ?_)
      · exact HB2.out
      clear hK K
      try simp only [Act.put, List.getElem_toArray, List.getElem_cons_zero, List.getElem_cons_succ, List.setIfInBounds_toArray, List.set_cons_zero, List.set_cons_succ]
      refine wpAnyH_done (by kernel_rfl) ?_ _
      clear hHeld
      generalize wr.drew.setCells N (256 * i) (bytesV (wasB F i)) = w9 at *
      go_wp2
      go_roundw
      case rel => exact ⟨i + 1, by go_num, by omega, HW2, HB2⟩
      case measure => simp [intOf]; omega
    · have hlt2 : ¬ (i : Int) < n := by omega
      obtain rfl : i = n := by omega
      have hr := HW.out
      rw [dumpN_end F i (by omega)] at hr
      have HF := hide (show NewY N wr (.slice (some ⟨N, 0, none⟩) (256 * i) (256 * i)) F ∧ Below N w wr from ⟨row_newY hr (Nat.le_refl _) hlen, HB.out⟩)
      clear hr HW HB
      go_wp2
      go_ret
      exact ⟨_, rfl, HF.out.1, HF.out.2⟩
end Go.Proofs.Ythpepkfodcgbcaa
/- What the program's lay and undo do. -/
set_option linter.unusedVariables false
set_option linter.unusedSimpArgs false
set_option maxRecDepth 4000
namespace Go.Proofs.Ythpepkfodcgbcaa
open Go.RowKit

theorem IsKD.blkset {w x : World} {k : KD} (h : IsKD w k) (F : Bs) (hb : ButA (fun j => j = k.g) w x) (hx : x.heap[k.g]? = some (.cells (bytesV F).toArray 106 (0, 0))) : IsKD x { k with F := F } := by
  refine ⟨(hb.block _ ?_ h.ag).trans h.box, hx, h.pend.keep fun j hj => hb.block j ?_ (h.ap j hj).2, h.ag, h.ap⟩
  · exact h.lt _ (.inl rfl)
  · exact h.lt _ (.inr (.inr hj))
/-- A pending write's cells. -/
theorem pend_at {w : World} {pv : Value} {ws : List PW} (h : PendAt w pv ws) (hg : ∀ x ∈ ws, Good x) (j : Nat) (hj : j < ws.length) :
    ∃ b cap, pv = .slice (some ⟨b, 0, none⟩) ws.length cap ∧ w.cell? ⟨b, j * 513, none⟩ = some (.int .i64 (ws[j].at_ : Int)) ∧ w.rangeAt b (j * 513 + 1) (bytesV ws[j].was) ∧ w.rangeAt b (j * 513 + 257) (bytesV ws[j].laid) := by
  have h1 := h.1
  rcases h1.2 with ⟨_, h0⟩ | ⟨b, cap, cur, rfl, _⟩
  · omega
  · have hgj := hg _ (List.getElem_mem hj)
    have hc : ∀ o u, o < 513 → (wV ws[j])[o]? = some u → w.cell? ⟨b, j * 513 + o, none⟩ = some u := fun o u ho hu => by
      rw [h1.cellAt (j * 513 + o) (by omega), wsV_get ws j o hj hg ho]
      exact hu
    refine ⟨b, cap, rfl, ?_, ?_, ?_⟩
    · have := hc 0 _ (by omega) (by unfold wV; rfl)
      rw [Nat.add_zero] at this
      exact this
    · intro o u hu
      have hl : o < 256 := by have := (List.getElem?_eq_some_iff.1 hu).1; rw [bytesV_len, hgj.1] at this; exact this
      rw [Nat.add_assoc]
      refine hc (1 + o) u (by omega) ?_
      unfold wV
      rw [Nat.add_comm 1 o, List.getElem?_cons_succ, List.getElem?_append_left (by rw [bytesV_len, hgj.1]; exact hl)]
      exact hu
    · intro o u hu
      have hl : o < 256 := by have := (List.getElem?_eq_some_iff.1 hu).1; rw [bytesV_len, hgj.2] at this; exact this
      rw [Nat.add_assoc]
      refine hc (257 + o) u (by omega) ?_
      unfold wV
      rw [show 257 + o = (256 + o) + 1 by omega, List.getElem?_cons_succ, List.getElem?_append_right (by rw [bytesV_len, hgj.1]; omega), bytesV_len, hgj.1, show 256 + o - 256 = o by omega]
      exact hu
theorem block_size : (Try.prog.info? 106).map (·.size) = some 256 := by kernel_rfl
theorem block_und : Try.prog.underlying 106 = some (.array 256 5) := by kernel_rfl
theorem rangeAt_but {A : Nat → Prop} {w W : World} {b o : Nat} {x : Bs} (h : w.rangeAt b o (bytesV x)) (hb : ButA A w W) (hn : ¬ A b) : W.rangeAt b o (bytesV x) := fun j v hv => by
  have := h j v hv
  exact (cell_blk (hb.block b (cell_lt this) hn) _).trans this
theorem cell_but {A : Nat → Prop} {w W : World} {b o : Nat} {v : Value} (h : w.cell? ⟨b, o, none⟩ = some v) (hb : ButA A w W) (hn : ¬ A b) : W.cell? ⟨b, o, none⟩ = some v := (cell_blk (hb.block b (cell_lt h) hn) o).trans h
/-- What lay does: one sector of a write. -/
def LayR (w : World) (g : Nat) (F : Bs) (o : Nat) (x : Bs) (e : Ending) (w' : World) : Prop := e = .returned (.tuple #[]) ∧ w'.heap[g]? = some (.cells (bytesV (setB F o x)).toArray 106 (0, 0)) ∧ ButA (fun j => j = g) w w'
theorem layR {w : World} {g : Nat} {F : Bs} (h : w.heap[g]? = some (.cells (bytesV F).toArray 106 (0, 0))) (o : Nat) (x : Bs) : LayR w g F o x (.returned (.tuple #[])) (w.drew.setCells g o (bytesV x)) := by
  refine ⟨rfl, heap_cells_bytes g _ x F o _ h, ?_⟩
  have := butA_cells (fun j => j = g) g rfl (bytesV x) o w.drew
  exact ⟨this.os, this.tape, this.output, this.size, this.block⟩
set_option maxHeartbeats 8000000 in
theorem klay (w : World) (b g n p : Nat) (m : Nat) (laid F : Bs) (s : Nat) (hs : s < 4) (hm : m < n) (hn : n ≤ 25000) (hl : laid.length = 256) (hF : F.length = 256 * n) (hbg : b ≠ g)
    (hc : w.cell? ⟨b, p, none⟩ = some (.int .i64 (m : Int))) (hr : w.rangeAt b (p + 257) (bytesV laid)) (hw : w.heap[g]? = some (.cells (bytesV F).toArray 106 (0, 0))) :
    Calls Try.prog 71 #[.pointer (some ⟨b, p, none⟩), .slice (some ⟨g, 0, none⟩) n n, .int .i64 (s : Int)] w (LayR w g F (256 * m + 64 * s) (cutB laid s)) := by
  have HF := hide (layR hw (256 * m + 64 * s) (cutB laid s))
  have HC : Hid (∀ W, ButA (fun j => j = g) w W → W.cell? ⟨b, p, none⟩ = some (.int .i64 (m : Int))) := hide (fun W hb => cell_but hc hb hbg)
  have hcl := cut_len laid s hl hs
  have hcp := copy_bytes_run w.drew g (m * 256 + 64 * s) 64 (256 - 64 * s) b (p + 257 + 64 * s) 64 (256 - 64 * s) (cutB laid s) (by rw [hcl]; rfl) (by
      intro j v hv
      have hj : j < 64 := by have := (List.getElem?_eq_some_iff.1 hv).1; rw [bytesV_len, hcl] at this; exact this
      have := hr (64 * s + j) v (by
        unfold cutB at hv
        rw [bytesV_sub, List.getElem?_take, if_pos hj, List.getElem?_drop, Nat.mul_comm] at hv
        exact hv)
      rw [← Nat.add_assoc] at this
      exact this) (there_sub (w := w.drew) hw (m * 256 + 64 * s) _ (by rw [hcl]; simp [bytesV_len]; omega))
  rw [hcl] at hcp
  have hm2 : (m : Int) < n := by omega
  clear hc hr hw hF hcl hl
  rw [Nat.mul_comm 256 m] at HF
  have HB : Hid (ButA (fun j => j = g) w w.drew) := hide ⟨rfl, rfl, rfl, Nat.le_refl _, fun _ _ _ => rfl⟩
  have HB2 := hide HF.out.2.2
  rcases (by omega : s = 0 ∨ s = 1 ∨ s = 2 ∨ s = 3) with rfl | rfl | rfl | rfl
  · change Calls Try.prog _ #[_, _, .int .i64 0] w _
    have HCP := hide hcp
    clear hcp
    rw [Nat.mul_comm 256 m]
    go_enter Try.func71, Try.ntmps71
    go_wp2_with fail
    refine wp_region_held_drew (S := fun W' => ButA (fun j => j = g) w W') (by kernel_rfl) HB.out (fun hHeld => ?_)
    refine wpAnyH_take (i := 0) (v := ?_) rfl (by kernel_rfl) (by kernel_rfl) (by kernel_rfl) (fun _ _ _ h => h) (Or.inl ⟨by kernel_rfl, ?_⟩) hHeld ?_
    rotate_left
    · intro W hSw
      clear hSw
      go_simp <;> with_reducible rfl
    simp only [Act.put, List.getElem_toArray, List.getElem_cons_zero, List.getElem_cons_succ, List.setIfInBounds_toArray, List.set_cons_zero, List.set_cons_succ]
    refine wpAnyH_take (i := 1) (v := ?_) rfl (by kernel_rfl) (by kernel_rfl) (by kernel_rfl) (fun _ _ _ h => h) (Or.inl ⟨by kernel_rfl, ?_⟩) hHeld ?_
    rotate_left
    · intro W hSw
      clear hSw
      go_simp <;> with_reducible rfl
    simp only [Act.put, List.getElem_toArray, List.getElem_cons_zero, List.getElem_cons_succ, List.setIfInBounds_toArray, List.set_cons_zero, List.set_cons_succ]
    refine wpAnyH_take (i := 2) (v := ?_) rfl (by kernel_rfl) (by kernel_rfl) (by kernel_rfl) (fun _ _ _ h => h) (Or.inl ⟨by kernel_rfl, ?_⟩) hHeld ?_
    rotate_left
    · intro W hSw
      clear hSw
      go_simp <;> with_reducible rfl
    simp only [Act.put, List.getElem_toArray, List.getElem_cons_zero, List.getElem_cons_succ, List.setIfInBounds_toArray, List.set_cons_zero, List.set_cons_succ]
    refine wpAnyH_take (i := 3) (v := ?_) rfl (by kernel_rfl) (by kernel_rfl) (by kernel_rfl) (fun _ _ _ h => h) (Or.inl ⟨by kernel_rfl, ?_⟩) hHeld ?_
    rotate_left
    · intro W hSw
      clear hSw
      go_simp <;> with_reducible rfl
    simp only [Act.put, List.getElem_toArray, List.getElem_cons_zero, List.getElem_cons_succ, List.setIfInBounds_toArray, List.set_cons_zero, List.set_cons_succ]
    refine wpAnyH_take (i := 4) (v := ?_) rfl (by kernel_rfl) (by kernel_rfl) (by kernel_rfl) (fun _ _ _ h => h) (Or.inl ⟨by kernel_rfl, ?_⟩) hHeld ?_
    rotate_left
    · intro W hSw
      have hc := HC.out W hSw
      clear hSw
      go_simp <;> with_reducible rfl
    simp only [Act.put, List.getElem_toArray, List.getElem_cons_zero, List.getElem_cons_succ, List.setIfInBounds_toArray, List.set_cons_zero, List.set_cons_succ]
    refine wpAnyH_take (i := 5) (v := ?_) rfl (by kernel_rfl) (by kernel_rfl) (by kernel_rfl) (fun _ _ _ h => h) (Or.inl ⟨by kernel_rfl, ?_⟩) hHeld ?_
    rotate_left
    · intro W hSw
      clear hSw
      go_simp <;> with_reducible rfl
    simp only [Act.put, List.getElem_toArray, List.getElem_cons_zero, List.getElem_cons_succ, List.setIfInBounds_toArray, List.set_cons_zero, List.set_cons_succ]
    refine wpAnyH_take (i := 6) (v := ?_) rfl (by kernel_rfl) (by kernel_rfl) (by kernel_rfl) (fun _ _ _ h => h) (Or.inl ⟨by kernel_rfl, ?_⟩) hHeld ?_
    rotate_left
    · intro W hSw
      clear hSw
      go_simp <;> with_reducible rfl
    simp only [Act.put, List.getElem_toArray, List.getElem_cons_zero, List.getElem_cons_succ, List.setIfInBounds_toArray, List.set_cons_zero, List.set_cons_succ]
    refine wpAnyH_take (i := 7) (v := ?_) rfl (by kernel_rfl) (by kernel_rfl) (by kernel_rfl) (fun _ _ _ h => h) (Or.inl ⟨by kernel_rfl, ?_⟩) hHeld ?_
    rotate_left
    · intro W hSw
      clear hSw
      go_simp <;> with_reducible rfl
    simp only [Act.put, List.getElem_toArray, List.getElem_cons_zero, List.getElem_cons_succ, List.setIfInBounds_toArray, List.set_cons_zero, List.set_cons_succ]
    refine wpAnyH_take (i := 8) (v := ?_) rfl (by kernel_rfl) (by kernel_rfl) (by kernel_rfl) (fun _ _ _ h => h) (Or.inl ⟨by kernel_rfl, ?_⟩) hHeld ?_
    rotate_left
    · intro W hSw
      clear hSw
      go_simp <;> with_reducible rfl
    simp only [Act.put, List.getElem_toArray, List.getElem_cons_zero, List.getElem_cons_succ, List.setIfInBounds_toArray, List.set_cons_zero, List.set_cons_succ]
    refine wpAnyH_take (i := 9) (v := ?_) rfl (by kernel_rfl) (by kernel_rfl) (by kernel_rfl) (fun _ _ _ h => h) (Or.inl ⟨by kernel_rfl, ?_⟩) hHeld ?_
    rotate_left
    · intro W hSw
      clear hSw
      go_simp <;> with_reducible rfl
    simp only [Act.put, List.getElem_toArray, List.getElem_cons_zero, List.getElem_cons_succ, List.setIfInBounds_toArray, List.set_cons_zero, List.set_cons_succ]
    refine wpAnyH_take (i := 10) (v := ?_) rfl (by kernel_rfl) (by kernel_rfl) (by kernel_rfl) (fun _ _ _ h => h) (Or.inl ⟨by kernel_rfl, ?_⟩) hHeld ?_
    rotate_left
    · intro W hSw
      clear hSw
      go_simp <;> with_reducible rfl
    simp only [Act.put, List.getElem_toArray, List.getElem_cons_zero, List.getElem_cons_succ, List.setIfInBounds_toArray, List.set_cons_zero, List.set_cons_succ]
    refine wpAnyH_take (i := 11) (v := ?_) rfl (by kernel_rfl) (by kernel_rfl) (by kernel_rfl) (fun _ _ _ h => h) (Or.inl ⟨by kernel_rfl, ?_⟩) hHeld ?_
    rotate_left
    · intro W hSw
      clear hSw
      go_simp <;> with_reducible rfl
    simp only [Act.put, List.getElem_toArray, List.getElem_cons_zero, List.getElem_cons_succ, List.setIfInBounds_toArray, List.set_cons_zero, List.set_cons_succ]
    refine wpAnyH_take (i := 12) (v := ?_) rfl (by kernel_rfl) (by kernel_rfl) (by kernel_rfl) (fun _ _ _ h => h) (Or.inl ⟨by kernel_rfl, ?_⟩) hHeld ?_
    rotate_left
    · intro W hSw
      clear hSw
      go_simp <;> with_reducible rfl
    simp only [Act.put, List.getElem_toArray, List.getElem_cons_zero, List.getElem_cons_succ, List.setIfInBounds_toArray, List.set_cons_zero, List.set_cons_succ]
    refine wpAnyH_take (i := 13) (v := ?_) rfl (by kernel_rfl) (by kernel_rfl) (by kernel_rfl) (fun _ _ _ h => h) (Or.inl ⟨by kernel_rfl, ?_⟩) hHeld ?_
    rotate_left
    · intro W hSw
      clear hSw
      go_simp <;> with_reducible rfl
    simp only [Act.put, List.getElem_toArray, List.getElem_cons_zero, List.getElem_cons_succ, List.setIfInBounds_toArray, List.set_cons_zero, List.set_cons_succ]
    refine wpAnyH_take (i := 14) (v := ?_) rfl (by kernel_rfl) (by kernel_rfl) (by kernel_rfl) (fun _ _ _ h => h) (Or.inl ⟨by kernel_rfl, ?_⟩) hHeld ?_
    rotate_left
    · intro W hSw
      clear hSw
      go_simp <;> with_reducible rfl
    simp only [Act.put, List.getElem_toArray, List.getElem_cons_zero, List.getElem_cons_succ, List.setIfInBounds_toArray, List.set_cons_zero, List.set_cons_succ]
    refine wpAnyH_ready (rs := [15]) (by kernel_rfl) (by simp) ?_
    refine AllReadyH.cons rfl (fun K hK => ?_) AllReadyH.nil
    refine step_wp rfl (Lib.wp_copy_run _ (.tmp 21) (.tmp 27) 43 43 rfl _ _ rfl rfl HCP.out ?_)
    refine hK.out _ _ ?_ (fun hHeld => ?_)
    · exact HB2.out
    clear hK K
    try simp only [Act.put, List.getElem_toArray, List.getElem_cons_zero, List.getElem_cons_succ, List.setIfInBounds_toArray, List.set_cons_zero, List.set_cons_succ]
    refine wpAnyH_done (by kernel_rfl) ?_ _
    clear hHeld
    go_wp2
    go_end0
    exact HF.out
  · change Calls Try.prog _ #[_, _, .int .i64 1] w _
    have HCP := hide hcp
    clear hcp
    rw [Nat.mul_comm 256 m]
    go_enter Try.func71, Try.ntmps71
    go_wp2_with fail
    refine wp_region_held_drew (S := fun W' => ButA (fun j => j = g) w W') (by kernel_rfl) HB.out (fun hHeld => ?_)
    refine wpAnyH_take (i := 0) (v := ?_) rfl (by kernel_rfl) (by kernel_rfl) (by kernel_rfl) (fun _ _ _ h => h) (Or.inl ⟨by kernel_rfl, ?_⟩) hHeld ?_
    rotate_left
    · intro W hSw
      clear hSw
      go_simp <;> with_reducible rfl
    simp only [Act.put, List.getElem_toArray, List.getElem_cons_zero, List.getElem_cons_succ, List.setIfInBounds_toArray, List.set_cons_zero, List.set_cons_succ]
    refine wpAnyH_take (i := 1) (v := ?_) rfl (by kernel_rfl) (by kernel_rfl) (by kernel_rfl) (fun _ _ _ h => h) (Or.inl ⟨by kernel_rfl, ?_⟩) hHeld ?_
    rotate_left
    · intro W hSw
      clear hSw
      go_simp <;> with_reducible rfl
    simp only [Act.put, List.getElem_toArray, List.getElem_cons_zero, List.getElem_cons_succ, List.setIfInBounds_toArray, List.set_cons_zero, List.set_cons_succ]
    refine wpAnyH_take (i := 2) (v := ?_) rfl (by kernel_rfl) (by kernel_rfl) (by kernel_rfl) (fun _ _ _ h => h) (Or.inl ⟨by kernel_rfl, ?_⟩) hHeld ?_
    rotate_left
    · intro W hSw
      clear hSw
      go_simp <;> with_reducible rfl
    simp only [Act.put, List.getElem_toArray, List.getElem_cons_zero, List.getElem_cons_succ, List.setIfInBounds_toArray, List.set_cons_zero, List.set_cons_succ]
    refine wpAnyH_take (i := 3) (v := ?_) rfl (by kernel_rfl) (by kernel_rfl) (by kernel_rfl) (fun _ _ _ h => h) (Or.inl ⟨by kernel_rfl, ?_⟩) hHeld ?_
    rotate_left
    · intro W hSw
      clear hSw
      go_simp <;> with_reducible rfl
    simp only [Act.put, List.getElem_toArray, List.getElem_cons_zero, List.getElem_cons_succ, List.setIfInBounds_toArray, List.set_cons_zero, List.set_cons_succ]
    refine wpAnyH_take (i := 4) (v := ?_) rfl (by kernel_rfl) (by kernel_rfl) (by kernel_rfl) (fun _ _ _ h => h) (Or.inl ⟨by kernel_rfl, ?_⟩) hHeld ?_
    rotate_left
    · intro W hSw
      have hc := HC.out W hSw
      clear hSw
      go_simp <;> with_reducible rfl
    simp only [Act.put, List.getElem_toArray, List.getElem_cons_zero, List.getElem_cons_succ, List.setIfInBounds_toArray, List.set_cons_zero, List.set_cons_succ]
    refine wpAnyH_take (i := 5) (v := ?_) rfl (by kernel_rfl) (by kernel_rfl) (by kernel_rfl) (fun _ _ _ h => h) (Or.inl ⟨by kernel_rfl, ?_⟩) hHeld ?_
    rotate_left
    · intro W hSw
      clear hSw
      go_simp <;> with_reducible rfl
    simp only [Act.put, List.getElem_toArray, List.getElem_cons_zero, List.getElem_cons_succ, List.setIfInBounds_toArray, List.set_cons_zero, List.set_cons_succ]
    refine wpAnyH_take (i := 6) (v := ?_) rfl (by kernel_rfl) (by kernel_rfl) (by kernel_rfl) (fun _ _ _ h => h) (Or.inl ⟨by kernel_rfl, ?_⟩) hHeld ?_
    rotate_left
    · intro W hSw
      clear hSw
      go_simp <;> with_reducible rfl
    simp only [Act.put, List.getElem_toArray, List.getElem_cons_zero, List.getElem_cons_succ, List.setIfInBounds_toArray, List.set_cons_zero, List.set_cons_succ]
    refine wpAnyH_take (i := 7) (v := ?_) rfl (by kernel_rfl) (by kernel_rfl) (by kernel_rfl) (fun _ _ _ h => h) (Or.inl ⟨by kernel_rfl, ?_⟩) hHeld ?_
    rotate_left
    · intro W hSw
      clear hSw
      go_simp <;> with_reducible rfl
    simp only [Act.put, List.getElem_toArray, List.getElem_cons_zero, List.getElem_cons_succ, List.setIfInBounds_toArray, List.set_cons_zero, List.set_cons_succ]
    refine wpAnyH_take (i := 8) (v := ?_) rfl (by kernel_rfl) (by kernel_rfl) (by kernel_rfl) (fun _ _ _ h => h) (Or.inl ⟨by kernel_rfl, ?_⟩) hHeld ?_
    rotate_left
    · intro W hSw
      clear hSw
      go_simp <;> with_reducible rfl
    simp only [Act.put, List.getElem_toArray, List.getElem_cons_zero, List.getElem_cons_succ, List.setIfInBounds_toArray, List.set_cons_zero, List.set_cons_succ]
    refine wpAnyH_take (i := 9) (v := ?_) rfl (by kernel_rfl) (by kernel_rfl) (by kernel_rfl) (fun _ _ _ h => h) (Or.inl ⟨by kernel_rfl, ?_⟩) hHeld ?_
    rotate_left
    · intro W hSw
      clear hSw
      go_simp <;> with_reducible rfl
    simp only [Act.put, List.getElem_toArray, List.getElem_cons_zero, List.getElem_cons_succ, List.setIfInBounds_toArray, List.set_cons_zero, List.set_cons_succ]
    refine wpAnyH_take (i := 10) (v := ?_) rfl (by kernel_rfl) (by kernel_rfl) (by kernel_rfl) (fun _ _ _ h => h) (Or.inl ⟨by kernel_rfl, ?_⟩) hHeld ?_
    rotate_left
    · intro W hSw
      clear hSw
      go_simp <;> with_reducible rfl
    simp only [Act.put, List.getElem_toArray, List.getElem_cons_zero, List.getElem_cons_succ, List.setIfInBounds_toArray, List.set_cons_zero, List.set_cons_succ]
    refine wpAnyH_take (i := 11) (v := ?_) rfl (by kernel_rfl) (by kernel_rfl) (by kernel_rfl) (fun _ _ _ h => h) (Or.inl ⟨by kernel_rfl, ?_⟩) hHeld ?_
    rotate_left
    · intro W hSw
      clear hSw
      go_simp <;> with_reducible rfl
    simp only [Act.put, List.getElem_toArray, List.getElem_cons_zero, List.getElem_cons_succ, List.setIfInBounds_toArray, List.set_cons_zero, List.set_cons_succ]
    refine wpAnyH_take (i := 12) (v := ?_) rfl (by kernel_rfl) (by kernel_rfl) (by kernel_rfl) (fun _ _ _ h => h) (Or.inl ⟨by kernel_rfl, ?_⟩) hHeld ?_
    rotate_left
    · intro W hSw
      clear hSw
      go_simp <;> with_reducible rfl
    simp only [Act.put, List.getElem_toArray, List.getElem_cons_zero, List.getElem_cons_succ, List.setIfInBounds_toArray, List.set_cons_zero, List.set_cons_succ]
    refine wpAnyH_take (i := 13) (v := ?_) rfl (by kernel_rfl) (by kernel_rfl) (by kernel_rfl) (fun _ _ _ h => h) (Or.inl ⟨by kernel_rfl, ?_⟩) hHeld ?_
    rotate_left
    · intro W hSw
      clear hSw
      go_simp <;> with_reducible rfl
    simp only [Act.put, List.getElem_toArray, List.getElem_cons_zero, List.getElem_cons_succ, List.setIfInBounds_toArray, List.set_cons_zero, List.set_cons_succ]
    refine wpAnyH_take (i := 14) (v := ?_) rfl (by kernel_rfl) (by kernel_rfl) (by kernel_rfl) (fun _ _ _ h => h) (Or.inl ⟨by kernel_rfl, ?_⟩) hHeld ?_
    rotate_left
    · intro W hSw
      clear hSw
      go_simp <;> with_reducible rfl
    simp only [Act.put, List.getElem_toArray, List.getElem_cons_zero, List.getElem_cons_succ, List.setIfInBounds_toArray, List.set_cons_zero, List.set_cons_succ]
    refine wpAnyH_ready (rs := [15]) (by kernel_rfl) (by simp) ?_
    refine AllReadyH.cons rfl (fun K hK => ?_) AllReadyH.nil
    refine step_wp rfl (Lib.wp_copy_run _ (.tmp 21) (.tmp 27) 43 43 rfl _ _ rfl rfl HCP.out ?_)
    refine hK.out _ _ ?_ (fun hHeld => ?_)
    · exact HB2.out
    clear hK K
    try simp only [Act.put, List.getElem_toArray, List.getElem_cons_zero, List.getElem_cons_succ, List.setIfInBounds_toArray, List.set_cons_zero, List.set_cons_succ]
    refine wpAnyH_done (by kernel_rfl) ?_ _
    clear hHeld
    go_wp2
    go_end0
    exact HF.out
  · change Calls Try.prog _ #[_, _, .int .i64 2] w _
    have HCP := hide hcp
    clear hcp
    rw [Nat.mul_comm 256 m]
    go_enter Try.func71, Try.ntmps71
    go_wp2_with fail
    refine wp_region_held_drew (S := fun W' => ButA (fun j => j = g) w W') (by kernel_rfl) HB.out (fun hHeld => ?_)
    refine wpAnyH_take (i := 0) (v := ?_) rfl (by kernel_rfl) (by kernel_rfl) (by kernel_rfl) (fun _ _ _ h => h) (Or.inl ⟨by kernel_rfl, ?_⟩) hHeld ?_
    rotate_left
    · intro W hSw
      clear hSw
      go_simp <;> with_reducible rfl
    simp only [Act.put, List.getElem_toArray, List.getElem_cons_zero, List.getElem_cons_succ, List.setIfInBounds_toArray, List.set_cons_zero, List.set_cons_succ]
    refine wpAnyH_take (i := 1) (v := ?_) rfl (by kernel_rfl) (by kernel_rfl) (by kernel_rfl) (fun _ _ _ h => h) (Or.inl ⟨by kernel_rfl, ?_⟩) hHeld ?_
    rotate_left
    · intro W hSw
      clear hSw
      go_simp <;> with_reducible rfl
    simp only [Act.put, List.getElem_toArray, List.getElem_cons_zero, List.getElem_cons_succ, List.setIfInBounds_toArray, List.set_cons_zero, List.set_cons_succ]
    refine wpAnyH_take (i := 2) (v := ?_) rfl (by kernel_rfl) (by kernel_rfl) (by kernel_rfl) (fun _ _ _ h => h) (Or.inl ⟨by kernel_rfl, ?_⟩) hHeld ?_
    rotate_left
    · intro W hSw
      clear hSw
      go_simp <;> with_reducible rfl
    simp only [Act.put, List.getElem_toArray, List.getElem_cons_zero, List.getElem_cons_succ, List.setIfInBounds_toArray, List.set_cons_zero, List.set_cons_succ]
    refine wpAnyH_take (i := 3) (v := ?_) rfl (by kernel_rfl) (by kernel_rfl) (by kernel_rfl) (fun _ _ _ h => h) (Or.inl ⟨by kernel_rfl, ?_⟩) hHeld ?_
    rotate_left
    · intro W hSw
      clear hSw
      go_simp <;> with_reducible rfl
    simp only [Act.put, List.getElem_toArray, List.getElem_cons_zero, List.getElem_cons_succ, List.setIfInBounds_toArray, List.set_cons_zero, List.set_cons_succ]
    refine wpAnyH_take (i := 4) (v := ?_) rfl (by kernel_rfl) (by kernel_rfl) (by kernel_rfl) (fun _ _ _ h => h) (Or.inl ⟨by kernel_rfl, ?_⟩) hHeld ?_
    rotate_left
    · intro W hSw
      have hc := HC.out W hSw
      clear hSw
      go_simp <;> with_reducible rfl
    simp only [Act.put, List.getElem_toArray, List.getElem_cons_zero, List.getElem_cons_succ, List.setIfInBounds_toArray, List.set_cons_zero, List.set_cons_succ]
    refine wpAnyH_take (i := 5) (v := ?_) rfl (by kernel_rfl) (by kernel_rfl) (by kernel_rfl) (fun _ _ _ h => h) (Or.inl ⟨by kernel_rfl, ?_⟩) hHeld ?_
    rotate_left
    · intro W hSw
      clear hSw
      go_simp <;> with_reducible rfl
    simp only [Act.put, List.getElem_toArray, List.getElem_cons_zero, List.getElem_cons_succ, List.setIfInBounds_toArray, List.set_cons_zero, List.set_cons_succ]
    refine wpAnyH_take (i := 6) (v := ?_) rfl (by kernel_rfl) (by kernel_rfl) (by kernel_rfl) (fun _ _ _ h => h) (Or.inl ⟨by kernel_rfl, ?_⟩) hHeld ?_
    rotate_left
    · intro W hSw
      clear hSw
      go_simp <;> with_reducible rfl
    simp only [Act.put, List.getElem_toArray, List.getElem_cons_zero, List.getElem_cons_succ, List.setIfInBounds_toArray, List.set_cons_zero, List.set_cons_succ]
    refine wpAnyH_take (i := 7) (v := ?_) rfl (by kernel_rfl) (by kernel_rfl) (by kernel_rfl) (fun _ _ _ h => h) (Or.inl ⟨by kernel_rfl, ?_⟩) hHeld ?_
    rotate_left
    · intro W hSw
      clear hSw
      go_simp <;> with_reducible rfl
    simp only [Act.put, List.getElem_toArray, List.getElem_cons_zero, List.getElem_cons_succ, List.setIfInBounds_toArray, List.set_cons_zero, List.set_cons_succ]
    refine wpAnyH_take (i := 8) (v := ?_) rfl (by kernel_rfl) (by kernel_rfl) (by kernel_rfl) (fun _ _ _ h => h) (Or.inl ⟨by kernel_rfl, ?_⟩) hHeld ?_
    rotate_left
    · intro W hSw
      clear hSw
      go_simp <;> with_reducible rfl
    simp only [Act.put, List.getElem_toArray, List.getElem_cons_zero, List.getElem_cons_succ, List.setIfInBounds_toArray, List.set_cons_zero, List.set_cons_succ]
    refine wpAnyH_take (i := 9) (v := ?_) rfl (by kernel_rfl) (by kernel_rfl) (by kernel_rfl) (fun _ _ _ h => h) (Or.inl ⟨by kernel_rfl, ?_⟩) hHeld ?_
    rotate_left
    · intro W hSw
      clear hSw
      go_simp <;> with_reducible rfl
    simp only [Act.put, List.getElem_toArray, List.getElem_cons_zero, List.getElem_cons_succ, List.setIfInBounds_toArray, List.set_cons_zero, List.set_cons_succ]
    refine wpAnyH_take (i := 10) (v := ?_) rfl (by kernel_rfl) (by kernel_rfl) (by kernel_rfl) (fun _ _ _ h => h) (Or.inl ⟨by kernel_rfl, ?_⟩) hHeld ?_
    rotate_left
    · intro W hSw
      clear hSw
      go_simp <;> with_reducible rfl
    simp only [Act.put, List.getElem_toArray, List.getElem_cons_zero, List.getElem_cons_succ, List.setIfInBounds_toArray, List.set_cons_zero, List.set_cons_succ]
    refine wpAnyH_take (i := 11) (v := ?_) rfl (by kernel_rfl) (by kernel_rfl) (by kernel_rfl) (fun _ _ _ h => h) (Or.inl ⟨by kernel_rfl, ?_⟩) hHeld ?_
    rotate_left
    · intro W hSw
      clear hSw
      go_simp <;> with_reducible rfl
    simp only [Act.put, List.getElem_toArray, List.getElem_cons_zero, List.getElem_cons_succ, List.setIfInBounds_toArray, List.set_cons_zero, List.set_cons_succ]
    refine wpAnyH_take (i := 12) (v := ?_) rfl (by kernel_rfl) (by kernel_rfl) (by kernel_rfl) (fun _ _ _ h => h) (Or.inl ⟨by kernel_rfl, ?_⟩) hHeld ?_
    rotate_left
    · intro W hSw
      clear hSw
      go_simp <;> with_reducible rfl
    simp only [Act.put, List.getElem_toArray, List.getElem_cons_zero, List.getElem_cons_succ, List.setIfInBounds_toArray, List.set_cons_zero, List.set_cons_succ]
    refine wpAnyH_take (i := 13) (v := ?_) rfl (by kernel_rfl) (by kernel_rfl) (by kernel_rfl) (fun _ _ _ h => h) (Or.inl ⟨by kernel_rfl, ?_⟩) hHeld ?_
    rotate_left
    · intro W hSw
      clear hSw
      go_simp <;> with_reducible rfl
    simp only [Act.put, List.getElem_toArray, List.getElem_cons_zero, List.getElem_cons_succ, List.setIfInBounds_toArray, List.set_cons_zero, List.set_cons_succ]
    refine wpAnyH_take (i := 14) (v := ?_) rfl (by kernel_rfl) (by kernel_rfl) (by kernel_rfl) (fun _ _ _ h => h) (Or.inl ⟨by kernel_rfl, ?_⟩) hHeld ?_
    rotate_left
    · intro W hSw
      clear hSw
      go_simp <;> with_reducible rfl
    simp only [Act.put, List.getElem_toArray, List.getElem_cons_zero, List.getElem_cons_succ, List.setIfInBounds_toArray, List.set_cons_zero, List.set_cons_succ]
    refine wpAnyH_ready (rs := [15]) (by kernel_rfl) (by simp) ?_
    refine AllReadyH.cons rfl (fun K hK => ?_) AllReadyH.nil
    refine step_wp rfl (Lib.wp_copy_run _ (.tmp 21) (.tmp 27) 43 43 rfl _ _ rfl rfl HCP.out ?_)
    refine hK.out _ _ ?_ (fun hHeld => ?_)
    · exact HB2.out
    clear hK K
    try simp only [Act.put, List.getElem_toArray, List.getElem_cons_zero, List.getElem_cons_succ, List.setIfInBounds_toArray, List.set_cons_zero, List.set_cons_succ]
    refine wpAnyH_done (by kernel_rfl) ?_ _
    clear hHeld
    go_wp2
    go_end0
    exact HF.out
  · change Calls Try.prog _ #[_, _, .int .i64 3] w _
    have HCP := hide hcp
    clear hcp
    rw [Nat.mul_comm 256 m]
    go_enter Try.func71, Try.ntmps71
    go_wp2_with fail
    refine wp_region_held_drew (S := fun W' => ButA (fun j => j = g) w W') (by kernel_rfl) HB.out (fun hHeld => ?_)
    refine wpAnyH_take (i := 0) (v := ?_) rfl (by kernel_rfl) (by kernel_rfl) (by kernel_rfl) (fun _ _ _ h => h) (Or.inl ⟨by kernel_rfl, ?_⟩) hHeld ?_
    rotate_left
    · intro W hSw
      clear hSw
      go_simp <;> with_reducible rfl
    simp only [Act.put, List.getElem_toArray, List.getElem_cons_zero, List.getElem_cons_succ, List.setIfInBounds_toArray, List.set_cons_zero, List.set_cons_succ]
    refine wpAnyH_take (i := 1) (v := ?_) rfl (by kernel_rfl) (by kernel_rfl) (by kernel_rfl) (fun _ _ _ h => h) (Or.inl ⟨by kernel_rfl, ?_⟩) hHeld ?_
    rotate_left
    · intro W hSw
      clear hSw
      go_simp <;> with_reducible rfl
    simp only [Act.put, List.getElem_toArray, List.getElem_cons_zero, List.getElem_cons_succ, List.setIfInBounds_toArray, List.set_cons_zero, List.set_cons_succ]
    refine wpAnyH_take (i := 2) (v := ?_) rfl (by kernel_rfl) (by kernel_rfl) (by kernel_rfl) (fun _ _ _ h => h) (Or.inl ⟨by kernel_rfl, ?_⟩) hHeld ?_
    rotate_left
    · intro W hSw
      clear hSw
      go_simp <;> with_reducible rfl
    simp only [Act.put, List.getElem_toArray, List.getElem_cons_zero, List.getElem_cons_succ, List.setIfInBounds_toArray, List.set_cons_zero, List.set_cons_succ]
    refine wpAnyH_take (i := 3) (v := ?_) rfl (by kernel_rfl) (by kernel_rfl) (by kernel_rfl) (fun _ _ _ h => h) (Or.inl ⟨by kernel_rfl, ?_⟩) hHeld ?_
    rotate_left
    · intro W hSw
      clear hSw
      go_simp <;> with_reducible rfl
    simp only [Act.put, List.getElem_toArray, List.getElem_cons_zero, List.getElem_cons_succ, List.setIfInBounds_toArray, List.set_cons_zero, List.set_cons_succ]
    refine wpAnyH_take (i := 4) (v := ?_) rfl (by kernel_rfl) (by kernel_rfl) (by kernel_rfl) (fun _ _ _ h => h) (Or.inl ⟨by kernel_rfl, ?_⟩) hHeld ?_
    rotate_left
    · intro W hSw
      have hc := HC.out W hSw
      clear hSw
      go_simp <;> with_reducible rfl
    simp only [Act.put, List.getElem_toArray, List.getElem_cons_zero, List.getElem_cons_succ, List.setIfInBounds_toArray, List.set_cons_zero, List.set_cons_succ]
    refine wpAnyH_take (i := 5) (v := ?_) rfl (by kernel_rfl) (by kernel_rfl) (by kernel_rfl) (fun _ _ _ h => h) (Or.inl ⟨by kernel_rfl, ?_⟩) hHeld ?_
    rotate_left
    · intro W hSw
      clear hSw
      go_simp <;> with_reducible rfl
    simp only [Act.put, List.getElem_toArray, List.getElem_cons_zero, List.getElem_cons_succ, List.setIfInBounds_toArray, List.set_cons_zero, List.set_cons_succ]
    refine wpAnyH_take (i := 6) (v := ?_) rfl (by kernel_rfl) (by kernel_rfl) (by kernel_rfl) (fun _ _ _ h => h) (Or.inl ⟨by kernel_rfl, ?_⟩) hHeld ?_
    rotate_left
    · intro W hSw
      clear hSw
      go_simp <;> with_reducible rfl
    simp only [Act.put, List.getElem_toArray, List.getElem_cons_zero, List.getElem_cons_succ, List.setIfInBounds_toArray, List.set_cons_zero, List.set_cons_succ]
    refine wpAnyH_take (i := 7) (v := ?_) rfl (by kernel_rfl) (by kernel_rfl) (by kernel_rfl) (fun _ _ _ h => h) (Or.inl ⟨by kernel_rfl, ?_⟩) hHeld ?_
    rotate_left
    · intro W hSw
      clear hSw
      go_simp <;> with_reducible rfl
    simp only [Act.put, List.getElem_toArray, List.getElem_cons_zero, List.getElem_cons_succ, List.setIfInBounds_toArray, List.set_cons_zero, List.set_cons_succ]
    refine wpAnyH_take (i := 8) (v := ?_) rfl (by kernel_rfl) (by kernel_rfl) (by kernel_rfl) (fun _ _ _ h => h) (Or.inl ⟨by kernel_rfl, ?_⟩) hHeld ?_
    rotate_left
    · intro W hSw
      clear hSw
      go_simp <;> with_reducible rfl
    simp only [Act.put, List.getElem_toArray, List.getElem_cons_zero, List.getElem_cons_succ, List.setIfInBounds_toArray, List.set_cons_zero, List.set_cons_succ]
    refine wpAnyH_take (i := 9) (v := ?_) rfl (by kernel_rfl) (by kernel_rfl) (by kernel_rfl) (fun _ _ _ h => h) (Or.inl ⟨by kernel_rfl, ?_⟩) hHeld ?_
    rotate_left
    · intro W hSw
      clear hSw
      go_simp <;> with_reducible rfl
    simp only [Act.put, List.getElem_toArray, List.getElem_cons_zero, List.getElem_cons_succ, List.setIfInBounds_toArray, List.set_cons_zero, List.set_cons_succ]
    refine wpAnyH_take (i := 10) (v := ?_) rfl (by kernel_rfl) (by kernel_rfl) (by kernel_rfl) (fun _ _ _ h => h) (Or.inl ⟨by kernel_rfl, ?_⟩) hHeld ?_
    rotate_left
    · intro W hSw
      clear hSw
      go_simp <;> with_reducible rfl
    simp only [Act.put, List.getElem_toArray, List.getElem_cons_zero, List.getElem_cons_succ, List.setIfInBounds_toArray, List.set_cons_zero, List.set_cons_succ]
    refine wpAnyH_take (i := 11) (v := ?_) rfl (by kernel_rfl) (by kernel_rfl) (by kernel_rfl) (fun _ _ _ h => h) (Or.inl ⟨by kernel_rfl, ?_⟩) hHeld ?_
    rotate_left
    · intro W hSw
      clear hSw
      go_simp <;> with_reducible rfl
    simp only [Act.put, List.getElem_toArray, List.getElem_cons_zero, List.getElem_cons_succ, List.setIfInBounds_toArray, List.set_cons_zero, List.set_cons_succ]
    refine wpAnyH_take (i := 12) (v := ?_) rfl (by kernel_rfl) (by kernel_rfl) (by kernel_rfl) (fun _ _ _ h => h) (Or.inl ⟨by kernel_rfl, ?_⟩) hHeld ?_
    rotate_left
    · intro W hSw
      clear hSw
      go_simp <;> with_reducible rfl
    simp only [Act.put, List.getElem_toArray, List.getElem_cons_zero, List.getElem_cons_succ, List.setIfInBounds_toArray, List.set_cons_zero, List.set_cons_succ]
    refine wpAnyH_take (i := 13) (v := ?_) rfl (by kernel_rfl) (by kernel_rfl) (by kernel_rfl) (fun _ _ _ h => h) (Or.inl ⟨by kernel_rfl, ?_⟩) hHeld ?_
    rotate_left
    · intro W hSw
      clear hSw
      go_simp <;> with_reducible rfl
    simp only [Act.put, List.getElem_toArray, List.getElem_cons_zero, List.getElem_cons_succ, List.setIfInBounds_toArray, List.set_cons_zero, List.set_cons_succ]
    refine wpAnyH_take (i := 14) (v := ?_) rfl (by kernel_rfl) (by kernel_rfl) (by kernel_rfl) (fun _ _ _ h => h) (Or.inl ⟨by kernel_rfl, ?_⟩) hHeld ?_
    rotate_left
    · intro W hSw
      clear hSw
      go_simp <;> with_reducible rfl
    simp only [Act.put, List.getElem_toArray, List.getElem_cons_zero, List.getElem_cons_succ, List.setIfInBounds_toArray, List.set_cons_zero, List.set_cons_succ]
    refine wpAnyH_ready (rs := [15]) (by kernel_rfl) (by simp) ?_
    refine AllReadyH.cons rfl (fun K hK => ?_) AllReadyH.nil
    refine step_wp rfl (Lib.wp_copy_run _ (.tmp 21) (.tmp 27) 43 43 rfl _ _ rfl rfl HCP.out ?_)
    refine hK.out _ _ ?_ (fun hHeld => ?_)
    · exact HB2.out
    clear hK K
    try simp only [Act.put, List.getElem_toArray, List.getElem_cons_zero, List.getElem_cons_succ, List.setIfInBounds_toArray, List.set_cons_zero, List.set_cons_succ]
    refine wpAnyH_done (by kernel_rfl) ?_ _
    clear hHeld
    go_wp2
    go_end0
    exact HF.out
end Go.Proofs.Ythpepkfodcgbcaa
