/- What the document's own Make answers; nothing that was there is written. -/
import Derived.Test.YtjgklemhlmgheaaPC5
import Derived.Test.YtjgklemhlmgheaaWalkH5
import Derived.Test.YtjgklemhlmgheaaPF5
set_option linter.unusedVariables false
set_option linter.unusedSimpArgs false
namespace Go.Proofs.Ytjgklemhlmgheaa
open Go.RowKit

/-- A list of attributes lies there; one of no length may have whatever address. -/
def IsV (w : World) (v : Value) (aa : AttrL) : Prop := IsA w v aa ∨ (aa = [] ∧ ∃ a c, v = .slice a 0 c)
theorem IsV.below {w W : World} {v : Value} {aa : AttrL} (h : IsV w v aa) (hb : Below w.heap.size w W) : IsV W v aa := h.imp (fun h => h.below hb) id
theorem isV_form {w : World} {v : Value} {aa : AttrL} (h : IsV w v aa) : ∃ a c, v = .slice a aa.length c := by
  rcases h with h | ⟨rfl, a, c, rfl⟩
  · exact isA_form h
  · exact ⟨a, c, rfl⟩
/-- A list of attributes, copied behind an empty one. -/
theorem copy_attrs (W : World) (v : Value) (aa : AttrL) (hV : IsV W v aa) (hl : aa.length ≤ 1000000) :
    ∃ v' w', (Builtin.append_ #[31, 31] 31 #[.slice (some ⟨W.heap.size, 0, none⟩) 0 0, v]).run Try.prog (W.alloc (.cells #[] 80)) = .ok v' w' ∧ w'.ownsRow W.heap.size 80 2 v' aa.length (attrCells aa) ∧ Below W.heap.size W w' := by
  have b0 := below_alloc W (.cells #[] 80)
  have hown : (W.alloc (.cells #[] 80)).ownsRow W.heap.size 80 2 (.slice (some ⟨W.heap.size, 0, none⟩) 0 0) 0 [] := World.ownsRow_made W #[] 0 (Nat.le_refl _) (by unfold maxLen; omega) (by simp)
  have hblk : ∀ k, (Value.slice (some ⟨W.heap.size, 0, none⟩) 0 0).ownBlock = some k → W.heap.size ≤ k := fun k hk => by
    have : W.heap.size = k := by simpa [Value.ownBlock] using hk
    omega
  rcases hV with hI | ⟨rfl, a, c, rfl⟩
  rotate_left
  · have hsrc : Src Try.prog 2 31 (.slice a 0 c) 0 [] (W.alloc (.cells #[] 80)) := by
      cases a with
      | none => exact Src.ofNil _ Try.underlying31 c
      | some a => exact Src.ofSlice _ Try.underlying31 a 0 c [] (by simp) (by simp) (by simp)
    have hr := run_append_room_src (P := Try.prog) (W.alloc (.cells #[] 80)) 31 31 31 80 Try.t80 Try.underlying31 (by kernel_rfl) W.heap.size 0 0 0 (.slice a 0 c) 0 [] hsrc (by omega) (by simp) (by simp)
    exact ⟨_, _, hr, hown, b0⟩
  rcases hI with ⟨rfl, rfl⟩ | ⟨b, o, cap, rfl, hc, hcs⟩
  · have hr := run_append_room_src (P := Try.prog) (W.alloc (.cells #[] 80)) 31 31 31 80 Try.t80 Try.underlying31 (by kernel_rfl) W.heap.size 0 0 0 (.slice none 0 0) 0 [] (Src.ofNil _ Try.underlying31 0) (by omega) (by simp) (by simp)
    exact ⟨_, _, hr, hown, b0⟩
  · obtain ⟨v', w', hr, ho, hg, _⟩ := run_append_own (P := Try.prog) (W.alloc (.cells #[] 80)) W.heap.size 31 31 80 Try.t80 _ 2 32 Try.underlying31 (by kernel_rfl) rfl (by kernel_rfl) (by kernel_rfl) (by kernel_rfl) (by omega)
      (.slice (some ⟨W.heap.size, 0, none⟩) 0 0) 0 [] hown ⟨b, o, none⟩ aa.length cap (attrCells aa) (attrCells_len aa)
      (by
        intro j u hu
        have hj : j < (attrCells aa).length := by
          rcases Nat.lt_or_ge j (attrCells aa).length with h | h
          · exact h
          · rw [List.getElem?_eq_none h] at hu; cases hu
        rw [attrCells_len] at hj
        obtain ⟨g1, g2⟩ := attrCells_get aa (j / 2) (by omega)
        obtain ⟨c1, c2⟩ := hcs (j / 2) (by omega)
        rw [show (⟨b, o, none⟩ : Addr).add j = ⟨b, o + j, none⟩ by unfold Addr.add; split <;> simp_all]
        by_cases e : j % 2 = 0
        · rw [show j / 2 * 2 = j by omega] at g1
          rw [hu] at g1
          rw [show o + j / 2 * 2 = o + j by omega] at c1
          rw [b0.cell (cell_lt c1), c1, g1]
        · rw [show j / 2 * 2 + 1 = j by omega] at g2
          rw [hu] at g2
          rw [show o + j / 2 * 2 + 1 = o + j by omega] at c2
          rw [b0.cell (cell_lt c2), c2, g2])
      (attrCells_1c aa) (by unfold maxLen; omega) (by omega) (by simp)
    rw [Nat.zero_add] at ho
    exact ⟨v', w', hr, ho, b0.grown hg (by simp) hblk⟩
theorem Kept.set {w : World} {k : Nat} {cs : List Value} (h : Kept w k cs) (o : Nat) (ho : o < cs.length) (v : Value) : Kept (w.setCell ⟨k, o, none⟩ v) k (cs.set o v) := by
  refine ⟨fun j => ?_, fun j => by rw [World.frozen?_setCell]; exact h.2 j⟩
  by_cases e : o = j
  · subst e
    rw [List.getElem?_set_self ho]
    exact World.cell?_setCell_same _ _ _ (by rw [h.1 o, List.getElem?_eq_getElem ho])
  · rw [List.getElem?_set_ne e, World.cell?_setCell_other _ _ _ _ (by intro h; injection h with _ h _; exact e h)]
    exact h.1 j
theorem Kept.other {w : World} {k : Nat} {cs : List Value} (h : Kept w k cs) (a : Addr) (ha : a.block ≠ k) (v : Value) : Kept (w.setCell a v) k cs := by
  refine ⟨fun j => ?_, fun j => by rw [World.frozen?_setCell]; exact h.2 j⟩
  rw [World.cell?_setCell_other _ _ _ _ (by intro h; exact ha (congrArg Addr.block h))]
  exact h.1 j
set_option maxRecDepth 10000 in
set_option maxHeartbeats 4000000 in
theorem make_any (v : Value) (T : TR) (d : ND) (av kv : Value) (hkv : ∃ a n c, kv = .slice a n c) (hl : T.length ≤ 1000000) (ha : d.attrs.length ≤ 1000000) (B : Nat → Prop) (w : World) (hB : ∀ k, B k → k < w.heap.size) (hT : IsTB B w v T) (hA : IsV w av d.attrs) :
    Calls Try.prog 33 #[.agg #[v], .agg #[.int .i64 d.kind, .int .i64 d.space, .string ⟨d.name.toArray⟩, av, .string ⟨d.text.toArray⟩, kv]] w fun e w' => TreeN B w w' e (makeL T d) ∧ Below w.heap.size w w' := by
  obtain ⟨ka, kn, kc, rfl⟩ := hkv
  have HT0 := hide hT
  obtain ⟨b, o, cap, ps, rfl, hcap, hps, hBb, hok, hcs⟩ := hT
  have hlen : ps.length = T.length := by rw [← hps, List.length_map]
  obtain ⟨aa, ac, rfl⟩ := isV_form hA
  have b0 := below_alloc w (.cells #[.slice (some ⟨b, o, none⟩) T.length cap] 27)
  have b1 := b0.alloc b0.size (.cells #[.int .i64 d.kind, .int .i64 d.space, .string ⟨d.name.toArray⟩, .slice aa d.attrs.length ac, .string ⟨d.text.toArray⟩, .slice ka kn kc] 41)
  have b2 := b1.alloc b1.size (.cells #[.slice none 0 0] 27)
  have K0 := ((Kept.new w [.slice (some ⟨b, o, none⟩) T.length cap] 27).alloc (.cells #[.int .i64 d.kind, .int .i64 d.space, .string ⟨d.name.toArray⟩, .slice aa d.attrs.length ac, .string ⟨d.text.toArray⟩, .slice ka kn kc] 41)).alloc (.cells #[.slice none 0 0] 27)
  have K1 := (Kept.new (w.alloc (.cells #[.slice (some ⟨b, o, none⟩) T.length cap] 27)) [.int .i64 d.kind, .int .i64 d.space, .string ⟨d.name.toArray⟩, .slice aa d.attrs.length ac, .string ⟨d.text.toArray⟩, .slice ka kn kc] 41).alloc (.cells #[.slice none 0 0] 27)
  have K2 := Kept.new ((w.alloc (.cells #[.slice (some ⟨b, o, none⟩) T.length cap] 27)).alloc (.cells #[.int .i64 d.kind, .int .i64 d.space, .string ⟨d.name.toArray⟩, .slice aa d.attrs.length ac, .string ⟨d.text.toArray⟩, .slice ka kn kc] 41)) [.slice none 0 0] 27
  rw [show (w.alloc (.cells #[.slice (some ⟨b, o, none⟩) T.length cap] 27)).heap.size = w.heap.size + 1 by simp] at K1
  rw [show ((w.alloc (.cells #[.slice (some ⟨b, o, none⟩) T.length cap] 27)).alloc (.cells #[.int .i64 d.kind, .int .i64 d.space, .string ⟨d.name.toArray⟩, .slice aa d.attrs.length ac, .string ⟨d.text.toArray⟩, .slice ka kn kc] 41)).heap.size = w.heap.size + 1 + 1 by simp] at K2
  have hA2 := hA.below b2
  have hs2 : (((w.alloc (.cells #[.slice (some ⟨b, o, none⟩) T.length cap] 27)).alloc (.cells #[.int .i64 d.kind, .int .i64 d.space, .string ⟨d.name.toArray⟩, .slice aa d.attrs.length ac, .string ⟨d.text.toArray⟩, .slice ka kn kc] 41)).alloc (.cells #[.slice none 0 0] 27)).heap.size = w.heap.size + 1 + 1 + 1 := by simp
  clear b0
  have HB1 := hide b1
  clear b1
  by_cases hc : T.length < 2000
  · have hm : makeL T d = (pushL T d, (T.length : Int)) := by unfold makeL; rw [if_pos hc]
    rw [hm]
    have hci : ¬ (2000 : Int) ≤ T.length := by omega
    have hci2 : (T.length : Int) < 2000 := by omega
    obtain ⟨v1, w1, hr1, ho1, hb1⟩ := copy_attrs _ _ _ hA2 ha
    rw [hs2] at hr1 ho1
    have q0 := K0.below hb1
    have q1 := K1.below hb1
    have q2 := K2.below hb1
    have B1 := b2.trans (hb1.mono b2.size)
    obtain ⟨a1, c1, rfl⟩ := owns_form ho1
    have r1 := (q1.set 3 (by simp) (.slice a1 d.attrs.length c1)).set 5 (by simp) (.slice none 0 0)
    have r0 := (q0.other ⟨w.heap.size + 1, 3, none⟩ (by simp) (.slice a1 d.attrs.length c1)).other ⟨w.heap.size + 1, 5, none⟩ (by simp) (.slice none 0 0)
    have r2 := (q2.other ⟨w.heap.size + 1, 3, none⟩ (by simp) (.slice a1 d.attrs.length c1)).other ⟨w.heap.size + 1, 5, none⟩ (by simp) (.slice none 0 0)
    have BB1 : Below w.heap.size w ((w1.setCell ⟨w.heap.size + 1, 3, none⟩ (.slice a1 d.attrs.length c1)).setCell ⟨w.heap.size + 1, 5, none⟩ (.slice none 0 0)) := (B1.setCell (p := ⟨w.heap.size + 1, 3, none⟩) (by simp) _).setCell (p := ⟨w.heap.size + 1, 5, none⟩) (by simp) _
    have hIA : IsA ((w1.setCell ⟨w.heap.size + 1, 3, none⟩ (.slice a1 d.attrs.length c1)).setCell ⟨w.heap.size + 1, 5, none⟩ (.slice none 0 0)) (.slice a1 d.attrs.length c1) d.attrs := isA_keep (owns_isA ho1) fun k e => by
      have := (ho1.lt k e).1
      rw [Below.heap_setCell _ _ _ _ (by simp only; omega), Below.heap_setCell _ _ _ _ (by simp only; omega)]
    have hoB : ∀ k, (Value.slice a1 d.attrs.length c1).ownBlock = some k → w.heap.size ≤ k := fun k e => by have := (ho1.lt k e).1; omega
    have hoK : ∀ k, (Value.slice a1 d.attrs.length c1).ownBlock = some k → w.heap.size + 1 + 1 + 1 ≤ k := fun k e => (ho1.lt k e).1
    have f3 : w1.cell? ⟨w.heap.size + 1, 3, none⟩ = some (.slice aa d.attrs.length ac) := q1.1 3
    have f3f : w1.frozen? ⟨w.heap.size + 1, 3, none⟩ = false := q1.2 3
    have f5 : w1.cell? ⟨w.heap.size + 1, 5, none⟩ = some (.slice ka kn kc) := q1.1 5
    have f5f : w1.frozen? ⟨w.heap.size + 1, 5, none⟩ = false := q1.2 5
    have HR1 := hide hr1
    clear hr1 ho1 hb1 q0 q1 q2 B1 K0 K1 K2 hA hA2 b2
    obtain ⟨W2, hW2⟩ : ∃ W2, W2 = (w1.setCell ⟨w.heap.size + 1, 3, none⟩ (.slice a1 d.attrs.length c1)).setCell ⟨w.heap.size + 1, 5, none⟩ (.slice none 0 0) := ⟨_, rfl⟩
    rw [← hW2] at r0 r1 r2 BB1 hIA
    obtain ⟨v3, w3, hr3, ho3, hb3⟩ := copy_row W2 b o cap ps (fun p hp => ((hok p hp).below BB1).ok) (fun j u hu => by rw [BB1.cell (cell_lt (hcs j u hu))]; exact hcs j u hu) (by omega)
    have bE := below_alloc W2 (.cells #[] 71)
    have t0 : (W2.alloc (.cells #[] 71)).cell? ⟨w.heap.size, 0, none⟩ = some (.slice (some ⟨b, o, none⟩) T.length cap) := by rw [bE.cell r0.lt]; exact r0.1 0
    have s1 := r1.below hb3
    have s2 := r2.below hb3
    have k0 : w3.cell? ⟨w.heap.size + 1, 0, none⟩ = some (.int .i64 d.kind) := s1.1 0
    have k1 : w3.cell? ⟨w.heap.size + 1, 1, none⟩ = some (.int .i64 d.space) := s1.1 1
    have k2 : w3.cell? ⟨w.heap.size + 1, 2, none⟩ = some (.string ⟨d.name.toArray⟩) := s1.1 2
    have k3 : w3.cell? ⟨w.heap.size + 1, 3, none⟩ = some (.slice a1 d.attrs.length c1) := s1.1 3
    have k4 : w3.cell? ⟨w.heap.size + 1, 4, none⟩ = some (.string ⟨d.text.toArray⟩) := s1.1 4
    have k5 : w3.cell? ⟨w.heap.size + 1, 5, none⟩ = some (.slice none 0 0) := s1.1 5
    obtain ⟨a3, c3, rfl⟩ := owns_form ho3
    -- one item more
    have bF := below_alloc w3 (.cells #[.int .i64 d.kind, .int .i64 d.space, .string ⟨d.name.toArray⟩, .slice a1 d.attrs.length c1, .string ⟨d.text.toArray⟩, .slice none 0 0, .slice none 0 0] 71)
    have ho3a := owns_below ho3 bF
    obtain ⟨v4, w4, hr4, ho4, hg4, _⟩ := run_append_own (P := Try.prog) _ W2.heap.size 25 25 71 Try.t71 _ 7 120 Try.underlying25 (by kernel_rfl) rfl (by kernel_rfl) (by kernel_rfl) (by kernel_rfl) (by omega)
      _ _ _ ho3a ⟨w3.heap.size, 0, none⟩ 1 1 [.int .i64 d.kind, .int .i64 d.space, .string ⟨d.name.toArray⟩, .slice a1 d.attrs.length c1, .string ⟨d.text.toArray⟩, .slice none 0 0, .slice none 0 0] rfl
      (by
        intro j u hu
        rw [addr_add, World.cell?_alloc_mark]
        simpa using hu)
      (by
        intro u hu
        simp only [List.mem_cons, List.not_mem_nil, or_false] at hu
        rcases hu with rfl | rfl | rfl | rfl | rfl | rfl | rfl <;> rfl) (by unfold maxLen; omega) (by omega) (by have := hb3.size; simp; omega)
    have hb4 : Below W2.heap.size w3 w4 := (bF.mono hb3.size).grown hg4 (by have := hb3.size; simp; omega) (fun k e => (ho3.lt k e).1)
    obtain ⟨g4, c4, rfl⟩ : ∃ g4 c4, v4 = .slice (some ⟨g4, 0, none⟩) (ps.length + 1) c4 := by
      rcases ho4.2 with ⟨_, h0⟩ | ⟨g4, c4, cur, hv, _⟩
      · omega
      · exact ⟨g4, c4, hv⟩
    have hb24 : Below W2.heap.size W2 w4 := hb3.trans hb4
    have s2b := r2.below hb24
    have z0 : w4.cell? ⟨w.heap.size + 1 + 1, 0, none⟩ = some (.slice none 0 0) := s2b.1 0
    have z0f : w4.frozen? ⟨w.heap.size + 1 + 1, 0, none⟩ = false := s2b.2 0
    have hW2s : w.heap.size + 1 + 1 < W2.heap.size := r2.lt
    have BB4 : Below w.heap.size w w4 := BB1.trans (hb24.mono BB1.size)
    have BB5 := BB4.setCell (p := ⟨w.heap.size + 1 + 1, 0, none⟩) (by simp only; omega) (.slice (some ⟨g4, 0, none⟩) (ps.length + 1) c4)
    have hg4W : W2.heap.size ≤ g4 := (ho4.lt g4 rfl).1
    have hkeep : ∀ k, k ≠ w.heap.size + 1 + 1 → (w4.setCell ⟨w.heap.size + 1 + 1, 0, none⟩ (.slice (some ⟨g4, 0, none⟩) (ps.length + 1) c4)).heap[k]? = w4.heap[k]? := fun k hk => Below.heap_setCell _ _ _ _ hk
    have hncap : ps.length + 1 ≤ c4 := by
      rcases ho4.2 with ⟨h, _⟩ | ⟨g', c', cur, hv, _, _, hnc, _⟩
      · cases h
      · injection hv with _ _ e3
        omega
    have HTREE : Hid (IsTB (andNew B w.heap.size) (w4.setCell ⟨w.heap.size + 1 + 1, 0, none⟩ (.slice (some ⟨g4, 0, none⟩) (ps.length + 1) c4)) (.slice (some ⟨g4, 0, none⟩) (ps.length + 1) c4) (pushL T d)) := hide (by
      have hpl : (pushL T d).length = ps.length + 1 := by unfold pushL; simp [hlen]
      refine ⟨g4, 0, c4, ps ++ [((d, []), .slice a1 d.attrs.length c1, .slice none 0 0)], by rw [hpl], by rw [hpl]; exact hncap, ?_, .inr (by omega), ?_, ?_⟩
      · rw [List.map_append, hps]
        rfl
      · intro p hp
        rcases List.mem_append.1 hp with hp | hp
        · exact ((hok p hp).below BB5).mono fun k h => .inl h
        · obtain rfl : p = ((d, []), .slice a1 d.attrs.length c1, .slice none 0 0) := by simpa using hp
          refine ⟨⟨?_, .inr fun k e => .inr (hoB k e)⟩, ⟨isI_nil _, .inl rfl⟩⟩
          have h4 : IsA w4 (.slice a1 d.attrs.length c1) d.attrs := hIA.below hb24
          refine isA_keep h4 fun k e => hkeep k ?_
          have := hoK k e
          omega
      · intro j u hu
        rw [Nat.zero_add]
        rw [rowCells_app] at hu
        have := ho4.cells (g := g4) rfl j u hu
        rw [addr_add] at this
        exact cell_same (hkeep g4 (by omega)) this)
    have HBF := hide BB5
    have hsz2 : W2.heap.size = w1.heap.size := by rw [hW2]; simp [World.setCell]
    rw [hsz2] at hr3
    have HR3 := hide hr3
    have HR4 := hide hr4
    rw [hlen] at HR3 HR4 HTREE
    rw [hlen] at HBF
    subst hW2
    clear hr3 hr4 ho3 ho3a ho4 hg4 hb3 hb4 hb24 s1 s2 s2b BB1 BB4 BB5 bE bF hkeep hoB hoK hIA r0 r1 r2 hok hcs hps HT0 hBb hm
    go_enter Try.func33, Try.ntmps33
    go_wp2_with (first | with_reducible refine wpList_append_run rfl _ _ 31 rfl (.slice (some ⟨w.heap.size + 1 + 1 + 1, 0, none⟩) 0 0) (.slice aa d.attrs.length ac) _ w1 rfl rfl HR1.out ?_ | with_reducible refine wpList_append_run rfl _ _ 25 rfl (.slice (some ⟨w1.heap.size, 0, none⟩) 0 0) (.slice (some ⟨b, o, none⟩) T.length cap) _ w3 rfl rfl HR3.out ?_ | with_reducible refine wpList_append_run rfl _ _ 25 rfl (.slice a3 T.length c3) (.slice (some ⟨w3.heap.size, 0, none⟩) 1 1) _ w4 rfl rfl HR4.out ?_ | fail)
    refine bodyPost_ret (v := .tuple #[.agg #[.slice (some ⟨g4, 0, none⟩) (T.length + 1) c4], .int .i64 (T.length : Int)]) ?_ rfl ⟨⟨_, HTREE.out, ⟨_, _, _, rfl⟩, rfl⟩, HBF.out⟩
    rw [results_cell_tmp rfl]
    go_simp
  · have hm : makeL T d = (T, -1) := by unfold makeL; rw [if_neg hc]
    rw [hm]
    have hci : (2000 : Int) ≤ T.length := by omega
    have BB5 := HB1.out.alloc HB1.out.size (.cells #[.slice (some ⟨b, o, none⟩) T.length cap] 27)
    have HTREE := hide ((HT0.out.below BB5).mono (C := andNew B w.heap.size) fun k h => .inl h)
    have HBF := hide BB5
    clear BB5 b2 K0 K1 K2 hok hcs hps HT0 hBb hA hA2 hm
    go_enter Try.func33, Try.ntmps33
    go_wp2
    refine bodyPost_ret (v := .tuple #[.agg #[.slice (some ⟨b, o, none⟩) T.length cap], .int .i64 (-1)]) ?_ rfl ⟨⟨_, HTREE.out, ⟨_, _, _, rfl⟩, rfl⟩, HBF.out⟩
    rw [results_cell_tmp rfl]
    go_simp
end Go.Proofs.Ytjgklemhlmgheaa
