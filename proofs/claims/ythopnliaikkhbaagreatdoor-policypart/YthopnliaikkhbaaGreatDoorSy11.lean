/- What read does with a text: its lines, one behind the other; a line that says something else is told by panic and caught. -/
import Derived.Test.YthopnliaikkhbaaGreatDoorSx11
import Derived.Test.YthopnliaikkhbaaGreatDoorPe11
import Derived.Defers
import Derived.Recover
set_option linter.unusedVariables false
set_option linter.unusedSimpArgs false
set_option maxRecDepth 4000
namespace Go.Proofs.YthopnliaikkhbaaGreatDoor
open Go.RowKit

def zeroPV : PV := ⟨[], [], [], [], 0, .slice none 0 0, .slice none 0 0, .slice none 0 0, .slice none 0 0⟩
abbrev set5 (w : World) (b : Nat) (v0 v1 v2 v3 v4 : Value) : World := ((((w.setCell ⟨b, 0, none⟩ v0).setCell ⟨b, 1, none⟩ v1).setCell ⟨b, 2, none⟩ v2).setCell ⟨b, 3, none⟩ v3).setCell ⟨b, 4, none⟩ v4
set_option maxHeartbeats 1000000 in
theorem catch_panicking (nb pb bb : Nat) (n : Int) (c0 c1 c2 c3 c4 c5 : Value) (u : TypeId) (pv : Value) (older : List PanicEntry) (w : World) (hn : w.cell? ⟨nb, 0, none⟩ = some (.int .i64 n)) (h0 : w.cell? ⟨pb, 0, none⟩ = some c0) (h1 : w.cell? ⟨pb, 1, none⟩ = some c1) (h2 : w.cell? ⟨pb, 2, none⟩ = some c2) (h3 : w.cell? ⟨pb, 3, none⟩ = some c3) (h4 : w.cell? ⟨pb, 4, none⟩ = some c4) (hb : w.cell? ⟨bb, 0, none⟩ = some c5) (hz : ∀ j, w.frozen? ⟨pb, j, none⟩ = false) (hzb : w.frozen? ⟨bb, 0, none⟩ = false) (hpb : pb ≠ bb) :
    CallsD Tryz.prog 28 #[.pointer (some ⟨nb, 0, none⟩), .pointer (some ⟨pb, 0, none⟩), .pointer (some ⟨bb, 0, none⟩)] (.panicking ({ v := .iface u pv, recovered := false } :: older)) w fun e u' w' =>
      e = .returned (.tuple #[]) ∧ u' = .panicking ({ v := .iface u pv, recovered := true } :: older) ∧ w' = (set5 w pb (.slice none 0 0) (.slice none 0 0) (.slice none 0 0) (.slice none 0 0) (.int .i64 0)).setCell ⟨bb, 0, none⟩ (.int .i64 n) := by
  have f0 := hz 0
  have f1 := hz 1
  have f2 := hz 2
  have f3 := hz 3
  have f4 := hz 4
  refine callsD_of_wpS Tryz.func28 rfl fun c₀ cs hu => ?_
  apply wpS_seq
  apply wpS_region
  simp [wpOpsS, go_sem, recoverD, hu, Tryz.ntmps28, Exit.thenS]
  refine wpS_cond (t := true) (by simp [Act.eval, Array.replicate]) ?_
  simp only [if_true]
  apply wpS_region
  simp [wpOpsS, go_sem, hn, h0, h1, h2, h3, h4, hb, hzb, f0, f1, f2, f3, f4, hpb, hpb.symm, bodyPostS, results, Tryz.results28, World.cell?_setCell_other, World.frozen?_setCell]
set_option maxHeartbeats 1000000 in
theorem catch_idle (nb pb bb : Nat) (w : World) :
    CallsD Tryz.prog 28 #[.pointer (some ⟨nb, 0, none⟩), .pointer (some ⟨pb, 0, none⟩), .pointer (some ⟨bb, 0, none⟩)] .returning w fun e u' w' => e = .returned (.tuple #[]) ∧ u' = .returning ∧ w' = w := by
  refine callsD_of_wpS Tryz.func28 rfl fun c₀ cs hu => ?_
  apply wpS_seq
  apply wpS_region
  simp [wpOpsS, go_sem, recoverD, hu, Tryz.ntmps28, Exit.thenS]
  refine wpS_cond (t := false) (by simp [Act.eval, Array.replicate]) ?_
  simp only [Bool.false_eq_true, if_false]
  refine wpS_of_wp (wp_skip ?_)
  cases c₀
  simp_all [bodyPostS, results, Tryz.results28]
theorem setCell_id {w : World} {g i : Nat} {cs : Array Value} {t : TypeId} {fr : Nat × Nat} {v : Value} (h : w.heap[g]? = some (.cells cs t fr)) (hi : cs[i]? = some v) : w.setCell ⟨g, i, none⟩ v = w := by
  have hh : (w.setCell ⟨g, i, none⟩ v).heap = w.heap := by
    apply Array.ext_getElem?
    intro k
    by_cases hk : k = g
    · subst hk
      rw [Go.Joins.block_setCell h, h]
      congr 2
      apply Array.ext_getElem?
      intro j
      rw [Array.getElem?_setIfInBounds]
      split
      · rename_i e
        subst e
        split
        · exact hi.symm
        · rename_i hlt
          rw [Array.getElem?_eq_none (by omega)] at hi
          cases hi
      · rfl
    · exact Below.heap_setCell _ _ _ _ hk
  obtain ⟨heap, a, b, c, d⟩ := w
  simp only [World.setCell] at hh ⊢
  rw [hh]
/-- While the lines are taken. -/
structure ReadS (w : World) (L : List Bs) (M : Nat) (wr : World) (k : Nat) (q : PV) : Prop where
  o : OwnP (w.heap.size + 4) w.heap.size wr q
  bad : wr.heap[w.heap.size + 1]? = some (.cells #[.int .i64 0] 3 (0, 0))
  num : wr.heap[w.heap.size + 1 + 1]? = some (.cells #[.int .i64 (k : Int)] 3 (0, 0))
  row : RowT wr (w.heap.size + 1 + 1 + 1) 0 L
  bel : Below w.heap.size w wr
  sz : w.heap.size + 4 ≤ wr.heap.size
  room : 2 * sizeP q.po + roomL (L.drop k) ≤ M
  short : ShortP 2000 q.po
abbrev readW (w : World) (L : List Bs) : World := ((((w.alloc (.cells (poC zeroPV) 26)).alloc (.cells #[.int .i64 0] 3)).alloc (.cells #[.int .i64 0] 3)).alloc (.cells (textsV L).toArray 9))
theorem heap_at (w : World) (o : Obj) (k : Nat) : (w.alloc o).heap[k]? = if k = w.heap.size then some o else w.heap[k]? := by
  split
  · rename_i h
    subst h
    exact heap_alloc_new w o
  · rename_i h
    by_cases h2 : k < w.heap.size
    · exact heap_alloc_old w o h2
    · rw [Array.getElem?_eq_none (by simp; omega), Array.getElem?_eq_none (by omega)]
theorem read_start (w : World) (L : List Bs) (M : Nat) (hM : roomL L ≤ M) : ReadS w L M (readW w L) 0 zeroPV := by
  have s1 : ∀ o : Obj, ∀ x : World, (x.alloc o).heap.size = x.heap.size + 1 := fun o x => by simp
  have h0 : (readW w L).heap[w.heap.size]? = some (.cells (poC zeroPV) 26 (0, 0)) := by
    unfold readW
    rw [heap_at, if_neg (by simp only [s1]; omega), heap_at, if_neg (by simp only [s1]; omega), heap_at, if_neg (by simp only [s1]; omega), heap_at, if_pos rfl]
  refine ⟨⟨h0, ⟨rfl, .inl ⟨rfl, rfl⟩⟩, ⟨rfl, .inl ⟨rfl, rfl⟩⟩, ⟨rfl, .inl ⟨rfl, rfl⟩⟩, ⟨rfl, .inl ⟨rfl, rfl⟩⟩, (fun x hx => by cases hx), ⟨fun i => ?_, fun i j k _ hi => ?_⟩⟩, ?_, ?_, ?_, ?_, ?_, ?_, short_none 2000⟩
  · have : slotV zeroPV i = .slice none 0 0 := by
      match i with
      | 0 => rfl
      | 1 => rfl
      | 2 => rfl
      | 3 => rfl
      | i + 4 => rfl
    rw [this]
    intro e
    cases e
  · have : slotV zeroPV i = .slice none 0 0 := by
      match i with
      | 0 => rfl
      | 1 => rfl
      | 2 => rfl
      | 3 => rfl
      | i + 4 => rfl
    rw [this] at hi
    cases hi
  · unfold readW
    rw [heap_at, if_neg (by simp only [s1]; omega), heap_at, if_neg (by simp only [s1]; omega), heap_at, if_pos (by simp only [s1])]
  · unfold readW
    rw [heap_at, if_neg (by simp only [s1]; omega), heap_at, if_pos (by simp only [s1])]
    rfl
  · intro j x hj
    have hlt := (List.getElem?_eq_some_iff.1 hj).1
    have hb : (readW w L).heap[w.heap.size + 1 + 1 + 1]? = some (.cells (textsV L).toArray 9 (0, 0)) := by
      unfold readW
      rw [heap_at, if_pos (by simp only [s1])]
    simp only [World.cell?, hb, Nat.zero_add]
    have := textsV_get L j hlt
    rw [← (List.getElem?_eq_some_iff.1 hj).2]
    simpa using this
  · unfold readW
    have b1 := below_alloc w (.cells (poC zeroPV) 26)
    have b2 := b1.trans ((below_alloc (w.alloc (.cells (poC zeroPV) 26)) (.cells #[.int .i64 0] 3)).mono b1.size)
    have b3 := b2.trans ((below_alloc _ (.cells #[.int .i64 0] 3)).mono b2.size)
    exact b3.trans ((below_alloc _ (.cells (textsV L).toArray 9)).mono b3.size)
  · unfold readW
    simp only [s1]
    omega
  · rw [List.drop_zero]
    show 2 * 0 + _ ≤ _
    omega
/-- The number of the line goes up. -/
theorem ReadS.count {w : World} {L : List Bs} {M : Nat} {wr : World} {k : Nat} {q : PV} (h : ReadS w L M wr k q) (n : Int) (hn : n = ((k + 1 : Nat) : Int)) : OwnP (w.heap.size + 4) w.heap.size (wr.setCell ⟨w.heap.size + 1 + 1, 0, none⟩ (.int .i64 n)) q ∧ (wr.setCell ⟨w.heap.size + 1 + 1, 0, none⟩ (.int .i64 n)).heap[w.heap.size + 1]? = some (.cells #[.int .i64 0] 3 (0, 0)) ∧ (wr.setCell ⟨w.heap.size + 1 + 1, 0, none⟩ (.int .i64 n)).heap[w.heap.size + 1 + 1]? = some (.cells #[.int .i64 ((k + 1 : Nat) : Int)] 3 (0, 0)) ∧ RowT (wr.setCell ⟨w.heap.size + 1 + 1, 0, none⟩ (.int .i64 n)) (w.heap.size + 1 + 1 + 1) 0 L ∧ Below w.heap.size w (wr.setCell ⟨w.heap.size + 1 + 1, 0, none⟩ (.int .i64 n)) ∧ w.heap.size + 4 ≤ (wr.setCell ⟨w.heap.size + 1 + 1, 0, none⟩ (.int .i64 n)).heap.size := by
  subst hn
  have hk : ∀ j, j ≠ w.heap.size + 1 + 1 → (wr.setCell ⟨w.heap.size + 1 + 1, 0, none⟩ (.int .i64 ((k + 1 : Nat) : Int))).heap[j]? = wr.heap[j]? := fun j hj => Below.heap_setCell _ _ _ _ hj
  have nb : ∀ i j, (slotV q i).ownBlock = some j → j ≠ w.heap.size + 1 + 1 := fun i j hj => by
    have := (h.o.lt i j hj).1
    omega
  refine ⟨⟨by rw [hk _ (by omega)]; exact h.o.box, owns_keep h.o.l fun j e => hk j (nb 1 j e), owns_keep h.o.s fun j e => hk j (nb 2 j e), owns_keep h.o.d fun j e => hk j (nb 3 j e), owns_keep h.o.r fun j e => hk j (nb 0 j e), fun x hx => ?_, h.o.ap⟩, by rw [hk _ (by omega)]; exact h.bad, ?_, fun j x hj => ?_, h.bel.setCell (p := ⟨w.heap.size + 1 + 1, 0, none⟩) (by show w.heap.size ≤ w.heap.size + 1 + 1; omega) _, by simpa [World.setCell] using h.sz⟩
  · obtain ⟨i, hi⟩ := slot_attr q x hx
    exact owns_keep (h.o.a x hx) fun j e => hk j (nb (i + 4) j (by rw [hi]; exact e))
  · rw [Go.Joins.block_setCell h.num]
    rfl
  · exact (World.cell?_of_block (a := ⟨w.heap.size + 1 + 1 + 1, 0 + j, none⟩) (hk _ (by show w.heap.size + 1 + 1 + 1 ≠ _; omega))).trans (h.row j x hj)
/-- Behind a line that says something of its own. -/
theorem ReadS.next {w : World} {L : List Bs} {M : Nat} {wr wx w' : World} {k : Nat} {q q' : PV} {l : Bs} (h : ReadS w L M wr k q) (hl : L[k]? = some l) (hM : M ≤ 2001) (hb : wx.heap[w.heap.size + 1]? = some (.cells #[.int .i64 0] 3 (0, 0))) (hn : wx.heap[w.heap.size + 1 + 1]? = some (.cells #[.int .i64 ((k + 1 : Nat) : Int)] 3 (0, 0))) (hr : RowT wx (w.heap.size + 1 + 1 + 1) 0 L) (hbl : Below w.heap.size w wx) (hsz : w.heap.size + 4 ≤ wx.heap.size) (hq : lineL q.po l = some q'.po) (ho : OwnP (w.heap.size + 4) w.heap.size w' q') (hk : Keep (w.heap.size + 4) w.heap.size wx w') : ReadS w L M w' (k + 1) q' := by
  obtain ⟨hlt, rfl⟩ := List.getElem?_eq_some_iff.1 hl
  have hd : L.drop k = L[k] :: L.drop (k + 1) := List.drop_eq_getElem_cons hlt
  have hroom := h.room
  rw [hd] at hroom
  simp only [roomL] at hroom
  obtain ⟨z1, z2⟩ := line_size (N := 2000) hq (by omega)
  refine ⟨ho, by rw [hk.block _ (by omega) (by omega)]; exact hb, by rw [hk.block _ (by omega) (by omega)]; exact hn, fun j x hj => ?_, ⟨hk.os.trans hbl.os, hk.tape.trans hbl.tape, hk.output.trans hbl.output, Nat.le_trans hbl.size hk.size, fun j hj => (hk.block j (by omega) (by omega)).trans (hbl.block j hj)⟩, Nat.le_trans hsz hk.size, by omega, z2 h.short⟩
  exact (World.cell?_of_block (a := ⟨w.heap.size + 1 + 1 + 1, 0 + j, none⟩) (hk.block (w.heap.size + 1 + 1 + 1) (by omega) (by omega))).trans (hr j x hj)
/-- What is read of a text. -/
def ReadP (w : World) (R : PO ⊕ Nat) (e : Ending) (w' : World) : Prop := (match R with
  | .inl p => ∃ q, q.po = p ∧ e = .returned (.tuple #[poA q, .int .i64 0]) ∧ IsPo w' q ∧ CapP q
  | .inr n => e = .returned (.tuple #[poA zeroPV, .int .i64 (n : Int)])) ∧ Below w.heap.size w w'
theorem cap_of {w : World} {B pb : Nat} {q : PV} (h : OwnP B pb w q) (hz : sizeP q.po ≤ 1000) (hs : ShortP 2000 q.po) : CapP q := by
  obtain ⟨-, p1, p2, p3, p4⟩ := h.isPo
  unfold sizeP PV.po at hz
  simp only [] at hz
  have h1 := attrs_len (q.rs.map RV.ru)
  rw [List.length_map] at h1
  refine ⟨⟨by omega, by omega, by omega, by omega, fun r hr => ?_, fun x hx => ?_, fun x hx => ?_, fun x hx => ?_⟩, p1, p2, p3, p4⟩
  · have h2 := attrs_each (q.rs.map RV.ru) r.ru (List.mem_map_of_mem hr)
    have h3 := hs.r r.ru (List.mem_map_of_mem hr)
    have h4 : r.nm.data.toList.length ≤ 2000 := h3.1
    rw [← size_list] at h4
    refine ⟨?_, by omega, fun x hx => ?_⟩
    · have : r.at_.length ≤ attrsN (q.rs.map RV.ru) := h2
      omega
    · have : x.length ≤ 2000 := h3.2 x hx
      omega
  · have : x.length ≤ 2000 := hs.l x hx
    omega
  · have : x.length ≤ 2000 := hs.s x hx
    omega
  · have : x.length ≤ 2000 := hs.d x hx
    omega
set_option maxHeartbeats 4000000 in
theorem read_any (s : ByteArray) (hs : s.size ≤ 2000) (w : World) :
    Calls Tryz.prog 17 #[.string s] w fun e w' => ReadP w (readK 0 {} (linesL s.data.toList)) e w' := by
  have hmf : ∀ (fn : Fn) (first cap : Array Value) (w : World), (Instr.makeFunc fn first cap).run Tryz.prog w = .ok (.func fn first cap) w := fun _ _ _ _ => rfl
  have HSP := hide (split_any s (by omega))
  have hrm : roomL (linesL s.data.toList) ≤ 2001 := by rw [lines_all, ← size_list]; omega
  have HST := hide (read_start w (linesL s.data.toList) 2001 hrm)
  have hLl := room_many (linesL s.data.toList)
  have HRM := hide hrm
  have HEA := hide (fun l (hl : l ∈ linesL s.data.toList) => room_each _ l hl)
  generalize hR : readK 0 {} (linesL s.data.toList) = R
  have HR0 := hide hR
  generalize (linesL s.data.toList) = L at *
  have hLl2 : L.length ≤ 2001 := by omega
  clear hR hrm hLl
  go_enter_defers Tryz.func17, Tryz.ntmps17
  go_wp2_with fail
  refine (HSP.out _).mono ?_
  rintro e w1 ⟨rfl, rfl⟩
  go_wp2
  go_loopw [11] (fun i wr => ∃ (k : Nat) (q : PV), k ≤ L.length ∧ i = .int .i64 k ∧ Hid (ReadS w L 2001 wr k q) ∧ Hid (readK k q.po (L.drop k) = R)) (fun i _ => L.length - (intOf i).toNat)
  case atStart => exact ⟨0, zeroPV, Nat.zero_le _, rfl, HST, hide (by rw [List.drop_zero]; exact HR0.out)⟩
  case round =>
    obtain ⟨k, q, hk, rfl, HS, HR⟩ := hrel
    by_cases hlt : k < L.length
    · have hlt2 : (k : Int) < L.length := by omega
      obtain ⟨l, hl⟩ : ∃ l, L[k]? = some l := ⟨_, List.getElem?_eq_getElem hlt⟩
      have hcl := HS.out.row k l hl
      rw [Nat.zero_add] at hcl
      have hcn : wr.cell? ⟨w.heap.size + 1 + 1, 0, none⟩ = some (.int .i64 (k : Int)) := by simp [World.cell?, HS.out.num]
      have hfn : wr.frozen? ⟨w.heap.size + 1 + 1, 0, none⟩ = false := by simp [World.frozen?, HS.out.num]
      obtain ⟨g1, g2, g3, g4, g5, g6⟩ := HS.out.count ((k : Int) + 1) (by omega)
      have hstep : readK k q.po (L.drop k) = match lineL q.po l with
          | none => .inr (k + 1)
          | some p' => readK (k + 1) p' (L.drop (k + 1)) := by
        rw [List.drop_eq_getElem_cons hlt, readK, show L[k] = l from (List.getElem?_eq_some_iff.1 hl).2]
        cases lineL q.po l <;> rfl
      rw [HR.out] at hstep
      have hls : l.length ≤ 2000 := by
        have := HEA.out l (List.mem_of_getElem? hl)
        have := HRM.out
        omega
      have hsz1 := HS.out.room
      have HT := hide (take_any (w.heap.size + 4) w.heap.size ⟨l.toArray⟩ (by rw [size_list, str_data]; omega) q (wr.setCell ⟨w.heap.size + 1 + 1, 0, none⟩ (.int .i64 ((k : Int) + 1))) g1 g6 (by omega))
      rw [str_data] at HT
      cases hL : lineL q.po l with
      | none =>
        rw [hL] at HT hstep
        simp only [] at hstep
        have HT' : Hid (Calls Tryz.prog 30 #[.pointer (some ⟨w.heap.size, 0, none⟩), .string ⟨l.toArray⟩] (wr.setCell ⟨w.heap.size + 1 + 1, 0, none⟩ (.int .i64 ((k : Int) + 1))) fun e w' => e = .panicked textPanic ∧ Hid (w'.heap[w.heap.size]? = (wr.setCell ⟨w.heap.size + 1 + 1, 0, none⟩ (.int .i64 ((k : Int) + 1))).heap[w.heap.size]?) ∧ Hid (Keep (w.heap.size + 4) w.heap.size (wr.setCell ⟨w.heap.size + 1 + 1, 0, none⟩ (.int .i64 ((k : Int) + 1))) w')) := hide (HT.out.mono fun e w' h => ⟨h.1.1, hide h.1.2, hide h.2⟩)
        have HPO : Hid (∀ w2, w2.heap[w.heap.size]? = (wr.setCell ⟨w.heap.size + 1 + 1, 0, none⟩ (.int .i64 ((k : Int) + 1))).heap[w.heap.size]? → Keep (w.heap.size + 4) w.heap.size (wr.setCell ⟨w.heap.size + 1 + 1, 0, none⟩ (.int .i64 ((k : Int) + 1))) w2 → w2.heap[w.heap.size]? = some (.cells (poC q) 26 (0, 0)) ∧ w2.heap[w.heap.size + 1]? = some (.cells #[.int .i64 0] 3 (0, 0)) ∧ w2.heap[w.heap.size + 1 + 1]? = some (.cells #[.int .i64 ((k + 1 : Nat) : Int)] 3 (0, 0)) ∧ ReadP w R (.returned (.tuple #[poA zeroPV, .int .i64 ((k + 1 : Nat) : Int)])) ((set5 w2 w.heap.size (.slice none 0 0) (.slice none 0 0) (.slice none 0 0) (.slice none 0 0) (.int .i64 0)).setCell ⟨w.heap.size + 1, 0, none⟩ (.int .i64 ((k + 1 : Nat) : Int)))) := hide (fun w2 h1 h2 => by
          refine ⟨h1.trans g1.box, (h2.block _ (by omega) (by omega)).trans g2, (h2.block _ (by omega) (by omega)).trans g3, ?_⟩
          rw [hstep]
          refine ⟨rfl, ?_⟩
          have b2 : Below w.heap.size w w2 := ⟨h2.os.trans g5.os, h2.tape.trans g5.tape, h2.output.trans g5.output, Nat.le_trans g5.size h2.size, fun j hj => (h2.block j (by omega) (by omega)).trans (g5.block j hj)⟩
          unfold set5
          exact (((((b2.setCell (p := ⟨w.heap.size, 0, none⟩) (Nat.le_refl _) _).setCell (p := ⟨w.heap.size, 1, none⟩) (Nat.le_refl _) _).setCell (p := ⟨w.heap.size, 2, none⟩) (Nat.le_refl _) _).setCell (p := ⟨w.heap.size, 3, none⟩) (Nat.le_refl _) _).setCell (p := ⟨w.heap.size, 4, none⟩) (Nat.le_refl _) _).setCell (p := ⟨w.heap.size + 1, 0, none⟩) (by show w.heap.size ≤ w.heap.size + 1; omega) _)
        clear HT hstep hL HR g1 g2 g3 g4 g5 g6 hsz1 hls hl HS
        generalize (⟨l.toArray⟩ : ByteArray) = X at *
        go_wp2_with fail
        refine HT'.out.mono ?_
        rintro e w2 ⟨rfl, q1, q2⟩
        obtain ⟨p1, p2, p3, p4⟩ := HPO.out w2 q1.out q2.out
        have P4 := hide p4
        clear HPO q1 q2 p4
        have j0 : w2.cell? ⟨w.heap.size, 0, none⟩ = some q.rv := by simp [World.cell?, p1]
        have j1 : w2.cell? ⟨w.heap.size, 1, none⟩ = some q.lv := by simp [World.cell?, p1]
        have j2 : w2.cell? ⟨w.heap.size, 2, none⟩ = some q.sv := by simp [World.cell?, p1]
        have j3 : w2.cell? ⟨w.heap.size, 3, none⟩ = some q.dv := by simp [World.cell?, p1]
        have j4 : w2.cell? ⟨w.heap.size, 4, none⟩ = some (.int .i64 q.de) := by simp [World.cell?, p1]
        have jf : ∀ j, w2.frozen? ⟨w.heap.size, j, none⟩ = false := fun j => by simp [World.frozen?, p1]
        have jb : w2.cell? ⟨w.heap.size + 1, 0, none⟩ = some (.int .i64 0) := by simp [World.cell?, p2]
        have jbf : w2.frozen? ⟨w.heap.size + 1, 0, none⟩ = false := by simp [World.frozen?, p2]
        have jn : w2.cell? ⟨w.heap.size + 1 + 1, 0, none⟩ = some (.int .i64 ((k + 1 : Nat) : Int)) := by simp [World.cell?, p3]
        go_wp2
        refine leaves_cons (f := 28) (args := #[.pointer (some ⟨w.heap.size + 1 + 1, 0, none⟩), .pointer (some ⟨w.heap.size, 0, none⟩), .pointer (some ⟨w.heap.size + 1, 0, none⟩)]) (by simp) (by simp [go_sem]) ?_
        refine (catch_panicking (w.heap.size + 1 + 1) w.heap.size (w.heap.size + 1) ((k + 1 : Nat) : Int) _ _ _ _ _ _ 27 (.int .i64 7) [] w2 jn j0 j1 j2 j3 j4 jb jf jbf (by omega)).mono ?_
        rintro e u' w'' ⟨rfl, rfl, rfl⟩
        refine ⟨_, ?_, P4.out⟩
        simp [results, Tryz.results17, go_sem, j0, j1, j2, j3, j4, jb, jn]
        exact ⟨rfl, rfl, rfl, rfl, rfl⟩
      | some p' =>
        rw [hL] at HT hstep
        simp only [] at hstep
        have HR2 := hide hstep.symm
        have HT' : Hid (Calls Tryz.prog 30 #[.pointer (some ⟨w.heap.size, 0, none⟩), .string ⟨l.toArray⟩] (wr.setCell ⟨w.heap.size + 1 + 1, 0, none⟩ (.int .i64 ((k : Int) + 1))) fun e w' => e = .returned (.tuple #[]) ∧ ∃ q', Hid (ReadS w L 2001 w' (k + 1) q') ∧ Hid (q'.po = p')) := hide (HT.out.mono fun e w' h => by
          obtain ⟨⟨h1, q', h2, h3⟩, h4⟩ := h
          exact ⟨h1, q', hide (HS.out.next hl (Nat.le_refl _) g2 g3 g4 g5 g6 (by rw [hL, h2]) h3 h4), hide h2⟩)
        clear HT hstep hL HR g1 g2 g3 g4 g5 g6 hsz1 hls hl HS
        generalize (⟨l.toArray⟩ : ByteArray) = X at *
        go_wp2_with fail
        refine HT'.out.mono ?_
        rintro e w2 ⟨rfl, q', h1, h2⟩
        go_wp2
        go_roundw
        case rel => exact ⟨k + 1, q', by omega, by go_num, h1, hide (by rw [h2.out]; exact HR2.out)⟩
        case measure => simp [intOf]; omega
    · have hlt2 : ¬ (k : Int) < L.length := by omega
      obtain rfl : k = L.length := by omega
      have hq := HR.out
      rw [List.drop_eq_nil_of_le (Nat.le_refl _), readK] at hq
      have HR2 := hide hq
      obtain ⟨k0, k1, k2, k3, k4⟩ := HS.out.o.cells
      have kf := HS.out.o.free
      have hbc : wr.cell? ⟨w.heap.size + 1, 0, none⟩ = some (.int .i64 0) := by simp [World.cell?, HS.out.bad]
      have hbf : wr.frozen? ⟨w.heap.size + 1, 0, none⟩ = false := by simp [World.frozen?, HS.out.bad]
      have f0 := kf 0
      have f1 := kf 1
      have f2 := kf 2
      have f3 := kf 3
      have f4 := kf 4
      have hsz1 := HS.out.room
      have HFIN : Hid (ReadP w R (.returned (.tuple #[poA q, .int .i64 0])) wr) := hide (by
        rw [← HR2.out]
        exact ⟨⟨q, rfl, rfl, HS.out.o.isPo.1, cap_of HS.out.o (by omega) HS.out.short⟩, HS.out.bel⟩)
      obtain ⟨a0, d0, e0⟩ := owns_formG HS.out.o.r
      obtain ⟨a1, d1, e1⟩ := owns_formG HS.out.o.l
      obtain ⟨a2, d2, e2⟩ := owns_formG HS.out.o.s
      obtain ⟨a3, d3, e3⟩ := owns_formG HS.out.o.d
      have HID : Hid ((set5 wr w.heap.size q.rv q.lv q.sv q.dv (.int .i64 q.de)).setCell ⟨w.heap.size + 1, 0, none⟩ (.int .i64 0) = wr) := hide (by
        unfold set5
        rw [setCell_id HS.out.o.box rfl, setCell_id HS.out.o.box rfl, setCell_id HS.out.o.box rfl, setCell_id HS.out.o.box rfl, setCell_id HS.out.o.box rfl, setCell_id HS.out.bad rfl])
      clear hq HR hlt HS kf hsz1 HR2
      obtain ⟨rs, li, sc, dr, de, rv, lv, sv, dv⟩ := q
      simp only [] at e0 e1 e2 e3 k0 k1 k2 k3 k4 HFIN HID
      subst e0 e1 e2 e3
      generalize rs.length = n0 at *
      generalize li.length = n1 at *
      generalize sc.length = n2 at *
      generalize dr.length = n3 at *
      go_wp2
      refine leaves_cons (f := 28) (args := #[.pointer (some ⟨w.heap.size + 1 + 1, 0, none⟩), .pointer (some ⟨w.heap.size, 0, none⟩), .pointer (some ⟨w.heap.size + 1, 0, none⟩)]) (by simp) (by simp [go_sem]) ?_
      refine (catch_idle _ _ _ _).mono ?_
      rintro e u' w'' ⟨rfl, rfl, rfl⟩
      have hid := HID.out
      unfold set5 at hid
      rw [hid]
      refine ⟨_, ?_, HFIN.out⟩
      simp [results, Tryz.results17, go_sem, k0, k1, k2, k3, k4, hbc]
end Go.Proofs.YthopnliaikkhbaaGreatDoor
