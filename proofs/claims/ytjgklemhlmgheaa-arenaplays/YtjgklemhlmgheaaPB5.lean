/- The program's arena: a kid is taken out, put in; lists copied. -/
import Derived.Test.YtjgklemhlmgheaaPA5
import Derived.Test.YtjgklemhlmgheaaIns5
import Derived.Test.YtjgklemhlmgheaaWalkG5
import Derived.Deep.RegionWith
set_option linter.unusedVariables false
set_option linter.unusedSimpArgs false
namespace Go.Proofs.Ytjgklemhlmgheaa
open Go.RowKit

theorem map_upd {rs : List RV} {R : List RN} (h : rs.map (·.rn) = R) (i : Nat) (hi : i < rs.length) (r' : RV) (f : RN → RN) (hf : r'.rn = f rs[i].rn) : (rs.set i r').map (·.rn) = modR R i f := by
  subst h
  unfold modR
  rw [List.map_set, hf]
  congr 2
  rw [List.getD_eq_getElem?_getD, List.getElem?_map, List.getElem?_eq_getElem hi]
  rfl
theorem PV.kidsTo {A : Nat → Prop} {w w1 : World} {pb g cap : Nat} {rs : List RV} {R : List RN} (hR : rs.map (·.rn) = R) (h : PV A w pb g cap rs) (i : Nat) (hi : i < rs.length) (hb : ButA (fun k => rs[i].kv.ownBlock = some k) w w1) (kv' : Value) (ks' : List Nat)
    (hown : w1.ownsRow 0 3 1 kv' ks'.length (intCells ks')) (hfr : ∀ k, kv'.ownBlock = some k → rs[i].kv.ownBlock = some k ∨ w.heap.size ≤ k) : PG (andNew A w.heap.size) (w1.setCell ⟨g, i * 7 + 2, none⟩ kv') pb g (setKids R i ks') := by
  have hk : ∀ s k, s ≠ .kid i → slotB pb g rs s = some k → w1.heap[k]? = w.heap[k]? := fun s k hs e => hb.block k (h.lt s k e) fun e2 => hs (h.sep s (.kid i) k e (by rw [slot_kid pb g rs i hi]; exact e2))
  refine ⟨cap, _, map_upd hR i hi ⟨rs[i].rn.wKids ks', kv', rs[i].av, rs[i].tv⟩ _ rfl, h.upd i hi (.kid i) (.inl rfl) hb.size hk _ 2 (by omega) kv' rfl hown rfl rfl ?_ (fun e => absurd rfl e) (fun _ => rfl) hfr (fun k hk => .inl hk)⟩
  exact (h.txt i hi).keep fun k e => hk (.txt i) k (by simp) (by rw [slot_txt pb g rs i hi]; exact e)
theorem PV.parTo {A : Nat → Prop} {w : World} {pb g cap : Nat} {rs : List RV} {R : List RN} (hR : rs.map (·.rn) = R) (h : PV A w pb g cap rs) (i : Nat) (hi : i < rs.length) (z : Int) : PG A (w.setCell ⟨g, i * 7 + 1, none⟩ (.int .i64 z)) pb g (setPar R i z) := by
  have hu := h.upd (w1 := w) i hi (.kid i) (.inl rfl) (Nat.le_refl _) (fun _ _ _ _ => rfl) ⟨rs[i].rn.wPar z, rs[i].kv, rs[i].av, rs[i].tv⟩ 1 (by omega) (.int .i64 z) rfl (h.kid i hi) rfl rfl (h.txt i hi) (fun _ => rfl) (fun _ => rfl) (fun k e => .inl e) (fun k e => .inl e)
  refine ⟨cap, _, map_upd hR i hi ⟨rs[i].rn.wPar z, rs[i].kv, rs[i].av, rs[i].tv⟩ _ rfl, { hu with inA := fun s k e => h.inA s k ?_ }⟩
  rw [← e]
  have hget : ∀ j, (rs.set i ⟨rs[i].rn.wPar z, rs[i].kv, rs[i].av, rs[i].tv⟩)[j]? = if i = j then some ⟨rs[i].rn.wPar z, rs[i].kv, rs[i].av, rs[i].tv⟩ else rs[j]? := fun j => by
    rw [List.getElem?_set]
    by_cases e : i = j
    · subst e; simp [hi]
    · simp [e]
  cases s using Sl.ind with
  | tree => rfl
  | row => rfl
  | kid j =>
    simp only [slotB, hget]
    by_cases e : i = j
    · subst e
      rw [if_pos rfl, List.getElem?_eq_getElem hi]; rfl
    · rw [if_neg e]
  | att j =>
    simp only [slotB, hget]
    by_cases e : i = j
    · subst e
      rw [if_pos rfl, List.getElem?_eq_getElem hi]; rfl
    · rw [if_neg e]
  | txt j =>
    simp only [slotB, hget]
    by_cases e : i = j
    · subst e
      rw [if_pos rfl, List.getElem?_eq_getElem hi]; rfl
    · rw [if_neg e]
theorem PG.parTo {A : Nat → Prop} {w : World} {pb g : Nat} {R : List RN} (h : PG A w pb g R) (i : Nat) (hi : i < R.length) (z : Int) : PG A (w.setCell ⟨g, i * 7 + 1, none⟩ (.int .i64 z)) pb g (setPar R i z) := by
  obtain ⟨cap, rs, hR, hP⟩ := h
  exact hP.parTo hR i (by rw [map_len hR]; exact hi) z
theorem erase_filter : ∀ (l : List Nat) (i : Nat) (hi : i < l.length), l.Nodup → l.eraseIdx i = l.filter (fun x => !(x == l[i]))
  | a :: r, 0, _, hn => by
    have h1 := (List.nodup_cons.1 hn).1
    simp only [List.eraseIdx_cons_zero, List.getElem_cons_zero]
    rw [List.filter_cons, if_neg (by simp), filter_self a r h1]
  | a :: r, i + 1, hi, hn => by
    obtain ⟨h1, h2⟩ := List.nodup_cons.1 hn
    have hi2 : i < r.length := by simpa using hi
    have ih := erase_filter r i hi2 h2
    simp only [List.eraseIdx_cons_succ, List.getElem_cons_succ]
    rw [List.filter_cons, if_pos, ih]
    simp
    intro e
    exact h1 (e ▸ List.getElem_mem hi2)

set_option maxHeartbeats 1000000 in
theorem placeOf_p {A : Nat → Prop} {w : World} {pb g : Nat} {R : List RN} (h : PG A w pb g R) (p : Nat) (hp : p < R.length) (i : Nat) (hi : i < R[p].kids.length) (hn : R[p].kids.Nodup) (hl : R[p].kids.length ≤ 1000000) :
    Calls Try.prog 49 #[.pointer (some ⟨g, p * 7, none⟩), .int .i64 (R[p].kids[i] : Int)] w fun e w' => e = .returned (.int .i64 (i : Int)) ∧ w' = w := by
  obtain ⟨cap, rs, hR, hP⟩ := h
  have hp2 : p < rs.length := by rw [map_len hR]; exact hp
  have hrn := map_get hR p hp2 hp
  have c2 : w.cell? ⟨g, p * 7 + 2, none⟩ = some rs[p].kv := hP.cellAt p hp2 2 (by omega)
  have hk := hP.kid p hp2
  rw [hrn] at hk
  have HX := hide (index_row rs[p].kv R[p].kids i hi hn hl w hk)
  obtain ⟨a, c, hv⟩ := owns_form hk
  rw [hv] at HX c2
  clear hk hP hv hn hrn
  generalize (R[p].kids[i] : Int) = x at *
  go_enter Try.func49, Try.ntmps49
  go_wp2_with fail
  refine HX.out.mono ?_
  rintro e w1 ⟨rfl, rfl⟩
  go_wp2
  go_ret
  exact ⟨rfl, rfl⟩

set_option maxHeartbeats 1000000 in
theorem drop_p {A : Nat → Prop} {w : World} {pb g : Nat} {R : List RN} (h : PG A w pb g R) (p : Nat) (hp : p < R.length) (c : Nat) (hc : c ∈ R[p].kids) (hn : R[p].kids.Nodup) (hl : R[p].kids.length ≤ 1000000) :
    Calls Try.prog 57 #[.pointer (some ⟨g, p * 7, none⟩), .int .i64 (c : Int)] w fun e w' => e = .returned (.tuple #[]) ∧ PG (andNew A w.heap.size) w' pb g (setKids R p (R[p].kids.filter (fun x => !(x == c)))) ∧ ButA A w w' := by
  obtain ⟨i, hi, rfl⟩ := List.mem_iff_getElem.1 hc
  have HX := hide (placeOf_p h p hp i hi hn hl)
  obtain ⟨cap, rs, hR, hP⟩ := h
  have hp2 : p < rs.length := by rw [map_len hR]; exact hp
  have hrn := map_get hR p hp2 hp
  have c2 : w.cell? ⟨g, p * 7 + 2, none⟩ = some rs[p].kv := hP.cellAt p hp2 2 (by omega)
  have hk := hP.kid p hp2
  rw [hrn] at hk
  have HD := hide (delete_row rs[p].kv R[p].kids i hi hl w hk)
  rw [erase_filter _ i hi hn] at HD
  have hgA : A g := hP.inA .row g rfl
  have hkA : ∀ k, rs[p].kv.ownBlock = some k → A k := fun k e => hP.inA (.kid p) k (by rw [slot_kid pb g rs p hp2]; exact e)
  have HK := hide (fun w1 hb kv' ks' => hP.kidsTo (w1 := w1) hR p hp2 hb kv' ks')
  have HF := hide (fun j => hP.frz j)
  have hkg : ∀ k, rs[p].kv.ownBlock = some k → k ≠ g := fun k e1 e2 => by
    have := hP.sep (.kid p) .row k (by rw [slot_kid pb g rs p hp2]; exact e1) (by rw [e2]; rfl)
    cases this
  have HG := hide (hP.lt .row g rfl)
  obtain ⟨a, cc, hv⟩ := owns_form hk
  have HKA := hide hkA
  have HKG := hide hkg
  rw [hv] at HD c2 HKA HKG HK
  clear hk hP hv hn hrn hkA hkg
  generalize R[p].kids.filter (fun x => !(x == R[p].kids[i])) = ks at *
  generalize (R[p].kids[i] : Int) = x at *
  have hib : i ≤ 1000000 := by omega
  clear hc hi
  generalize hm : R[p].kids.length = m at *
  rw [show ((i + 1 : Nat) : Int) = (i : Int) + 1 from by omega] at HD
  go_enter Try.func57, Try.ntmps57
  go_wp2_with fail
  refine HX.out.mono ?_
  rintro e w1 ⟨rfl, rfl⟩
  go_wp2_with fail
  refine HD.out.mono ?_
  rintro e w2 ⟨v', rfl, hown, hfr, hb⟩
  obtain ⟨a2, cc2, rfl⟩ := owns_form hown
  have hc2 : w2.cell? ⟨g, p * 7 + 2, none⟩ = some (.slice a m cc) := by
    rw [World.cell?_of_block (a := ⟨g, p * 7 + 2, none⟩) (hb.block g HG.out (fun e => HKG.out g e rfl))]
    exact c2
  have hf2 : w2.frozen? ⟨g, p * 7 + 2, none⟩ = false := by
    rw [World.frozen?_of_block (a := ⟨g, p * 7 + 2, none⟩) (hb.block g HG.out (fun e => HKG.out g e rfl))]
    exact HF.out _
  have HFIN := hide (HK.out w2 hb _ ks hown hfr)
  have HBT := hide ((hb.mono HKA.out).setCell (a := ⟨g, p * 7 + 2, none⟩) (.inl hgA) (.slice a2 ks.length cc2))
  clear hown hfr hb
  go_wp2
  go_end0
  exact ⟨rfl, HFIN.out, HBT.out⟩
theorem PT.cells {A : Nat → Prop} {w : World} {pb : Nat} {T : TR} (h : PT A w pb T) (n : Nat) (hn : n < T.length) : ∃ g cap, w.cell? ⟨pb, 0, none⟩ = some (.slice (some ⟨g, 0, none⟩) T.length cap) ∧ PG A w pb g (rawOf T) ∧ w.cell? ⟨g, n * 7 + 1, none⟩ = some (.int .i64 (parZ (parentN T n))) ∧ w.cell? ⟨g, n * 7, none⟩ = some (.int .i64 (nodeAt T n).kind) ∧ (∀ j, w.frozen? ⟨g, j, none⟩ = false) ∧ A g := by
  obtain ⟨g, cap, rs, hR, hP⟩ := h
  have hl := map_len hR
  rw [raw_len] at hl
  have hn2 : n < rs.length := by omega
  have hrn := map_get hR n hn2 (by rw [raw_len]; exact hn)
  rw [raw_get] at hrn
  have c0 := hP.tree
  rw [hl] at c0
  have c1 := hP.cellAt n hn2 1 (by omega)
  have c2 := hP.cellAt n hn2 0 (by omega)
  refine ⟨g, cap, c0, ⟨cap, rs, hR, hP⟩, ?_, ?_, hP.frz, hP.inA .row g rfl⟩
  · rw [c1]
    show some (Value.int .i64 rs[n].rn.par) = _
    rw [hrn]
    rfl
  · refine c2.trans ?_
    show some (Value.int .i64 rs[n].rn.nd.kind) = _
    rw [hrn]
    rfl
set_option maxHeartbeats 1000000 in
theorem takeOut_p {A : Nat → Prop} {w : World} {pb : Nat} {T : TR} (hW : WF T) (hz : T.length ≤ 1000000) (c : Nat) (hc : c < T.length) (h : PT A w pb T) :
    Calls Try.prog 46 #[.pointer (some ⟨pb, 0, none⟩), .int .i64 (c : Int)] w fun e w' => e = .returned (.tuple #[]) ∧ PT (andNew A w.heap.size) w' pb (outL T c) ∧ ButA A w w' := by
  obtain ⟨g, cap, c0, hG, c1, _, hfz, hgA⟩ := h.cells c hc
  have hci : (c : Int) < T.length := by omega
  cases hp : parentN T c with
  | none =>
    have HT := hide (h.mono (B := andNew A w.heap.size) fun k e => .inl e)
    rw [out_same hp]
    rw [hp] at c1
    rw [parZ_none] at c1
    clear h hG hW hfz
    go_enter Try.func46, Try.ntmps46
    go_wp2
    go_end0
    exact ⟨rfl, HT.out, ButA.refl _ _⟩
  | some p =>
    rw [hp] at c1
    have hkm := parent_some hp
    have hpl := kidsAt_lt hkm
    have hpi : (p : Int) < T.length := by omega
    rw [show parZ (some p) = (p : Int) from rfl] at c1
    have hp2 : p < (rawOf T).length := by rw [raw_len]; exact hpl
    have hks : (rawOf T)[p].kids = kidsAt T p := by rw [raw_get]; rfl
    have HD := hide (drop_p hG p hp2 c (by rw [hks]; exact hkm) (by rw [hks]; exact hW.nodup p) (by rw [hks]; have := hW.kids_len p; omega))
    rw [hks] at HD
    have HRAW := hide (out_raw hW hp)
    have hpn : ¬ (p : Int) = -1 := by omega
    clear h hG hW hfz hkm hp hks
    go_enter Try.func46, Try.ntmps46
    go_wp2_with fail
    refine HD.out.mono ?_
    rintro e w1 ⟨rfl, hG1, hb1⟩
    have HF := hide (hG1.parTo c (by rw [modR_len, raw_len]; exact hc) (-1))
    rw [HRAW.out] at HF
    have HB := hide (hb1.setCell (a := ⟨g, c * 7 + 1, none⟩) (.inl hgA) (.int .i64 (-1)))
    obtain ⟨cap1, rs1, hR1, hP1⟩ := hG1
    have hl1 := map_len hR1
    rw [modR_len, raw_len] at hl1
    have d0 := hP1.tree
    rw [hl1] at d0
    have d1 := hP1.cellAt c (by omega) 1 (by omega)
    have d1' : w1.cell? ⟨g, c * 7 + 1, none⟩ = some (.int .i64 rs1[c].rn.par) := d1
    have d2 := hP1.frz (c * 7 + 1)
    generalize rs1[c].rn.par = q at *
    clear hP1 hR1 hl1 d1 hb1
    go_wp2
    go_end0
    exact ⟨rfl, ⟨g, HF.out⟩, HB.out⟩
theorem PA.cells {A : Nat → Prop} {w : World} {pb : Nat} {R : List RN} (h : PA A w pb R) : ∃ g cap rs, rs.map (·.rn) = R ∧ PV A w pb g cap rs ∧ w.cell? ⟨pb, 0, none⟩ = some (.slice (some ⟨g, 0, none⟩) R.length cap) := by
  obtain ⟨g, cap, rs, hR, hP⟩ := h
  have c0 := hP.tree
  rw [map_len hR] at c0
  exact ⟨g, cap, rs, hR, hP, c0⟩
set_option maxRecDepth 10000 in
set_option maxHeartbeats 4000000 in
theorem put_p {A : Nat → Prop} {w : World} {pb : Nat} {R : List RN} (hz : R.length ≤ 1000000) (p i c : Nat) (hp : p < R.length) (hc : c < R.length) (hi : i ≤ R[p].kids.length) (hl : R[p].kids.length ≤ 1000000) (h : PA A w pb R) :
    Calls Try.prog 48 #[.pointer (some ⟨pb, 0, none⟩), .int .i64 (p : Int), .int .i64 (i : Int), .int .i64 (c : Int)] w fun e w' => e = .returned (.tuple #[]) ∧ PA (andNew A w.heap.size) w' pb (setPar (setKids R p (insL R[p].kids i c)) c (p : Int)) ∧ ButA A w w' := by
  obtain ⟨g, cap, rs, hR, hP, c0⟩ := h.cells
  have hpi : (p : Int) < R.length := by omega
  have hci : (c : Int) < R.length := by omega
  have hlr := map_len hR
  have hp2 : p < rs.length := by omega
  have hrn := map_get hR p hp2 hp
  have c2 : w.cell? ⟨g, p * 7 + 2, none⟩ = some rs[p].kv := hP.cellAt p hp2 2 (by omega)
  have hfz := hP.frz (p * 7 + 2)
  have hk := hP.kid p hp2
  rw [hrn] at hk
  obtain ⟨a, cc, hv⟩ := owns_form hk
  rw [hv] at c2
  have hWne : rs[p].kv.ownBlock ≠ some w.heap.size := fun e => by
    have := (hk.lt _ e).2
    omega
  have bA := below_alloc w (.cells #[.int .i64 (c : Int)] 3)
  have hk2 : (w.alloc (.cells #[.int .i64 (c : Int)] 3)).drew.ownsRow 0 3 1 rs[p].kv R[p].kids.length (intCells R[p].kids) := owns_below hk bA.drew
  have HX := hide (insert_row rs[p].kv R[p].kids i c w.heap.size hi hl (w.alloc (.cells #[.int .i64 (c : Int)] 3)).drew hk2 (heap_alloc_new w _) hWne)
  have hgA : A g := hP.inA .row g rfl
  have HPOST : Hid (∀ e w2, RowDone rs[p].kv (w.alloc (.cells #[.int .i64 (c : Int)] 3)).drew (insL R[p].kids i c) e w2 → ∃ a2 n2 c2, e = .returned (.slice a2 n2 c2) ∧ w2.cell? ⟨pb, 0, none⟩ = some (.slice (some ⟨g, 0, none⟩) R.length cap) ∧ w2.cell? ⟨g, p * 7 + 2, none⟩ = some (.slice a R[p].kids.length cc) ∧ w2.frozen? ⟨g, p * 7 + 2, none⟩ = false ∧ Hid (PG (andNew A w.heap.size) (w2.setCell ⟨g, p * 7 + 2, none⟩ (.slice a2 n2 c2)) pb g (setKids R p (insL R[p].kids i c)) ∧ ButA A w (w2.setCell ⟨g, p * 7 + 2, none⟩ (.slice a2 n2 c2)))) := by
    refine hide fun e w2 hd => ?_
    obtain ⟨v', rfl, hown, hfr, hb⟩ := hd
    obtain ⟨a2, c2', rfl⟩ := owns_form hown
    have hb0 : ButA (fun k => rs[p].kv.ownBlock = some k) w w2 := (ButA.of (A := fun k => rs[p].kv.ownBlock = some k) (bA.trans (Below.refl _ _).drew)).trans hb (fun j _ e => e)
    have hne : ∀ s, s ≠ Sl.kid p → ∀ k, slotB pb g rs s = some k → w2.heap[k]? = w.heap[k]? := fun s hs k e => hb0.block k (hP.lt s k e) fun e2 => hs (hP.sep s (.kid p) k e (by rw [slot_kid pb g rs p hp2]; exact e2))
    refine ⟨a2, _, c2', rfl, cell_same (hne .tree (by simp) pb rfl) c0, cell_same (hne .row (by simp) g rfl) c2, ?_, hide ⟨?_, ?_⟩⟩
    · rw [World.frozen?_of_block (a := ⟨g, p * 7 + 2, none⟩) (hne .row (by simp) g rfl)]
      exact hfz
    · refine hP.kidsTo hR p hp2 hb0 _ _ hown fun k e => ?_
      rcases hfr k e with h | h
      · exact .inl h
      · have : (w.alloc (.cells #[.int .i64 (c : Int)] 3)).drew.heap.size = w.heap.size + 1 := by simp
        exact .inr (by omega)
    · exact (hb0.mono fun k e => hP.inA (.kid p) k (by rw [slot_kid pb g rs p hp2]; exact e)).setCell (.inl hgA) _
  rw [hv] at HX HPOST
  have c0a : (w.alloc (.cells #[.int .i64 (c : Int)] 3)).cell? ⟨pb, 0, none⟩ = some (.slice (some ⟨g, 0, none⟩) R.length cap) := by rw [bA.cell (cell_lt c0)]; exact c0
  have c2a : (w.alloc (.cells #[.int .i64 (c : Int)] 3)).cell? ⟨g, p * 7 + 2, none⟩ = some (.slice a R[p].kids.length cc) := by rw [bA.cell (cell_lt c2)]; exact c2
  have hg1 : g < w.heap.size := cell_lt c2
  have hg2 : ¬ g = w.heap.size := by omega
  have hb1 : pb < w.heap.size := cell_lt c0
  have hb2 : ¬ pb = w.heap.size := by omega
  clear hk hk2 hWne hP hR hrn hv h hfz bA hl hi hlr
  generalize hks : R[p].kids = ks at *
  clear hks
  generalize insL ks i c = ks2 at *
  go_enter Try.func48, Try.ntmps48
  go_wp2_with fail
  go_region_with (go_at_call 58; refine HX.out.mono ?_; intro e w2 hd; obtain ⟨a2, n2, c2', rfl, d0, d2, dF, HH⟩ := HPOST.out e w2 hd; clear hd)
  all_goals
    obtain ⟨hG, hB⟩ := HH.out
    have HF := hide (hG.parTo c (by rw [modR_len]; exact hc) (p : Int))
    have HB := hide (hB.setCell (a := ⟨g, c * 7 + 1, none⟩) (.inl hgA) (.int .i64 (p : Int)))
    obtain ⟨cap1, rs1, hR1, hP1⟩ := hG
    have hl1 := map_len hR1
    rw [modR_len] at hl1
    have e0 := hP1.tree
    rw [hl1] at e0
    have d1' : (w2.setCell ⟨g, p * 7 + 2, none⟩ (.slice a2 n2 c2')).cell? ⟨g, c * 7 + 1, none⟩ = some (.int .i64 rs1[c].rn.par) := hP1.cellAt c (by omega) 1 (by omega)
    have d2' := hP1.frz (c * 7 + 1)
    generalize rs1[c].rn.par = q at *
    clear hP1 hR1 hl1 hB HH d0 d2 dF
    generalize w2.setCell ⟨g, p * 7 + 2, none⟩ (.slice a2 n2 c2') = w3 at *
    go_wp2
    go_end0
    exact ⟨rfl, ⟨g, HF.out⟩, HB.out⟩
end Go.Proofs.Ytjgklemhlmgheaa
