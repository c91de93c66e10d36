import Derived.Test.YtfohijnkeefcfaaGreatDoorKn11
import Derived.Test.YtfohijnkeefcfaaGreatDoorKn15
import Derived.Test.YtfohijnkeefcfaaGreatDoorKn17
import Derived.Deep.RegionWith
import Derived.Deep.RegionLaw
set_option linter.unusedVariables false
set_option linter.unusedSimpArgs false
set_option maxRecDepth 100000
set_option maxHeartbeats 8000000
namespace Go.Proofs.YtfohijnkeefcfaaGreatDoor.S5
open Go.RowKit
theorem map_upd {rs : List RV} {R : List RN} (h : rs.map (·.rn) = R) (i : Nat) (hi : i < rs.length) (r' : RV) (f : RN -> RN) (hf : r'.rn = f rs[i].rn) : (rs.set i r').map (·.rn) = modR R i f := by
  subst h
  unfold modR
  rw [List.map_set, hf]
  congr 2
  rw [List.getD_eq_getElem?_getD, List.getElem?_map, List.getElem?_eq_getElem hi]
  rfl
theorem PV.kidsTo {A : Nat -> Prop} {w w1 : World} {pb g cap : Nat} {rs : List RV} {R : List RN} (hR : rs.map (·.rn) = R) (h : PV A w pb g cap rs) (i : Nat) (hi : i < rs.length) (hb : ButA (fun k => rs[i].kv.ownBlock = some k) w w1) (kv' : Value) (ks' : List Nat)
    (hown : w1.ownsRow 0 3 1 kv' ks'.length (intCells ks')) (hfr : ∀ k, kv'.ownBlock = some k -> rs[i].kv.ownBlock = some k \/ w.heap.size <= k) : PG (andNew A w.heap.size) (w1.setCell ⟨g, i * 7 + 2, none⟩ kv') pb g (setKids R i ks') := by
  have hk : ∀ s k, s ≠ .kid i -> slotB pb g rs s = some k -> w1.heap[k]? = w.heap[k]? := fun s k hs e => hb.block k (h.lt s k e) fun e2 => hs (h.sep s (.kid i) k e (by rw [slot_kid pb g rs i hi]; exact e2))
  refine ⟨cap, _, map_upd hR i hi ⟨rs[i].rn.wKids ks', kv', rs[i].av, rs[i].tv⟩ _ rfl, h.upd i hi (.kid i) (.inl rfl) hb.size hk _ 2 (by omega) kv' rfl hown rfl rfl ?_ (fun e => absurd rfl e) (fun _ => rfl) hfr (fun k hk => .inl hk)⟩
  exact (h.txt i hi).keep fun k e => hk (.txt i) k (by simp) (by rw [slot_txt pb g rs i hi]; exact e)
theorem PV.parTo {A : Nat -> Prop} {w : World} {pb g cap : Nat} {rs : List RV} {R : List RN} (hR : rs.map (·.rn) = R) (h : PV A w pb g cap rs) (i : Nat) (hi : i < rs.length) (z : Int) : PG A (w.setCell ⟨g, i * 7 + 1, none⟩ (.int .i64 z)) pb g (setPar R i z) := by
  have hu := h.upd (w1 := w) i hi (.kid i) (.inl rfl) (Nat.le_refl _) (fun _ _ _ _ => rfl) ⟨rs[i].rn.wPar z, rs[i].kv, rs[i].av, rs[i].tv⟩ 1 (by omega) (.int .i64 z) rfl (h.kid i hi) rfl rfl (h.txt i hi) (fun _ => rfl) (fun _ => rfl) (fun k e => .inl e) (fun k e => .inl e)
  refine ⟨cap, _, map_upd hR i hi ⟨rs[i].rn.wPar z, rs[i].kv, rs[i].av, rs[i].tv⟩ _ rfl, { hu with inA := fun s k e => h.inA s k ?_ }⟩
  rw [<- e]
  have hget : ∀ j, (rs.set i ⟨rs[i].rn.wPar z, rs[i].kv, rs[i].av, rs[i].tv⟩)[j]? = if i = j then some ⟨rs[i].rn.wPar z, rs[i].kv, rs[i].av, rs[i].tv⟩ else rs[j]? := fun j => by
    rw [List.getElem?_set]
    by_cases e : i = j
    · subst e; simp [hi]
    · simp [e]
  cases s using Sl.ind with
  | tree => rfl
  | row => rfl
  | kid j =>
    simp only [slotB, hget]
    by_cases e : i = j
    · subst e
      rw [if_pos rfl, List.getElem?_eq_getElem hi]; rfl
    · rw [if_neg e]
  | att j =>
    simp only [slotB, hget]
    by_cases e : i = j
    · subst e
      rw [if_pos rfl, List.getElem?_eq_getElem hi]; rfl
    · rw [if_neg e]
  | txt j =>
    simp only [slotB, hget]
    by_cases e : i = j
    · subst e
      rw [if_pos rfl, List.getElem?_eq_getElem hi]; rfl
    · rw [if_neg e]
theorem PG.parTo {A : Nat -> Prop} {w : World} {pb g : Nat} {R : List RN} (h : PG A w pb g R) (i : Nat) (hi : i < R.length) (z : Int) : PG A (w.setCell ⟨g, i * 7 + 1, none⟩ (.int .i64 z)) pb g (setPar R i z) := by
  obtain ⟨cap, rs, hR, hP⟩ := h
  exact hP.parTo hR i (by rw [map_len hR]; exact hi) z
theorem erase_filter : ∀ (l : List Nat) (i : Nat) (hi : i < l.length), l.Nodup -> l.eraseIdx i = l.filter (fun x => !(x == l[i]))
  | a :: r, 0, _, hn => by
    have h1 := (List.nodup_cons.1 hn).1
    simp only [List.eraseIdx_cons_zero, List.getElem_cons_zero]
    rw [List.filter_cons, if_neg (by simp), filter_self a r h1]
  | a :: r, i + 1, hi, hn => by
    obtain ⟨h1, h2⟩ := List.nodup_cons.1 hn
    have hi2 : i < r.length := by simpa using hi
    have ih := erase_filter r i hi2 h2
    simp only [List.eraseIdx_cons_succ, List.getElem_cons_succ]
    rw [List.filter_cons, if_pos, ih]
    simp
    intro e
    exact h1 (e ▸ List.getElem_mem hi2)
theorem placeOf_p {A : Nat -> Prop} {w : World} {pb g : Nat} {R : List RN} (h : PG A w pb g R) (p : Nat) (hp : p < R.length) (i : Nat) (hi : i < R[p].kids.length) (hn : R[p].kids.Nodup) (hl : R[p].kids.length <= 1000000) :
    Calls Tryz.prog 204 #[.pointer (some ⟨g, p * 7, none⟩), .int .i64 (R[p].kids[i] : Int)] w fun e w' => e = .returned (.int .i64 (i : Int)) /\ w' = w := by
  obtain ⟨cap, rs, hR, hP⟩ := h
  have hp2 : p < rs.length := by rw [map_len hR]; exact hp
  have hrn := map_get hR p hp2 hp
  have c2 : w.cell? ⟨g, p * 7 + 2, none⟩ = some rs[p].kv := hP.cellAt p hp2 2 (by omega)
  have hk := hP.kid p hp2
  rw [hrn] at hk
  have HX := hide (index_row rs[p].kv R[p].kids i hi hn hl w hk)
  obtain ⟨a, c, hv⟩ := owns_form hk
  rw [hv] at HX c2
  clear hk hP hv hn hrn
  generalize (R[p].kids[i] : Int) = x at *
  go_enter Tryz.func204, Tryz.ntmps204
  go_wp2_with fail
  refine HX.out.mono ?_
  rintro e w1 ⟨rfl, rfl⟩
  go_wp2
  go_ret
  exact ⟨rfl, rfl⟩
theorem drop_p {A : Nat -> Prop} {w : World} {pb g : Nat} {R : List RN} (h : PG A w pb g R) (p : Nat) (hp : p < R.length) (c : Nat) (hc : c ∈ R[p].kids) (hn : R[p].kids.Nodup) (hl : R[p].kids.length <= 1000000) :
    Calls Tryz.prog 237 #[.pointer (some ⟨g, p * 7, none⟩), .int .i64 (c : Int)] w fun e w' => e = .returned (.tuple #[]) /\ PG (andNew A w.heap.size) w' pb g (setKids R p (R[p].kids.filter (fun x => !(x == c)))) /\ ButA A w w' := by
  obtain ⟨i, hi, rfl⟩ := List.mem_iff_getElem.1 hc
  have HX := hide (placeOf_p h p hp i hi hn hl)
  obtain ⟨cap, rs, hR, hP⟩ := h
  have hp2 : p < rs.length := by rw [map_len hR]; exact hp
  have hrn := map_get hR p hp2 hp
  have c2 : w.cell? ⟨g, p * 7 + 2, none⟩ = some rs[p].kv := hP.cellAt p hp2 2 (by omega)
  have hk := hP.kid p hp2
  rw [hrn] at hk
  have HD := hide (delete_row rs[p].kv R[p].kids i hi hl w hk)
  rw [erase_filter _ i hi hn] at HD
  have hgA : A g := hP.inA .row g rfl
  have hkA : ∀ k, rs[p].kv.ownBlock = some k -> A k := fun k e => hP.inA (.kid p) k (by rw [slot_kid pb g rs p hp2]; exact e)
  have HK := hide (fun w1 hb kv' ks' => hP.kidsTo (w1 := w1) hR p hp2 hb kv' ks')
  have HF := hide (fun j => hP.frz j)
  have hkg : ∀ k, rs[p].kv.ownBlock = some k -> k ≠ g := fun k e1 e2 => by
    have := hP.sep (.kid p) .row k (by rw [slot_kid pb g rs p hp2]; exact e1) (by rw [e2]; rfl)
    cases this
  have HG := hide (hP.lt .row g rfl)
  obtain ⟨a, cc, hv⟩ := owns_form hk
  have HKA := hide hkA
  have HKG := hide hkg
  rw [hv] at HD c2 HKA HKG HK
  clear hk hP hv hn hrn hkA hkg
  generalize R[p].kids.filter (fun x => !(x == R[p].kids[i])) = ks at *
  generalize (R[p].kids[i] : Int) = x at *
  have hib : i <= 1000000 := by omega
  clear hc hi
  generalize hm : R[p].kids.length = m at *
  rw [show ((i + 1 : Nat) : Int) = (i : Int) + 1 from by omega] at HD
  go_enter Tryz.func237, Tryz.ntmps237
  go_wp2_with fail
  refine HX.out.mono ?_
  rintro e w1 ⟨rfl, rfl⟩
  go_wp2_with fail
  refine HD.out.mono ?_
  rintro e w2 ⟨v', rfl, hown, hfr, hb⟩
  obtain ⟨a2, cc2, rfl⟩ := owns_form hown
  have hc2 : w2.cell? ⟨g, p * 7 + 2, none⟩ = some (.slice a m cc) := by
    rw [World.cell?_of_block (a := ⟨g, p * 7 + 2, none⟩) (hb.block g HG.out (fun e => HKG.out g e rfl))]
    exact c2
  have hf2 : w2.frozen? ⟨g, p * 7 + 2, none⟩ = false := by
    rw [World.frozen?_of_block (a := ⟨g, p * 7 + 2, none⟩) (hb.block g HG.out (fun e => HKG.out g e rfl))]
    exact HF.out _
  have HFIN := hide (HK.out w2 hb _ ks hown hfr)
  have HBT := hide ((hb.mono HKA.out).setCell (a := ⟨g, p * 7 + 2, none⟩) (.inl hgA) (.slice a2 ks.length cc2))
  clear hown hfr hb
  go_wp2
  go_end0
  exact ⟨rfl, HFIN.out, HBT.out⟩
theorem PT.cells {A : Nat -> Prop} {w : World} {pb : Nat} {T : TR} (h : PT A w pb T) (n : Nat) (hn : n < T.length) : ∃ g cap, w.cell? ⟨pb, 0, none⟩ = some (.slice (some ⟨g, 0, none⟩) T.length cap) /\ PG A w pb g (rawOf T) /\ w.cell? ⟨g, n * 7 + 1, none⟩ = some (.int .i64 (parZ (parentN T n))) /\ w.cell? ⟨g, n * 7, none⟩ = some (.int .i64 (nodeAt T n).kind) /\ (∀ j, w.frozen? ⟨g, j, none⟩ = false) /\ A g := by
  obtain ⟨g, cap, rs, hR, hP⟩ := h
  have hl := map_len hR
  rw [raw_len] at hl
  have hn2 : n < rs.length := by omega
  have hrn := map_get hR n hn2 (by rw [raw_len]; exact hn)
  rw [raw_get] at hrn
  have c0 := hP.tree
  rw [hl] at c0
  have c1 := hP.cellAt n hn2 1 (by omega)
  have c2 := hP.cellAt n hn2 0 (by omega)
  refine ⟨g, cap, c0, ⟨cap, rs, hR, hP⟩, ?_, ?_, hP.frz, hP.inA .row g rfl⟩
  · rw [c1]
    show some (Value.int .i64 rs[n].rn.par) = _
    rw [hrn]
    rfl
  · refine c2.trans ?_
    show some (Value.int .i64 rs[n].rn.nd.kind) = _
    rw [hrn]
    rfl
theorem takeOut_p {A : Nat -> Prop} {w : World} {pb : Nat} {T : TR} (hW : WF T) (hz : T.length <= 1000000) (c : Nat) (hc : c < T.length) (h : PT A w pb T) :
    Calls Tryz.prog 202 #[.pointer (some ⟨pb, 0, none⟩), .int .i64 (c : Int)] w fun e w' => e = .returned (.tuple #[]) /\ PT (andNew A w.heap.size) w' pb (outL T c) /\ ButA A w w' := by
  obtain ⟨g, cap, c0, hG, c1, _, hfz, hgA⟩ := h.cells c hc
  have hci : (c : Int) < T.length := by omega
  cases hp : parentN T c with
  | none =>
    have HT := hide (h.mono (B := andNew A w.heap.size) fun k e => .inl e)
    rw [out_same hp]
    rw [hp] at c1
    rw [parZ_none] at c1
    clear h hG hW hfz
    go_enter Tryz.func202, Tryz.ntmps202
    go_wp2
    go_end0
    exact ⟨rfl, HT.out, ButA.refl _ _⟩
  | some p =>
    rw [hp] at c1
    have hkm := parent_some hp
    have hpl := kidsAt_lt hkm
    have hpi : (p : Int) < T.length := by omega
    rw [show parZ (some p) = (p : Int) from rfl] at c1
    have hp2 : p < (rawOf T).length := by rw [raw_len]; exact hpl
    have hks : (rawOf T)[p].kids = kidsAt T p := by rw [raw_get]; rfl
    have HD := hide (drop_p hG p hp2 c (by rw [hks]; exact hkm) (by rw [hks]; exact hW.nodup p) (by rw [hks]; have := hW.kids_len p; omega))
    rw [hks] at HD
    have HRAW := hide (out_raw hW hp)
    have hpn : ¬ (p : Int) = -1 := by omega
    clear h hG hW hfz hkm hp hks
    go_enter Tryz.func202, Tryz.ntmps202
    go_wp2_with fail
    refine HD.out.mono ?_
    rintro e w1 ⟨rfl, hG1, hb1⟩
    have HF := hide (hG1.parTo c (by rw [modR_len, raw_len]; exact hc) (-1))
    rw [HRAW.out] at HF
    have HB := hide (hb1.setCell (a := ⟨g, c * 7 + 1, none⟩) (.inl hgA) (.int .i64 (-1)))
    obtain ⟨cap1, rs1, hR1, hP1⟩ := hG1
    have hl1 := map_len hR1
    rw [modR_len, raw_len] at hl1
    have d0 := hP1.tree
    rw [hl1] at d0
    have d1 := hP1.cellAt c (by omega) 1 (by omega)
    have d1' : w1.cell? ⟨g, c * 7 + 1, none⟩ = some (.int .i64 rs1[c].rn.par) := d1
    have d2 := hP1.frz (c * 7 + 1)
    generalize rs1[c].rn.par = q at *
    clear hP1 hR1 hl1 d1 hb1
    go_wp2
    go_end0
    exact ⟨rfl, ⟨g, HF.out⟩, HB.out⟩
theorem PA.cells {A : Nat -> Prop} {w : World} {pb : Nat} {R : List RN} (h : PA A w pb R) : ∃ g cap rs, rs.map (·.rn) = R /\ PV A w pb g cap rs /\ w.cell? ⟨pb, 0, none⟩ = some (.slice (some ⟨g, 0, none⟩) R.length cap) := by
  obtain ⟨g, cap, rs, hR, hP⟩ := h
  have c0 := hP.tree
  rw [map_len hR] at c0
  exact ⟨g, cap, rs, hR, hP, c0⟩
theorem put_p {A : Nat -> Prop} {w : World} {pb : Nat} {R : List RN} (hz : R.length <= 1000000) (p i c : Nat) (hp : p < R.length) (hc : c < R.length) (hi : i <= R[p].kids.length) (hl : R[p].kids.length <= 1000000) (h : PA A w pb R) :
    Calls Tryz.prog 203 #[.pointer (some ⟨pb, 0, none⟩), .int .i64 (p : Int), .int .i64 (i : Int), .int .i64 (c : Int)] w fun e w' => e = .returned (.tuple #[]) /\ PA (andNew A w.heap.size) w' pb (setPar (setKids R p (insL R[p].kids i c)) c (p : Int)) /\ ButA A w w' := by
  obtain ⟨g, cap, rs, hR, hP, c0⟩ := h.cells
  have hpi : (p : Int) < R.length := by omega
  have hci : (c : Int) < R.length := by omega
  have hlr := map_len hR
  have hp2 : p < rs.length := by omega
  have hrn := map_get hR p hp2 hp
  have c2 : w.cell? ⟨g, p * 7 + 2, none⟩ = some rs[p].kv := hP.cellAt p hp2 2 (by omega)
  have hfz := hP.frz (p * 7 + 2)
  have hk := hP.kid p hp2
  rw [hrn] at hk
  obtain ⟨a, cc, hv⟩ := owns_form hk
  rw [hv] at c2
  have hWne : rs[p].kv.ownBlock ≠ some w.heap.size := fun e => by
    have := (hk.lt _ e).2
    omega
  have bA := below_alloc w (.cells #[.int .i64 (c : Int)] 3)
  have hk2 : (w.alloc (.cells #[.int .i64 (c : Int)] 3)).drew.ownsRow 0 3 1 rs[p].kv R[p].kids.length (intCells R[p].kids) := owns_below hk bA.drew
  have HX := hide (insert_row rs[p].kv R[p].kids i c w.heap.size hi hl (w.alloc (.cells #[.int .i64 (c : Int)] 3)).drew hk2 (heap_alloc_new w _) hWne)
  have hgA : A g := hP.inA .row g rfl
  have HPOST : Hid (∀ e w2, RowDone rs[p].kv (w.alloc (.cells #[.int .i64 (c : Int)] 3)).drew (insL R[p].kids i c) e w2 -> ∃ a2 n2 c2, e = .returned (.slice a2 n2 c2) /\ w2.cell? ⟨pb, 0, none⟩ = some (.slice (some ⟨g, 0, none⟩) R.length cap) /\ w2.cell? ⟨g, p * 7 + 2, none⟩ = some (.slice a R[p].kids.length cc) /\ w2.frozen? ⟨g, p * 7 + 2, none⟩ = false /\ Hid (PG (andNew A w.heap.size) (w2.setCell ⟨g, p * 7 + 2, none⟩ (.slice a2 n2 c2)) pb g (setKids R p (insL R[p].kids i c)) /\ ButA A w (w2.setCell ⟨g, p * 7 + 2, none⟩ (.slice a2 n2 c2)))) := by
    refine hide fun e w2 hd => ?_
    obtain ⟨v', rfl, hown, hfr, hb⟩ := hd
    obtain ⟨a2, c2', rfl⟩ := owns_form hown
    have hb0 : ButA (fun k => rs[p].kv.ownBlock = some k) w w2 := (ButA.of (A := fun k => rs[p].kv.ownBlock = some k) (bA.trans (Below.refl _ _).drew)).trans hb (fun j _ e => e)
    have hne : ∀ s, s ≠ Sl.kid p -> ∀ k, slotB pb g rs s = some k -> w2.heap[k]? = w.heap[k]? := fun s hs k e => hb0.block k (hP.lt s k e) fun e2 => hs (hP.sep s (.kid p) k e (by rw [slot_kid pb g rs p hp2]; exact e2))
    refine ⟨a2, _, c2', rfl, cell_same (hne .tree (by simp) pb rfl) c0, cell_same (hne .row (by simp) g rfl) c2, ?_, hide ⟨?_, ?_⟩⟩
    · rw [World.frozen?_of_block (a := ⟨g, p * 7 + 2, none⟩) (hne .row (by simp) g rfl)]
      exact hfz
    · refine hP.kidsTo hR p hp2 hb0 _ _ hown fun k e => ?_
      rcases hfr k e with h | h
      · exact .inl h
      · have : (w.alloc (.cells #[.int .i64 (c : Int)] 3)).drew.heap.size = w.heap.size + 1 := by simp
        exact .inr (by omega)
    · exact (hb0.mono fun k e => hP.inA (.kid p) k (by rw [slot_kid pb g rs p hp2]; exact e)).setCell (.inl hgA) _
  rw [hv] at HX HPOST
  have c0a : (w.alloc (.cells #[.int .i64 (c : Int)] 3)).cell? ⟨pb, 0, none⟩ = some (.slice (some ⟨g, 0, none⟩) R.length cap) := by rw [bA.cell (cell_lt c0)]; exact c0
  have c2a : (w.alloc (.cells #[.int .i64 (c : Int)] 3)).cell? ⟨g, p * 7 + 2, none⟩ = some (.slice a R[p].kids.length cc) := by rw [bA.cell (cell_lt c2)]; exact c2
  have hg1 : g < w.heap.size := cell_lt c2
  have hg2 : ¬ g = w.heap.size := by omega
  have hb1 : pb < w.heap.size := cell_lt c0
  have hb2 : ¬ pb = w.heap.size := by omega
  clear hk hk2 hWne hP hR hrn hv h hfz bA hl hi hlr
  generalize hks : R[p].kids = ks at *
  clear hks
  generalize insL ks i c = ks2 at *
  go_enter Tryz.func203, Tryz.ntmps203
  go_wp2_with fail
  go_region_with (go_at_call 238; refine HX.out.mono ?_; intro e w2 hd; obtain ⟨a2, n2, c2', rfl, d0, d2, dF, HH⟩ := HPOST.out e w2 hd; clear hd)
  all_goals
    obtain ⟨hG, hB⟩ := HH.out
    have HF := hide (hG.parTo c (by rw [modR_len]; exact hc) (p : Int))
    have HB := hide (hB.setCell (a := ⟨g, c * 7 + 1, none⟩) (.inl hgA) (.int .i64 (p : Int)))
    obtain ⟨cap1, rs1, hR1, hP1⟩ := hG
    have hl1 := map_len hR1
    rw [modR_len] at hl1
    have e0 := hP1.tree
    rw [hl1] at e0
    have d1' : (w2.setCell ⟨g, p * 7 + 2, none⟩ (.slice a2 n2 c2')).cell? ⟨g, c * 7 + 1, none⟩ = some (.int .i64 rs1[c].rn.par) := hP1.cellAt c (by omega) 1 (by omega)
    have d2' := hP1.frz (c * 7 + 1)
    generalize rs1[c].rn.par = q at *
    clear hP1 hR1 hl1 hB HH d0 d2 dF
    generalize w2.setCell ⟨g, p * 7 + 2, none⟩ (.slice a2 n2 c2') = w3 at *
    go_wp2
    go_end0
    exact ⟨rfl, ⟨g, HF.out⟩, HB.out⟩
end Go.Proofs.YtfohijnkeefcfaaGreatDoor.S5
namespace Go.Proofs.YtfohijnkeefcfaaGreatDoor.S5
open Go.RowKit
theorem within_self (T : TR) (a : Nat) : withinL T a a = true := by simp [withinL, withinK]
theorem within_on {T : TR} (h : WF T) {m a : Nat} (hm : m < T.length) (hne : ¬ m = a) : withinL T m a = (match parentN T m with | none => false | some p => withinL T p a) := by
  cases hp : parentN T m with
  | none =>
    show _ = false
    rw [Bool.eq_false_iff]
    intro hw
    have hu := (within_iff h hm).1 hw
    rcases hu.part with e | ⟨q, hk, _⟩
    · exact hne e
    · exact parent_none hp _ hk
  | some p =>
    have hk := parent_some hp
    show _ = withinL T p a
    rw [Bool.eq_iff_iff, within_iff h hm, within_iff h (kidsAt_lt hk)]
    constructor
    · intro hu
      rcases hu.part with e | ⟨q, hk2, hu2⟩
      · exact absurd e hne
      · rw [h.once p q m hk hk2]
        exact hu2
    · exact fun hu => .step hk hu
def upM (r : Nat -> Nat) (v : Value) : Nat := if intOf v = -1 then 0 else r (intOf v).toNat + 1
theorem upM_nat (r : Nat -> Nat) (m : Nat) : upM r (.int .i64 (m : Int)) = r m + 1 := by
  unfold upM
  rw [if_neg (by simp only [intOf]; omega)]
  rfl
theorem within_p {A : Nat -> Prop} {w : World} {pb : Nat} {T : TR} (hW : WF T) (hz : T.length <= 1000000) (n a : Nat) (hn : n < T.length) (h : PT A w pb T) :
    Calls Tryz.prog 201 #[.pointer (some ⟨pb, 0, none⟩), .int .i64 (n : Int), .int .i64 (a : Int)] w fun e w' => e = .returned (.bool (withinL T n a)) /\ Below w.heap.size w w' := by
  obtain ⟨r, hr, _⟩ := hW.ranked
  have HR := hide hr
  have HC := hide (fun m hm => h.cells m hm)
  obtain ⟨g, cap, c0, _⟩ := h.cells n hn
  have HC1 : Hid (∀ m, m < T.length -> w.cell? ⟨g, m * 7 + 1, none⟩ = some (.int .i64 (parZ (parentN T m)))) := hide fun m hm => by
    obtain ⟨g', cap', d0, _, d1, _⟩ := HC.out m hm
    rw [c0] at d0
    injection d0 with d0
    injection d0 with d0
    injection d0 with d0
    injection d0 with d0
    subst d0
    exact d1
  have HS := hide (fun m (hm : m < T.length) (hne : ¬ m = a) => within_on hW hm hne)
  have HK := hide (fun m p (hp : parentN T m = some p) => kidsAt_lt (parent_some hp))
  have HRP := hide (fun m p (hp : parentN T m = some p) => hr p m (parent_some hp))
  generalize hR : withinL T n a = R
  have HR0 := hide hR
  clear hR hW h HC hr
  go_enter Tryz.func201, Tryz.ntmps201
  go_wp2_with fail
  go_loopw [1] (fun tn wr => Hid (wr = w) /\ ((∃ m : Nat, tn = .int .i64 (m : Int) /\ m < T.length /\ Hid (withinL T m a = R)) \/ (tn = .int .i64 (-1) /\ Hid (R = false)))) (fun tn _ => upM r tn)
  case atStart => exact ⟨hide rfl, .inl ⟨n, rfl, hn, HR0⟩⟩
  case round =>
    clear HR0
    obtain ⟨hwr, hor⟩ := hrel
    have hwr2 := hwr.out
    subst hwr2
    clear hwr
    rcases hor with ⟨m, rfl, hm, hRm⟩ | ⟨rfl, hRf⟩
    · by_cases he : m = a
      · subst he
        have hmn : ¬ (m : Int) = -1 := by omega
        have hmn2 : ((m : Int) != -1) = true := bne_iff_ne.2 hmn
        have HT : Hid (true = R) := hide (by rw [<- hRm.out, within_self])
        clear hRm
        go_wp2
        go_ret
        exact ⟨ret_bool HT.out, by first | exact Below.refl _ _ | exact below_drewN _ _⟩
      · have hmn : ¬ (m : Int) = -1 := by omega
        have hmn2 : ((m : Int) != -1) = true := bne_iff_ne.2 hmn
        have he2 : ¬ (m : Int) = (a : Int) := by omega
        have he3 : ((m : Int) != (a : Int)) = true := bne_iff_ne.2 he2
        have hmi : (m : Int) < T.length := by omega
        have c1 := HC1.out m hm
        have hs := HS.out m hm he
        cases hp : parentN T m with
        | none =>
          rw [hp] at c1 hs
          rw [parZ_none] at c1
          have HN : Hid (R = false) := hide (by rw [<- hRm.out, hs])
          clear hs hRm
          go_wp2
          go_roundw
          case rel => exact ⟨by first | exact hide rfl | exact hide trivial, .inr ⟨rfl, HN⟩⟩
          case measure =>
            show upM r (.int .i64 (-1)) < upM r (.int .i64 (m : Int))
            rw [upM_nat]
            exact Nat.succ_pos _
        | some p =>
          rw [hp] at c1 hs
          rw [show parZ (some p) = (p : Int) from rfl] at c1
          have HN : Hid (withinL T p a = R) := hide (by rw [<- hRm.out, hs])
          have HP := HK.out m p hp
          have HQ := HRP.out m p hp
          clear hs hRm
          go_wp2
          go_roundw
          case rel => exact ⟨by first | exact hide rfl | exact hide trivial, .inl ⟨p, rfl, HP, HN⟩⟩
          case measure =>
            show upM r (.int .i64 (p : Int)) < upM r (.int .i64 (m : Int))
            rw [upM_nat, upM_nat]
            omega
    · have ha : ¬ (-1 : Int) = (a : Int) := by omega
      have ha2 : ((-1 : Int) == (a : Int)) = false := beq_eq_false_iff_ne.2 ha
      go_wp2
      go_ret
      exact ⟨ret_bool hRf.out.symm, by first | exact Below.refl _ _ | exact below_drewN _ _⟩
theorem copy_ints0 (W : World) (v : Value) (l : List Nat) (hI : IsI W v l) (hl : l.length <= 1000000) :
    ∃ v' w', (Builtin.append_ #[22, 22] 22 #[.slice none 0 0, v]).run Tryz.prog W = .ok v' w' /\ w'.ownsRow W.heap.size 3 1 v' l.length (intCells l) /\ Below W.heap.size W w' := by
  rcases hI with ⟨rfl, rfl⟩ | ⟨b, o, cap, rfl, hc, hcs⟩
  · refine ⟨.slice none 0 0, W, ?_, World.ownsRow_nil W _ _ _, Below.refl _ _⟩
    simp [Builtin.append_, run_underlying (Tryz.underlying22), sizeOf, typeInfo, show Tryz.prog.info? 3 = some Tryz.t3 from by kernel_rfl, Builtin.lenOf, Builtin.firstCells, loadCells, loadCellsFrom]
  · obtain ⟨v', w', hr, ho, hg, _⟩ := run_append_own (P := Tryz.prog) W W.heap.size 22 22 3 Tryz.t3 _ 1 8 Tryz.underlying22 (by kernel_rfl) rfl (by kernel_rfl) (by kernel_rfl) (by kernel_rfl) (by omega)
      (.slice none 0 0) 0 [] (World.ownsRow_nil W _ _ _) ⟨b, o, none⟩ l.length cap (intCells l) (by simp [intCells])
      (by
        intro j u hu
        rcases Nat.lt_or_ge j l.length with hj | hj
        · rw [intCells_get l j hj] at hu
          injection hu with hu
          subst hu
          rw [show (⟨b, o, none⟩ : Addr).add j = ⟨b, o + j, none⟩ by unfold Addr.add; split <;> simp_all]
          exact hcs j hj
        · rw [List.getElem?_eq_none (by rw [intCells_len]; exact hj)] at hu
          cases hu)
      (intCells_1c l) (by unfold maxLen; omega) (by omega) (Nat.le_refl _)
    rw [Nat.zero_add] at ho
    exact ⟨v', w', hr, ho, (Below.refl _ W).grown hg (Nat.le_refl _) (by intro k hk; cases hk)⟩
theorem copy_attrs0 (W : World) (v : Value) (aa : AttrL) (hI : IsA W v aa) (hl : aa.length <= 1000000) :
    ∃ v' w', (Builtin.append_ #[43, 43] 43 #[.slice none 0 0, v]).run Tryz.prog W = .ok v' w' /\ w'.ownsRow W.heap.size 62 2 v' aa.length (attrCells aa) /\ Below W.heap.size W w' := by
  rcases hI with ⟨rfl, rfl⟩ | ⟨b, o, cap, rfl, hc, hcs⟩
  · refine ⟨.slice none 0 0, W, ?_, World.ownsRow_nil W _ _ _, Below.refl _ _⟩
    simp [Builtin.append_, run_underlying (Tryz.underlying43), sizeOf, typeInfo, show Tryz.prog.info? 62 = some Tryz.t62 from by kernel_rfl, Builtin.lenOf, Builtin.firstCells, loadCells, loadCellsFrom]
  · obtain ⟨v', w', hr, ho, hg, _⟩ := run_append_own (P := Tryz.prog) W W.heap.size 43 43 62 Tryz.t62 _ 2 32 Tryz.underlying43 (by kernel_rfl) rfl (by kernel_rfl) (by kernel_rfl) (by kernel_rfl) (by omega)
      (.slice none 0 0) 0 [] (World.ownsRow_nil W _ _ _) ⟨b, o, none⟩ aa.length cap (attrCells aa) (attrCells_len aa)
      (by
        intro j u hu
        have hj : j < (attrCells aa).length := by
          rcases Nat.lt_or_ge j (attrCells aa).length with h | h
          · exact h
          · rw [List.getElem?_eq_none h] at hu; cases hu
        rw [attrCells_len] at hj
        obtain ⟨g1, g2⟩ := attrCells_get aa (j / 2) (by omega)
        obtain ⟨c1, c2⟩ := hcs (j / 2) (by omega)
        rw [show (⟨b, o, none⟩ : Addr).add j = ⟨b, o + j, none⟩ by unfold Addr.add; split <;> simp_all]
        by_cases e : j % 2 = 0
        · rw [show j / 2 * 2 = j by omega] at g1
          rw [hu] at g1
          rw [show o + j / 2 * 2 = o + j by omega] at c1
          rw [c1, g1]
        · rw [show j / 2 * 2 + 1 = j by omega] at g2
          rw [hu] at g2
          rw [show o + j / 2 * 2 + 1 = o + j by omega] at c2
          rw [c2, g2])
      (attrCells_1c aa) (by unfold maxLen; omega) (by omega) (Nat.le_refl _)
    rw [Nat.zero_add] at ho
    exact ⟨v', w', hr, ho, (Below.refl _ W).grown hg (Nat.le_refl _) (by intro k hk; cases hk)⟩
theorem copyI_p (v : Value) (l : List Nat) (hl : l.length <= 1000000) (w : World) (hI : IsI w v l) :
    Calls Tryz.prog 199 #[v] w fun e w' => (∃ v', e = .returned v' /\ w'.ownsRow w.heap.size 3 1 v' l.length (intCells l)) /\ Below w.heap.size w w' := by
  obtain ⟨v', w', hr, ho, hb⟩ := copy_ints0 w v l hI hl
  obtain ⟨a, c, rfl⟩ := isI_form hI
  obtain ⟨a2, c2, rfl⟩ := owns_form ho
  have HR := hide hr
  have HO := hide ho
  have HB := hide hb
  clear hr ho hb hI
  go_enter Tryz.func199, Tryz.ntmps199
  go_wp2_with (with_reducible refine wpList_append_run rfl _ _ 22 rfl (.slice none 0 0) (.slice a l.length c) _ w' rfl rfl HR.out ?_)
  go_ret
  exact ⟨⟨_, rfl, HO.out⟩, HB.out⟩
theorem copyA_p (v : Value) (aa : AttrL) (hl : aa.length <= 1000000) (w : World) (hI : IsA w v aa) :
    Calls Tryz.prog 55 #[v] w fun e w' => (∃ v', e = .returned v' /\ w'.ownsRow w.heap.size 62 2 v' aa.length (attrCells aa)) /\ Below w.heap.size w w' := by
  obtain ⟨v', w', hr, ho, hb⟩ := copy_attrs0 w v aa hI hl
  obtain ⟨a, c, rfl⟩ := isA_form hI
  obtain ⟨a2, c2, rfl⟩ := owns_form ho
  have HR := hide hr
  have HO := hide ho
  have HB := hide hb
  clear hr ho hb hI
  go_enter Tryz.func55, Tryz.ntmps55
  go_wp2_with (with_reducible refine wpList_append_run rfl _ _ 43 rfl (.slice none 0 0) (.slice a aa.length c) _ w' rfl rfl HR.out ?_)
  go_ret
  exact ⟨⟨_, rfl, HO.out⟩, HB.out⟩
theorem kids_p {A : Nat -> Prop} {w : World} {pb : Nat} {T : TR} (hW : WF T) (hz : T.length <= 1000000) (z : Int) (h : PT A w pb T) :
    Calls Tryz.prog 158 #[.pointer (some ⟨pb, 0, none⟩), .int .i64 z] w fun e w' => (∃ v', e = .returned v' /\ w'.ownsRow w.heap.size 3 1 v' (kidsZ T z).length (intCells (kidsZ T z))) /\ Below w.heap.size w w' := by
  have HH := hide (has_p z h)
  rw [raw_len] at HH
  by_cases hzz : 0 <= z /\ z < T.length
  · obtain ⟨n, rfl⟩ : ∃ n : Nat, z = (n : Int) := ⟨z.toNat, by omega⟩
    have hkz : kidsZ T (n : Int) = kidsAt T n := by unfold kidsZ; rw [if_pos hzz, Int.toNat_natCast]
    rw [hkz]
    rw [decide_eq_true hzz] at HH
    have hn : n < T.length := by omega
    have hni : (n : Int) < T.length := by omega
    obtain ⟨g, cap, rs, hR, hP⟩ := h
    have hl := map_len hR
    rw [raw_len] at hl
    have hn2 : n < rs.length := by omega
    have hrn := map_get hR n hn2 (by rw [raw_len]; exact hn)
    rw [raw_get] at hrn
    have hkid := hP.kid n hn2
    rw [hrn] at hkid
    have HPV := hide hP
    have hkid2 : w.ownsRow 0 3 1 rs[n].kv (kidsAt T n).length (intCells (kidsAt T n)) := hkid
    clear hkid
    have HK := hide hkid2
    have hkl : (kidsAt T n).length <= 1000000 := by have := hW.kids_len n; omega
    have HC2 : Hid (w.cell? ⟨g, n * 7 + 2, none⟩ = some rs[n].kv) := hide (hP.cellAt n hn2 2 (by omega))
    obtain ⟨a, c, hv⟩ := owns_form hkid2
    rw [hv] at HC2 HK
    have HCP := hide (fun W => copyI_p (.slice a (kidsAt T n).length c) (kidsAt T n) hkl W)
    have hl2 := hl
    clear hP hR hkid2 hv hW hrn hzz hkz
    generalize kidsAt T n = ks at *
    go_enter Tryz.func158, Tryz.ntmps158
    go_wp2_with fail
    refine HH.out.mono ?_
    rintro e w1 ⟨rfl, b1⟩
    have c0 := (HPV.out.below b1).tree
    rw [hl2] at c0
    have c2 : w1.cell? ⟨g, n * 7 + 2, none⟩ = some (.slice a ks.length c) := by rw [b1.cell (cell_lt HC2.out)]; exact HC2.out
    have B1 := hide b1
    have HI := hide (owns_isI (owns_below HK.out b1))
    clear b1
    go_wp2_with fail
    refine (HCP.out _ HI.out).mono ?_
    rintro e w2 ⟨⟨v', rfl, ho⟩, b2⟩
    have HO : Hid (w2.ownsRow w.heap.size 3 1 v' ks.length (intCells ks)) := hide (by
      refine ⟨ho.1, ?_⟩
      rcases ho.2 with h2 | ⟨g', cap', cur', e1, e2, e3⟩
      · exact .inl h2
      · exact .inr ⟨g', cap', cur', e1, Nat.le_trans B1.out.size e2, e3⟩)
    have HB2 := hide (B1.out.trans (b2.mono B1.out.size))
    obtain ⟨a2, c2', rfl⟩ := owns_form ho
    clear ho b2
    go_wp2
    go_ret
    exact ⟨⟨_, rfl, HO.out⟩, HB2.out⟩
  · rw [decide_eq_false hzz] at HH
    have hk0 : kidsZ T z = [] := by
      unfold kidsZ
      rw [if_neg hzz]
    rw [hk0]
    clear hzz hk0 hW h
    go_enter Tryz.func158, Tryz.ntmps158
    go_wp2_with fail
    refine HH.out.mono ?_
    rintro e w1 ⟨rfl, b1⟩
    have B1 := hide b1
    clear b1
    go_wp2
    go_ret
    exact ⟨⟨_, rfl, World.ownsRow_nil _ _ _ _⟩, by first | exact B1.out | exact B1.out.trans (below_drewN _ _)⟩
end Go.Proofs.YtfohijnkeefcfaaGreatDoor.S5
namespace Go.Proofs.YtfohijnkeefcfaaGreatDoor.S5
open Go.RowKit
theorem step_append_run {P : Program} {ops : Array Oper} {o : Oper} {a : Act} {w : World} {K : Act -> World -> Prop} {Q : Exit -> Act -> World -> Prop} {E : Prop}
    (hg : o.guard = none) (d x : Operand) (dT sT : TypeId) (hop : o.op = Op.call { callee := Callee.builtin Builtin.append, args := #[d, x], argTypes := #[dT, sT] })
    (v u : Value) (hd : a.eval d = v) (hx : a.eval x = u) {v' : Value} {w' : World} (hr : (Builtin.append_ #[dT, sT] o.type #[v, u]).run P w = .ok v' w') (hK : K (a.put o.dst v') w') :
    if Region.wanted o (yielded ops a.tmps) = true then Oper.wp P o a w K Q else E := by
  have hw : Region.wanted o (yielded ops a.tmps) = true := by simp [Region.wanted, hg]
  rw [if_pos hw]
  unfold Oper.wp
  simp [execOp, hop, resolve, invoke, builtin, hd, hx, hr, Result.andThen]
  exact hK
theorem append_where {P : Program} (w : World) (t tx ty e : TypeId) (i : TypeInfo) (z : Value) (size : Nat) (ht : P.underlying t = some (.slice e)) (hi : P.info? e = some i) (hz : i.zero = some z) (hsize : i.size = size)
    (v : Value) (n : Nat) (xs : List Value) (hown : w.ownsRow 0 e size v n xs) (x : Value) (m : Nat) (news : List Value) (hs : Src P size tx x m news w) (h63 : n + m <= maxLen) (hfit : (n + m) * i.bytes <= 140737488355328) (hn0 : v = .slice none 0 0 -> m ≠ 0)
    (v' : Value) (w' : World) (hr : (Builtin.append_ #[t, tx] ty #[v, x]).run P w = .ok v' w') : ∀ k, v'.ownBlock = some k -> v.ownBlock = some k \/ w.heap.size <= k := by
  subst hsize
  intro k hk
  have h63' : ((n + m : Nat) : Int) <= 9223372036854775807 := by unfold maxLen at h63; omega
  rcases hown.2 with ⟨rfl, rfl⟩ | ⟨g, cap, cur, rfl, hbg, hg, hnc, hcm, hcs, htake⟩
  · have hm := hn0 rfl
    have h2 := run_append_grow_src w t tx ty e i z ht hi hz none 0 0 [] (run_firstCells_none w.drew i.size 0 0 0) x m news hs (by omega) h63' (growslice_fits (by omega) hfit)
    rw [hr] at h2
    injection h2 with h2
    subst h2
    have : w.heap.size = k := by simpa [Value.ownBlock] using hk
    exact .inr (by omega)
  · by_cases hroom : n + m <= cap
    · have hl : news.length = m * i.size := hs.newsLen
      have hb1 : n * i.size + m * i.size <= cap * i.size := by rw [<- Nat.add_mul]; exact Nat.mul_le_mul_right _ hroom
      have h2 := run_append_room_src w t tx ty e i ht hi g 0 n cap x m news hs hroom (fun j hj => by
        simp only [World.cell?, hg]
        rw [hl] at hj
        have : 0 + n * i.size + j < cur.size := by rw [hcs]; omega
        rw [Nat.zero_add] at this
        simp [this]) (fun j hj => by simp [World.frozen?, hg])
      rw [hr] at h2
      injection h2 with h2
      subst h2
      exact .inl hk
    · have h2 := run_append_grow_src w t tx ty e i z ht hi hz (some ⟨g, 0, none⟩) n cap xs (run_firstCells_some w.drew i.size n ⟨g, 0, none⟩ n cap xs hown.1 (hown.cells (g := g) rfl)) x m news hs (by omega) h63' (growslice_fits (by omega) hfit)
      rw [hr] at h2
      injection h2 with h2
      subst h2
      have : w.heap.size = k := by simpa [Value.ownBlock] using hk
      exact .inr (by omega)
def andTwo (A : Nat -> Prop) (av tv : Value) (n : Nat) : Nat -> Prop := fun k => A k \/ av.ownBlock = some k \/ tv.ownBlock = some k \/ n <= k
theorem PV.push {A : Nat -> Prop} {w w1 : World} {pb g cap g' cap' : Nat} {rs : List RV} (h : PV A w pb g cap rs) (d : ND) (av tv : Value) (hA : IsA w av d.attrs) (hT : OwnB w tv d.text)
    (hav : ∀ k, av.ownBlock = some k -> ¬ A k /\ k < w.heap.size) (htv : ∀ k, tv.ownBlock = some k -> ¬ A k /\ k < w.heap.size) (hor : av.ownBlock = none \/ tv.ownBlock = none)
    (hrow : w1.ownsRow 0 89 7 (.slice (some ⟨g', 0, none⟩) (rs.length + 1) cap') (rs.length + 1) (rvCells (rs ++ [⟨⟨d, -1, []⟩, .slice none 0 0, av, tv⟩]))) (hg' : g' = g \/ w.heap.size <= g') (hz : w.heap.size <= w1.heap.size)
    (hk : ∀ k, k < w.heap.size -> k ≠ g -> w1.heap[k]? = w.heap[k]?) :
    PV (andTwo A av tv w.heap.size) (w1.setCell ⟨pb, 0, none⟩ (.slice (some ⟨g', 0, none⟩) (rs.length + 1) cap')) pb g' cap' (rs ++ [⟨⟨d, -1, []⟩, .slice none 0 0, av, tv⟩]) := by
  generalize hr' : (⟨⟨d, -1, []⟩, .slice none 0 0, av, tv⟩ : RV) = r' at *
  have rkv : r'.kv = .slice none 0 0 := by rw [<- hr']
  have rav : r'.av = av := by rw [<- hr']
  have rtv : r'.tv = tv := by rw [<- hr']
  have hpb := h.lt .tree pb rfl
  have hpg : pb ≠ g := fun e => by have := h.sep .tree .row pb rfl (by rw [e]; rfl); cases this
  have hpg' : pb ≠ g' := by
    rcases hg' with e | e
    · rw [e]; exact hpg
    · omega
  have hp1 : w1.heap[pb]? = w.heap[pb]? := hk pb hpb hpg
  have hold : ∀ s, s ≠ .row -> (∀ k, slotB pb g rs s = some k -> (w1.setCell ⟨pb, 0, none⟩ (.slice (some ⟨g', 0, none⟩) (rs.length + 1) cap')).heap[k]? = w.heap[k]? \/ s = .tree) := fun s hs k e => by
    by_cases ht : s = .tree
    · exact .inr ht
    · left
      have h1 : k ≠ pb := fun e2 => ht (h.sep s .tree k e (by rw [e2]; rfl))
      have h2 : k ≠ g := fun e2 => hs (h.sep s .row k e (by rw [e2]; rfl))
      rw [Below.heap_setCell _ _ _ _ h1]
      exact hk k (h.lt s k e) h2
  have hnew : ∀ k, k < w.heap.size -> ¬ A k -> (w1.setCell ⟨pb, 0, none⟩ (.slice (some ⟨g', 0, none⟩) (rs.length + 1) cap')).heap[k]? = w.heap[k]? := fun k hk1 hk2 => by
    have h1 : k ≠ pb := fun e2 => hk2 (e2 ▸ h.inA .tree pb rfl)
    have h2 : k ≠ g := fun e2 => hk2 (e2 ▸ h.inA .row g rfl)
    rw [Below.heap_setCell _ _ _ _ h1]
    exact hk k hk1 h2
  have hgl : ∀ i, i < rs.length -> (rs ++ [r'])[i]? = rs[i]? := fun i hi => List.getElem?_append_left hi
  have hgn : (rs ++ [r'])[rs.length]? = some r' := by simp
  have hgo : ∀ i, rs.length < i -> (rs ++ [r'])[i]? = none := fun i hi => List.getElem?_eq_none (by simp; omega)
  -- the slots, old ones and new ones
  have slots : ∀ s k, slotB pb g' (rs ++ [r']) s = some k -> (s ≠ .row /\ slotB pb g rs s = some k) \/ (s = .row /\ k = g') \/ (s = .att rs.length /\ av.ownBlock = some k) \/ (s = .txt rs.length /\ tv.ownBlock = some k) := by
    intro s k e
    cases s using Sl.ind with
    | tree => exact .inl ⟨by simp, e⟩
    | row => exact .inr (.inl ⟨rfl, by simpa [slotB] using e.symm⟩)
    | kid i =>
      rcases Nat.lt_trichotomy i rs.length with hi | hi | hi
      · left
        simp only [slotB, hgl i hi] at e ⊢
        exact ⟨by simp, e⟩
      · subst hi
        simp only [slotB, hgn, Option.bind_some, rkv] at e
        cases e
      · simp only [slotB, hgo i hi] at e
        cases e
    | att i =>
      rcases Nat.lt_trichotomy i rs.length with hi | hi | hi
      · left
        simp only [slotB, hgl i hi] at e ⊢
        exact ⟨by simp, e⟩
      · subst hi
        simp only [slotB, hgn, Option.bind_some, rav] at e
        exact .inr (.inr (.inl ⟨rfl, e⟩))
      · simp only [slotB, hgo i hi] at e
        cases e
    | txt i =>
      rcases Nat.lt_trichotomy i rs.length with hi | hi | hi
      · left
        simp only [slotB, hgl i hi] at e ⊢
        exact ⟨by simp, e⟩
      · subst hi
        simp only [slotB, hgn, Option.bind_some, rtv] at e
        exact .inr (.inr (.inr ⟨rfl, e⟩))
      · simp only [slotB, hgo i hi] at e
        cases e
  have oldA : ∀ s k, slotB pb g rs s = some k -> A k := h.inA
  have rowA : ∀ k, k = g' -> A k \/ w.heap.size <= k := fun k e => by
    rcases hg' with e2 | e2
    · exact .inl (e ▸ e2 ▸ h.inA .row g rfl)
    · exact .inr (by omega)
  have sepN : Apart (slotB pb g' (rs ++ [r'])) := by
    intro s t k e1 e2
    have rowOld : ∀ s', s' ≠ .row -> slotB pb g rs s' = some k -> k = g' -> False := fun s' hs e3 e4 => by
      rcases hg' with e5 | e5
      · exact hs (h.sep s' .row k e3 (by rw [e4, e5]; rfl))
      · have := h.lt s' k e3
        omega
    have fresh : ∀ (k : Nat), (¬ A k /\ k < w.heap.size) -> k ≠ g' := fun k hk e => by
      rcases rowA k e with h1 | h1
      · exact hk.1 h1
      · omega
    rcases slots s k e1 with ⟨a1, a2⟩ | ⟨a1, a2⟩ | ⟨a1, a2⟩ | ⟨a1, a2⟩ <;> rcases slots t k e2 with ⟨b1, b2⟩ | ⟨b1, b2⟩ | ⟨b1, b2⟩ | ⟨b1, b2⟩
    · exact h.sep s t k a2 b2
    · exact (rowOld s a1 a2 b2).elim
    · exact ((hav k b2).1 (oldA s k a2)).elim
    · exact ((htv k b2).1 (oldA s k a2)).elim
    · exact (rowOld t b1 b2 a2).elim
    · rw [a1, b1]
    · exact (fresh k (hav k b2) a2).elim
    · exact (fresh k (htv k b2) a2).elim
    · exact ((hav k a2).1 (oldA t k b2)).elim
    · exact (fresh k (hav k a2) b2).elim
    · rw [a1, b1]
    · rcases hor with h1 | h1
      · rw [h1] at a2; cases a2
      · rw [h1] at b2; cases b2
    · exact ((htv k a2).1 (oldA t k b2)).elim
    · exact (fresh k (htv k a2) b2).elim
    · rcases hor with h1 | h1
      · rw [h1] at b2; cases b2
      · rw [h1] at a2; cases a2
    · rw [a1, b1]
  have hlen : (rs ++ [r']).length = rs.length + 1 := by simp
  have hat : ∀ i (hi : i < (rs ++ [r']).length), (∃ hi2 : i < rs.length, (rs ++ [r'])[i] = rs[i]) \/ (i = rs.length /\ (rs ++ [r'])[i] = r') := fun i hi => by
    by_cases h1 : i < rs.length
    · exact .inl ⟨h1, List.getElem_append_left h1⟩
    · have h2 : i = rs.length := by omega
      subst h2
      exact .inr ⟨rfl, by simp⟩
  refine ⟨?_, ?_, ?_, fun i hi => ?_, fun i hi => ?_, fun i hi k e => ?_, fun i hi => ?_, sepN, fun s k e => ?_⟩
  · rw [hlen]
    exact World.cell?_setCell_same _ _ _ (by rw [World.cell?_of_block (a := ⟨pb, 0, none⟩) hp1, h.tree])
  · rw [World.frozen?_setCell, World.frozen?_of_block (a := ⟨pb, 0, none⟩) hp1]
    exact h.treeF
  · rw [hlen]
    refine ownsRow_keep hrow fun k e => ?_
    have : g' = k := by simpa [Value.ownBlock] using e
    exact Below.heap_setCell _ _ _ _ (by rw [<- this]; exact fun e => hpg' e.symm)
  · rcases hat i hi with ⟨hi2, e1⟩ | ⟨_, e1⟩
    · rw [e1]
      exact ownsRow_keep (h.kid i hi2) fun k e => (hold (.kid i) (by simp) k (by rw [slot_kid pb g rs i hi2]; exact e)).resolve_right (by simp)
    · rw [e1, rkv, <- hr']
      exact World.ownsRow_nil _ _ _ _
  · rcases hat i hi with ⟨hi2, e1⟩ | ⟨_, e1⟩
    · rw [e1]
      exact isA_keep (h.att i hi2) fun k e => (hold (.att i) (by simp) k (by rw [slot_att pb g rs i hi2]; exact e)).resolve_right (by simp)
    · rw [e1, rav, <- hr']
      exact isA_keep hA fun k e => hnew k (hav k e).2 (hav k e).1
  · have hs : (w1.setCell ⟨pb, 0, none⟩ (.slice (some ⟨g', 0, none⟩) (rs.length + 1) cap')).heap.size = w1.heap.size := by simp [World.setCell]
    rw [hs]
    rcases hat i hi with ⟨hi2, e1⟩ | ⟨_, e1⟩
    · rw [e1] at e
      exact Nat.lt_of_lt_of_le (h.attL i hi2 k e) hz
    · rw [e1, rav] at e
      exact Nat.lt_of_lt_of_le (hav k e).2 hz
  · rcases hat i hi with ⟨hi2, e1⟩ | ⟨_, e1⟩
    · rw [e1]
      exact (h.txt i hi2).keep fun k e => (hold (.txt i) (by simp) k (by rw [slot_txt pb g rs i hi2]; exact e)).resolve_right (by simp)
    · rw [e1, rtv, <- hr']
      exact hT.keep fun k e => hnew k (htv k e).2 (htv k e).1
  · rcases slots s k e with ⟨_, a2⟩ | ⟨_, a2⟩ | ⟨_, a2⟩ | ⟨_, a2⟩
    · exact .inl (oldA s k a2)
    · rcases rowA k a2 with h1 | h1
      · exact .inl h1
      · exact .inr (.inr (.inr h1))
    · exact .inr (.inl a2)
    · exact .inr (.inr (.inl a2))
end Go.Proofs.YtfohijnkeefcfaaGreatDoor.S5
namespace Go.Proofs.YtfohijnkeefcfaaGreatDoor.S5
open Go.RowKit
theorem rv1c {r : RV} {a1 a2 a3 : Option Addr} {n1 n2 n3 c1 c2 c3 : Nat} (h1 : r.kv = .slice a1 n1 c1) (h2 : r.av = .slice a2 n2 c2) (h3 : r.tv = .slice a3 n3 c3) : ∀ u ∈ rvC r, u.oneCell' = true := by
  intro u hu
  simp only [rvC, h1, h2, h3, List.mem_cons, List.not_mem_nil, or_false] at hu
  rcases hu with rfl | rfl | rfl | rfl | rfl | rfl | rfl <;> rfl
theorem more_p {A : Nat -> Prop} {w : World} {pb : Nat} {R : List RN} (hl0 : 0 < R.length) (hl : R.length < 2000) (d : ND) (q0 : Int) (av tv : Value) (hA : IsA w av d.attrs) (hT : OwnB w tv d.text)
    (hav : ∀ k, av.ownBlock = some k -> ¬ A k /\ k < w.heap.size) (htv : ∀ k, tv.ownBlock = some k -> ¬ A k /\ k < w.heap.size) (hor : av.ownBlock = none \/ tv.ownBlock = none) (h : PA A w pb R) :
    Calls Tryz.prog 163 #[.pointer (some ⟨pb, 0, none⟩), .agg #[.int .i64 d.kind, .int .i64 q0, .slice none 0 0, .int .i64 d.space, .string ⟨d.name.toArray⟩, av, tv]] w fun e w' => e = .returned (.int .i64 (R.length : Int)) /\ PA (andTwo A av tv w.heap.size) w' pb (R ++ [⟨d, -1, []⟩]) /\ ButA A w w' := by
  obtain ⟨aa, ac, hav2⟩ := isA_form hA
  obtain ⟨ta, tc, htv2⟩ := hT.form
  have bA := below_alloc w (.cells #[.int .i64 d.kind, .int .i64 q0, .slice none 0 0, .int .i64 d.space, .string ⟨d.name.toArray⟩, av, tv] 89)
  have BA := hide bA
  have HL := hide (fun W (hW : PA A W pb R) => len_p hW)
  have HPA := hide (h.below bA)
  have HPA0 := hide h
  have KO := hide (Kept.new w [.int .i64 d.kind, .int .i64 q0, .slice none 0 0, .int .i64 d.space, .string ⟨d.name.toArray⟩, av, tv] 89)
  have hli : (R.length : Int) < 2000 := by omega
  have hl0i : ¬ (R.length : Int) = 0 := by omega
  have hl0b : ((R.length : Int) == 0) = false := beq_eq_false_iff_ne.2 hl0i
  have HA := hide hA
  have HTX := hide hT
  clear bA h hA hT
  rw [hav2, htv2] at KO HPA BA ⊢
  go_enter Tryz.func163, Tryz.ntmps163
  go_wp2_with fail
  refine (HL.out _ HPA.out).mono ?_
  rintro e w1 ⟨rfl, b1⟩
  have K1 := hide (KO.out.below b1)
  have P1 := hide (HPA.out.below b1)
  have B1 := hide (BA.out.trans (b1.mono BA.out.size))
  have y1 : w1.cell? ⟨w.heap.size, 1, none⟩ = some (.int .i64 q0) := K1.out.1 1
  have yf : w1.frozen? ⟨w.heap.size, 1, none⟩ = false := K1.out.2 1
  clear b1
  go_wp2_with fail
  have hK2 : Kept (w1.setCell ⟨w.heap.size, 1, none⟩ (.int .i64 (-1))) w.heap.size [.int .i64 d.kind, .int .i64 (-1), .slice none 0 0, .int .i64 d.space, .string ⟨d.name.toArray⟩, .slice aa d.attrs.length ac, .slice ta d.text.length tc] := by
    refine ⟨fun o => ?_, fun o => by rw [World.frozen?_setCell]; exact K1.out.2 o⟩
    by_cases ho : o = 1
    · subst ho
      exact World.cell?_setCell_same _ _ _ y1
    · rw [World.cell?_setCell_other _ _ _ _ (by intro e; injection e with _ e _; exact ho e.symm), K1.out.1 o]
      match o, ho with
      | 0, _ => rfl
      | 1, h => exact absurd rfl h
      | (o + 2), _ => rfl
  have hB2 : Below w.heap.size w (w1.setCell ⟨w.heap.size, 1, none⟩ (.int .i64 (-1))) := B1.out.setCell (Nat.le_refl _) _
  have hP2 : PA A (w1.setCell ⟨w.heap.size, 1, none⟩ (.int .i64 (-1))) pb R := by
    obtain ⟨g, cap, rs, hR, hP⟩ := HPA0.out
    exact ⟨g, cap, rs, hR, hP.below hB2⟩
  clear y1 yf K1 P1 B1 HL HPA BA KO
  generalize w1.setCell ⟨w.heap.size, 1, none⟩ (.int .i64 (-1)) = W2 at *
  clear w1
  have k0 : W2.cell? ⟨w.heap.size, 0, none⟩ = some (.int .i64 d.kind) := hK2.1 0
  have k1 : W2.cell? ⟨w.heap.size, 1, none⟩ = some (.int .i64 (-1)) := hK2.1 1
  have k2 : W2.cell? ⟨w.heap.size, 2, none⟩ = some (.slice none 0 0) := hK2.1 2
  have k3 : W2.cell? ⟨w.heap.size, 3, none⟩ = some (.int .i64 d.space) := hK2.1 3
  have k4 : W2.cell? ⟨w.heap.size, 4, none⟩ = some (.string ⟨d.name.toArray⟩) := hK2.1 4
  have k5 : W2.cell? ⟨w.heap.size, 5, none⟩ = some (.slice aa d.attrs.length ac) := hK2.1 5
  have k6 : W2.cell? ⟨w.heap.size, 6, none⟩ = some (.slice ta d.text.length tc) := hK2.1 6
  have hw2 : w.heap.size < W2.heap.size := hK2.lt
  obtain ⟨g, cap, rs, hR, hP⟩ := hP2
  have hlr := map_len hR
  have c0 := hP.tree
  rw [hlr] at c0
  have cF := hP.treeF
  have hpb : pb < W2.heap.size := cell_lt c0
  -- the new row of one
  have bO := below_alloc W2 (.cells #[.int .i64 d.kind, .int .i64 (-1), .slice none 0 0, .int .i64 d.space, .string ⟨d.name.toArray⟩, .slice aa d.attrs.length ac, .slice ta d.text.length tc] 89)
  have c0a : (W2.alloc (.cells #[.int .i64 d.kind, .int .i64 (-1), .slice none 0 0, .int .i64 d.space, .string ⟨d.name.toArray⟩, .slice aa d.attrs.length ac, .slice ta d.text.length tc] 89)).cell? ⟨pb, 0, none⟩ = some (.slice (some ⟨g, 0, none⟩) R.length cap) := by rw [bO.cell (cell_lt c0)]; exact c0
  have hPO := (hP.below bO).keep (W := (W2.alloc (.cells #[.int .i64 d.kind, .int .i64 (-1), .slice none 0 0, .int .i64 d.space, .string ⟨d.name.toArray⟩, .slice aa d.attrs.length ac, .slice ta d.text.length tc] 89)).drew) (Nat.le_refl _) (fun _ _ _ => rfl)
  have hrow := hPO.row
  rw [hlr] at hrow
  have hnl : ([.int .i64 d.kind, .int .i64 (-1), .slice none 0 0, .int .i64 d.space, .string ⟨d.name.toArray⟩, .slice aa d.attrs.length ac, .slice ta d.text.length tc] : List Value).length = 1 * 7 := rfl
  have hnews : ∀ j u, ([.int .i64 d.kind, .int .i64 (-1), .slice none 0 0, .int .i64 d.space, .string ⟨d.name.toArray⟩, .slice aa d.attrs.length ac, .slice ta d.text.length tc] : List Value)[j]? = some u -> (W2.alloc (.cells #[.int .i64 d.kind, .int .i64 (-1), .slice none 0 0, .int .i64 d.space, .string ⟨d.name.toArray⟩, .slice aa d.attrs.length ac, .slice ta d.text.length tc] 89)).drew.cell? ((⟨W2.heap.size, 0, none⟩ : Addr).add j) = some u := by
    intro j u hu
    rw [addr_add]
    refine (World.cell?_alloc_mark W2 _ _ _ j).trans ?_
    simpa using hu
  have h1c : ∀ u ∈ ([.int .i64 d.kind, .int .i64 (-1), .slice none 0 0, .int .i64 d.space, .string ⟨d.name.toArray⟩, .slice aa d.attrs.length ac, .slice ta d.text.length tc] : List Value), u.oneCell' = true := rv1c (r := ⟨⟨d, -1, []⟩, .slice none 0 0, .slice aa d.attrs.length ac, .slice ta d.text.length tc⟩) rfl rfl rfl
  obtain ⟨v', w', hr, ho, hgw, _⟩ := run_append_own (P := Tryz.prog) _ 0 90 90 89 Tryz.t89 _ 7 112 Tryz.underlying90 (by kernel_rfl) rfl (by kernel_rfl) (by kernel_rfl) (by kernel_rfl) (by omega)
    _ _ _ hrow ⟨W2.heap.size, 0, none⟩ 1 1 _ hnl hnews h1c (by unfold maxLen; omega) (by omega) (Nat.zero_le _)
  have hwh := append_where (P := Tryz.prog) _ 90 90 90 89 Tryz.t89 _ 7 Tryz.underlying90 (by kernel_rfl) rfl (by kernel_rfl) _ _ _ hrow _ 1 _ (Src.ofSlice _ Tryz.underlying90 ⟨W2.heap.size, 0, none⟩ 1 1 _ hnl hnews h1c) (by unfold maxLen; omega) (by show _ * 112 <= _; omega) (by intro e; cases e) v' w' hr
  obtain ⟨g', cap', rfl⟩ : ∃ g' cap', v' = .slice (some ⟨g', 0, none⟩) (R.length + 1) cap' := by
    rcases ho.2 with ⟨_, h0⟩ | ⟨g', cap', cur, hv, _⟩
    · omega
    · exact ⟨g', cap', hv⟩
  have hszO : (W2.alloc (.cells #[.int .i64 d.kind, .int .i64 (-1), .slice none 0 0, .int .i64 d.space, .string ⟨d.name.toArray⟩, .slice aa d.attrs.length ac, .slice ta d.text.length tc] 89)).drew.heap.size = W2.heap.size + 1 := by simp
  have hgg : g' = g \/ W2.heap.size <= g' := by
    rcases hwh g' rfl with h1 | h1
    · left
      have : some g = some g' := h1
      injection this with this
      exact this.symm
    · right; omega
  have hkk : ∀ k, k < W2.heap.size -> k ≠ g -> w'.heap[k]? = W2.heap[k]? := fun k hk hne => by
    rw [hgw.block k (by rw [hszO]; omega) (by intro e; apply hne; injection e)]
    exact bO.block k hk
  have hszw : W2.heap.size <= w'.heap.size := by have := hgw.size; rw [hszO] at this; omega
  have hpg : pb ≠ g := fun e => by have := hP.sep .tree .row pb rfl (by rw [e]; rfl); cases this
  have cw : w'.cell? ⟨pb, 0, none⟩ = some (.slice (some ⟨g, 0, none⟩) R.length cap) := cell_same (hkk pb hpb hpg) c0
  have cwF : w'.frozen? ⟨pb, 0, none⟩ = false := by rw [World.frozen?_of_block (a := ⟨pb, 0, none⟩) (hkk pb hpb hpg)]; exact cF
  have hfin := hP.push (w1 := w') (g' := g') (cap' := cap') d (.slice aa d.attrs.length ac) (.slice ta d.text.length tc) (by rw [<- hav2]; exact HA.out.below hB2) (by rw [<- htv2]; exact HTX.out.keep fun k e => hB2.block k (htv k e).2) (fun k e => ⟨(hav k (by rw [hav2]; exact e)).1, by have := (hav k (by rw [hav2]; exact e)).2; omega⟩) (fun k e => ⟨(htv k (by rw [htv2]; exact e)).1, by have := (htv k (by rw [htv2]; exact e)).2; omega⟩) (by rw [<- hav2, <- htv2]; exact hor)
    (by
      rw [hlr, rvCells_app]
      exact ho) hgg hszw hkk
  rw [hlr] at hfin
  have HF : Hid (PA (andTwo A (.slice aa d.attrs.length ac) (.slice ta d.text.length tc) w.heap.size) (w'.setCell ⟨pb, 0, none⟩ (.slice (some ⟨g', 0, none⟩) (R.length + 1) cap')) pb (R ++ [⟨d, -1, []⟩])) := hide ⟨g', cap', _, by rw [List.map_append, hR]; rfl, hfin.mono (by
    rintro k (h | h | h | h)
    · exact .inl h
    · exact .inr (.inl h)
    · exact .inr (.inr (.inl h))
    · exact .inr (.inr (.inr (by omega))))⟩
  have hgA : A g := hP.inA .row g rfl
  have HBT : Hid (ButA A w (w'.setCell ⟨pb, 0, none⟩ (.slice (some ⟨g', 0, none⟩) (R.length + 1) cap'))) := hide (by
    refine ButA.setCell ⟨hgw.os.trans hB2.os, hgw.tape.trans hB2.tape, hgw.output.trans hB2.output, by have := hB2.size; omega, fun k hk hn => ?_⟩ (.inl (hP.inA .tree pb rfl)) _
    rw [hkk k (by omega) (by rintro rfl; exact hn hgA)]
    exact hB2.block k hk)
  have HR := hide hr
  clear hr ho hgw hwh hfin hkk hrow hPO hP hR hnews h1c hnl HA HTX HPA0 hav htv hor bO hK2 hB2 cF hgA hgg hlr
  go_region_law (refine step_append_run rfl (.tmp 20) (.tmp 22) 90 90 rfl (.slice (some ⟨g, 0, none⟩) R.length cap) (.slice (some ⟨W2.heap.size, 0, none⟩) 1 1) (by simp [Act.eval, Act.put]) (by simp [Act.eval, Act.put]) HR.out ?_)
  all_goals
    go_wp2
    go_ret
    exact ⟨rfl, HF.out, HBT.out⟩
end Go.Proofs.YtfohijnkeefcfaaGreatDoor.S5
namespace Go.Proofs.YtfohijnkeefcfaaGreatDoor.S5
open Go.RowKit
def makeL (T : TR) (d : ND) : TR × Int := if T.length < 2000 then (pushL T d, (T.length : Int)) else (T, -1)
theorem more_full {A : Nat -> Prop} {w : World} {pb : Nat} {R : List RN} (hl : 2000 <= R.length) (hz : R.length <= 1000000) (d : ND) (q0 : Int) (av tv : Value) (hA : IsA w av d.attrs) (hT : OwnB w tv d.text) (h : PA A w pb R) :
    Calls Tryz.prog 163 #[.pointer (some ⟨pb, 0, none⟩), .agg #[.int .i64 d.kind, .int .i64 q0, .slice none 0 0, .int .i64 d.space, .string ⟨d.name.toArray⟩, av, tv]] w fun e w' => e = .returned (.int .i64 (-1)) /\ Below w.heap.size w w' := by
  obtain ⟨aa, ac, hav2⟩ := isA_form hA
  obtain ⟨ta, tc, htv2⟩ := hT.form
  have bA := below_alloc w (.cells #[.int .i64 d.kind, .int .i64 q0, .slice none 0 0, .int .i64 d.space, .string ⟨d.name.toArray⟩, av, tv] 89)
  have BA := hide bA
  have HL := hide (fun W (hW : PA A W pb R) => len_p hW)
  have HPA := hide (h.below bA)
  have hli : ¬ (R.length : Int) < 2000 := by omega
  have hli2 : (2000 : Int) <= (R.length : Int) := by omega
  have hl0i : ¬ (R.length : Int) = 0 := by omega
  have hl0b : ((R.length : Int) == 0) = false := beq_eq_false_iff_ne.2 hl0i
  clear bA h hA hT
  rw [hav2, htv2] at HPA BA ⊢
  go_enter Tryz.func163, Tryz.ntmps163
  go_wp2_with fail
  refine (HL.out _ HPA.out).mono ?_
  rintro e w1 ⟨rfl, b1⟩
  have B1 := hide (BA.out.trans (b1.mono BA.out.size))
  clear b1
  go_wp2
  go_ret
  exact ⟨rfl, B1.out⟩
def Made (A : Nat -> Prop) (w : World) (pb : Nat) (T : TR) (d : ND) (e : Ending) (w' : World) : Prop := e = .returned (.int .i64 (makeL T d).2) /\ PT (andNew A w.heap.size) w' pb (makeL T d).1 /\ ButA A w w'
theorem made_of {A : Nat -> Prop} {w w1 : World} {pb : Nat} {T : TR} (hW : WF T) (h0 : 0 < T.length) (hl : T.length <= 2000) (hA : ∀ k, A k -> k < w.heap.size) (d : ND) (q0 : Int) (av tv : Value) (b1 : Below w.heap.size w w1) (hAv : IsA w1 av d.attrs) (hTv : OwnB w1 tv d.text)
    (hav : ∀ k, av.ownBlock = some k -> w.heap.size <= k /\ k < w1.heap.size) (htv : ∀ k, tv.ownBlock = some k -> w.heap.size <= k) (hor : av.ownBlock = none \/ tv.ownBlock = none) (h : PT A w pb T) :
    Calls Tryz.prog 163 #[.pointer (some ⟨pb, 0, none⟩), .agg #[.int .i64 d.kind, .int .i64 q0, .slice none 0 0, .int .i64 d.space, .string ⟨d.name.toArray⟩, av, tv]] w1 (Made A w pb T d) := by
  have h1 := h.below b1
  have hnA : ∀ k, w.heap.size <= k -> ¬ A k := fun k hk ha => by have := hA k ha; omega
  by_cases hc : T.length < 2000
  · refine (more_p (R := rawOf T) (by rw [raw_len]; exact h0) (by rw [raw_len]; exact hc) d q0 av tv hAv hTv (fun k e => ⟨hnA k (hav k e).1, (hav k e).2⟩) (fun k e => ⟨hnA k (htv k e), hTv.lt k e⟩) hor h1).mono ?_
    rintro e w2 ⟨rfl, h2, h3⟩
    have hm : makeL T d = (pushL T d, (T.length : Int)) := by unfold makeL; rw [if_pos hc]
    refine ⟨by rw [hm, raw_len], ?_, (ButA.of b1).trans h3 fun j _ h => h⟩
    rw [hm]
    rw [push_raw hW d] at h2
    refine PT.mono h2 ?_
    rintro k (h | h | h | h)
    · exact .inl h
    · exact .inr (hav k h).1
    · exact .inr (htv k h)
    · exact .inr (Nat.le_trans b1.size h)
  · refine (more_full (R := rawOf T) (by rw [raw_len]; omega) (by rw [raw_len]; omega) d q0 av tv hAv hTv h1).mono ?_
    rintro e w2 ⟨rfl, b2⟩
    have hm : makeL T d = (T, -1) := by unfold makeL; rw [if_neg hc]
    refine ⟨by rw [hm], ?_, ButA.of (b1.trans (b2.mono b1.size))⟩
    rw [hm]
    exact (h1.below b2).mono fun k h => .inl h
theorem conv_text (w : World) (s : ByteArray) (hs : s.size <= 1000000000) : ∃ a c, (convert 9 60 (.string s)).run Tryz.prog w = .ok (.slice a s.data.toList.length c) (Lib.bytesWorld w 5 s) /\ OwnB (Lib.bytesWorld w 5 s) (.slice a s.data.toList.length c) s.data.toList /\ (∀ k, (Value.slice a s.data.toList.length c).ownBlock = some k -> w.heap.size <= k) /\ Below w.heap.size w (Lib.bytesWorld w 5 s) := by
  have hge := grownCap_ge w s.size 0 5
  have hcm := grownCap_le_maxLen w s.size 0 5 (by unfold maxLen; omega)
  have hr := Lib.run_convert_string_bytes w 9 60 5 s Tryz.underlying9 Tryz.underlying60 Tryz.underlying5
  rw [size_list s] at hr hge hcm
  have hcs : (Lib.bytesCells w 5 s).size = grownCap w s.data.toList.length 0 5 := by
    unfold Lib.bytesCells
    rw [size_list s]
    simp at hge ⊢
    omega
  refine ⟨_, _, hr, .inr ⟨w.heap.size, _, _, _, rfl, Lib.bytesWorld_at_new w 5 s, ?_, hge, hcm, hcs, ?_⟩, ?_, ⟨rfl, rfl, rfl, by rw [Lib.bytesWorld_size]; omega, fun k hk => Lib.bytesWorld_at_old w 5 s k hk⟩⟩
  · intro j hj
    show (match (Lib.bytesWorld w 5 s).heap[w.heap.size]? with | some (.cells _ _ (lo, hi)) => decide (lo <= j) && decide (j < hi) | _ => false) = false
    rw [Lib.bytesWorld_at_new]
    show (decide ((Lib.bytesCells w 5 s).size <= j) && decide (j < (Lib.bytesCells w 5 s).size + 1)) = false
    rw [decide_eq_false (by rw [hcs]; omega)]
    rfl
  · unfold Lib.bytesCells textCells
    rw [Array.toList_append, List.take_append_of_le_length (by simp), List.take_of_length_le (by simp)]
    simp
  · intro k hk
    have : w.heap.size = k := by simpa [Value.ownBlock] using hk
    omega
theorem ownB_nil (w : World) : OwnB w (.slice none 0 0) [] := .inl ⟨rfl, rfl⟩
theorem text_p {A : Nat -> Prop} {w : World} {pb : Nat} {T : TR} (hW : WF T) (h0 : 0 < T.length) (hl : T.length <= 2000) (hA : ∀ k, A k -> k < w.heap.size) (s : ByteArray) (hs : s.size <= 1000000000) (h : PT A w pb T) :
    Calls Tryz.prog 110 #[.pointer (some ⟨pb, 0, none⟩), .string s] w (Made A w pb T { kind := 2, text := s.data.toList }) := by
  obtain ⟨a, c, hr, hO, hn, hb⟩ := conv_text w s hs
  have HM := hide (made_of hW h0 hl hA { kind := 2, text := s.data.toList } 0 (.slice none 0 0) (.slice a s.data.toList.length c) hb (.inl ⟨rfl, rfl⟩) hO (by intro k e; cases e) hn (.inl rfl) h)
  generalize Lib.bytesWorld w 5 s = w1 at *
  clear hO hn hb hW h hA h0
  go_enter Tryz.func110, Tryz.ntmps110
  go_wp2_with fail
  refine HM.out.mono ?_
  rintro e w2 ⟨rfl, h2, h3⟩
  have HF := hide (And.intro h2 h3)
  clear h2 h3
  go_wp2
  go_ret
  exact ⟨rfl, HF.out.1, HF.out.2⟩
theorem own_lt {w : World} {B n : Nat} {e : TypeId} {z : Nat} {v : Value} {xs : List Value} (h : w.ownsRow B e z v n xs) : ∀ k, v.ownBlock = some k -> B <= k /\ k < w.heap.size := h.lt
theorem element_p {A : Nat -> Prop} {w : World} {pb : Nat} {T : TR} (hW : WF T) (h0 : 0 < T.length) (hl : T.length <= 2000) (hA : ∀ k, A k -> k < w.heap.size) (sp : Int) (s : ByteArray) (v : Value) (aa : AttrL) (haa : aa.length <= 1000000) (hv : IsA w v aa) (h : PT A w pb T) :
    Calls Tryz.prog 166 #[.pointer (some ⟨pb, 0, none⟩), .int .i64 sp, .string s, v] w (Made A w pb T { kind := 1, space := sp, name := s.data.toList, attrs := aa }) := by
  have HC := hide (copyA_p v aa haa w hv)
  obtain ⟨va, vc, rfl⟩ := isA_form hv
  have HM := hide (fun w1 av b1 hAv hav => made_of (w1 := w1) hW h0 hl hA { kind := 1, space := sp, name := s.data.toList, attrs := aa } 0 av (.slice none 0 0) b1 hAv (ownB_nil w1) hav (by intro k e; cases e) (.inr rfl) h)
  have hss : (⟨s.data.toList.toArray⟩ : ByteArray) = s := by simp
  simp only [hss] at HM
  clear hW h hA h0 hv
  go_enter Tryz.func166, Tryz.ntmps166
  go_wp2_with fail
  refine HC.out.mono ?_
  rintro e w1 ⟨⟨v', rfl, ho⟩, b1⟩
  have HMM := hide (HM.out w1 v' b1 (owns_isA ho) (own_lt ho))
  obtain ⟨a2, c2, rfl⟩ := owns_form ho
  clear ho b1 HM HC
  go_wp2_with fail
  refine HMM.out.mono ?_
  rintro e w2 ⟨rfl, h2, h3⟩
  have HF := hide (And.intro h2 h3)
  clear h2 h3
  go_wp2
  go_ret
  exact ⟨rfl, HF.out.1, HF.out.2⟩
end Go.Proofs.YtfohijnkeefcfaaGreatDoor.S5
namespace Go.Proofs.YtfohijnkeefcfaaGreatDoor.S5
open Go.RowKit
def Acted (A : Nat -> Prop) (w : World) (pb : Nat) (r : TR × Int) (e : Ending) (w' : World) : Prop := e = .returned (.int .i64 r.2) /\ PT (andNew A w.heap.size) w' pb r.1 /\ ButA A w w'
theorem acted_same {A : Nat -> Prop} {w w1 : World} {pb : Nat} {T : TR} (h : PT A w pb T) (b : Below w.heap.size w w1) : PT (andNew A w.heap.size) w1 pb T /\ ButA A w w1 := ⟨(h.below b).mono fun k h => .inl h, ButA.of b⟩
theorem pnew_p (w : World) : Calls Tryz.prog 29 #[] w fun e w' => (∃ pb, e = .returned (.pointer (some ⟨pb, 0, none⟩)) /\ PT (fun k => w.heap.size <= k /\ k < w'.heap.size) w' pb newL) /\ Below w.heap.size w w' := by
  go_enter Tryz.func29, Tryz.ntmps29
  go_wp2
  go_ret
  have b0 := below_alloc w (.cells #[.int .i64 0, .int .i64 (-1), .slice none 0 0, .int .i64 0, .string ⟨#[]⟩, .slice none 0 0, .slice none 0 0] 89)
  have hb := b0.alloc b0.size (.cells #[.slice (some ⟨w.heap.size, 0, none⟩) 1 1] 92)
  have hg := heap_alloc2_old w (.cells #[.int .i64 0, .int .i64 (-1), .slice none 0 0, .int .i64 0, .string ⟨#[]⟩, .slice none 0 0, .slice none 0 0] 89) (.cells #[.slice (some ⟨w.heap.size, 0, none⟩) 1 1] 92)
  have hp := heap_alloc2_new w (.cells #[.int .i64 0, .int .i64 (-1), .slice none 0 0, .int .i64 0, .string ⟨#[]⟩, .slice none 0 0, .slice none 0 0] 89) (.cells #[.slice (some ⟨w.heap.size, 0, none⟩) 1 1] 92)
  have hs : ((w.alloc (.cells #[.int .i64 0, .int .i64 (-1), .slice none 0 0, .int .i64 0, .string ⟨#[]⟩, .slice none 0 0, .slice none 0 0] 89)).alloc (.cells #[.slice (some ⟨w.heap.size, 0, none⟩) 1 1] 92)).heap.size = w.heap.size + 1 + 1 := by simp
  refine ⟨⟨w.heap.size + 1, rfl, w.heap.size, 1, [⟨⟨{}, -1, []⟩, .slice none 0 0, .slice none 0 0, .slice none 0 0⟩], by rw [new_raw]; rfl, ?_⟩, hb⟩
  have sl : ∀ s k, slotB (w.heap.size + 1) w.heap.size [⟨⟨{}, -1, []⟩, .slice none 0 0, .slice none 0 0, .slice none 0 0⟩] s = some k -> (s = .tree /\ k = w.heap.size + 1) \/ (s = .row /\ k = w.heap.size) := by
    intro s k e
    cases s using Sl.ind with
    | tree => exact .inl ⟨rfl, by simpa [slotB] using e.symm⟩
    | row => exact .inr ⟨rfl, by simpa [slotB] using e.symm⟩
    | kid i => cases i <;> simp [slotB, Value.ownBlock] at e
    | att i => cases i <;> simp [slotB, Value.ownBlock] at e
    | txt i => cases i <;> simp [slotB, Value.ownBlock] at e
  refine ⟨by simp only [World.cell?, hp]; rfl, by simp only [World.frozen?, hp]; simp, ⟨rfl, .inr ⟨w.heap.size, 1, _, rfl, Nat.zero_le _, hg, Nat.le_refl _, by unfold maxLen; decide, rfl, rfl⟩⟩, fun i hi => ?_, fun i hi => ?_, fun i hi k e => ?_, fun i hi => ?_, ?_, ?_⟩
  · obtain rfl : i = 0 := by simpa using hi
    exact World.ownsRow_nil _ _ _ _
  · obtain rfl : i = 0 := by simpa using hi
    exact .inl ⟨rfl, rfl⟩
  · obtain rfl : i = 0 := by simpa using hi
    cases e
  · obtain rfl : i = 0 := by simpa using hi
    exact ownB_nil _
  · intro s t k e1 e2
    rcases sl s k e1 with ⟨a1, a2⟩ | ⟨a1, a2⟩ <;> rcases sl t k e2 with ⟨b1, b2⟩ | ⟨b1, b2⟩
    · rw [a1, b1]
    · omega
    · omega
    · rw [a1, b1]
  · intro s k e
    rw [hs]
    rcases sl s k e with ⟨_, a2⟩ | ⟨_, a2⟩ <;> omega
theorem append_p {A : Nat -> Prop} {w : World} {pb : Nat} {T : TR} (hW : WF T) (hz : T.length <= 1000000) (zp zc : Int) (h : PT A w pb T) :
    Calls Tryz.prog 160 #[.pointer (some ⟨pb, 0, none⟩), .int .i64 zp, .int .i64 zc] w (Acted A w pb (appendZ T zp zc)) := by
  have HPT := hide h
  have HI1 := hide (fun W (hP : PT A W pb T) => has_p zp hP)
  have HI2 := hide (fun W (hP : PT A W pb T) => has_p zc hP)
  rw [raw_len] at HI1 HI2
  have B1 := hide (Below.refl w.heap.size w)
  unfold appendZ
  by_cases hp : inT T zp
  · rw [show decide (0 <= zp /\ zp < T.length) = true from decide_eq_true hp] at HI1
    by_cases hc : inT T zc
    · rw [show decide (0 <= zc /\ zc < T.length) = true from decide_eq_true hc] at HI2
      rw [if_pos ⟨hp, hc⟩]
      obtain ⟨p, rfl⟩ : ∃ p : Nat, zp = (p : Int) := ⟨zp.toNat, by unfold inT at hp; omega⟩
      obtain ⟨c, rfl⟩ : ∃ c : Nat, zc = (c : Int) := ⟨zc.toNat, by unfold inT at hc; omega⟩
      have hpl : p < T.length := by unfold inT at hp; omega
      have hcl : c < T.length := by unfold inT at hc; omega
      have hpi : (p : Int) < T.length := by omega
      rw [Int.toNat_natCast, Int.toNat_natCast]
      clear hp hc
      obtain ⟨g, cap, c0, hG, c1, ck, _⟩ := h.cells p hpl
      have HC0 := hide c0
      have HWI := hide (fun W (hP : PT A W pb T) => within_p hW hz p c hpl hP)
      have HTO := hide (fun W (hP : PT A W pb T) => takeOut_p hW hz c hcl hP)
      have HC1 := hide ck
      have HHO : Hid (∀ W, Below w.heap.size w W -> Calls Tryz.prog 200 #[.pointer (some ⟨g, p * 7, none⟩)] W fun e w' => e = .returned (.bool (holdsL T p)) /\ Below W.heap.size W w') := hide fun W b => by
        have := holds_p (hG.below b) p (by rw [raw_len]; exact hpl)
        rw [raw_get] at this
        exact this
      clear c0 c1 ck hG
      cases hh : holdsL T p with
      | false =>
        rw [hh] at HHO
        rw [Bool.false_and, if_neg (by decide)]
        clear hW h
        go_enter Tryz.func160, Tryz.ntmps160
        go_wp2_with fail
        refine (HI1.out _ (HPT.out.below B1.out)).mono ?_
        rintro e x1 ⟨rfl, b1⟩
        replace B1 := hide (B1.out.trans (b1.mono B1.out.size))
        clear b1
        go_wp2_with fail
        refine (HI2.out _ (HPT.out.below B1.out)).mono ?_
        rintro e x2 ⟨rfl, b1⟩
        replace B1 := hide (B1.out.trans (b1.mono B1.out.size))
        try clear d0 d1
        have d0 := (B1.out.cell (cell_lt HC0.out)).trans HC0.out
        have d1 := (B1.out.cell (cell_lt HC1.out)).trans HC1.out
        clear b1
        go_wp2_with fail
        refine (HHO.out _ B1.out).mono ?_
        rintro e x3 ⟨rfl, b1⟩
        replace B1 := hide (B1.out.trans (b1.mono B1.out.size))
        try clear d0 d1
        clear b1
        go_wp2_with fail
        have HF := hide (acted_same HPT.out B1.out)
        go_ret
        exact ⟨rfl, HF.out.1, HF.out.2⟩
      | true =>
        rw [hh] at HHO
        rw [Bool.true_and]
        by_cases hc0 : c = 0
        · subst hc0
          rw [if_neg (by simp)]
          clear hW h
          go_enter Tryz.func160, Tryz.ntmps160
          go_wp2_with fail
          refine (HI1.out _ (HPT.out.below B1.out)).mono ?_
          rintro e x4 ⟨rfl, b1⟩
          replace B1 := hide (B1.out.trans (b1.mono B1.out.size))
          clear b1
          go_wp2_with fail
          refine (HI2.out _ (HPT.out.below B1.out)).mono ?_
          rintro e x5 ⟨rfl, b1⟩
          replace B1 := hide (B1.out.trans (b1.mono B1.out.size))
          try clear d0 d1
          have d0 := (B1.out.cell (cell_lt HC0.out)).trans HC0.out
          have d1 := (B1.out.cell (cell_lt HC1.out)).trans HC1.out
          clear b1
          go_wp2_with fail
          refine (HHO.out _ B1.out).mono ?_
          rintro e x6 ⟨rfl, b1⟩
          replace B1 := hide (B1.out.trans (b1.mono B1.out.size))
          try clear d0 d1
          clear b1
          go_wp2_with fail
          have HF := hide (acted_same HPT.out B1.out)
          go_ret
          exact ⟨rfl, HF.out.1, HF.out.2⟩
        · have hc0' : ¬ (c : Int) = 0 := by omega
          have hc0b : ((c : Int) == 0) = false := beq_eq_false_iff_ne.2 hc0'
          rw [hc0b, Bool.not_false, Bool.true_and]
          cases hw : withinL T p c with
          | true =>
            rw [hw] at HWI
            rw [Bool.not_true, if_neg (by decide)]
            clear hW h
            go_enter Tryz.func160, Tryz.ntmps160
            go_wp2_with fail
            refine (HI1.out _ (HPT.out.below B1.out)).mono ?_
            rintro e x7 ⟨rfl, b1⟩
            replace B1 := hide (B1.out.trans (b1.mono B1.out.size))
            clear b1
            go_wp2_with fail
            refine (HI2.out _ (HPT.out.below B1.out)).mono ?_
            rintro e x8 ⟨rfl, b1⟩
            replace B1 := hide (B1.out.trans (b1.mono B1.out.size))
            try clear d0 d1
            have d0 := (B1.out.cell (cell_lt HC0.out)).trans HC0.out
            have d1 := (B1.out.cell (cell_lt HC1.out)).trans HC1.out
            clear b1
            go_wp2_with fail
            refine (HHO.out _ B1.out).mono ?_
            rintro e x9 ⟨rfl, b1⟩
            replace B1 := hide (B1.out.trans (b1.mono B1.out.size))
            try clear d0 d1
            clear b1
            go_wp2_with fail
            refine (HWI.out _ (HPT.out.below B1.out)).mono ?_
            rintro e x10 ⟨rfl, b1⟩
            replace B1 := hide (B1.out.trans (b1.mono B1.out.size))
            clear b1
            go_wp2_with fail
            have HF := hide (acted_same HPT.out B1.out)
            go_ret
            exact ⟨rfl, HF.out.1, HF.out.2⟩
          | false =>
            rw [hw] at HWI
            rw [Bool.not_false, if_pos rfl]
            have hu : ¬ Up T c p := fun hup => by rw [(within_iff hW hpl).2 hup] at hw; cases hw
            have HRAW := hide (append_raw hW hpl hcl (by omega) hu)
            have hkl := (hW.out c).kids_len p
            rw [out_len] at hkl
            have HKL := hide hkl
            clear hW h hu hkl
            go_enter Tryz.func160, Tryz.ntmps160
            go_wp2_with fail
            refine (HI1.out _ (HPT.out.below B1.out)).mono ?_
            rintro e x11 ⟨rfl, b1⟩
            replace B1 := hide (B1.out.trans (b1.mono B1.out.size))
            clear b1
            go_wp2_with fail
            refine (HI2.out _ (HPT.out.below B1.out)).mono ?_
            rintro e x12 ⟨rfl, b1⟩
            replace B1 := hide (B1.out.trans (b1.mono B1.out.size))
            try clear d0 d1
            have d0 := (B1.out.cell (cell_lt HC0.out)).trans HC0.out
            have d1 := (B1.out.cell (cell_lt HC1.out)).trans HC1.out
            clear b1
            go_wp2_with fail
            refine (HHO.out _ B1.out).mono ?_
            rintro e x13 ⟨rfl, b1⟩
            replace B1 := hide (B1.out.trans (b1.mono B1.out.size))
            try clear d0 d1
            clear b1
            go_wp2_with fail
            refine (HWI.out _ (HPT.out.below B1.out)).mono ?_
            rintro e x14 ⟨rfl, b1⟩
            replace B1 := hide (B1.out.trans (b1.mono B1.out.size))
            clear b1
            go_wp2_with fail
            refine (HTO.out _ (HPT.out.below B1.out)).mono ?_
            rintro e y1 ⟨rfl, h2, h3⟩
            have hB3 : ButA A w y1 := (ButA.of B1.out).trans h3 fun j _ h => h
            have HB3 := hide hB3
            have h2' := h2.mono (B := andNew A w.heap.size) (by
              rintro k (h | h)
              · exact .inl h
              · exact .inr (Nat.le_trans B1.out.size h))
            have HP2 := hide h2'
            have hol : p < (rawOf (outL T c)).length := by rw [raw_len, out_len]; exact hpl
            have hks : (rawOf (outL T c))[p].kids = kidsAt (outL T c) p := by rw [raw_get]; rfl
            have HPU := hide (put_p (R := rawOf (outL T c)) (by rw [raw_len, out_len]; exact hz) p (kidsAt (outL T c) p).length c hol (by rw [raw_len, out_len]; exact hcl) (by rw [hks]; exact Nat.le_refl _) (by rw [hks]; have := HKL.out; omega) h2')
            rw [hks] at HPU
            rw [show insL (kidsAt (outL T c) p) (kidsAt (outL T c) p).length c = kidsAt (outL T c) p ++ [c] by simp [insL], HRAW.out] at HPU
            obtain ⟨g2, cap2, rs2, hR2, hP2⟩ := h2'
            have hl2 := map_len hR2
            rw [raw_len, out_len] at hl2
            have hp2 : p < rs2.length := by omega
            have e0 := hP2.tree
            rw [hl2] at e0
            have e2 : y1.cell? ⟨g2, p * 7 + 2, none⟩ = some rs2[p].kv := hP2.cellAt p hp2 2 (by omega)
            have hk2 := hP2.kid p hp2
            rw [map_get hR2 p hp2 hol, hks] at hk2
            obtain ⟨ka, kc, ek⟩ := owns_form hk2
            rw [ek] at e2
            clear h2 h3 hB3 hk2 ek hP2 hR2 hks
            generalize (kidsAt (outL T c) p).length = m at *
            try clear d0 d1
            go_wp2_with fail
            refine HPU.out.mono ?_
            rintro e y2 ⟨rfl, h4, h5⟩
            have HF : Hid (PT (andNew A w.heap.size) y2 pb (appendL T p c) /\ ButA A w y2) := hide ⟨PT.mono h4 (by
              rintro k ((h | h) | h)
              · exact .inl h
              · exact .inr h
              · exact .inr (Nat.le_trans HB3.out.size h)), HB3.out.trans' h5⟩
            clear h4 h5 e0 e2
            go_wp2
            go_ret
            exact ⟨rfl, HF.out.1, HF.out.2⟩
    · rw [show decide (0 <= zc /\ zc < T.length) = false from decide_eq_false hc] at HI2
      rw [if_neg (fun h => hc h.2)]
      clear hW h hp hc
      go_enter Tryz.func160, Tryz.ntmps160
      go_wp2_with fail
      refine (HI1.out _ (HPT.out.below B1.out)).mono ?_
      rintro e x15 ⟨rfl, b1⟩
      replace B1 := hide (B1.out.trans (b1.mono B1.out.size))
      clear b1
      go_wp2_with fail
      refine (HI2.out _ (HPT.out.below B1.out)).mono ?_
      rintro e x16 ⟨rfl, b1⟩
      replace B1 := hide (B1.out.trans (b1.mono B1.out.size))
      clear b1
      go_wp2_with fail
      have HF := hide (acted_same HPT.out B1.out)
      go_ret
      exact ⟨rfl, HF.out.1, HF.out.2⟩
  · rw [show decide (0 <= zp /\ zp < T.length) = false from decide_eq_false hp] at HI1
    rw [if_neg (fun h => hp h.1)]
    clear hW h hp
    go_enter Tryz.func160, Tryz.ntmps160
    go_wp2_with fail
    refine (HI1.out _ (HPT.out.below B1.out)).mono ?_
    rintro e x17 ⟨rfl, b1⟩
    replace B1 := hide (B1.out.trans (b1.mono B1.out.size))
    clear b1
    go_wp2_with fail
    have HF := hide (acted_same HPT.out B1.out)
    go_ret
    exact ⟨rfl, HF.out.1, HF.out.2⟩
theorem before_p {A : Nat -> Prop} {w : World} {pb : Nat} {T : TR} (hW : WF T) (hz : T.length <= 1000000) (zp zc : Int) (h : PT A w pb T) :
    Calls Tryz.prog 161 #[.pointer (some ⟨pb, 0, none⟩), .int .i64 zp, .int .i64 zc] w (Acted A w pb (beforeZ T zp zc)) := by
  have HPT := hide h
  have HI1 := hide (fun W (hP : PT A W pb T) => has_p zp hP)
  have HI2 := hide (fun W (hP : PT A W pb T) => has_p zc hP)
  rw [raw_len] at HI1 HI2
  have B1 := hide (Below.refl w.heap.size w)
  unfold beforeZ
  by_cases hp : inT T zp
  · rw [show decide (0 <= zp /\ zp < T.length) = true from decide_eq_true hp] at HI1
    by_cases hc : inT T zc
    · rw [show decide (0 <= zc /\ zc < T.length) = true from decide_eq_true hc] at HI2
      rw [if_pos ⟨hp, hc⟩]
      obtain ⟨p, rfl⟩ : ∃ p : Nat, zp = (p : Int) := ⟨zp.toNat, by unfold inT at hp; omega⟩
      obtain ⟨c, rfl⟩ : ∃ c : Nat, zc = (c : Int) := ⟨zc.toNat, by unfold inT at hc; omega⟩
      have hpl : p < T.length := by unfold inT at hp; omega
      have hcl : c < T.length := by unfold inT at hc; omega
      have hpi : (p : Int) < T.length := by omega
      rw [Int.toNat_natCast, Int.toNat_natCast]
      clear hp hc
      obtain ⟨g, cap, c0, hG, c1, ck, _⟩ := h.cells p hpl
      have HC0 := hide c0
      have HWI := hide (fun W (hP : PT A W pb T) => within_p hW hz p c hpl hP)
      have HTO := hide (fun W (hP : PT A W pb T) => takeOut_p hW hz c hcl hP)
      have HC1 := hide c1
      clear c0 c1 ck hG
      cases hp : parentN T p with
      | none =>
        rw [hp] at HC1
        rw [parZ_none] at HC1
        simp only []
        clear hW h
        go_enter Tryz.func161, Tryz.ntmps161
        go_wp2_with fail
        refine (HI1.out _ (HPT.out.below B1.out)).mono ?_
        rintro e x18 ⟨rfl, b1⟩
        replace B1 := hide (B1.out.trans (b1.mono B1.out.size))
        clear b1
        go_wp2_with fail
        refine (HI2.out _ (HPT.out.below B1.out)).mono ?_
        rintro e x19 ⟨rfl, b1⟩
        replace B1 := hide (B1.out.trans (b1.mono B1.out.size))
        try clear d0 d1
        have d0 := (B1.out.cell (cell_lt HC0.out)).trans HC0.out
        have d1 := (B1.out.cell (cell_lt HC1.out)).trans HC1.out
        clear b1
        go_wp2_with fail
        have HF := hide (acted_same HPT.out B1.out)
        go_ret
        exact ⟨rfl, HF.out.1, HF.out.2⟩
      | some u =>
        rw [hp] at HC1
        rw [show parZ (some u) = (u : Int) from rfl] at HC1
        simp only []
        have hun : ¬ (u : Int) = -1 := by omega
        have hub : ((u : Int) == -1) = false := beq_eq_false_iff_ne.2 hun
        have hrm := parent_some hp
        have hul := kidsAt_lt hrm
        have hui : (u : Int) < T.length := by omega
        by_cases hc0 : c = 0
        · subst hc0
          rw [if_neg (by simp)]
          clear hW h hrm hp
          go_enter Tryz.func161, Tryz.ntmps161
          go_wp2_with fail
          refine (HI1.out _ (HPT.out.below B1.out)).mono ?_
          rintro e x20 ⟨rfl, b1⟩
          replace B1 := hide (B1.out.trans (b1.mono B1.out.size))
          clear b1
          go_wp2_with fail
          refine (HI2.out _ (HPT.out.below B1.out)).mono ?_
          rintro e x21 ⟨rfl, b1⟩
          replace B1 := hide (B1.out.trans (b1.mono B1.out.size))
          try clear d0 d1
          have d0 := (B1.out.cell (cell_lt HC0.out)).trans HC0.out
          have d1 := (B1.out.cell (cell_lt HC1.out)).trans HC1.out
          clear b1
          go_wp2_with fail
          have HF := hide (acted_same HPT.out B1.out)
          go_ret
          exact ⟨rfl, HF.out.1, HF.out.2⟩
        · have hc0' : ¬ (c : Int) = 0 := by omega
          have hc0b : ((c : Int) == 0) = false := beq_eq_false_iff_ne.2 hc0'
          rw [hc0b, Bool.not_false, Bool.true_and]
          cases hw : withinL T p c with
          | true =>
            rw [hw] at HWI
            rw [Bool.not_true, if_neg (by decide)]
            clear hW h hrm hp
            go_enter Tryz.func161, Tryz.ntmps161
            go_wp2_with fail
            refine (HI1.out _ (HPT.out.below B1.out)).mono ?_
            rintro e x22 ⟨rfl, b1⟩
            replace B1 := hide (B1.out.trans (b1.mono B1.out.size))
            clear b1
            go_wp2_with fail
            refine (HI2.out _ (HPT.out.below B1.out)).mono ?_
            rintro e x23 ⟨rfl, b1⟩
            replace B1 := hide (B1.out.trans (b1.mono B1.out.size))
            try clear d0 d1
            have d0 := (B1.out.cell (cell_lt HC0.out)).trans HC0.out
            have d1 := (B1.out.cell (cell_lt HC1.out)).trans HC1.out
            clear b1
            go_wp2_with fail
            refine (HWI.out _ (HPT.out.below B1.out)).mono ?_
            rintro e x24 ⟨rfl, b1⟩
            replace B1 := hide (B1.out.trans (b1.mono B1.out.size))
            clear b1
            go_wp2_with fail
            have HF := hide (acted_same HPT.out B1.out)
            go_ret
            exact ⟨rfl, HF.out.1, HF.out.2⟩
          | false =>
            rw [hw] at HWI
            rw [Bool.not_false, if_pos rfl]
            have hu : ¬ Up T c p := fun hup => by rw [(within_iff hW hpl).2 hup] at hw; cases hw
            have HRAW := hide (before_raw hW hrm hcl (by omega) hu)
            have hkl := (hW.out c).kids_len u
            rw [out_len] at hkl
            have hnd := (hW.out c).nodup u
            have hne : ¬ p = c := fun e => hu (e ▸ .refl)
            have hro : p ∈ kidsAt (outL T c) u := by
              rw [kids_out hW, List.mem_filter]
              exact ⟨hrm, by simp [hne]⟩
            obtain ⟨i, hi, hii⟩ := List.mem_iff_getElem.1 hro
            have HIN := hide (ahead_ins p c _ i hi hii hnd)
            have HND := hide hnd
            have HKL := hide hkl
            have HII := hide hii
            have HI := hide hi
            clear hW h hu hkl hnd hro hii hrm hp
            go_enter Tryz.func161, Tryz.ntmps161
            go_wp2_with fail
            refine (HI1.out _ (HPT.out.below B1.out)).mono ?_
            rintro e x25 ⟨rfl, b1⟩
            replace B1 := hide (B1.out.trans (b1.mono B1.out.size))
            clear b1
            go_wp2_with fail
            refine (HI2.out _ (HPT.out.below B1.out)).mono ?_
            rintro e x26 ⟨rfl, b1⟩
            replace B1 := hide (B1.out.trans (b1.mono B1.out.size))
            try clear d0 d1
            have d0 := (B1.out.cell (cell_lt HC0.out)).trans HC0.out
            have d1 := (B1.out.cell (cell_lt HC1.out)).trans HC1.out
            clear b1
            go_wp2_with fail
            refine (HWI.out _ (HPT.out.below B1.out)).mono ?_
            rintro e x27 ⟨rfl, b1⟩
            replace B1 := hide (B1.out.trans (b1.mono B1.out.size))
            clear b1
            go_wp2_with fail
            refine (HTO.out _ (HPT.out.below B1.out)).mono ?_
            rintro e y1 ⟨rfl, h2, h3⟩
            have hB3 : ButA A w y1 := (ButA.of B1.out).trans h3 fun j _ h => h
            have HB3 := hide hB3
            have h2' := h2.mono (B := andNew A w.heap.size) (by
              rintro k (h | h)
              · exact .inl h
              · exact .inr (Nat.le_trans B1.out.size h))
            have hol : u < (rawOf (outL T c)).length := by rw [raw_len, out_len]; exact hul
            have hks : (rawOf (outL T c))[u].kids = kidsAt (outL T c) u := by rw [raw_get]; rfl
            have HPU := hide (put_p (R := rawOf (outL T c)) (by rw [raw_len, out_len]; exact hz) u i c hol (by rw [raw_len, out_len]; exact hcl) (by rw [hks]; exact Nat.le_of_lt HI.out) (by rw [hks]; have := HKL.out; omega) h2')
            rw [hks] at HPU
            rw [show insL (kidsAt (outL T c) u) i c = aheadL p c (kidsAt (outL T c) u) from HIN.out.symm, HRAW.out] at HPU
            obtain ⟨g2, hG2⟩ := h2'
            have hPL := placeOf_p hG2 u hol i (by rw [hks]; exact HI.out) (by rw [hks]; exact HND.out) (by rw [hks]; have := HKL.out; omega)
            simp only [hks] at hPL
            rw [HII.out] at hPL
            have HPL := hide hPL
            obtain ⟨cap2, rs2, hR2, hP2⟩ := hG2
            have hl2 := map_len hR2
            rw [raw_len, out_len] at hl2
            have e0 := hP2.tree
            rw [hl2] at e0
            clear h2 h3 hB3 hP2 hR2 hks hPL
            try clear d0 d1
            go_wp2_with fail
            refine HPL.out.mono ?_
            rintro e y3 ⟨rfl, rfl⟩
            go_wp2_with fail
            refine HPU.out.mono ?_
            rintro e y2 ⟨rfl, h4, h5⟩
            have HF : Hid (PT (andNew A w.heap.size) y2 pb (beforeL T u p c) /\ ButA A w y2) := hide ⟨PT.mono h4 (by
              rintro k ((h | h) | h)
              · exact .inl h
              · exact .inr h
              · exact .inr (Nat.le_trans HB3.out.size h)), HB3.out.trans' h5⟩
            clear h4 h5 e0
            go_wp2
            go_ret
            exact ⟨rfl, HF.out.1, HF.out.2⟩
    · rw [show decide (0 <= zc /\ zc < T.length) = false from decide_eq_false hc] at HI2
      rw [if_neg (fun h => hc h.2)]
      clear hW h hp hc
      go_enter Tryz.func161, Tryz.ntmps161
      go_wp2_with fail
      refine (HI1.out _ (HPT.out.below B1.out)).mono ?_
      rintro e x28 ⟨rfl, b1⟩
      replace B1 := hide (B1.out.trans (b1.mono B1.out.size))
      clear b1
      go_wp2_with fail
      refine (HI2.out _ (HPT.out.below B1.out)).mono ?_
      rintro e x29 ⟨rfl, b1⟩
      replace B1 := hide (B1.out.trans (b1.mono B1.out.size))
      clear b1
      go_wp2_with fail
      have HF := hide (acted_same HPT.out B1.out)
      go_ret
      exact ⟨rfl, HF.out.1, HF.out.2⟩
  · rw [show decide (0 <= zp /\ zp < T.length) = false from decide_eq_false hp] at HI1
    rw [if_neg (fun h => hp h.1)]
    clear hW h hp
    go_enter Tryz.func161, Tryz.ntmps161
    go_wp2_with fail
    refine (HI1.out _ (HPT.out.below B1.out)).mono ?_
    rintro e x30 ⟨rfl, b1⟩
    replace B1 := hide (B1.out.trans (b1.mono B1.out.size))
    clear b1
    go_wp2_with fail
    have HF := hide (acted_same HPT.out B1.out)
    go_ret
    exact ⟨rfl, HF.out.1, HF.out.2⟩
end Go.Proofs.YtfohijnkeefcfaaGreatDoor.S5
