import Derived.Test.YtfohijnkeefcfaaGreatDoorKn23
import Derived.Laws.IdiomCopy
import Derived.Deep.RegionLaw
set_option linter.unusedVariables false
set_option linter.unusedSimpArgs false
set_option maxRecDepth 100000
set_option maxHeartbeats 8000000
namespace Go.Proofs.YtfohijnkeefcfaaGreatDoor.S7
open Go.RowKit
theorem step_append_run {P : Program} {ops : Array Oper} {o : Oper} {a : Act} {w : World} {K : Act -> World -> Prop} {Q : Exit -> Act -> World -> Prop} {E : Prop} (hgd : o.guard = none) (s x : Operand) (t : TypeId)
    (ho : o.op = .call { callee := .builtin .append, args := #[s, x], argTypes := #[t, t] }) (v1 v2 v' : Value) (w' : World) (hs : a.eval s = v1) (hx : a.eval x = v2)
    (hr : (Builtin.append_ #[t, t] o.type #[v1, v2]).run P w = .ok v' w') (hK : K (a.put o.dst v') w') : if Region.wanted o (yielded ops a.tmps) = true then Oper.wp P o a w K Q else E := by
  have hw : Region.wanted o (yielded ops a.tmps) = true := by simp [Region.wanted, hgd]
  rw [if_pos hw]
  unfold Oper.wp execOp
  simp only [ho, resolve, invoke, builtin, Sem.run_bind, Sem.run_pure, Result.andThen_ok, List.map_toArray, List.map_cons, List.map_nil, hs, hx, hr]
  exact hK
def RoomM (w : World) (g n : Nat) : Prop := ∀ j, j < n * 3 -> (w.cell? ⟨g, j, none⟩).isSome = true /\ w.frozen? ⟨g, j, none⟩ = false
def LaidM (w : World) (g o : Nat) (l : List MV) : Prop := ∀ j u, (markCells l)[j]? = some u -> w.cell? ⟨g, o * 3 + j, none⟩ = some u
theorem below_setCells {B : Nat} {a : World} (b : Nat) (hb : B <= b) : ∀ (vs : List Value) (o : Nat) {w : World}, Below B a w -> Below B a (w.setCells b o vs)
  | [], _, _, h => h
  | v :: r, o, _, h => below_setCells b hb r (o + 1) (h.setCell (p := ⟨b, o, none⟩) hb v)
theorem row_cells {w : World} {a : Option Addr} {n c : Nat} {l : List MV} (h : RowM w (.slice a n c) l) (h0 : 0 < l.length) : ∃ b o, a = some ⟨b, o, none⟩ /\ ∀ j u, (markCells l)[j]? = some u -> w.cell? ⟨b, o + j, none⟩ = some u := by
  obtain ⟨b, o, rfl, -⟩ := h.get 0 h0
  refine ⟨b, o, rfl, fun j u hu => ?_⟩
  have hj : j < (markCells l).length := (List.getElem?_eq_some_iff.1 hu).1
  rw [markCells_len] at hj
  have hq : j / 3 < l.length := by omega
  have hgt := markCells_get l (j / 3) hq (j % 3) (by omega)
  rw [show j / 3 * 3 + j % 3 = j by omega, hu] at hgt
  obtain ⟨b', o', e, c0, c1, c2⟩ := h.get (j / 3) hq
  simp only [Option.some.injEq, Addr.mk.injEq, and_true] at e
  obtain ⟨rfl, rfl⟩ := e
  rcases (by omega : j % 3 = 0 \/ j % 3 = 1 \/ j % 3 = 2) with h | h | h
  · rw [h] at hgt
    rw [show o + j = o + j / 3 * 3 by omega, c0, hgt]; rfl
  · rw [h] at hgt
    rw [show o + j = o + j / 3 * 3 + 1 by omega, c1, hgt]; rfl
  · rw [h] at hgt
    rw [show o + j = o + j / 3 * 3 + 2 by omega, c2, hgt]; rfl
theorem run_copy_three (w : World) (b o dLen dCap : Nat) (a : Addr) (sLen sCap n : Nat) (cs : List Value) (hn : n = Nat.min sLen dLen) (hl : cs.length = n * 3)
    (hsrc : ∀ j v, cs[j]? = some v -> w.cell? (a.add j) = some v) (hc : ∀ j, j < cs.length -> (w.cell? ⟨b, o + j, none⟩).isSome = true) (hf : ∀ j, j < cs.length -> w.frozen? ⟨b, o + j, none⟩ = false) (h1 : ∀ v ∈ cs, v.oneCell' = true) :
    (Builtin.copy_ #[51, 51] 3 #[.slice (some ⟨b, o, none⟩) dLen dCap, .slice (some a) sLen sCap]).run Tryz.prog w = .ok (.int .i64 (n : Int)) (w.setCells b o cs) := by
  have hfc := run_firstCells_some (P := Tryz.prog) w 3 n a sLen sCap cs hl hsrc
  have hst := run_storeCells_cells (P := Tryz.prog) b o cs 0 w (by simpa using hc) (by simpa using hf) h1
  have hsz : (sizeOf 179).run Tryz.prog w = .ok 3 w := Tryz.sizeOf179 w
  simp [Builtin.copy_, run_underlying Tryz.underlying51, Builtin.lenOf, hsz, <- hn, hfc, hst, goInt]
theorem run_copy_zero (w : World) (da a : Option Addr) (dLen dCap sCap : Nat) :
    (Builtin.copy_ #[51, 51] 3 #[.slice da dLen dCap, .slice a 0 sCap]).run Tryz.prog w = .ok (.int .i64 0) w := by
  have hsz : (sizeOf 179).run Tryz.prog w = .ok 3 w := Tryz.sizeOf179 w
  have hfc : (Builtin.firstCells 3 0 (.slice a 0 sCap)).run Tryz.prog w = .ok #[] w := by
    cases a with
    | none => exact run_firstCells_none w 3 0 0 sCap
    | some x => exact run_firstCells_some w 3 0 x 0 sCap [] rfl (by simp)
  cases da <;> simp [Builtin.copy_, run_underlying Tryz.underlying51, Builtin.lenOf, hsz, hfc, goInt, storeCells]
theorem copy_marks (W : World) (B g n o dl dc : Nat) (v : Value) (l : List MV) (hg : B <= g) (hroom : RoomM W g n) (hfit : o + l.length <= n) (hd : l.length <= dl) (hM : RowM W v l) (hOk : OkM W l) :
    ∃ w', (Builtin.copy_ #[51, 51] 3 #[.slice (some ⟨g, o * 3, none⟩) dl dc, v]).run Tryz.prog W = .ok (.int .i64 (l.length : Int)) w' /\ RoomM w' g n /\ LaidM w' g o l /\ (∀ o' l', o' + l'.length <= o -> LaidM W g o' l' -> LaidM w' g o' l') /\ Below B W w' := by
  obtain ⟨a, c, rfl⟩ := rowM_form hM
  by_cases h0 : l.length = 0
  · obtain rfl := List.eq_nil_of_length_eq_zero h0
    exact ⟨W, run_copy_zero W _ a dl dc c, hroom, fun j u hu => by simp [markCells] at hu, fun _ _ _ h => h, Below.refl _ _⟩
  · obtain ⟨b, o1, rfl, hcs⟩ := row_cells hM (by omega)
    have hlen := markCells_len l
    refine ⟨_, run_copy_three W g (o * 3) dl dc ⟨b, o1, none⟩ l.length c l.length (markCells l) (Nat.min_eq_left hd).symm hlen (fun j u hu => by rw [addr_add]; exact hcs j u hu) (fun j hj => (hroom _ (by omega)).1) (fun j hj => (hroom _ (by omega)).2) (markCells_1c l hOk), ?_, ?_, ?_, below_setCells g hg _ _ (Below.refl _ _)⟩
    · intro j hj
      refine ⟨?_, by rw [World.frozen?_setCells]; exact (hroom j hj).2⟩
      by_cases hin : o * 3 <= j /\ j < o * 3 + l.length * 3
      · obtain ⟨i, rfl⟩ : ∃ i, j = o * 3 + i := ⟨j - o * 3, by omega⟩
        rw [World.cell?_setCells_in g _ _ _ (fun k hk => (hroom _ (by omega)).1) i (by omega)]
        rfl
      · rw [World.cell?_setCells_out g _ _ _ _ (fun _ _ => by simp only []; omega)]
        exact (hroom j hj).1
    · intro j u hu
      obtain ⟨hj, e⟩ := List.getElem?_eq_some_iff.1 hu
      rw [World.cell?_setCells_in g _ _ _ (fun k hk => (hroom _ (by omega)).1) j hj, e]
    · intro o' l' hle hL j u hu
      have hj : j < (markCells l').length := (List.getElem?_eq_some_iff.1 hu).1
      rw [markCells_len] at hj
      rw [World.cell?_setCells_out g _ _ _ _ (fun _ _ => by simp only []; omega)]
      exact hL j u hu
theorem laid_new {B g n : Nat} {w : World} {l r : List MV} (hg : B <= g) (hn : n = l.length + r.length) (hroom : RoomM w g n) (h1 : LaidM w g 0 l) (h2 : LaidM w g l.length r) : NewM B w (.slice (some ⟨g, 0, none⟩) n n) (l ++ r) := by
  have hall : ∀ j u, (markCells (l ++ r))[j]? = some u -> w.cell? ⟨g, j, none⟩ = some u := by
    intro j u hu
    rw [markCells_app] at hu
    by_cases hj : j < (markCells l).length
    · rw [List.getElem?_append_left hj] at hu
      have := h1 j u hu
      rwa [Nat.zero_mul, Nat.zero_add] at this
    · rw [List.getElem?_append_right (by omega)] at hu
      have := h2 _ u hu
      rwa [<- markCells_len, show (markCells l).length + (j - (markCells l).length) = j by omega] at this
  have hl : (l ++ r).length = n := by rw [List.length_append]; exact hn.symm
  have hc : ∀ j (hj : j < (l ++ r).length) i, i < 3 -> ∀ u, (markC (l ++ r)[j])[i]? = some u -> w.cell? ⟨g, j * 3 + i, none⟩ = some u := by
    intro j hj i hi u hu
    have hr := markCells_get (l ++ r) j hj i hi
    rw [hu] at hr
    exact hall _ _ hr
  refine .inr ⟨g, 0, n, by rw [hl], by omega, hg, fun j hj => ?_, fun j hj => ?_⟩
  · rw [Nat.zero_add]
    exact ⟨hc j hj 0 (by omega) _ rfl, hc j hj 1 (by omega) _ rfl, hc j hj 2 (by omega) _ rfl⟩
  · intro i hi
    rw [Nat.zero_add]
    exact (hroom _ (by omega)).2
theorem made_room (w : World) (n : Nat) (z : Array Value) : RoomM (w.alloc (.cells (madeCells z (n * 3)) 179)) w.heap.size n := by
  intro j hj
  have hs := size_madeCells z (n * 3)
  constructor
  · rw [World.cell?_alloc_mark, Array.getElem?_eq_getElem (by omega)]
    rfl
  · have := World.frozen?_alloc_mark w (madeCells z (n * 3)) 179 0 0 j
    rw [this]
    simp
theorem make_marks (w : World) (n : Nat) (hn : n <= 2000000000) : ∃ w', (Instr.makeSlice 51 (.int .i64 (n : Int)) (.int .i64 (n : Int))).run Tryz.prog w = .ok (.slice (some ⟨w.heap.size, 0, none⟩) n n) w' /\ RoomM w' w.heap.size n /\ Below w.heap.size w w' := by
  have hr := run_make (P := Tryz.prog) w 51 179 Tryz.t179 _ Tryz.underlying51 (by kernel_rfl) rfl .i64 .i64 n n (by omega) (Int.le_refl _) (by
    have : Tryz.t179.bytes = 48 := by kernel_rfl
    rw [this]; omega) (by omega)
  have h3 : Tryz.t179.size = 3 := by kernel_rfl
  rw [h3] at hr
  simp only [Int.toNat_natCast] at hr
  exact ⟨_, hr, made_room w n _, below_alloc w _⟩
theorem joined_p (v u : Value) (l r : List MV) (hl : l.length <= 900000000) (hr : r.length <= 900000000) (w : World) (hM : RowM w v l) (hR : RowM w u r) (hOk : OkM w l) (hOr : OkM w r) :
    Calls Tryz.prog 215 #[v, u] w fun e w' => (∃ v', e = .returned v' /\ NewM w.heap.size w' v' (l ++ r)) /\ Below w.heap.size w w' := by
  obtain ⟨w1, hmk, room1, b1⟩ := make_marks w (l.length + r.length) (by omega)
  obtain ⟨w2, hc1, room2, laid2, -, b2⟩ := copy_marks w1 w.heap.size w.heap.size (l.length + r.length) 0 (l.length + r.length) (l.length + r.length) v l (Nat.le_refl _) room1 (by omega) (by omega) (hM.below b1) (hOk.below b1)
  obtain ⟨w3, hc2, room3, laid3, keep3, b3⟩ := copy_marks w2 w.heap.size w.heap.size (l.length + r.length) l.length r.length r.length u r (Nat.le_refl _) room2 (by omega) (by omega) (hR.below (b1.trans b2)) (hOr.below (b1.trans b2))
  have HN := hide (laid_new (B := w.heap.size) (Nat.le_refl _) rfl room3 (keep3 0 l (by omega) laid2) laid3)
  have BF := hide ((b1.trans b2).trans b3)
  obtain ⟨a, c, rfl⟩ := rowM_form hM
  obtain ⟨a2, c2, rfl⟩ := rowM_form hR
  have HC1 := hide hc1
  have HC2 := hide hc2
  rw [Nat.zero_mul] at HC1
  have HZ : Hid (r.length = 0 -> w3 = w2) := hide fun h0 => by
    have e := run_copy_zero w2 (some ⟨w.heap.size, l.length * 3, none⟩) a2 0 0 c2
    rw [h0] at hc2
    rw [hc2] at e
    injection e
  clear room1 b1 room2 laid2 b2 hc1 hc2 room3 laid3 keep3 b3 hM hR hOk hOr
  generalize l ++ r = L at *
  generalize l.length = N at *
  generalize r.length = M at *
  have hmk2 : (Instr.makeSlice 51 (.int .i64 ((N : Int) + (M : Int))) (.int .i64 ((N : Int) + (M : Int)))).run Tryz.prog w = .ok (.slice (some ⟨w.heap.size, 0, none⟩) (N + M) (N + M)) w1 := by
    have e : ((N + M : Nat) : Int) = (N : Int) + (M : Int) := by omega
    rw [<- e]; exact hmk
  clear hmk
  by_cases h0 : M = 0
  · obtain rfl := HZ.out h0
    subst h0
    have hc1 := HC1.out
    have hc2 := fun da dLen dCap => run_copy_zero w3 da a2 dLen dCap c2
    have hmk3 : (Instr.makeSlice 51 (.int .i64 (N : Int)) (.int .i64 (N : Int))).run Tryz.prog w = .ok (.slice (some ⟨w.heap.size, 0, none⟩) N N) w1 := by simpa using hmk2
    simp only [Nat.add_zero] at hc1 HN
    clear HC1 HC2 HZ hmk2
    go_enter Tryz.func215, Tryz.ntmps215
    go_wp2
    go_ret
    exact ⟨⟨_, rfl, HN.out⟩, BF.out⟩
  · have hc1 := HC1.out
    have hc2 := HC2.out
    clear HC1 HC2 HZ
    go_enter Tryz.func215, Tryz.ntmps215
    go_wp2
    go_ret
    exact ⟨⟨_, rfl, HN.out⟩, BF.out⟩
theorem RowM.take {w : World} {a : Option Addr} {n c : Nat} {l : List MV} (h : RowM w (.slice a n c) l) (k : Nat) (hk : k <= l.length) (c' : Nat) (hc : k <= c') : RowM w (.slice a k c') (l.take k) := by
  by_cases h0 : k = 0
  · subst h0
    exact .inl ⟨by simp, _, _, rfl⟩
  · rcases h with ⟨rfl, _⟩ | ⟨b, o, cap, e, hcap, hcs⟩
    · simp at hk; omega
    · simp only [Value.slice.injEq] at e
      obtain ⟨rfl, -, -⟩ := e
      have hl : (l.take k).length = k := by rw [List.length_take]; omega
      refine .inr ⟨b, o, c', by rw [hl], by omega, fun j hj => ?_⟩
      simp only [List.getElem_take]
      exact hcs j (by omega)
theorem RowM.drop {w : World} {b o n c : Nat} {l : List MV} (h : RowM w (.slice (some ⟨b, o, none⟩) n c) l) (k : Nat) (hk : k < l.length) (c' : Nat) (hc : l.length - k <= c') : RowM w (.slice (some ⟨b, o + k * 3, none⟩) (l.length - k) c') (l.drop k) := by
  rcases h with ⟨rfl, _⟩ | ⟨b1, o1, cap, e, hcap, hcs⟩
  · simp at hk
  · simp only [Value.slice.injEq, Option.some.injEq, Addr.mk.injEq, and_true] at e
    obtain ⟨⟨rfl, rfl⟩, -, -⟩ := e
    have hl : (l.drop k).length = l.length - k := List.length_drop
    refine .inr ⟨b, o + k * 3, c', by rw [hl], by omega, fun j hj => ?_⟩
    simp only [List.getElem_drop]
    have := hcs (k + j) (by omega)
    rw [show o + k * 3 + j * 3 = o + (k + j) * 3 by omega]
    exact this
theorem OkM.take {w : World} {l : List MV} (h : OkM w l) (k : Nat) : OkM w (l.take k) := fun x hx => h x (List.mem_of_mem_take hx)
theorem OkM.drop {w : World} {l : List MV} (h : OkM w l) (k : Nat) : OkM w (l.drop k) := fun x hx => h x (List.mem_of_mem_drop hx)
theorem addr_zero (x : Addr) : x.add 0 = x := by unfold Addr.add; split <;> simp_all
theorem cut_to {w : World} {a : Option Addr} {n c : Nat} {l : List MV} (h : RowM w (.slice a n c) l) (k : Nat) (hk : k <= l.length) :
    (∀ W, (Instr.slice 51 (.slice a n c) none (some (.int .i64 (k : Int))) none).run Tryz.prog W = .ok (.slice a k c) W) /\ RowM w (.slice a k c) (l.take k) := by
  obtain ⟨a1, c1, e, hc⟩ := rowM_form0 h
  simp only [Value.slice.injEq] at e
  obtain ⟨rfl, rfl, rfl⟩ := e
  have h1 : (k : Int) <= c := by omega
  refine ⟨fun W => ?_, h.take k hk c (by omega)⟩
  simp [Instr.slice, run_underlying Tryz.underlying51, Instr.sliceBounds, Instr.sliceBound, asIntOf, (by omega : k <= c)]
  cases a <;> simp [addr_zero]
theorem cut_from {w : World} {a : Option Addr} {n c : Nat} {l : List MV} (h : RowM w (.slice a n c) l) (k : Nat) (hk : k <= l.length) :
    ∃ a' c', (∀ W, (Instr.slice 51 (.slice a n c) (some (.int .i64 (k : Int))) none none).run Tryz.prog W = .ok (.slice a' (n - k) c') W) /\ RowM w (.slice a' (n - k) c') (l.drop k) := by
  obtain ⟨a1, c1, e, hc⟩ := rowM_form0 h
  simp only [Value.slice.injEq] at e
  obtain ⟨rfl, rfl, rfl⟩ := e
  have h1 : (k : Int) <= l.length := by omega
  refine ⟨if c = k then a else a.map (·.add (k * 3)), c - k, fun W => ?_, ?_⟩
  · simp [Instr.slice, run_underlying Tryz.underlying51, Instr.sliceBounds, Instr.sliceBound, asIntOf, hk, Tryz.sizeOf179]
  · by_cases h0 : k = l.length
    · subst h0
      rw [Nat.sub_self]
      exact .inl ⟨List.drop_eq_nil_of_le (Nat.le_refl _), _, _, rfl⟩
    · obtain ⟨b, o, rfl, -⟩ := h.get k (by omega)
      rw [if_neg (by omega)]
      have := h.drop k (by omega) (c - k) (by omega)
      simpa [addr_add] using this
theorem cut_full {w : World} {a : Option Addr} {n c : Nat} {l : List MV} (h : RowM w (.slice a n c) l) :
    ∀ W, (Instr.slice 51 (.slice a n c) none (some (.int .i64 (n : Int))) (some (.int .i64 (n : Int)))).run Tryz.prog W = .ok (.slice a n n) W := by
  obtain ⟨a1, c1, e, hc⟩ := rowM_form0 h
  simp only [Value.slice.injEq] at e
  obtain ⟨rfl, rfl, rfl⟩ := e
  have h1 : (l.length : Int) <= c := by omega
  intro W
  simp [Instr.slice, run_underlying Tryz.underlying51, Instr.sliceBounds, Instr.sliceBound, asIntOf, hc]
  cases a <;> simp [addr_zero]
theorem without_p (v : Value) (l : List MV) (hl : l.length <= 900000000) (k : Nat) (hk : k < l.length) (w : World) (hM : RowM w v l) (hOk : OkM w l) :
    Calls Tryz.prog 218 #[v, .int .i64 (k : Int)] w fun e w' => (∃ v', e = .returned v' /\ NewM w.heap.size w' v' (l.eraseIdx k)) /\ Below w.heap.size w w' := by
  obtain ⟨a, c, rfl⟩ := rowM_form hM
  obtain ⟨hs1, r1⟩ := cut_to hM k (by omega)
  obtain ⟨a2, c2, hs2, r2⟩ := cut_from hM (k + 1) (by omega)
  have HJ := hide (fun w1 (b : Below w.heap.size w w1) => joined_p _ _ (l.take k) (l.drop (k + 1)) (by rw [List.length_take]; omega) (by rw [List.length_drop]; omega) w1 (r1.below b) (r2.below b) ((hOk.take k).below b) ((hOk.drop (k + 1)).below b))
  have e1 : ((k + 1 : Nat) : Int) = (k : Int) + 1 := by omega
  rw [e1] at hs2
  have hEr : l.eraseIdx k = l.take k ++ l.drop (k + 1) := List.eraseIdx_eq_take_drop_succ l k
  rw [hEr]
  generalize l.take k ++ l.drop (k + 1) = L at *
  clear hM hOk hEr r1 r2 e1
  generalize l.length = N at *
  generalize N - (k + 1) = M at *
  have hw1 : IntKind.i64.wrap ((k : Int) + 1) = (k : Int) + 1 := by rw [IntKind.wrap_i64]; omega
  have DD : Hid (Below w.heap.size w w.drew) := hide (Below.refl _ _).drew
  go_enter Tryz.func218, Tryz.ntmps218
  go_wp2_with fail
  go_region_with (go_at_call 215; refine (HJ.out _ DD.out).mono ?_; rintro e w3 ⟨⟨v', rfl, hN⟩, b3⟩; obtain ⟨a4, c4, rfl⟩ := new_form hN)
  go_wp2
  go_ret
  exact ⟨⟨_, rfl, hN⟩, DD.out.trans b3⟩
theorem cells_new {B g n c : Nat} {w : World} {l : List MV} (hg : B <= g) (hn : n = l.length) (hnc : n <= c) (hall : ∀ j u, (markCells l)[j]? = some u -> w.cell? ⟨g, j, none⟩ = some u) (hf : ∀ j, w.frozen? ⟨g, j, none⟩ = false) : NewM B w (.slice (some ⟨g, 0, none⟩) n c) l := by
  have hc : ∀ j (hj : j < l.length) i, i < 3 -> ∀ u, (markC l[j])[i]? = some u -> w.cell? ⟨g, j * 3 + i, none⟩ = some u := by
    intro j hj i hi u hu
    have hr := markCells_get l j hj i hi
    rw [hu] at hr
    exact hall _ _ hr
  refine .inr ⟨g, 0, c, by rw [hn], by omega, hg, fun j hj => ?_, fun j hj => ?_⟩
  · rw [Nat.zero_add]
    exact ⟨hc j hj 0 (by omega) _ rfl, hc j hj 1 (by omega) _ rfl, hc j hj 2 (by omega) _ rfl⟩
  · exact fun i hi => hf _
theorem row_first {w : World} {a : Option Addr} {n c : Nat} {l : List MV} (h : RowM w (.slice a n c) l) (c' : Nat) : (Builtin.firstCells 3 l.length (.slice a l.length c')).run Tryz.prog w = .ok (markCells l).toArray w := by
  by_cases h0 : l.length = 0
  · obtain rfl := List.eq_nil_of_length_eq_zero h0
    cases a with
    | none => exact run_firstCells_none w 3 0 0 c'
    | some x => exact run_firstCells_some w 3 0 x 0 c' [] rfl (by simp)
  · obtain ⟨b, o, rfl, hcs⟩ := row_cells h (by omega)
    exact run_firstCells_some w 3 l.length _ l.length c' (markCells l) (markCells_len l) (fun j u hu => by rw [addr_add]; exact hcs j u hu)
theorem grow_mark (W : World) (a : Option Addr) (n c : Nat) (l : List MV) (m : MV) (am : Option Addr) (cm : Nat) (hm : m.av = .slice am m.aa.length cm) (hM : RowM W (.slice a n c) l) (hl : l.length <= 900000000) :
    ∃ v' w', (Builtin.append_ #[51, 51] 51 #[.slice a l.length l.length, .slice (some ⟨W.heap.size, 0, none⟩) 1 1]).run Tryz.prog (W.alloc (.cells #[.int .i64 m.id, .string m.nm, m.av] 179)) = .ok v' w' /\ NewM W.heap.size w' v' (l ++ [m]) /\ Below W.heap.size W w' := by
  have b0 := below_alloc W (.cells #[.int .i64 m.id, .string m.nm, m.av] 179)
  have hM1 := hM.below b0.drew
  have hsz : Tryz.t179.size = 3 := by kernel_rfl
  have hby : Tryz.t179.bytes = 48 := by kernel_rfl
  have hsrc : Src Tryz.prog Tryz.t179.size 51 (.slice (some ⟨W.heap.size, 0, none⟩) 1 1) 1 (markC m) (W.alloc (.cells #[.int .i64 m.id, .string m.nm, m.av] 179)) :=
    Src.ofSlice _ Tryz.underlying51 _ 1 1 (markC m) (by rw [hsz]; rfl) (by
        intro j u hu
        have hj : j < 3 := (List.getElem?_eq_some_iff.1 hu).1
        rw [addr_add, Nat.zero_add]
        rcases (by omega : j = 0 \/ j = 1 \/ j = 2) with rfl | rfl | rfl
        · rw [<- hu]; simp [go_sem, markC]
        · rw [<- hu]; simp [go_sem, markC]
        · rw [<- hu]; simp [go_sem, markC]) (by
        intro u hu
        simp only [markC, hm, List.mem_cons, List.not_mem_nil, or_false] at hu
        rcases hu with rfl | rfl | rfl <;> rfl)
  have hold := row_first hM1 l.length
  generalize hW1 : W.alloc (.cells #[.int .i64 m.id, .string m.nm, m.av] 179) = W1 at *
  have hr := run_append_grow_src (P := Tryz.prog) W1 51 51 51 179 Tryz.t179 _ Tryz.underlying51 (by kernel_rfl) rfl a l.length l.length (markCells l) (by rw [hsz]; exact hold) _ 1 (markC m) hsrc (by omega) (by omega) (by
    rw [hby]
    have := nextslicecap_le (need := l.length + 1) (old := l.length) (by omega)
    omega)
  have hge := grownCap_ge W1 (l.length + 1) l.length 179
  generalize grownCap W1 (l.length + 1) l.length 179 = gc at *
  refine ⟨_, _, hr, ?_, ?_⟩
  · refine cells_new (g := W1.heap.size) b0.size (by simp) hge (fun j u hu => ?_) (fun j => ?_)
    · rw [markCells_app, show markCells [m] = markC m by simp [markCells]] at hu
      have hj := (List.getElem?_eq_some_iff.1 hu).1
      refine (World.cell?_alloc_mark W1.drew _ 179 (0, 0) j).trans ?_
      rw [Array.getElem?_append_left (by simpa using hj)]
      simpa using hu
    · refine (World.frozen?_alloc_mark W1.drew _ 179 0 0 j).trans ?_
      simp
  · exact b0.trans (((Below.refl _ W1).drew.trans (below_alloc W1.drew _)).mono b0.size)
theorem grown_p (v : Value) (l : List MV) (hl : l.length <= 900000000) (m : MV) (w : World) (hM : RowM w v l) (hm : IsQ w m.av m.aa) :
    Calls Tryz.prog 217 #[v, .agg #[.int .i64 m.id, .string m.nm, m.av]] w fun e w' => (∃ v', e = .returned v' /\ NewM w.heap.size w' v' (l ++ [m])) /\ Below w.heap.size w w' := by
  obtain ⟨a, c, rfl⟩ := rowM_form hM
  obtain ⟨am, cm, hmv⟩ := isQ_form hm
  have hs := cut_full hM
  have HG := hide (fun W (b : Below w.heap.size w W) => grow_mark W a _ c l m am cm hmv (hM.below b) hl)
  clear hM hm
  generalize l ++ [m] = L at *
  generalize l.length = N at *
  obtain ⟨id, nm, aa, av⟩ := m
  simp only [] at hmv HG ⊢
  subst hmv
  generalize aa.length = am2 at *
  have HB : Hid (∀ W0, w.alloc (.cells #[.int .i64 id, .string nm, .slice am am2 cm] 179) = W0 -> Below w.heap.size w W0 /\ W0.cell? ⟨w.heap.size, 0, none⟩ = some (.int .i64 id) /\ W0.cell? ⟨w.heap.size, 1, none⟩ = some (.string nm) /\ W0.cell? ⟨w.heap.size, 2, none⟩ = some (.slice am am2 cm)) := hide fun W0 e => by
    obtain ⟨c0, c1, c2⟩ := boxW_cells w id nm (.slice am am2 cm) (w1 := W0) (by rw [<- e]; exact Below.refl _ _)
    exact ⟨by rw [<- e]; exact below_alloc w _, c0, c1, c2⟩
  go_enter Tryz.func217, Tryz.ntmps217
  go_wp2_with fail
  generalize hW0 : w.alloc (.cells #[.int .i64 id, .string nm, .slice am am2 cm] 179) = W0
  obtain ⟨b0, c0, c1, c2⟩ := HB.out W0 hW0
  have B0 := hide b0
  obtain ⟨v', w2, hr, hN, b2⟩ := HG.out W0.drew b0.drew
  have hr2 : Hid ((Builtin.append_ #[51, 51] 51 #[.slice a N N, .slice (some ⟨W0.heap.size, 0, none⟩) 1 1]).run Tryz.prog (W0.alloc (.cells #[.int .i64 id, .string nm, .slice am am2 cm] 179)).drew = .ok v' w2) := hr
  obtain ⟨a4, c4, rfl⟩ := new_form hN
  have HN := hide hN
  have B2 := hide b2
  clear hW0 HB HG hr hN b0 b2
  go_region_law (with_reducible refine step_append_run rfl _ _ 51 rfl (.slice a N N) (.slice (some ⟨W0.heap.size, 0, none⟩) 1 1) _ w2 rfl rfl hr2.out ?_)
  all_goals go_wp2
  all_goals go_ret
  all_goals exact ⟨⟨_, rfl, HN.out.mono B0.out.size⟩, B0.out.drew.trans (B2.out.mono B0.out.size)⟩
end Go.Proofs.YtfohijnkeefcfaaGreatDoor.S7
