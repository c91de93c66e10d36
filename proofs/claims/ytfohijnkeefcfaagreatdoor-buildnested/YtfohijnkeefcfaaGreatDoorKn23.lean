import Derived.Test.YtfohijnkeefcfaaGreatDoorKn14
import Derived.Deep.RegionHeld2
import Derived.Laws.MakeOwn
set_option linter.unusedVariables false
set_option linter.unusedSimpArgs false
set_option maxRecDepth 100000
set_option maxHeartbeats 8000000
namespace Go.Proofs.YtfohijnkeefcfaaGreatDoor.S7
open Go.RowKit
theorem str_beq (a b : List UInt8) : ((⟨a.toArray⟩ : ByteArray).toList == (⟨b.toArray⟩ : ByteArray).toList) = (a == b) := by
  rw [Lib.toList_data, Lib.toList_data, str_data, str_data]
end Go.Proofs.YtfohijnkeefcfaaGreatDoor.S7
namespace Go.Proofs.YtfohijnkeefcfaaGreatDoor.S7
open Go.RowKit
def IsZ (w : World) (v : Value) (zs : List Int) : Prop := (zs = [] /\ ∃ a c, v = .slice a 0 c) \/ ∃ b o cap, v = .slice (some ⟨b, o, none⟩) zs.length cap /\ ∀ j (hj : j < zs.length), w.cell? ⟨b, o + j, none⟩ = some (.int .i64 zs[j])
theorem IsZ.below {w W : World} {v : Value} {zs : List Int} (h : IsZ w v zs) (hb : Below w.heap.size w W) : IsZ W v zs := by
  rcases h with h | ⟨b, o, cap, rfl, hc⟩
  · exact .inl h
  · exact .inr ⟨b, o, cap, rfl, fun j hj => by rw [hb.cell (cell_lt (hc j hj))]; exact hc j hj⟩
theorem isZ_form {w : World} {v : Value} {zs : List Int} (h : IsZ w v zs) : ∃ a c, v = .slice a zs.length c := by
  rcases h with ⟨rfl, a, c, rfl⟩ | ⟨b, o, c, rfl, _⟩
  · exact ⟨_, _, rfl⟩
  · exact ⟨_, _, rfl⟩
theorem IsZ.get {w : World} {a : Option Addr} {n c : Nat} {zs : List Int} (h : IsZ w (.slice a n c) zs) (j : Nat) (hj : j < zs.length) : ∃ b o, a = some ⟨b, o, none⟩ /\ w.cell? ⟨b, o + j, none⟩ = some (.int .i64 zs[j]) := by
  rcases h with ⟨rfl, _⟩ | ⟨b, o, c', e, h⟩
  · exact absurd hj (by simp)
  · simp only [Value.slice.injEq] at e
    obtain ⟨rfl, -, -⟩ := e
    exact ⟨b, o, rfl, h j hj⟩
end Go.Proofs.YtfohijnkeefcfaaGreatDoor.S7
namespace Go.Proofs.YtfohijnkeefcfaaGreatDoor.S7
open Go.RowKit
theorem new_form {B : Nat} {w : World} {v : Value} {l : List MV} (h : NewM B w v l) : ∃ a c, v = .slice a l.length c := rowM_form h.row
end Go.Proofs.YtfohijnkeefcfaaGreatDoor.S7
namespace Go.Proofs.YtfohijnkeefcfaaGreatDoor.S7
open Go.RowKit
def SmallM (l : List MV) : Prop := l.length <= 400000000 /\ ∀ x ∈ l, x.aa.length <= 400000000
theorem one_cell (w : World) (v : Value) (t : TypeId) : (w.alloc (.cells #[v] t)).cell? ⟨w.heap.size, 0, none⟩ = some v := by simp [go_sem]
def boxW (w : World) (id : Int) (nm : ByteArray) (av : Value) : World := w.alloc (.cells #[.int .i64 id, .string nm, av] 179)
theorem boxW_cells (w : World) (id : Int) (nm : ByteArray) (av : Value) {w1 : World} (b : Below (boxW w id nm av).heap.size (boxW w id nm av) w1) :
    w1.cell? ⟨w.heap.size, 0, none⟩ = some (.int .i64 id) /\ w1.cell? ⟨w.heap.size, 1, none⟩ = some (.string nm) /\ w1.cell? ⟨w.heap.size, 2, none⟩ = some av := by
  unfold boxW at b
  rw [b.cell (by simp), b.cell (by simp), b.cell (by simp)]
  simp [go_sem]
theorem behind_last (p : MV -> Bool) (l : List MV) : ∀ k, (behindG p l k : Int) = placeZ (lastG p l k) + 1 := by
  intro k
  induction k with
  | zero => rfl
  | succ k ih =>
    rw [behindG, lastG]
    split
    · simp [placeZ]
    · exact ih
theorem marker_p (m : MV) (a : Option Addr) (n c : Nat) (hm : m.av = .slice a n c) (w : World) :
    Calls Tryz.prog 214 #[.agg #[.int .i64 m.id, .string m.nm, m.av]] w fun e w' => e = .returned (.bool (markerM m)) /\ Below w.heap.size w w' := by
  obtain ⟨id, nm, aa, av⟩ := m
  simp only [] at hm
  subst hm
  simp only [markerM]
  go_enter Tryz.func214, Tryz.ntmps214
  go_wp2
  go_ret
  exact ⟨rfl, below_alloc w _⟩
theorem last_any (F : Nat) (caps : List Value) (p : MV -> Bool) (l : List MV) (hl : l.length <= 2000000000) (v : Value) (w : World) (hM : RowM w v l) (hOk : OkM w l) (hen : ∀ (args : Array Value) (w : World), (callFunc F args).run Tryz.prog w = .ok (.enter F args) w)
    (hf : ∀ (o : MV) (a : Option Addr) (n c : Nat) (w1 : World), o.av = .slice a n c -> Below w.heap.size w w1 -> Calls Tryz.prog F (.agg #[.int .i64 o.id, .string o.nm, o.av] :: caps).toArray w1 fun e w' => e = .returned (.bool (p o)) /\ Below w1.heap.size w1 w') :
    Calls Tryz.prog 213 #[v, .func (.func F) #[] caps.toArray] w fun e w' => e = .returned (.int .i64 (placeZ (lastG p l l.length))) /\ Below w.heap.size w w' := by
  obtain ⟨a, c, rfl⟩ := rowM_form hM
  have HO := hide hM
  have HF := hide hf
  have HK := hide hOk
  clear hM hf hOk
  generalize hV : lastG p l l.length = V
  have HV := hide hV
  clear hV
  go_enter Tryz.func213, Tryz.ntmps213
  go_wp2
  go_loopw [5] (fun i wr => ∃ k : Nat, k <= l.length /\ i = .int .i64 ((k : Int) - 1) /\ Below w.heap.size w wr /\ Hid (lastG p l k = V)) (fun i _ => (intOf i + 1).toNat)
  case atStart => exact ⟨l.length, Nat.le_refl _, by go_num, Below.refl _ w, HV⟩
  case round =>
    obtain ⟨k, hk, rfl, bw, HR⟩ := hrel
    cases k with
    | zero =>
      have HV2 : Hid (placeZ V = -1) := hide (by rw [<- HR.out]; rfl)
      clear HR
      go_wp2
      go_ret
      exact ⟨ret_int HV2.out.symm, bw⟩
    | succ j =>
      have hj : j < l.length := by omega
      obtain ⟨b, o, rfl, c0, c1, c2⟩ := (HO.out.below bw).get j hj
      obtain ⟨qa, qc, hq⟩ := isQ_form (HK.out.at_ j hj)
      have HQ := hide (HF.out l[j] qa _ qc wr hq bw)
      have hh := last_hit p l j hj
      have hm := last_miss p l j hj
      rw [hq] at c2 HQ
      generalize hP : p l[j] = P at *
      generalize l[j].aa.length = qn at *
      generalize hE : l[j] = el at *
      obtain ⟨id, nm, aa, av⟩ := el
      simp only [] at c0 c1 c2 HQ hq
      have e1 : ((j + 1 : Nat) : Int) - 1 = (j : Int) := by omega
      rw [e1]
      have hlt : (j : Int) < l.length := by omega
      have HH := hide hh
      have HM := hide hm
      clear hh hm hP hE e1 hq
      go_wp2_with fail
      refine HQ.out.mono ?_
      rintro e w1 ⟨rfl, b1⟩
      have b2 := bw.trans (b1.mono bw.size)
      clear c0 c1 c2
      cases P with
      | true =>
        have HV2 : Hid (placeZ V = (j : Int)) := hide (by rw [<- HR.out, HH.out rfl]; rfl)
        clear HH HM HR
        go_wp2
        go_ret
        exact ⟨ret_int HV2.out.symm, b2⟩
      | false =>
        have HR2 : Hid (lastG p l j = V) := hide (by rw [<- HR.out, HM.out rfl])
        clear HH HM HR
        go_wp2
        go_roundw
        case rel => exact ⟨j, by omega, by go_num, b2, HR2⟩
        case measure => simp [intOf]
theorem enters_marker : ∀ (args : Array Value) (w : World), (callFunc 214 args).run Tryz.prog w = .ok (.enter 214 args) w := by intro args w; simp [go_sem]
theorem enters_renew1 : ∀ (args : Array Value) (w : World), (callFunc 219 args).run Tryz.prog w = .ok (.enter 219 args) w := by intro args w; simp [go_sem]
theorem lastMarker_p (l : List MV) (hl : l.length <= 2000000000) (v : Value) (w : World) (hM : RowM w v l) (hOk : OkM w l) :
    Calls Tryz.prog 213 #[v, .func (.func 214) #[] #[]] w fun e w' => e = .returned (.int .i64 (placeZ (lastG markerM l l.length))) /\ Below w.heap.size w w' :=
  last_any 214 [] markerM l hl v w hM hOk enters_marker (fun o a n c w1 hq _ => marker_p o a n c hq w1)
end Go.Proofs.YtfohijnkeefcfaaGreatDoor.S7
namespace Go.Proofs.YtfohijnkeefcfaaGreatDoor.S7
open Go.RowKit
def inZ (zs : List Int) (z : Int) : Bool := zs.any fun y => y == z
theorem inZ_step (zs : List Int) (z : Int) (k : Nat) (h : k < zs.length) : inZ (zs.drop k) z = (zs[k] == z || inZ (zs.drop (k + 1)) z) := by
  rw [List.drop_eq_getElem_cons h]; rfl
theorem inZ_end (zs : List Int) (z : Int) (k : Nat) (h : zs.length <= k) : inZ (zs.drop k) z = false := by
  rw [List.drop_eq_nil_of_le h]; rfl
theorem indexZ_p (z : Int) (zs : List Int) (v : Value) (w : World) (hl : zs.length <= 2000000000) (hZ : IsZ w v zs) :
    Calls Tryz.prog 159 #[v, .int .i64 z] w fun e w' => (∃ y : Int, e = .returned (.int .i64 y) /\ decide (0 <= y) = inZ zs z) /\ w' = w := by
  obtain ⟨a, c, rfl⟩ := isZ_form hZ
  have HC := hide hZ
  clear hZ
  generalize hV : inZ zs z = V
  have HV := hide hV
  clear hV
  go_enter Tryz.func159, Tryz.ntmps159
  go_wp2
  go_loop [8] (fun i => ∃ k : Nat, k <= zs.length /\ i = .int .i64 k /\ Hid (inZ (zs.drop k) z = V)) (fun i => zs.length - (intOf i).toNat)
  case atStart => exact ⟨0, Nat.zero_le _, rfl, hide (by rw [List.drop_zero]; exact HV.out)⟩
  case round =>
    obtain ⟨k, hk, rfl, HR⟩ := hrel
    by_cases hlt : k < zs.length
    · obtain ⟨b, o, rfl, hcell⟩ := HC.out.get k hlt
      have hs := inZ_step zs z k hlt
      rw [HR.out] at hs
      have hlt2 : (k : Int) < zs.length := by omega
      generalize zs[k] = x at *
      cases hb : x == z
      · rw [hb, Bool.false_or] at hs
        have hb2 : (z == x) = false := by rw [beq_eq_false_iff_ne] at hb ⊢; exact fun h => hb h.symm
        have hb3 : ¬ z = x := by rw [beq_eq_false_iff_ne] at hb; exact fun h => hb h.symm
        have HR2 := hide hs.symm
        clear hs HR hlt
        go_wp2
        go_round
        case rel => exact ⟨k + 1, by omega, by go_num, HR2⟩
        case measure => simp [intOf]; omega
      · rw [hb, Bool.true_or] at hs
        obtain rfl : x = z := by simpa using hb
        have HR2 := hide hs
        clear hs hb HR hlt
        go_wp2
        go_ret
        exact ⟨⟨_, rfl, by rw [HR2.out]; exact decide_eq_true (by omega)⟩, rfl⟩
    · have hs := inZ_end zs z k (by omega)
      rw [HR.out] at hs
      have HR2 := hide hs
      have hlt2 : ¬ (k : Int) < zs.length := by omega
      clear hs HR hlt
      go_wp2
      go_ret
      exact ⟨⟨_, rfl, by rw [HR2.out]; rfl⟩, rfl⟩
theorem containsZ_p (z : Int) (zs : List Int) (v : Value) (w : World) (hl : zs.length <= 2000000000) (hZ : IsZ w v zs) :
    Calls Tryz.prog 220 #[v, .int .i64 z] w fun e w' => e = .returned (.bool (inZ zs z)) /\ w' = w := by
  have H := hide (indexZ_p z zs v w hl hZ)
  generalize inZ zs z = V at *
  clear hZ
  go_enter Tryz.func220, Tryz.ntmps220
  go_wp2_with fail
  refine H.out.mono ?_
  rintro e w1 ⟨⟨y, rfl, hz⟩, rfl⟩
  have HZ := hide hz
  clear hz
  go_wp2
  go_ret
  exact ⟨ret_bool HZ.out, rfl⟩
theorem renewC_p (m : MV) (a : Option Addr) (n c : Nat) (hm : m.av = .slice a n c) (zs : List Int) (hz : zs.length <= 2000000000) (u : Value) (nb : Nat) (w : World) (hn : w.cell? ⟨nb, 0, none⟩ = some u) (hZ : IsZ w u zs) :
    Calls Tryz.prog 219 #[.agg #[.int .i64 m.id, .string m.nm, m.av], .pointer (some ⟨nb, 0, none⟩)] w fun e w' => e = .returned (.bool (stopM zs m)) /\ Below w.heap.size w w' := by
  have H1 := hide (fun w1 => marker_p m a n c hm w1)
  have H2 := hide (fun w1 (b : Below w.heap.size w w1) => containsZ_p m.id zs u w1 hz (hZ.below b))
  have HS : Hid (stopM zs m = (markerM m || inZ zs m.id)) := hide rfl
  rw [HS.out]
  generalize inZ zs m.id = B at *
  generalize markerM m = M at *
  obtain ⟨id, nm, aa, av⟩ := m
  simp only [] at hm H1 H2
  subst hm
  obtain ⟨a2, c2, rfl⟩ := isZ_form hZ
  have HN := hide (fun (w1 : World) (b : Below w.heap.size w w1) => show w1.cell? ⟨nb, 0, none⟩ = some (.slice a2 zs.length c2) by rw [b.cell (cell_lt hn)]; exact hn)
  clear hn hZ HS
  cases M with
  | true =>
    go_enter Tryz.func219, Tryz.ntmps219
    go_wp2_with fail
    refine (H1.out _).mono ?_
    rintro e w1 ⟨rfl, b1⟩
    go_wp2
    go_ret
    exact ⟨rfl, box_below w _ b1⟩
  | false =>
    go_enter Tryz.func219, Tryz.ntmps219
    go_wp2_with fail
    refine (H1.out _).mono ?_
    rintro e w1 ⟨rfl, b1⟩
    obtain ⟨c0, c1, c2⟩ := boxW_cells w id nm (.slice a n c) b1
    have bb := hide (box_below w _ b1)
    have hn2 := HN.out w1 bb.out
    clear b1
    go_wp2_with fail
    refine (H2.out w1 bb.out).mono ?_
    rintro e w2 ⟨rfl, rfl⟩
    go_wp2
    go_ret
    exact ⟨rfl, bb.out⟩
theorem renew_p (v u : Value) (l : List MV) (hs : SmallM l) (zs : List Int) (hz : zs.length <= 400000000) (w : World) (hM : RowM w v l) (hOk : OkM w l) (hZ : IsZ w u zs) :
    Calls Tryz.prog 176 #[v, u] w fun e w' => e = .returned (.int .i64 (renewL l zs : Int)) /\ Below w.heap.size w w' := by
  have hmf : ∀ (fn : Fn) (first cap : Array Value) (w : World), (Instr.makeFunc fn first cap).run Tryz.prog w = .ok (.func fn first cap) w := fun _ _ _ _ => rfl
  have hl : l.length <= 2000000000 := by have := hs.1; omega
  have bA := below_alloc w (.cells #[u] 22)
  have H := hide (last_any 219 [.pointer (some ⟨w.heap.size, 0, none⟩)] (stopM zs) l hl v (w.alloc (.cells #[u] 22)) (hM.below bA) (hOk.below bA) enters_renew1
    (fun o a n1 c w1 hq b1 => renewC_p o a n1 c hq zs (by omega) u w.heap.size w1 (by rw [b1.cell (by simp)]; exact one_cell w _ _) (hZ.below (bA.trans (b1.mono bA.size)))))
  obtain ⟨a, c, rfl⟩ := rowM_form hM
  obtain ⟨a2, c2, rfl⟩ := isZ_form hZ
  unfold renewL
  rw [behind_last]
  have hr : placeZ (lastG (stopM zs) l l.length) + 1 <= 2000000000 := by
    rw [<- behind_last]
    have := behind_le (stopM zs) l l.length
    omega
  have hr2 : -1 <= placeZ (lastG (stopM zs) l l.length) := by
    have := behind_last (stopM zs) l l.length
    omega
  generalize placeZ (lastG (stopM zs) l l.length) = Z at *
  clear hM hOk hs hZ
  have BA := hide bA
  clear bA
  go_enter Tryz.func176, Tryz.ntmps176
  go_wp2_with fail
  refine H.out.mono ?_
  rintro e w1 ⟨rfl, b1⟩
  go_wp2
  go_ret
  exact ⟨ret_int (by go_num), BA.out.trans (b1.mono BA.out.size)⟩
end Go.Proofs.YtfohijnkeefcfaaGreatDoor.S7
namespace Go.Proofs.YtfohijnkeefcfaaGreatDoor.S7
open Go.RowKit
abbrev boxM (w : World) (id : Int) (nm : ByteArray) (av : Value) : World := w.alloc (.cells #[.int .i64 id, .string nm, av] 179)
theorem boxM_size (w : World) (id : Int) (nm : ByteArray) (av : Value) : (boxM w id nm av).heap.size = w.heap.size + 1 := by simp
theorem boxM_cells (w : World) (id : Int) (nm : ByteArray) (av : Value) {w1 : World} (b1 : Below (w.heap.size + 1) (boxM w id nm av) w1) :
    w1.cell? ⟨w.heap.size, 0, none⟩ = some (.int .i64 id) /\ w1.cell? ⟨w.heap.size, 1, none⟩ = some (.string nm) /\ w1.cell? ⟨w.heap.size, 2, none⟩ = some av := by
  refine ⟨?_, ?_, ?_⟩
  all_goals
    rw [b1.cell (by simp)]
    simp [go_sem]
theorem boxM_below (w : World) (id : Int) (nm : ByteArray) (av : Value) {w1 : World} (b1 : Below (w.heap.size + 1) (boxM w id nm av) w1) : Below w.heap.size w w1 := (below_alloc w _).trans (b1.mono (Nat.le_succ _))
end Go.Proofs.YtfohijnkeefcfaaGreatDoor.S7
