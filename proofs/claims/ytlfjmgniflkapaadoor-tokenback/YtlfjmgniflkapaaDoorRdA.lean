/- The program's reader: what it is left with, and its smallest methods. -/
import Derived.Test.YtlfjmgniflkapaaDoorTok
import Derived.Test.YtlfjmgniflkapaaDoorWalkPA
import Derived.Test.YtlfjmgniflkapaaDoorShelf
import Derived.BigQuiet
import Derived.Lib.IndexAny
import Derived.Deep.QuietTactic
set_option linter.unusedVariables false
set_option linter.unusedSimpArgs false
namespace Go.Proofs.YtlfjmgniflkapaaDoor
open Go.RowKit

/-- w' is as w was but for block b, and what is new. -/
structure But (b : Nat) (w w' : World) : Prop where
  os : w'.os = w.os
  tape : w'.tape = w.tape
  output : w'.output = w.output
  size : w.heap.size ≤ w'.heap.size
  block : ∀ k, k < w.heap.size → k ≠ b → w'.heap[k]? = w.heap[k]?
theorem But.refl (b : Nat) (w : World) : But b w w := ⟨rfl, rfl, rfl, Nat.le_refl _, fun _ _ _ => rfl⟩
theorem But.trans {b : Nat} {w w1 w2 : World} (h : But b w w1) (k : But b w1 w2) : But b w w2 :=
  ⟨k.os.trans h.os, k.tape.trans h.tape, k.output.trans h.output, Nat.le_trans h.size k.size, fun i hi hn => (k.block i (Nat.lt_of_lt_of_le hi h.size) hn).trans (h.block i hi hn)⟩
theorem But.of {b : Nat} {w w1 : World} (h : Below w.heap.size w w1) : But b w w1 := ⟨h.os, h.tape, h.output, h.size, fun k hk _ => h.block k hk⟩
theorem But.alloc {b : Nat} {w w1 : World} (h : But b w w1) (o : Obj) : But b w (w1.alloc o) := h.trans (.of (below_alloc w1 o))
theorem But.setCell {b : Nat} {w w1 : World} (h : But b w w1) (o : Nat) (v : Value) : But b w (w1.setCell ⟨b, o, none⟩ v) :=
  h.trans ⟨rfl, rfl, rfl, by simp [World.setCell], fun k _ hn => Below.heap_setCell _ _ _ _ hn⟩
/-- A store into a block that is new. -/
theorem But.setNew {b : Nat} {w w1 : World} (h : But b w w1) (a : Addr) (ha : w.heap.size ≤ a.block) (v : Value) : But b w (w1.setCell a v) :=
  ⟨h.os, h.tape, h.output, by simpa [World.setCell] using h.size, fun k hk hn => by rw [Below.heap_setCell _ _ _ _ (by omega)]; exact h.block k hk hn⟩
theorem But.drew {b : Nat} {w w1 : World} (h : But b w w1) : But b w w1.drew := ⟨h.os, h.tape, h.output, h.size, h.block⟩
theorem But.drewN {b : Nat} {w w1 : World} (h : But b w w1) (n : Nat) : But b w (w1.drewN n) := ⟨h.os, h.tape, h.output, h.size, h.block⟩
theorem But.cell {b : Nat} {w w1 : World} (h : But b w w1) {p : Addr} (hp : p.block < w.heap.size) (hn : p.block ≠ b) : w1.cell? p = w.cell? p := World.cell?_of_block (w := w) (h.block p.block hp hn)
theorem But.frozen {b : Nat} {w w1 : World} (h : But b w w1) {p : Addr} (hp : p.block < w.heap.size) (hn : p.block ≠ b) : w1.frozen? p = w.frozen? p := World.frozen?_of_block (w := w) (h.block p.block hp hn)
theorem But.below {b n : Nat} {w w1 : World} (h : But b w w1) (hn : n ≤ b) (hs : n ≤ w.heap.size) : Below n w w1 := ⟨h.os, h.tape, h.output, h.size, fun k hk => h.block k (by omega) (by omega)⟩
/-- All cells and marks of other blocks read as before. -/
theorem But.cells {b : Nat} {w w1 : World} (h : But b w w1) : (∀ k o, k < w.heap.size → k ≠ b → w1.cell? ⟨k, o, none⟩ = w.cell? ⟨k, o, none⟩) ∧ (∀ k o, k < w.heap.size → k ≠ b → w1.frozen? ⟨k, o, none⟩ = w.frozen? ⟨k, o, none⟩) :=
  ⟨fun k o hk hn => h.cell (p := ⟨k, o, none⟩) hk hn, fun k o hk hn => h.frozen (p := ⟨k, o, none⟩) hk hn⟩

/-- The reader in block b reads s, and is left with r. -/
structure RdP (w : World) (b : Nat) (s : ByteArray) (p : Nat) : Prop where
  c0 : w.cell? ⟨b, 0, none⟩ = some (.string s)
  c1 : w.cell? ⟨b, 1, none⟩ = some (.int .i64 (p : Int))
  fz : ∀ o, w.frozen? ⟨b, o, none⟩ = false
theorem RdP.lt {w : World} {b : Nat} {s : ByteArray} {p : Nat} (h : RdP w b s p) : b < w.heap.size := cell_lt h.c0
theorem RdP.below {w W : World} {b : Nat} {s : ByteArray} {p : Nat} (h : RdP w b s p) (hb : Below w.heap.size w W) : RdP W b s p :=
  ⟨by rw [hb.cell (p := ⟨b, 0, none⟩) h.lt]; exact h.c0, by rw [hb.cell (p := ⟨b, 1, none⟩) h.lt]; exact h.c1, fun o => by rw [hb.frozen (p := ⟨b, o, none⟩) h.lt]; exact h.fz o⟩
theorem RdP.set {w : World} {b : Nat} {s : ByteArray} {p : Nat} (h : RdP w b s p) (q : Nat) : RdP (w.setCell ⟨b, 1, none⟩ (.int .i64 (q : Int))) b s q :=
  ⟨by rw [World.cell?_setCell_other w _ _ _ (by intro he; injection he; omega)]; exact h.c0, World.cell?_setCell_same w _ _ h.c1, fun o => by rw [World.frozen?_setCell]; exact h.fz o⟩
theorem RdP.other {w : World} {b : Nat} {s : ByteArray} {p : Nat} (h : RdP w b s p) (a : Addr) (ha : a.block ≠ b) (v : Value) : RdP (w.setCell a v) b s p :=
  ⟨by rw [World.cell?_setCell_other w _ _ _ (by intro he; exact ha (congrArg Addr.block he))]; exact h.c0, by rw [World.cell?_setCell_other w _ _ _ (by intro he; exact ha (congrArg Addr.block he))]; exact h.c1, fun o => by rw [World.frozen?_setCell]; exact h.fz o⟩
def RdL (w : World) (b : Nat) (s : ByteArray) (r : List UInt8) : Prop := ∃ p : Nat, p ≤ s.size ∧ s.data.toList.drop p = r ∧ RdP w b s p
theorem RdL.below {w W : World} {b : Nat} {s : ByteArray} {r : List UInt8} (h : RdL w b s r) (hb : Below w.heap.size w W) : RdL W b s r := by
  obtain ⟨p, h1, h2, h3⟩ := h
  exact ⟨p, h1, h2, h3.below hb⟩
theorem RdL.other {w : World} {b : Nat} {s : ByteArray} {r : List UInt8} (h : RdL w b s r) (a : Addr) (ha : a.block ≠ b) (v : Value) : RdL (w.setCell a v) b s r := by
  obtain ⟨p, h1, h2, h3⟩ := h
  exact ⟨p, h1, h2, h3.other a ha v⟩
theorem RdL.lt {w : World} {b : Nat} {s : ByteArray} {r : List UInt8} (h : RdL w b s r) : b < w.heap.size := by
  obtain ⟨p, _, _, h3⟩ := h
  exact h3.lt
theorem RdL.len {w : World} {b : Nat} {s : ByteArray} {r : List UInt8} (h : RdL w b s r) : r.length ≤ s.size := by
  obtain ⟨p, h1, h2, _⟩ := h
  rw [← h2, List.length_drop, ← size_list]
  omega

theorem rest_is (s : ByteArray) (p : Nat) (hp : p ≤ s.size) : s.extract p s.size = ⟨(s.data.toList.drop p).toArray⟩ := by
  refine str_of _ _ ?_
  rw [Lib.extract_data, List.take_of_length_le (by rw [List.length_drop, ← size_list]; omega)]
theorem empty_is (s : ByteArray) (p : Nat) (hp : p ≤ s.size) : ((p : Int) == (s.size : Int)) = (s.data.toList.drop p).isEmpty := by
  by_cases h : p = s.size
  · rw [drop_end s p (by omega), h]
    simp
  · rw [drop_cons s p (by omega), ne_lit p s.size (by omega)]
    rfl

set_option maxHeartbeats 1000000 in
theorem done_any (s : ByteArray) (hs : s.size ≤ 100000) (b : Nat) (r : List UInt8) (w : World) (hR : RdL w b s r) :
    Calls Tryd.prog 23 #[.pointer (some ⟨b, 0, none⟩)] w fun e w' => e = .returned (.bool r.isEmpty) ∧ ∃ n, w' = w.drewN n := by
  obtain ⟨p, hp, rfl, ⟨c0, c1, fz⟩⟩ := hR
  have HE := hide (empty_is s p hp)
  generalize (s.data.toList.drop p).isEmpty = B at *
  go_enter Tryd.func23, Tryd.ntmps23
  go_wp2
  go_quiet (fail)
  go_wp2
  go_ret
  exact ⟨ret_bool HE.out, _, rfl⟩

set_option maxHeartbeats 1000000 in
theorem rest_any (s : ByteArray) (hs : s.size ≤ 100000) (b : Nat) (r : List UInt8) (w : World) (hR : RdL w b s r) :
    Calls Tryd.prog 33 #[.pointer (some ⟨b, 0, none⟩)] w fun e w' => e = .returned (.string ⟨r.toArray⟩) ∧ ∃ n, w' = w.drewN n := by
  obtain ⟨p, hp, rfl, ⟨c0, c1, fz⟩⟩ := hR
  have HE := hide (rest_is s p hp)
  generalize (⟨(s.data.toList.drop p).toArray⟩ : ByteArray) = B at *
  go_enter Tryd.func33, Tryd.ntmps33
  go_wp2
  go_quiet (fail)
  go_wp2
  go_ret
  refine ⟨?_, _, rfl⟩
  rw [HE.out]
  rfl

set_option maxHeartbeats 1000000 in
theorem take_any (s : ByteArray) (hs : s.size ≤ 100000) (b p q : Nat) (hq : q ≤ s.size) (hpq : p ≤ q) (w : World) (hR : RdP w b s p) :
    Calls Tryd.prog 20 #[.pointer (some ⟨b, 0, none⟩), .int .i64 (q : Int)] w fun e w' => e = .returned (.string (s.extract p q)) ∧ w' = w.setCell ⟨b, 1, none⟩ (.int .i64 (q : Int)) := by
  obtain ⟨c0, c1, fz⟩ := hR
  go_enter Tryd.func20, Tryd.ntmps20
  go_wp2
  go_ret
  exact ⟨rfl, rfl⟩
theorem RdP.drewN {w : World} {b : Nat} {s : ByteArray} {p : Nat} (h : RdP w b s p) (n : Nat) : RdP (w.drewN n) b s p := ⟨h.c0, h.c1, h.fz⟩
theorem RdL.drewN {w : World} {b : Nat} {s : ByteArray} {r : List UInt8} (h : RdL w b s r) (n : Nat) : RdL (w.drewN n) b s r := by
  obtain ⟨p, h1, h2, h3⟩ := h
  exact ⟨p, h1, h2, h3.drewN n⟩

/-- skip: the word's bytes are passed, if they stand there. -/
def skipL (t r : List UInt8) : List UInt8 := if t.isPrefixOf r then r.drop t.length else r
set_option maxHeartbeats 1000000 in
theorem skip_any (s : ByteArray) (hs : s.size ≤ 100000) (b : Nat) (r : List UInt8) (t : ByteArray) (w : World) (hR : RdL w b s r) :
    Calls Tryd.prog 27 #[.pointer (some ⟨b, 0, none⟩), .string t] w fun e w' => e = .returned (.bool (t.data.toList.isPrefixOf r)) ∧ RdL w' b s (skipL t.data.toList r) ∧ But b w w' := by
  have HR := hide (rest_any s hs b r w hR)
  have hP := Tryd.strings_HasPrefix ⟨r.toArray⟩ t
  rw [str_data] at hP
  have hlen := hR.len
  obtain ⟨p, hp, hd, hRP⟩ := hR
  have hpl : s.size - p = r.length := by rw [← hd, List.length_drop, ← size_list]
  have HRP := hide hRP
  have HD := hide hd
  clear hRP hd
  cases hB : t.data.toList.isPrefixOf r with
  | false =>
    have hL : skipL t.data.toList r = r := by unfold skipL; rw [hB]; rfl
    rw [hL]
    have HP : Hid (∀ w, Calls Tryd.prog 45 #[.string ⟨r.toArray⟩, .string t] w fun e w' => e = .returned (.bool false) ∧ w' = w) := by
      refine hide fun w => ?_
      have := hP w
      unfold Lib.hasPrefix at this
      rw [hB] at this
      exact this
    clear hP hB hL
    generalize (⟨r.toArray⟩ : ByteArray) = x at *
    go_enter Tryd.func27, Tryd.ntmps27
    go_wp2_with fail
    refine HR.out.mono ?_
    rintro e w1 ⟨rfl, n, rfl⟩
    go_wp2_with fail
    refine (HP.out _).mono ?_
    rintro e w1 ⟨rfl, rfl⟩
    go_wp2
    go_ret
    exact ⟨rfl, ⟨p, hp, HD.out, HRP.out.drewN n⟩, (But.refl b w).drewN n⟩
  | true =>
    have hL : skipL t.data.toList r = r.drop t.data.toList.length := by unfold skipL; rw [hB]; rfl
    rw [hL]
    have hle : t.size ≤ r.length := by
      rw [size_list]
      exact (List.isPrefixOf_iff_prefix.1 hB).length_le
    have HP : Hid (∀ w, Calls Tryd.prog 45 #[.string ⟨r.toArray⟩, .string t] w fun e w' => e = .returned (.bool true) ∧ w' = w) := by
      refine hide fun w => ?_
      have := hP w
      unfold Lib.hasPrefix at this
      rw [hB] at this
      exact this
    have HD2 : Hid (s.data.toList.drop (p + t.size) = r.drop t.data.toList.length) := hide (by rw [← HD.out, List.drop_drop, size_list t])
    have hsum : p + t.size ≤ s.size := by omega
    clear hP hB hL
    generalize (⟨r.toArray⟩ : ByteArray) = x at *
    go_enter Tryd.func27, Tryd.ntmps27
    go_wp2_with fail
    refine HR.out.mono ?_
    rintro e w1 ⟨rfl, n, rfl⟩
    go_wp2_with fail
    refine (HP.out _).mono ?_
    rintro e w1 ⟨rfl, rfl⟩
    have c1 := HRP.out.c1
    have fz := HRP.out.fz
    go_wp2
    go_ret
    refine ⟨rfl, ⟨p + t.size, hsum, HD2.out, ?_⟩, ?_⟩
    · have h := (HRP.out.drewN n).set (p + t.size)
      rw [show (((p + t.size : Nat)) : Int) = (p : Int) + (t.size : Int) by omega] at h
      exact h
    · exact ((But.refl b w).drewN n).setCell 1 _

set_option maxHeartbeats 1000000 in
theorem pspace_any (n : Nat) (w : World) :
    Calls Tryd.prog 57 #[.int .u8 (n : Int)] w fun e w' => e = .returned (.bool (spaceN n)) ∧ w' = w := by
  by_cases h1 : n = 9
  · subst h1; go_enter Tryd.func57, Tryd.ntmps57; go_wp2; go_ret; exact ⟨rfl, rfl⟩
  by_cases h2 : n = 10
  · subst h2; go_enter Tryd.func57, Tryd.ntmps57; go_wp2; go_ret; exact ⟨rfl, rfl⟩
  by_cases h3 : n = 12
  · subst h3; go_enter Tryd.func57, Tryd.ntmps57; go_wp2; go_ret; exact ⟨rfl, rfl⟩
  by_cases h4 : n = 13
  · subst h4; go_enter Tryd.func57, Tryd.ntmps57; go_wp2; go_ret; exact ⟨rfl, rfl⟩
  by_cases h5 : n = 32
  · subst h5; go_enter Tryd.func57, Tryd.ntmps57; go_wp2; go_ret; exact ⟨rfl, rfl⟩
  have e1 := ne_lit n 9 (by omega)
  have e2 := ne_lit n 10 (by omega)
  have e3 := ne_lit n 12 (by omega)
  have e4 := ne_lit n 13 (by omega)
  have e5 := ne_lit n 32 (by omega)
  have hv : spaceN n = false := by simp [spaceN, h1, h2, h3, h4, h5]
  rw [hv]
  clear hv h1 h2 h3 h4 h5
  go_enter Tryd.func57, Tryd.ntmps57
  go_wp2
  go_ret
  exact ⟨rfl, rfl⟩

/-- A byte of a set, in which the blank stands for every space. -/
def hasB (t : List UInt8) (c : UInt8) : Bool := t.contains (if isSp c then 32 else c)
set_option maxHeartbeats 1000000 in
theorem has_any (t : ByteArray) (c : UInt8) (w : World) :
    Calls Tryd.prog 44 #[.string t, .int .u8 (c.toNat : Int)] w fun e w' => e = .returned (.bool (hasB t.data.toList c)) ∧ w' = w := by
  have HS := hide (pspace_any c.toNat)
  have hI := fun (c : UInt8) => Tryd.strings_IndexByte t (c.toNat : Int)
  have h3 : ∀ c : UInt8, ((c.toNat : Int)).toNat.toUInt8 = c := fun c => by
    rw [Int.toNat_natCast]
    exact UInt8.ofNat_toNat
  unfold hasB isSp
  cases hb : spaceN c.toNat with
  | true =>
    rw [hb] at HS
    have hi := hI 32
    rw [h3] at hi
    have HI : Hid (∀ w, Calls Tryd.prog 58 #[.string t, .int .u8 32] w fun e w' => e = .returned (.int .i64 (Lib.indexByte t.data.toList 32)) ∧ w' = w) := hide hi
    rw [if_pos rfl, Lib.contains_iff_indexByte]
    clear hi hI h3 hb
    generalize Lib.indexByte t.data.toList 32 = z at *
    generalize c.toNat = n at *
    go_enter Tryd.func44, Tryd.ntmps44
    go_wp2_with fail
    refine (HS.out _).mono ?_
    rintro e w1 ⟨rfl, rfl⟩
    go_wp2_with fail
    refine (HI.out _).mono ?_
    rintro e w1 ⟨rfl, rfl⟩
    go_wp2
    go_ret
    exact ⟨rfl, rfl⟩
  | false =>
    rw [hb] at HS
    have hi := hI c
    rw [h3] at hi
    have HI := hide hi
    rw [if_neg (by decide), Lib.contains_iff_indexByte]
    clear hi hI h3 hb
    generalize Lib.indexByte t.data.toList c = z at *
    generalize c.toNat = n at *
    go_enter Tryd.func44, Tryd.ntmps44
    go_wp2_with fail
    refine (HS.out _).mono ?_
    rintro e w1 ⟨rfl, rfl⟩
    go_wp2_with fail
    refine (HI.out _).mono ?_
    rintro e w1 ⟨rfl, rfl⟩
    go_wp2
    go_ret
    exact ⟨rfl, rfl⟩
set_option maxHeartbeats 1000000 in
theorem lacks_any (t : ByteArray) (c : UInt8) (w : World) :
    Calls Tryd.prog 50 #[.string t, .int .u8 (c.toNat : Int)] w fun e w' => e = .returned (.bool (!hasB t.data.toList c)) ∧ w' = w := by
  have HH := hide (has_any t c)
  generalize hasB t.data.toList c = B at *
  generalize c.toNat = n at *
  go_enter Tryd.func50, Tryd.ntmps50
  go_wp2_with fail
  refine (HH.out _).mono ?_
  rintro e w1 ⟨rfl, rfl⟩
  go_wp2
  go_ret
  exact ⟨rfl, rfl⟩
theorem cutP (s : ByteArray) (p k : Nat) (hpk : p ≤ k) (hk : k ≤ s.size) (T V : List UInt8) (h : s.data.toList.drop p = T ++ V) (hV : s.data.toList.drop k = V) : s.extract p k = ⟨T.toArray⟩ := by
  refine str_of _ _ ?_
  have h1 := congrArg List.length h
  have h2 := congrArg List.length hV
  rw [List.length_append, List.length_drop, ← size_list] at h1
  rw [List.length_drop, ← size_list] at h2
  rw [Lib.extract_data, h, show k - p = T.length by omega, List.take_left']
  rfl

set_option maxHeartbeats 1500000 in
theorem run_has (s : ByteArray) (hs : s.size ≤ 100000) (b : Nat) (r : List UInt8) (t : ByteArray) (P : UInt8 → Bool) (hP : ∀ c, P c = !hasB t.data.toList c) (w : World) (hR : RdL w b s r) :
    Calls Tryd.prog 49 #[.pointer (some ⟨b, 0, none⟩), .func (.func 44) #[.string t] #[]] w fun e w' => e = .returned (.string ⟨(r.takeWhile P).toArray⟩) ∧ RdL w' b s (r.dropWhile P) ∧ But b w w' := by
  have HF := hide (fun c w => has_any t c w)
  have HF2 : Hid (∀ c w, Calls Tryd.prog 44 #[.string t, .int .u8 (c.toNat : Int)] w fun e w' => e = .returned (.bool (!P c)) ∧ w' = w) := by
    refine hide fun c w => ?_
    rw [hP]
    have := HF.out c w
    rw [Bool.not_not]
    exact this
  clear HF hP
  have HA := hide (List.takeWhile_append_dropWhile (p := P) (l := r))
  obtain ⟨p, hp, hd, hRP⟩ := hR
  have HT := hide (fun q hq hpq => take_any s hs b p q hq hpq w hRP)
  have HRP := hide hRP
  have c0 := hRP.c0
  have c1 := hRP.c1
  have HD := hide hd
  clear hd hRP
  generalize r.takeWhile P = T at *
  generalize hV : r.dropWhile P = V at *
  have HV := hide hV
  clear hV
  have HEND : Hid (∀ k, p ≤ k → k ≤ s.size → s.data.toList.drop k = V → (Ending.returned (.string (s.extract p k)) = .returned (.string ⟨T.toArray⟩)) ∧ RdL (w.setCell ⟨b, 1, none⟩ (.int .i64 (k : Int))) b s V ∧ But b w (w.setCell ⟨b, 1, none⟩ (.int .i64 (k : Int)))) := by
    refine hide fun k h1 h2 h3 => ⟨?_, ⟨k, h2, h3, HRP.out.set k⟩, (But.refl b w).setCell 1 _⟩
    rw [cutP s p k h1 h2 T V (by rw [HD.out]; exact HA.out.symm) h3]
  go_enter Tryd.func49, Tryd.ntmps49
  go_wp2
  go_loop [5] (fun i => ∃ k : Nat, p ≤ k ∧ k ≤ s.size ∧ i = .int .i64 k ∧ Hid ((s.data.toList.drop k).dropWhile P = V)) (fun i => s.size - (intOf i).toNat)
  case atStart => exact ⟨p, Nat.le_refl _, hp, rfl, hide (by rw [HD.out]; exact HV.out)⟩
  case round =>
    obtain ⟨k, hpk, hk, rfl, HR⟩ := hrel
    by_cases hlt : k < s.size
    · have hlt2 : (k : Int) < s.size := by omega
      have hdc := drop_cons s k hlt
      have HQ := hide (HF2.out s[k])
      cases hB : P s[k] with
      | true =>
        rw [hB] at HQ
        have HR2 : Hid ((s.data.toList.drop (k + 1)).dropWhile P = V) := hide (by rw [← HR.out, hdc, List.dropWhile_cons_of_pos hB])
        clear hB hdc HR
        go_wp2_with fail
        refine (HQ.out _).mono ?_
        rintro e w1 ⟨rfl, rfl⟩
        go_wp2
        go_round
        case rel => exact ⟨k + 1, by omega, by omega, by go_num, HR2⟩
        case measure => simp [intOf]; omega
      | false =>
        rw [hB] at HQ
        have HR2 : Hid (s.data.toList.drop k = V) := hide (by rw [← HR.out, hdc, List.dropWhile_cons_of_neg (by rw [hB]; decide)])
        have HE2 := hide (HEND.out k hpk hk HR2.out)
        clear hB hdc HR
        go_wp2_with fail
        refine (HQ.out _).mono ?_
        rintro e w1 ⟨rfl, rfl⟩
        go_wp2_with fail
        refine (HT.out k hk hpk).mono ?_
        rintro e w1 ⟨rfl, rfl⟩
        go_wp2
        go_ret
        exact HE2.out
    · have hlt2 : ¬ (k : Int) < s.size := by omega
      have HR2 : Hid (s.data.toList.drop k = V) := hide (by rw [← HR.out, drop_end s k (by omega)]; rfl)
      have HE2 := hide (HEND.out k hpk hk HR2.out)
      clear HR
      go_wp2_with fail
      refine (HT.out k hk hpk).mono ?_
      rintro e w1 ⟨rfl, rfl⟩
      go_wp2
      go_ret
      exact HE2.out

set_option maxHeartbeats 1500000 in
theorem run_lacks (s : ByteArray) (hs : s.size ≤ 100000) (b : Nat) (r : List UInt8) (t : ByteArray) (P : UInt8 → Bool) (hP : ∀ c, P c = hasB t.data.toList c) (w : World) (hR : RdL w b s r) :
    Calls Tryd.prog 49 #[.pointer (some ⟨b, 0, none⟩), .func (.func 50) #[.string t] #[]] w fun e w' => e = .returned (.string ⟨(r.takeWhile P).toArray⟩) ∧ RdL w' b s (r.dropWhile P) ∧ But b w w' := by
  have HF := hide (fun c w => lacks_any t c w)
  have HF2 : Hid (∀ c w, Calls Tryd.prog 50 #[.string t, .int .u8 (c.toNat : Int)] w fun e w' => e = .returned (.bool (!P c)) ∧ w' = w) := by
    refine hide fun c w => ?_
    rw [hP]
    have := HF.out c w
    exact this
  clear HF hP
  have HA := hide (List.takeWhile_append_dropWhile (p := P) (l := r))
  obtain ⟨p, hp, hd, hRP⟩ := hR
  have HT := hide (fun q hq hpq => take_any s hs b p q hq hpq w hRP)
  have HRP := hide hRP
  have c0 := hRP.c0
  have c1 := hRP.c1
  have HD := hide hd
  clear hd hRP
  generalize r.takeWhile P = T at *
  generalize hV : r.dropWhile P = V at *
  have HV := hide hV
  clear hV
  have HEND : Hid (∀ k, p ≤ k → k ≤ s.size → s.data.toList.drop k = V → (Ending.returned (.string (s.extract p k)) = .returned (.string ⟨T.toArray⟩)) ∧ RdL (w.setCell ⟨b, 1, none⟩ (.int .i64 (k : Int))) b s V ∧ But b w (w.setCell ⟨b, 1, none⟩ (.int .i64 (k : Int)))) := by
    refine hide fun k h1 h2 h3 => ⟨?_, ⟨k, h2, h3, HRP.out.set k⟩, (But.refl b w).setCell 1 _⟩
    rw [cutP s p k h1 h2 T V (by rw [HD.out]; exact HA.out.symm) h3]
  go_enter Tryd.func49, Tryd.ntmps49
  go_wp2
  go_loop [5] (fun i => ∃ k : Nat, p ≤ k ∧ k ≤ s.size ∧ i = .int .i64 k ∧ Hid ((s.data.toList.drop k).dropWhile P = V)) (fun i => s.size - (intOf i).toNat)
  case atStart => exact ⟨p, Nat.le_refl _, hp, rfl, hide (by rw [HD.out]; exact HV.out)⟩
  case round =>
    obtain ⟨k, hpk, hk, rfl, HR⟩ := hrel
    by_cases hlt : k < s.size
    · have hlt2 : (k : Int) < s.size := by omega
      have hdc := drop_cons s k hlt
      have HQ := hide (HF2.out s[k])
      cases hB : P s[k] with
      | true =>
        rw [hB] at HQ
        have HR2 : Hid ((s.data.toList.drop (k + 1)).dropWhile P = V) := hide (by rw [← HR.out, hdc, List.dropWhile_cons_of_pos hB])
        clear hB hdc HR
        go_wp2_with fail
        refine (HQ.out _).mono ?_
        rintro e w1 ⟨rfl, rfl⟩
        go_wp2
        go_round
        case rel => exact ⟨k + 1, by omega, by omega, by go_num, HR2⟩
        case measure => simp [intOf]; omega
      | false =>
        rw [hB] at HQ
        have HR2 : Hid (s.data.toList.drop k = V) := hide (by rw [← HR.out, hdc, List.dropWhile_cons_of_neg (by rw [hB]; decide)])
        have HE2 := hide (HEND.out k hpk hk HR2.out)
        clear hB hdc HR
        go_wp2_with fail
        refine (HQ.out _).mono ?_
        rintro e w1 ⟨rfl, rfl⟩
        go_wp2_with fail
        refine (HT.out k hk hpk).mono ?_
        rintro e w1 ⟨rfl, rfl⟩
        go_wp2
        go_ret
        exact HE2.out
    · have hlt2 : ¬ (k : Int) < s.size := by omega
      have HR2 : Hid (s.data.toList.drop k = V) := hide (by rw [← HR.out, drop_end s k (by omega)]; rfl)
      have HE2 := hide (HEND.out k hpk hk HR2.out)
      clear HR
      go_wp2_with fail
      refine (HT.out k hk hpk).mono ?_
      rintro e w1 ⟨rfl, rfl⟩
      go_wp2
      go_ret
      exact HE2.out
end Go.Proofs.YtlfjmgniflkapaaDoor
