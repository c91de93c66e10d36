import Derived.Test.YtfohijnkeefcfaaGreatDoorKn01
import Derived.Test.YtfohijnkeefcfaaGreatDoorKn04
import Derived.Test.YtfohijnkeefcfaaGreatDoorKn30
import Derived.BigQuiet
import Derived.Lib.IndexAny
import Derived.Deep.QuietTactic
set_option linter.unusedVariables false
set_option linter.unusedSimpArgs false
set_option maxRecDepth 100000
set_option maxHeartbeats 8000000
namespace Go.Proofs.YtfohijnkeefcfaaGreatDoor.S4
open Go.RowKit
structure But (b : Nat) (w w' : World) : Prop where
  os : w'.os = w.os
  tape : w'.tape = w.tape
  output : w'.output = w.output
  size : w.heap.size <= w'.heap.size
  block : ∀ k, k < w.heap.size -> k ≠ b -> w'.heap[k]? = w.heap[k]?
theorem But.refl (b : Nat) (w : World) : But b w w := ⟨rfl, rfl, rfl, Nat.le_refl _, fun _ _ _ => rfl⟩
theorem But.trans {b : Nat} {w w1 w2 : World} (h : But b w w1) (k : But b w1 w2) : But b w w2 :=
  ⟨k.os.trans h.os, k.tape.trans h.tape, k.output.trans h.output, Nat.le_trans h.size k.size, fun i hi hn => (k.block i (Nat.lt_of_lt_of_le hi h.size) hn).trans (h.block i hi hn)⟩
theorem But.of {b : Nat} {w w1 : World} (h : Below w.heap.size w w1) : But b w w1 := ⟨h.os, h.tape, h.output, h.size, fun k hk _ => h.block k hk⟩
theorem But.alloc {b : Nat} {w w1 : World} (h : But b w w1) (o : Obj) : But b w (w1.alloc o) := h.trans (.of (below_alloc w1 o))
theorem But.setCell {b : Nat} {w w1 : World} (h : But b w w1) (o : Nat) (v : Value) : But b w (w1.setCell ⟨b, o, none⟩ v) :=
  h.trans ⟨rfl, rfl, rfl, by simp [World.setCell], fun k _ hn => Below.heap_setCell _ _ _ _ hn⟩
theorem But.setNew {b : Nat} {w w1 : World} (h : But b w w1) (a : Addr) (ha : w.heap.size <= a.block) (v : Value) : But b w (w1.setCell a v) :=
  ⟨h.os, h.tape, h.output, by simpa [World.setCell] using h.size, fun k hk hn => by rw [Below.heap_setCell _ _ _ _ (by omega)]; exact h.block k hk hn⟩
theorem But.drewN {b : Nat} {w w1 : World} (h : But b w w1) (n : Nat) : But b w (w1.drewN n) := ⟨h.os, h.tape, h.output, h.size, h.block⟩
theorem But.cell {b : Nat} {w w1 : World} (h : But b w w1) {p : Addr} (hp : p.block < w.heap.size) (hn : p.block ≠ b) : w1.cell? p = w.cell? p := World.cell?_of_block (w := w) (h.block p.block hp hn)
theorem But.frozen {b : Nat} {w w1 : World} (h : But b w w1) {p : Addr} (hp : p.block < w.heap.size) (hn : p.block ≠ b) : w1.frozen? p = w.frozen? p := World.frozen?_of_block (w := w) (h.block p.block hp hn)
theorem But.below {b n : Nat} {w w1 : World} (h : But b w w1) (hn : n <= b) (hs : n <= w.heap.size) : Below n w w1 := ⟨h.os, h.tape, h.output, h.size, fun k hk => h.block k (by omega) (by omega)⟩
structure RdP (w : World) (b : Nat) (s : ByteArray) (p : Nat) : Prop where
  c0 : w.cell? ⟨b, 0, none⟩ = some (.string s)
  c1 : w.cell? ⟨b, 1, none⟩ = some (.int .i64 (p : Int))
  fz : ∀ o, w.frozen? ⟨b, o, none⟩ = false
theorem RdP.lt {w : World} {b : Nat} {s : ByteArray} {p : Nat} (h : RdP w b s p) : b < w.heap.size := cell_lt h.c0
theorem RdP.below {w W : World} {b : Nat} {s : ByteArray} {p : Nat} (h : RdP w b s p) (hb : Below w.heap.size w W) : RdP W b s p :=
  ⟨by rw [hb.cell (p := ⟨b, 0, none⟩) h.lt]; exact h.c0, by rw [hb.cell (p := ⟨b, 1, none⟩) h.lt]; exact h.c1, fun o => by rw [hb.frozen (p := ⟨b, o, none⟩) h.lt]; exact h.fz o⟩
theorem RdP.set {w : World} {b : Nat} {s : ByteArray} {p : Nat} (h : RdP w b s p) (q : Nat) : RdP (w.setCell ⟨b, 1, none⟩ (.int .i64 (q : Int))) b s q :=
  ⟨by rw [World.cell?_setCell_other w _ _ _ (by intro he; injection he; omega)]; exact h.c0, World.cell?_setCell_same w _ _ h.c1, fun o => by rw [World.frozen?_setCell]; exact h.fz o⟩
theorem RdP.other {w : World} {b : Nat} {s : ByteArray} {p : Nat} (h : RdP w b s p) (a : Addr) (ha : a.block ≠ b) (v : Value) : RdP (w.setCell a v) b s p :=
  ⟨by rw [World.cell?_setCell_other w _ _ _ (by intro he; exact ha (congrArg Addr.block he))]; exact h.c0, by rw [World.cell?_setCell_other w _ _ _ (by intro he; exact ha (congrArg Addr.block he))]; exact h.c1, fun o => by rw [World.frozen?_setCell]; exact h.fz o⟩
def RdL (w : World) (b : Nat) (s : ByteArray) (r : List UInt8) : Prop := ∃ p : Nat, p <= s.size /\ s.data.toList.drop p = r /\ RdP w b s p
theorem RdL.below {w W : World} {b : Nat} {s : ByteArray} {r : List UInt8} (h : RdL w b s r) (hb : Below w.heap.size w W) : RdL W b s r := by
  obtain ⟨p, h1, h2, h3⟩ := h
  exact ⟨p, h1, h2, h3.below hb⟩
theorem RdL.other {w : World} {b : Nat} {s : ByteArray} {r : List UInt8} (h : RdL w b s r) (a : Addr) (ha : a.block ≠ b) (v : Value) : RdL (w.setCell a v) b s r := by
  obtain ⟨p, h1, h2, h3⟩ := h
  exact ⟨p, h1, h2, h3.other a ha v⟩
theorem RdL.lt {w : World} {b : Nat} {s : ByteArray} {r : List UInt8} (h : RdL w b s r) : b < w.heap.size := by
  obtain ⟨p, _, _, h3⟩ := h
  exact h3.lt
theorem RdL.len {w : World} {b : Nat} {s : ByteArray} {r : List UInt8} (h : RdL w b s r) : r.length <= s.size := by
  obtain ⟨p, h1, h2, _⟩ := h
  rw [<- h2, List.length_drop, <- size_list]
  omega
theorem rest_is (s : ByteArray) (p : Nat) (hp : p <= s.size) : s.extract p s.size = ⟨(s.data.toList.drop p).toArray⟩ := by
  refine str_of _ _ ?_
  rw [Lib.extract_data, List.take_of_length_le (by rw [List.length_drop, <- size_list]; omega)]
theorem empty_is (s : ByteArray) (p : Nat) (hp : p <= s.size) : ((p : Int) == (s.size : Int)) = (s.data.toList.drop p).isEmpty := by
  by_cases h : p = s.size
  · rw [drop_end s p (by omega), h]
    simp
  · rw [drop_cons s p (by omega), ne_lit p s.size (by omega)]
    rfl
theorem done_any (s : ByteArray) (hs : s.size <= 100000) (b : Nat) (r : List UInt8) (w : World) (hR : RdL w b s r) :
    Calls Tryz.prog 68 #[.pointer (some ⟨b, 0, none⟩)] w fun e w' => e = .returned (.bool r.isEmpty) /\ ∃ n, w' = w.drewN n := by
  obtain ⟨p, hp, rfl, ⟨c0, c1, fz⟩⟩ := hR
  have HE := hide (empty_is s p hp)
  generalize (s.data.toList.drop p).isEmpty = B at *
  go_enter Tryz.func68, Tryz.ntmps68
  go_wp2
  go_quiet (fail)
  go_wp2
  go_ret
  exact ⟨ret_bool HE.out, _, rfl⟩
theorem rest_any (s : ByteArray) (hs : s.size <= 100000) (b : Nat) (r : List UInt8) (w : World) (hR : RdL w b s r) :
    Calls Tryz.prog 95 #[.pointer (some ⟨b, 0, none⟩)] w fun e w' => e = .returned (.string ⟨r.toArray⟩) /\ ∃ n, w' = w.drewN n := by
  obtain ⟨p, hp, rfl, ⟨c0, c1, fz⟩⟩ := hR
  have HE := hide (rest_is s p hp)
  generalize (⟨(s.data.toList.drop p).toArray⟩ : ByteArray) = B at *
  go_enter Tryz.func95, Tryz.ntmps95
  go_wp2
  go_quiet (fail)
  go_wp2
  go_ret
  refine ⟨?_, _, rfl⟩
  rw [HE.out]
  rfl
theorem take_any (s : ByteArray) (hs : s.size <= 100000) (b p q : Nat) (hq : q <= s.size) (hpq : p <= q) (w : World) (hR : RdP w b s p) :
    Calls Tryz.prog 65 #[.pointer (some ⟨b, 0, none⟩), .int .i64 (q : Int)] w fun e w' => e = .returned (.string (s.extract p q)) /\ w' = w.setCell ⟨b, 1, none⟩ (.int .i64 (q : Int)) := by
  obtain ⟨c0, c1, fz⟩ := hR
  go_enter Tryz.func65, Tryz.ntmps65
  go_wp2
  go_ret
  exact ⟨rfl, rfl⟩
theorem RdP.drewN {w : World} {b : Nat} {s : ByteArray} {p : Nat} (h : RdP w b s p) (n : Nat) : RdP (w.drewN n) b s p := ⟨h.c0, h.c1, h.fz⟩
theorem RdL.drewN {w : World} {b : Nat} {s : ByteArray} {r : List UInt8} (h : RdL w b s r) (n : Nat) : RdL (w.drewN n) b s r := by
  obtain ⟨p, h1, h2, h3⟩ := h
  exact ⟨p, h1, h2, h3.drewN n⟩
def skipL (t r : List UInt8) : List UInt8 := if t.isPrefixOf r then r.drop t.length else r
theorem skip_any (s : ByteArray) (hs : s.size <= 100000) (b : Nat) (r : List UInt8) (t : ByteArray) (w : World) (hR : RdL w b s r) :
    Calls Tryz.prog 91 #[.pointer (some ⟨b, 0, none⟩), .string t] w fun e w' => e = .returned (.bool (t.data.toList.isPrefixOf r)) /\ RdL w' b s (skipL t.data.toList r) /\ But b w w' := by
  have HR := hide (rest_any s hs b r w hR)
  have hP := Tryz.strings_HasPrefix ⟨r.toArray⟩ t
  rw [str_data] at hP
  have hlen := hR.len
  obtain ⟨p, hp, hd, hRP⟩ := hR
  have hpl : s.size - p = r.length := by rw [<- hd, List.length_drop, <- size_list]
  have HRP := hide hRP
  have HD := hide hd
  clear hRP hd
  cases hB : t.data.toList.isPrefixOf r with
  | false =>
    have hL : skipL t.data.toList r = r := by unfold skipL; rw [hB]; rfl
    rw [hL]
    have HP : Hid (∀ w, Calls Tryz.prog 59 #[.string ⟨r.toArray⟩, .string t] w fun e w' => e = .returned (.bool false) /\ w' = w) := by
      refine hide fun w => ?_
      have := hP w
      unfold Lib.hasPrefix at this
      rw [hB] at this
      exact this
    clear hP hB hL
    generalize (⟨r.toArray⟩ : ByteArray) = x at *
    go_enter Tryz.func91, Tryz.ntmps91
    go_wp2_with fail
    refine HR.out.mono ?_
    rintro e w1 ⟨rfl, n, rfl⟩
    go_wp2_with fail
    refine (HP.out _).mono ?_
    rintro e w1 ⟨rfl, rfl⟩
    go_wp2
    go_ret
    exact ⟨rfl, ⟨p, hp, HD.out, HRP.out.drewN n⟩, (But.refl b w).drewN n⟩
  | true =>
    have hL : skipL t.data.toList r = r.drop t.data.toList.length := by unfold skipL; rw [hB]; rfl
    rw [hL]
    have hle : t.size <= r.length := by
      rw [size_list]
      exact (List.isPrefixOf_iff_prefix.1 hB).length_le
    have HP : Hid (∀ w, Calls Tryz.prog 59 #[.string ⟨r.toArray⟩, .string t] w fun e w' => e = .returned (.bool true) /\ w' = w) := by
      refine hide fun w => ?_
      have := hP w
      unfold Lib.hasPrefix at this
      rw [hB] at this
      exact this
    have HD2 : Hid (s.data.toList.drop (p + t.size) = r.drop t.data.toList.length) := hide (by rw [<- HD.out, List.drop_drop, size_list t])
    have hsum : p + t.size <= s.size := by omega
    clear hP hB hL
    generalize (⟨r.toArray⟩ : ByteArray) = x at *
    go_enter Tryz.func91, Tryz.ntmps91
    go_wp2_with fail
    refine HR.out.mono ?_
    rintro e w1 ⟨rfl, n, rfl⟩
    go_wp2_with fail
    refine (HP.out _).mono ?_
    rintro e w1 ⟨rfl, rfl⟩
    have c1 := HRP.out.c1
    have fz := HRP.out.fz
    go_wp2
    go_ret
    refine ⟨rfl, ⟨p + t.size, hsum, HD2.out, ?_⟩, ?_⟩
    · have h := (HRP.out.drewN n).set (p + t.size)
      rw [show (((p + t.size : Nat)) : Int) = (p : Int) + (t.size : Int) by omega] at h
      exact h
    · exact ((But.refl b w).drewN n).setCell 1 _
theorem pspace_any (n : Nat) (w : World) :
    Calls Tryz.prog 168 #[.int .u8 (n : Int)] w fun e w' => e = .returned (.bool (spaceN n)) /\ w' = w := by
  by_cases h1 : n = 9
  · subst h1; go_enter Tryz.func168, Tryz.ntmps168; go_wp2; go_ret; exact ⟨rfl, rfl⟩
  by_cases h2 : n = 10
  · subst h2; go_enter Tryz.func168, Tryz.ntmps168; go_wp2; go_ret; exact ⟨rfl, rfl⟩
  by_cases h3 : n = 12
  · subst h3; go_enter Tryz.func168, Tryz.ntmps168; go_wp2; go_ret; exact ⟨rfl, rfl⟩
  by_cases h4 : n = 13
  · subst h4; go_enter Tryz.func168, Tryz.ntmps168; go_wp2; go_ret; exact ⟨rfl, rfl⟩
  by_cases h5 : n = 32
  · subst h5; go_enter Tryz.func168, Tryz.ntmps168; go_wp2; go_ret; exact ⟨rfl, rfl⟩
  have e1 := ne_lit n 9 (by omega)
  have e2 := ne_lit n 10 (by omega)
  have e3 := ne_lit n 12 (by omega)
  have e4 := ne_lit n 13 (by omega)
  have e5 := ne_lit n 32 (by omega)
  have hv : spaceN n = false := by simp [spaceN, h1, h2, h3, h4, h5]
  rw [hv]
  clear hv h1 h2 h3 h4 h5
  go_enter Tryz.func168, Tryz.ntmps168
  go_wp2
  go_ret
  exact ⟨rfl, rfl⟩
def hasB (t : List UInt8) (c : UInt8) : Bool := t.contains (if isSp c then 32 else c)
theorem has_any (t : ByteArray) (c : UInt8) (w : World) :
    Calls Tryz.prog 145 #[.string t, .int .u8 (c.toNat : Int)] w fun e w' => e = .returned (.bool (hasB t.data.toList c)) /\ w' = w := by
  have HS := hide (pspace_any c.toNat)
  have hI := fun (c : UInt8) => Tryz.strings_IndexByte t (c.toNat : Int)
  have h3 : ∀ c : UInt8, ((c.toNat : Int)).toNat.toUInt8 = c := fun c => by
    rw [Int.toNat_natCast]
    exact UInt8.ofNat_toNat
  unfold hasB isSp
  cases hb : spaceN c.toNat with
  | true =>
    rw [hb] at HS
    have hi := hI 32
    rw [h3] at hi
    have HI : Hid (∀ w, Calls Tryz.prog 186 #[.string t, .int .u8 32] w fun e w' => e = .returned (.int .i64 (Lib.indexByte t.data.toList 32)) /\ w' = w) := hide hi
    rw [if_pos rfl, Lib.contains_iff_indexByte]
    clear hi hI h3 hb
    generalize Lib.indexByte t.data.toList 32 = z at *
    generalize c.toNat = n at *
    go_enter Tryz.func145, Tryz.ntmps145
    go_wp2_with fail
    refine (HS.out _).mono ?_
    rintro e w1 ⟨rfl, rfl⟩
    go_wp2_with fail
    refine (HI.out _).mono ?_
    rintro e w1 ⟨rfl, rfl⟩
    go_wp2
    go_ret
    exact ⟨rfl, rfl⟩
  | false =>
    rw [hb] at HS
    have hi := hI c
    rw [h3] at hi
    have HI := hide hi
    rw [if_neg (by decide), Lib.contains_iff_indexByte]
    clear hi hI h3 hb
    generalize Lib.indexByte t.data.toList c = z at *
    generalize c.toNat = n at *
    go_enter Tryz.func145, Tryz.ntmps145
    go_wp2_with fail
    refine (HS.out _).mono ?_
    rintro e w1 ⟨rfl, rfl⟩
    go_wp2_with fail
    refine (HI.out _).mono ?_
    rintro e w1 ⟨rfl, rfl⟩
    go_wp2
    go_ret
    exact ⟨rfl, rfl⟩
theorem lacks_any (t : ByteArray) (c : UInt8) (w : World) :
    Calls Tryz.prog 149 #[.string t, .int .u8 (c.toNat : Int)] w fun e w' => e = .returned (.bool (!hasB t.data.toList c)) /\ w' = w := by
  have HH := hide (has_any t c)
  generalize hasB t.data.toList c = B at *
  generalize c.toNat = n at *
  go_enter Tryz.func149, Tryz.ntmps149
  go_wp2_with fail
  refine (HH.out _).mono ?_
  rintro e w1 ⟨rfl, rfl⟩
  go_wp2
  go_ret
  exact ⟨rfl, rfl⟩
theorem cutP (s : ByteArray) (p k : Nat) (hpk : p <= k) (hk : k <= s.size) (T V : List UInt8) (h : s.data.toList.drop p = T ++ V) (hV : s.data.toList.drop k = V) : s.extract p k = ⟨T.toArray⟩ := by
  refine str_of _ _ ?_
  have h1 := congrArg List.length h
  have h2 := congrArg List.length hV
  rw [List.length_append, List.length_drop, <- size_list] at h1
  rw [List.length_drop, <- size_list] at h2
  rw [Lib.extract_data, h, show k - p = T.length by omega, List.take_left']
  rfl
theorem run_has (s : ByteArray) (hs : s.size <= 100000) (b : Nat) (r : List UInt8) (t : ByteArray) (P : UInt8 -> Bool) (hP : ∀ c, P c = !hasB t.data.toList c) (w : World) (hR : RdL w b s r) :
    Calls Tryz.prog 148 #[.pointer (some ⟨b, 0, none⟩), .func (.func 145) #[.string t] #[]] w fun e w' => e = .returned (.string ⟨(r.takeWhile P).toArray⟩) /\ RdL w' b s (r.dropWhile P) /\ But b w w' := by
  have HF := hide (fun c w => has_any t c w)
  have HF2 : Hid (∀ c w, Calls Tryz.prog 145 #[.string t, .int .u8 (c.toNat : Int)] w fun e w' => e = .returned (.bool (!P c)) /\ w' = w) := by
    refine hide fun c w => ?_
    rw [hP]
    have := HF.out c w
    rw [Bool.not_not]
    exact this
  clear HF hP
  have HA := hide (List.takeWhile_append_dropWhile (p := P) (l := r))
  obtain ⟨p, hp, hd, hRP⟩ := hR
  have HT := hide (fun q hq hpq => take_any s hs b p q hq hpq w hRP)
  have HRP := hide hRP
  have c0 := hRP.c0
  have c1 := hRP.c1
  have HD := hide hd
  clear hd hRP
  generalize r.takeWhile P = T at *
  generalize hV : r.dropWhile P = V at *
  have HV := hide hV
  clear hV
  have HEND : Hid (∀ k, p <= k -> k <= s.size -> s.data.toList.drop k = V -> (Ending.returned (.string (s.extract p k)) = .returned (.string ⟨T.toArray⟩)) /\ RdL (w.setCell ⟨b, 1, none⟩ (.int .i64 (k : Int))) b s V /\ But b w (w.setCell ⟨b, 1, none⟩ (.int .i64 (k : Int)))) := by
    refine hide fun k h1 h2 h3 => ⟨?_, ⟨k, h2, h3, HRP.out.set k⟩, (But.refl b w).setCell 1 _⟩
    rw [cutP s p k h1 h2 T V (by rw [HD.out]; exact HA.out.symm) h3]
  go_enter Tryz.func148, Tryz.ntmps148
  go_wp2
  go_loop [5] (fun i => ∃ k : Nat, p <= k /\ k <= s.size /\ i = .int .i64 k /\ Hid ((s.data.toList.drop k).dropWhile P = V)) (fun i => s.size - (intOf i).toNat)
  case atStart => exact ⟨p, Nat.le_refl _, hp, rfl, hide (by rw [HD.out]; exact HV.out)⟩
  case round =>
    obtain ⟨k, hpk, hk, rfl, HR⟩ := hrel
    by_cases hlt : k < s.size
    · have hlt2 : (k : Int) < s.size := by omega
      have hdc := drop_cons s k hlt
      have HQ := hide (HF2.out s[k])
      cases hB : P s[k] with
      | true =>
        rw [hB] at HQ
        have HR2 : Hid ((s.data.toList.drop (k + 1)).dropWhile P = V) := hide (by rw [<- HR.out, hdc, List.dropWhile_cons_of_pos hB])
        clear hB hdc HR
        go_wp2_with fail
        refine (HQ.out _).mono ?_
        rintro e w1 ⟨rfl, rfl⟩
        go_wp2
        go_round
        case rel => exact ⟨k + 1, by omega, by omega, by go_num, HR2⟩
        case measure => simp [intOf]; omega
      | false =>
        rw [hB] at HQ
        have HR2 : Hid (s.data.toList.drop k = V) := hide (by rw [<- HR.out, hdc, List.dropWhile_cons_of_neg (by rw [hB]; decide)])
        have HE2 := hide (HEND.out k hpk hk HR2.out)
        clear hB hdc HR
        go_wp2_with fail
        refine (HQ.out _).mono ?_
        rintro e w1 ⟨rfl, rfl⟩
        go_wp2_with fail
        refine (HT.out k hk hpk).mono ?_
        rintro e w1 ⟨rfl, rfl⟩
        go_wp2
        go_ret
        exact HE2.out
    · have hlt2 : ¬ (k : Int) < s.size := by omega
      have HR2 : Hid (s.data.toList.drop k = V) := hide (by rw [<- HR.out, drop_end s k (by omega)]; rfl)
      have HE2 := hide (HEND.out k hpk hk HR2.out)
      clear HR
      go_wp2_with fail
      refine (HT.out k hk hpk).mono ?_
      rintro e w1 ⟨rfl, rfl⟩
      go_wp2
      go_ret
      exact HE2.out
theorem run_lacks (s : ByteArray) (hs : s.size <= 100000) (b : Nat) (r : List UInt8) (t : ByteArray) (P : UInt8 -> Bool) (hP : ∀ c, P c = hasB t.data.toList c) (w : World) (hR : RdL w b s r) :
    Calls Tryz.prog 148 #[.pointer (some ⟨b, 0, none⟩), .func (.func 149) #[.string t] #[]] w fun e w' => e = .returned (.string ⟨(r.takeWhile P).toArray⟩) /\ RdL w' b s (r.dropWhile P) /\ But b w w' := by
  have HF := hide (fun c w => lacks_any t c w)
  have HF2 : Hid (∀ c w, Calls Tryz.prog 149 #[.string t, .int .u8 (c.toNat : Int)] w fun e w' => e = .returned (.bool (!P c)) /\ w' = w) := by
    refine hide fun c w => ?_
    rw [hP]
    have := HF.out c w
    exact this
  clear HF hP
  have HA := hide (List.takeWhile_append_dropWhile (p := P) (l := r))
  obtain ⟨p, hp, hd, hRP⟩ := hR
  have HT := hide (fun q hq hpq => take_any s hs b p q hq hpq w hRP)
  have HRP := hide hRP
  have c0 := hRP.c0
  have c1 := hRP.c1
  have HD := hide hd
  clear hd hRP
  generalize r.takeWhile P = T at *
  generalize hV : r.dropWhile P = V at *
  have HV := hide hV
  clear hV
  have HEND : Hid (∀ k, p <= k -> k <= s.size -> s.data.toList.drop k = V -> (Ending.returned (.string (s.extract p k)) = .returned (.string ⟨T.toArray⟩)) /\ RdL (w.setCell ⟨b, 1, none⟩ (.int .i64 (k : Int))) b s V /\ But b w (w.setCell ⟨b, 1, none⟩ (.int .i64 (k : Int)))) := by
    refine hide fun k h1 h2 h3 => ⟨?_, ⟨k, h2, h3, HRP.out.set k⟩, (But.refl b w).setCell 1 _⟩
    rw [cutP s p k h1 h2 T V (by rw [HD.out]; exact HA.out.symm) h3]
  go_enter Tryz.func148, Tryz.ntmps148
  go_wp2
  go_loop [5] (fun i => ∃ k : Nat, p <= k /\ k <= s.size /\ i = .int .i64 k /\ Hid ((s.data.toList.drop k).dropWhile P = V)) (fun i => s.size - (intOf i).toNat)
  case atStart => exact ⟨p, Nat.le_refl _, hp, rfl, hide (by rw [HD.out]; exact HV.out)⟩
  case round =>
    obtain ⟨k, hpk, hk, rfl, HR⟩ := hrel
    by_cases hlt : k < s.size
    · have hlt2 : (k : Int) < s.size := by omega
      have hdc := drop_cons s k hlt
      have HQ := hide (HF2.out s[k])
      cases hB : P s[k] with
      | true =>
        rw [hB] at HQ
        have HR2 : Hid ((s.data.toList.drop (k + 1)).dropWhile P = V) := hide (by rw [<- HR.out, hdc, List.dropWhile_cons_of_pos hB])
        clear hB hdc HR
        go_wp2_with fail
        refine (HQ.out _).mono ?_
        rintro e w1 ⟨rfl, rfl⟩
        go_wp2
        go_round
        case rel => exact ⟨k + 1, by omega, by omega, by go_num, HR2⟩
        case measure => simp [intOf]; omega
      | false =>
        rw [hB] at HQ
        have HR2 : Hid (s.data.toList.drop k = V) := hide (by rw [<- HR.out, hdc, List.dropWhile_cons_of_neg (by rw [hB]; decide)])
        have HE2 := hide (HEND.out k hpk hk HR2.out)
        clear hB hdc HR
        go_wp2_with fail
        refine (HQ.out _).mono ?_
        rintro e w1 ⟨rfl, rfl⟩
        go_wp2_with fail
        refine (HT.out k hk hpk).mono ?_
        rintro e w1 ⟨rfl, rfl⟩
        go_wp2
        go_ret
        exact HE2.out
    · have hlt2 : ¬ (k : Int) < s.size := by omega
      have HR2 : Hid (s.data.toList.drop k = V) := hide (by rw [<- HR.out, drop_end s k (by omega)]; rfl)
      have HE2 := hide (HEND.out k hpk hk HR2.out)
      clear HR
      go_wp2_with fail
      refine (HT.out k hk hpk).mono ?_
      rintro e w1 ⟨rfl, rfl⟩
      go_wp2
      go_ret
      exact HE2.out
end Go.Proofs.YtfohijnkeefcfaaGreatDoor.S4
namespace Go.Proofs.YtfohijnkeefcfaaGreatDoor.S4
open Go.RowKit
theorem has_sp (c : UInt8) : hasB [32] c = isSp c := by
  unfold hasB
  cases h : isSp c with
  | true => rfl
  | false =>
    have h2 : c ≠ 32 := fun e => by subst e; exact absurd h (by decide)
    simp [h2]
theorem has_pass (c : UInt8) : hasB [32, 47] c = passB c := by
  unfold hasB passB
  cases h : isSp c with
  | true => rfl
  | false =>
    have h2 : c ≠ 32 := fun e => by subst e; exact absurd h (by decide)
    by_cases h3 : c = 47
    · subst h3; rfl
    · simp [h2, h3]
theorem has_name (c : UInt8) : nameB c = !hasB [32, 47, 62] c := by
  unfold hasB nameB
  cases h : isSp c with
  | true => rfl
  | false =>
    have h2 : c ≠ 32 := fun e => by subst e; exact absurd h (by decide)
    by_cases h3 : c = 47
    · subst h3; rfl
    · by_cases h4 : c = 62
      · subst h4; rfl
      · simp [h2, h3, h4]
theorem has_attr (c : UInt8) : attrB c = !hasB [32, 47, 62, 61] c := by
  unfold hasB attrB
  cases h : isSp c with
  | true => rfl
  | false =>
    have h2 : c ≠ 32 := fun e => by subst e; exact absurd h (by decide)
    by_cases h3 : c = 47
    · subst h3; rfl
    · by_cases h4 : c = 62
      · subst h4; rfl
      · by_cases h5 : c = 61
        · subst h5; rfl
        · simp [h2, h3, h4, h5]
theorem has_val (c : UInt8) : valB c = !hasB [32, 62] c := by
  unfold hasB valB
  cases h : isSp c with
  | true => rfl
  | false =>
    have h2 : c ≠ 32 := fun e => by subst e; exact absurd h (by decide)
    by_cases h3 : c = 62
    · subst h3; rfl
    · simp [h2, h3]
theorem has_one (q : UInt8) (hq : isSp q = false) (c : UInt8) : (c != q) = !hasB [q] c := by
  unfold hasB
  cases h : isSp c with
  | true =>
    have h1 : c ≠ q := fun e => by subst e; rw [h] at hq; cases hq
    have h2 : (32 : UInt8) ≠ q := fun e => by subst e; exact absurd hq (by decide)
    simp [h1, h2, bne]
  | false =>
    by_cases h3 : c = q
    · subst h3; simp [bne]
    · have h4 : ¬ q = c := fun e => h3 e.symm
      simp [bne, h3, h4]
theorem find_one (q : UInt8) : ∀ r : List UInt8, r.takeWhile (fun c => c != q) = (findR [q] r).1 /\ r.dropWhile (fun c => c != q) = (findR [q] r).2
  | [] => ⟨rfl, rfl⟩
  | c :: r => by
    obtain ⟨h1, h2⟩ := find_one q r
    by_cases h : c = q
    · subst h
      simp [findR, List.isPrefixOf]
    · have hb : (c != q) = true := by simp [bne, h]
      have hb2 : (q == c) = false := by simp; exact fun e => h e.symm
      simp [findR, List.isPrefixOf, hb, hb2, h1, h2]
theorem find_head (q : UInt8) : ∀ r : List UInt8, (findR [q] r).2 = [] \/ ∃ x, (findR [q] r).2 = q :: x
  | [] => .inl rfl
  | c :: r => by
    simp only [findR]
    split
    · rename_i h
      have : c = q := by
        simp [List.isPrefixOf] at h
        exact h.symm
      exact .inr ⟨r, by rw [this]⟩
    · exact find_head q r
theorem find_skip (q : UInt8) (r : List UInt8) : skipL [q] (findR [q] r).2 = (findR [q] r).2.drop 1 := by
  rcases find_head q r with h | ⟨x, h⟩
  · rw [h]; rfl
  · rw [h]
    unfold skipL
    rw [if_pos (by simp [List.isPrefixOf])]
    rfl
theorem spaces_any (s : ByteArray) (hs : s.size <= 100000) (b : Nat) (r : List UInt8) (w : World) (hR : RdL w b s r) :
    Calls Tryz.prog 192 #[.pointer (some ⟨b, 0, none⟩)] w fun e w' => e = .returned (.tuple #[]) /\ RdL w' b s (r.dropWhile isSp) /\ But b w w' := by
  have HU := hide (run_lacks s hs b r ⟨#[32]⟩ isSp (fun c => (has_sp c).symm) w hR)
  generalize r.takeWhile isSp = T at *
  generalize r.dropWhile isSp = V at *
  go_enter Tryz.func192, Tryz.ntmps192
  go_wp2_with fail
  refine HU.out.mono ?_
  rintro e w1 ⟨rfl, h2, h3⟩
  go_wp2
  go_end0
  exact ⟨rfl, h2, h3⟩
theorem quoted_any (s : ByteArray) (hs : s.size <= 100000) (b : Nat) (r : List UInt8) (q : UInt8) (hq : isSp q = false) (w : World) (hR : RdL w b s r) :
    Calls Tryz.prog 234 #[.pointer (some ⟨b, 0, none⟩), .string ⟨#[q]⟩] w fun e w' => e = .returned (.string ⟨(findR [q] r).1.toArray⟩) /\ RdL w' b s ((findR [q] r).2.drop 1) /\ But b w w' := by
  have hU := run_has s hs b r ⟨#[q]⟩ (fun c => c != q) (has_one q hq) w hR
  rw [(find_one q r).1, (find_one q r).2] at hU
  have HS := hide (fun w (h : RdL w b s (findR [q] r).2) => skip_any s hs b (findR [q] r).2 ⟨#[q]⟩ w h)
  have HE := hide (find_skip q r)
  have HU := hide hU
  clear hU
  generalize (findR [q] r).1 = T at *
  generalize (findR [q] r).2 = V at *
  generalize hx : (⟨#[q]⟩ : ByteArray) = x at *
  have HX := hide hx
  clear hx
  go_enter Tryz.func234, Tryz.ntmps234
  go_wp2_with fail
  refine HU.out.mono ?_
  rintro e w1 ⟨rfl, h2, h3⟩
  have H2 := hide h2
  have H3 := hide h3
  clear h2 h3
  go_wp2_with fail
  refine (HS.out _ H2.out).mono ?_
  rintro e w2 ⟨rfl, h4, h5⟩
  go_wp2
  go_ret
  refine ⟨rfl, ?_, H3.out.trans h5⟩
  rw [<- HE.out]
  have := h4
  rw [<- HX.out] at this
  exact this
theorem upToG_any (s : ByteArray) (hs : s.size <= 100000) (b : Nat) (r : List UInt8) (w : World) (hR : RdL w b s r) :
    Calls Tryz.prog 102 #[.pointer (some ⟨b, 0, none⟩)] w fun e w' => e = .returned (.string ⟨(findR [62] r).1.toArray⟩) /\ RdL w' b s ((findR [62] r).2.drop 1) /\ But b w w' := by
  have hU := run_has s hs b r ⟨#[62]⟩ (fun c => c != 62) (has_one 62 rfl) w hR
  rw [(find_one 62 r).1, (find_one 62 r).2] at hU
  have HS := hide (fun w (h : RdL w b s (findR [62] r).2) => skip_any s hs b (findR [62] r).2 ⟨#[62]⟩ w h)
  have HE := hide (find_skip 62 r)
  have HU := hide hU
  clear hU
  generalize (findR [62] r).1 = T at *
  generalize (findR [62] r).2 = V at *
  go_enter Tryz.func102, Tryz.ntmps102
  go_wp2_with fail
  refine HU.out.mono ?_
  rintro e w1 ⟨rfl, h2, h3⟩
  have H2 := hide h2
  have H3 := hide h3
  clear h2 h3
  go_wp2_with fail
  refine (HS.out _ H2.out).mono ?_
  rintro e w2 ⟨rfl, h4, h5⟩
  go_wp2
  go_ret
  refine ⟨rfl, ?_, H3.out.trans h5⟩
  rw [<- HE.out]
  exact h4
def rawV (r : List UInt8) : List UInt8 × List UInt8 :=
  if [34].isPrefixOf r then ((findR [34] (r.drop 1)).1, (findR [34] (r.drop 1)).2.drop 1) else if [39].isPrefixOf r then ((findR [39] (r.drop 1)).1, (findR [39] (r.drop 1)).2.drop 1) else (r.takeWhile valB, r.dropWhile valB)
theorem rawV_value (r : List UInt8) : valueL r = (decL true (rawV r).1, (rawV r).2) := by
  cases r with
  | nil => simp [valueL, rawV, decL_nil]
  | cons c q =>
    unfold valueL rawV
    simp only
    by_cases h1 : c = 62
    · subst h1
      rw [if_pos rfl, if_neg (by simp [List.isPrefixOf]), if_neg (by simp [List.isPrefixOf])]
      have : valB 62 = false := rfl
      simp [List.takeWhile_cons, List.dropWhile_cons, this, decL_nil]
    · rw [if_neg h1]
      by_cases h2 : c = 34
      · subst h2
        simp [List.isPrefixOf]
      · by_cases h3 : c = 39
        · subst h3
          simp [List.isPrefixOf]
        · have e1 : ¬ (34 : UInt8) = c := fun e => h2 e.symm
          have e2 : ¬ (39 : UInt8) = c := fun e => h3 e.symm
          simp [List.isPrefixOf, h2, h3, e1, e2]
theorem pvalue_any (s : ByteArray) (hs : s.size <= 100000) (b : Nat) (r : List UInt8) (w : World) (hR : RdL w b s r) :
    Calls Tryz.prog 193 #[.pointer (some ⟨b, 0, none⟩)] w fun e w' => e = .returned (.string ⟨(rawV r).1.toArray⟩) /\ RdL w' b s (rawV r).2 /\ But b w w' := by
  have hK := skip_any s hs b r ⟨#[34]⟩ w hR
  unfold rawV
  cases h1 : ([34] : List UInt8).isPrefixOf r with
  | true =>
    rw [if_pos rfl]
    have e1 : skipL [34] r = r.drop 1 := by unfold skipL; rw [h1]; rfl
    have HK : Hid (Calls Tryz.prog 91 #[.pointer (some ⟨b, 0, none⟩), .string ⟨#[34]⟩] w fun e w' => e = .returned (.bool true) /\ RdL w' b s (r.drop 1) /\ But b w w') := by
      rw [<- h1, <- e1]; exact hK
    have HQ := hide (fun w (h : RdL w b s (r.drop 1)) => quoted_any s hs b (r.drop 1) 34 rfl w h)
    clear hK e1 h1 hR
    generalize (findR [34] (r.drop 1)).1 = T at *
    generalize (findR [34] (r.drop 1)).2 = V at *
    generalize r.drop 1 = r1 at *
    go_enter Tryz.func193, Tryz.ntmps193
    go_wp2_with fail
    refine HK.out.mono ?_
    rintro e w1 ⟨rfl, h2, h3⟩
    have H2 := hide h2
    have H3 := hide h3
    clear h2 h3
    go_wp2_with fail
    refine (HQ.out _ H2.out).mono ?_
    rintro e w2 ⟨rfl, h4, h5⟩
    go_wp2
    go_ret
    exact ⟨rfl, h4, H3.out.trans h5⟩
  | false =>
    rw [if_neg (by decide)]
    have e1 : skipL [34] r = r := by unfold skipL; rw [h1]; rfl
    have HK : Hid (Calls Tryz.prog 91 #[.pointer (some ⟨b, 0, none⟩), .string ⟨#[34]⟩] w fun e w' => e = .returned (.bool false) /\ RdL w' b s r /\ But b w w') := by
      refine hide ?_
      have := hK
      rw [show skipL (⟨#[34]⟩ : ByteArray).data.toList r = r from e1, show (⟨#[34]⟩ : ByteArray).data.toList.isPrefixOf r = false from h1] at this
      exact this
    have hK2 := fun w (h : RdL w b s r) => skip_any s hs b r ⟨#[39]⟩ w h
    cases h2 : ([39] : List UInt8).isPrefixOf r with
    | true =>
      rw [if_pos rfl]
      have e2 : skipL [39] r = r.drop 1 := by unfold skipL; rw [h2]; rfl
      have HK2 : Hid (∀ w, RdL w b s r -> Calls Tryz.prog 91 #[.pointer (some ⟨b, 0, none⟩), .string ⟨#[39]⟩] w fun e w' => e = .returned (.bool true) /\ RdL w' b s (r.drop 1) /\ But b w w') := by
        rw [<- h2, <- e2]; exact hK2
      have HQ := hide (fun w (h : RdL w b s (r.drop 1)) => quoted_any s hs b (r.drop 1) 39 rfl w h)
      clear hK e1 h1 hR hK2 e2 h2
      generalize (findR [39] (r.drop 1)).1 = T at *
      generalize (findR [39] (r.drop 1)).2 = V at *
      generalize r.drop 1 = r1 at *
      go_enter Tryz.func193, Tryz.ntmps193
      go_wp2_with fail
      refine HK.out.mono ?_
      rintro e w1 ⟨rfl, h2, h3⟩
      have H2 := hide h2
      have H3 := hide h3
      clear h2 h3
      go_wp2_with fail
      refine (HK2.out _ H2.out).mono ?_
      rintro e w2 ⟨rfl, h4, h5⟩
      have H4 := hide h4
      have H5 := hide h5
      clear h4 h5
      go_wp2_with fail
      refine (HQ.out _ H4.out).mono ?_
      rintro e w3 ⟨rfl, h6, h7⟩
      go_wp2
      go_ret
      exact ⟨rfl, h6, (H3.out.trans H5.out).trans h7⟩
    | false =>
      rw [if_neg (by decide)]
      have e2 : skipL [39] r = r := by unfold skipL; rw [h2]; rfl
      have HK2 : Hid (∀ w, RdL w b s r -> Calls Tryz.prog 91 #[.pointer (some ⟨b, 0, none⟩), .string ⟨#[39]⟩] w fun e w' => e = .returned (.bool false) /\ RdL w' b s r /\ But b w w') := by
        refine hide fun w h => ?_
        have := hK2 w h
        rw [show skipL (⟨#[39]⟩ : ByteArray).data.toList r = r from e2, show (⟨#[39]⟩ : ByteArray).data.toList.isPrefixOf r = false from h2] at this
        exact this
      have HU := hide (fun w (h : RdL w b s r) => run_has s hs b r ⟨#[32, 62]⟩ valB has_val w h)
      clear hK e1 h1 hR hK2 e2 h2
      generalize r.takeWhile valB = T at *
      generalize r.dropWhile valB = V at *
      go_enter Tryz.func193, Tryz.ntmps193
      go_wp2_with fail
      refine HK.out.mono ?_
      rintro e w1 ⟨rfl, h2, h3⟩
      have H2 := hide h2
      have H3 := hide h3
      clear h2 h3
      go_wp2_with fail
      refine (HK2.out _ H2.out).mono ?_
      rintro e w2 ⟨rfl, h4, h5⟩
      have H4 := hide h4
      have H5 := hide h5
      clear h4 h5
      go_wp2_with fail
      refine (HU.out _ H4.out).mono ?_
      rintro e w3 ⟨rfl, h6, h7⟩
      go_wp2
      go_ret
      exact ⟨rfl, h6, (H3.out.trans H5.out).trans h7⟩
end Go.Proofs.YtfohijnkeefcfaaGreatDoor.S4
