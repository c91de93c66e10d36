/- CrcLinear's walk. -/
import Derived.Test.YtffdlpcdjmhfkaaLo15
import Derived.Deep.RegionHeld2
set_option linter.unusedVariables false
set_option linter.unusedSimpArgs false
set_option maxRecDepth 40000
namespace Go.Proofs.Ytffdlpcdjmhfkaa
open Go.RowKit

theorem over_ext : ∀ (l m n r : Bs), l.length = m.length → l.length = n.length → l.length = r.length → (∀ (j : Nat) (x y z : UInt8), l[j]? = some x → m[j]? = some y → n[j]? = some z → r[j]? = some (x ^^^ y ^^^ z)) → r = over3 l m n
  | [], m, n, r, h1, h2, h3, _ => by
    obtain rfl : r = [] := List.eq_nil_of_length_eq_zero h3.symm
    obtain rfl : m = [] := List.eq_nil_of_length_eq_zero h1.symm
    rfl
  | x :: l, [], n, r, h1, h2, h3, _ => by simp at h1
  | x :: l, y :: m, [], r, h1, h2, h3, _ => by simp at h2
  | x :: l, y :: m, z :: n, [], h1, h2, h3, _ => by simp at h3
  | x :: l, y :: m, z :: n, e :: r, h1, h2, h3, h => by
    have h0 := h 0 x y z rfl rfl rfl
    have ih := over_ext l m n r (by simpa using h1) (by simpa using h2) (by simpa using h3) (fun j a b c ha hb hc => by simpa using h (j + 1) a b c (by simpa using ha) (by simpa using hb) (by simpa using hc))
    have he : e = x ^^^ y ^^^ z := by simpa using h0
    rw [he, ih]
    rfl
/-- Three rows of the call's own, apart. -/
structure Lin (w : World) (pv qv rv : Value) (S1 S2 : Nat) (P Q R : Bs) (x : World) : Prop where
  p : NewY w.heap.size x pv P
  pb : ∀ k, pv.ownBlock = some k → k < S1
  q : NewY S1 x qv Q
  qb : ∀ k, qv.ownBlock = some k → k < S2
  r : NewY S2 x rv R
  b : Below w.heap.size w x
  s1 : w.heap.size ≤ S1
  s2 : S1 ≤ S2
theorem set_blk {x : World} {a : Addr} {v : Value} {u : Value} (h : ∀ k, u.ownBlock = some k → k ≠ a.block) : ∀ k, u.ownBlock = some k → (x.setCell a v).heap[k]? = x.heap[k]? := fun k hk => Below.heap_setCell _ _ _ _ (h k hk)
theorem set_size (x : World) (a : Addr) (v : Value) : x.heap.size ≤ (x.setCell a v).heap.size := by simp [World.setCell]
theorem Lin.setP {w x : World} {a : Option Addr} {n c : Nat} {qv rv : Value} {S1 S2 : Nat} {P Q R : Bs} (h : Lin w (.slice a n c) qv rv S1 S2 P Q R x) (i : Nat) (hi : i < P.length) (z : UInt8) : ∃ g o, a = some ⟨g, o, none⟩ ∧ w.heap.size ≤ g ∧ x.cell? ⟨g, o + i, none⟩ = some (.int .u8 (P[i].toNat : Int)) ∧ x.frozen? ⟨g, o + i, none⟩ = false ∧ Lin w (.slice a n c) qv rv S1 S2 (P.set i z) Q R (x.setCell ⟨g, o + i, none⟩ (.int .u8 (z.toNat : Int))) := by
  obtain ⟨g, o, e, _, hg, _, hc, hf, hy⟩ := h.p.at_ i hi z
  have hgs := h.pb g (by rw [e]; rfl)
  exact ⟨g, o, e, hg, hc, hf, ⟨hy, h.pb, h.q.keep (set_size _ _ _) (set_blk fun k hk => by have := (h.q.blk k hk).1; show k ≠ g; omega), h.qb, h.r.keep (set_size _ _ _) (set_blk fun k hk => by have := (h.r.blk k hk).1; have := h.s2; show k ≠ g; omega), h.b.setCell (p := ⟨g, o + i, none⟩) hg _, h.s1, h.s2⟩⟩
theorem Lin.setQ {w x : World} {a : Option Addr} {n c : Nat} {pv rv : Value} {S1 S2 : Nat} {P Q R : Bs} (h : Lin w pv (.slice a n c) rv S1 S2 P Q R x) (i : Nat) (hi : i < Q.length) (z : UInt8) : ∃ g o, a = some ⟨g, o, none⟩ ∧ S1 ≤ g ∧ x.cell? ⟨g, o + i, none⟩ = some (.int .u8 (Q[i].toNat : Int)) ∧ x.frozen? ⟨g, o + i, none⟩ = false ∧ Lin w pv (.slice a n c) rv S1 S2 P (Q.set i z) R (x.setCell ⟨g, o + i, none⟩ (.int .u8 (z.toNat : Int))) := by
  obtain ⟨g, o, e, _, hg, _, hc, hf, hy⟩ := h.q.at_ i hi z
  have hgs := h.qb g (by rw [e]; rfl)
  have hs1 := h.s1
  exact ⟨g, o, e, hg, hc, hf, ⟨h.p.keep (set_size _ _ _) (set_blk fun k hk => by have := h.pb k hk; show k ≠ g; omega), h.pb, hy, h.qb, h.r.keep (set_size _ _ _) (set_blk fun k hk => by have := (h.r.blk k hk).1; show k ≠ g; omega), h.b.setCell (p := ⟨g, o + i, none⟩) (by show w.heap.size ≤ g; omega) _, h.s1, h.s2⟩⟩
theorem Lin.setR {w x : World} {a : Option Addr} {n c : Nat} {pv qv : Value} {S1 S2 : Nat} {P Q R : Bs} (h : Lin w pv qv (.slice a n c) S1 S2 P Q R x) (i : Nat) (hi : i < R.length) (z : UInt8) : ∃ g o, a = some ⟨g, o, none⟩ ∧ S2 ≤ g ∧ x.cell? ⟨g, o + i, none⟩ = some (.int .u8 (R[i].toNat : Int)) ∧ x.frozen? ⟨g, o + i, none⟩ = false ∧ Lin w pv qv (.slice a n c) S1 S2 P Q (R.set i z) (x.setCell ⟨g, o + i, none⟩ (.int .u8 (z.toNat : Int))) := by
  obtain ⟨g, o, e, _, hg, _, hc, hf, hy⟩ := h.r.at_ i hi z
  have hs1 := h.s1
  have hs2 := h.s2
  exact ⟨g, o, e, hg, hc, hf, ⟨h.p.keep (set_size _ _ _) (set_blk fun k hk => by have := h.pb k hk; show k ≠ g; omega), h.pb, h.q.keep (set_size _ _ _) (set_blk fun k hk => by have := h.qb k hk; show k ≠ g; omega), h.qb, hy, h.b.setCell (p := ⟨g, o + i, none⟩) (by show w.heap.size ≤ g; omega) _, h.s1, h.s2⟩⟩
theorem Lin.drew {w x : World} {pv qv rv : Value} {S1 S2 : Nat} {P Q R : Bs} (h : Lin w pv qv rv S1 S2 P Q R x) : Lin w pv qv rv S1 S2 P Q R x.drew := ⟨h.p.keep (Nat.le_refl _) (fun _ _ => rfl), h.pb, h.q.keep (Nat.le_refl _) (fun _ _ => rfl), h.qb, h.r.keep (Nat.le_refl _) (fun _ _ => rfl), h.b.drew, h.s1, h.s2⟩
/-- So far the third is the others laid over one another. -/
def Over (b : Bs) (i : Nat) (P Q R : Bs) : Prop := P.length = b.length ∧ Q.length = b.length ∧ R.length = b.length ∧ ∀ j, j < i → ∀ x y z, b[j]? = some x → P[j]? = some y → Q[j]? = some z → R[j]? = some (x ^^^ y ^^^ z)
theorem Over.setP {b P Q R : Bs} {i : Nat} (h : Over b i P Q R) (z : UInt8) : Over b i (P.set i z) Q R := ⟨by rw [List.length_set]; exact h.1, h.2.1, h.2.2.1, fun j hj x y t hx hy ht => h.2.2.2 j hj x y t hx (by rw [List.getElem?_set_ne (by omega)] at hy; exact hy) ht⟩
theorem Over.setQ {b P Q R : Bs} {i : Nat} (h : Over b i P Q R) (z : UInt8) : Over b i P (Q.set i z) R := ⟨h.1, by rw [List.length_set]; exact h.2.1, h.2.2.1, fun j hj x y t hx hy ht => h.2.2.2 j hj x y t hx hy (by rw [List.getElem?_set_ne (by omega)] at ht; exact ht)⟩
theorem Over.next {b P Q R : Bs} {i : Nat} (h : Over b i P Q R) (h0 : i < b.length) (h1 : i < P.length) (h2 : i < Q.length) : Over b (i + 1) P Q (R.set i (b[i] ^^^ P[i] ^^^ Q[i])) := ⟨h.1, h.2.1, by rw [List.length_set]; exact h.2.2.1, fun j hj x y t hx hy ht => by
  by_cases e : j = i
  · subst e
    rw [List.getElem?_set_self (by rw [h.2.2.1]; exact h0)]
    rw [List.getElem?_eq_getElem h0] at hx
    rw [List.getElem?_eq_getElem h1] at hy
    rw [List.getElem?_eq_getElem h2] at ht
    rw [Option.some.inj hx, Option.some.inj hy, Option.some.inj ht]
  · rw [List.getElem?_set_ne (fun e2 => e e2.symm)]
    exact h.2.2.2 j (by omega) x y t hx hy ht⟩
theorem Over.done {b P Q R : Bs} (h : Over b b.length P Q R) : R = over3 b P Q := over_ext b P Q R h.1.symm h.2.1.symm h.2.2.1.symm (fun j x y z hx hy hz => h.2.2.2 j ((List.getElem?_eq_some_iff.1 hx).1) x y z hx hy hz)
theorem Lin.setP' {w x : World} {g o n c : Nat} {qv rv : Value} {S1 S2 : Nat} {P Q R : Bs} (h : Lin w (.slice (some ⟨g, o, none⟩) n c) qv rv S1 S2 P Q R x) (i : Nat) (hi : i < P.length) (z : UInt8) : (∃ old, x.cell? ⟨g, o + i, none⟩ = some old) ∧ x.frozen? ⟨g, o + i, none⟩ = false ∧ Lin w (.slice (some ⟨g, o, none⟩) n c) qv rv S1 S2 (P.set i z) Q R (x.setCell ⟨g, o + i, none⟩ (.int .u8 (z.toNat : Int))) := by
  obtain ⟨g', o', e, _, hc, hf, hl⟩ := h.setP i hi z
  injection e with e
  injection e with e1 e2
  subst e1 e2
  exact ⟨⟨_, hc⟩, hf, hl⟩
theorem Lin.setQ' {w x : World} {g o n c : Nat} {pv rv : Value} {S1 S2 : Nat} {P Q R : Bs} (h : Lin w pv (.slice (some ⟨g, o, none⟩) n c) rv S1 S2 P Q R x) (i : Nat) (hi : i < Q.length) (z : UInt8) : (∃ old, x.cell? ⟨g, o + i, none⟩ = some old) ∧ x.frozen? ⟨g, o + i, none⟩ = false ∧ Lin w pv (.slice (some ⟨g, o, none⟩) n c) rv S1 S2 P (Q.set i z) R (x.setCell ⟨g, o + i, none⟩ (.int .u8 (z.toNat : Int))) := by
  obtain ⟨g', o', e, _, hc, hf, hl⟩ := h.setQ i hi z
  injection e with e
  injection e with e1 e2
  subst e1 e2
  exact ⟨⟨_, hc⟩, hf, hl⟩
theorem Lin.setR' {w x : World} {g o n c : Nat} {pv qv : Value} {S1 S2 : Nat} {P Q R : Bs} (h : Lin w pv qv (.slice (some ⟨g, o, none⟩) n c) S1 S2 P Q R x) (i : Nat) (hi : i < R.length) (z : UInt8) : S2 ≤ g ∧ (∃ old, x.cell? ⟨g, o + i, none⟩ = some old) ∧ x.frozen? ⟨g, o + i, none⟩ = false ∧ Lin w pv qv (.slice (some ⟨g, o, none⟩) n c) S1 S2 P Q (R.set i z) (x.setCell ⟨g, o + i, none⟩ (.int .u8 (z.toNat : Int))) := by
  obtain ⟨g', o', e, hg, hc, hf, hl⟩ := h.setR i hi z
  injection e with e
  injection e with e1 e2
  subst e1 e2
  exact ⟨hg, ⟨_, hc⟩, hf, hl⟩
theorem newY_cell {B : Nat} {x : World} {g o n c : Nat} {l : Bs} (h : NewY B x (.slice (some ⟨g, o, none⟩) n c) l) (i : Nat) (hi : i < l.length) : ∀ W : World, W.heap[g]? = x.heap[g]? → W.cell? ⟨g, o + i, none⟩ = some (.int .u8 (l[i].toNat : Int)) := fun W hW => by
  obtain ⟨g', o', e, _, _, _, hc, _⟩ := h.at_ i hi 0
  injection e with e
  injection e with e1 e2
  subst e1 e2
  exact (cell_blk hW _).trans hc
theorem lin_start (w : World) (u : Value) (b : Bs) (hu : IsY w u b) (hl : b.length ≤ 1000000) : ∃ a1 c1 w1 a2 c2 w2 a3 c3 w3, (Builtin.append_ #[22, 22] 22 #[.slice (some ⟨w.heap.size, 0, none⟩) 0 0, u]).run Try.prog (w.alloc (.cells #[] 5)) = .ok (.slice a1 b.length c1) w1 ∧ (Builtin.append_ #[22, 22] 22 #[.slice (some ⟨w1.heap.size, 0, none⟩) 0 0, u]).run Try.prog (w1.alloc (.cells #[] 5)) = .ok (.slice a2 b.length c2) w2 ∧ (Builtin.append_ #[22, 22] 22 #[.slice (some ⟨w2.heap.size, 0, none⟩) 0 0, u]).run Try.prog (w2.alloc (.cells #[] 5)) = .ok (.slice a3 b.length c3) w3 ∧ Lin w (.slice a1 b.length c1) (.slice a2 b.length c2) (.slice a3 b.length c3) w1.heap.size w2.heap.size b b b w3 := by
  obtain ⟨a1, c1, w1, r1, o1, b1⟩ := copy_bytes w u b hu hl
  obtain ⟨a2, c2, w2, r2, o2, b2⟩ := copy_bytes w1 u b (hu.below b1) hl
  have b12 := bel_on b1 b2
  obtain ⟨a3, c3, w3, r3, o3, b3⟩ := copy_bytes w2 u b (hu.below b12) hl
  have n1 := owns_newY o1
  have n2 := owns_newY o2
  exact ⟨a1, c1, w1, a2, c2, w2, a3, c3, w3, r1, r2, r3, ⟨(n1.below b2).below b3, fun k hk => (n1.blk k hk).2, n2.below b3, fun k hk => (n2.blk k hk).2, owns_newY o3, bel_on b12 b3, b1.size, b2.size⟩⟩
theorem isY_at {w : World} {a : Option Addr} {n c : Nat} {l : Bs} (h : IsY w (.slice a n c) l) (i : Nat) (hi : i < l.length) : ∃ g o, a = some ⟨g, o, none⟩ ∧ g < w.heap.size ∧ ∀ x : World, x.heap[g]? = w.heap[g]? → x.cell? ⟨g, o + i, none⟩ = some (.int .u8 (l[i].toNat : Int)) := by
  rcases h with ⟨rfl, _⟩ | ⟨g, o, cap, e, _, hc⟩
  · simp at hi
  · injection e with e1
    exact ⟨g, o, e1, cell_lt (hc i hi), fun x hx => (cell_blk hx _).trans (hc i hi)⟩
set_option maxHeartbeats 8000000 in
theorem crcLinear_walk (v : Value) (b : Bs) (vx : Value) (X : Bs) (vy : Value) (Y : Bs) (w : World) (hB : IsY w v b) (hBl : b.length ≤ 9223372036854775807) (hX : IsY w vx X) (hXl : X.length ≤ 9223372036854775807) (hY : IsY w vy Y) (hYl : Y.length ≤ 9223372036854775807) :
    Calls Try.prog 7 #[v, vx, vy] w fun e w' => e = .returned (.bool true) ∧ Below w.heap.size w w' := by
  obtain ⟨a, c, rfl⟩ := hB.form
  obtain ⟨xa, xc, rfl⟩ := hX.form
  obtain ⟨ya, yc, rfl⟩ := hY.form
  have HAL := hide alive_any
  by_cases hl : 300 < b.length
  · have hl2 : (300 : Int) < b.length := by omega
    clear hB hX hY hBl hXl hYl hl
    generalize b.length = n at *
    generalize X.length = xn at *
    generalize Y.length = yn at *
    go_enter Try.func7, Try.ntmps7
    go_wp2_with fail
    refine (HAL.out _).mono ?_
    rintro e w1 ⟨rfl, b1⟩
    have B1 := hide b1
    clear HAL b1
    go_wp2
    go_ret
    exact ⟨rfl, B1.out⟩
  · have hl2 : ¬ (300 : Int) < b.length := by omega
    obtain ⟨a1, c1, w1, a2, c2, w2, a3, c3, w3, r1, r2, r3, L0⟩ := lin_start w _ b hB (by omega)
    have HL0 := hide L0
    have HO0 : Hid (Over b 0 b b b) := hide ⟨rfl, rfl, rfl, fun j hj => by omega⟩
    have HAB := hide (fun i hi => isY_at hB i hi)
    obtain ⟨xn, hxn⟩ : ∃ n, X.length = n := ⟨_, rfl⟩
    obtain ⟨yn, hyn⟩ : ∃ n, Y.length = n := ⟨_, rfl⟩
    have HAX : Hid (∀ i, i < xn → ∃ g o, ∃ z : UInt8, xa = some ⟨g, o, none⟩ ∧ g < w.heap.size ∧ ∀ x : World, x.heap[g]? = w.heap[g]? → x.cell? ⟨g, o + i, none⟩ = some (.int .u8 (z.toNat : Int))) := hide (fun i hi => by
      obtain ⟨g, o, e, h1, h2⟩ := isY_at hX i (by rw [hxn]; exact hi)
      exact ⟨g, o, _, e, h1, h2⟩)
    have HAY : Hid (∀ i, i < yn → ∃ g o, ∃ z : UInt8, ya = some ⟨g, o, none⟩ ∧ g < w.heap.size ∧ ∀ x : World, x.heap[g]? = w.heap[g]? → x.cell? ⟨g, o + i, none⟩ = some (.int .u8 (z.toNat : Int))) := hide (fun i hi => by
      obtain ⟨g, o, e, h1, h2⟩ := isY_at hY i (by rw [hyn]; exact hi)
      exact ⟨g, o, _, e, h1, h2⟩)
    rw [hxn, hyn]
    have HSB : Hid (∀ x, Below w.heap.size w x → Calls Try.prog 9 #[.slice a b.length c] x fun e w' => e = .returned (.int .u32 ((sumB b).toNat : Int)) ∧ Hid (Below x.heap.size x w')) := hide (fun x hx => (psum_any _ b x (hB.below hx) (by omega)).mono fun e w' hh => ⟨hh.1, hide hh.2⟩)
    have HSY : Hid (∀ x u (l : Bs) B, l.length = b.length → NewY B x u l → Calls Try.prog 9 #[u] x fun e w' => e = .returned (.int .u32 ((sumB l).toNat : Int)) ∧ Hid (Below x.heap.size x w')) := hide (fun x u l B hlen hy => (psum_any _ l x hy.isY (by omega)).mono fun e w' hh => ⟨hh.1, hide hh.2⟩)
    obtain ⟨n, hn⟩ : ∃ n, b.length = n := ⟨_, rfl⟩
    have HN := hide hn
    rw [hn] at r1 r2 r3 HL0 HSB hl2
    rw [hn]
    have hn3 : n ≤ 300 := by omega
    have hxn9 : xn ≤ 9223372036854775807 := by omega
    have hyn9 : yn ≤ 9223372036854775807 := by omega
    clear hB hX hY hBl L0 hl hn hxn hyn hXl hYl
    go_enter Try.func7, Try.ntmps7
    go_wp2_with (at_builtin; first | refine Lib.wpList_append_run _ rfl (.tmp 15) (.tmp 16) _ _ rfl _ _ rfl rfl _ _ r1 ?_ | refine Lib.wpList_append_run _ rfl (.tmp 18) (.tmp 19) _ _ rfl _ _ rfl rfl _ _ r2 ?_ | refine Lib.wpList_append_run _ rfl (.tmp 21) (.tmp 22) _ _ rfl _ _ rfl rfl _ _ r3 ?_)
    clear r1 r2 r3
    generalize w1.heap.size = S1 at *
    generalize w2.heap.size = S2 at *
    go_loopw [10] (fun vi wr => ∃ (i : Nat) (P Q R : Bs), vi = .int .i64 (i : Int) ∧ i ≤ n ∧ Hid (Over b i P Q R) ∧ Hid (Lin w (.slice a1 n c1) (.slice a2 n c2) (.slice a3 n c3) S1 S2 P Q R wr)) (fun vi _ => n - (intOf vi).toNat)
    case atStart => exact ⟨0, b, b, b, rfl, Nat.zero_le _, HO0, HL0⟩
    case round =>
      clear HO0 HL0
      obtain ⟨i, P, Q, R, rfl, hi, HO, HL⟩ := hrel
      by_cases hlt : i < n
      · have hlt2 : (i : Int) < n := by omega
        have hbi : i < b.length := by rw [HN.out]; exact hlt
        have lp : P.length = n := HO.out.1.trans HN.out
        have lq : Q.length = n := HO.out.2.1.trans HN.out
        have lr : R.length = n := HO.out.2.2.1.trans HN.out
        obtain ⟨gb, ob, rfl, hgb, hcb⟩ := HAB.out i hbi
        obtain ⟨gp, op, ep, _⟩ := HL.out.setP i (by rw [lp]; exact hlt) 0
        obtain ⟨gq, oq, eq, _⟩ := HL.out.setQ i (by rw [lq]; exact hlt) 0
        obtain ⟨gr, orr, er, _⟩ := HL.out.setR i (by rw [lr]; exact hlt) 0
        subst ep eq er
        clear HAB
        by_cases hx : i < xn
        · by_cases hy : i < yn
          · obtain ⟨gx, ox, zx, rfl, hgx, hcx⟩ := HAX.out i hx
            have hxi : (i : Int) < xn := by omega
            obtain ⟨⟨od1, hc1⟩, hf1, L1⟩ := HL.out.setP' i (by rw [lp]; exact hlt) zx
            have kx := hcx wr (HL.out.b.block gx hgx)
            have O1 := HO.out.setP zx
            obtain ⟨gy, oy, zy, rfl, hgy, hcy⟩ := HAY.out i hy
            have hyi : (i : Int) < yn := by omega
            obtain ⟨⟨od2, hc2⟩, hf2, L2⟩ := L1.setQ' i (by rw [lq]; exact hlt) zy
            have ky := hcy (wr.setCell ⟨gp, op + i, none⟩ (.int .u8 (zx.toNat : Int))) (L1.b.block gy hgy)
            have O2 := O1.setQ zy
            have HL5 := hide L2
            have HO5 := hide O2
            clear HAX HAY HAL HSB HSY HL HO
            try clear L1
            try clear O1
            try clear hgx
            try clear hcx
            try clear L2
            try clear O2
            try clear hgy
            try clear hcy
            go_wp2_with fail
            generalize hW0 : ((wr.setCell ⟨gp, op + i, none⟩ (.int .u8 (zx.toNat : Int))).setCell ⟨gq, oq + i, none⟩ (.int .u8 (zy.toNat : Int))) = W0 at *
            clear hW0
            generalize hP5 : P.set i zx = P5 at *
            clear hP5
            generalize hQ5 : Q.set i zy = Q5 at *
            clear hQ5
            have hpi : i < P5.length := by rw [HO5.out.1]; exact hbi
            have hqi : i < Q5.length := by rw [HO5.out.2.1]; exact hbi
            obtain ⟨hgr, ⟨od3, hc3⟩, hf3, L3⟩ := HL5.out.drew.setR' i (by rw [lr]; exact hlt) ((b[i]'hbi) ^^^ (P5[i]'hpi) ^^^ (Q5[i]'hqi))
            have HL6 := hide L3
            have HO6 := hide (HO5.out.next hbi hpi hqi)
            have hpb := HL5.out.pb gp rfl
            have hqb := HL5.out.qb gq rfl
            have hs1 := HL5.out.s1
            have hs2 := HL5.out.s2
            have HCB : Hid (∀ W : World, (∀ k, k ≠ gr → k < W0.heap.size → W.heap[k]? = W0.heap[k]?) → W.cell? ⟨gb, ob + i, none⟩ = some (.int .u8 ((b[i]'hbi).toNat : Int))) := hide (fun W hW => hcb W ((hW gb (by omega) (Nat.lt_of_lt_of_le hgb HL5.out.b.size)).trans (HL5.out.b.block gb hgb)))
            have HCP : Hid (∀ W : World, (∀ k, k ≠ gr → k < W0.heap.size → W.heap[k]? = W0.heap[k]?) → W.cell? ⟨gp, op + i, none⟩ = some (.int .u8 ((P5[i]'hpi).toNat : Int))) := hide (fun W hW => newY_cell HL5.out.p i _ W (hW gp (by omega) (HL5.out.p.blk gp rfl).2))
            have HCQ : Hid (∀ W : World, (∀ k, k ≠ gr → k < W0.heap.size → W.heap[k]? = W0.heap[k]?) → W.cell? ⟨gq, oq + i, none⟩ = some (.int .u8 ((Q5[i]'hqi).toNat : Int))) := hide (fun W hW => newY_cell HL5.out.q i _ W (hW gq (by omega) (HL5.out.q.blk gq rfl).2))
            have hx1 := xor8 (b[i]'hbi) (P5[i]'hpi)
            have hx2 := xor8 ((b[i]'hbi) ^^^ (P5[i]'hpi)) (Q5[i]'hqi)
            have HSS : Hid (∀ k, k ≠ gr → k < W0.heap.size → (W0.drew.setCell ⟨gr, orr + i, none⟩ (.int .u8 ((((b[i]'hbi) ^^^ (P5[i]'hpi) ^^^ (Q5[i]'hqi)).toNat : Nat) : Int))).heap[k]? = W0.heap[k]?) := hide (fun k hk _ => Below.heap_setCell _ _ _ _ hk)
            clear L3 HL5 HO5 hpb hqb hs1 hs2 hgr hcb hgb
            generalize ((b[i]'hbi) ^^^ P5[i] ^^^ Q5[i]) = ZZ at *
            generalize ((b[i]'hbi) ^^^ P5[i]).toNat = XP at *
            generalize hzq : ZZ.toNat = XQ at *
            generalize (b[i]'hbi).toNat = nb at *
            generalize P5[i].toNat = np at *
            generalize Q5[i].toNat = nq at *
            refine wp_region_held_drew (S := (fun W' => ∀ k, k ≠ gr → k < W0.heap.size → W'.heap[k]? = W0.heap[k]?)) (by kernel_rfl) (fun k _ _ => rfl) (fun hHeld => ?_)
            refine wpAnyH_take (i := 0) (v := ?_) rfl (by kernel_rfl) (by kernel_rfl) (by kernel_rfl) (fun _ _ _ h => h) (Or.inl ⟨by kernel_rfl, ?_⟩) hHeld ?_
            rotate_left
            · intro W hSw
              clear hSw
              go_simp <;> with_reducible rfl
            simp only [Act.put, List.getElem_toArray, List.getElem_cons_zero, List.getElem_cons_succ, List.setIfInBounds_toArray, List.set_cons_zero, List.set_cons_succ]
            refine wpAnyH_take (i := 1) (v := ?_) rfl (by kernel_rfl) (by kernel_rfl) (by kernel_rfl) (fun _ _ _ h => h) (Or.inl ⟨by kernel_rfl, ?_⟩) hHeld ?_
            rotate_left
            · intro W hSw
              clear hSw
              go_simp <;> with_reducible rfl
            simp only [Act.put, List.getElem_toArray, List.getElem_cons_zero, List.getElem_cons_succ, List.setIfInBounds_toArray, List.set_cons_zero, List.set_cons_succ]
            refine wpAnyH_take (i := 2) (v := ?_) rfl (by kernel_rfl) (by kernel_rfl) (by kernel_rfl) (fun _ _ _ h => h) (Or.inl ⟨by kernel_rfl, ?_⟩) hHeld ?_
            rotate_left
            · intro W hSw
              clear hSw
              go_simp <;> with_reducible rfl
            simp only [Act.put, List.getElem_toArray, List.getElem_cons_zero, List.getElem_cons_succ, List.setIfInBounds_toArray, List.set_cons_zero, List.set_cons_succ]
            refine wpAnyH_take (i := 3) (v := ?_) rfl (by kernel_rfl) (by kernel_rfl) (by kernel_rfl) (fun _ _ _ h => h) (Or.inl ⟨by kernel_rfl, ?_⟩) hHeld ?_
            rotate_left
            · intro W hSw
              clear hSw
              go_simp <;> with_reducible rfl
            simp only [Act.put, List.getElem_toArray, List.getElem_cons_zero, List.getElem_cons_succ, List.setIfInBounds_toArray, List.set_cons_zero, List.set_cons_succ]
            refine wpAnyH_take (i := 4) (v := ?_) rfl (by kernel_rfl) (by kernel_rfl) (by kernel_rfl) (fun _ _ _ h => h) (Or.inl ⟨by kernel_rfl, ?_⟩) hHeld ?_
            rotate_left
            · intro W hSw
              clear hSw
              go_simp <;> with_reducible rfl
            simp only [Act.put, List.getElem_toArray, List.getElem_cons_zero, List.getElem_cons_succ, List.setIfInBounds_toArray, List.set_cons_zero, List.set_cons_succ]
            refine wpAnyH_take (i := 5) (v := ?_) rfl (by kernel_rfl) (by kernel_rfl) (by kernel_rfl) (fun _ _ _ h => h) (Or.inl ⟨by kernel_rfl, ?_⟩) hHeld ?_
            rotate_left
            · intro W hSw
              have hcl := HCB.out _ hSw
              clear hSw
              go_simp <;> with_reducible rfl
            simp only [Act.put, List.getElem_toArray, List.getElem_cons_zero, List.getElem_cons_succ, List.setIfInBounds_toArray, List.set_cons_zero, List.set_cons_succ]
            refine wpAnyH_take (i := 6) (v := ?_) rfl (by kernel_rfl) (by kernel_rfl) (by kernel_rfl) (fun _ _ _ h => h) (Or.inl ⟨by kernel_rfl, ?_⟩) hHeld ?_
            rotate_left
            · intro W hSw
              clear hSw
              go_simp <;> with_reducible rfl
            simp only [Act.put, List.getElem_toArray, List.getElem_cons_zero, List.getElem_cons_succ, List.setIfInBounds_toArray, List.set_cons_zero, List.set_cons_succ]
            refine wpAnyH_take (i := 7) (v := ?_) rfl (by kernel_rfl) (by kernel_rfl) (by kernel_rfl) (fun _ _ _ h => h) (Or.inl ⟨by kernel_rfl, ?_⟩) hHeld ?_
            rotate_left
            · intro W hSw
              clear hSw
              go_simp <;> with_reducible rfl
            simp only [Act.put, List.getElem_toArray, List.getElem_cons_zero, List.getElem_cons_succ, List.setIfInBounds_toArray, List.set_cons_zero, List.set_cons_succ]
            refine wpAnyH_take (i := 8) (v := ?_) rfl (by kernel_rfl) (by kernel_rfl) (by kernel_rfl) (fun _ _ _ h => h) (Or.inl ⟨by kernel_rfl, ?_⟩) hHeld ?_
            rotate_left
            · intro W hSw
              clear hSw
              go_simp <;> with_reducible rfl
            simp only [Act.put, List.getElem_toArray, List.getElem_cons_zero, List.getElem_cons_succ, List.setIfInBounds_toArray, List.set_cons_zero, List.set_cons_succ]
            refine wpAnyH_take (i := 9) (v := ?_) rfl (by kernel_rfl) (by kernel_rfl) (by kernel_rfl) (fun _ _ _ h => h) (Or.inl ⟨by kernel_rfl, ?_⟩) hHeld ?_
            rotate_left
            · intro W hSw
              have hcl := HCP.out _ hSw
              clear hSw
              go_simp <;> with_reducible rfl
            simp only [Act.put, List.getElem_toArray, List.getElem_cons_zero, List.getElem_cons_succ, List.setIfInBounds_toArray, List.set_cons_zero, List.set_cons_succ]
            refine wpAnyH_take (i := 10) (v := .int .u8 (XP : Int)) rfl (by kernel_rfl) (by kernel_rfl) (by kernel_rfl) (fun _ _ _ h => h) (Or.inl ⟨by kernel_rfl, fun _ _ => by go_simp⟩) hHeld ?_
            simp only [Act.put, List.getElem_toArray, List.getElem_cons_zero, List.getElem_cons_succ, List.setIfInBounds_toArray, List.set_cons_zero, List.set_cons_succ]
            refine wpAnyH_take (i := 11) (v := ?_) rfl (by kernel_rfl) (by kernel_rfl) (by kernel_rfl) (fun _ _ _ h => h) (Or.inl ⟨by kernel_rfl, ?_⟩) hHeld ?_
            rotate_left
            · intro W hSw
              clear hSw
              go_simp <;> with_reducible rfl
            simp only [Act.put, List.getElem_toArray, List.getElem_cons_zero, List.getElem_cons_succ, List.setIfInBounds_toArray, List.set_cons_zero, List.set_cons_succ]
            refine wpAnyH_take (i := 12) (v := ?_) rfl (by kernel_rfl) (by kernel_rfl) (by kernel_rfl) (fun _ _ _ h => h) (Or.inl ⟨by kernel_rfl, ?_⟩) hHeld ?_
            rotate_left
            · intro W hSw
              clear hSw
              go_simp <;> with_reducible rfl
            simp only [Act.put, List.getElem_toArray, List.getElem_cons_zero, List.getElem_cons_succ, List.setIfInBounds_toArray, List.set_cons_zero, List.set_cons_succ]
            refine wpAnyH_take (i := 13) (v := ?_) rfl (by kernel_rfl) (by kernel_rfl) (by kernel_rfl) (fun _ _ _ h => h) (Or.inl ⟨by kernel_rfl, ?_⟩) hHeld ?_
            rotate_left
            · intro W hSw
              clear hSw
              go_simp <;> with_reducible rfl
            simp only [Act.put, List.getElem_toArray, List.getElem_cons_zero, List.getElem_cons_succ, List.setIfInBounds_toArray, List.set_cons_zero, List.set_cons_succ]
            refine wpAnyH_take (i := 14) (v := ?_) rfl (by kernel_rfl) (by kernel_rfl) (by kernel_rfl) (fun _ _ _ h => h) (Or.inl ⟨by kernel_rfl, ?_⟩) hHeld ?_
            rotate_left
            · intro W hSw
              have hcl := HCQ.out _ hSw
              clear hSw
              go_simp <;> with_reducible rfl
            simp only [Act.put, List.getElem_toArray, List.getElem_cons_zero, List.getElem_cons_succ, List.setIfInBounds_toArray, List.set_cons_zero, List.set_cons_succ]
            refine wpAnyH_take (i := 15) (v := .int .u8 (XQ : Int)) rfl (by kernel_rfl) (by kernel_rfl) (by kernel_rfl) (fun _ _ _ h => h) (Or.inl ⟨by kernel_rfl, fun _ _ => by go_simp⟩) hHeld ?_
            simp only [Act.put, List.getElem_toArray, List.getElem_cons_zero, List.getElem_cons_succ, List.setIfInBounds_toArray, List.set_cons_zero, List.set_cons_succ]
            refine wpAnyH_take (i := 16) (v := ?_) rfl (by kernel_rfl) (by kernel_rfl) (by kernel_rfl) (fun _ _ _ h => h) (Or.inl ⟨by kernel_rfl, ?_⟩) hHeld ?_
            rotate_left
            · intro W hSw
              clear hSw
              go_simp <;> with_reducible rfl
            simp only [Act.put, List.getElem_toArray, List.getElem_cons_zero, List.getElem_cons_succ, List.setIfInBounds_toArray, List.set_cons_zero, List.set_cons_succ]
            clear hx1 hx2
            refine wpAnyH_ready (rs := [17]) (by kernel_rfl) (by simp) ?_
            refine AllReadyH.cons rfl (fun K hK => ?_) AllReadyH.nil
            go_simp
            refine hK.out _ _ ?_ (fun hHeld => ?_)
            · exact HSS.out
            clear hK K
            try simp only [Act.put, List.getElem_toArray, List.getElem_cons_zero, List.getElem_cons_succ, List.setIfInBounds_toArray, List.set_cons_zero, List.set_cons_succ]
            refine wpAnyH_done (by kernel_rfl) ?_ _
            have HHH := hide hHeld
            clear hHeld
            go_wp2
            go_roundw
            case rel => exact ⟨i + 1, P5, Q5, _, by go_num, by omega, HO6, by subst hzq; exact HL6⟩
            case measure => simp [intOf]; omega
          · obtain ⟨gx, ox, zx, rfl, hgx, hcx⟩ := HAX.out i hx
            have hxi : (i : Int) < xn := by omega
            obtain ⟨⟨od1, hc1⟩, hf1, L1⟩ := HL.out.setP' i (by rw [lp]; exact hlt) zx
            have kx := hcx wr (HL.out.b.block gx hgx)
            have O1 := HO.out.setP zx
            have hyi : ¬ (i : Int) < yn := by omega
            have HL5 := hide L1
            have HO5 := hide O1
            clear HAX HAY HAL HSB HSY HL HO
            try clear L1
            try clear O1
            try clear hgx
            try clear hcx
            go_wp2_with fail
            generalize hW0 : (wr.setCell ⟨gp, op + i, none⟩ (.int .u8 (zx.toNat : Int))) = W0 at *
            clear hW0
            generalize hP5 : P.set i zx = P5 at *
            clear hP5
            generalize hQ5 : Q = Q5 at *
            clear hQ5
            have hpi : i < P5.length := by rw [HO5.out.1]; exact hbi
            have hqi : i < Q5.length := by rw [HO5.out.2.1]; exact hbi
            obtain ⟨hgr, ⟨od3, hc3⟩, hf3, L3⟩ := HL5.out.drew.setR' i (by rw [lr]; exact hlt) ((b[i]'hbi) ^^^ (P5[i]'hpi) ^^^ (Q5[i]'hqi))
            have HL6 := hide L3
            have HO6 := hide (HO5.out.next hbi hpi hqi)
            have hpb := HL5.out.pb gp rfl
            have hqb := HL5.out.qb gq rfl
            have hs1 := HL5.out.s1
            have hs2 := HL5.out.s2
            have HCB : Hid (∀ W : World, (∀ k, k ≠ gr → k < W0.heap.size → W.heap[k]? = W0.heap[k]?) → W.cell? ⟨gb, ob + i, none⟩ = some (.int .u8 ((b[i]'hbi).toNat : Int))) := hide (fun W hW => hcb W ((hW gb (by omega) (Nat.lt_of_lt_of_le hgb HL5.out.b.size)).trans (HL5.out.b.block gb hgb)))
            have HCP : Hid (∀ W : World, (∀ k, k ≠ gr → k < W0.heap.size → W.heap[k]? = W0.heap[k]?) → W.cell? ⟨gp, op + i, none⟩ = some (.int .u8 ((P5[i]'hpi).toNat : Int))) := hide (fun W hW => newY_cell HL5.out.p i _ W (hW gp (by omega) (HL5.out.p.blk gp rfl).2))
            have HCQ : Hid (∀ W : World, (∀ k, k ≠ gr → k < W0.heap.size → W.heap[k]? = W0.heap[k]?) → W.cell? ⟨gq, oq + i, none⟩ = some (.int .u8 ((Q5[i]'hqi).toNat : Int))) := hide (fun W hW => newY_cell HL5.out.q i _ W (hW gq (by omega) (HL5.out.q.blk gq rfl).2))
            have hx1 := xor8 (b[i]'hbi) (P5[i]'hpi)
            have hx2 := xor8 ((b[i]'hbi) ^^^ (P5[i]'hpi)) (Q5[i]'hqi)
            have HSS : Hid (∀ k, k ≠ gr → k < W0.heap.size → (W0.drew.setCell ⟨gr, orr + i, none⟩ (.int .u8 ((((b[i]'hbi) ^^^ (P5[i]'hpi) ^^^ (Q5[i]'hqi)).toNat : Nat) : Int))).heap[k]? = W0.heap[k]?) := hide (fun k hk _ => Below.heap_setCell _ _ _ _ hk)
            clear L3 HL5 HO5 hpb hqb hs1 hs2 hgr hcb hgb
            generalize ((b[i]'hbi) ^^^ P5[i] ^^^ Q5[i]) = ZZ at *
            generalize ((b[i]'hbi) ^^^ P5[i]).toNat = XP at *
            generalize hzq : ZZ.toNat = XQ at *
            generalize (b[i]'hbi).toNat = nb at *
            generalize P5[i].toNat = np at *
            generalize Q5[i].toNat = nq at *
            refine wp_region_held_drew (S := (fun W' => ∀ k, k ≠ gr → k < W0.heap.size → W'.heap[k]? = W0.heap[k]?)) (by kernel_rfl) (fun k _ _ => rfl) (fun hHeld => ?_)
            refine wpAnyH_take (i := 0) (v := ?_) rfl (by kernel_rfl) (by kernel_rfl) (by kernel_rfl) (fun _ _ _ h => h) (Or.inl ⟨by kernel_rfl, ?_⟩) hHeld ?_
            rotate_left
            · intro W hSw
              clear hSw
              go_simp <;> with_reducible rfl
            simp only [Act.put, List.getElem_toArray, List.getElem_cons_zero, List.getElem_cons_succ, List.setIfInBounds_toArray, List.set_cons_zero, List.set_cons_succ]
            refine wpAnyH_take (i := 1) (v := ?_) rfl (by kernel_rfl) (by kernel_rfl) (by kernel_rfl) (fun _ _ _ h => h) (Or.inl ⟨by kernel_rfl, ?_⟩) hHeld ?_
            rotate_left
            · intro W hSw
              clear hSw
              go_simp <;> with_reducible rfl
            simp only [Act.put, List.getElem_toArray, List.getElem_cons_zero, List.getElem_cons_succ, List.setIfInBounds_toArray, List.set_cons_zero, List.set_cons_succ]
            refine wpAnyH_take (i := 2) (v := ?_) rfl (by kernel_rfl) (by kernel_rfl) (by kernel_rfl) (fun _ _ _ h => h) (Or.inl ⟨by kernel_rfl, ?_⟩) hHeld ?_
            rotate_left
            · intro W hSw
              clear hSw
              go_simp <;> with_reducible rfl
            simp only [Act.put, List.getElem_toArray, List.getElem_cons_zero, List.getElem_cons_succ, List.setIfInBounds_toArray, List.set_cons_zero, List.set_cons_succ]
            refine wpAnyH_take (i := 3) (v := ?_) rfl (by kernel_rfl) (by kernel_rfl) (by kernel_rfl) (fun _ _ _ h => h) (Or.inl ⟨by kernel_rfl, ?_⟩) hHeld ?_
            rotate_left
            · intro W hSw
              clear hSw
              go_simp <;> with_reducible rfl
            simp only [Act.put, List.getElem_toArray, List.getElem_cons_zero, List.getElem_cons_succ, List.setIfInBounds_toArray, List.set_cons_zero, List.set_cons_succ]
            refine wpAnyH_take (i := 4) (v := ?_) rfl (by kernel_rfl) (by kernel_rfl) (by kernel_rfl) (fun _ _ _ h => h) (Or.inl ⟨by kernel_rfl, ?_⟩) hHeld ?_
            rotate_left
            · intro W hSw
              clear hSw
              go_simp <;> with_reducible rfl
            simp only [Act.put, List.getElem_toArray, List.getElem_cons_zero, List.getElem_cons_succ, List.setIfInBounds_toArray, List.set_cons_zero, List.set_cons_succ]
            refine wpAnyH_take (i := 5) (v := ?_) rfl (by kernel_rfl) (by kernel_rfl) (by kernel_rfl) (fun _ _ _ h => h) (Or.inl ⟨by kernel_rfl, ?_⟩) hHeld ?_
            rotate_left
            · intro W hSw
              have hcl := HCB.out _ hSw
              clear hSw
              go_simp <;> with_reducible rfl
            simp only [Act.put, List.getElem_toArray, List.getElem_cons_zero, List.getElem_cons_succ, List.setIfInBounds_toArray, List.set_cons_zero, List.set_cons_succ]
            refine wpAnyH_take (i := 6) (v := ?_) rfl (by kernel_rfl) (by kernel_rfl) (by kernel_rfl) (fun _ _ _ h => h) (Or.inl ⟨by kernel_rfl, ?_⟩) hHeld ?_
            rotate_left
            · intro W hSw
              clear hSw
              go_simp <;> with_reducible rfl
            simp only [Act.put, List.getElem_toArray, List.getElem_cons_zero, List.getElem_cons_succ, List.setIfInBounds_toArray, List.set_cons_zero, List.set_cons_succ]
            refine wpAnyH_take (i := 7) (v := ?_) rfl (by kernel_rfl) (by kernel_rfl) (by kernel_rfl) (fun _ _ _ h => h) (Or.inl ⟨by kernel_rfl, ?_⟩) hHeld ?_
            rotate_left
            · intro W hSw
              clear hSw
              go_simp <;> with_reducible rfl
            simp only [Act.put, List.getElem_toArray, List.getElem_cons_zero, List.getElem_cons_succ, List.setIfInBounds_toArray, List.set_cons_zero, List.set_cons_succ]
            refine wpAnyH_take (i := 8) (v := ?_) rfl (by kernel_rfl) (by kernel_rfl) (by kernel_rfl) (fun _ _ _ h => h) (Or.inl ⟨by kernel_rfl, ?_⟩) hHeld ?_
            rotate_left
            · intro W hSw
              clear hSw
              go_simp <;> with_reducible rfl
            simp only [Act.put, List.getElem_toArray, List.getElem_cons_zero, List.getElem_cons_succ, List.setIfInBounds_toArray, List.set_cons_zero, List.set_cons_succ]
            refine wpAnyH_take (i := 9) (v := ?_) rfl (by kernel_rfl) (by kernel_rfl) (by kernel_rfl) (fun _ _ _ h => h) (Or.inl ⟨by kernel_rfl, ?_⟩) hHeld ?_
            rotate_left
            · intro W hSw
              have hcl := HCP.out _ hSw
              clear hSw
              go_simp <;> with_reducible rfl
            simp only [Act.put, List.getElem_toArray, List.getElem_cons_zero, List.getElem_cons_succ, List.setIfInBounds_toArray, List.set_cons_zero, List.set_cons_succ]
            refine wpAnyH_take (i := 10) (v := .int .u8 (XP : Int)) rfl (by kernel_rfl) (by kernel_rfl) (by kernel_rfl) (fun _ _ _ h => h) (Or.inl ⟨by kernel_rfl, fun _ _ => by go_simp⟩) hHeld ?_
            simp only [Act.put, List.getElem_toArray, List.getElem_cons_zero, List.getElem_cons_succ, List.setIfInBounds_toArray, List.set_cons_zero, List.set_cons_succ]
            refine wpAnyH_take (i := 11) (v := ?_) rfl (by kernel_rfl) (by kernel_rfl) (by kernel_rfl) (fun _ _ _ h => h) (Or.inl ⟨by kernel_rfl, ?_⟩) hHeld ?_
            rotate_left
            · intro W hSw
              clear hSw
              go_simp <;> with_reducible rfl
            simp only [Act.put, List.getElem_toArray, List.getElem_cons_zero, List.getElem_cons_succ, List.setIfInBounds_toArray, List.set_cons_zero, List.set_cons_succ]
            refine wpAnyH_take (i := 12) (v := ?_) rfl (by kernel_rfl) (by kernel_rfl) (by kernel_rfl) (fun _ _ _ h => h) (Or.inl ⟨by kernel_rfl, ?_⟩) hHeld ?_
            rotate_left
            · intro W hSw
              clear hSw
              go_simp <;> with_reducible rfl
            simp only [Act.put, List.getElem_toArray, List.getElem_cons_zero, List.getElem_cons_succ, List.setIfInBounds_toArray, List.set_cons_zero, List.set_cons_succ]
            refine wpAnyH_take (i := 13) (v := ?_) rfl (by kernel_rfl) (by kernel_rfl) (by kernel_rfl) (fun _ _ _ h => h) (Or.inl ⟨by kernel_rfl, ?_⟩) hHeld ?_
            rotate_left
            · intro W hSw
              clear hSw
              go_simp <;> with_reducible rfl
            simp only [Act.put, List.getElem_toArray, List.getElem_cons_zero, List.getElem_cons_succ, List.setIfInBounds_toArray, List.set_cons_zero, List.set_cons_succ]
            refine wpAnyH_take (i := 14) (v := ?_) rfl (by kernel_rfl) (by kernel_rfl) (by kernel_rfl) (fun _ _ _ h => h) (Or.inl ⟨by kernel_rfl, ?_⟩) hHeld ?_
            rotate_left
            · intro W hSw
              have hcl := HCQ.out _ hSw
              clear hSw
              go_simp <;> with_reducible rfl
            simp only [Act.put, List.getElem_toArray, List.getElem_cons_zero, List.getElem_cons_succ, List.setIfInBounds_toArray, List.set_cons_zero, List.set_cons_succ]
            refine wpAnyH_take (i := 15) (v := .int .u8 (XQ : Int)) rfl (by kernel_rfl) (by kernel_rfl) (by kernel_rfl) (fun _ _ _ h => h) (Or.inl ⟨by kernel_rfl, fun _ _ => by go_simp⟩) hHeld ?_
            simp only [Act.put, List.getElem_toArray, List.getElem_cons_zero, List.getElem_cons_succ, List.setIfInBounds_toArray, List.set_cons_zero, List.set_cons_succ]
            refine wpAnyH_take (i := 16) (v := ?_) rfl (by kernel_rfl) (by kernel_rfl) (by kernel_rfl) (fun _ _ _ h => h) (Or.inl ⟨by kernel_rfl, ?_⟩) hHeld ?_
            rotate_left
            · intro W hSw
              clear hSw
              go_simp <;> with_reducible rfl
            simp only [Act.put, List.getElem_toArray, List.getElem_cons_zero, List.getElem_cons_succ, List.setIfInBounds_toArray, List.set_cons_zero, List.set_cons_succ]
            clear hx1 hx2
            refine wpAnyH_ready (rs := [17]) (by kernel_rfl) (by simp) ?_
            refine AllReadyH.cons rfl (fun K hK => ?_) AllReadyH.nil
            go_simp
            refine hK.out _ _ ?_ (fun hHeld => ?_)
            · exact HSS.out
            clear hK K
            try simp only [Act.put, List.getElem_toArray, List.getElem_cons_zero, List.getElem_cons_succ, List.setIfInBounds_toArray, List.set_cons_zero, List.set_cons_succ]
            refine wpAnyH_done (by kernel_rfl) ?_ _
            have HHH := hide hHeld
            clear hHeld
            go_wp2
            go_roundw
            case rel => exact ⟨i + 1, P5, Q5, _, by go_num, by omega, HO6, by subst hzq; exact HL6⟩
            case measure => simp [intOf]; omega
        · by_cases hy : i < yn
          · have hxi : ¬ (i : Int) < xn := by omega
            obtain ⟨gy, oy, zy, rfl, hgy, hcy⟩ := HAY.out i hy
            have hyi : (i : Int) < yn := by omega
            obtain ⟨⟨od2, hc2⟩, hf2, L2⟩ := HL.out.setQ' i (by rw [lq]; exact hlt) zy
            have ky := hcy wr (HL.out.b.block gy hgy)
            have O2 := HO.out.setQ zy
            have HL5 := hide L2
            have HO5 := hide O2
            clear HAX HAY HAL HSB HSY HL HO
            try clear L2
            try clear O2
            try clear hgy
            try clear hcy
            go_wp2_with fail
            generalize hW0 : (wr.setCell ⟨gq, oq + i, none⟩ (.int .u8 (zy.toNat : Int))) = W0 at *
            clear hW0
            generalize hP5 : P = P5 at *
            clear hP5
            generalize hQ5 : Q.set i zy = Q5 at *
            clear hQ5
            have hpi : i < P5.length := by rw [HO5.out.1]; exact hbi
            have hqi : i < Q5.length := by rw [HO5.out.2.1]; exact hbi
            obtain ⟨hgr, ⟨od3, hc3⟩, hf3, L3⟩ := HL5.out.drew.setR' i (by rw [lr]; exact hlt) ((b[i]'hbi) ^^^ (P5[i]'hpi) ^^^ (Q5[i]'hqi))
            have HL6 := hide L3
            have HO6 := hide (HO5.out.next hbi hpi hqi)
            have hpb := HL5.out.pb gp rfl
            have hqb := HL5.out.qb gq rfl
            have hs1 := HL5.out.s1
            have hs2 := HL5.out.s2
            have HCB : Hid (∀ W : World, (∀ k, k ≠ gr → k < W0.heap.size → W.heap[k]? = W0.heap[k]?) → W.cell? ⟨gb, ob + i, none⟩ = some (.int .u8 ((b[i]'hbi).toNat : Int))) := hide (fun W hW => hcb W ((hW gb (by omega) (Nat.lt_of_lt_of_le hgb HL5.out.b.size)).trans (HL5.out.b.block gb hgb)))
            have HCP : Hid (∀ W : World, (∀ k, k ≠ gr → k < W0.heap.size → W.heap[k]? = W0.heap[k]?) → W.cell? ⟨gp, op + i, none⟩ = some (.int .u8 ((P5[i]'hpi).toNat : Int))) := hide (fun W hW => newY_cell HL5.out.p i _ W (hW gp (by omega) (HL5.out.p.blk gp rfl).2))
            have HCQ : Hid (∀ W : World, (∀ k, k ≠ gr → k < W0.heap.size → W.heap[k]? = W0.heap[k]?) → W.cell? ⟨gq, oq + i, none⟩ = some (.int .u8 ((Q5[i]'hqi).toNat : Int))) := hide (fun W hW => newY_cell HL5.out.q i _ W (hW gq (by omega) (HL5.out.q.blk gq rfl).2))
            have hx1 := xor8 (b[i]'hbi) (P5[i]'hpi)
            have hx2 := xor8 ((b[i]'hbi) ^^^ (P5[i]'hpi)) (Q5[i]'hqi)
            have HSS : Hid (∀ k, k ≠ gr → k < W0.heap.size → (W0.drew.setCell ⟨gr, orr + i, none⟩ (.int .u8 ((((b[i]'hbi) ^^^ (P5[i]'hpi) ^^^ (Q5[i]'hqi)).toNat : Nat) : Int))).heap[k]? = W0.heap[k]?) := hide (fun k hk _ => Below.heap_setCell _ _ _ _ hk)
            clear L3 HL5 HO5 hpb hqb hs1 hs2 hgr hcb hgb
            generalize ((b[i]'hbi) ^^^ P5[i] ^^^ Q5[i]) = ZZ at *
            generalize ((b[i]'hbi) ^^^ P5[i]).toNat = XP at *
            generalize hzq : ZZ.toNat = XQ at *
            generalize (b[i]'hbi).toNat = nb at *
            generalize P5[i].toNat = np at *
            generalize Q5[i].toNat = nq at *
            refine wp_region_held_drew (S := (fun W' => ∀ k, k ≠ gr → k < W0.heap.size → W'.heap[k]? = W0.heap[k]?)) (by kernel_rfl) (fun k _ _ => rfl) (fun hHeld => ?_)
            refine wpAnyH_take (i := 0) (v := ?_) rfl (by kernel_rfl) (by kernel_rfl) (by kernel_rfl) (fun _ _ _ h => h) (Or.inl ⟨by kernel_rfl, ?_⟩) hHeld ?_
            rotate_left
            · intro W hSw
              clear hSw
              go_simp <;> with_reducible rfl
            simp only [Act.put, List.getElem_toArray, List.getElem_cons_zero, List.getElem_cons_succ, List.setIfInBounds_toArray, List.set_cons_zero, List.set_cons_succ]
            refine wpAnyH_take (i := 1) (v := ?_) rfl (by kernel_rfl) (by kernel_rfl) (by kernel_rfl) (fun _ _ _ h => h) (Or.inl ⟨by kernel_rfl, ?_⟩) hHeld ?_
            rotate_left
            · intro W hSw
              clear hSw
              go_simp <;> with_reducible rfl
            simp only [Act.put, List.getElem_toArray, List.getElem_cons_zero, List.getElem_cons_succ, List.setIfInBounds_toArray, List.set_cons_zero, List.set_cons_succ]
            refine wpAnyH_take (i := 2) (v := ?_) rfl (by kernel_rfl) (by kernel_rfl) (by kernel_rfl) (fun _ _ _ h => h) (Or.inl ⟨by kernel_rfl, ?_⟩) hHeld ?_
            rotate_left
            · intro W hSw
              clear hSw
              go_simp <;> with_reducible rfl
            simp only [Act.put, List.getElem_toArray, List.getElem_cons_zero, List.getElem_cons_succ, List.setIfInBounds_toArray, List.set_cons_zero, List.set_cons_succ]
            refine wpAnyH_take (i := 3) (v := ?_) rfl (by kernel_rfl) (by kernel_rfl) (by kernel_rfl) (fun _ _ _ h => h) (Or.inl ⟨by kernel_rfl, ?_⟩) hHeld ?_
            rotate_left
            · intro W hSw
              clear hSw
              go_simp <;> with_reducible rfl
            simp only [Act.put, List.getElem_toArray, List.getElem_cons_zero, List.getElem_cons_succ, List.setIfInBounds_toArray, List.set_cons_zero, List.set_cons_succ]
            refine wpAnyH_take (i := 4) (v := ?_) rfl (by kernel_rfl) (by kernel_rfl) (by kernel_rfl) (fun _ _ _ h => h) (Or.inl ⟨by kernel_rfl, ?_⟩) hHeld ?_
            rotate_left
            · intro W hSw
              clear hSw
              go_simp <;> with_reducible rfl
            simp only [Act.put, List.getElem_toArray, List.getElem_cons_zero, List.getElem_cons_succ, List.setIfInBounds_toArray, List.set_cons_zero, List.set_cons_succ]
            refine wpAnyH_take (i := 5) (v := ?_) rfl (by kernel_rfl) (by kernel_rfl) (by kernel_rfl) (fun _ _ _ h => h) (Or.inl ⟨by kernel_rfl, ?_⟩) hHeld ?_
            rotate_left
            · intro W hSw
              have hcl := HCB.out _ hSw
              clear hSw
              go_simp <;> with_reducible rfl
            simp only [Act.put, List.getElem_toArray, List.getElem_cons_zero, List.getElem_cons_succ, List.setIfInBounds_toArray, List.set_cons_zero, List.set_cons_succ]
            refine wpAnyH_take (i := 6) (v := ?_) rfl (by kernel_rfl) (by kernel_rfl) (by kernel_rfl) (fun _ _ _ h => h) (Or.inl ⟨by kernel_rfl, ?_⟩) hHeld ?_
            rotate_left
            · intro W hSw
              clear hSw
              go_simp <;> with_reducible rfl
            simp only [Act.put, List.getElem_toArray, List.getElem_cons_zero, List.getElem_cons_succ, List.setIfInBounds_toArray, List.set_cons_zero, List.set_cons_succ]
            refine wpAnyH_take (i := 7) (v := ?_) rfl (by kernel_rfl) (by kernel_rfl) (by kernel_rfl) (fun _ _ _ h => h) (Or.inl ⟨by kernel_rfl, ?_⟩) hHeld ?_
            rotate_left
            · intro W hSw
              clear hSw
              go_simp <;> with_reducible rfl
            simp only [Act.put, List.getElem_toArray, List.getElem_cons_zero, List.getElem_cons_succ, List.setIfInBounds_toArray, List.set_cons_zero, List.set_cons_succ]
            refine wpAnyH_take (i := 8) (v := ?_) rfl (by kernel_rfl) (by kernel_rfl) (by kernel_rfl) (fun _ _ _ h => h) (Or.inl ⟨by kernel_rfl, ?_⟩) hHeld ?_
            rotate_left
            · intro W hSw
              clear hSw
              go_simp <;> with_reducible rfl
            simp only [Act.put, List.getElem_toArray, List.getElem_cons_zero, List.getElem_cons_succ, List.setIfInBounds_toArray, List.set_cons_zero, List.set_cons_succ]
            refine wpAnyH_take (i := 9) (v := ?_) rfl (by kernel_rfl) (by kernel_rfl) (by kernel_rfl) (fun _ _ _ h => h) (Or.inl ⟨by kernel_rfl, ?_⟩) hHeld ?_
            rotate_left
            · intro W hSw
              have hcl := HCP.out _ hSw
              clear hSw
              go_simp <;> with_reducible rfl
            simp only [Act.put, List.getElem_toArray, List.getElem_cons_zero, List.getElem_cons_succ, List.setIfInBounds_toArray, List.set_cons_zero, List.set_cons_succ]
            refine wpAnyH_take (i := 10) (v := .int .u8 (XP : Int)) rfl (by kernel_rfl) (by kernel_rfl) (by kernel_rfl) (fun _ _ _ h => h) (Or.inl ⟨by kernel_rfl, fun _ _ => by go_simp⟩) hHeld ?_
            simp only [Act.put, List.getElem_toArray, List.getElem_cons_zero, List.getElem_cons_succ, List.setIfInBounds_toArray, List.set_cons_zero, List.set_cons_succ]
            refine wpAnyH_take (i := 11) (v := ?_) rfl (by kernel_rfl) (by kernel_rfl) (by kernel_rfl) (fun _ _ _ h => h) (Or.inl ⟨by kernel_rfl, ?_⟩) hHeld ?_
            rotate_left
            · intro W hSw
              clear hSw
              go_simp <;> with_reducible rfl
            simp only [Act.put, List.getElem_toArray, List.getElem_cons_zero, List.getElem_cons_succ, List.setIfInBounds_toArray, List.set_cons_zero, List.set_cons_succ]
            refine wpAnyH_take (i := 12) (v := ?_) rfl (by kernel_rfl) (by kernel_rfl) (by kernel_rfl) (fun _ _ _ h => h) (Or.inl ⟨by kernel_rfl, ?_⟩) hHeld ?_
            rotate_left
            · intro W hSw
              clear hSw
              go_simp <;> with_reducible rfl
            simp only [Act.put, List.getElem_toArray, List.getElem_cons_zero, List.getElem_cons_succ, List.setIfInBounds_toArray, List.set_cons_zero, List.set_cons_succ]
            refine wpAnyH_take (i := 13) (v := ?_) rfl (by kernel_rfl) (by kernel_rfl) (by kernel_rfl) (fun _ _ _ h => h) (Or.inl ⟨by kernel_rfl, ?_⟩) hHeld ?_
            rotate_left
            · intro W hSw
              clear hSw
              go_simp <;> with_reducible rfl
            simp only [Act.put, List.getElem_toArray, List.getElem_cons_zero, List.getElem_cons_succ, List.setIfInBounds_toArray, List.set_cons_zero, List.set_cons_succ]
            refine wpAnyH_take (i := 14) (v := ?_) rfl (by kernel_rfl) (by kernel_rfl) (by kernel_rfl) (fun _ _ _ h => h) (Or.inl ⟨by kernel_rfl, ?_⟩) hHeld ?_
            rotate_left
            · intro W hSw
              have hcl := HCQ.out _ hSw
              clear hSw
              go_simp <;> with_reducible rfl
            simp only [Act.put, List.getElem_toArray, List.getElem_cons_zero, List.getElem_cons_succ, List.setIfInBounds_toArray, List.set_cons_zero, List.set_cons_succ]
            refine wpAnyH_take (i := 15) (v := .int .u8 (XQ : Int)) rfl (by kernel_rfl) (by kernel_rfl) (by kernel_rfl) (fun _ _ _ h => h) (Or.inl ⟨by kernel_rfl, fun _ _ => by go_simp⟩) hHeld ?_
            simp only [Act.put, List.getElem_toArray, List.getElem_cons_zero, List.getElem_cons_succ, List.setIfInBounds_toArray, List.set_cons_zero, List.set_cons_succ]
            refine wpAnyH_take (i := 16) (v := ?_) rfl (by kernel_rfl) (by kernel_rfl) (by kernel_rfl) (fun _ _ _ h => h) (Or.inl ⟨by kernel_rfl, ?_⟩) hHeld ?_
            rotate_left
            · intro W hSw
              clear hSw
              go_simp <;> with_reducible rfl
            simp only [Act.put, List.getElem_toArray, List.getElem_cons_zero, List.getElem_cons_succ, List.setIfInBounds_toArray, List.set_cons_zero, List.set_cons_succ]
            clear hx1 hx2
            refine wpAnyH_ready (rs := [17]) (by kernel_rfl) (by simp) ?_
            refine AllReadyH.cons rfl (fun K hK => ?_) AllReadyH.nil
            go_simp
            refine hK.out _ _ ?_ (fun hHeld => ?_)
            · exact HSS.out
            clear hK K
            try simp only [Act.put, List.getElem_toArray, List.getElem_cons_zero, List.getElem_cons_succ, List.setIfInBounds_toArray, List.set_cons_zero, List.set_cons_succ]
            refine wpAnyH_done (by kernel_rfl) ?_ _
            have HHH := hide hHeld
            clear hHeld
            go_wp2
            go_roundw
            case rel => exact ⟨i + 1, P5, Q5, _, by go_num, by omega, HO6, by subst hzq; exact HL6⟩
            case measure => simp [intOf]; omega
          · have hxi : ¬ (i : Int) < xn := by omega
            have hyi : ¬ (i : Int) < yn := by omega
            have HL5 := hide HL.out
            have HO5 := hide HO.out
            clear HAX HAY HAL HSB HSY HL HO
            go_wp2_with fail
            generalize hW0 : wr = W0 at *
            clear hW0
            generalize hP5 : P = P5 at *
            clear hP5
            generalize hQ5 : Q = Q5 at *
            clear hQ5
            have hpi : i < P5.length := by rw [HO5.out.1]; exact hbi
            have hqi : i < Q5.length := by rw [HO5.out.2.1]; exact hbi
            obtain ⟨hgr, ⟨od3, hc3⟩, hf3, L3⟩ := HL5.out.drew.setR' i (by rw [lr]; exact hlt) ((b[i]'hbi) ^^^ (P5[i]'hpi) ^^^ (Q5[i]'hqi))
            have HL6 := hide L3
            have HO6 := hide (HO5.out.next hbi hpi hqi)
            have hpb := HL5.out.pb gp rfl
            have hqb := HL5.out.qb gq rfl
            have hs1 := HL5.out.s1
            have hs2 := HL5.out.s2
            have HCB : Hid (∀ W : World, (∀ k, k ≠ gr → k < W0.heap.size → W.heap[k]? = W0.heap[k]?) → W.cell? ⟨gb, ob + i, none⟩ = some (.int .u8 ((b[i]'hbi).toNat : Int))) := hide (fun W hW => hcb W ((hW gb (by omega) (Nat.lt_of_lt_of_le hgb HL5.out.b.size)).trans (HL5.out.b.block gb hgb)))
            have HCP : Hid (∀ W : World, (∀ k, k ≠ gr → k < W0.heap.size → W.heap[k]? = W0.heap[k]?) → W.cell? ⟨gp, op + i, none⟩ = some (.int .u8 ((P5[i]'hpi).toNat : Int))) := hide (fun W hW => newY_cell HL5.out.p i _ W (hW gp (by omega) (HL5.out.p.blk gp rfl).2))
            have HCQ : Hid (∀ W : World, (∀ k, k ≠ gr → k < W0.heap.size → W.heap[k]? = W0.heap[k]?) → W.cell? ⟨gq, oq + i, none⟩ = some (.int .u8 ((Q5[i]'hqi).toNat : Int))) := hide (fun W hW => newY_cell HL5.out.q i _ W (hW gq (by omega) (HL5.out.q.blk gq rfl).2))
            have hx1 := xor8 (b[i]'hbi) (P5[i]'hpi)
            have hx2 := xor8 ((b[i]'hbi) ^^^ (P5[i]'hpi)) (Q5[i]'hqi)
            have HSS : Hid (∀ k, k ≠ gr → k < W0.heap.size → (W0.drew.setCell ⟨gr, orr + i, none⟩ (.int .u8 ((((b[i]'hbi) ^^^ (P5[i]'hpi) ^^^ (Q5[i]'hqi)).toNat : Nat) : Int))).heap[k]? = W0.heap[k]?) := hide (fun k hk _ => Below.heap_setCell _ _ _ _ hk)
            clear L3 HL5 HO5 hpb hqb hs1 hs2 hgr hcb hgb
            generalize ((b[i]'hbi) ^^^ P5[i] ^^^ Q5[i]) = ZZ at *
            generalize ((b[i]'hbi) ^^^ P5[i]).toNat = XP at *
            generalize hzq : ZZ.toNat = XQ at *
            generalize (b[i]'hbi).toNat = nb at *
            generalize P5[i].toNat = np at *
            generalize Q5[i].toNat = nq at *
            refine wp_region_held_drew (S := (fun W' => ∀ k, k ≠ gr → k < W0.heap.size → W'.heap[k]? = W0.heap[k]?)) (by kernel_rfl) (fun k _ _ => rfl) (fun hHeld => ?_)
            refine wpAnyH_take (i := 0) (v := ?_) rfl (by kernel_rfl) (by kernel_rfl) (by kernel_rfl) (fun _ _ _ h => h) (Or.inl ⟨by kernel_rfl, ?_⟩) hHeld ?_
            rotate_left
            · intro W hSw
              clear hSw
              go_simp <;> with_reducible rfl
            simp only [Act.put, List.getElem_toArray, List.getElem_cons_zero, List.getElem_cons_succ, List.setIfInBounds_toArray, List.set_cons_zero, List.set_cons_succ]
            refine wpAnyH_take (i := 1) (v := ?_) rfl (by kernel_rfl) (by kernel_rfl) (by kernel_rfl) (fun _ _ _ h => h) (Or.inl ⟨by kernel_rfl, ?_⟩) hHeld ?_
            rotate_left
            · intro W hSw
              clear hSw
              go_simp <;> with_reducible rfl
            simp only [Act.put, List.getElem_toArray, List.getElem_cons_zero, List.getElem_cons_succ, List.setIfInBounds_toArray, List.set_cons_zero, List.set_cons_succ]
            refine wpAnyH_take (i := 2) (v := ?_) rfl (by kernel_rfl) (by kernel_rfl) (by kernel_rfl) (fun _ _ _ h => h) (Or.inl ⟨by kernel_rfl, ?_⟩) hHeld ?_
            rotate_left
            · intro W hSw
              clear hSw
              go_simp <;> with_reducible rfl
            simp only [Act.put, List.getElem_toArray, List.getElem_cons_zero, List.getElem_cons_succ, List.setIfInBounds_toArray, List.set_cons_zero, List.set_cons_succ]
            refine wpAnyH_take (i := 3) (v := ?_) rfl (by kernel_rfl) (by kernel_rfl) (by kernel_rfl) (fun _ _ _ h => h) (Or.inl ⟨by kernel_rfl, ?_⟩) hHeld ?_
            rotate_left
            · intro W hSw
              clear hSw
              go_simp <;> with_reducible rfl
            simp only [Act.put, List.getElem_toArray, List.getElem_cons_zero, List.getElem_cons_succ, List.setIfInBounds_toArray, List.set_cons_zero, List.set_cons_succ]
            refine wpAnyH_take (i := 4) (v := ?_) rfl (by kernel_rfl) (by kernel_rfl) (by kernel_rfl) (fun _ _ _ h => h) (Or.inl ⟨by kernel_rfl, ?_⟩) hHeld ?_
            rotate_left
            · intro W hSw
              clear hSw
              go_simp <;> with_reducible rfl
            simp only [Act.put, List.getElem_toArray, List.getElem_cons_zero, List.getElem_cons_succ, List.setIfInBounds_toArray, List.set_cons_zero, List.set_cons_succ]
            refine wpAnyH_take (i := 5) (v := ?_) rfl (by kernel_rfl) (by kernel_rfl) (by kernel_rfl) (fun _ _ _ h => h) (Or.inl ⟨by kernel_rfl, ?_⟩) hHeld ?_
            rotate_left
            · intro W hSw
              have hcl := HCB.out _ hSw
              clear hSw
              go_simp <;> with_reducible rfl
            simp only [Act.put, List.getElem_toArray, List.getElem_cons_zero, List.getElem_cons_succ, List.setIfInBounds_toArray, List.set_cons_zero, List.set_cons_succ]
            refine wpAnyH_take (i := 6) (v := ?_) rfl (by kernel_rfl) (by kernel_rfl) (by kernel_rfl) (fun _ _ _ h => h) (Or.inl ⟨by kernel_rfl, ?_⟩) hHeld ?_
            rotate_left
            · intro W hSw
              clear hSw
              go_simp <;> with_reducible rfl
            simp only [Act.put, List.getElem_toArray, List.getElem_cons_zero, List.getElem_cons_succ, List.setIfInBounds_toArray, List.set_cons_zero, List.set_cons_succ]
            refine wpAnyH_take (i := 7) (v := ?_) rfl (by kernel_rfl) (by kernel_rfl) (by kernel_rfl) (fun _ _ _ h => h) (Or.inl ⟨by kernel_rfl, ?_⟩) hHeld ?_
            rotate_left
            · intro W hSw
              clear hSw
              go_simp <;> with_reducible rfl
            simp only [Act.put, List.getElem_toArray, List.getElem_cons_zero, List.getElem_cons_succ, List.setIfInBounds_toArray, List.set_cons_zero, List.set_cons_succ]
            refine wpAnyH_take (i := 8) (v := ?_) rfl (by kernel_rfl) (by kernel_rfl) (by kernel_rfl) (fun _ _ _ h => h) (Or.inl ⟨by kernel_rfl, ?_⟩) hHeld ?_
            rotate_left
            · intro W hSw
              clear hSw
              go_simp <;> with_reducible rfl
            simp only [Act.put, List.getElem_toArray, List.getElem_cons_zero, List.getElem_cons_succ, List.setIfInBounds_toArray, List.set_cons_zero, List.set_cons_succ]
            refine wpAnyH_take (i := 9) (v := ?_) rfl (by kernel_rfl) (by kernel_rfl) (by kernel_rfl) (fun _ _ _ h => h) (Or.inl ⟨by kernel_rfl, ?_⟩) hHeld ?_
            rotate_left
            · intro W hSw
              have hcl := HCP.out _ hSw
              clear hSw
              go_simp <;> with_reducible rfl
            simp only [Act.put, List.getElem_toArray, List.getElem_cons_zero, List.getElem_cons_succ, List.setIfInBounds_toArray, List.set_cons_zero, List.set_cons_succ]
            refine wpAnyH_take (i := 10) (v := .int .u8 (XP : Int)) rfl (by kernel_rfl) (by kernel_rfl) (by kernel_rfl) (fun _ _ _ h => h) (Or.inl ⟨by kernel_rfl, fun _ _ => by go_simp⟩) hHeld ?_
            simp only [Act.put, List.getElem_toArray, List.getElem_cons_zero, List.getElem_cons_succ, List.setIfInBounds_toArray, List.set_cons_zero, List.set_cons_succ]
            refine wpAnyH_take (i := 11) (v := ?_) rfl (by kernel_rfl) (by kernel_rfl) (by kernel_rfl) (fun _ _ _ h => h) (Or.inl ⟨by kernel_rfl, ?_⟩) hHeld ?_
            rotate_left
            · intro W hSw
              clear hSw
              go_simp <;> with_reducible rfl
            simp only [Act.put, List.getElem_toArray, List.getElem_cons_zero, List.getElem_cons_succ, List.setIfInBounds_toArray, List.set_cons_zero, List.set_cons_succ]
            refine wpAnyH_take (i := 12) (v := ?_) rfl (by kernel_rfl) (by kernel_rfl) (by kernel_rfl) (fun _ _ _ h => h) (Or.inl ⟨by kernel_rfl, ?_⟩) hHeld ?_
            rotate_left
            · intro W hSw
              clear hSw
              go_simp <;> with_reducible rfl
            simp only [Act.put, List.getElem_toArray, List.getElem_cons_zero, List.getElem_cons_succ, List.setIfInBounds_toArray, List.set_cons_zero, List.set_cons_succ]
            refine wpAnyH_take (i := 13) (v := ?_) rfl (by kernel_rfl) (by kernel_rfl) (by kernel_rfl) (fun _ _ _ h => h) (Or.inl ⟨by kernel_rfl, ?_⟩) hHeld ?_
            rotate_left
            · intro W hSw
              clear hSw
              go_simp <;> with_reducible rfl
            simp only [Act.put, List.getElem_toArray, List.getElem_cons_zero, List.getElem_cons_succ, List.setIfInBounds_toArray, List.set_cons_zero, List.set_cons_succ]
            refine wpAnyH_take (i := 14) (v := ?_) rfl (by kernel_rfl) (by kernel_rfl) (by kernel_rfl) (fun _ _ _ h => h) (Or.inl ⟨by kernel_rfl, ?_⟩) hHeld ?_
            rotate_left
            · intro W hSw
              have hcl := HCQ.out _ hSw
              clear hSw
              go_simp <;> with_reducible rfl
            simp only [Act.put, List.getElem_toArray, List.getElem_cons_zero, List.getElem_cons_succ, List.setIfInBounds_toArray, List.set_cons_zero, List.set_cons_succ]
            refine wpAnyH_take (i := 15) (v := .int .u8 (XQ : Int)) rfl (by kernel_rfl) (by kernel_rfl) (by kernel_rfl) (fun _ _ _ h => h) (Or.inl ⟨by kernel_rfl, fun _ _ => by go_simp⟩) hHeld ?_
            simp only [Act.put, List.getElem_toArray, List.getElem_cons_zero, List.getElem_cons_succ, List.setIfInBounds_toArray, List.set_cons_zero, List.set_cons_succ]
            refine wpAnyH_take (i := 16) (v := ?_) rfl (by kernel_rfl) (by kernel_rfl) (by kernel_rfl) (fun _ _ _ h => h) (Or.inl ⟨by kernel_rfl, ?_⟩) hHeld ?_
            rotate_left
            · intro W hSw
              clear hSw
              go_simp <;> with_reducible rfl
            simp only [Act.put, List.getElem_toArray, List.getElem_cons_zero, List.getElem_cons_succ, List.setIfInBounds_toArray, List.set_cons_zero, List.set_cons_succ]
            clear hx1 hx2
            refine wpAnyH_ready (rs := [17]) (by kernel_rfl) (by simp) ?_
            refine AllReadyH.cons rfl (fun K hK => ?_) AllReadyH.nil
            go_simp
            refine hK.out _ _ ?_ (fun hHeld => ?_)
            · exact HSS.out
            clear hK K
            try simp only [Act.put, List.getElem_toArray, List.getElem_cons_zero, List.getElem_cons_succ, List.setIfInBounds_toArray, List.set_cons_zero, List.set_cons_succ]
            refine wpAnyH_done (by kernel_rfl) ?_ _
            have HHH := hide hHeld
            clear hHeld
            go_wp2
            go_roundw
            case rel => exact ⟨i + 1, P5, Q5, _, by go_num, by omega, HO6, by subst hzq; exact HL6⟩
            case measure => simp [intOf]; omega
      · have hlt2 : ¬ (i : Int) < n := by omega
        obtain rfl : i = n := by omega
        have HEQ : Hid (sumB b ^^^ sumB P ^^^ sumB Q = sumB R) := hide (by
          have ho := HO.out
          rw [← HN.out] at ho
          rw [ho.done]
          exact sum_three b P Q ho.1.symm ho.2.1.symm)
        have q1 := xor_is (sumB b) (sumB P)
        have q2 := xor_is (sumB b ^^^ sumB P) (sumB Q)
        rw [HEQ.out] at q2
        have HX1 := hide q1
        have HX2 := hide q2
        clear q1 q2 HEQ HAB HAX HAY
        have hp := HO.out.1
        have hq := HO.out.2.1
        have hr := HO.out.2.2.1
        have HLP := hide hp
        have HLQ := hide hq
        have HLR := hide hr
        clear hp hq hr HO
        go_wp2_with fail
        refine (HAL.out _).mono ?_
        rintro e x1 ⟨rfl, b1⟩
        have B1 := hide b1
        have D1 := hide (bel_on HL.out.b b1)
        clear HAL b1
        go_wp2_with fail
        refine (HSB.out _ D1.out).mono ?_
        rintro e x2 ⟨rfl, b2⟩
        have B2 := hide (bel_on B1.out b2.out)
        clear b2 B1 D1 HSB
        go_wp2_with fail
        refine (HSY.out _ _ P _ HLP.out (HL.out.p.below B2.out)).mono ?_
        rintro e x3 ⟨rfl, b3⟩
        have B3 := hide (bel_on B2.out b3.out)
        have hx1 := HX1.out
        clear b3 B2 HX1
        generalize (sumB b ^^^ sumB P).toNat = A1 at *
        generalize (sumB b).toNat = A2 at *
        generalize (sumB P).toNat = A3 at *
        go_wp2_with fail
        refine (HSY.out _ _ Q _ HLQ.out (HL.out.q.below B3.out)).mono ?_
        rintro e x4 ⟨rfl, b4⟩
        have B4 := hide (bel_on B3.out b4.out)
        have hx2 := HX2.out
        clear b4 B3 HX2 hx1
        generalize (sumB Q).toNat = A4 at *
        go_wp2_with fail
        refine (HSY.out _ _ R _ HLR.out (HL.out.r.below B4.out)).mono ?_
        rintro e x5 ⟨rfl, b5⟩
        have D5 := hide (bel_on HL.out.b (bel_on B4.out b5.out))
        clear b5 B4 hx2 HSY
        generalize (sumB R).toNat = A5 at *
        go_wp2
        go_ret
        exact ⟨rfl, D5.out⟩
end Go.Proofs.Ytffdlpcdjmhfkaa
