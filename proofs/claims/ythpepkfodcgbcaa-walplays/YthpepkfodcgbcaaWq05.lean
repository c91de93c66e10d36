import Derived.Test.YthpepkfodcgbcaaWq04
import Derived.Test.YthpepkfodcgbcaaWq03
/- What is read of sectors some of which are old, and some new. No program in it. -/
set_option linter.unusedVariables false
set_option linter.unusedSimpArgs false
namespace Go.Proofs.Ythpepkfodcgbcaa

/-- A sector's content that is of no record of this life. -/
def OldB (ep li : Nat) (G : List Bs) (i : Nat) (x : Bs) : Prop := (∀ c, decC x = some c → c.ep ≠ ep) ∨ (G[i]? = some x ∧ ∀ c, decC x = some c → c.ep = ep → c.li < li)
/-- Each sector is old, or as the new ones are. -/
def MixB (ep li : Nat) (f G X : List Bs) : Prop := ∀ i x, f[i]? = some x → X[i]? = some x ∨ OldB ep li G i x
def secsR (R : List Bs) (ep li : Nat) : List Bs := (R.map fun b => secsC b ep li).flatten
theorem MixB.drop {ep li : Nat} {f G X : List Bs} (h : MixB ep li f G X) (n : Nat) : MixB ep li (f.drop n) (G.drop n) (X.drop n) := by
  intro i x hx
  rw [List.getElem?_drop] at hx
  rcases h _ _ hx with h | h | ⟨h1, h2⟩
  · exact .inl (by rw [List.getElem?_drop]; exact h)
  · exact .inr (.inl h)
  · exact .inr (.inr ⟨by rw [List.getElem?_drop]; exact h1, h2⟩)
theorem take_eq_of {l m : List Bs} {n : Nat} (hl : n ≤ l.length) (h : ∀ i, i < n → m[i]? = l[i]?) : m.take n = l.take n := by
  apply List.ext_getElem?
  intro i
  rw [List.getElem?_take, List.getElem?_take]
  split
  · next hi => exact h i hi
  · rfl
/-- What begins at the head is the new record, or an old one. -/
theorem mix_rec {ep li : Nat} {f G X : List Bs} (hl : li < 2 ^ 64) (hX : ∀ x ∈ X, ∃ c, decC x = some c ∧ c.ep = ep ∧ c.li = li) (h : MixB ep li f G X) {b : Bs} {life n : Nat} (hr : recL ep f = some (b, life, n)) :
    (life = li ∧ X.take n = f.take n) ∨ (life < li ∧ recL ep G = some (b, life, n)) := by
  obtain ⟨hb, hl2, hep, hn, hn0, hnl, ht⟩ := rec_some hr
  have hc : ∀ i, i < n → ∃ x c, f[i]? = some x ∧ decC x = some c ∧ c.ep = ep ∧ c.li = life := by
    intro i hi
    have h1 : i < f.length := by omega
    have h2 : f[i] ∈ secsC b ep life := by
      rw [← ht]
      have h3 : i < (f.take n).length := by rw [List.length_take]; omega
      have := List.getElem_mem h3
      rwa [List.getElem_take] at this
    obtain ⟨c, e1, e2, e3, _⟩ := secs_mem hep hl2 h2
    exact ⟨f[i], c, List.getElem?_eq_getElem h1, e1, e2, e3⟩
  obtain ⟨x0, c0, f0, d0, p0, q0⟩ := hc 0 hn0
  rcases h 0 x0 f0 with hx | hx
  · left
    obtain ⟨c, e1, e2, e3⟩ := hX x0 (List.mem_of_getElem? hx)
    have hlife : life = li := by
      rw [d0] at e1
      injection e1 with e1
      subst e1
      omega
    refine ⟨hlife, ?_⟩
    apply take_eq_of hnl
    intro i hi
    obtain ⟨x, c, g1, g2, g3, g4⟩ := hc i hi
    rcases h i x g1 with hxi | ho | ⟨_, ho⟩
    · rw [hxi, g1]
    · exact absurd g3 (ho c g2)
    · have := ho c g2 g3
      omega
  · right
    have hlt : life < li := by
      rcases hx with ho | ⟨_, ho⟩
      · exact absurd p0 (ho c0 d0)
      · have := ho c0 d0 p0
        omega
    refine ⟨hlt, rec_take hr (take_eq_of hnl ?_)⟩
    intro i hi
    obtain ⟨x, c, g1, g2, g3, g4⟩ := hc i hi
    rcases h i x g1 with hxi | ho | ⟨hg, _⟩
    · obtain ⟨c', e1, e2, e3⟩ := hX x (List.mem_of_getElem? hxi)
      rw [g2] at e1
      injection e1 with e1
      subst e1
      omega
    · exact absurd g3 (ho c g2)
    · rw [hg, g1]
theorem secsR_cons (b : Bs) (R : List Bs) (ep li : Nat) : secsR (b :: R) ep li = secsC b ep li ++ secsR R ep li := by
  unfold secsR
  rw [List.map_cons, List.flatten_cons]
theorem secsR_app (A B : List Bs) (ep li : Nat) : secsR (A ++ B) ep li = secsR A ep li ++ secsR B ep li := by
  unfold secsR
  rw [List.map_append, List.flatten_append]
theorem secsR_mem {R : List Bs} {ep li : Nat} (he : ep < 2 ^ 64) (hl : li < 2 ^ 64) : ∀ x ∈ secsR R ep li, ∃ c, decC x = some c ∧ c.ep = ep ∧ c.li = li := by
  intro x hx
  unfold secsR at hx
  obtain ⟨l, h1, h2⟩ := List.mem_flatten.1 hx
  obtain ⟨b, _, rfl⟩ := List.mem_map.1 h1
  obtain ⟨c, e1, e2, e3, _⟩ := secs_mem he hl h2
  exact ⟨c, e1, e2, e3⟩
/-- What a reading tells: the records alone. -/
def told (l : List (Bs × Nat × Nat)) : List Bs := l.map (·.1)
/-- A reading stops here. -/
def StopB (ep : Nat) (G : List Bs) (least : Nat) : Prop := ∀ b li n, recL ep G = some (b, li, n) → li < least
theorem core {ep li : Nat} (he : ep < 2 ^ 64) (hl : li < 2 ^ 64) : ∀ (R : List Bs) (k : Nat) (f G : List Bs) (least : Nat), (∀ r ∈ R, RecOk r) → f.length ≤ k → MixB ep li f G (secsR R ep li) → least ≤ li → (least = li ∨ StopB ep G least) →
    ∃ j, j ≤ R.length ∧ readL ep k f least = (R.take j).map (fun r => (r, li, (r.length + 38) / 39)) ∧ f.take (secsR (R.take j) ep li).length = secsR (R.take j) ep li ∧ (f.take (secsR R ep li).length = secsR R ep li → j = R.length)
  | R, 0, f, G, least, hR, hk, hm, hle, hs => by
    obtain rfl : f = [] := List.eq_nil_of_length_eq_zero (by omega)
    refine ⟨0, Nat.zero_le _, rfl, rfl, fun h => ?_⟩
    rw [List.take_nil] at h
    cases R with
    | nil => rfl
    | cons r R =>
      exfalso
      rw [secsR_cons] at h
      have h1 := congrArg List.length h
      rw [List.length_append, secs_len _ _ (hR r (List.mem_cons_self ..)).le] at h1
      have := List.length_pos_iff.2 (hR r (List.mem_cons_self ..)).ne
      simp at h1
      omega
  | [], k + 1, f, G, least, hR, hk, hm, hle, hs => by
    refine ⟨0, Nat.zero_le _, ?_, rfl, fun _ => rfl⟩
    show readL ep (k + 1) f least = []
    unfold readL
    cases hr : recL ep f with
    | none => rfl
    | some p =>
      obtain ⟨b, life, n⟩ := p
      simp only
      rw [if_neg]
      intro hc
      obtain ⟨_, _, _, _, hn0, hnl, _⟩ := rec_some hr
      rcases mix_rec hl (by intro x hx; cases hx) hm hr with ⟨_, h2⟩ | ⟨h1, h2⟩
      · have := congrArg List.length h2
        rw [List.length_take, List.length_take] at this
        have e : (secsR [] ep li).length = 0 := rfl
        rw [e] at this
        omega
      · rcases hs with rfl | hs
        · omega
        · have := hs _ _ _ h2
          omega
  | r :: R, k + 1, f, G, least, hR, hk, hm, hle, hs => by
    have hr0 := hR r (List.mem_cons_self ..)
    have hlen := secs_len ep li hr0.le
    have hneed : recL ep f = none ∨ (∃ b life n, recL ep f = some (b, life, n) ∧ ¬ least ≤ life) → f.take (secsC r ep li).length ≠ secsC r ep li := by
      intro h e
      rw [hlen] at e
      have := rec_of he hl hr0 e
      rcases h with h | ⟨b, life, n, h, h2⟩
      · rw [this] at h; cases h
      · rw [this] at h
        cases h
        exact h2 hle
    have hno : f.take (secsC r ep li).length ≠ secsC r ep li → readL ep (k + 1) f least = [] → ∃ j, j ≤ (r :: R).length ∧ readL ep (k + 1) f least = ((r :: R).take j).map (fun r => (r, li, (r.length + 38) / 39)) ∧ f.take (secsR ((r :: R).take j) ep li).length = secsR ((r :: R).take j) ep li ∧ (f.take (secsR (r :: R) ep li).length = secsR (r :: R) ep li → j = (r :: R).length) := by
      intro hne he2
      refine ⟨0, Nat.zero_le _, he2, rfl, fun h => ?_⟩
      exfalso
      apply hne
      have h2 := congrArg (List.take (secsC r ep li).length) h
      rw [secsR_cons, List.take_take, List.length_append, Nat.min_eq_left (by omega), List.take_left] at h2
      exact h2
    cases hr : recL ep f with
    | none =>
      exact hno (hneed (.inl hr)) (by unfold readL; rw [hr])
    | some p =>
      obtain ⟨b, life, n⟩ := p
      obtain ⟨hb, hl2, hep, hn, hn0, hnl, ht⟩ := rec_some hr
      rcases mix_rec hl (secsR_mem he hl) hm hr with ⟨h1, h2⟩ | ⟨h1, h2⟩
      · subst h1
        -- the new record
        obtain ⟨d, ds, hcut⟩ := cut_head ep life hr0
        obtain ⟨d', ds', hcut'⟩ := cut_head ep life hb
        have hx0 : (secsR (r :: R) ep life)[0]? = some (encC ⟨ep, life, 0, ((r.length + 38) / 39 : Nat), d⟩) := by
          rw [secsR_cons, secsC, hcut]; rfl
        have hf0 : f[0]? = some (encC ⟨ep, life, 0, ((b.length + 38) / 39 : Nat), d'⟩) := by
          have := congrArg (fun l => l[0]?) ht
          simp only [List.getElem?_take, if_pos hn0] at this
          rw [this, secsC, hcut']; rfl
        have hx1 : (secsR (r :: R) ep life)[0]? = f[0]? := by
          have := congrArg (fun l => l[0]?) h2
          simp only [List.getElem?_take, if_pos hn0] at this
          exact this
        rw [hx0, hf0] at hx1
        injection hx1 with hx1
        have e1 := cut_dec (b := r) (ep := ep) (li := life) he hl _ (by rw [hcut]; exact List.mem_cons_self ..)
        have e2 := cut_dec (b := b) (ep := ep) (li := life) he hl _ (by rw [hcut']; exact List.mem_cons_self ..)
        rw [hx1, e2] at e1
        injection e1 with e1
        injection e1 with _ _ _ e3 _
        have hnn : n = (secsC r ep life).length := by omega
        have hbr : b = r := by
          apply secs_inj he hl hb hr0
          rw [← ht, ← h2, hnn, secsR_cons, List.take_left]
        subst hbr
        have hread : readL ep (k + 1) f least = (b, life, n) :: readL ep k (f.drop n) life := by
          conv => lhs; unfold readL
          rw [hr]
          simp only
          rw [if_pos hle]
        have hm2 := hm.drop n
        have hdx : (secsR (b :: R) ep life).drop n = secsR R ep life := by rw [secsR_cons, hnn, List.drop_left]
        rw [hdx] at hm2
        obtain ⟨j, g1, g2, g3, g4⟩ := core he hl R k (f.drop n) (G.drop n) life (fun r hr => hR r (List.mem_cons_of_mem _ hr)) (by rw [List.length_drop]; omega) hm2 (Nat.le_refl _) (.inl rfl)
        refine ⟨j + 1, by rw [List.length_cons]; omega, ?_, ?_, ?_⟩
        · rw [hread, g2, List.take_succ_cons, List.map_cons, hn]
        · rw [List.take_succ_cons, secsR_cons, List.length_append, ← hnn, List.take_add, g3, ht]
        · intro h
          rw [List.length_cons]
          have : j = R.length := g4 (by
            have h3 := congrArg (List.drop n) h
            rw [hdx, secsR_cons, List.length_append, ← hnn, List.drop_take, Nat.add_sub_cancel_left] at h3
            exact h3)
          omega
      · have hrej : ¬ least ≤ life := by
          rcases hs with rfl | hs
          · omega
          · have := hs _ _ _ h2
            omega
        exact hno (hneed (.inr ⟨_, _, _, hr, hrej⟩)) (by unfold readL; rw [hr]; simp only; rw [if_neg hrej])
/-- A way through sectors: records that are read, one behind the other. -/
def PathB (ep : Nat) : List Bs → Nat → List (Bs × Nat × Nat) → Prop
  | _, _, [] => True
  | l, least, p :: r => recL ep l = some p ∧ least ≤ p.2.1 ∧ PathB ep (l.drop p.2.2) p.2.1 r
def sumP : List (Bs × Nat × Nat) → Nat
  | [] => 0
  | p :: r => p.2.2 + sumP r
def lastP : Nat → List (Bs × Nat × Nat) → Nat
  | least, [] => least
  | _, p :: r => lastP p.2.1 r
theorem path_le {ep : Nat} : ∀ {rs : List (Bs × Nat × Nat)} {l : List Bs} {least : Nat}, PathB ep l least rs → sumP rs ≤ l.length
  | [], _, _, _ => Nat.zero_le _
  | (b, li, n) :: r, l, least, h => by
    obtain ⟨h1, h2, h3⟩ := h
    obtain ⟨_, _, _, _, _, hnl, _⟩ := rec_some h1
    have := path_le h3
    rw [List.length_drop] at this
    show n + sumP r ≤ _
    simp only at this
    omega
theorem path_take {ep : Nat} : ∀ {rs : List (Bs × Nat × Nat)} {l m : List Bs} {least : Nat}, PathB ep l least rs → m.take (sumP rs) = l.take (sumP rs) → PathB ep m least rs
  | [], _, _, _, _, _ => trivial
  | p :: r, l, m, least, h, e => by
    obtain ⟨h1, h2, h3⟩ := h
    have e1 := congrArg (List.take p.2.2) e
    rw [List.take_take, List.take_take, Nat.min_eq_left (by show p.2.2 ≤ p.2.2 + sumP r; omega)] at e1
    have e2 := congrArg (List.drop p.2.2) e
    rw [List.drop_take, List.drop_take, show sumP (p :: r) - p.2.2 = sumP r by show p.2.2 + sumP r - p.2.2 = _; omega] at e2
    exact ⟨rec_take h1 e1, h2, path_take h3 e2⟩
theorem path_read {ep : Nat} : ∀ {rs : List (Bs × Nat × Nat)} {l : List Bs} {least k : Nat}, PathB ep l least rs → l.length ≤ k → ∃ k', (l.drop (sumP rs)).length ≤ k' ∧ readL ep k l least = rs ++ readL ep k' (l.drop (sumP rs)) (lastP least rs)
  | [], l, least, k, _, hk => ⟨k, by rw [List.length_drop]; omega, rfl⟩
  | (b, li, n) :: r, l, least, k, h, hk => by
    obtain ⟨h1, h2, h3⟩ := h
    obtain ⟨_, _, _, _, hn0, hnl, _⟩ := rec_some h1
    simp only at h1 h2 h3
    obtain ⟨k0, rfl⟩ : ∃ k0, k = k0 + 1 := ⟨k - 1, by omega⟩
    obtain ⟨k', g1, g2⟩ := path_read (k := k0) h3 (by rw [List.length_drop]; omega)
    refine ⟨k', ?_, ?_⟩
    · show (l.drop (n + sumP r)).length ≤ k'
      rw [← List.drop_drop]
      exact g1
    · show readL ep (k0 + 1) l least = (b, li, n) :: r ++ readL ep k' (l.drop (n + sumP r)) (lastP li r)
      conv => lhs; unfold readL
      rw [h1]
      simp only
      rw [if_pos h2, g2, ← List.drop_drop]
      rfl
theorem stop_read {ep : Nat} {l : List Bs} {least k : Nat} (h : StopB ep l least) : readL ep k l least = [] := by
  cases k with
  | zero => rfl
  | succ k =>
    unfold readL
    cases hr : recL ep l with
    | none => rfl
    | some p =>
      obtain ⟨b, li, n⟩ := p
      simp only
      rw [if_neg (by have := h _ _ _ hr; omega)]
/-- What is read is a way that stops. -/
theorem read_path {ep : Nat} : ∀ {k : Nat} {l : List Bs} {least : Nat}, l.length ≤ k → PathB ep l least (readL ep k l least) ∧ StopB ep (l.drop (sumP (readL ep k l least))) (lastP least (readL ep k l least))
  | 0, l, least, hk => by
    obtain rfl : l = [] := List.eq_nil_of_length_eq_zero (by omega)
    exact ⟨trivial, fun b li n h => by cases h⟩
  | k + 1, l, least, hk => by
    unfold readL
    cases hr : recL ep l with
    | none => exact ⟨trivial, fun b li n h => by rw [show l.drop (sumP []) = l from rfl, hr] at h; cases h⟩
    | some p =>
      obtain ⟨b, li, n⟩ := p
      simp only
      obtain ⟨_, _, _, _, hn0, hnl, _⟩ := rec_some hr
      by_cases hc : least ≤ li
      · rw [if_pos hc]
        obtain ⟨h1, h2⟩ := read_path (ep := ep) (k := k) (l := l.drop n) (least := li) (by rw [List.length_drop]; omega)
        refine ⟨⟨hr, hc, h1⟩, ?_⟩
        show StopB ep (l.drop (n + sumP _)) _
        rw [← List.drop_drop]
        exact h2
      · rw [if_neg hc]
        refine ⟨trivial, fun b' li' n' h => ?_⟩
        rw [show l.drop (sumP []) = l from rfl, hr] at h
        cases h
        show li < least
        omega
theorem last_le {ep : Nat} : ∀ {rs : List (Bs × Nat × Nat)} {l : List Bs} {least B : Nat}, PathB ep l least rs → least ≤ B → (∀ x ∈ l, ∀ c, decC x = some c → c.li ≤ B) → lastP least rs ≤ B
  | [], _, _, _, _, h, _ => h
  | (b, li, n) :: r, l, least, B, h, hb, hx => by
    obtain ⟨h1, h2, h3⟩ := h
    simp only at h1 h2 h3
    refine last_le (rs := r) (l := l.drop n) (least := li) h3 ?_ (fun x hm => hx x (List.mem_of_mem_drop hm))
    obtain ⟨hb, hl2, hep, hn, hn0, hnl, ht⟩ := rec_some h1
    have hf : l[0] ∈ secsC b ep li := by
      rw [← ht]
      have h3 : 0 < (l.take n).length := by rw [List.length_take]; omega
      have := List.getElem_mem h3
      rwa [List.getElem_take] at this
    obtain ⟨c, e1, e2, e3, _⟩ := secs_mem hep hl2 hf
    have := hx _ (List.getElem_mem (by omega)) c e1
    omega
end Go.Proofs.Ythpepkfodcgbcaa
/- Logs, plainly: what is done to a log and its disk. No program in it. -/
set_option linter.unusedVariables false
set_option linter.unusedSimpArgs false
namespace Go.Proofs.Ythpepkfodcgbcaa

structure LM where
  first : Nat
  size : Nat
  ep : Nat
  li : Nat
  end_ : Nat := 0
  recs : List Bs := []
  broken : Bool := false
def regW (s : List Bs) (first size : Nat) : List Bs := (s.drop (first * 4)).take (size * 4)
def lifeW (l : List Bs) : Nat := l.foldl (fun m x => match decC x with | some c => max m c.li | none => m) 0
def logW (l : List Bs) (first size ep : Nat) : LM := { first := first, size := size, ep := ep, li := lifeW l + 1, end_ := sumP (readL ep l.length l 0), recs := told (readL ep l.length l 0) }
def isReg (d : DM) (first size : Int) : Bool := decide (0 ≤ first) && (decide (1 ≤ size) && (decide (size ≤ ((d.safe.length / 4 : Nat) : Int)) && decide (first ≤ ((d.safe.length / 4 : Nat) : Int) - size)))
def openW (d : DM) (first size : Int) (ep : Nat) : Option LM × Int :=
  if isReg d first size then (if d.off then (none, 9) else
    if lifeW (regW (nowD d) first.toNat size.toNat) = 18446744073709551615 then (none, 8) else (some (logW (regW (nowD d) first.toNat size.toNat) first.toNat size.toNat ep), 0)) else (none, 1)
def roomW (m : LM) : Nat := if m.broken then 0 else min ((m.size * 4 - m.end_) * 39) 6000
/-- Sectors with others laid over them. -/
def laidW (s : List Bs) (at_ : Nat) (xs : List Bs) : List Bs := s.take at_ ++ (xs ++ s.drop (at_ + xs.length))
def blkW (s : List Bs) (n : Nat) : Bs := ((s.drop (n * 4)).take 4).flatten
/-- So many blocks are written, from one on, till the power goes. -/
def writesW (s : List Bs) : DM → Nat → Nat → DM × Int
  | d, 0, n => (d, 0)
  | d, k + 1, n => if (writeD d (n : Int) (blkW s n)).2 = 0 then writesW s (writeD d (n : Int) (blkW s n)).1 k (n + 1) else writeD d (n : Int) (blkW s n)
def fromW (m : LM) : Nat := m.first * 4 + m.end_
def putW (m : LM) (d : DM) (b : Bs) : DM × Int := writesW (laidW (nowD d) (fromW m) (secsC b m.ep m.li)) d ((fromW m + (secsC b m.ep m.li).length - 1) / 4 + 1 - fromW m / 4) (fromW m / 4)
def whyW (m : LM) (b : Bs) : Int := if b.length = 0 then 1 else if 6000 < b.length then 4 else if m.broken then 9 else if roomW m < b.length then 3 else 0
def appendW (m : LM) (d : DM) (b : Bs) : LM × DM × Int :=
  if whyW m b = 0 then
    (if (putW m d b).2 = 0 then { m with recs := m.recs ++ [b], end_ := m.end_ + (secsC b m.ep m.li).length } else { m with broken := true }, (putW m d b).1, (putW m d b).2)
  else (m, d, whyW m b)
def syncW (m : LM) (d : DM) : LM × DM × Int := if m.broken then (m, d, 9) else ((if (flushD d).2 = 0 then m else { m with broken := true }), (flushD d).1, (flushD d).2)
def resetW (m : LM) (ep : Nat) : LM × Int := if m.broken then (m, 9) else if ep ≤ m.ep then (m, 1) else ({ m with ep := ep, recs := [], end_ := 0 }, 0)

/-- What may stand in a sector behind a crash. -/
def Poss (d : DM) (i : Nat) (x : Bs) : Prop := d.safe[i]? = some x ∨ (i, x) ∈ d.l
theorem now_is_crash (d : DM) : nowD d = crashL d.safe d.l (List.replicate d.l.length true) :=
  (crash_all d.l _ d.safe (by rw [List.length_replicate]; omega) (fun i hi => by rw [List.getElem?_replicate, if_pos hi])).symm
theorem crash_poss {d : DM} {k : List Bool} {i : Nat} {x : Bs} (h : (crashL d.safe d.l k)[i]? = some x) : Poss d i x := by
  have hi : i < d.safe.length := by
    have := (List.getElem?_eq_some_iff.1 h).1
    rwa [crashL_len] at this
  rcases crash_each d.l k d.safe i hi with e | ⟨p, hp, e1, e2⟩
  · exact .inl (e ▸ h)
  · rw [e2] at h
    cases h
    subst e1
    exact .inr hp
theorem now_poss {d : DM} {i : Nat} {x : Bs} (h : (nowD d)[i]? = some x) : Poss d i x := by
  rw [now_is_crash] at h
  exact crash_poss h
theorem now_len (d : DM) : (nowD d).length = d.safe.length := nowL_len _ _
theorem poss_64 {d : DM} (h : OkD d) {i : Nat} {x : Bs} (hp : Poss d i x) : x.length = 64 := by
  rcases hp with hp | hp
  · exact h.safe x (List.mem_of_getElem? hp)
  · exact h.len _ hp
theorem poss_crash {d : DM} {k : List Bool} {i : Nat} {x : Bs} (h : Poss (crashD d k) i x) : Poss d i x := by
  rcases h with h | h
  · exact crash_poss h
  · cases h
theorem poss_spend {d : DM} {i : Nat} {x : Bs} : Poss (spendD d).1 i x ↔ Poss d i x := by
  obtain ⟨e1, e2⟩ := sp_lists d
  unfold Poss
  rw [e1, e2]
theorem reg_get (s : List Bs) (first size i : Nat) (hi : i < size * 4) : (regW s first size)[i]? = s[first * 4 + i]? := by
  unfold regW
  rw [List.getElem?_take, if_pos hi, List.getElem?_drop]
theorem reg_len (s : List Bs) (first size : Nat) (h : (first + size) * 4 ≤ s.length) : (regW s first size).length = size * 4 := by
  unfold regW
  rw [List.length_take, List.length_drop]
  omega
theorem reg_some {s : List Bs} {first size i : Nat} {x : Bs} (h : (regW s first size)[i]? = some x) : i < size * 4 ∧ s[first * 4 + i]? = some x := by
  have hi : i < size * 4 := by
    have := (List.getElem?_eq_some_iff.1 h).1
    unfold regW at this
    rw [List.length_take] at this
    omega
  exact ⟨hi, by rw [← reg_get s first size i hi]; exact h⟩
theorem foldl_max : ∀ (l : List Bs) (a : Nat), a ≤ l.foldl (fun m x => match decC x with | some c => max m c.li | none => m) a ∧ ∀ x ∈ l, ∀ c, decC x = some c → c.li ≤ l.foldl (fun m x => match decC x with | some c => max m c.li | none => m) a
  | [], a => ⟨Nat.le_refl _, fun x hx => by cases hx⟩
  | y :: l, a => by
    rw [List.foldl_cons]
    obtain ⟨h1, h2⟩ := foldl_max l (match decC y with | some c => max a c.li | none => a)
    have h3 : a ≤ (match decC y with | some c => max a c.li | none => a) := by
      split
      · exact Nat.le_max_left _ _
      · exact Nat.le_refl _
    refine ⟨Nat.le_trans h3 h1, fun x hx c hc => ?_⟩
    rcases List.mem_cons.1 hx with rfl | hx
    · refine Nat.le_trans ?_ h1
      rw [hc]
      exact Nat.le_max_right _ _
    · exact h2 x hx c hc
theorem foldl_max_le : ∀ (l : List Bs) (a B : Nat), a ≤ B → (∀ x ∈ l, ∀ c, decC x = some c → c.li ≤ B) → l.foldl (fun m x => match decC x with | some c => max m c.li | none => m) a ≤ B
  | [], a, B, h, _ => h
  | y :: l, a, B, h, hx => by
    rw [List.foldl_cons]
    refine foldl_max_le l _ B ?_ (fun x hm => hx x (List.mem_cons_of_mem _ hm))
    split
    · next c hc => exact Nat.max_le.2 ⟨h, hx y (List.mem_cons_self ..) c hc⟩
    · exact h
theorem life_ge {l : List Bs} {x : Bs} (h : x ∈ l) {c : CL} (hc : decC x = some c) : c.li ≤ lifeW l := (foldl_max l 0).2 x h c hc
theorem life_le {l : List Bs} {B : Nat} (h : ∀ x ∈ l, ∀ c, decC x = some c → c.li ≤ B) : lifeW l ≤ B := foldl_max_le l 0 B (Nat.zero_le _) h

/-! What is written. -/
theorem laidW_len (s : List Bs) (a : Nat) (xs : List Bs) (h : a + xs.length ≤ s.length) : (laidW s a xs).length = s.length := by
  unfold laidW
  rw [List.length_append, List.length_append, List.length_take, List.length_drop]
  omega
theorem laidW_in (s : List Bs) (a : Nat) (xs : List Bs) (h : a + xs.length ≤ s.length) (i : Nat) (h1 : i < xs.length) : (laidW s a xs)[a + i]? = xs[i]? := by
  unfold laidW
  have hl : (s.take a).length = a := by rw [List.length_take]; omega
  rw [List.getElem?_append_right (by omega), hl, Nat.add_sub_cancel_left, List.getElem?_append_left h1]
theorem laidW_out (s : List Bs) (a : Nat) (xs : List Bs) (h : a + xs.length ≤ s.length) (i : Nat) (h1 : i < a ∨ a + xs.length ≤ i) : (laidW s a xs)[i]? = s[i]? := by
  unfold laidW
  have hl : (s.take a).length = a := by rw [List.length_take]; omega
  rcases h1 with h1 | h1
  · rw [List.getElem?_append_left (by omega), List.getElem?_take, if_pos h1]
  · rw [List.getElem?_append_right (by omega), hl, List.getElem?_append_right (by omega), List.getElem?_drop]
    congr 1
    omega
theorem cut_flat : ∀ (l : List Bs) (j : Nat), (∀ x ∈ l, x.length = 64) → (hj : j < l.length) → cutB l.flatten j = l[j]
  | x :: l, 0, h, _ => by
    have hx := h x (List.mem_cons_self ..)
    unfold cutB
    rw [List.flatten_cons, Nat.zero_mul, List.drop_zero]
    conv => lhs; arg 1; rw [← hx]
    exact List.take_left
  | x :: l, j + 1, h, hj => by
    have hx := h x (List.mem_cons_self ..)
    have h2 := cut_flat l j (fun y hy => h y (List.mem_cons_of_mem _ hy)) (by simpa using hj)
    have e : cutB (x :: l).flatten (j + 1) = cutB l.flatten j := by
      unfold cutB
      rw [List.flatten_cons, List.drop_append, List.drop_of_length_le (by omega), List.nil_append]
      congr 2
      omega
    rw [e, h2, List.getElem_cons_succ]
theorem flat_64 : ∀ (l : List Bs), (∀ x ∈ l, x.length = 64) → l.flatten.length = l.length * 64
  | [], _ => rfl
  | x :: l, h => by
    rw [List.flatten_cons, List.length_append, flat_64 l (fun y hy => h y (List.mem_cons_of_mem _ hy)), h x (List.mem_cons_self ..), List.length_cons]
    omega
theorem blkW_len {s : List Bs} {n : Nat} (h : ∀ x ∈ s, x.length = 64) (hn : n * 4 + 4 ≤ s.length) : (blkW s n).length = 256 := by
  unfold blkW
  rw [flat_64 _ (fun x hx => h x (List.mem_of_mem_drop (List.mem_of_mem_take hx))), List.length_take, List.length_drop]
  omega
theorem blk_piece {s : List Bs} {n : Nat} (h : ∀ x ∈ s, x.length = 64) (hn : n * 4 + 4 ≤ s.length) {p : Nat × Bs} (hp : p ∈ piecesL n (blkW s n)) : s[p.1]? = some p.2 ∧ p.1 / 4 = n := by
  obtain ⟨i, hi, rfl⟩ := mem_pieces hp
  refine ⟨?_, by show (n * 4 + i) / 4 = n; omega⟩
  show s[n * 4 + i]? = some (cutB (blkW s n) i)
  have hl : i < ((s.drop (n * 4)).take 4).length := by rw [List.length_take, List.length_drop]; omega
  unfold blkW
  rw [cut_flat _ i (fun x hx => h x (List.mem_of_mem_drop (List.mem_of_mem_take hx))) hl, ← List.getElem?_eq_getElem hl, List.getElem?_take, if_pos hi, List.getElem?_drop]
structure WR (s : List Bs) (d : DM) (k n : Nat) (r : DM × Int) : Prop where
  safe : r.1.safe = d.safe
  l : ∃ l', r.1.l = d.l ++ l' ∧ (∀ p ∈ l', s[p.1]? = some p.2 ∧ n ≤ p.1 / 4) ∧ ((r.2 = 0 ∧ ∀ i, n ≤ i / 4 → i / 4 < n + k → ∃ p ∈ l', p.1 = i) ∨ (r.2 = 9 ∧ ∀ p ∈ l', p.1 / 4 + 1 < n + k)) ∧ l'.length ≤ k * 4 ∧ ∀ p ∈ l', p.1 / 4 < n + k
theorem write_in {d : DM} {n : Nat} {b : Bs} (hn : n * 4 + 4 ≤ d.safe.length) (hb : b.length = 256) : writeD d (n : Int) b = if (spendD d).2 then ({ (spendD d).1 with l := (spendD d).1.l ++ piecesL n b }, 0) else ((spendD d).1, 9) := by
  unfold writeD
  rw [if_pos]
  · rfl
  · rw [Bool.and_eq_true, isD_iff, decide_eq_true_eq]
    exact ⟨⟨by omega, by omega⟩, hb⟩
theorem writes_any (s : List Bs) (h64 : ∀ x ∈ s, x.length = 64) : ∀ (k n : Nat) (d : DM), (n + k) * 4 ≤ s.length → s.length = d.safe.length → WR s d k n (writesW s d k n)
  | 0, n, d, _, _ => ⟨rfl, [], by rw [List.append_nil]; rfl, fun p hp => by (cases hp), .inl ⟨rfl, fun i h1 h2 => by omega⟩, Nat.zero_le _, fun p hp => by cases hp⟩
  | k + 1, n, d, hk, hs => by
    have hb := blkW_len (n := n) h64 (by omega)
    have hw := write_in (d := d) (n := n) (b := blkW s n) (by omega) hb
    obtain ⟨e1, e2⟩ := sp_lists d
    unfold writesW
    rw [hw]
    by_cases hsp : (spendD d).2 = true
    · rw [if_pos hsp, if_pos rfl]
      obtain ⟨g1, l', g2, g3, g4, g5, g6⟩ := writes_any s h64 k (n + 1) { (spendD d).1 with l := (spendD d).1.l ++ piecesL n (blkW s n) } (by omega) (by show s.length = (spendD d).1.safe.length; rw [e1]; exact hs)
      refine ⟨g1.trans e1, piecesL n (blkW s n) ++ l', ?_, ?_, ?_, ?_, ?_⟩
      · rw [g2]
        show (spendD d).1.l ++ piecesL n (blkW s n) ++ l' = _
        rw [e2, List.append_assoc]
      · intro p hp
        rcases List.mem_append.1 hp with hp | hp
        · obtain ⟨q1, q2⟩ := blk_piece h64 (by omega) hp
          exact ⟨q1, by omega⟩
        · obtain ⟨q1, q2⟩ := g3 p hp
          exact ⟨q1, by omega⟩
      · rcases g4 with ⟨g4, g5⟩ | ⟨g4, g5⟩
        · refine .inl ⟨g4, fun i h1 h2 => ?_⟩
          by_cases hi : i / 4 = n
          · refine ⟨(n * 4 + i % 4, cutB (blkW s n) (i % 4)), List.mem_append.2 (.inl (List.mem_map.2 ⟨i % 4, List.mem_range.2 (by omega), rfl⟩)), ?_⟩
            show n * 4 + i % 4 = i
            omega
          · obtain ⟨p, hp, e⟩ := g5 i (by omega) (by omega)
            exact ⟨p, List.mem_append.2 (.inr hp), e⟩
        · refine .inr ⟨g4, fun p hp => ?_⟩
          have hk0 : k ≠ 0 := by
            rintro rfl
            cases g4
          rcases List.mem_append.1 hp with hp | hp
          · obtain ⟨q1, q2⟩ := blk_piece h64 (by omega) hp
            omega
          · have := g5 p hp
            omega
      · rw [List.length_append, show (piecesL n (blkW s n)).length = 4 by unfold piecesL; simp]
        omega
      · intro p hp
        rcases List.mem_append.1 hp with hp | hp
        · obtain ⟨q1, q2⟩ := blk_piece h64 (by omega) hp
          omega
        · have := g6 p hp
          omega
    · rw [if_neg hsp, if_neg (by simp)]
      exact ⟨e1, [], by rw [e2, List.append_nil], fun p hp => by (cases hp), .inr ⟨rfl, fun p hp => by cases hp⟩, Nat.zero_le _, fun p hp => by cases hp⟩
theorem now_put (s : List Bs) : ∀ (l : List (Nat × Bs)) (t : List Bs), t.length = s.length → (∀ p ∈ l, s[p.1]? = some p.2) → ∀ i, ((∃ p ∈ l, p.1 = i) → (nowL t l)[i]? = s[i]?) ∧ ((∀ p ∈ l, p.1 ≠ i) → (nowL t l)[i]? = t[i]?)
  | [], t, _, _, i => ⟨fun ⟨p, hp, _⟩ => by (cases hp), fun _ => rfl⟩
  | p :: r, t, ht, hl, i => by
    have hp := hl p (List.mem_cons_self ..)
    have hpl : p.1 < t.length := by rw [ht]; exact (List.getElem?_eq_some_iff.1 hp).1
    have hpt : (putS t p).length = s.length := by unfold putS; rw [List.length_set]; exact ht
    obtain ⟨h1, h2⟩ := now_put s r (putS t p) hpt (fun q hq => hl q (List.mem_cons_of_mem _ hq)) i
    refine ⟨fun h => ?_, fun h => ?_⟩
    · show (nowL (putS t p) r)[i]? = _
      by_cases hr : ∃ q ∈ r, q.1 = i
      · exact h1 hr
      · rw [h2 fun q hq e => hr ⟨q, hq, e⟩]
        obtain ⟨q, hq, e⟩ := h
        rcases List.mem_cons.1 hq with rfl | hq
        · subst e
          unfold putS
          rw [List.getElem?_set_self hpl, hp]
        · exact absurd ⟨q, hq, e⟩ hr
    · show (nowL (putS t p) r)[i]? = _
      rw [h2 fun q hq => h q (List.mem_cons_of_mem _ hq), put_other (h p (List.mem_cons_self ..))]
theorem now_app (s : List Bs) (l m : List (Nat × Bs)) : nowL s (l ++ m) = nowL (nowL s l) m := by unfold nowL; rw [List.foldl_append]
/-- What a record's writes leave. -/
structure PutW (a : Nat) (xs : List Bs) (d : DM) (r : DM × Int) : Prop where
  safe : r.1.safe = d.safe
  code : r.2 = 0 ∨ r.2 = 9
  poss : ∀ i x, Poss r.1 i x → Poss d i x ∨ (∃ j, i = a + j ∧ xs[j]? = some x)
  last : r.2 = 9 → ∀ x, Poss r.1 (a + xs.length - 1) x → Poss d (a + xs.length - 1) x
  now : r.2 = 0 → nowD r.1 = laidW (nowD d) (a) xs
  ok : OkD r.1
  len : r.1.l.length ≤ d.l.length + 4 * (xs.length / 4 + 2)
theorem put_aux {a : Nat} {xs : List Bs} {d : DM} (h : OkD d) (hmem : ∀ x ∈ xs, x.length = 64) (h0 : 0 < xs.length) (hin : a + xs.length ≤ d.safe.length) : PutW a xs d (writesW (laidW (nowD d) a xs) d ((a + xs.length - 1) / 4 + 1 - a / 4) (a / 4)) := by
  have hnl := now_len d
  have h64 : ∀ x ∈ laidW (nowD d) a xs, x.length = 64 := by
    intro x hx
    have hn : ∀ y ∈ nowD d, y.length = 64 := fun y hy => by
      obtain ⟨i, hi, rfl⟩ := List.mem_iff_getElem.1 hy
      exact poss_64 h (now_poss (List.getElem?_eq_getElem hi))
    unfold laidW at hx
    rcases List.mem_append.1 hx with hx | hx
    · exact hn x (List.mem_of_mem_take hx)
    · rcases List.mem_append.1 hx with hx | hx
      · exact hmem x hx
      · exact hn x (List.mem_of_mem_drop hx)
  have hsl : (laidW (nowD d) a xs).length = d.safe.length := by rw [laidW_len _ _ _ (by omega), hnl]
  have h4 := h.four
  have key := writes_any (laidW (nowD d) a xs) h64 ((a + xs.length - 1) / 4 + 1 - a / 4) (a / 4) d (by omega) hsl
  have hval : ∀ i x, (laidW (nowD d) a xs)[i]? = some x → Poss d i x ∨ ∃ j, i = a + j ∧ xs[j]? = some x := by
    intro i x hx
    by_cases hi : a ≤ i ∧ i < a + xs.length
    · right
      refine ⟨i - a, by omega, ?_⟩
      rw [← laidW_in (nowD d) a xs (by omega) (i - a) (by omega), show a + (i - a) = i by omega]
      exact hx
    · left
      rw [laidW_out _ _ _ (by omega) _ (by omega)] at hx
      exact now_poss hx
  generalize writesW (laidW (nowD d) a xs) d ((a + xs.length - 1) / 4 + 1 - a / 4) (a / 4) = r at *
  obtain ⟨g1, l', g2, g3, g4, g5, g6⟩ := key
  refine ⟨g1, ?_, ?_, ?_, ?_, ?_, ?_⟩
  · rcases g4 with ⟨g4, _⟩ | ⟨g4, _⟩
    · exact .inl g4
    · exact .inr g4
  · intro i x hx
    rcases hx with hx | hx
    · exact .inl (.inl (by rw [g1] at hx; exact hx))
    · rw [g2] at hx
      rcases List.mem_append.1 hx with hx | hx
      · exact .inl (.inr hx)
      · exact hval _ _ (g3 _ hx).1
  · intro he9 x hx
    rcases g4 with ⟨g4, _⟩ | ⟨_, g4⟩
    · rw [g4] at he9; cases he9
    · rcases hx with hx | hx
      · exact .inl (by rw [g1] at hx; exact hx)
      · rw [g2] at hx
        rcases List.mem_append.1 hx with hx | hx
        · exact .inr hx
        · have := g4 _ hx
          simp only at this
          omega
  · intro he0
    rcases g4 with ⟨_, g4⟩ | ⟨g4, _⟩
    · have hnw : nowD r.1 = nowL (nowD d) l' := by
        show nowL r.1.safe r.1.l = _
        rw [g1, g2, now_app]
        rfl
      rw [hnw]
      apply List.ext_getElem?
      intro i
      obtain ⟨p1, p2⟩ := now_put (laidW (nowD d) a xs) l' (nowD d) (by rw [hsl, hnl]) (fun p hp => (g3 p hp).1) i
      by_cases hi : ∃ p ∈ l', p.1 = i
      · exact p1 hi
      · rw [p2 fun p hp e => hi ⟨p, hp, e⟩]
        symm
        apply laidW_out _ _ _ (by omega)
        apply Classical.byContradiction
        intro hc
        exact hi (g4 i (by omega) (by omega))
    · rw [g4] at he0; cases he0
  · refine ⟨fun p hp => ?_, fun x hx => h.safe x (by rw [g1] at hx; exact hx), fun p hp => ?_, by rw [g1]; exact h.four⟩
    · rw [g1]
      rw [g2] at hp
      rcases List.mem_append.1 hp with hp | hp
      · exact h.at_ p hp
      · rw [← hsl]
        exact (List.getElem?_eq_some_iff.1 (g3 p hp).1).1
    · rw [g2] at hp
      rcases List.mem_append.1 hp with hp | hp
      · exact h.len p hp
      · exact h64 _ (List.mem_of_getElem? (g3 p hp).1)
  · rw [g2, List.length_append]
    omega
theorem put_any {m : LM} {d : DM} {b : Bs} (h : OkD d) (he : m.ep < 2 ^ 64) (hl : m.li < 2 ^ 64) (h0 : 0 < (secsC b m.ep m.li).length) (hin : fromW m + (secsC b m.ep m.li).length ≤ d.safe.length) : PutW (fromW m) (secsC b m.ep m.li) d (putW m d b) :=
  put_aux h (fun x hx => by
    obtain ⟨c, _, _, _, e⟩ := secs_mem he hl hx
    exact e) h0 hin
end Go.Proofs.Ythpepkfodcgbcaa
/- Kept: whatever a crash leaves, a log's records are a beginning of those that were appended. No program in it. -/
set_option linter.unusedVariables false
set_option linter.unusedSimpArgs false
namespace Go.Proofs.Ythpepkfodcgbcaa

abbrev nW (m : LM) : Nat := m.size * 4
abbrev aW (m : LM) : Nat := m.first * 4
structure ConsW (d : DM) (m : LM) (sure : Nat) : Prop where
  low : ∀ i x, i < nW m → Poss d (aW m + i) x → ∀ c, decC x = some c → c.ep ≤ m.ep ∧ c.li ≤ m.li
  cons : ∀ f : List Bs, f.length = nW m → (∀ i x, f[i]? = some x → Poss d (aW m + i) x) → ∃ j, sure ≤ j ∧ j ≤ m.recs.length ∧ told (readL m.ep f.length f 0) = m.recs.take j
structure FullW (d : DM) (m : LM) (G : List Bs) (rs : List (Bs × Nat × Nat)) (R : List Bs) : Prop where
  glen : G.length = nW m
  path : PathB m.ep G 0 rs
  stop : StopB m.ep (G.drop (sumP rs)) (lastP 0 rs)
  recs : m.recs = told rs ++ R
  end_ : m.end_ = sumP rs + (secsR R m.ep m.li).length
  rok : ∀ r ∈ R, RecOk r
  last : lastP 0 rs ≤ m.li
  poss1 : ∀ i x, i < sumP rs → Poss d (aW m + i) x → G[i]? = some x
  poss2 : ∀ i x, i < nW m → sumP rs ≤ i → Poss d (aW m + i) x → (secsR R m.ep m.li)[i - sumP rs]? = some x ∨ OldB m.ep m.li (G.drop (sumP rs)) (i - sumP rs) x
  now : ∀ i x, (secsR R m.ep m.li)[i]? = some x → (nowD d)[aW m + (sumP rs + i)]? = some x
  le : m.end_ ≤ nW m
def infoR (li : Nat) (R : List Bs) : List (Bs × Nat × Nat) := R.map fun r => (r, li, (r.length + 38) / 39)
theorem told_info (li : Nat) (R : List Bs) : told (infoR li R) = R := by
  unfold told infoR
  rw [List.map_map]
  exact List.map_id' R
theorem told_app (a b : List (Bs × Nat × Nat)) : told (a ++ b) = told a ++ told b := by unfold told; rw [List.map_append]
theorem told_len (a : List (Bs × Nat × Nat)) : (told a).length = a.length := by unfold told; rw [List.length_map]
theorem sum_app : ∀ (a b : List (Bs × Nat × Nat)), sumP (a ++ b) = sumP a + sumP b
  | [], b => by simp [sumP]
  | p :: a, b => by
    show p.2.2 + sumP (a ++ b) = p.2.2 + sumP a + sumP b
    rw [sum_app a b]
    omega
theorem sum_info {ep : Nat} (li : Nat) : ∀ (R : List Bs), (∀ r ∈ R, RecOk r) → sumP (infoR li R) = (secsR R ep li).length
  | [], _ => rfl
  | r :: R, h => by
    rw [secsR_cons, List.length_append, secs_len ep li (h r (List.mem_cons_self ..)).le, ← sum_info (ep := ep) li R fun x hx => h x (List.mem_cons_of_mem _ hx)]
    rfl
/-- What is read of sectors that are as they were up to a place, and from there on old or new. -/
theorem read_mix {ep li : Nat} (he : ep < 2 ^ 64) (hl : li < 2 ^ 64) {f G R : List Bs} {rs : List (Bs × Nat × Nat)} (hp : PathB ep G 0 rs) (hs : StopB ep (G.drop (sumP rs)) (lastP 0 rs)) (hle : lastP 0 rs ≤ li) (hR : ∀ r ∈ R, RecOk r)
    (ht : f.take (sumP rs) = G.take (sumP rs)) (hm : MixB ep li (f.drop (sumP rs)) (G.drop (sumP rs)) (secsR R ep li)) :
    ∃ j, j ≤ R.length ∧ readL ep f.length f 0 = rs ++ infoR li (R.take j) ∧ (f.drop (sumP rs)).take (secsR (R.take j) ep li).length = secsR (R.take j) ep li ∧ ((f.drop (sumP rs)).take (secsR R ep li).length = secsR R ep li → j = R.length) := by
  obtain ⟨k', h1, h2⟩ := path_read (k := f.length) (path_take hp ht) (Nat.le_refl _)
  obtain ⟨j, g1, g2, g3, g4⟩ := core he hl R k' (f.drop (sumP rs)) (G.drop (sumP rs)) (lastP 0 rs) hR h1 hm hle (.inr hs)
  exact ⟨j, g1, by rw [h2, g2]; rfl, g3, g4⟩
theorem FullW.mix {d : DM} {m : LM} {G : List Bs} {rs : List (Bs × Nat × Nat)} {R : List Bs} (h : FullW d m G rs R) {f : List Bs} (hf : f.length = nW m) (hp : ∀ i x, f[i]? = some x → Poss d (aW m + i) x) :
    f.take (sumP rs) = G.take (sumP rs) ∧ MixB m.ep m.li (f.drop (sumP rs)) (G.drop (sumP rs)) (secsR R m.ep m.li) := by
  have hsum : sumP rs ≤ nW m := by have := path_le h.path; rw [h.glen] at this; exact this
  refine ⟨take_eq_of (by rw [h.glen]; exact hsum) fun i hi => ?_, fun i x hx => ?_⟩
  · have hi2 : i < f.length := by omega
    rw [List.getElem?_eq_getElem hi2, h.poss1 i _ hi (hp i _ (List.getElem?_eq_getElem hi2))]
  · rw [List.getElem?_drop] at hx
    have hi2 : sumP rs + i < f.length := (List.getElem?_eq_some_iff.1 hx).1
    have := h.poss2 (sumP rs + i) x (by omega) (by omega) (hp _ _ hx)
    rw [Nat.add_sub_cancel_left] at this
    exact this
theorem FullW.cons {d : DM} {m : LM} {G : List Bs} {rs : List (Bs × Nat × Nat)} {R : List Bs} (h : FullW d m G rs R) (he : m.ep < 2 ^ 64) (hl : m.li < 2 ^ 64) (f : List Bs) (hf : f.length = nW m) (hp : ∀ i x, f[i]? = some x → Poss d (aW m + i) x) :
    ∃ j, rs.length ≤ j ∧ j ≤ m.recs.length ∧ told (readL m.ep f.length f 0) = m.recs.take j := by
  obtain ⟨h1, h2⟩ := h.mix hf hp
  obtain ⟨j, g1, g2, _, _⟩ := read_mix he hl h.path h.stop h.last h.rok h1 h2
  refine ⟨rs.length + j, Nat.le_add_right _ _, ?_, ?_⟩
  · rw [h.recs, List.length_append, told_len]; omega
  · rw [g2, h.recs, told_app, told_info, ← told_len, List.take_length_add_append]
/-- A log that was opened on a disk without anything pending. -/
theorem open_full {d : DM} {first size ep : Nat} (hd : d.l = []) (hfit : (first + size) * 4 ≤ d.safe.length) :
    ∃ G rs, FullW d (logW (regW (nowD d) first size) first size ep) G rs [] ∧ (logW (regW (nowD d) first size) first size ep).recs.length = rs.length := by
  have hn : nowD d = d.safe := by
    show nowL d.safe d.l = _
    rw [hd]; rfl
  have hglen : (regW (nowD d) first size).length = size * 4 := reg_len _ _ _ (by rw [hn]; exact hfit)
  have hmaxle : ∀ x ∈ regW (nowD d) first size, ∀ c, decC x = some c → c.li ≤ lifeW (regW (nowD d) first size) := fun x hx c hc => life_ge hx hc
  have hposs : ∀ i x, Poss d (first * 4 + i) x → i < size * 4 → (regW (nowD d) first size)[i]? = some x := by
    intro i x hx hi
    rcases hx with hx | hx
    · rw [reg_get _ _ _ _ hi, hn]; exact hx
    · rw [hd] at hx; cases hx
  generalize hG : regW (nowD d) first size = G at *
  obtain ⟨h1, h2⟩ := read_path (ep := ep) (l := G) (least := 0) (Nat.le_refl G.length)
  refine ⟨G, readL ep G.length G 0, ⟨hglen, h1, h2, ?_, rfl, fun r hr => by (cases hr), ?_, ?_, ?_, fun i x hx => by (cases hx), ?_⟩, ?_⟩
  · show told _ = told _ ++ []
    rw [List.append_nil]
  · exact Nat.le_succ_of_le (last_le h1 (Nat.zero_le _) hmaxle)
  · intro i x hi hx
    exact hposs i x hx (by have := path_le h1; omega)
  · intro i x hi hs hx
    right; right
    have hgi := hposs i x hx hi
    refine ⟨?_, fun c hc _ => ?_⟩
    · rw [List.getElem?_drop, show sumP (readL ep G.length G 0) + (i - sumP (readL ep G.length G 0)) = i by omega]
      exact hgi
    · exact Nat.lt_succ_of_le (hmaxle x (List.mem_of_getElem? hgi) c hc)
  · show sumP (readL ep G.length G 0) ≤ size * 4
    have := path_le h1
    omega
  · exact told_len _
/-- What a record's append keeps. -/
structure KeepW (d : DM) (m : LM) (sure : Nat) : Prop where
  ok : OkD d
  fit : (m.first + m.size) * 4 ≤ d.safe.length
  ep : m.ep < 2 ^ 64 - 1
  li : m.li < 2 ^ 64 - 1
  cons : ConsW d m sure
  full : m.broken = false → ∃ G rs R, FullW d m G rs R ∧ rs.length = sure
theorem KeepW.of {d : DM} {m : LM} {sure : Nat} (ok : OkD d) (fit : (m.first + m.size) * 4 ≤ d.safe.length) (ep : m.ep < 2 ^ 64 - 1) (li : m.li < 2 ^ 64 - 1)
    (low : ∀ i x, i < nW m → Poss d (aW m + i) x → ∀ c, decC x = some c → c.ep ≤ m.ep ∧ c.li ≤ m.li) (h : ∃ G rs R, FullW d m G rs R ∧ rs.length = sure) : KeepW d m sure := by
  obtain ⟨G, rs, R, h1, h2⟩ := h
  refine ⟨ok, fit, ep, li, ⟨low, fun f hf hp => ?_⟩, fun _ => ⟨G, rs, R, h1, h2⟩⟩
  rw [← h2]
  exact h1.cons (by omega) (by omega) f hf hp
/-- A log that is opened behind a crash, or on a new disk. -/
theorem keep_open {d : DM} {first size ep : Nat} (ok : OkD d) (hd : d.l = []) (hfit : (first + size) * 4 ≤ d.safe.length) (he : ep < 2 ^ 64 - 1) (hl : lifeW (regW (nowD d) first size) + 1 < 2 ^ 64 - 1)
    (hlow : ∀ x ∈ regW (nowD d) first size, ∀ c, decC x = some c → c.ep ≤ ep) :
    KeepW d (logW (regW (nowD d) first size) first size ep) (logW (regW (nowD d) first size) first size ep).recs.length := by
  obtain ⟨G, rs, h1, h2⟩ := open_full (ep := ep) hd hfit
  refine KeepW.of ok hfit he hl ?_ ⟨G, rs, [], h1, h2.symm⟩
  intro i x hi hx c hc
  have hn : nowD d = d.safe := by
    show nowL d.safe d.l = _
    rw [hd]; rfl
  have hm : x ∈ regW (nowD d) first size := by
    rcases hx with hx | hx
    · have hi2 : i < size * 4 := hi
      have hx2 : d.safe[first * 4 + i]? = some x := hx
      exact List.mem_of_getElem? (i := i) (by rw [reg_get _ _ _ _ hi2, hn]; exact hx2)
    · rw [hd] at hx; cases hx
  exact ⟨hlow x hm c hc, Nat.le_succ_of_le (life_ge hm hc)⟩
theorem keep_crash_open {d : DM} {m : LM} {sure : Nat} (h : KeepW d m sure) (keep : List Bool) (hl : m.li + 1 < 2 ^ 64 - 1) :
    ∃ m', openW (crashD d keep) (m.first : Int) (m.size : Int) m.ep = (some m', 0) ∧ KeepW (crashD d keep) m' m'.recs.length ∧ m'.li ≤ m.li + 1 ∧ m'.ep = m.ep ∧ m'.first = m.first ∧ m'.size = m.size ∧ (1 ≤ m.size → True) ∧ (∃ j, sure ≤ j ∧ j ≤ m.recs.length ∧ m'.recs = m.recs.take j) ∨ m.size = 0 := by
  by_cases hs0 : m.size = 0
  · exact ⟨m, .inr hs0⟩
  have hlen : (crashD d keep).safe.length = d.safe.length := crashL_len _ _ _
  have hfit : (m.first + m.size) * 4 ≤ (crashD d keep).safe.length := by rw [hlen]; exact h.fit
  have hnow : nowD (crashD d keep) = crashL d.safe d.l keep := rfl
  have hposs : ∀ i x, (regW (nowD (crashD d keep)) m.first m.size)[i]? = some x → i < nW m ∧ Poss d (aW m + i) x := by
    intro i x hx
    obtain ⟨h1, h2⟩ := reg_some hx
    exact ⟨h1, crash_poss (by rw [← hnow]; exact h2)⟩
  have hlow : ∀ x ∈ regW (nowD (crashD d keep)) m.first m.size, ∀ c, decC x = some c → c.ep ≤ m.ep ∧ c.li ≤ m.li := by
    intro x hx c hc
    obtain ⟨i, hi, rfl⟩ := List.mem_iff_getElem.1 hx
    obtain ⟨h1, h2⟩ := hposs i _ (List.getElem?_eq_getElem hi)
    exact h.cons.low i _ h1 h2 c hc
  have hlife : lifeW (regW (nowD (crashD d keep)) m.first m.size) ≤ m.li := life_le fun x hx c hc => (hlow x hx c hc).2
  refine ⟨logW (regW (nowD (crashD d keep)) m.first m.size) m.first m.size m.ep, .inl ⟨?_, keep_open (ok_crash h.ok keep) rfl hfit h.ep (by omega) (fun x hx c hc => (hlow x hx c hc).1), Nat.succ_le_succ hlife, rfl, rfl, rfl, fun _ => trivial, ?_⟩⟩
  · unfold openW
    have hr : isReg (crashD d keep) (m.first : Int) (m.size : Int) = true := by
      unfold isReg
      have := h.fit
      rw [hlen, Bool.and_eq_true, Bool.and_eq_true, Bool.and_eq_true, decide_eq_true_eq, decide_eq_true_eq, decide_eq_true_eq, decide_eq_true_eq]
      refine ⟨?_, ?_, ?_, ?_⟩ <;> omega
    rw [if_pos hr, if_neg (by show ¬ (false = true); decide), Int.toNat_natCast, Int.toNat_natCast, if_neg (by omega)]
  · exact h.cons.cons _ (reg_len _ _ _ hfit) fun i x hx => (hposs i x hx).2
/-- A fuse, and what else changes no sector. -/
theorem keep_same {d d' : DM} {m : LM} {sure : Nat} (h : KeepW d m sure) (e1 : d'.safe = d.safe) (e2 : d'.l = d.l) : KeepW d' m sure := by
  have hp : ∀ i x, Poss d' i x ↔ Poss d i x := fun i x => by unfold Poss; rw [e1, e2]
  have hn : nowD d' = nowD d := by unfold nowD; rw [e1, e2]
  refine ⟨⟨fun p hp => by rw [e1]; exact h.ok.at_ p (by rw [← e2]; exact hp), fun x hx => h.ok.safe x (by rw [← e1]; exact hx), fun p hp => h.ok.len p (by rw [← e2]; exact hp), by rw [e1]; exact h.ok.four⟩, by rw [e1]; exact h.fit, h.ep, h.li,
    ⟨fun i x hi hx => h.cons.low i x hi ((hp _ _).1 hx), fun f hf hx => h.cons.cons f hf fun i x hi => (hp _ _).1 (hx i x hi)⟩, fun hb => ?_⟩
  obtain ⟨G, rs, R, g, g2⟩ := h.full hb
  exact ⟨G, rs, R, ⟨g.glen, g.path, g.stop, g.recs, g.end_, g.rok, g.last, fun i x hi hx => g.poss1 i x hi ((hp _ _).1 hx), fun i x hi hs hx => g.poss2 i x hi hs ((hp _ _).1 hx), fun i x hx => by rw [hn]; exact g.now i x hx, g.le⟩, g2⟩
theorem armW_lists (d : DM) (k : Int) : (armD d k).safe = d.safe ∧ (armD d k).l = d.l := by
  unfold armD
  split <;> exact ⟨rfl, rfl⟩
theorem keep_break {d : DM} {m : LM} {sure : Nat} (h : KeepW d m sure) : KeepW d { m with broken := true } sure :=
  ⟨h.ok, h.fit, h.ep, h.li, ⟨h.cons.low, h.cons.cons⟩, fun hb => by cases hb⟩
theorem keep_reset {d : DM} {m : LM} {sure : Nat} (h : KeepW d m sure) (ep : Nat) (he : m.ep < ep) (he2 : ep < 2 ^ 64 - 1) : KeepW d { m with ep := ep, recs := [], end_ := 0 } 0 := by
  have hl : ∀ (i : Nat) (x : Bs), (regW (nowD d) m.first m.size)[i]? = some x → ∀ c, decC x = some c → c.ep ≤ m.ep := by
    intro i x hx c hc
    obtain ⟨h1, h2⟩ := reg_some hx
    exact (h.cons.low i x h1 (now_poss h2) c hc).1
  have hno : ∀ b li n, recL ep (regW (nowD d) m.first m.size) = some (b, li, n) → False := by
    intro b li n hr
    obtain ⟨_, h2, h3, h4, h5, h6, h7⟩ := rec_some hr
    have hf : (regW (nowD d) m.first m.size)[0]'(by omega) ∈ secsC b ep li := by
      rw [← h7]
      have h8 : 0 < ((regW (nowD d) m.first m.size).take n).length := by rw [List.length_take]; omega
      have := List.getElem_mem h8
      rwa [List.getElem_take] at this
    obtain ⟨c, e1, e2, _, _⟩ := secs_mem h3 h2 hf
    have := hl 0 _ (List.getElem?_eq_getElem (by omega)) c e1
    omega
  refine KeepW.of h.ok h.fit he2 h.li (fun i x hi hx c hc => ?_) ⟨regW (nowD d) m.first m.size, [], [], ⟨reg_len _ _ _ (by rw [now_len]; exact h.fit), trivial, ?_, rfl, rfl, fun r hr => by (cases hr), Nat.zero_le _, fun i x hi => by (cases hi), ?_, fun i x hx => by (cases hx), Nat.zero_le _⟩, rfl⟩
  · have := h.cons.low i x hi hx c hc
    exact ⟨by show c.ep ≤ ep; omega, this.2⟩
  · intro b li n hr
    exact (hno b li n hr).elim
  · intro i x hi _ hx
    right; left
    intro c hc
    have := (h.cons.low i x hi hx c hc).1
    show c.ep ≠ ep
    omega
theorem keep_sync {d : DM} {m : LM} {sure : Nat} (h : KeepW d m sure) (hb : m.broken = false) : ((flushD d).2 = 0 → KeepW (flushD d).1 m m.recs.length) ∧ ((flushD d).2 ≠ 0 → KeepW (flushD d).1 { m with broken := true } sure) := by
  obtain ⟨e1, e2⟩ := sp_lists d
  unfold flushD
  by_cases hs : (spendD d).2 = true
  · rw [if_pos hs]
    refine ⟨fun _ => ?_, fun hc => absurd rfl hc⟩
    have hn : nowD (spendD d).1 = nowD d := by unfold nowD; rw [e1, e2]
    obtain ⟨G, rs, R, g, g2⟩ := h.full hb
    have hfl : OkD ({ (spendD d).1 with safe := nowD (spendD d).1, l := [] } : DM) := by
      have := ok_flush h.ok
      unfold flushD at this
      rw [if_pos hs] at this
      exact this
    have hsl : (nowD d).length = d.safe.length := now_len d
    have hglen : (regW (nowD d) m.first m.size).length = nW m := reg_len _ _ _ (by rw [hsl]; exact h.fit)
    have hposs : ∀ i x, i < nW m → Poss ({ (spendD d).1 with safe := nowD (spendD d).1, l := [] } : DM) (aW m + i) x → (regW (nowD d) m.first m.size)[i]? = some x ∧ Poss d (aW m + i) x := by
      intro i x hi hx
      rcases hx with hx | hx
      · have hx : (nowD (spendD d).1)[aW m + i]? = some x := hx
        rw [hn] at hx
        exact ⟨by rw [reg_get _ _ _ _ hi]; exact hx, now_poss hx⟩
      · cases hx
    have hgp : ∀ i x, (regW (nowD d) m.first m.size)[i]? = some x → Poss d (aW m + i) x := by
      intro i x hx
      exact now_poss (reg_some hx).2
    obtain ⟨h1, h2⟩ := g.mix hglen hgp
    have he : m.ep < 2 ^ 64 := by have := h.ep; omega
    have hl : m.li < 2 ^ 64 := by have := h.li; omega
    obtain ⟨j, j1, j2, j3, j4⟩ := read_mix he hl g.path g.stop g.last g.rok h1 h2
    have hend := g.end_
    have hle := g.le
    have hj : j = R.length := j4 (by
      apply List.ext_getElem?
      intro i
      rw [List.getElem?_take]
      split
      · next hi =>
        rw [List.getElem?_drop, reg_get _ _ _ _ (by show sumP rs + i < nW m; omega)]
        rw [g.now i _ (List.getElem?_eq_getElem hi), List.getElem?_eq_getElem hi]
      · next hi =>
        rw [List.getElem?_eq_none (by omega)])
    subst hj
    rw [List.take_length] at j2
    obtain ⟨p1, p2⟩ := read_path (ep := m.ep) (l := regW (nowD d) m.first m.size) (least := 0) (Nat.le_refl _)
    rw [j2] at p1 p2
    have hsum : sumP (rs ++ infoR m.li R) = m.end_ := by rw [sum_app, sum_info (ep := m.ep) m.li R g.rok, hend]
    refine KeepW.of hfl (by show (m.first + m.size) * 4 ≤ (nowD (spendD d).1).length; rw [hn, hsl]; exact h.fit) h.ep h.li (fun i x hi hx c hc => h.cons.low i x hi (hposs i x hi hx).2 c hc)
      ⟨regW (nowD d) m.first m.size, rs ++ infoR m.li R, [], ⟨hglen, p1, p2, ?_, ?_, fun r hr => by (cases hr), ?_, ?_, ?_, fun i x hx => by (cases hx), hle⟩, ?_⟩
    · rw [g.recs, told_app, told_info, List.append_nil]
    · rw [hsum]; rfl
    · refine last_le p1 (Nat.zero_le _) fun x hx c hc => ?_
      obtain ⟨i, hi, rfl⟩ := List.mem_iff_getElem.1 hx
      exact (h.cons.low i _ (by omega) (hgp i _ (List.getElem?_eq_getElem hi)) c hc).2
    · intro i x hi hx
      exact (hposs i x (by omega) hx).1
    · intro i x hi hge hx
      obtain ⟨q1, q2⟩ := hposs i x hi hx
      rw [hsum] at hge ⊢
      right
      rcases g.poss2 i x hi (by omega) q2 with hX | hO | ⟨hG, hO⟩
      · have := (List.getElem?_eq_some_iff.1 hX).1
        omega
      · exact .inl hO
      · refine .inr ⟨?_, hO⟩
        rw [List.getElem?_drop, show m.end_ + (i - m.end_) = i by omega]
        exact q1
    · rw [g.recs, List.length_append, List.length_append, told_len]
      unfold infoR
      rw [List.length_map]
  · rw [if_neg hs]
    exact ⟨fun hc => absurd (show (9 : Int) = 0 from hc) (by decide), fun _ => keep_break (keep_same h e1 e2)⟩
theorem room_fits {m : LM} {b : Bs} (hb : m.broken = false) (hr : b.length ≤ roomW m) (h0 : 0 < b.length) (hle : m.end_ ≤ nW m) : b.length ≤ 6000 ∧ m.end_ + (secsC b m.ep m.li).length ≤ nW m ∧ 0 < (secsC b m.ep m.li).length := by
  unfold roomW at hr
  rw [hb] at hr
  simp only [Bool.false_eq_true, if_false] at hr
  have h1 := Nat.le_trans hr (Nat.min_le_right _ _)
  have h2 := Nat.le_trans hr (Nat.min_le_left _ _)
  rw [secs_len _ _ (by omega)]
  show b.length ≤ 6000 ∧ m.end_ + (b.length + 38) / 39 ≤ m.size * 4 ∧ _
  have h3 : m.end_ ≤ m.size * 4 := hle
  refine ⟨h1, ?_, ?_⟩ <;> omega
theorem keep_append {d : DM} {m : LM} {sure : Nat} (h : KeepW d m sure) (b : Bs) : KeepW (appendW m d b).2.1 (appendW m d b).1 sure := by
  unfold appendW
  by_cases hw : whyW m b = 0
  · rw [if_pos hw]
    have hwhy : b.length ≠ 0 ∧ m.broken = false ∧ b.length ≤ roomW m := by
      unfold whyW at hw
      split at hw
      · cases hw
      · next q1 =>
        split at hw
        · cases hw
        · split at hw
          · cases hw
          · next q3 =>
            split at hw
            · cases hw
            · next q4 => exact ⟨q1, by simpa using q3, by omega⟩
    obtain ⟨w1, hb, w3⟩ := hwhy
    obtain ⟨G, rs, R, g, g2⟩ := h.full hb
    obtain ⟨r1, r2, r3⟩ := room_fits hb w3 (by omega) g.le
    have he : m.ep < 2 ^ 64 := by have := h.ep; omega
    have hl : m.li < 2 ^ 64 := by have := h.li; omega
    have hfit := h.fit
    have hbok : RecOk b := ⟨fun e => w1 (by rw [e]; rfl), by omega⟩
    have P := put_any (m := m) (d := d) (b := b) h.ok he hl r3 (by unfold fromW; have : m.end_ + (secsC b m.ep m.li).length ≤ m.size * 4 := r2; omega)
    have hmem : ∀ (j : Nat) x, (secsC b m.ep m.li)[j]? = some x → ∃ c, decC x = some c ∧ c.ep = m.ep ∧ c.li = m.li := fun j x hx => by
      obtain ⟨c, e1, e2, e3, _⟩ := secs_mem he hl (List.mem_of_getElem? hx)
      exact ⟨c, e1, e2, e3⟩
    have hend := g.end_
    have hle := g.le
    have hXl : (secsR (R ++ [b]) m.ep m.li) = secsR R m.ep m.li ++ secsC b m.ep m.li := by
      rw [secsR_app]
      congr 1
      rw [secsR_cons]
      exact List.append_nil _
    have hlow : ∀ i x, i < nW m → Poss (putW m d b).1 (aW m + i) x → ∀ c, decC x = some c → c.ep ≤ m.ep ∧ c.li ≤ m.li := by
      intro i x hi hx c hc
      rcases P.poss _ _ hx with hx | ⟨j, hj, hx⟩
      · exact h.cons.low i x hi hx c hc
      · obtain ⟨c', e1, e2, e3⟩ := hmem j x hx
        rw [hc] at e1
        injection e1 with e1
        subst e1
        exact ⟨Nat.le_of_eq e2, Nat.le_of_eq e3⟩
    have hrok : ∀ r ∈ R ++ [b], RecOk r := fun r hr => by
      rcases List.mem_append.1 hr with hr | hr
      · exact g.rok r hr
      · rw [List.mem_singleton.1 hr]; exact hbok
    have hnowp : ∀ i x, i < sumP rs → Poss (putW m d b).1 (aW m + i) x → G[i]? = some x := by
      intro i x hi hx
      rcases P.poss _ _ hx with hx | ⟨j, hj, hx⟩
      · exact g.poss1 i x hi hx
      · exfalso
        unfold fromW at hj
        have : aW m + i = m.first * 4 + i := rfl
        omega
    have hposs2 : ∀ i x, i < nW m → sumP rs ≤ i → Poss (putW m d b).1 (aW m + i) x → (secsR (R ++ [b]) m.ep m.li)[i - sumP rs]? = some x ∨ OldB m.ep m.li (G.drop (sumP rs)) (i - sumP rs) x := by
      intro i x hi hge hx
      rw [hXl]
      rcases P.poss _ _ hx with hx | ⟨j, hj, hx⟩
      · rcases g.poss2 i x hi hge hx with hX | hO
        · left
          rw [List.getElem?_append_left (List.getElem?_eq_some_iff.1 hX).1]
          exact hX
        · exact .inr hO
      · left
        unfold fromW at hj
        have : aW m + i = m.first * 4 + i := rfl
        rw [List.getElem?_append_right (by omega), show i - sumP rs - (secsR R m.ep m.li).length = j by omega]
        exact hx
    rcases P.code with hc | hc
    · rw [if_pos hc]
      refine KeepW.of P.ok (by show (m.first + m.size) * 4 ≤ _; rw [P.safe]; exact h.fit) h.ep h.li hlow ⟨G, rs, R ++ [b], ⟨g.glen, g.path, g.stop, ?_, ?_, hrok, g.last, hnowp, hposs2, ?_, r2⟩, g2⟩
      · show m.recs ++ [b] = _
        rw [g.recs, List.append_assoc]
      · show m.end_ + _ = sumP rs + (secsR (R ++ [b]) m.ep m.li).length
        rw [hXl, List.length_append]
        omega
      · intro i x hx
        have hx : (secsR (R ++ [b]) m.ep m.li)[i]? = some x := hx
        show (nowD (putW m d b).1)[m.first * 4 + (sumP rs + i)]? = some x
        have hnl := now_len d
        have hfrom : fromW m = m.first * 4 + m.end_ := rfl
        have hin : fromW m + (secsC b m.ep m.li).length ≤ (nowD d).length := by
          rw [hnl]
          have : m.end_ + (secsC b m.ep m.li).length ≤ m.size * 4 := r2
          omega
        rw [P.now hc]
        rw [hXl] at hx
        by_cases hi : i < (secsR R m.ep m.li).length
        · rw [List.getElem?_append_left hi] at hx
          rw [laidW_out _ _ _ hin _ (by omega)]
          exact g.now i x hx
        · rw [List.getElem?_append_right (by omega)] at hx
          have hj := (List.getElem?_eq_some_iff.1 hx).1
          rw [show m.first * 4 + (sumP rs + i) = fromW m + (i - (secsR R m.ep m.li).length) by omega, laidW_in _ _ _ hin _ hj]
          exact hx
    · rw [if_neg (by rw [hc]; decide)]
      refine ⟨P.ok, by show (m.first + m.size) * 4 ≤ _; rw [P.safe]; exact h.fit, h.ep, h.li, ⟨hlow, fun f hf hx => ?_⟩, fun hb => by cases hb⟩
      have hsum : sumP rs ≤ nW m := by have := path_le g.path; rw [g.glen] at this; exact this
      have ht : f.take (sumP rs) = G.take (sumP rs) := take_eq_of (by rw [g.glen]; exact hsum) fun i hi => by
        have hf' : f.length = nW m := hf
        have hi2 : i < f.length := by omega
        rw [List.getElem?_eq_getElem hi2, hnowp i _ hi (hx i _ (List.getElem?_eq_getElem hi2))]
      have hm : MixB m.ep m.li (f.drop (sumP rs)) (G.drop (sumP rs)) (secsR (R ++ [b]) m.ep m.li) := fun i x hi => by
        have hf' : f.length = nW m := hf
        rw [List.getElem?_drop] at hi
        have hi2 : sumP rs + i < f.length := (List.getElem?_eq_some_iff.1 hi).1
        have := hposs2 (sumP rs + i) x (by omega) (by omega) (hx _ _ hi)
        rw [Nat.add_sub_cancel_left] at this
        exact this
      obtain ⟨j, j1, j2, j3, _⟩ := read_mix he hl g.path g.stop g.last hrok ht hm
      have hjl : j ≤ R.length := by
        rw [List.length_append, List.length_singleton] at j1
        apply Classical.byContradiction
        intro hcj
        have hj : j = (R ++ [b]).length := by rw [List.length_append, List.length_singleton]; omega
        rw [hj, List.take_length, hXl] at j3
        have e1 := congrArg (fun l => l[(secsR R m.ep m.li).length + ((secsC b m.ep m.li).length - 1)]?) j3
        simp only [List.getElem?_take, List.length_append] at e1
        rw [if_pos (by omega), List.getElem?_drop, List.getElem?_append_right (by omega), Nat.add_sub_cancel_left] at e1
        have hlast : (secsC b m.ep m.li).length - 1 < (secsC b m.ep m.li).length := by omega
        rw [List.getElem?_eq_getElem hlast] at e1
        have hq := hx _ _ e1
        have hpos : (aW { m with broken := true } : Nat) + (sumP rs + ((secsR R m.ep m.li).length + ((secsC b m.ep m.li).length - 1))) = fromW m + (secsC b m.ep m.li).length - 1 := by
          show m.first * 4 + _ = m.first * 4 + m.end_ + _ - 1
          omega
        rw [hpos] at hq
        have hq2 := P.last hc _ hq
        obtain ⟨c, d1, d2, d3⟩ := hmem _ _ (List.getElem?_eq_getElem hlast)
        have hq3 := g.poss2 (sumP rs + ((secsR R m.ep m.li).length + ((secsC b m.ep m.li).length - 1))) _ (by omega) (by omega) (by
          rw [show aW m + (sumP rs + ((secsR R m.ep m.li).length + ((secsC b m.ep m.li).length - 1))) = fromW m + (secsC b m.ep m.li).length - 1 from hpos]
          exact hq2)
        rw [Nat.add_sub_cancel_left] at hq3
        rcases hq3 with hq3 | hq3 | ⟨_, hq3⟩
        · have := (List.getElem?_eq_some_iff.1 hq3).1
          omega
        · exact hq3 c d1 d2
        · have := hq3 c d1 d2
          omega
      refine ⟨rs.length + j, by omega, ?_, ?_⟩
      · show rs.length + j ≤ m.recs.length
        rw [g.recs, List.length_append, told_len]; omega
      · show told (readL m.ep f.length f 0) = m.recs.take (rs.length + j)
        rw [j2, g.recs, told_app, told_info, List.take_append_of_le_length hjl, ← told_len, List.take_length_add_append]
  · rw [if_neg hw]
    exact h
end Go.Proofs.Ythpepkfodcgbcaa
/- What the document's Number answers. -/
set_option linter.unusedVariables false
set_option linter.unusedSimpArgs false
set_option maxRecDepth 4000
namespace Go.Proofs.Ythpepkfodcgbcaa
open Go.RowKit

theorem num_next (l : Bs) (i : Nat) (h : i < l.length) : numB (l.take (i + 1)) = numB (l.take i) * 256 + l[i].toNat := by
  rw [List.take_succ_eq_append_getElem h]
  unfold numB numF
  rw [List.foldl_append]
  rfl
theorem num_some (l : Bs) (i : Nat) (h : i ≤ l.length) (h8 : l.length ≤ 8) : numB (l.take i) < 256 ^ 8 := by
  refine Nat.lt_of_lt_of_le (num_lt _) (Nat.pow_le_pow_right (by decide) ?_)
  rw [List.length_take]
  omega
set_option maxHeartbeats 4000000 in
theorem rnumber_any (bv : Value) (b : Bs) (w : World) (hY : IsY w bv b) (hl : b.length ≤ 8) : Calls Try.prog 63 #[bv] w fun e w' => e = .returned (.int .u64 (numB b : Int)) ∧ w' = w := by
  obtain ⟨ba, bc, rfl⟩ := hY.form
  have HY := hide hY
  have HS := hide (fun i hi => num_some b i hi hl)
  clear hY
  go_enter Try.func63, Try.ntmps63
  go_wp2
  go_loop [3, 4] (fun nv iv => ∃ (i : Nat), iv = .int .i64 (i : Int) ∧ i ≤ b.length ∧ nv = .int .u64 (numB (b.take i) : Int)) (fun _ iv => b.length - (intOf iv).toNat)
  case atStart => exact ⟨0, rfl, Nat.zero_le _, rfl⟩
  case round =>
    obtain ⟨i, rfl, hi, rfl⟩ := hrel
    by_cases hlt : i < b.length
    · have hlt2 : (i : Int) < b.length := by omega
      have hs1 := HS.out (i + 1) (by omega)
      have hn := num_next b i hlt
      rcases HY.out with ⟨h0, _⟩ | ⟨bb, bo, cap, e, hc1, hc2⟩
      · rw [h0] at hlt; simp at hlt
      injection e with e _ e3
      subst e e3
      have hcell := hc2 i hlt
      have hc0 : b[i].toNat < 256 := b[i].toNat_lt
      rw [hn] at hs1
      clear hc1 hc2
      generalize b[i].toNat = c0 at *
      have HN := hide hn
      clear hn
      generalize numB (b.take i) = N0 at *
      have hs2 : N0 * 256 + c0 < 18446744073709551616 := hs1
      clear hs1
      go_wp2
      go_round
      case rel => exact ⟨i + 1, by go_num, by omega, by rw [HN.out]; go_num⟩
      case measure => simp [intOf]; omega
    · have hlt2 : ¬ (i : Int) < b.length := by omega
      have he : i = b.length := by omega
      subst he
      rw [List.take_length]
      go_wp2
      go_ret
      exact ⟨rfl, rfl⟩
end Go.Proofs.Ythpepkfodcgbcaa
/- Bytes that are appended; what the document's Put answers. -/
set_option linter.unusedVariables false
set_option linter.unusedSimpArgs false
set_option maxRecDepth 4000
namespace Go.Proofs.Ythpepkfodcgbcaa
open Go.RowKit

theorem byteCells_get (l : List UInt8) (j : Nat) (hj : j < l.length) : (Lib.byteCells l)[j]? = some (.int .u8 (l[j].toNat : Int)) := by
  simp [Lib.byteCells, List.getElem?_eq_getElem hj]
theorem byteCells_one (l : List UInt8) : ∀ u ∈ Lib.byteCells l, u.oneCell' = true := by
  intro u hu
  simp only [Lib.byteCells, List.mem_map] at hu
  obtain ⟨b, _, rfl⟩ := hu
  rfl
theorem byteCells_len (l : List UInt8) : (Lib.byteCells l).length = l.length := by simp [Lib.byteCells]
/-- An append whose run is known. -/
theorem wpList_append_run {P : Program} {ops : Array Oper} {rest : List Oper} {o : Oper} {a : Act} {Q : Exit → Act → World → Prop} {w : World} (hgd : o.guard = none) (s x : Operand) (t : TypeId)
    (ho : o.op = .call { callee := .builtin .append, args := #[s, x], argTypes := #[t, t] }) (v1 v2 v' : Value) (w' : World) (hs : a.eval s = v1) (hx : a.eval x = v2)
    (hr : (Builtin.append_ #[t, t] o.type #[v1, v2]).run P w = .ok v' w') (h : wpList P ops Q rest (a.put o.dst v') w') : wpList P ops Q (o :: rest) a w :=
  wpList_plain hgd fun _ hK => by
    unfold Oper.wp execOp
    simp only [ho, resolve, invoke, builtin, Sem.run_bind, Sem.run_pure, Result.andThen_ok, List.map_toArray, List.map_cons, List.map_nil, hs, hx, hr]
    exact hK _ _ h
/-- append(b, c), b a list of the call's own, c a byte that was just written out. -/
theorem append_byte (W : World) (B n : Nat) (v : Value) (l : List UInt8) (c : UInt8) (hown : W.ownsRow B 5 1 v n (Lib.byteCells l)) (hl : n ≤ 1000000) (hB : B ≤ W.heap.size) :
    ∃ v' w', (Builtin.append_ #[43, 43] 43 #[v, .slice (some ⟨W.heap.size, 0, none⟩) 1 1]).run Try.prog (W.alloc (.cells #[.int .u8 (c.toNat : Int)] 5)) = .ok v' w' ∧ w'.ownsRow B 5 1 v' (n + 1) (Lib.byteCells (l ++ [c])) ∧ Below B W w' := by
  have b0 : Below W.heap.size W (W.alloc (.cells #[.int .u8 (c.toNat : Int)] 5)) := (Below.refl _ W).alloc (Nat.le_refl _) _
  have hown2 : (W.alloc (.cells #[.int .u8 (c.toNat : Int)] 5)).ownsRow B 5 1 v n (Lib.byteCells l) := by
    refine ⟨hown.1, ?_⟩
    rcases hown.2 with h | ⟨g, cap, cur, h1, h2, h3, h4⟩
    · exact .inl h
    · refine .inr ⟨g, cap, cur, h1, h2, ?_, h4⟩
      have hg : g < W.heap.size := (Array.getElem?_eq_some_iff.1 h3).1
      rw [b0.block g hg]; exact h3
  have hblk : ∀ k, v.ownBlock = some k → B ≤ k := by
    intro k hk
    rcases hown.2 with ⟨rfl, _⟩ | ⟨g, cap, cur, rfl, h2, _⟩
    · simp [Value.ownBlock] at hk
    · simp [Value.ownBlock] at hk; omega
  obtain ⟨v', w', hr, ho, hg, _⟩ := run_append_own (P := Try.prog) (W.alloc (.cells #[.int .u8 (c.toNat : Int)] 5)) B 43 43 5 Try.t5 (.int .u8 0) 1 1 Try.underlying43 (by kernel_rfl) (by kernel_rfl) (by kernel_rfl) (by kernel_rfl) (by kernel_rfl) (by omega)
      v n (Lib.byteCells l) hown2 ⟨W.heap.size, 0, none⟩ 1 1 (Lib.byteCells [c]) rfl
      (by
        intro j u hu
        have hj : j < 1 := (List.getElem?_eq_some_iff.1 hu).1
        obtain rfl : j = 0 := by omega
        rw [byteCells_get [c] 0 (by simp)] at hu
        rw [addr_add, ← hu]
        simp [go_sem]) (byteCells_one [c]) (by unfold maxLen; omega) (by omega) (by simp; omega)
  refine ⟨v', w', hr, ?_, ((b0.mono hB)).grown hg (by simp; omega) hblk⟩
  rw [← Lib.byteCells_append] at ho
  exact ho
theorem put_next (n j : Nat) : putB n (j + 1) = UInt8.ofNat (n / 256 ^ j) :: putB n j := rfl
theorem owns_formY {w : World} {B n : Nat} {t : TypeId} {v : Value} {l : List Value} (h : w.ownsRow B t 1 v n l) : ∃ a c, v = .slice a n c := by
  rcases h.2 with ⟨rfl, h2⟩ | ⟨g, cap, cur, rfl, _⟩
  · exact ⟨none, 0, by subst h2; rfl⟩
  · exact ⟨_, _, rfl⟩
set_option maxHeartbeats 4000000 in
theorem rput_any (v : Value) (l : Bs) (n k : Nat) (hn : n < 18446744073709551616) (hk : k ≤ 8) (w : World) (B : Nat) (hB : B ≤ w.heap.size) (hl : l.length ≤ 1000) (hO : w.ownsRow B 5 1 v l.length (Lib.byteCells l)) :
    Calls Try.prog 68 #[v, .int .u64 (n : Int), .int .i64 (k : Int)] w fun e w' => ∃ v', e = .returned v' ∧ w'.ownsRow B 5 1 v' (l ++ putB n k).length (Lib.byteCells (l ++ putB n k)) ∧ Below B w w' := by
  have HO0 := hide hO
  have HL : Hid ((l ++ putB n k).length ≤ 1008) := hide (by rw [List.length_append, put_len]; omega)
  clear hO
  generalize hR : l ++ putB n k = R at *
  have HR := hide hR
  clear hR
  obtain ⟨va, vc, rfl⟩ := owns_formY HO0.out
  generalize hm : l.length = m at *
  have hml := hm
  clear hm
  go_enter Try.func68, Try.ntmps68
  go_wp2
  go_loopw [0, 7] (fun bv iv wr => ∃ (j : Nat) (o : Bs), j ≤ 8 ∧ iv = .int .i64 ((j : Int) - 1) ∧ o.length + j ≤ 1008 ∧ Below B w wr ∧ Hid (o ++ putB n j = R) ∧ Hid (wr.ownsRow B 5 1 bv o.length (Lib.byteCells o))) (fun _ iv _ => (intOf iv + 1).toNat)
  case atStart => exact ⟨k, l, hk, by go_num, by omega, Below.refl _ w, HR, hide (by rw [hml]; exact HO0.out)⟩
  case round =>
    obtain ⟨j, o, hj, rfl, ho, bw, HQ, HO⟩ := hrel
    have hsz := bw.size
    cases j with
    | zero =>
      have hq := HQ.out
      rw [putB, List.append_nil] at hq
      subst hq
      go_wp2
      go_ret
      exact ⟨_, rfl, HO.out, bw⟩
    | succ i =>
      have hge : (0 : Int) ≤ ((i + 1 : Nat) : Int) - 1 := by omega
      have hq := HQ.out
      rw [put_next, ← List.singleton_append, ← List.append_assoc] at hq
      obtain ⟨v', w', hr, ho2, hb⟩ := append_byte wr B o.length _ _ (UInt8.ofNat (n / 256 ^ i)) HO.out (by omega) (by omega)
      have hln : (o ++ [UInt8.ofNat (n / 256 ^ i)]).length = o.length + 1 := by simp
      rw [← hln] at ho2
      obtain ⟨oa, oc, rfl⟩ := owns_formY HO.out
      have hbyte : ((UInt8.ofNat (n / 256 ^ i)).toNat : Int) = (n : Int) / 2 ^ (8 * i) % 256 := by
        rw [UInt8.toNat_ofNat', show (256 : Nat) ^ i = 2 ^ (8 * i) by rw [Nat.pow_mul]]
        rw [Int.natCast_emod, Int.natCast_ediv, Int.natCast_pow]
        rfl
      rw [hbyte] at hr
      have HRUN := hide hr
      have HQ2 := hide hq
      have HO2 := hide ho2
      have b2 := bw.trans hb
      clear hr hq ho2 hb HQ HO HR HO0 hbyte
      have hi8 : i < 8 := by omega
      go_wp2_with (at_builtin; refine wpList_append_run rfl _ _ 43 rfl _ _ _ _ rfl rfl HRUN.out ?_)
      go_roundw
      case rel => exact ⟨i, _, by omega, by go_num, by rw [hln]; omega, b2, HQ2, HO2⟩
      case measure => simp [intOf]
end Go.Proofs.Ythpepkfodcgbcaa
