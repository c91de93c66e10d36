/- Arenas as the program keeps them: each node with its parent's number beside. No function of the program in it. -/
import Derived.Test.YtjgklemhlmgheaaMem5
set_option linter.unusedVariables false
set_option linter.unusedSimpArgs false
namespace Go.Proofs.Ytjgklemhlmgheaa

structure RN where
  nd : ND := {}
  par : Int := -1
  kids : List Nat := []
def rawAt (T : TR) (i : Nat) : RN := ⟨nodeAt T i, parZ (parentN T i), kidsAt T i⟩
def rawOf (T : TR) : List RN := (List.range T.length).map (rawAt T)
theorem raw_len (T : TR) : (rawOf T).length = T.length := by simp [rawOf]
theorem raw_get (T : TR) (i : Nat) (h : i < (rawOf T).length) : (rawOf T)[i] = rawAt T i := by simp [rawOf]
def modR (R : List RN) (i : Nat) (f : RN → RN) : List RN := R.set i (f (R.getD i {}))
theorem modR_len (R : List RN) (i : Nat) (f : RN → RN) : (modR R i f).length = R.length := by simp [modR]
theorem modR_get (R : List RN) (i : Nat) (f : RN → RN) (j : Nat) (h : j < (modR R i f).length) : (modR R i f)[j] = if i = j then f (R[j]'(by rwa [modR_len] at h)) else R[j]'(by rwa [modR_len] at h) := by
  have hj : j < R.length := by rwa [modR_len] at h
  simp only [modR, List.getElem_set]
  split
  · rename_i e
    subst e
    rw [List.getD_eq_getElem?_getD, List.getElem?_eq_getElem hj]
    rfl
  · rfl
def RN.wPar (z : Int) (r : RN) : RN := ⟨r.nd, z, r.kids⟩
def RN.wKids (ks : List Nat) (r : RN) : RN := ⟨r.nd, r.par, ks⟩
def RN.wText (s : List UInt8) (r : RN) : RN := ⟨{ r.nd with text := s }, r.par, r.kids⟩
abbrev setPar (R : List RN) (i : Nat) (z : Int) : List RN := modR R i (RN.wPar z)
abbrev setKids (R : List RN) (i : Nat) (ks : List Nat) : List RN := modR R i (RN.wKids ks)
abbrev setText (R : List RN) (i : Nat) (s : List UInt8) : List RN := modR R i (RN.wText s)
theorem raw_ext {R : List RN} {T : TR} (hl : R.length = T.length) (h : ∀ i (hi : i < R.length), R[i] = rawAt T i) : R = rawOf T := by
  apply List.ext_getElem
  · rw [raw_len]; exact hl
  · intro i h1 h2
    rw [raw_get, h i h1]
theorem parent_congr {T U : TR} (hT : WF T) (hU : WF U) {k : Nat} (h : ∀ i, k ∈ kidsAt U i ↔ k ∈ kidsAt T i) : parentN U k = parentN T k := by
  cases hp : parentN T k with
  | some p => exact hU.parent ((h p).2 (parent_some hp))
  | none =>
    cases hq : parentN U k with
    | none => rfl
    | some q => exact absurd ((h q).1 (parent_some hq)) (parent_none hp q)
theorem no_parent {T : TR} {k : Nat} (h : ∀ i, k ∉ kidsAt T i) : parentN T k = none := by
  cases hp : parentN T k with
  | none => rfl
  | some p => exact absurd (parent_some hp) (h p)
theorem out_raw {T : TR} (h : WF T) {c p : Nat} (hp : parentN T c = some p) : setPar (setKids (rawOf T) p ((kidsAt T p).filter (fun x => !(x == c)))) c (-1) = rawOf (outL T c) := by
  refine raw_ext (by rw [modR_len, modR_len, raw_len, out_len]) fun i hi => ?_
  rw [modR_get, modR_get, raw_get]
  have hkm := parent_some hp
  have hpar : ∀ k, k ≠ c → parentN (outL T c) k = parentN T k := fun k hk => parent_congr h (h.out c) fun j => by
    rw [kids_out h, List.mem_filter]
    simp [hk]
  have hkids : kidsAt (outL T c) i = if p = i then (kidsAt T p).filter (fun x => !(x == c)) else kidsAt T i := by
    rw [kids_out h]
    split
    · rename_i e; rw [e]
    · rename_i e
      exact filter_self c _ (fun hm => e (h.once p i c hkm hm))
  unfold rawAt
  rw [node_out, hkids]
  by_cases e1 : c = i
  · subst e1
    rw [if_pos rfl, out_parent h]
    split <;> rfl
  · rw [if_neg e1, hpar i (fun e => e1 e.symm)]
    split <;> rfl
theorem put_raw {T U : TR} (hT : WF T) (hU : WF U) {c p : Nat} {ks : List Nat} (hl : U.length = T.length) (hn : ∀ i, nodeAt U i = nodeAt T i) (hk : ∀ i, kidsAt U i = if i = p then ks else kidsAt T i) (hc : c ∈ ks) (hks : ∀ x, x ≠ c → (x ∈ ks ↔ x ∈ kidsAt T p)) : setPar (setKids (rawOf T) p ks) c (p : Int) = rawOf U := by
  refine raw_ext (by rw [modR_len, modR_len, raw_len, hl]) fun i hi => ?_
  rw [modR_get, modR_get, raw_get]
  have hpar : ∀ k, k ≠ c → parentN U k = parentN T k := fun k hk2 => parent_congr hT hU fun j => by
    rw [hk]
    by_cases e : j = p
    · subst e
      rw [if_pos rfl]
      exact hks k hk2
    · rw [if_neg e]
  have hcp : parentN U c = some p := hU.parent (by rw [hk, if_pos rfl]; exact hc)
  unfold rawAt
  rw [hn, hk]
  by_cases e1 : c = i
  · subst e1
    rw [if_pos rfl, hcp]
    by_cases e2 : p = c
    · rw [if_pos e2, if_pos e2.symm]; rfl
    · rw [if_neg e2, if_neg (fun e => e2 e.symm)]; rfl
  · rw [if_neg e1, hpar i (fun e => e1 e.symm)]
    by_cases e2 : p = i
    · rw [if_pos e2, if_pos e2.symm]; rfl
    · rw [if_neg e2, if_neg (fun e => e2 e.symm)]
theorem append_raw {T : TR} (h : WF T) {p c : Nat} (hp : p < T.length) (hc : c < T.length) (hc1 : 1 ≤ c) (hu : ¬ Up T c p) : setPar (setKids (rawOf (outL T c)) p (kidsAt (outL T c) p ++ [c])) c (p : Int) = rawOf (appendL T p c) := by
  refine put_raw (h.out c) (h.append hp hc hc1 hu) (by rw [append_len, out_len]) (fun i => by unfold appendL; rw [node_set]) (fun i => ?_) (by simp) (fun x hx => by simp [hx])
  unfold appendL
  rw [kids_set _ _ _ (by rw [out_len]; exact hp)]
theorem before_raw {T : TR} (h : WF T) {p ref c : Nat} (hr : ref ∈ kidsAt T p) (hc : c < T.length) (hc1 : 1 ≤ c) (hu : ¬ Up T c ref) : setPar (setKids (rawOf (outL T c)) p (aheadL ref c (kidsAt (outL T c) p))) c (p : Int) = rawOf (beforeL T p ref c) := by
  have hne : ref ≠ c := fun e => hu (e ▸ .refl)
  refine put_raw (h.out c) (h.before hr hc hc1 hu) (by rw [before_len, out_len]) (fun i => by unfold beforeL; rw [node_set]) (fun i => ?_) ?_ (fun x hx => ?_)
  · unfold beforeL
    rw [kids_set _ _ _ (by rw [out_len]; exact kidsAt_lt hr)]
  · rw [mem_ahead]
    refine .inr ⟨rfl, ?_⟩
    rw [kids_out h, List.mem_filter]
    exact ⟨hr, by simp [hne]⟩
  · rw [mem_ahead]
    simp [hx]
def parAll (R : List RN) (ks : List Nat) (b : Int) : List RN := ks.foldl (fun R k => setPar R k b) R
theorem parAll_len (b : Int) : ∀ (ks : List Nat) (R : List RN), (parAll R ks b).length = R.length
  | [], R => rfl
  | k :: r, R => by
    show (parAll (setPar R k b) r b).length = _
    rw [parAll_len b r, modR_len]
theorem parAll_get (b : Int) : ∀ (ks : List Nat) (R : List RN) (j : Nat) (h : j < (parAll R ks b).length), (parAll R ks b)[j] = if j ∈ ks then (R[j]'(by rwa [parAll_len] at h)).wPar b else R[j]'(by rwa [parAll_len] at h)
  | [], R, j, h => by simp [parAll]
  | k :: r, R, j, h => by
    have h2 : j < (parAll (setPar R k b) r b).length := h
    show (parAll (setPar R k b) r b)[j] = _
    rw [parAll_get b r (setPar R k b) j h2, modR_get]
    by_cases e : k = j
    · subst e
      rw [if_pos rfl, if_pos (by simp : k ∈ k :: r)]
      split <;> rfl
    · have e2 : ¬ j = k := fun x => e x.symm
      rw [if_neg e]
      by_cases e3 : j ∈ r
      · rw [if_pos e3, if_pos (by simp [e3])]
      · rw [if_neg e3, if_neg (by simp [e2, e3])]
theorem parAll_take (b : Int) (R : List RN) (ks : List Nat) (k : Nat) (h : k < ks.length) : parAll R (ks.take (k + 1)) b = setPar (parAll R (ks.take k) b) ks[k] b := by
  unfold parAll
  rw [List.take_succ_eq_append_getElem h, List.foldl_append]
  rfl
theorem move_raw {T : TR} (h : WF T) {a b : Nat} (ha : a < T.length) (hb : b < T.length) (hu : ¬ Up T a b) : setKids (parAll (setKids (rawOf T) a []) (kidsAt T a) (b : Int)) b (kidsAt T b ++ kidsAt T a) = rawOf (moveL T a b) := by
  have hne : ¬ a = b := fun e => hu (e ▸ .refl)
  have hM := h.move ha hb hu
  refine raw_ext (by rw [modR_len, parAll_len, modR_len, raw_len, move_len]) fun i hi => ?_
  rw [modR_get, parAll_get, modR_get, raw_get]
  have hin : ∀ k, k ∈ kidsAt T a → parentN (moveL T a b) k = some b := fun k hk => hM.parent (by rw [kids_move T a b ha hb, if_pos rfl]; simp [hk])
  have hout : ∀ k, k ∉ kidsAt T a → parentN (moveL T a b) k = parentN T k := fun k hk => parent_congr h hM fun j => by
    rw [kids_move T a b ha hb]
    by_cases e1 : j = b
    · subst e1
      rw [if_pos rfl]
      simp [hk]
    · rw [if_neg e1]
      by_cases e2 : j = a
      · subst e2
        rw [if_pos rfl]
        simp [hk]
      · rw [if_neg e2]
  unfold rawAt
  rw [node_move, kids_move T a b ha hb]
  have hfin : ∀ (q : Prop) [Decidable q] (x : Int), (if b = i then RN.wKids (kidsAt T b ++ kidsAt T a) (if q then RN.wPar (b : Int) (if a = i then RN.wKids [] ⟨nodeAt T i, x, kidsAt T i⟩ else ⟨nodeAt T i, x, kidsAt T i⟩) else if a = i then RN.wKids [] ⟨nodeAt T i, x, kidsAt T i⟩ else ⟨nodeAt T i, x, kidsAt T i⟩) else if q then RN.wPar (b : Int) (if a = i then RN.wKids [] ⟨nodeAt T i, x, kidsAt T i⟩ else ⟨nodeAt T i, x, kidsAt T i⟩) else if a = i then RN.wKids [] ⟨nodeAt T i, x, kidsAt T i⟩ else ⟨nodeAt T i, x, kidsAt T i⟩) = ⟨nodeAt T i, if q then (b : Int) else x, if i = b then kidsAt T b ++ kidsAt T a else if i = a then [] else kidsAt T i⟩ := by
    intro q _ x
    by_cases e1 : b = i
    · by_cases e2 : a = i
      · exact absurd (e2.trans e1.symm) hne
      · by_cases e3 : q <;> simp [RN.wPar, RN.wKids, e1, e2, e3]
    · have e1' : ¬ i = b := fun e => e1 e.symm
      by_cases e2 : a = i
      · by_cases e3 : q <;> simp [RN.wPar, RN.wKids, e1, e1', e2, e3]
      · have e2' : ¬ i = a := fun e => e2 e.symm
        by_cases e3 : q <;> simp [RN.wPar, RN.wKids, e1, e1', e2, e2', e3]
  rw [hfin]
  congr 1
  by_cases em : i ∈ kidsAt T a
  · rw [if_pos em, hin i em]; rfl
  · rw [if_neg em, hout i em]
theorem push_raw {T : TR} (h : WF T) (d : ND) : rawOf T ++ [⟨d, -1, []⟩] = rawOf (pushL T d) := by
  refine raw_ext (by simp [raw_len, pushL]) fun i hi => ?_
  have hpar : parentN (pushL T d) i = parentN T i := parent_congr h (h.push d) fun j => by rw [kids_push]
  have hi2 : i < T.length + 1 := by simpa [raw_len] using hi
  by_cases e : i < T.length
  · rw [List.getElem_append_left (by rw [raw_len]; exact e), raw_get]
    unfold rawAt
    rw [hpar, kids_push]
    congr 1
    unfold nodeAt pushL
    rw [List.getElem?_append_left e]
  · have e2 : i = T.length := by omega
    subst e2
    rw [List.getElem_append_right (by rw [raw_len]; omega)]
    unfold rawAt
    have hn : parentN T T.length = none := no_parent fun j hm => by have := (h.inb j _ hm).2; omega
    rw [hpar, kids_push, hn, kidsAt_out (Nat.le_refl _)]
    simp [raw_len, nodeAt, pushL, parZ]
theorem add_raw {T : TR} (h : WF T) {n : Nat} (hn : n < T.length) (s : List UInt8) : setText (rawOf T) n ((nodeAt T n).text ++ s) = rawOf (addL T n s) := by
  refine raw_ext (by simp [modR_len, raw_len, addL]) fun i hi => ?_
  have hpar : parentN (addL T n s) i = parentN T i := parent_congr h (h.add n s) fun j => by rw [kids_add]
  rw [modR_get, raw_get]
  unfold rawAt
  rw [hpar, kids_add]
  by_cases e : n = i
  · subst e
    rw [if_pos rfl]
    have : nodeAt (addL T n s) n = { nodeAt T n with text := (nodeAt T n).text ++ s } := by
      unfold addL
      generalize hx : ({ nodeAt T n with text := (nodeAt T n).text ++ s } : ND) = x
      unfold nodeAt
      rw [List.getElem?_set_self hn]
      rfl
    rw [this]
    rfl
  · rw [if_neg e]
    have : nodeAt (addL T n s) i = nodeAt T i := by
      unfold addL
      generalize ({ nodeAt T n with text := (nodeAt T n).text ++ s } : ND) = x
      unfold nodeAt
      rw [List.getElem?_set_ne e]
    rw [this]
theorem new_raw : rawOf newL = [⟨{}, -1, []⟩] := by
  have h : parentN newL 0 = none := WF.new.root
  unfold rawOf rawAt
  simp [newL]
  refine ⟨rfl, ?_, rfl⟩
  rw [show parentN [(({} : ND), ([] : List Nat))] 0 = none from h]
  rfl
theorem WF.kids_len {T : TR} (h : WF T) (i : Nat) : (kidsAt T i).length ≤ T.length := by
  rw [← sumL_mem T.length (kidsAt T i) (h.nodup i) (fun x hx => (h.inb i x hx).2)]
  have : ∀ l : List Nat, sumL l (fun m => ind ((kidsAt T i).contains m)) ≤ l.length := by
    intro l
    induction l with
    | nil => simp [sumL]
    | cons x r ih =>
      rw [sumL_cons, List.length_cons]
      have : ind ((kidsAt T i).contains x) ≤ 1 := by unfold ind; split <;> omega
      omega
  simpa using this (List.range T.length)
end Go.Proofs.Ytjgklemhlmgheaa
