import Derived.Test.YteccmjngdibeoaaGreatDoorKp01
import Derived.Test.YteccmjngdibeoaaGreatDoorKp30
import Derived.Test.YteccmjngdibeoaaGreatDoorKp33
set_option linter.unusedVariables false
set_option linter.unusedSimpArgs false
namespace Go.Proofs.YteccmjngdibeoaaGreatDoor
open S5 (ND TR WF kidsAt nodeAt parentN appendL beforeL moveL addL withinL newL outL setK aheadL pushL)
open S4 (Tok nextR)
theorem op_text (b : BS) (s : Bs) : (textB b s).op = b.op := by
  have hp : ∀ (p : Nat) (x : Option Nat) (n : Option Nat) (c : BS), (putB c p x n).op = c.op := by intro p x n c; cases n <;> rfl
  have hg : ∀ d, (growB b d).1.op = b.op := by intro d; unfold growB; split; rfl; split <;> rfl
  unfold textB
  simp only []
  split
  · split
    · rfl
    · rw [hp, hg]
  · rw [hp, hg]
theorem ru_text (b : BS) (s : Bs) : (textB b s).rules = b.rules ∧ (textB b s).fost = b.fost := by
  have hp : ∀ (p : Nat) (x : Option Nat) (n : Option Nat) (c : BS), (putB c p x n).rules = c.rules ∧ (putB c p x n).fost = c.fost := by intro p x n c; cases n <;> exact ⟨rfl, rfl⟩
  have hg : ∀ d, (growB b d).1.rules = b.rules ∧ (growB b d).1.fost = b.fost := by intro d; unfold growB; split; exact ⟨rfl, rfl⟩; split <;> exact ⟨rfl, rfl⟩
  unfold textB
  simp only []
  split
  · split
    · exact ⟨rfl, rfl⟩
    · rw [(hp _ _ _ _).1, (hp _ _ _ _).2]; exact hg _
  · rw [(hp _ _ _ _).1, (hp _ _ _ _).2]; exact hg _
theorem op_comment (b : BS) (s : Bs) : (commentB b s).op = b.op := by
  have hp : ∀ (p : Nat) (x : Option Nat) (n : Option Nat) (c : BS), (putB c p x n).op = c.op := by intro p x n c; cases n <;> rfl
  have hg : ∀ d, (growB b d).1.op = b.op := by intro d; unfold growB; split; rfl; split <;> rfl
  unfold commentB
  simp only []
  rw [hp, hg]
theorem op_single {b : BS} (i : Inv b) (t : Tok) (he : (singleB b t).e = 0) : (singleB b t).op = b.op := by
  unfold singleB tagB at he ⊢
  cases hi : insertB b 0 t.name t.attrs with
  | mk b' n =>
  rw [hi] at he
  cases n with
  | none => exact absurd he (insert_none hi)
  | some n =>
    obtain ⟨_, _, e2, _⟩ := insert_some hi
    have := i.o.pos
    show (popB b').op = b.op
    unfold popB
    rw [if_pos (by rw [e2]; simp; omega)]
    show b'.op.dropLast = b.op
    rw [e2, List.dropLast_concat]
theorem SI.colCur {b : BS} (h : SI b) (hr : b.rules = 3) : isO (curB b) [colgS] = true ∧ 1 < b.op.length := by
  obtain ⟨k, o, k1, k2, k3, k4⟩ := h.top hr (by decide)
  have hlt := (List.getElem?_eq_some_iff.1 k1).1
  refine ⟨?_, by omega⟩
  rcases h.col with c | ⟨c, _⟩
  · have := c o (List.mem_of_getElem? k1)
    rw [rules_is (L := [colgS]) k3 (by decide)] at this
    cases this
  · exact c
theorem SI.notCol {b : BS} (h : SI b) (hc : tabO (curB b) = false) : b.rules ≠ 3 := by
  intro hr
  rw [← isO_tab, isO_sub (c := tabA) (by decide) (h.colCur hr).1] at hc
  cases hc
theorem SQ.group {b : BS} {t : Tok} (h : SI b) (hr : b.rules = 3) (ht : TokOk t) : SQ b (groupB b t) := by
  unfold groupB
  have hb : ∃ c, (if (t.kind == 1 && !(t.text.takeWhile S6.isSpace).isEmpty) = true then textB b (t.text.takeWhile S6.isSpace) else b) = c ∧ (c.e = 0 → SI c) ∧ c.mode = b.mode ∧ c.op = b.op ∧ c.rules = b.rules ∧ c.fost = b.fost := by
    refine ⟨_, rfl, ?_, ?_, ?_, ?_, ?_⟩
    · intro he
      split at he
      · rename_i q
        rw [if_pos q]
        simp only [Bool.and_eq_true, Bool.not_eq_true'] at q
        refine h.ofOp (G.text b ?_) (op_text b _) he
        intro e
        rw [e] at q
        exact absurd q.2 (by decide)
      · rename_i q
        rw [if_neg q]
        exact h
    · split
      · exact mo_text b _
      · rfl
    · split
      · exact op_text b _
      · rfl
    · split
      · exact (ru_text b _).1
      · rfl
    · split
      · exact (ru_text b _).2
      · rfl
  have hu : ∃ u, (if (t.kind == 1) = true then { t with text := t.text.dropWhile S6.isSpace } else t) = u ∧ u.kind = t.kind ∧ u.name = t.name := by
    refine ⟨_, rfl, ?_, ?_⟩ <;> split <;> rfl
  show SQ b (if ((if (t.kind == 1) = true then { t with text := t.text.dropWhile S6.isSpace } else t).kind == 1 && _) = true then _ else _)
  obtain ⟨c, e1, c1, c2, c3, c4, c5⟩ := hb
  obtain ⟨u, e2, u1, u2⟩ := hu
  rw [e1, e2]
  obtain ⟨cc, cl⟩ := h.colCur hr
  have cur : curB c = curB b := by unfold curB; rw [c3]
  refine .ite (fun _ => SQ.no c1 (MQ.of c2)) fun q => ?_
  have hut : TokOk u := by
    refine ⟨fun k e => q ?_, fun k => by rw [u2]; exact ht.2 (u1.symm.trans k)⟩
    rw [k, e]
    rfl
  refine .ite (fun _ => SQ.no (fun he => (c1 ((G.comment c _) he).1).ofOp (G.comment c _) (op_comment c _) he) (MQ.of ((mo_comment c _).trans c2))) fun _ => ?_
  refine .ite (fun s => ?_) fun _ => ?_
  · have e : u.name = [99, 111, 108] := (among_one _ _).1 (start_name s)
    have g : G c (singleB c u) := by
      have g := G.single (b := c) (sp := 0) (nm := u.name) (aa := u.attrs) (by rw [e]; decide) fun i => Or.inr ⟨?_, ?_⟩
      · unfold singleB tagB
        cases hi : insertB c 0 u.name u.attrs with
        | mk b' n =>
        rw [hi] at g
        cases n <;> exact g
      · exact c5.trans h.fo
      · rw [cur]
        intro _
        obtain ⟨k1, k2⟩ := isO_name cc
        show fitsL u.name (inName (curB b).sp (curB b).nm) = true
        rw [inName, if_pos k1, (among_one _ _).1 k2, e]
        decide
    exact SQ.no (fun he => (c1 (g he).1).ofOp g (op_single (c1 (g he).1).inv u he) he) (MQ.of ((mo_single c u).trans c2))
  refine .ite (fun _ => SQ.no c1 (MQ.of c2)) fun _ => ?_
  refine .ite (fun _ => ?_) fun _ => SQ.no c1 (MQ.of c2)
  have hpop : popB c = { c with op := c.op.take (c.op.length - 1) } := by
    unfold popB
    rw [if_pos (by rw [c3]; exact cl), List.dropLast_eq_take]
  refine SQ.opt (b' := { popB c with rules := 1 }) (fun he => ?_) ((mo_pop c).trans c2) hut _
  have he : (popB c).e = 0 := he
  rw [hpop] at he
  have si := c1 he
  have hl : 1 < c.op.length := by rw [c3]; exact cl
  have hk : c.op[c.op.length - 1]? = some (curB c) := cur_at (by omega)
  rw [hpop]
  exact si.cut (by omega) hk (rules_of (L := [colgS]) (r := 3) (by decide) (by rw [cur]; exact cc)) (by decide) c.mr fun x hx => hx
theorem SQ.step {b : BS} {t : Tok} (h : SI b) (ht : TokOk t) : SQ b (stepB b t) := by
  unfold stepB
  refine .ite (fun q => SQ.table h (Or.inl q) ht) fun n1 => .ite (fun q => SQ.caption h q ht) fun n2 => .ite (fun q => SQ.group h q ht) fun n3 => .ite (fun q => SQ.rows h q ht) fun n4 => .ite (fun q => SQ.row h q ht) fun n5 => .ite (fun q => SQ.cell h q ht) fun n6 => ?_
  refine SQ.no (fun he => h.ofGT n3 (GT.body b ht fun _ _ => body_none h ?_) he) (MQ.body b t)
  have hu := h.ru
  unfold rulesF at hu
  cases hg : (sk b.op).getLast? with
  | none => rw [hg] at hu; exact hu
  | some y =>
    rw [hg] at hu
    cases hq : rulesOf y with
    | none =>
      have hu : b.rules = 0 := by simpa [hq] using hu
      exact hu
    | some q =>
      have hu : b.rules = q := by simpa [hq] using hu
      exfalso
      rcases (rules_some hq).2 with ⟨e, _⟩ | ⟨e, _⟩ | ⟨e, _⟩ | ⟨e, _⟩ | ⟨e, _⟩ | ⟨e, _⟩ <;> omega
def NR (b : BS) : Prop := b.mode ≠ 1 ∧ b.mode ≠ 2
def MI (b : BS) : Prop := (b.mode = 1 ∨ b.mode = 2) → tabO (curB b) = false
theorem NR.mi {b : BS} (h : NR b) : MI b := fun q => by
  rcases q with q | q
  · exact absurd q h.1
  · exact absurd q h.2
theorem SI.rulesK : ∀ (k : Nat) (b : BS) (t : Tok), SI b → NR b → TokOk t → (rulesK k b t).e = 0 → SI (rulesK k b t) ∧ MI (rulesK k b t)
  | 0, b, t, h, hn, _, _ => ⟨h, hn.mi⟩
  | k + 1, b, t, h, hn, ht, he => by
    have st := SQ.step h ht
    rw [Go.Proofs.YteccmjngdibeoaaGreatDoor.rulesK] at he ⊢
    cases hx : stepB b t with
    | mk b' o =>
    rw [hx] at st he
    cases o with
    | none =>
      obtain ⟨s1, _, s3⟩ := st he
      refine ⟨s1, ?_⟩
      rcases s3 with q | ⟨_, q⟩
      · have q : b'.mode = b.mode := q
        exact NR.mi ⟨by rw [q]; exact hn.1, by rw [q]; exact hn.2⟩
      · exact fun _ => q
    | some t' =>
      simp only [] at he ⊢
      by_cases h0 : b'.e = 0
      · rw [if_neg (fun q => q h0)] at he ⊢
        obtain ⟨s1, s2, s3⟩ := st h0
        rcases s3 with q | ⟨q, _⟩
        · have q : b'.mode = b.mode := q
          exact SI.rulesK k b' t' s1 ⟨by rw [q]; exact hn.1, by rw [q]; exact hn.2⟩ (s2 t' rfl) he
        · cases q
      · rw [if_pos h0] at he
        exact absurd he h0
theorem SI.rulesB {b : BS} {t : Tok} (h : SI b) (hn : NR b) (ht : TokOk t) (he : (rulesB b t).e = 0) : SI (rulesB b t) ∧ MI (rulesB b t) := SI.rulesK _ b t h hn ht he
theorem G.breakK : ∀ (k : Nat) (b : BS), G b (breakK k b)
  | 0, b => G.refl b
  | k + 1, b => by
    rw [Go.Proofs.YteccmjngdibeoaaGreatDoor.breakK]
    split
    · rename_i c
      refine (G.pop b fun _ _ => ?_).trans (G.breakK k _)
      unfold tabO
      simp [c.1]
    · exact G.refl b
theorem SI.foreignK {b : BS} {t : Tok} (h : SI b) (h3 : b.rules ≠ 3) (hn : NR b) (ht : TokOk t) : ∀ k, (∀ i o, k ≤ i → b.op[i]? = some o → o.sp ≠ 0) → (foreignK b t k).e = 0 → SI (foreignK b t k) ∧ MI (foreignK b t k)
  | 0, _, _ => ⟨h, hn.mi⟩
  | k + 1, hs, he => by
    rw [Go.Proofs.YteccmjngdibeoaaGreatDoor.foreignK] at he ⊢
    cases ho : b.op[k]? with
    | none => exact ⟨h, hn.mi⟩
    | some o =>
      rw [ho] at he
      simp only [] at he ⊢
      split at he
      · rename_i c
        rw [if_pos c]
        exact h.rulesB hn ht he
      · rename_i c
        rw [if_neg c]
        have hs' : ∀ i x, k ≤ i → b.op[i]? = some x → x.sp ≠ 0 := by
          intro i x hi hx
          rcases Nat.eq_or_lt_of_le hi with q | q
          · subst q
            rw [ho] at hx
            rw [← Option.some.inj hx]
            exact c
          · exact hs i x q hx
        split at he
        · rename_i c2
          rw [if_pos c2]
          refine ⟨h.ofG h3 (G.cut b k fun i => ⟨?_, fun j x hj hx => ?_⟩) he, NR.mi (b := { b with op := b.op.take k }) hn⟩
          · cases k with
            | zero =>
              rw [i.o.hd] at ho
              rw [← Option.some.inj ho] at c
              exact absurd rfl c
            | succ k => omega
          · unfold tabO
            simp [hs' j x hj hx]
        · rename_i c2
          rw [if_neg c2]
          exact SI.foreignK h h3 hn ht k hs' he
theorem SI.foreignB {b : BS} {t : Tok} (h : SI b) (h0 : b.e = 0) (hc : (curB b).sp ≠ 0) (hn : NR b) (ht : TokOk t) (he : (foreignB b t).e = 0) : SI (foreignB b t) ∧ MI (foreignB b t) := by
  have h3 : b.rules ≠ 3 := h.notCol (by unfold tabO; simp [hc])
  have nr : ∀ {b' : BS}, b'.mode = b.mode → MI b' := fun q => NR.mi ⟨by rw [q]; exact hn.1, by rw [q]; exact hn.2⟩
  unfold Go.Proofs.YteccmjngdibeoaaGreatDoor.foreignB at he ⊢
  split at he
  · rename_i c1
    rw [if_pos c1]
    exact ⟨h.ofG h3 (G.text b (ht.1 c1)) he, nr (mo_text b _)⟩
  rename_i c1
  rw [if_neg c1]
  split at he
  · rename_i c2
    rw [if_pos c2]
    exact ⟨h.ofG h3 (G.comment b _) he, nr (mo_comment b _)⟩
  rename_i c2
  rw [if_neg c2]
  split at he
  · rename_i c3
    rw [if_pos c3]
    have hb : (Go.Proofs.YteccmjngdibeoaaGreatDoor.breakK b.op.length b).e = b.e := by
      have : ∀ k b, (Go.Proofs.YteccmjngdibeoaaGreatDoor.breakK k b).e = b.e := by
        intro k
        induction k with
        | zero => intro b; rfl
        | succ k ih =>
          intro b
          rw [Go.Proofs.YteccmjngdibeoaaGreatDoor.breakK]
          split
          · rw [ih]; unfold popB; split <;> rfl
          · rfl
      exact this _ _
    have q := mo_breakK b.op.length b
    exact (h.ofG h3 (G.breakK _ b) (hb.trans h0)).rulesB ⟨by rw [q]; exact hn.1, by rw [q]; exact hn.2⟩ ht he
  rename_i c3
  rw [if_neg c3]
  split at he
  · rename_i c4
    rw [if_pos c4]
    exact ⟨h.ofG h3 (G.strangeB b (ht.2 c4) hc) he, nr (mo_strange b t _)⟩
  rename_i c4
  rw [if_neg c4]
  split at he
  · rename_i c5
    rw [if_pos c5]
    refine SI.foreignK h h3 hn ht _ (fun i o hi ho => ?_) he
    rw [List.getElem?_eq_none hi] at ho
    cases ho
  · rename_i c5
    rw [if_neg c5]
    exact ⟨h, hn.mi⟩
theorem SI.takeT {b : BS} {t : Tok} (h : SI b) (h0 : b.e = 0) (hm : MI b) (ht : TokOk t) (he : (takeT b t).e = 0) : SI (takeT b t) ∧ MI (takeT b t) := by
  unfold Go.Proofs.YteccmjngdibeoaaGreatDoor.takeT at he ⊢
  split at he
  · rename_i c1
    rw [if_pos c1]
    exact ⟨h, hm⟩
  rename_i c1
  rw [if_neg c1]
  split at he
  · rename_i c2
    rw [if_pos c2]
    have hc : tabO (curB b) = false := hm (by omega)
    split at he
    · rename_i c3
      rw [if_pos c3]
      refine ⟨h.ofOp (G.text b (ht.1 c3)) (op_text b _) he, fun _ => ?_⟩
      unfold curB at hc ⊢
      rw [op_text]
      exact hc
    · rename_i c3
      rw [if_neg c3]
      have s1 := h.ofG (h.notCol hc) (G.pop b fun _ _ => hc) he
      refine ⟨⟨⟨s1.inv.t, s1.inv.o, s1.inv.m⟩, s1.fo, s1.ru, s1.col⟩, fun q => ?_⟩
      rcases q with q | q
      · exact absurd (show (0 : Int) = 1 from q) (by decide)
      · exact absurd (show (0 : Int) = 2 from q) (by decide)
  rename_i c2
  rw [if_neg c2]
  have hn : NR b := ⟨fun q => c2 (Or.inr q), fun q => c2 (Or.inl q)⟩
  split at he
  · rename_i c3
    rw [if_pos c3]
    exact h.foreignB h0 c3.1 hn ht he
  · rename_i c3
    rw [if_neg c3]
    exact h.rulesB hn ht he
theorem SI.takeB {b : BS} {t : Tok} (h : SI b) (h0 : b.e = 0) (hm : MI b) (ht : TokOk t) (he : (takeB b t).e = 0) : SI (takeB b t) ∧ MI (takeB b t) := by
  have h' : SI { b with skip := false } := ⟨⟨h.inv.t, h.inv.o, h.inv.m⟩, h.fo, h.ru, h.col⟩
  have hm' : MI { b with skip := false } := hm
  unfold Go.Proofs.YteccmjngdibeoaaGreatDoor.takeB at he ⊢
  simp only [] at he ⊢
  split at he
  · rename_i r e
    split at he
    · rename_i c1
      split at he
      · rename_i c2
        rw [if_pos c1, if_pos c2]
        exact ⟨h', hm'⟩
      · rename_i c2
        rw [if_pos c1, if_neg c2]
        exact h'.takeT h0 hm' ⟨fun _ => c2, ht.2⟩ he
    · rename_i c1
      rw [if_neg c1]
      exact h'.takeT h0 hm' ht he
  · exact h'.takeT h0 hm' ht he
theorem tok_next (mode : Int) (name : Bs) (foreign : Bool) (r : Bs) : TokOk (nextR mode name foreign r).1 := by
  by_cases h : r = []
  · subst h
    unfold nextR
    rw [if_pos rfl]
    exact ⟨(fun e => by cases e), (fun e => by cases e)⟩
  · have g := S4.next_good mode name foreign r h
    refine ⟨g.text, fun k e => ?_⟩
    obtain ⟨c, n, q, _⟩ := g.name k
    rw [q] at e
    cases e
theorem SI.start : SI {} := by
  refine ⟨⟨TI.new, ⟨rfl, ?_, ?_⟩, ?_⟩, rfl, rfl, Or.inl ?_⟩
  · intro i o ho
    simp at ho
  · intro i a c h1 h2
    simp at h2
  · intro m hm
    cases hm
  · intro o ho
    obtain rfl : o = ⟨0, 0, [104, 116, 109, 108]⟩ := by simpa using ho
    decide
end Go.Proofs.YteccmjngdibeoaaGreatDoor
set_option linter.unusedVariables false
set_option linter.unusedSimpArgs false
namespace Go.Proofs.YteccmjngdibeoaaGreatDoor
open S5 (ND TR kidsAt nodeAt)
structure VF (F : FL) : Prop where
  pos : 0 < F.length
  root : depF F 0 = 0
  step : ∀ i, i + 1 < F.length → 0 < depF F (i + 1) ∧ depF F (i + 1) ≤ depF F i + 1
end Go.Proofs.YteccmjngdibeoaaGreatDoor
