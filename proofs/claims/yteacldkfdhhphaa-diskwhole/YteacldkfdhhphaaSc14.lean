/- A script's acts, one by one, on a disk of the program's. -/
import Derived.Test.YteacldkfdhhphaaLn14
import Derived.Laws.BytesArg
set_option linter.unusedVariables false
set_option linter.unusedSimpArgs false
set_option maxRecDepth 40000
namespace Go.Proofs.Yteacldkfdhhphaa
open Go.RowKit

/-- What is there of one act of a script, in every later world. -/
theorem IsS.at_ {w : World} {a : Option Addr} {n c : Nat} {l : List AV} (h : IsS w (.slice a n c) l) (i : Nat) (hi : i < l.length) :
    ∃ b o, a = some ⟨b, o, none⟩ ∧ n = l.length ∧ (∀ x, Below w.heap.size w x → x.cell? ⟨b, o + i * 5, none⟩ = some (.int .i64 l[i].kind) ∧ x.cell? ⟨b, o + i * 5 + 1, none⟩ = some (.int .i64 l[i].n) ∧ x.cell? ⟨b, o + i * 5 + 2, none⟩ = some l[i].bv ∧ x.cell? ⟨b, o + i * 5 + 3, none⟩ = some (.bool l[i].short) ∧ x.cell? ⟨b, o + i * 5 + 4, none⟩ = some l[i].kv) ∧ IsY w l[i].bv l[i].b ∧ IsF w l[i].kv l[i].keep := by
  obtain ⟨h1, h2⟩ := h
  have hm := h2 _ (List.getElem_mem hi)
  rcases h1 with ⟨rfl, _⟩ | ⟨b, o, cap, e, hc⟩
  · simp at hi
  · injection e with e1 e2 e3
    subst e1 e2 e3
    obtain ⟨c0, c1, c2, c3, c4⟩ := hc i hi
    exact ⟨b, o, rfl, rfl, fun x hb => ⟨(hb.cell (cell_lt c0)).trans c0, (hb.cell (cell_lt c1)).trans c1, (hb.cell (cell_lt c2)).trans c2, (hb.cell (cell_lt c3)).trans c3, (hb.cell (cell_lt c4)).trans c4⟩, hm⟩
theorem IsS.form {w : World} {v : Value} {l : List AV} (h : IsS w v l) : ∃ a c, v = .slice a l.length c := by
  rcases h.1 with ⟨rfl, a, c, rfl⟩ | ⟨b, o, cap, rfl, _⟩
  · exact ⟨_, _, rfl⟩
  · exact ⟨_, _, rfl⟩
theorem isF_blk {w : World} {v : Value} {l : List Bool} (h : IsF w v l) (hl : l ≠ []) : ∀ k, v.ownBlock = some k → k < w.heap.size := by
  rcases h with ⟨h, _⟩ | ⟨b, o, cap, rfl, hc⟩
  · exact absurd h hl
  · intro k hk
    cases hk
    exact cell_lt (hc 0 (List.length_pos_iff.2 hl))
theorem live_play {w x : World} {v : Value} {d : DM} {a : AV} (hF : Fit d) (h : Liv w v d x) (hY : IsY w a.bv a.b) (hK : IsF w a.kv a.keep) (ho : OkA a) (hs : smallA a = true) :
    Calls Try.prog 13 #[v, acA a] x fun e y => e = .returned (.int .i64 (modelD d a).2) ∧ Hid (Liv w v (modelD d a).1 y) := by
  obtain ⟨A, h1, h2⟩ := h.k
  unfold smallA at hs
  simp only [Bool.and_eq_true, decide_eq_true_eq] at hs
  exact (play_any A v d a x h1 hF ⟨hY.below h.b, hK.below h.b, fun hne k hk ha => by have := isF_blk hK hne k hk; have := h2 k ha; omega, ho.n, hs.1, hs.2⟩).mono fun e y hh => ⟨hh.1, hide (Liv.kr h2 h.b hh.2)⟩
theorem live_small {w x : World} {a : AV} (hb : Below w.heap.size w x) (hY : IsY w a.bv a.b) (hK : IsF w a.kv a.keep) :
    Calls Try.prog 12 #[acA a] x fun e y => e = .returned (.bool (smallA a)) ∧ Hid (Below x.heap.size x y) :=
  (small_any a x (hY.below hb) (hK.below hb)).mono fun e y hh => ⟨hh.1, hide hh.2⟩
/-- A disk of so many sectors, so many acts on. -/
structure Run (s i : Nat) (d : DM) : Prop where
  fit : Fit d
  s : d.safe.length = s
  l : d.l.length ≤ 4 * i
theorem Run.next {s i : Nat} {d : DM} (h : Run s i d) : Run s (i + 1) d := ⟨h.fit, h.s, by have := h.l; omega⟩
theorem Run.act {s i : Nat} {d : DM} (h : Run s i d) (hi : i ≤ 1000) (a : AV) (ho : OkA a) : Run s (i + 1) (modelD d a).1 := by
  obtain ⟨e1, e2⟩ := model_size d a
  have hl := h.l
  exact ⟨h.fit.model (by omega) a ho.n.2, e1.trans h.s, by omega⟩
theorem keep_model {n : Nat} {b : Bs} {d : DM} (h : KeepB n b d) (a : AV) (ha : ¬ (a.kind = 1 ∧ a.n = n)) : KeepB n b (modelD d a).1 := by
  unfold modelD
  split
  · exact keep_write h _ (fun e => ha ⟨by assumption, e⟩) _
  · split
    · exact keep_flush h
    · split
      · exact keep_arm h _
      · split
        · exact keep_crash h _
        · split
          · exact h
          · exact h
theorem conv_newY {B : Nat} {w : World} {v : Value} {l : Bs} (h : NewY B w v l) : (convert 34 9 v).run Try.prog w = .ok (.string ⟨l.toArray⟩) w := by
  rcases h with ⟨rfl, rfl⟩ | ⟨b, o, cap, rfl, _, _, _, hc, _⟩
  · exact run_convert_bytes_nil _ 34 5 Try.underlying34 Try.underlying5 0 0 9 Try.underlying9
  · exact conv_bytes w b o cap l hc
end Go.Proofs.Yteacldkfdhhphaa
