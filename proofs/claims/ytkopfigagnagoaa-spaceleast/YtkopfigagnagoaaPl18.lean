/- What the statements' play does to a space of the program's; pick. -/
import Derived.Test.YtkopfigagnagoaaLa18
set_option linter.unusedVariables false
set_option linter.unusedSimpArgs false
set_option maxRecDepth 40000
namespace Go.Proofs.Ytkopfigagnagoaa
open Go.RowKit

/-- An act, and where its list lies. -/
structure AV where
  kind : Int
  n : Int
  l : List Int
  lv : Value
abbrev acC (a : AV) : Array Value := #[.int .i64 a.kind, .int .i64 a.n, a.lv]
abbrev acA (a : AV) : Value := .agg (acC a)
abbrev acW (w : World) (a : AV) : World := w.alloc (.cells (acC a) 33)
/-- What an act does to a space, and tells. -/
def modelS (l : SL) (a : AV) : SL × Int × Int := if a.kind = 1 then ((takeS l).1, ((takeS l).2.1 : Int), (takeS l).2.2) else if a.kind = 2 then ((giveS l a.n).1, 0, (giveS l a.n).2) else if a.kind = 3 then ((onlyS l a.l).1, 0, (onlyS l a.l).2) else (l, 0, 0)
theorem model_len (l : SL) (a : AV) : (modelS l a).1.length = l.length := by
  unfold modelS
  split
  · exact take_len l
  · split
    · exact give_len l _
    · split
      · exact onlyS_len l _
      · rfl
theorem ac_box (w : World) (a : AV) {x : World} (h : Below (acW w a).heap.size (acW w a) x) : x.heap[w.heap.size]? = some (.cells (acC a) 33 (0, 0)) ∧ Below w.heap.size w x := by
  have hb := below_alloc w (.cells (acC a) 33)
  exact ⟨(h.block w.heap.size (by simp)).trans (alloc_newS w _), hb.trans (h.mono hb.size)⟩
theorem KR.of {A : Nat → Prop} {w w' : World} {v : Value} {d : SL} (h : IsK A w v d) (hb : Below w.heap.size w w') : KR IsK A w v d w' := ⟨A, h.below hb, Grew.refl _ _, ButA.of hb⟩
theorem KR.after {A : Nat → Prop} {w w1 w' : World} {v : Value} {d : SL} (hb : Below w.heap.size w w1) (h : KR IsK A w1 v d w') : KR IsK A w v d w' := by
  obtain ⟨A', h1, h2, h3⟩ := h
  exact ⟨A', h1, fun k hk => (h2 k hk).elim .inl (fun h => .inr (Nat.le_trans hb.size h)), (ButA.of hb).trans h3 fun j _ h => h⟩
/-- An act that may be asked about, beside a space. -/
structure ActK (A : Nat → Prop) (w : World) (a : AV) : Prop where
  z : IsZ w a.lv a.l
  o : a.l ≠ [] → Off A a.lv
  b : a.l.length ≤ 9223372036854775807
set_option maxHeartbeats 4000000 in
theorem play_any (A : Nat → Prop) (v : Value) (l : SL) (a : AV) (w : World) (hK : IsK A w v l) (hl : l.length ≤ 4096) (hA : ActK A w a) :
    Calls Try.prog 10 #[v, acA a] w fun e w' => e = .returned (.tuple #[.int .i64 (modelS l a).2.1, .int .i64 (modelS l a).2.2]) ∧ KR IsK A w v (modelS l a).1 w' := by
  have hb0 := ac_box w a (Below.refl _ (acW w a))
  have hbw := hb0.2
  have hK1 := hK.below hbw
  obtain ⟨pa, rfl⟩ := hK.ptr
  obtain ⟨la, lc, hlv⟩ := hA.z.form
  have HT := hide (ptake_any A _ l (acW w a) hK1 hl)
  have HG := hide (pgive_any A _ l a.n (acW w a) hK1 hl)
  have HO := hide (ponly_any A _ l a.lv a.l (acW w a) hK1 hl (hA.z.below hbw) hA.o hA.b)
  have HR : Hid (∀ m x, KR IsK A (acW w a) (.pointer (some pa)) m x → KR IsK A w (.pointer (some pa)) m x) := hide (fun m x h => KR.after hbw h)
  have HS : Hid (KR IsK A w (.pointer (some pa)) l (acW w a)) := hide (KR.of hK hbw)
  clear hb0 hbw hK1 hK hA
  obtain ⟨kind, n, al, lv⟩ := a
  simp only [] at *
  subst hlv
  unfold modelS
  simp only []
  by_cases h1 : kind = 1
  · subst h1
    rw [if_pos rfl]
    obtain ⟨m, hm⟩ : ∃ m, takeS l = m := ⟨_, rfl⟩
    rw [hm] at HT ⊢
    clear hm HG HO HS
    generalize al.length = k at *
    go_enter Try.func10, Try.ntmps10
    go_wp2_with fail
    refine HT.out.mono ?_
    rintro e w1 ⟨rfl, hk⟩
    have HF := hide (HR.out _ _ hk)
    clear hk HT HR
    go_wp2
    go_ret2
    exact ⟨rfl, HF.out⟩
  · rw [if_neg h1]
    have h1b : (kind == 1) = false := by simp [h1]
    by_cases h2 : kind = 2
    · subst h2
      rw [if_pos rfl]
      obtain ⟨m, hm⟩ : ∃ m, giveS l n = m := ⟨_, rfl⟩
      rw [hm] at HG ⊢
      clear hm HT HO HS
      generalize al.length = k at *
      go_enter Try.func10, Try.ntmps10
      go_wp2_with fail
      refine HG.out.mono ?_
      rintro e w1 ⟨rfl, hk⟩
      have HF := hide (HR.out _ _ hk)
      clear hk HG HR
      go_wp2
      go_ret2
      exact ⟨rfl, HF.out⟩
    · rw [if_neg h2]
      have h2b : (kind == 2) = false := by simp [h2]
      by_cases h3 : kind = 3
      · subst h3
        rw [if_pos rfl]
        obtain ⟨m, hm⟩ : ∃ m, onlyS l al = m := ⟨_, rfl⟩
        rw [hm] at HO ⊢
        clear hm HT HG HS
        generalize al.length = k at *
        go_enter Try.func10, Try.ntmps10
        go_wp2_with fail
        refine HO.out.mono ?_
        rintro e w1 ⟨rfl, hk⟩
        have HF := hide (HR.out _ _ hk)
        clear hk HO HR
        go_wp2
        go_ret2
        exact ⟨rfl, HF.out⟩
      · rw [if_neg h3]
        have h3b : (kind == 3) = false := by simp [h3]
        clear HT HG HO HR
        generalize al.length = k at *
        go_enter Try.func10, Try.ntmps10
        go_wp2
        go_ret2
        exact ⟨rfl, HS.out⟩
end Go.Proofs.Ytkopfigagnagoaa
