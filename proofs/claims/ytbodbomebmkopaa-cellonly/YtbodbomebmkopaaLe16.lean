/- The walk of CellEncode. -/
import Derived.Test.YtbodbomebmkopaaLc16
set_option linter.unusedVariables false
set_option linter.unusedSimpArgs false
set_option maxRecDepth 40000
namespace Go.Proofs.Ytbodbomebmkopaa
open Go.RowKit

/-- A cell that came in, and a copy of it with bytes of its own. -/
structure EncW (w x : World) (c : CL) (dv u : Value) : Prop where
  b : Below w.heap.size w x
  p : x.heap[w.heap.size]? = some (.cells (clC c dv) 25 (0, 0))
  q : x.heap[w.heap.size + 1]? = some (.cells (clC c u) 25 (0, 0))
  ic : IsC x c dv
  iu : IsC x c u
theorem EncW.below {w x y : World} {c : CL} {dv u : Value} (h : EncW w x c dv u) (hb : Below x.heap.size x y) : EncW w y c dv u :=
  ⟨h.b.trans (hb.mono h.b.size), (hb.block _ (Array.getElem?_eq_some_iff.1 h.p).1).trans h.p, (hb.block _ (Array.getElem?_eq_some_iff.1 h.q).1).trans h.q, h.ic.below hb, h.iu.below hb⟩
theorem encW {w w3 : World} {c : CL} {dv : Value} {a : Option Addr} {k : Nat} (hC : IsC w c dv) (ho : w3.ownsRow (w.heap.size + 2) 5 1 (.slice a c.data.length k) c.data.length (Lib.byteCells c.data))
    (hb : Below ((clW w c dv).alloc (.cells (clC c dv) 25)).heap.size ((clW w c dv).alloc (.cells (clC c dv) 25)) w3) : EncW w (w3.setCell ⟨w.heap.size + 1, 4, none⟩ (.slice a c.data.length k)) c dv (.slice a c.data.length k) := by
  have hs1 : (clW w c dv).heap.size = w.heap.size + 1 := by simp
  obtain ⟨r1, r2⟩ := cl_box (clW w c dv) c dv hb
  rw [hs1] at r1
  obtain ⟨s1, s2⟩ := cl_box w c dv r2
  have hne : w.heap.size ≠ w.heap.size + 1 := by omega
  have hset : (w3.setCell ⟨w.heap.size + 1, 4, none⟩ (.slice a c.data.length k)).heap[w.heap.size + 1]? = some (.cells (clC c (.slice a c.data.length k)) 25 (0, 0)) := by
    rw [setCell_eq_setRow w3 _ 4 _ _ _ _ r1, setRow_heap w3 _ _ _ _ _ r1]
    rfl
  have hbx : Below w.heap.size w (w3.setCell ⟨w.heap.size + 1, 4, none⟩ (.slice a c.data.length k)) := s2.setCell (by show w.heap.size ≤ w.heap.size + 1; omega) _
  have ho' := owns_butC ho (W := w3.setCell ⟨w.heap.size + 1, 4, none⟩ (.slice a c.data.length k)) (fun j hj => Below.heap_setCell _ _ _ _ (by show j ≠ w.heap.size + 1; omega))
  exact ⟨hbx, (Below.heap_setCell _ _ _ _ hne).trans s1, hset, hC.below hbx, ⟨hC.ep, hC.li, hC.part, hC.of, owns_isY ho'⟩⟩
/-- What the program, and the document, tell of a cell: the same. -/
theorem enc_told {w w' : World} {c : CL} {e : Ending} (h : PEncR w c e w') : ∃ a n k, e = .returned (.tuple #[.slice a n k, .int .i64 (if mayC c then 0 else 1)]) ∧ IsY w' (.slice a n k) (if mayC c then encC c else []) ∧ Below w.heap.size w w' := by
  obtain ⟨hb, ⟨hm, a, k, rfl⟩ | ⟨hm, a, k, rfl, hy⟩⟩ := h
  · exact ⟨a, 0, k, by rw [if_neg hm], by rw [if_neg hm]; exact .inl ⟨rfl, a, k, rfl⟩, hb⟩
  · exact ⟨a, 64, k, by rw [if_pos hm], by rw [if_pos hm]; exact hy, hb⟩
theorem renc_told (c : CL) (dv : Value) (w : World) (hC : IsC w c dv) : Calls Try.prog 11 #[clA c dv] w fun e w' => ∃ a n k, e = .returned (.tuple #[.slice a n k, .int .i64 (if mayC c then 0 else 1)]) ∧ IsY w' (.slice a n k) (if mayC c then encC c else []) ∧ Below w.heap.size w w' := by
  refine (renc_any c dv w hC).mono ?_
  rintro e w' ⟨hb, ⟨hm, rfl⟩ | ⟨hm, a, k, rfl, ho⟩⟩
  · exact ⟨none, 0, 0, by rw [if_neg hm], by rw [if_neg hm]; exact .inl ⟨rfl, _, _, rfl⟩, hb⟩
  · refine ⟨a, 64, k, by rw [if_pos hm], ?_, hb⟩
    rw [if_pos hm]
    have hel := enc_len c hm.2.2.2
    have ho2 := ho
    rw [← hel] at ho2
    have h9 := owns_isY ho2
    rw [hel] at h9
    exact h9
set_option maxHeartbeats 8000000 in
theorem cellEncode_walk (c : CL) (dv : Value) (w : World) (hC : IsC w c dv) (hCl : c.data.length ≤ 9223372036854775807) :
    Calls Try.prog 3 #[clA c dv] w fun e w' => e = .returned (.bool true) ∧ Below w.heap.size w w' := by
  have HAL := hide alive_any
  by_cases h3 : 300 < c.data.length
  · have h4 : (300 : Int) < (c.data.length : Int) := by omega
    obtain ⟨a, k, rfl⟩ := hC.d.form
    obtain ⟨ep, li, part, of, data⟩ := c
    simp only [] at *
    clear hC
    have BB := hide (below_alloc w)
    generalize data.length = n at *
    go_enter Try.func3, Try.ntmps3
    go_wp2_with fail
    refine (HAL.out _).mono ?_
    rintro e w1 ⟨rfl, hb⟩
    have HB := hide ((BB.out _).trans (hb.mono (BB.out _).size))
    clear hb
    go_wp2
    go_ret
    exact ⟨rfl, HB.out⟩
  · have h4 : ¬ (300 : Int) < (c.data.length : Int) := by omega
    have hs2 : ((clW w c dv).alloc (.cells (clC c dv) 25)).heap.size = w.heap.size + 2 := by simp
    have hb2 : Below w.heap.size w ((clW w c dv).alloc (.cells (clC c dv) 25)) := below_two w _ _
    obtain ⟨ua, uk, w3, hr, ho, hb3⟩ := copyC ((clW w c dv).alloc (.cells (clC c dv) 25)) dv c.data (hC.d.below hb2) (by omega)
    have HEW := hide (encW hC (by rw [← hs2]; exact ho) hb3)
    have hbx3 := (cl_box (clW w c dv) c dv hb3).1
    have hs1 : (clW w c dv).heap.size = w.heap.size + 1 := by simp
    rw [hs1] at hbx3
    have hfx : w3.frozen? ⟨w.heap.size + 1, 4, none⟩ = false := by simp [World.frozen?, hbx3]
    obtain ⟨t0, t1, t2, t3, t4⟩ := cl_cells hbx3
    have hs3 : ∀ o, (((clW w c dv).alloc (.cells (clC c dv) 25)).alloc o).cell? ⟨w.heap.size, 4, none⟩ = some dv := fun o => by
      have h1 := (cl_cells (cl_box w c dv (below_two (clW w c dv) (.cells (clC c dv) 25) o)).1).2.2.2.2
      exact h1
    have hs4 : ((clW w c dv).alloc (.cells (clC c dv) 25)).heap.size = w.heap.size + 1 + 1 := by simp
    rw [hs4] at hr
    have HRUN := hide hr
    have HP := hide (fun x (hx : EncW w x c dv (.slice ua c.data.length uk)) => (penc_any c _ x hx.iu (by omega)).mono fun e w' h => enc_told h)
    have HR := hide (fun x (hx : EncW w x c dv (.slice ua c.data.length uk)) => renc_told c dv x hx.ic)
    have HS := hide (fun x (hx : EncW w x c dv (.slice ua c.data.length uk)) => rsame_any c c _ _ x hx.iu hx.ic)
    have HCE := hide (fun x (hx : EncW w x c dv (.slice ua c.data.length uk)) => And.intro (cl_cells hx.p) (cl_cells hx.q))
    rw [sameC_iff.2 rfl] at HS
    obtain ⟨a, k, rfl⟩ := hC.d.form
    clear hr ho hb3 hb2 hs2 hbx3 hs1 hC hs4
    obtain ⟨X, hX⟩ : ∃ X, (if mayC c then encC c else []) = X := ⟨_, rfl⟩
    obtain ⟨E, hE⟩ : ∃ E : Int, (if mayC c then (0 : Int) else 1) = E := ⟨_, rfl⟩
    rw [hX, hE] at HP HR
    clear hX hE
    obtain ⟨ep, li, part, of, data⟩ := c
    simp only [] at *
    generalize data.length = n at *
    go_enter Try.func3, Try.ntmps3
    go_wp2_with (at_builtin; refine wpList_append_run rfl _ _ 23 rfl _ _ _ _ rfl rfl HRUN.out ?_)
    clear HRUN t0 t1 t2 t3 t4 hfx hs3
    generalize w3.setCell ⟨w.heap.size + 1, 4, none⟩ (.slice ua n uk) = w4 at *
    refine (HP.out w4 HEW.out).mono ?_
    rintro e w5 ⟨va, vn, vc, rfl, hy5, hb5⟩
    have HE5 := hide (HEW.out.below hb5)
    obtain ⟨⟨p0, p1, p2, p3, p4⟩, ⟨q0, q1, q2, q3, q4⟩⟩ := HCE.out w5 HE5.out
    have HR5 := hide (HR.out w5 HE5.out)
    have HY5 := hide hy5
    clear hy5 hb5 HP HR HEW
    try simp only [] at p0 p1 p2 p3 p4 q0 q1 q2 q3 q4
    go_wp2_with fail
    refine HR5.out.mono ?_
    rintro e w6 ⟨ra, rn, rc, rfl, hy6, hb6⟩
    have HE6 := hide (HE5.out.below hb6)
    have HY56 := hide (HY5.out.below hb6)
    have HY6 := hide hy6
    clear hy6 hb6 HR5 HY5 HE5 p0 p1 p2 p3 p4 q0 q1 q2 q3 q4
    go_wp2_with fail
    refine (HAL.out _).mono ?_
    rintro e w7 ⟨rfl, hb7⟩
    have HE7 := hide (HE6.out.below hb7)
    have hcv1 := conv_isYC (HY56.out.below hb7)
    have hcv2 := conv_isYC (HY6.out.below hb7)
    obtain ⟨⟨p0, p1, p2, p3, p4⟩, ⟨q0, q1, q2, q3, q4⟩⟩ := HCE.out w7 HE7.out
    have HS7 := hide (HS.out w7 HE7.out)
    clear hb7 HY56 HY6 HE6 HCE HS
    try simp only [] at p0 p1 p2 p3 p4 q0 q1 q2 q3 q4
    go_wp2_with fail
    refine HS7.out.mono ?_
    rintro e w8 ⟨rfl, hb8⟩
    have HB8 := hide (HE7.out.b.trans (hb8.mono HE7.out.b.size))
    clear hb8 HS7 HE7
    go_wp2
    go_ret
    exact ⟨rfl, HB8.out⟩
end Go.Proofs.Ytbodbomebmkopaa
