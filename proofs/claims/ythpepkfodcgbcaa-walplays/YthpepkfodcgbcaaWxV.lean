import Derived.Test.YthpepkfodcgbcaaWxQ
import Derived.Deep.RegionHeld2
import Derived.Deep.CutRange
import Derived.Deep.CutBlock
/- WalPlays, in parts: what is compared, and written over. -/
set_option linter.unusedVariables false
set_option linter.unusedSimpArgs false
set_option maxRecDepth 40000
namespace Go.Proofs.Ythpepkfodcgbcaa
open Go.RowKit

set_option maxHeartbeats 8000000 in
theorem wp_rest (w wA : World) (p lp2 : Addr) (NN : Nat → Prop) (R S q i : Nat) (d2 : DM) (m2 : LM) (r2 : DV) (g2 : LgV) (E : Int)
    (HQ : Hid (q < 8)) (HP2 : Hid (PT q (i + 1) d2 m2)) (HE2 : Hid (r2.m = d2 ∧ g2.m = m2)) (W2 : Hid (WQ w p lp2 NN R S d2 m2 r2 g2 wA))
    (c0 c1 c2 c3 c4 c5 c7 c9 c11 c13 c14 c15 c18 c19 c20 c21 c22 c23 c24 c25 c26 c27 c28 c29 c30 c31 c32 c33 c34 c35 c36 c37 c38 c39 c40 c41 c42 c43 c44 c45 c46 c47 c48 c49 c50 c51 c52 c53 c54 c55 c56 c57 c58 c59 c60 c61 c62 c63 c64 c65 c66 c67 c68 c69 c70 c71 c72 c73 c74 c75 c76 c77 c78 c79 c80 c81 c82 c83 c84 c85 c86 c87 c88 c89 c90 c91 c92 c93 c94 c95 c96 c97 c98 c99 c100 c101 c102 c103 c104 c105 c106 c107 c108 c109 c110 c111 c112 c113 c114 c115 c116 c117 c118 c119 c120 c121 c122 c123 c124 c125 c126 c127 c128 c129 c130 c131 c132 c133 c134 c135 c136 c137 c138 c139 c140 c141 c142 c143 c144 c145 c146 c147 c148 c149 c150 c151 c152 c153 c154 c155 c156 c157 c158 c159 c160 c161 c162 c163 c164 c165 c166 c167 c168 c169 c170 c171 c172 c173 c174 c175 c176 c177 c178 c179 c180 c181 c182 c183 c184 c185 c186 c187 c188 c189 c190 c191 c192 c193 c194 c195 c196 c197 c198 c199 c200 c201 c202 c203 c204 c205 c206 c207 c208 c209 c210 c211 c212 c213 c214 c215 c216 c217 c218 c219 c220 c221 c222 c223 c224 c225 c226 c227 c228 c229 c230 c231 c232 c233 c234 c235 c236 c237 c238 c239 c240 c241 c242 c243 c244 c245 : Value) (K : Act → World → Prop) (Q9 : Exit → Act → World → Prop) (hQ9 : ∀ ch (a b : Act) x, a.defers = b.defers → Q9 (.panic ch) a x → Q9 (.panic ch) b x)
    (hK : ∀ (v4 v21 v22 v23 v180 v181 v182 v183 v184 v185 v186 v187 v188 v189 v190 v191 v192 v193 v194 v195 v196 v197 v198 v199 v200 v201 v202 v203 v204 v205 v206 v207 v208 v209 v210 v211 v212 v213 v214 v215 v216 v217 v218 v219 v220 v221 v222 v223 v224 v225 v226 v227 v228 v229 v230 v231 v232 v233 v234 v235 v236 v237 v238 v239 v240 v241 v242 v243 v244 : Value) (wz : World), (∃ (d : DM) (m : LM) (r : DV) (g : LgV), Hid (PT q (i + 1) d m) ∧ Hid (r.m = d ∧ g.m = m) ∧ Hid (WQ w p lp2 NN R S d m r g wz)) → K ⟨#[c0, c1, c2, c3, v4, c5, .pointer (some p), c7, .pointer (some ⟨R, 0, none⟩), c9, .pointer (some lp2), c11, .pointer (some ⟨S, 0, none⟩), c13, c14, c15, .int .i64 E, .int .i64 E, c18, c19, c20, v21, v22, v23, c24, c25, c26, c27, c28, c29, c30, c31, c32, c33, c34, c35, c36, c37, c38, c39, c40, c41, c42, c43, c44, c45, c46, c47, c48, c49, c50, c51, c52, c53, c54, c55, c56, c57, c58, c59, c60, c61, c62, c63, c64, c65, c66, c67, c68, c69, c70, c71, c72, c73, c74, c75, c76, c77, c78, c79, c80, c81, c82, c83, c84, c85, c86, c87, c88, c89, c90, c91, c92, c93, c94, c95, c96, c97, c98, c99, c100, c101, c102, c103, c104, c105, c106, c107, c108, c109, c110, c111, c112, c113, c114, c115, c116, c117, c118, c119, c120, c121, c122, c123, c124, c125, c126, c127, c128, c129, c130, c131, c132, c133, c134, c135, c136, c137, c138, c139, c140, c141, c142, c143, c144, c145, c146, c147, c148, c149, c150, c151, c152, c153, c154, c155, c156, c157, c158, c159, c160, c161, c162, c163, c164, c165, c166, c167, c168, c169, c170, c171, c172, c173, c174, c175, c176, c177, c178, c179, v180, v181, v182, v183, v184, v185, v186, v187, v188, v189, v190, v191, v192, v193, v194, v195, v196, v197, v198, v199, v200, v201, v202, v203, v204, v205, v206, v207, v208, v209, v210, v211, v212, v213, v214, v215, v216, v217, v218, v219, v220, v221, v222, v223, v224, v225, v226, v227, v228, v229, v230, v231, v232, v233, v234, v235, v236, v237, v238, v239, v240, v241, v242, v243, v244, c245], []⟩ wz) :
    Code.wp Try.prog (((Try.f3).body.bind (behindBlock 2)).getD .skip) (Exit.inBlock 1 (Exit.then K Q9)) ⟨#[c0, c1, c2, c3, c4, c5, .pointer (some p), c7, .pointer (some ⟨R, 0, none⟩), c9, .pointer (some lp2), c11, .pointer (some ⟨S, 0, none⟩), c13, c14, c15, .int .i64 E, .int .i64 E, c18, c19, c20, c21, c22, c23, c24, c25, c26, c27, c28, c29, c30, c31, c32, c33, c34, c35, c36, c37, c38, c39, c40, c41, c42, c43, c44, c45, c46, c47, c48, c49, c50, c51, c52, c53, c54, c55, c56, c57, c58, c59, c60, c61, c62, c63, c64, c65, c66, c67, c68, c69, c70, c71, c72, c73, c74, c75, c76, c77, c78, c79, c80, c81, c82, c83, c84, c85, c86, c87, c88, c89, c90, c91, c92, c93, c94, c95, c96, c97, c98, c99, c100, c101, c102, c103, c104, c105, c106, c107, c108, c109, c110, c111, c112, c113, c114, c115, c116, c117, c118, c119, c120, c121, c122, c123, c124, c125, c126, c127, c128, c129, c130, c131, c132, c133, c134, c135, c136, c137, c138, c139, c140, c141, c142, c143, c144, c145, c146, c147, c148, c149, c150, c151, c152, c153, c154, c155, c156, c157, c158, c159, c160, c161, c162, c163, c164, c165, c166, c167, c168, c169, c170, c171, c172, c173, c174, c175, c176, c177, c178, c179, c180, c181, c182, c183, c184, c185, c186, c187, c188, c189, c190, c191, c192, c193, c194, c195, c196, c197, c198, c199, c200, c201, c202, c203, c204, c205, c206, c207, c208, c209, c210, c211, c212, c213, c214, c215, c216, c217, c218, c219, c220, c221, c222, c223, c224, c225, c226, c227, c228, c229, c230, c231, c232, c233, c234, c235, c236, c237, c238, c239, c240, c241, c242, c243, c244, c245], []⟩ wA := by
  conv => arg 2; whnf
  have HK9 := hide hK
  clear hK
  obtain ⟨rfl, rfl⟩ := HE2.out
  obtain ⟨_, _, _, _, q4⟩ := W2.out.k
  obtain ⟨ga, gc, eg⟩ := q4.form
  obtain ⟨sa, sc, es⟩ := W2.out.i.s.form
  obtain ⟨la, lc, el⟩ := W2.out.i.l.form
  obtain ⟨gm, gv⟩ := g2
  obtain ⟨rm, rsv, rlv⟩ := r2
  simp only at eg es el
  subst eg es el
  have HCAP : Hid (gm.recs.length ≤ 40000) := hide (Nat.le_trans HP2.out.f.recs (Nat.le_trans HP2.out.f.ok.le (Nat.mul_le_mul_right 4 HP2.out.f.ok.size)))
  have HR := hide (wq_records W2.out (Nat.le_trans HCAP.out (by decide)))
  clear q4 HE2
  go_wp2_with fail
  refine HR.out.mono ?_
  rintro e y2 ⟨a3, c3, rfl, HT, HRS, HB⟩
  have HQ6 := hide (fun W (hW : Below y2.heap.size y2 W) => (W2.out.below HB.out).below hW)
  have HSAME : Hid (∀ W, Below y2.heap.size y2 W → Calls Try.prog 25 #[.slice a3 gm.recs.length c3, .slice ga gm.recs.length gc] W fun e y => e = .returned (.bool true) ∧ Hid (Below W.heap.size W y)) := hide (fun W hW => by
    obtain ⟨A, _, _, _, k4⟩ := (HQ6.out W hW).k
    exact (rsame17_any _ _ gm.recs gm.recs W (HRS.out.below hW) k4 (Nat.le_trans HCAP.out (by decide)) (Nat.le_trans HCAP.out (by decide))).mono fun e y hh => ⟨by rw [hh.1, show sameW gm.recs gm.recs = true from decide_eq_true rfl], hide hh.2⟩)
  have HROOM : Hid (∀ W, Below y2.heap.size y2 W → Calls Try.prog 26 #[.pointer (some lp2)] W fun e y => e = .returned (.int .i64 (roomW gm : Int)) ∧ Hid (Below W.heap.size W y)) := hide (fun W hW => wq_room (HQ6.out W hW) HP2.out.f.ok)
  have HRROOM : Hid (∀ W, Below y2.heap.size y2 W → Calls Try.prog 27 #[.agg #[.int .i64 (gm.first : Int), .int .i64 (gm.size : Int), .int .u64 (gm.ep : Int), .int .u64 (gm.li : Int), .int .i64 (gm.end_ : Int), .slice ga gm.recs.length gc, .bool gm.broken]] W fun e y => e = .returned (.int .i64 (roomW gm : Int)) ∧ Hid (Below W.heap.size W y)) := hide (fun W hW => (rroom_any ⟨gm, .slice ga gm.recs.length gc⟩ W HP2.out.f.ok).mono fun e y hh => ⟨hh.1, hide hh.2⟩)
  have HLIFE : Hid (∀ W, Below y2.heap.size y2 W → Calls Try.prog 28 #[.pointer (some lp2)] W fun e y => e = .returned (.int .u64 (gm.li : Int)) ∧ Hid (Below W.heap.size W y)) := hide (fun W hW => wq_life (HQ6.out W hW))
  have HEPOCH : Hid (∀ W, Below y2.heap.size y2 W → Calls Try.prog 29 #[.pointer (some lp2)] W fun e y => e = .returned (.int .u64 (gm.ep : Int)) ∧ Hid (Below W.heap.size W y)) := hide (fun W hW => wq_epoch (HQ6.out W hW))
  have HDP : Hid (∀ W, Below y2.heap.size y2 W → Calls Try.prog 30 #[.pointer (some p)] W fun e y => ∃ u c, e = .returned (.slice u (dumpD rm).length c) ∧ Hid (NewY W.heap.size y (.slice u (dumpD rm).length c) (dumpD rm)) ∧ Hid (Below W.heap.size W y)) := hide (fun W hW => wq_dump (HQ6.out W hW) HP2.out.f.fit)
  have HDR : Hid (∀ W, Below y2.heap.size y2 W → Calls Try.prog 31 #[.agg #[.slice sa rm.safe.length sc, .slice la rm.l.length lc, .int .i64 rm.left, .bool rm.fuse, .bool rm.off]] W fun e y => ∃ u c, e = .returned (.slice u (dumpD rm).length c) ∧ Hid (NewY W.heap.size y (.slice u (dumpD rm).length c) (dumpD rm)) ∧ Hid (Below W.heap.size W y)) := hide (fun W hW => wq_rdump (HQ6.out W hW) HP2.out.f.fit)
  have HG : Hid (∀ W, Below y2.heap.size y2 W → W.heap[S]? = some (.cells (lgC ⟨gm, .slice ga gm.recs.length gc⟩) 40 (0, 0))) := hide (fun W hW => (HQ6.out W hW).c12)
  have HD8 : Hid (∀ W, Below y2.heap.size y2 W → W.heap[R]? = some (.cells (dkC ⟨rm, .slice sa rm.safe.length sc, .slice la rm.l.length lc⟩) 31 (0, 0))) := hide (fun W hW => (HQ6.out W hW).c8)
  have HBB := hide HB.out
  clear HR HRS HQ6
  generalize roomW gm = rmv at *
  generalize dumpD rm = DD at *
  generalize hdl : DD.length = dl at *
  clear hdl
  go_upto_region 41 with fail
  go_cut [223] from 189 to 223 (fun v223 wx => v223 = .bool false ∧ Hid (Below y2.heap.size y2 wx))
  case first =>
    clear HT W2
    refine wp_region_held_drew (S := fun W' => Below y2.heap.size y2 W') (by kernel_rfl) (Below.refl _ y2).drew (fun hHeld => ?_)
    refine wpAnyH_take (i := 0) (v := ?_) rfl (by kernel_rfl) (by kernel_rfl) (by kernel_rfl) (fun _ _ _ h => hQ9 _ _ _ _ (by rfl) h) (Or.inl ⟨by kernel_rfl, ?_⟩) hHeld ?_
    rotate_left
    · intro W hSw
      clear hSw
      go_simp <;> with_reducible rfl
    simp only [Act.put, List.getElem_toArray, List.getElem_cons_zero, List.getElem_cons_succ, List.setIfInBounds_toArray, List.set_cons_zero, List.set_cons_succ]
    refine wpAnyH_take (i := 1) (v := ?_) rfl (by kernel_rfl) (by kernel_rfl) (by kernel_rfl) (fun _ _ _ h => hQ9 _ _ _ _ (by rfl) h) (Or.inl ⟨by kernel_rfl, ?_⟩) hHeld ?_
    rotate_left
    · intro W hSw
      clear hSw
      go_simp <;> with_reducible rfl
    simp only [Act.put, List.getElem_toArray, List.getElem_cons_zero, List.getElem_cons_succ, List.setIfInBounds_toArray, List.set_cons_zero, List.set_cons_succ]
    refine wpAnyH_take (i := 2) (v := ?_) rfl (by kernel_rfl) (by kernel_rfl) (by kernel_rfl) (fun _ _ _ h => hQ9 _ _ _ _ (by rfl) h) (Or.inl ⟨by kernel_rfl, ?_⟩) hHeld ?_
    rotate_left
    · intro W hSw
      obtain ⟨⟨s0, s1, s2, s3, s4, s5, s6⟩, _⟩ := lg_cells (HG.out _ hSw)
      try simp only [] at s0 s1 s2 s3 s4 s5 s6
      clear hSw
      go_simp <;> with_reducible rfl
    simp only [Act.put, List.getElem_toArray, List.getElem_cons_zero, List.getElem_cons_succ, List.setIfInBounds_toArray, List.set_cons_zero, List.set_cons_succ]
    have HB5 := hide (HSAME.out _ hHeld)
    refine wpAnyH_ready (rs := [3]) (by kernel_rfl) (by simp) ?_
    refine AllReadyH.cons rfl (fun K hK => ?_) AllReadyH.nil
    go_simp
    go_wp2_with (first | (go_at_call 25; refine HB5.out.mono ?_; rintro e y3 ⟨rfl, b3⟩))
    refine hK.out _ _ ?_ (fun hHeld => ?_)
    · exact Below.trans hHeld (b3.out.mono hHeld.size)
    clear hK K HB5 b3
    try simp only [Act.put, List.getElem_toArray, List.getElem_cons_zero, List.getElem_cons_succ, List.setIfInBounds_toArray, List.set_cons_zero, List.set_cons_succ]
    refine wpAnyH_take (i := 4) (v := ?_) rfl (by kernel_rfl) (by kernel_rfl) (by kernel_rfl) (fun _ _ _ h => hQ9 _ _ _ _ (by rfl) h) (Or.inl ⟨by kernel_rfl, ?_⟩) hHeld ?_
    rotate_left
    · intro W hSw
      clear hSw
      go_simp <;> with_reducible rfl
    simp only [Act.put, List.getElem_toArray, List.getElem_cons_zero, List.getElem_cons_succ, List.setIfInBounds_toArray, List.set_cons_zero, List.set_cons_succ]
    refine wpAnyH_take (i := 5) (v := ?_) rfl (by kernel_rfl) (by kernel_rfl) (by kernel_rfl) (fun _ _ _ h => hQ9 _ _ _ _ (by rfl) h) (Or.inl ⟨by kernel_rfl, ?_⟩) hHeld ?_
    rotate_left
    · intro W hSw
      clear hSw
      go_simp <;> with_reducible rfl
    simp only [Act.put, List.getElem_toArray, List.getElem_cons_zero, List.getElem_cons_succ, List.setIfInBounds_toArray, List.set_cons_zero, List.set_cons_succ]
    refine wpAnyH_take (i := 6) (v := ?_) rfl (by kernel_rfl) (by kernel_rfl) (by kernel_rfl) (fun _ _ _ h => hQ9 _ _ _ _ (by rfl) h) (Or.inl ⟨by kernel_rfl, ?_⟩) hHeld ?_
    rotate_left
    · intro W hSw
      clear hSw
      go_simp <;> with_reducible rfl
    simp only [Act.put, List.getElem_toArray, List.getElem_cons_zero, List.getElem_cons_succ, List.setIfInBounds_toArray, List.set_cons_zero, List.set_cons_succ]
    refine wpAnyH_take (i := 8) (v := ?_) rfl (by kernel_rfl) (by kernel_rfl) (by kernel_rfl) (fun _ _ _ h => hQ9 _ _ _ _ (by rfl) h) (Or.inl ⟨by kernel_rfl, ?_⟩) hHeld ?_
    rotate_left
    · intro W hSw
      obtain ⟨⟨s0, s1, s2, s3, s4, s5, s6⟩, _⟩ := lg_cells (HG.out _ hSw)
      try simp only [] at s0 s1 s2 s3 s4 s5 s6
      clear hSw
      go_simp <;> with_reducible rfl
    simp only [Act.put, List.getElem_toArray, List.getElem_cons_zero, List.getElem_cons_succ, List.setIfInBounds_toArray, List.set_cons_zero, List.set_cons_succ]
    have HB5 := hide (HROOM.out _ hHeld)
    refine wpAnyH_ready (rs := [7]) (by kernel_rfl) (by simp) ?_
    refine AllReadyH.cons rfl (fun K hK => ?_) AllReadyH.nil
    go_simp
    go_wp2_with (first | (go_at_call 26; refine HB5.out.mono ?_; rintro e y7 ⟨rfl, b7⟩))
    refine hK.out _ _ ?_ (fun hHeld => ?_)
    · exact Below.trans hHeld (b7.out.mono hHeld.size)
    clear hK K HB5 b7
    try simp only [Act.put, List.getElem_toArray, List.getElem_cons_zero, List.getElem_cons_succ, List.setIfInBounds_toArray, List.set_cons_zero, List.set_cons_succ]
    have HB5 := hide (HRROOM.out _ hHeld)
    refine wpAnyH_ready (rs := [9]) (by kernel_rfl) (by simp) ?_
    refine AllReadyH.cons rfl (fun K hK => ?_) AllReadyH.nil
    go_simp
    go_wp2_with (first | (go_at_call 27; refine HB5.out.mono ?_; rintro e y9 ⟨rfl, b9⟩))
    refine hK.out _ _ ?_ (fun hHeld => ?_)
    · exact Below.trans hHeld (b9.out.mono hHeld.size)
    clear hK K HB5 b9
    try simp only [Act.put, List.getElem_toArray, List.getElem_cons_zero, List.getElem_cons_succ, List.setIfInBounds_toArray, List.set_cons_zero, List.set_cons_succ]
    refine wpAnyH_take (i := 10) (v := ?_) rfl (by kernel_rfl) (by kernel_rfl) (by kernel_rfl) (fun _ _ _ h => hQ9 _ _ _ _ (by rfl) h) (Or.inl ⟨by kernel_rfl, ?_⟩) hHeld ?_
    rotate_left
    · intro W hSw
      clear hSw
      go_simp <;> with_reducible rfl
    simp only [Act.put, List.getElem_toArray, List.getElem_cons_zero, List.getElem_cons_succ, List.setIfInBounds_toArray, List.set_cons_zero, List.set_cons_succ]
    refine wpAnyH_take (i := 11) (v := ?_) rfl (by kernel_rfl) (by kernel_rfl) (by kernel_rfl) (fun _ _ _ h => hQ9 _ _ _ _ (by rfl) h) (Or.inl ⟨by kernel_rfl, ?_⟩) hHeld ?_
    rotate_left
    · intro W hSw
      clear hSw
      go_simp <;> with_reducible rfl
    simp only [Act.put, List.getElem_toArray, List.getElem_cons_zero, List.getElem_cons_succ, List.setIfInBounds_toArray, List.set_cons_zero, List.set_cons_succ]
    refine wpAnyH_take (i := 12) (v := ?_) rfl (by kernel_rfl) (by kernel_rfl) (by kernel_rfl) (fun _ _ _ h => hQ9 _ _ _ _ (by rfl) h) (Or.inl ⟨by kernel_rfl, ?_⟩) hHeld ?_
    rotate_left
    · intro W hSw
      clear hSw
      go_simp <;> with_reducible rfl
    simp only [Act.put, List.getElem_toArray, List.getElem_cons_zero, List.getElem_cons_succ, List.setIfInBounds_toArray, List.set_cons_zero, List.set_cons_succ]
    refine wpAnyH_take (i := 13) (v := ?_) rfl (by kernel_rfl) (by kernel_rfl) (by kernel_rfl) (fun _ _ _ h => hQ9 _ _ _ _ (by rfl) h) (Or.inl ⟨by kernel_rfl, ?_⟩) hHeld ?_
    rotate_left
    · intro W hSw
      clear hSw
      go_simp <;> with_reducible rfl
    simp only [Act.put, List.getElem_toArray, List.getElem_cons_zero, List.getElem_cons_succ, List.setIfInBounds_toArray, List.set_cons_zero, List.set_cons_succ]
    refine wpAnyH_take (i := 15) (v := ?_) rfl (by kernel_rfl) (by kernel_rfl) (by kernel_rfl) (fun _ _ _ h => hQ9 _ _ _ _ (by rfl) h) (Or.inl ⟨by kernel_rfl, ?_⟩) hHeld ?_
    rotate_left
    · intro W hSw
      clear hSw
      go_simp <;> with_reducible rfl
    simp only [Act.put, List.getElem_toArray, List.getElem_cons_zero, List.getElem_cons_succ, List.setIfInBounds_toArray, List.set_cons_zero, List.set_cons_succ]
    refine wpAnyH_take (i := 16) (v := ?_) rfl (by kernel_rfl) (by kernel_rfl) (by kernel_rfl) (fun _ _ _ h => hQ9 _ _ _ _ (by rfl) h) (Or.inl ⟨by kernel_rfl, ?_⟩) hHeld ?_
    rotate_left
    · intro W hSw
      obtain ⟨⟨s0, s1, s2, s3, s4, s5, s6⟩, _⟩ := lg_cells (HG.out _ hSw)
      try simp only [] at s0 s1 s2 s3 s4 s5 s6
      clear hSw
      go_simp <;> with_reducible rfl
    simp only [Act.put, List.getElem_toArray, List.getElem_cons_zero, List.getElem_cons_succ, List.setIfInBounds_toArray, List.set_cons_zero, List.set_cons_succ]
    have HB5 := hide (HLIFE.out _ hHeld)
    refine wpAnyH_ready (rs := [14]) (by kernel_rfl) (by simp) ?_
    refine AllReadyH.cons rfl (fun K hK => ?_) AllReadyH.nil
    go_simp
    go_wp2_with (first | (go_at_call 28; refine HB5.out.mono ?_; rintro e y14 ⟨rfl, b14⟩))
    refine hK.out _ _ ?_ (fun hHeld => ?_)
    · exact Below.trans hHeld (b14.out.mono hHeld.size)
    clear hK K HB5 b14
    try simp only [Act.put, List.getElem_toArray, List.getElem_cons_zero, List.getElem_cons_succ, List.setIfInBounds_toArray, List.set_cons_zero, List.set_cons_succ]
    refine wpAnyH_take (i := 17) (v := ?_) rfl (by kernel_rfl) (by kernel_rfl) (by kernel_rfl) (fun _ _ _ h => hQ9 _ _ _ _ (by rfl) h) (Or.inl ⟨by kernel_rfl, ?_⟩) hHeld ?_
    rotate_left
    · intro W hSw
      clear hSw
      go_simp <;> with_reducible rfl
    simp only [Act.put, List.getElem_toArray, List.getElem_cons_zero, List.getElem_cons_succ, List.setIfInBounds_toArray, List.set_cons_zero, List.set_cons_succ]
    refine wpAnyH_take (i := 18) (v := ?_) rfl (by kernel_rfl) (by kernel_rfl) (by kernel_rfl) (fun _ _ _ h => hQ9 _ _ _ _ (by rfl) h) (Or.inl ⟨by kernel_rfl, ?_⟩) hHeld ?_
    rotate_left
    · intro W hSw
      clear hSw
      go_simp <;> with_reducible rfl
    simp only [Act.put, List.getElem_toArray, List.getElem_cons_zero, List.getElem_cons_succ, List.setIfInBounds_toArray, List.set_cons_zero, List.set_cons_succ]
    refine wpAnyH_take (i := 19) (v := ?_) rfl (by kernel_rfl) (by kernel_rfl) (by kernel_rfl) (fun _ _ _ h => hQ9 _ _ _ _ (by rfl) h) (Or.inl ⟨by kernel_rfl, ?_⟩) hHeld ?_
    rotate_left
    · intro W hSw
      clear hSw
      go_simp <;> with_reducible rfl
    simp only [Act.put, List.getElem_toArray, List.getElem_cons_zero, List.getElem_cons_succ, List.setIfInBounds_toArray, List.set_cons_zero, List.set_cons_succ]
    refine wpAnyH_take (i := 20) (v := ?_) rfl (by kernel_rfl) (by kernel_rfl) (by kernel_rfl) (fun _ _ _ h => hQ9 _ _ _ _ (by rfl) h) (Or.inl ⟨by kernel_rfl, ?_⟩) hHeld ?_
    rotate_left
    · intro W hSw
      clear hSw
      go_simp <;> with_reducible rfl
    simp only [Act.put, List.getElem_toArray, List.getElem_cons_zero, List.getElem_cons_succ, List.setIfInBounds_toArray, List.set_cons_zero, List.set_cons_succ]
    refine wpAnyH_take (i := 22) (v := ?_) rfl (by kernel_rfl) (by kernel_rfl) (by kernel_rfl) (fun _ _ _ h => hQ9 _ _ _ _ (by rfl) h) (Or.inl ⟨by kernel_rfl, ?_⟩) hHeld ?_
    rotate_left
    · intro W hSw
      clear hSw
      go_simp <;> with_reducible rfl
    simp only [Act.put, List.getElem_toArray, List.getElem_cons_zero, List.getElem_cons_succ, List.setIfInBounds_toArray, List.set_cons_zero, List.set_cons_succ]
    refine wpAnyH_take (i := 23) (v := ?_) rfl (by kernel_rfl) (by kernel_rfl) (by kernel_rfl) (fun _ _ _ h => hQ9 _ _ _ _ (by rfl) h) (Or.inl ⟨by kernel_rfl, ?_⟩) hHeld ?_
    rotate_left
    · intro W hSw
      obtain ⟨⟨s0, s1, s2, s3, s4, s5, s6⟩, _⟩ := lg_cells (HG.out _ hSw)
      try simp only [] at s0 s1 s2 s3 s4 s5 s6
      clear hSw
      go_simp <;> with_reducible rfl
    simp only [Act.put, List.getElem_toArray, List.getElem_cons_zero, List.getElem_cons_succ, List.setIfInBounds_toArray, List.set_cons_zero, List.set_cons_succ]
    have HB5 := hide (HEPOCH.out _ hHeld)
    refine wpAnyH_ready (rs := [21]) (by kernel_rfl) (by simp) ?_
    refine AllReadyH.cons rfl (fun K hK => ?_) AllReadyH.nil
    go_simp
    go_wp2_with (first | (go_at_call 29; refine HB5.out.mono ?_; rintro e y21 ⟨rfl, b21⟩))
    refine hK.out _ _ ?_ (fun hHeld => ?_)
    · exact Below.trans hHeld (b21.out.mono hHeld.size)
    clear hK K HB5 b21
    try simp only [Act.put, List.getElem_toArray, List.getElem_cons_zero, List.getElem_cons_succ, List.setIfInBounds_toArray, List.set_cons_zero, List.set_cons_succ]
    refine wpAnyH_take (i := 24) (v := ?_) rfl (by kernel_rfl) (by kernel_rfl) (by kernel_rfl) (fun _ _ _ h => hQ9 _ _ _ _ (by rfl) h) (Or.inl ⟨by kernel_rfl, ?_⟩) hHeld ?_
    rotate_left
    · intro W hSw
      clear hSw
      go_simp <;> with_reducible rfl
    simp only [Act.put, List.getElem_toArray, List.getElem_cons_zero, List.getElem_cons_succ, List.setIfInBounds_toArray, List.set_cons_zero, List.set_cons_succ]
    refine wpAnyH_take (i := 25) (v := ?_) rfl (by kernel_rfl) (by kernel_rfl) (by kernel_rfl) (fun _ _ _ h => hQ9 _ _ _ _ (by rfl) h) (Or.inl ⟨by kernel_rfl, ?_⟩) hHeld ?_
    rotate_left
    · intro W hSw
      clear hSw
      go_simp <;> with_reducible rfl
    simp only [Act.put, List.getElem_toArray, List.getElem_cons_zero, List.getElem_cons_succ, List.setIfInBounds_toArray, List.set_cons_zero, List.set_cons_succ]
    refine wpAnyH_take (i := 26) (v := ?_) rfl (by kernel_rfl) (by kernel_rfl) (by kernel_rfl) (fun _ _ _ h => hQ9 _ _ _ _ (by rfl) h) (Or.inl ⟨by kernel_rfl, ?_⟩) hHeld ?_
    rotate_left
    · intro W hSw
      clear hSw
      go_simp <;> with_reducible rfl
    simp only [Act.put, List.getElem_toArray, List.getElem_cons_zero, List.getElem_cons_succ, List.setIfInBounds_toArray, List.set_cons_zero, List.set_cons_succ]
    refine wpAnyH_take (i := 27) (v := ?_) rfl (by kernel_rfl) (by kernel_rfl) (by kernel_rfl) (fun _ _ _ h => hQ9 _ _ _ _ (by rfl) h) (Or.inl ⟨by kernel_rfl, ?_⟩) hHeld ?_
    rotate_left
    · intro W hSw
      clear hSw
      go_simp <;> with_reducible rfl
    simp only [Act.put, List.getElem_toArray, List.getElem_cons_zero, List.getElem_cons_succ, List.setIfInBounds_toArray, List.set_cons_zero, List.set_cons_succ]
    refine wpAnyH_take (i := 30) (v := ?_) rfl (by kernel_rfl) (by kernel_rfl) (by kernel_rfl) (fun _ _ _ h => hQ9 _ _ _ _ (by rfl) h) (Or.inl ⟨by kernel_rfl, ?_⟩) hHeld ?_
    rotate_left
    · intro W hSw
      obtain ⟨s0, s1, s2, s3, s4, _⟩ := dk_cells (HD8.out _ hSw)
      try simp only [] at s0 s1 s2 s3 s4
      clear hSw
      go_simp <;> with_reducible rfl
    simp only [Act.put, List.getElem_toArray, List.getElem_cons_zero, List.getElem_cons_succ, List.setIfInBounds_toArray, List.set_cons_zero, List.set_cons_succ]
    refine wpAnyH_ready (rs := [28]) (by kernel_rfl) (by simp) ?_
    refine (AllReadyH.cons rfl (fun K hK => ?_) AllReadyH.nil)
    have HB5 := hide (HDP.out _ hHeld)
    go_simp
    go_wp2_with (first | (go_at_call 30; refine HB5.out.mono ?_; rintro e y28 ⟨p28, c28, rfl, n28, b28⟩))
    refine hK.out _ _ ?_ (fun hHeld => ?_)
    · exact Below.trans hHeld (b28.out.mono hHeld.size)
    clear hK K HB5
    try simp only [Act.put, List.getElem_toArray, List.getElem_cons_zero, List.getElem_cons_succ, List.setIfInBounds_toArray, List.set_cons_zero, List.set_cons_succ]
    refine wpAnyH_ready (rs := [29, 31]) (by kernel_rfl) (by simp) ?_
    refine (AllReadyH.cons rfl (fun K hK => ?_) (AllReadyH.cons rfl (fun K hK => ?_) AllReadyH.nil))
    · have hcv2 := conv_newY n28.out
      go_simp
      refine hK.out _ _ ?_ (fun hHeld => ?_)
      · exact hHeld
      clear hK K hcv2
      try simp only [Act.put, List.getElem_toArray, List.getElem_cons_zero, List.getElem_cons_succ, List.setIfInBounds_toArray, List.set_cons_zero, List.set_cons_succ]
      refine wpAnyH_ready (rs := [31]) (by kernel_rfl) (by simp) ?_
      refine (AllReadyH.cons rfl (fun K hK => ?_) AllReadyH.nil)
      have HB5 := hide (HDR.out _ hHeld)
      go_simp
      go_wp2_with (first | (go_at_call 31; refine HB5.out.mono ?_; rintro e y31 ⟨p31, c31, rfl, n31, b31⟩))
      refine hK.out _ _ ?_ (fun hHeld => ?_)
      · exact Below.trans hHeld (b31.out.mono hHeld.size)
      clear hK K HB5
      try simp only [Act.put, List.getElem_toArray, List.getElem_cons_zero, List.getElem_cons_succ, List.setIfInBounds_toArray, List.set_cons_zero, List.set_cons_succ]
      refine wpAnyH_ready (rs := [32]) (by kernel_rfl) (by simp) ?_
      refine (AllReadyH.cons rfl (fun K hK => ?_) AllReadyH.nil)
      have hcv2 := conv_newY n31.out
      go_simp
      refine hK.out _ _ ?_ (fun hHeld => ?_)
      · exact hHeld
      clear hK K hcv2
      try simp only [Act.put, List.getElem_toArray, List.getElem_cons_zero, List.getElem_cons_succ, List.setIfInBounds_toArray, List.set_cons_zero, List.set_cons_succ]
      refine wpAnyH_take (i := 33) (v := .bool false) rfl (by kernel_rfl) (by kernel_rfl) (by kernel_rfl) (fun _ _ _ h => hQ9 _ _ _ _ (by rfl) h) (Or.inl ⟨by kernel_rfl, fun _ _ => by go_simp⟩) hHeld ?_
      simp only [Act.put, List.getElem_toArray, List.getElem_cons_zero, List.getElem_cons_succ, List.setIfInBounds_toArray, List.set_cons_zero, List.set_cons_succ]
      refine wpAnyH_take (i := 34) (v := .bool false) rfl (by kernel_rfl) (by kernel_rfl) (by kernel_rfl) (fun _ _ _ h => hQ9 _ _ _ _ (by rfl) h) (Or.inl ⟨by kernel_rfl, fun _ _ => by go_simp⟩) hHeld ?_
      simp only [Act.put, List.getElem_toArray, List.getElem_cons_zero, List.getElem_cons_succ, List.setIfInBounds_toArray, List.set_cons_zero, List.set_cons_succ]
      refine wpAnyH_done (by kernel_rfl) ?_ _
      first | go_meet | (go_wp2_with fail; go_meet)
      case rel => exact ⟨rfl, hide hHeld⟩
    · have HB5 := hide (HDR.out _ hHeld)
      go_simp
      go_wp2_with (first | (go_at_call 31; refine HB5.out.mono ?_; rintro e y31 ⟨p31, c31, rfl, n31, b31⟩))
      refine hK.out _ _ ?_ (fun hHeld => ?_)
      · exact Below.trans hHeld (b31.out.mono hHeld.size)
      clear hK K HB5
      have n28 := hide (n28.out.below b31.out)
      try simp only [Act.put, List.getElem_toArray, List.getElem_cons_zero, List.getElem_cons_succ, List.setIfInBounds_toArray, List.set_cons_zero, List.set_cons_succ]
      refine wpAnyH_ready (rs := [29, 32]) (by kernel_rfl) (by simp) ?_
      refine (AllReadyH.cons rfl (fun K hK => ?_) (AllReadyH.cons rfl (fun K hK => ?_) AllReadyH.nil))
      · have hcv2 := conv_newY n28.out
        go_simp
        refine hK.out _ _ ?_ (fun hHeld => ?_)
        · exact hHeld
        clear hK K hcv2
        try simp only [Act.put, List.getElem_toArray, List.getElem_cons_zero, List.getElem_cons_succ, List.setIfInBounds_toArray, List.set_cons_zero, List.set_cons_succ]
        refine wpAnyH_ready (rs := [32]) (by kernel_rfl) (by simp) ?_
        refine (AllReadyH.cons rfl (fun K hK => ?_) AllReadyH.nil)
        have hcv2 := conv_newY n31.out
        go_simp
        refine hK.out _ _ ?_ (fun hHeld => ?_)
        · exact hHeld
        clear hK K hcv2
        try simp only [Act.put, List.getElem_toArray, List.getElem_cons_zero, List.getElem_cons_succ, List.setIfInBounds_toArray, List.set_cons_zero, List.set_cons_succ]
        refine wpAnyH_take (i := 33) (v := .bool false) rfl (by kernel_rfl) (by kernel_rfl) (by kernel_rfl) (fun _ _ _ h => hQ9 _ _ _ _ (by rfl) h) (Or.inl ⟨by kernel_rfl, fun _ _ => by go_simp⟩) hHeld ?_
        simp only [Act.put, List.getElem_toArray, List.getElem_cons_zero, List.getElem_cons_succ, List.setIfInBounds_toArray, List.set_cons_zero, List.set_cons_succ]
        refine wpAnyH_take (i := 34) (v := .bool false) rfl (by kernel_rfl) (by kernel_rfl) (by kernel_rfl) (fun _ _ _ h => hQ9 _ _ _ _ (by rfl) h) (Or.inl ⟨by kernel_rfl, fun _ _ => by go_simp⟩) hHeld ?_
        simp only [Act.put, List.getElem_toArray, List.getElem_cons_zero, List.getElem_cons_succ, List.setIfInBounds_toArray, List.set_cons_zero, List.set_cons_succ]
        refine wpAnyH_done (by kernel_rfl) ?_ _
        first | go_meet | (go_wp2_with fail; go_meet)
        case rel => exact ⟨rfl, hide hHeld⟩
      · have hcv2 := conv_newY n31.out
        go_simp
        refine hK.out _ _ ?_ (fun hHeld => ?_)
        · exact hHeld
        clear hK K hcv2
        try simp only [Act.put, List.getElem_toArray, List.getElem_cons_zero, List.getElem_cons_succ, List.setIfInBounds_toArray, List.set_cons_zero, List.set_cons_succ]
        refine wpAnyH_ready (rs := [29]) (by kernel_rfl) (by simp) ?_
        refine (AllReadyH.cons rfl (fun K hK => ?_) AllReadyH.nil)
        have hcv2 := conv_newY n28.out
        go_simp
        refine hK.out _ _ ?_ (fun hHeld => ?_)
        · exact hHeld
        clear hK K hcv2
        try simp only [Act.put, List.getElem_toArray, List.getElem_cons_zero, List.getElem_cons_succ, List.setIfInBounds_toArray, List.set_cons_zero, List.set_cons_succ]
        refine wpAnyH_take (i := 33) (v := .bool false) rfl (by kernel_rfl) (by kernel_rfl) (by kernel_rfl) (fun _ _ _ h => hQ9 _ _ _ _ (by rfl) h) (Or.inl ⟨by kernel_rfl, fun _ _ => by go_simp⟩) hHeld ?_
        simp only [Act.put, List.getElem_toArray, List.getElem_cons_zero, List.getElem_cons_succ, List.setIfInBounds_toArray, List.set_cons_zero, List.set_cons_succ]
        refine wpAnyH_take (i := 34) (v := .bool false) rfl (by kernel_rfl) (by kernel_rfl) (by kernel_rfl) (fun _ _ _ h => hQ9 _ _ _ _ (by rfl) h) (Or.inl ⟨by kernel_rfl, fun _ _ => by go_simp⟩) hHeld ?_
        simp only [Act.put, List.getElem_toArray, List.getElem_cons_zero, List.getElem_cons_succ, List.setIfInBounds_toArray, List.set_cons_zero, List.set_cons_succ]
        refine wpAnyH_done (by kernel_rfl) ?_ _
        first | go_meet | (go_wp2_with fail; go_meet)
        case rel => exact ⟨rfl, hide hHeld⟩
  case rest =>
    obtain ⟨rfl, HB9⟩ := hcut
    have HT9 := hide (HT.out.below HB9.out)
    clear HSAME HROOM HRROOM HLIFE HEPOCH HDP HDR HG HD8 HB HT HBB HB9
    go_wp2
    go_loopw [22] (fun v22 wq => ∃ k : Nat, v22 = .int .i64 (k : Int) ∧ k ≤ gm.recs.length ∧ Hid (Told wA (.slice a3 gm.recs.length c3) (gm.recs.map List.length) wq)) (fun v22 _ => gm.recs.length - (intOf v22).toNat)
    case atStart => exact ⟨0, rfl, Nat.zero_le _, HT9⟩
    case round =>
      clear HT9
      obtain ⟨k, rfl, hk, HTK⟩ := hrel
      by_cases hkb : k < gm.recs.length
      · have hkb2 : (k : Int) < (gm.recs.length : Int) := by omega
        have hkn : (gm.recs.map List.length)[k]? = some (gm.recs[k]'hkb).length := by rw [List.getElem?_map, List.getElem?_eq_getElem hkb]; rfl
        have HKL : Hid ((gm.recs[k]'hkb).length ≤ 3000000) := hide (HP2.out.r _ (List.getElem_mem hkb))
        generalize (gm.recs[k]'hkb).length = kk at hkn HKL
        obtain ⟨B, o, va, vc, rfl, hcB, _⟩ := HTK.out.at_ k kk hkn
        have HKNS := hide hkn
        have hwk : wrap64 ((k : Int) + 1) = (k : Int) + 1 := by
          have := HCAP.out
          unfold wrap64
          omega
        clear hkn
        go_wp2
        go_loopw [23] (fun v23 wq => ∃ j : Nat, v23 = .int .i64 (j : Int) ∧ j ≤ kk ∧ Hid (Told wA (.slice (some ⟨B, o, none⟩) gm.recs.length c3) (gm.recs.map List.length) wq)) (fun v23 _ => kk - (intOf v23).toNat)
        case atStart => exact ⟨0, rfl, Nat.zero_le _, HTK⟩
        case round =>
          clear hcB HTK
          obtain ⟨j, rfl, hj, HTJ⟩ := hrel
          obtain ⟨B2, o2, va2, vc2, e2, hcB, hst⟩ := HTJ.out.at_ k kk HKNS.out
          cases e2
          by_cases hjb : j < kk
          · obtain ⟨G, og, u, rfl, hcu, hfu, hs⟩ := hst j hjb
            have HS1 := hide hs
            have hjb2 : (j : Int) < (kk : Int) := by omega
            have hwj : wrap64 ((j : Int) + 1) = (j : Int) + 1 := by
              have := HKL.out
              unfold wrap64
              omega
            clear hst hs HTJ
            go_wp2
            go_roundw
            case rel => exact ⟨j + 1, by first | exact congrArg (Value.int .i64) (Int.natCast_succ j).symm | exact congrArg (Value.int .i64) (hwj.trans (Int.natCast_succ j).symm), Nat.succ_le_of_lt hjb, HS1⟩
            case measure => first | exact loop_down hjb | (rw [hwj]; exact loop_down hjb)
          · have hjb2 : ¬ (j : Int) < (kk : Int) := by omega
            clear hst
            go_wp2
            go_roundw
            case rel => exact ⟨k + 1, by first | exact congrArg (Value.int .i64) (Int.natCast_succ k).symm | exact congrArg (Value.int .i64) (hwk.trans (Int.natCast_succ k).symm), Nat.succ_le_of_lt hkb, HTJ⟩
            case measure => first | exact loop_down hkb | (rw [hwk]; exact loop_down hkb)
      · have hkb2 : ¬ (k : Int) < (gm.recs.length : Int) := by omega
        have WZ := hide (W2.out.below HTK.out.b)
        clear HTK
        go_wp2
        exact HK9.out _ _ _ _ _ _ _ _ _ _ _ _ _ _ _ _ _ _ _ _ _ _ _ _ _ _ _ _ _ _ _ _ _ _ _ _ _ _ _ _ _ _ _ _ _ _ _ _ _ _ _ _ _ _ _ _ _ _ _ _ _ _ _ _ _ _ _ _ _ _ ⟨_, _, _, _, HP2, hide ⟨rfl, rfl⟩, WZ⟩
end Go.Proofs.Ythpepkfodcgbcaa
