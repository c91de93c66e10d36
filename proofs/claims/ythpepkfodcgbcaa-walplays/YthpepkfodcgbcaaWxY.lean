import Derived.Test.YthpepkfodcgbcaaWxQ
import Derived.Test.YthpepkfodcgbcaaWxV
import Derived.Deep.RegionHeld2
import Derived.Deep.CutRange
import Derived.Deep.CutBlock
/- WalPlays's walk. -/
set_option linter.unusedVariables false
set_option linter.unusedSimpArgs false
set_option maxRecDepth 40000
namespace Go.Proofs.Ythpepkfodcgbcaa
open Go.RowKit

set_option maxHeartbeats 64000000 in
theorem walPlays_walk (n : Int) (v0 : Value) (l0 : List AW) (w : World) (hS0 : IsA w v0 l0) (hO0 : ∀ a ∈ l0, OkW a) (hL0 : l0.length ≤ 9223372036854775807) :
    Calls Try.prog 3 #[.int .i64 n, v0] w fun e w' => e = .returned (.bool true) ∧ Below w.heap.size w w' := by
  obtain ⟨q, hq⟩ : ∃ q : Nat, pickN n 8 = q := ⟨(pickN n 8).toNat, by have := (pick_bound n 8 (by omega)).1; unfold pickN; omega⟩
  have hq2 : q < 8 := by have := (pick_bound n 8 (by omega)).2; unfold pickN at hq; omega
  have HPK : Hid (∀ x, Calls Try.prog 8 #[.int .i64 n, .int .i64 8] x fun e w' => e = .returned (.int .i64 (q : Int)) ∧ w' = x) := hide (fun x => (pick17_any n 8 (by omega) (by omega) x).mono fun e w' h => by rw [hq] at h; exact h)
  have HN : Hid (∀ x, Below w.heap.size w x → Calls Try.prog 9 #[.int .i64 (2 + (1 + (q : Int)))] x fun e y => ∃ a, e = .returned (.tuple #[.pointer (some a), .int .i64 0]) ∧ Hid (Liv w (.pointer (some a)) (newD (3 + q)) y)) := hide (fun x hb => (live_new (2 + (1 + q : Int)) w x hb (by omega)).mono fun e y hh => by
    rw [show ((2 : Int) + (1 + q)).toNat = 3 + q by omega] at hh
    exact hh)
  have HRN : Hid (∀ v x, Liv w v (newD (3 + q)) x → Calls Try.prog 10 #[.int .i64 (2 + (1 + (q : Int)))] x fun e y => ∃ r : DV, e = .returned (.tuple #[dkA r, .int .i64 0]) ∧ Hid (r.m = newD (3 + q)) ∧ Hid (IsD y r) ∧ Hid (Liv w v (newD (3 + q)) y)) := hide (fun v x hl => (rnew_any (2 + (1 + q : Int)) x).mono fun e y hh => by
    obtain ⟨r, e1, e2, e3, e4⟩ := hh
    rw [show newR ((2 : Int) + (1 + q)) = (newD (3 + q), 0) by unfold newR; rw [if_pos (by omega), show ((2 : Int) + (1 + q)).toNat = 3 + q by omega]] at e1 e2
    exact ⟨r, e1, hide e2, hide e3, hide (hl.below e4)⟩)
  obtain ⟨m0, hm0, hp0⟩ := pt_new hq2
  have HP0 := hide hp0
  have HOP : Hid (∀ (p : Addr) (x : World) (r : DV), Liv w (.pointer (some p)) (newD (3 + q)) x → IsD x r → r.m = newD (3 + q) → _) := hide (fun p x r h1 h2 h3 => wq_open0 (q := q) (m := m0) h1 h2 h3 hp0.f.fit hq2 hp0.s hm0)
  obtain ⟨a0, c0, rfl⟩ := hS0.form
  have HAC : Hid (∀ i (hi : i < l0.length), ∃ g o, a0 = some ⟨g, o, none⟩ ∧ ∃ a : AW, ∃ ba bc ka kc, a.bv = .slice ba a.b.length bc ∧ a.kv = .slice ka a.keep.length kc ∧ (∀ x, Below w.heap.size w x → x.cell? ⟨g, o + i * 4, none⟩ = some (.int .i64 a.kind) ∧ x.cell? ⟨g, o + i * 4 + 1, none⟩ = some (.int .i64 a.n) ∧ x.cell? ⟨g, o + i * 4 + 2, none⟩ = some (.slice ba a.b.length bc) ∧ x.cell? ⟨g, o + i * 4 + 3, none⟩ = some (.slice ka a.keep.length kc)) ∧ IsY w a.bv a.b ∧ IsF w a.kv a.keep ∧ OkW a) := hide (fun i hi => by
    obtain ⟨g, o, e, _, h1, h2, h3⟩ := hS0.at_ i hi
    obtain ⟨ba, bc, eb⟩ := h2.form
    obtain ⟨ka, kc, ek⟩ := h3.form
    rw [eb, ek] at h1
    exact ⟨g, o, e, l0[i], ba, bc, ka, kc, eb, ek, h1, h2, h3, hO0 _ (List.getElem_mem hi)⟩)
  have HSM : Hid (∀ x (a : AW), Below w.heap.size w x → IsY w a.bv a.b → IsF w a.kv a.keep → Calls Try.prog 13 #[awA a] x fun e y => e = .returned (.bool (smallW a)) ∧ Hid (Below x.heap.size x y)) := hide (fun x a hb hy hf => (small17_any a x (hy.below hb) (hf.below hb)).mono fun e y hh => ⟨hh.1, hide hh.2⟩)
  have HAL := hide alive17_any
  have hw1 : wrap64 (1 + (q : Int)) = 1 + (q : Int) := by unfold wrap64; omega
  have hw2 : wrap64 (2 + (1 + (q : Int))) = 2 + (1 + (q : Int)) := by unfold wrap64; omega
  have HQ := hide hq2
  clear hS0 hO0 hm0 hp0 hq hq2
  go_enter Try.func3, Try.ntmps3
  go_wp2_with fail
  refine (HPK.out _).mono ?_
  rintro e x ⟨rfl, hx⟩
  have hx2 : w = x := hx.symm
  subst hx2
  clear hx
  have H1 := hide (HN.out w (Below.refl _ _))
  clear HPK HN
  go_wp2_with fail
  refine H1.out.mono ?_
  rintro e x1 ⟨p, rfl, L1⟩
  have H2 := hide (HRN.out _ x1 L1.out)
  clear H1 HRN L1
  go_wp2_with fail
  refine H2.out.mono ?_
  rintro e x2 ⟨r0, rfl, R0, I0, L2⟩
  obtain ⟨ra0, rc0, er0⟩ := I0.out.s.form
  obtain ⟨rl0, rd0, el0⟩ := I0.out.l.form
  have H3 := hide (HOP.out p x2 r0 L2.out I0.out R0.out)
  clear H2 HOP L2 I0
  obtain ⟨⟨rs, rl, rleft, rfu, rof⟩, rsv, rlv⟩ := r0
  simp only at er0 el0
  subst er0 el0
  generalize rs.length = rsl at *
  generalize rl.length = rll at *
  go_wp2_with fail
  refine H3.out.mono ?_
  rintro e y0 ⟨lp0, rfl, C8, H4⟩
  obtain ⟨s0, s1, s2, s3, s4, f0, f1, f2, f3, f4⟩ := dk_cells C8.out
  simp only [] at s0 s1 s2 s3 s4
  clear H3 C8
  go_wp2_with fail
  refine H4.out.mono ?_
  rintro e z0 ⟨g0, rfl, G0, W0⟩
  obtain ⟨_, _, _, _, k4⟩ := W0.out.k
  obtain ⟨ga0, gc0, eg0⟩ := k4.form
  have W1 := W0
  obtain ⟨gm0, gv0⟩ := g0
  have hgm := G0.out
  simp only at hgm eg0
  subst hgm eg0
  clear k4 H4 G0 W0 s0 s1 s2 s3 s4 f0 f1 f2 f3 f4
  generalize hR : x2.heap.size = R at *
  generalize hNN : (fun k : Nat => k = R ∨ k = z0.heap.size) = NN at *
  have HNN := hide hNN
  clear hR hNN
  generalize hgl : gm0.recs.length = grl at *
  clear hgl
  go_wp2
  go_loopw [10, 14] (fun v10 v14 wr => ∃ (i : Nat) (d : DM) (m : LM) (lp : Addr) (r : DV) (g : LgV), v10 = .pointer (some lp) ∧ v14 = .int .i64 (i : Int) ∧ Hid (i ≤ 40 ∧ i ≤ l0.length) ∧ Hid (PT q i d m) ∧ Hid (r.m = d ∧ g.m = m) ∧ Hid (WQ w p lp NN R z0.heap.size d m r g wr)) (fun _ v14 _ => 40 - (intOf v14).toNat)
  case atStart =>
    exact ⟨0, newD (3 + q), gm0, lp0, _, _, rfl, rfl, hide ⟨by omega, Nat.zero_le _⟩, HP0, hide ⟨R0.out, rfl⟩, W1⟩
  case round =>
    clear W1 R0 HP0
    obtain ⟨i, d, m, lp, r, g, rfl, rfl, HI, HPT, HEQ, HW⟩ := hrel
    by_cases hlt : i < l0.length ∧ i < 40
    · have hlt1 : (i : Int) < l0.length := by omega
      have hlt2 : (i : Int) < 40 := by omega
      obtain ⟨gA, oA, rfl, a, ba, bc, ka, kc, eb, ek, hcell, hY, hK, hok⟩ := HAC.out i hlt.1
      obtain ⟨k0, k1, k2, k3⟩ := hcell wr HW.out.b
      have hwi : wrap64 ((i : Int) + 1) = (i : Int) + 1 := by unfold wrap64; omega
      have HI2 : Hid (i + 1 ≤ 40 ∧ i + 1 ≤ l0.length) := hide (by omega)
      obtain ⟨kind, nn, b, keep, bv, kv⟩ := a
      simp only at eb ek k0 k1 k2 k3 hY hK hok
      subst eb ek
      have hal := below_alloc wr (actO kind nn ba b.length bc ka keep.length kc)
      have hbx : (wr.alloc (actO kind nn ba b.length bc ka keep.length kc)).heap[wr.heap.size]? = some (.cells #[.int .i64 kind, .int .i64 nn, .slice ba b.length bc, .slice ka keep.length kc] 46 (0, 0)) := alloc_new wr _
      have hszA : (wr.alloc (actO kind nn ba b.length bc ka keep.length kc)).heap.size = wr.heap.size + 1 := by simp
      have HS := hide (HSM.out (wr.alloc (actO kind nn ba b.length bc ka keep.length kc)) ⟨kind, nn, b, keep, .slice ba b.length bc, .slice ka keep.length kc⟩ (HW.out.b.trans (hal.mono HW.out.b.size)) hY hK)
      have HYY := hide hY
      have HKK := hide hK
      have HOK := hide hok
      have HAL2 := hide hal
      have HBX := hide hbx
      have HSZ := hide hszA
      clear hcell hY hK hok hal hbx hszA hlt
      by_cases hsm : smallW ⟨kind, nn, b, keep, .slice ba b.length bc, .slice ka keep.length kc⟩ = true
      · rw [hsm] at HS
        have HBL : Hid (b.length ≤ 600 ∧ keep.length ≤ 400) := hide (by
          unfold smallW at hsm
          rw [Bool.and_eq_true] at hsm
          exact ⟨of_decide_eq_true hsm.1, of_decide_eq_true hsm.2⟩)
        clear hsm
        obtain ⟨bl, hbl⟩ : ∃ bl, bl = b.length := ⟨_, rfl⟩
        have HBN := hide hbl
        rw [← hbl] at HS HYY HBX HAL2 HSZ k2
        obtain ⟨kl, hkl⟩ : ∃ kl, kl = keep.length := ⟨_, rfl⟩
        have HKN := hide hkl
        rw [← hkl] at HS HKK HBX HAL2 HSZ k3
        clear hbl hkl
        go_wp2_with fail
        refine HS.out.mono ?_
        rintro e y1 ⟨rfl, c1⟩
        have hby := HAL2.out.trans (c1.out.mono HAL2.out.size)
        have hqq : wr.heap.size < (wr.alloc (actO kind nn ba bl bc ka kl kc)).heap.size := by rw [HSZ.out]; exact Nat.lt_succ_self _
        have hbq := (c1.out.block wr.heap.size hqq).trans HBX.out
        have W3 := hide (HW.out.more hby wr.heap.size (Nat.le_refl _) (Nat.lt_of_lt_of_le hqq c1.out.size))
        have HBQ := hide hbq
        have HQL := hide (show wr.heap.size < y1.heap.size from Nat.lt_of_lt_of_le hqq c1.out.size)
        have HQR : Hid (wr.heap.size ≠ R ∧ wr.heap.size ≠ z0.heap.size) := hide ⟨fun e => by have := (HW.out.nl R HW.out.nr).2; omega, fun e => by have := (HW.out.nl z0.heap.size HW.out.ns).2; omega⟩
        clear HS HBX HAL2 HSZ hby hbq hqq c1 k0 k1 k2 k3 HW
        generalize hQ : wr.heap.size = Q at W3 HBQ HQL HQR
        obtain ⟨z0c, z1c, z2c, z3c⟩ := act_cells HBQ.out
        go_upto_block 2 with fail
        go_cut [10, 16, 17, 18, 19, 20] from 69 to 244 (fun v10 v16 v17 v18 v19 v20 wc => ∃ (d : DM) (m : LM) (lp : Addr) (r : DV) (g : LgV) (E : Int), v10 = .pointer (some lp) ∧ v16 = .int .i64 E ∧ v17 = .int .i64 E ∧ Hid (PT q (i + 1) d m) ∧ Hid (r.m = d ∧ g.m = m) ∧ Hid (WQ w p lp NN R z0.heap.size d m r g wc))
        case first =>
          rename_i JJ KK hJ hKm
          have HI40 : Hid (i ≤ 400) := hide (by have := HI.out; omega)
          clear z0c z1c z2c z3c HAC HSM HAL hL0
          by_cases c1 : kind = 1
          · subst c1
            refine wp_c1 w y1 p lp NN R z0.heap.size Q q i d m r g nn b keep ba ka bl bc kl kc HI40 HQ HPT HEQ W3 HNN HYY HKK HOK HBL HBN HKN HBQ HQL HQR _ _ _ _ _ _ _ _ _ _ _ _ _ _ _ _ _ _ _ _ _ _ _ _ _ _ _ _ _ _ _ _ _ _ _ _ _ _ _ _ _ _ _ _ _ _ _ _ _ _ _ _ _ _ _ _ _ _ _ _ _ _ _ _ _ _ _ _ _ _ _ _ _ _ _ _ _ _ _ _ _ _ _ _ _ _ _ _ _ _ _ _ _ _ _ _ _ _ _ _ _ _ _ _ _ _ _ _ _ _ _ _ _ _ _ _ _ _ _ _ _ _ _ _ _ _ _ _ _ _ _ _ _ _ _ _ _ _ _ _ _ _ _ _ _ _ _ _ _ _ _ _ _ _ _ _ _ _ _ _ _ _ _ _ _ _ _ _ _ _ _ _ _ _ _ _ _ _ _ _ _ _ _ _ _ _ _ _ _ _ _ _ _ _ _ _ _ _ _ _ _ _ _ _ _ _ _ _ _ _ _ _ _ _ _ _ _ _ _ _ _ _ _ _ _ _ _ _ _ _ _ _ _ _ _ _ _ _ _ ?_
            intro v10 v16 v17 v18 v19 v20 v69 v70 v71 v72 v73 v74 v75 v76 v77 v78 v79 v80 v81 v82 v83 v84 v85 v86 v87 v88 v89 v90 v91 v92 v93 v94 v95 v96 v97 v98 v99 v100 v101 v102 v103 v104 v105 v106 v107 v108 v109 v110 v111 v112 v113 v114 v115 v116 v117 v118 v119 v120 v121 v122 v123 v124 v125 v126 v127 v128 v129 v130 v131 v132 v133 v134 v135 v136 v137 v138 v139 v140 v141 v142 v143 v144 v145 v146 v147 v148 v149 v150 v151 v152 v153 v154 v155 v156 v157 v158 v159 v160 v161 v162 v163 v164 v165 v166 v167 v168 v169 v170 v171 v172 v173 v174 v175 v176 v177 v178 v179 v180 v181 v182 v183 v184 v185 v186 v187 v188 v189 v190 v191 v192 v193 v194 v195 v196 v197 v198 v199 v200 v201 v202 v203 v204 v205 v206 v207 v208 v209 v210 v211 v212 v213 v214 v215 v216 v217 v218 v219 v220 v221 v222 v223 v224 v225 v226 v227 v228 v229 v230 v231 v232 v233 v234 v235 v236 v237 v238 v239 v240 v241 v242 v243 v244 wc9
            rintro ⟨d9, m9, lp9, r9, g9, E9, h1, h2, h3, h4, h5, h6⟩
            exact hKm _ _ (hJ _ _ ⟨v10, v16, v17, v18, v19, v20, v69, v70, v71, v72, v73, v74, v75, v76, v77, v78, v79, v80, v81, v82, v83, v84, v85, v86, v87, v88, v89, v90, v91, v92, v93, v94, v95, v96, v97, v98, v99, v100, v101, v102, v103, v104, v105, v106, v107, v108, v109, v110, v111, v112, v113, v114, v115, v116, v117, v118, v119, v120, v121, v122, v123, v124, v125, v126, v127, v128, v129, v130, v131, v132, v133, v134, v135, v136, v137, v138, v139, v140, v141, v142, v143, v144, v145, v146, v147, v148, v149, v150, v151, v152, v153, v154, v155, v156, v157, v158, v159, v160, v161, v162, v163, v164, v165, v166, v167, v168, v169, v170, v171, v172, v173, v174, v175, v176, v177, v178, v179, v180, v181, v182, v183, v184, v185, v186, v187, v188, v189, v190, v191, v192, v193, v194, v195, v196, v197, v198, v199, v200, v201, v202, v203, v204, v205, v206, v207, v208, v209, v210, v211, v212, v213, v214, v215, v216, v217, v218, v219, v220, v221, v222, v223, v224, v225, v226, v227, v228, v229, v230, v231, v232, v233, v234, v235, v236, v237, v238, v239, v240, v241, v242, v243, v244, ⟨d9, m9, lp9, r9, g9, E9, h1, h2, h3, h4, h5, h6⟩, rfl⟩)
          · have n1 : (kind == 1) = false := by rw [beq_eq_false_iff_ne]; exact c1
            by_cases c2 : kind = 2
            · subst c2
              refine wp_c2 w y1 p lp NN R z0.heap.size Q q i d m r g nn b keep ba ka bl bc kl kc HI40 HQ HPT HEQ W3 HNN HYY HKK HOK HBL HBN HKN HBQ HQL HQR _ _ _ _ _ _ _ _ _ _ _ _ _ _ _ _ _ _ _ _ _ _ _ _ _ _ _ _ _ _ _ _ _ _ _ _ _ _ _ _ _ _ _ _ _ _ _ _ _ _ _ _ _ _ _ _ _ _ _ _ _ _ _ _ _ _ _ _ _ _ _ _ _ _ _ _ _ _ _ _ _ _ _ _ _ _ _ _ _ _ _ _ _ _ _ _ _ _ _ _ _ _ _ _ _ _ _ _ _ _ _ _ _ _ _ _ _ _ _ _ _ _ _ _ _ _ _ _ _ _ _ _ _ _ _ _ _ _ _ _ _ _ _ _ _ _ _ _ _ _ _ _ _ _ _ _ _ _ _ _ _ _ _ _ _ _ _ _ _ _ _ _ _ _ _ _ _ _ _ _ _ _ _ _ _ _ _ _ _ _ _ _ _ _ _ _ _ _ _ _ _ _ _ _ _ _ _ _ _ _ _ _ _ _ _ _ _ _ _ _ _ _ _ _ _ _ _ _ _ _ _ _ _ _ _ _ _ _ _ ?_
              intro v10 v16 v17 v18 v19 v20 v69 v70 v71 v72 v73 v74 v75 v76 v77 v78 v79 v80 v81 v82 v83 v84 v85 v86 v87 v88 v89 v90 v91 v92 v93 v94 v95 v96 v97 v98 v99 v100 v101 v102 v103 v104 v105 v106 v107 v108 v109 v110 v111 v112 v113 v114 v115 v116 v117 v118 v119 v120 v121 v122 v123 v124 v125 v126 v127 v128 v129 v130 v131 v132 v133 v134 v135 v136 v137 v138 v139 v140 v141 v142 v143 v144 v145 v146 v147 v148 v149 v150 v151 v152 v153 v154 v155 v156 v157 v158 v159 v160 v161 v162 v163 v164 v165 v166 v167 v168 v169 v170 v171 v172 v173 v174 v175 v176 v177 v178 v179 v180 v181 v182 v183 v184 v185 v186 v187 v188 v189 v190 v191 v192 v193 v194 v195 v196 v197 v198 v199 v200 v201 v202 v203 v204 v205 v206 v207 v208 v209 v210 v211 v212 v213 v214 v215 v216 v217 v218 v219 v220 v221 v222 v223 v224 v225 v226 v227 v228 v229 v230 v231 v232 v233 v234 v235 v236 v237 v238 v239 v240 v241 v242 v243 v244 wc9
              rintro ⟨d9, m9, lp9, r9, g9, E9, h1, h2, h3, h4, h5, h6⟩
              exact hKm _ _ (hJ _ _ ⟨v10, v16, v17, v18, v19, v20, v69, v70, v71, v72, v73, v74, v75, v76, v77, v78, v79, v80, v81, v82, v83, v84, v85, v86, v87, v88, v89, v90, v91, v92, v93, v94, v95, v96, v97, v98, v99, v100, v101, v102, v103, v104, v105, v106, v107, v108, v109, v110, v111, v112, v113, v114, v115, v116, v117, v118, v119, v120, v121, v122, v123, v124, v125, v126, v127, v128, v129, v130, v131, v132, v133, v134, v135, v136, v137, v138, v139, v140, v141, v142, v143, v144, v145, v146, v147, v148, v149, v150, v151, v152, v153, v154, v155, v156, v157, v158, v159, v160, v161, v162, v163, v164, v165, v166, v167, v168, v169, v170, v171, v172, v173, v174, v175, v176, v177, v178, v179, v180, v181, v182, v183, v184, v185, v186, v187, v188, v189, v190, v191, v192, v193, v194, v195, v196, v197, v198, v199, v200, v201, v202, v203, v204, v205, v206, v207, v208, v209, v210, v211, v212, v213, v214, v215, v216, v217, v218, v219, v220, v221, v222, v223, v224, v225, v226, v227, v228, v229, v230, v231, v232, v233, v234, v235, v236, v237, v238, v239, v240, v241, v242, v243, v244, ⟨d9, m9, lp9, r9, g9, E9, h1, h2, h3, h4, h5, h6⟩, rfl⟩)
            · have n2 : (kind == 2) = false := by rw [beq_eq_false_iff_ne]; exact c2
              by_cases c3 : kind = 3
              · subst c3
                refine wp_c3 w y1 p lp NN R z0.heap.size Q q i d m r g nn b keep ba ka bl bc kl kc HI40 HQ HPT HEQ W3 HNN HYY HKK HOK HBL HBN HKN HBQ HQL HQR _ _ _ _ _ _ _ _ _ _ _ _ _ _ _ _ _ _ _ _ _ _ _ _ _ _ _ _ _ _ _ _ _ _ _ _ _ _ _ _ _ _ _ _ _ _ _ _ _ _ _ _ _ _ _ _ _ _ _ _ _ _ _ _ _ _ _ _ _ _ _ _ _ _ _ _ _ _ _ _ _ _ _ _ _ _ _ _ _ _ _ _ _ _ _ _ _ _ _ _ _ _ _ _ _ _ _ _ _ _ _ _ _ _ _ _ _ _ _ _ _ _ _ _ _ _ _ _ _ _ _ _ _ _ _ _ _ _ _ _ _ _ _ _ _ _ _ _ _ _ _ _ _ _ _ _ _ _ _ _ _ _ _ _ _ _ _ _ _ _ _ _ _ _ _ _ _ _ _ _ _ _ _ _ _ _ _ _ _ _ _ _ _ _ _ _ _ _ _ _ _ _ _ _ _ _ _ _ _ _ _ _ _ _ _ _ _ _ _ _ _ _ _ _ _ _ _ _ _ _ _ _ _ _ _ _ _ _ _ ?_
                intro v10 v16 v17 v18 v19 v20 v69 v70 v71 v72 v73 v74 v75 v76 v77 v78 v79 v80 v81 v82 v83 v84 v85 v86 v87 v88 v89 v90 v91 v92 v93 v94 v95 v96 v97 v98 v99 v100 v101 v102 v103 v104 v105 v106 v107 v108 v109 v110 v111 v112 v113 v114 v115 v116 v117 v118 v119 v120 v121 v122 v123 v124 v125 v126 v127 v128 v129 v130 v131 v132 v133 v134 v135 v136 v137 v138 v139 v140 v141 v142 v143 v144 v145 v146 v147 v148 v149 v150 v151 v152 v153 v154 v155 v156 v157 v158 v159 v160 v161 v162 v163 v164 v165 v166 v167 v168 v169 v170 v171 v172 v173 v174 v175 v176 v177 v178 v179 v180 v181 v182 v183 v184 v185 v186 v187 v188 v189 v190 v191 v192 v193 v194 v195 v196 v197 v198 v199 v200 v201 v202 v203 v204 v205 v206 v207 v208 v209 v210 v211 v212 v213 v214 v215 v216 v217 v218 v219 v220 v221 v222 v223 v224 v225 v226 v227 v228 v229 v230 v231 v232 v233 v234 v235 v236 v237 v238 v239 v240 v241 v242 v243 v244 wc9
                rintro ⟨d9, m9, lp9, r9, g9, E9, h1, h2, h3, h4, h5, h6⟩
                exact hKm _ _ (hJ _ _ ⟨v10, v16, v17, v18, v19, v20, v69, v70, v71, v72, v73, v74, v75, v76, v77, v78, v79, v80, v81, v82, v83, v84, v85, v86, v87, v88, v89, v90, v91, v92, v93, v94, v95, v96, v97, v98, v99, v100, v101, v102, v103, v104, v105, v106, v107, v108, v109, v110, v111, v112, v113, v114, v115, v116, v117, v118, v119, v120, v121, v122, v123, v124, v125, v126, v127, v128, v129, v130, v131, v132, v133, v134, v135, v136, v137, v138, v139, v140, v141, v142, v143, v144, v145, v146, v147, v148, v149, v150, v151, v152, v153, v154, v155, v156, v157, v158, v159, v160, v161, v162, v163, v164, v165, v166, v167, v168, v169, v170, v171, v172, v173, v174, v175, v176, v177, v178, v179, v180, v181, v182, v183, v184, v185, v186, v187, v188, v189, v190, v191, v192, v193, v194, v195, v196, v197, v198, v199, v200, v201, v202, v203, v204, v205, v206, v207, v208, v209, v210, v211, v212, v213, v214, v215, v216, v217, v218, v219, v220, v221, v222, v223, v224, v225, v226, v227, v228, v229, v230, v231, v232, v233, v234, v235, v236, v237, v238, v239, v240, v241, v242, v243, v244, ⟨d9, m9, lp9, r9, g9, E9, h1, h2, h3, h4, h5, h6⟩, rfl⟩)
              · have n3 : (kind == 3) = false := by rw [beq_eq_false_iff_ne]; exact c3
                by_cases c4 : kind = 4
                · subst c4
                  refine wp_c4 w y1 p lp NN R z0.heap.size Q q i d m r g nn b keep ba ka bl bc kl kc HI40 HQ HPT HEQ W3 HNN HYY HKK HOK HBL HBN HKN HBQ HQL HQR _ _ _ _ _ _ _ _ _ _ _ _ _ _ _ _ _ _ _ _ _ _ _ _ _ _ _ _ _ _ _ _ _ _ _ _ _ _ _ _ _ _ _ _ _ _ _ _ _ _ _ _ _ _ _ _ _ _ _ _ _ _ _ _ _ _ _ _ _ _ _ _ _ _ _ _ _ _ _ _ _ _ _ _ _ _ _ _ _ _ _ _ _ _ _ _ _ _ _ _ _ _ _ _ _ _ _ _ _ _ _ _ _ _ _ _ _ _ _ _ _ _ _ _ _ _ _ _ _ _ _ _ _ _ _ _ _ _ _ _ _ _ _ _ _ _ _ _ _ _ _ _ _ _ _ _ _ _ _ _ _ _ _ _ _ _ _ _ _ _ _ _ _ _ _ _ _ _ _ _ _ _ _ _ _ _ _ _ _ _ _ _ _ _ _ _ _ _ _ _ _ _ _ _ _ _ _ _ _ _ _ _ _ _ _ _ _ _ _ _ _ _ _ _ _ _ _ _ _ _ _ _ _ _ _ _ _ _ _ ?_
                  intro v10 v16 v17 v18 v19 v20 v69 v70 v71 v72 v73 v74 v75 v76 v77 v78 v79 v80 v81 v82 v83 v84 v85 v86 v87 v88 v89 v90 v91 v92 v93 v94 v95 v96 v97 v98 v99 v100 v101 v102 v103 v104 v105 v106 v107 v108 v109 v110 v111 v112 v113 v114 v115 v116 v117 v118 v119 v120 v121 v122 v123 v124 v125 v126 v127 v128 v129 v130 v131 v132 v133 v134 v135 v136 v137 v138 v139 v140 v141 v142 v143 v144 v145 v146 v147 v148 v149 v150 v151 v152 v153 v154 v155 v156 v157 v158 v159 v160 v161 v162 v163 v164 v165 v166 v167 v168 v169 v170 v171 v172 v173 v174 v175 v176 v177 v178 v179 v180 v181 v182 v183 v184 v185 v186 v187 v188 v189 v190 v191 v192 v193 v194 v195 v196 v197 v198 v199 v200 v201 v202 v203 v204 v205 v206 v207 v208 v209 v210 v211 v212 v213 v214 v215 v216 v217 v218 v219 v220 v221 v222 v223 v224 v225 v226 v227 v228 v229 v230 v231 v232 v233 v234 v235 v236 v237 v238 v239 v240 v241 v242 v243 v244 wc9
                  rintro ⟨d9, m9, lp9, r9, g9, E9, h1, h2, h3, h4, h5, h6⟩
                  exact hKm _ _ (hJ _ _ ⟨v10, v16, v17, v18, v19, v20, v69, v70, v71, v72, v73, v74, v75, v76, v77, v78, v79, v80, v81, v82, v83, v84, v85, v86, v87, v88, v89, v90, v91, v92, v93, v94, v95, v96, v97, v98, v99, v100, v101, v102, v103, v104, v105, v106, v107, v108, v109, v110, v111, v112, v113, v114, v115, v116, v117, v118, v119, v120, v121, v122, v123, v124, v125, v126, v127, v128, v129, v130, v131, v132, v133, v134, v135, v136, v137, v138, v139, v140, v141, v142, v143, v144, v145, v146, v147, v148, v149, v150, v151, v152, v153, v154, v155, v156, v157, v158, v159, v160, v161, v162, v163, v164, v165, v166, v167, v168, v169, v170, v171, v172, v173, v174, v175, v176, v177, v178, v179, v180, v181, v182, v183, v184, v185, v186, v187, v188, v189, v190, v191, v192, v193, v194, v195, v196, v197, v198, v199, v200, v201, v202, v203, v204, v205, v206, v207, v208, v209, v210, v211, v212, v213, v214, v215, v216, v217, v218, v219, v220, v221, v222, v223, v224, v225, v226, v227, v228, v229, v230, v231, v232, v233, v234, v235, v236, v237, v238, v239, v240, v241, v242, v243, v244, ⟨d9, m9, lp9, r9, g9, E9, h1, h2, h3, h4, h5, h6⟩, rfl⟩)
                · have n4 : (kind == 4) = false := by rw [beq_eq_false_iff_ne]; exact c4
                  by_cases c5 : kind = 5
                  · subst c5
                    refine wp_c5 w y1 p lp NN R z0.heap.size Q q i d m r g nn b keep ba ka bl bc kl kc HI40 HQ HPT HEQ W3 HNN HYY HKK HOK HBL HBN HKN HBQ HQL HQR _ _ _ _ _ _ _ _ _ _ _ _ _ _ _ _ _ _ _ _ _ _ _ _ _ _ _ _ _ _ _ _ _ _ _ _ _ _ _ _ _ _ _ _ _ _ _ _ _ _ _ _ _ _ _ _ _ _ _ _ _ _ _ _ _ _ _ _ _ _ _ _ _ _ _ _ _ _ _ _ _ _ _ _ _ _ _ _ _ _ _ _ _ _ _ _ _ _ _ _ _ _ _ _ _ _ _ _ _ _ _ _ _ _ _ _ _ _ _ _ _ _ _ _ _ _ _ _ _ _ _ _ _ _ _ _ _ _ _ _ _ _ _ _ _ _ _ _ _ _ _ _ _ _ _ _ _ _ _ _ _ _ _ _ _ _ _ _ _ _ _ _ _ _ _ _ _ _ _ _ _ _ _ _ _ _ _ _ _ _ _ _ _ _ _ _ _ _ _ _ _ _ _ _ _ _ _ _ _ _ _ _ _ _ _ _ _ _ _ _ _ _ _ _ _ _ _ _ _ _ _ _ _ _ _ _ _ _ _ ?_
                    intro v10 v16 v17 v18 v19 v20 v69 v70 v71 v72 v73 v74 v75 v76 v77 v78 v79 v80 v81 v82 v83 v84 v85 v86 v87 v88 v89 v90 v91 v92 v93 v94 v95 v96 v97 v98 v99 v100 v101 v102 v103 v104 v105 v106 v107 v108 v109 v110 v111 v112 v113 v114 v115 v116 v117 v118 v119 v120 v121 v122 v123 v124 v125 v126 v127 v128 v129 v130 v131 v132 v133 v134 v135 v136 v137 v138 v139 v140 v141 v142 v143 v144 v145 v146 v147 v148 v149 v150 v151 v152 v153 v154 v155 v156 v157 v158 v159 v160 v161 v162 v163 v164 v165 v166 v167 v168 v169 v170 v171 v172 v173 v174 v175 v176 v177 v178 v179 v180 v181 v182 v183 v184 v185 v186 v187 v188 v189 v190 v191 v192 v193 v194 v195 v196 v197 v198 v199 v200 v201 v202 v203 v204 v205 v206 v207 v208 v209 v210 v211 v212 v213 v214 v215 v216 v217 v218 v219 v220 v221 v222 v223 v224 v225 v226 v227 v228 v229 v230 v231 v232 v233 v234 v235 v236 v237 v238 v239 v240 v241 v242 v243 v244 wc9
                    rintro ⟨d9, m9, lp9, r9, g9, E9, h1, h2, h3, h4, h5, h6⟩
                    exact hKm _ _ (hJ _ _ ⟨v10, v16, v17, v18, v19, v20, v69, v70, v71, v72, v73, v74, v75, v76, v77, v78, v79, v80, v81, v82, v83, v84, v85, v86, v87, v88, v89, v90, v91, v92, v93, v94, v95, v96, v97, v98, v99, v100, v101, v102, v103, v104, v105, v106, v107, v108, v109, v110, v111, v112, v113, v114, v115, v116, v117, v118, v119, v120, v121, v122, v123, v124, v125, v126, v127, v128, v129, v130, v131, v132, v133, v134, v135, v136, v137, v138, v139, v140, v141, v142, v143, v144, v145, v146, v147, v148, v149, v150, v151, v152, v153, v154, v155, v156, v157, v158, v159, v160, v161, v162, v163, v164, v165, v166, v167, v168, v169, v170, v171, v172, v173, v174, v175, v176, v177, v178, v179, v180, v181, v182, v183, v184, v185, v186, v187, v188, v189, v190, v191, v192, v193, v194, v195, v196, v197, v198, v199, v200, v201, v202, v203, v204, v205, v206, v207, v208, v209, v210, v211, v212, v213, v214, v215, v216, v217, v218, v219, v220, v221, v222, v223, v224, v225, v226, v227, v228, v229, v230, v231, v232, v233, v234, v235, v236, v237, v238, v239, v240, v241, v242, v243, v244, ⟨d9, m9, lp9, r9, g9, E9, h1, h2, h3, h4, h5, h6⟩, rfl⟩)
                  · have n5 : (kind == 5) = false := by rw [beq_eq_false_iff_ne]; exact c5
                    refine wp_c0 w y1 p lp NN R z0.heap.size Q q i d m r g kind nn b keep ba ka bl bc kl kc HI40 HQ HPT HEQ W3 HNN HYY HKK HOK HBL HBN HKN HBQ HQL HQR n1 n2 n3 n4 n5 _ _ _ _ _ _ _ _ _ _ _ _ _ _ _ _ _ _ _ _ _ _ _ _ _ _ _ _ _ _ _ _ _ _ _ _ _ _ _ _ _ _ _ _ _ _ _ _ _ _ _ _ _ _ _ _ _ _ _ _ _ _ _ _ _ _ _ _ _ _ _ _ _ _ _ _ _ _ _ _ _ _ _ _ _ _ _ _ _ _ _ _ _ _ _ _ _ _ _ _ _ _ _ _ _ _ _ _ _ _ _ _ _ _ _ _ _ _ _ _ _ _ _ _ _ _ _ _ _ _ _ _ _ _ _ _ _ _ _ _ _ _ _ _ _ _ _ _ _ _ _ _ _ _ _ _ _ _ _ _ _ _ _ _ _ _ _ _ _ _ _ _ _ _ _ _ _ _ _ _ _ _ _ _ _ _ _ _ _ _ _ _ _ _ _ _ _ _ _ _ _ _ _ _ _ _ _ _ _ _ _ _ _ _ _ _ _ _ _ _ _ _ _ _ _ _ _ _ _ _ _ _ _ _ _ _ _ _ _ ?_
                    intro v10 v16 v17 v18 v19 v20 v69 v70 v71 v72 v73 v74 v75 v76 v77 v78 v79 v80 v81 v82 v83 v84 v85 v86 v87 v88 v89 v90 v91 v92 v93 v94 v95 v96 v97 v98 v99 v100 v101 v102 v103 v104 v105 v106 v107 v108 v109 v110 v111 v112 v113 v114 v115 v116 v117 v118 v119 v120 v121 v122 v123 v124 v125 v126 v127 v128 v129 v130 v131 v132 v133 v134 v135 v136 v137 v138 v139 v140 v141 v142 v143 v144 v145 v146 v147 v148 v149 v150 v151 v152 v153 v154 v155 v156 v157 v158 v159 v160 v161 v162 v163 v164 v165 v166 v167 v168 v169 v170 v171 v172 v173 v174 v175 v176 v177 v178 v179 v180 v181 v182 v183 v184 v185 v186 v187 v188 v189 v190 v191 v192 v193 v194 v195 v196 v197 v198 v199 v200 v201 v202 v203 v204 v205 v206 v207 v208 v209 v210 v211 v212 v213 v214 v215 v216 v217 v218 v219 v220 v221 v222 v223 v224 v225 v226 v227 v228 v229 v230 v231 v232 v233 v234 v235 v236 v237 v238 v239 v240 v241 v242 v243 v244 wc9
                    rintro ⟨d9, m9, lp9, r9, g9, E9, h1, h2, h3, h4, h5, h6⟩
                    exact hKm _ _ (hJ _ _ ⟨v10, v16, v17, v18, v19, v20, v69, v70, v71, v72, v73, v74, v75, v76, v77, v78, v79, v80, v81, v82, v83, v84, v85, v86, v87, v88, v89, v90, v91, v92, v93, v94, v95, v96, v97, v98, v99, v100, v101, v102, v103, v104, v105, v106, v107, v108, v109, v110, v111, v112, v113, v114, v115, v116, v117, v118, v119, v120, v121, v122, v123, v124, v125, v126, v127, v128, v129, v130, v131, v132, v133, v134, v135, v136, v137, v138, v139, v140, v141, v142, v143, v144, v145, v146, v147, v148, v149, v150, v151, v152, v153, v154, v155, v156, v157, v158, v159, v160, v161, v162, v163, v164, v165, v166, v167, v168, v169, v170, v171, v172, v173, v174, v175, v176, v177, v178, v179, v180, v181, v182, v183, v184, v185, v186, v187, v188, v189, v190, v191, v192, v193, v194, v195, v196, v197, v198, v199, v200, v201, v202, v203, v204, v205, v206, v207, v208, v209, v210, v211, v212, v213, v214, v215, v216, v217, v218, v219, v220, v221, v222, v223, v224, v225, v226, v227, v228, v229, v230, v231, v232, v233, v234, v235, v236, v237, v238, v239, v240, v241, v242, v243, v244, ⟨d9, m9, lp9, r9, g9, E9, h1, h2, h3, h4, h5, h6⟩, rfl⟩)
        case rest =>
          clear HYY HKK HOK HBL HBN HKN HBQ HQL HQR z0c z1c z2c z3c W3 HPT HEQ
          obtain ⟨wA, hwA⟩ : ∃ wA, wA = wc := ⟨_, rfl⟩
          subst hwA
          obtain ⟨d2, m2, lp2, r2, g2, E, rfl, rfl, rfl, HP2, HE2, W2⟩ := hcut
          rename_i K4 hK4
          refine hK4 _ _ ?_
          refine wp_rest w wA p lp2 NN R z0.heap.size q i d2 m2 r2 g2 E HQ HP2 HE2 W2 _ _ _ _ _ _ _ _ _ _ _ _ _ _ _ _ _ _ _ _ _ _ _ _ _ _ _ _ _ _ _ _ _ _ _ _ _ _ _ _ _ _ _ _ _ _ _ _ _ _ _ _ _ _ _ _ _ _ _ _ _ _ _ _ _ _ _ _ _ _ _ _ _ _ _ _ _ _ _ _ _ _ _ _ _ _ _ _ _ _ _ _ _ _ _ _ _ _ _ _ _ _ _ _ _ _ _ _ _ _ _ _ _ _ _ _ _ _ _ _ _ _ _ _ _ _ _ _ _ _ _ _ _ _ _ _ _ _ _ _ _ _ _ _ _ _ _ _ _ _ _ _ _ _ _ _ _ _ _ _ _ _ _ _ _ _ _ _ _ _ _ _ _ _ _ _ _ _ _ _ _ _ _ _ _ _ _ _ _ _ _ _ _ _ _ _ _ _ _ _ _ _ _ _ _ _ _ _ _ _ _ _ _ _ _ _ _ _ _ _ _ _ _ _ _ _ _ _ _ _ _ _ _ _ _ _ _ _ _ _ _ _ (fun ch a b x hd h => ⟨hd.symm.trans h.1, h.2⟩) ?_
          intro v4 v21 v22 v23 v180 v181 v182 v183 v184 v185 v186 v187 v188 v189 v190 v191 v192 v193 v194 v195 v196 v197 v198 v199 v200 v201 v202 v203 v204 v205 v206 v207 v208 v209 v210 v211 v212 v213 v214 v215 v216 v217 v218 v219 v220 v221 v222 v223 v224 v225 v226 v227 v228 v229 v230 v231 v232 v233 v234 v235 v236 v237 v238 v239 v240 v241 v242 v243 v244 wz9
          rintro ⟨d9, m9, r9, g9, h4, h5, h6⟩
          go_wp2
          go_roundw
          case rel => exact ⟨i + 1, d9, m9, lp2, r9, g9, rfl, congrArg (Value.int .i64) (Int.natCast_succ i).symm, HI2, h4, h5, h6⟩
          case measure => exact loop_down4 HI2.out.1
      · have hsf : smallW ⟨kind, nn, b, keep, .slice ba b.length bc, .slice ka keep.length kc⟩ = false := Bool.eq_false_iff.2 hsm
        rw [hsf] at HS
        have HPN := hide HPT.out.next
        clear hsm hsf HPT HAL HBX HSZ
        go_wp2_with fail
        refine HS.out.mono ?_
        rintro e y1 ⟨rfl, c1⟩
        have W1 := hide (HW.out.below (HAL2.out.trans (c1.out.mono HAL2.out.size)))
        clear HS HAL2 c1 k0 k1 k2 k3 HW
        go_wp2
        go_roundw
        case rel => exact ⟨i + 1, d, m, lp, r, g, rfl, congrArg (Value.int .i64) (Int.natCast_succ i).symm, HI2, HPN, HEQ, W1⟩
        case measure => exact loop_down4 HI2.out.1
    · rcases (by omega : ¬ ((i : Int) < l0.length) ∨ ((i : Int) < l0.length ∧ ¬ (i : Int) < 40)) with hq | ⟨hq, hq3⟩
      all_goals
        have HB0 := hide HW.out.b
        clear HAC HSM HPT HEQ HW HI
        go_wp2_with fail
        refine (HAL.out _).mono ?_
        rintro e y1 ⟨rfl, b1⟩
        have HFIN := hide (HB0.out.trans (b1.mono HB0.out.size))
        clear HAL b1
        go_wp2
        go_ret
        exact ⟨rfl, HFIN.out⟩
end Go.Proofs.Ythpepkfodcgbcaa
