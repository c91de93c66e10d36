import Derived.Test.YthpepkfodcgbcaaWxU
import Derived.Deep.RegionHeld2
import Derived.Deep.CutRange
import Derived.Deep.CutBlock
/- WalPlays, in parts: what is picked out of its body. -/
set_option linter.unusedVariables false
set_option linter.unusedSimpArgs false
set_option maxRecDepth 40000
namespace Go.Proofs.Ythpepkfodcgbcaa
open Go.RowKit

theorem act_cells {x : World} {Q : Nat} {kind nn : Int} {ba ka : Option Addr} {bl bc kl kc : Nat} (h : x.heap[Q]? = some (.cells #[.int .i64 kind, .int .i64 nn, .slice ba bl bc, .slice ka kl kc] 46 (0, 0))) : x.cell? ⟨Q, 0, none⟩ = some (.int .i64 kind) ∧ x.cell? ⟨Q, 1, none⟩ = some (.int .i64 nn) ∧ x.cell? ⟨Q, 2, none⟩ = some (.slice ba bl bc) ∧ x.cell? ⟨Q, 3, none⟩ = some (.slice ka kl kc) := by
  refine ⟨?_, ?_, ?_, ?_⟩ <;> simp [World.cell?, h]
theorem and3 (nn : Int) : ∃ t : Nat, t ≤ 3 ∧ bits BinOp.and IntKind.i64 nn 3 = (t : Int) := by
  have h1 : (BitVec.ofInt 64 nn &&& BitVec.ofInt 64 3).toNat ≤ 3 := by
    rw [BitVec.toNat_and]
    exact Nat.le_trans Nat.and_le_right (by decide)
  refine ⟨(BitVec.ofInt 64 nn &&& BitVec.ofInt 64 3).toNat, h1, ?_⟩
  show IntKind.i64.wrap ((BitVec.ofInt 64 nn &&& BitVec.ofInt 64 3).toNat : Int) = _
  rw [IntKind.wrap_i64]
  omega
theorem ep_fit {e t i : Nat} (he : e ≤ 1 + 3 * i) (ht : t ≤ 3) (hi : i ≤ 400) : e + t < 18446744073709551616 ∧ IntKind.u64.wrap ((e : Int) + (t : Int)) = (e : Int) + (t : Int) ∧ IntKind.u64.wrap (t : Int) = (t : Int) := by
  refine ⟨by omega, ?_, ?_⟩
  · show ((e : Int) + t) % 18446744073709551616 = _
    omega
  · show (t : Int) % 18446744073709551616 = _
    omega
theorem loop_down {n k : Nat} (h : k < n) : n - (intOf (.int .i64 ((k : Int) + 1))).toNat < n - (intOf (.int .i64 (k : Int))).toNat := by
  have e1 : (intOf (.int .i64 ((k : Int) + 1))).toNat = k + 1 := by show ((k : Int) + 1).toNat = _; omega
  have e2 : (intOf (.int .i64 (k : Int))).toNat = k := by show (k : Int).toNat = _; omega
  omega
theorem loop_down4 {k : Nat} (h : k + 1 ≤ 40) : 40 - (intOf (.int .i64 ((k : Int) + 1))).toNat < 40 - (intOf (.int .i64 (k : Int))).toNat := loop_down h
abbrev actO (kind nn : Int) (ba : Option Addr) (bl bc : Nat) (ka : Option Addr) (kl kc : Nat) : Obj := .cells #[.int .i64 kind, .int .i64 nn, .slice ba bl bc, .slice ka kl kc] 46
/-- One's own bytes are being written over. -/
structure OwnS (w : World) (p lp : Addr) (N : Nat → Prop) (R S : Nat) (d : DM) (m : LM) (r : DV) (g : LgV) (B : Nat) (ov : Value) (bl : Nat) (x : World) : Prop where
  q : WQ w p lp N R S d m r g x
  n : ∃ bs : Bs, bs.length = bl ∧ NewY B x ov bs
  s : 0 < bl → ∀ j, ov.ownBlock = some j → NoStr x j
theorem OwnS.step {w x : World} {p lp : Addr} {N : Nat → Prop} {R S B : Nat} {d : DM} {m : LM} {r : DV} {g : LgV} {a : Option Addr} {bl c : Nat} (h : OwnS w p lp N R S d m r g B (.slice a bl c) bl x) (hN : ∀ k, (Value.slice a bl c).ownBlock = some k → N k ∧ k ≠ R ∧ k ≠ S) (k : Nat) (hk : k < bl) : ∃ G o u, a = some ⟨G, o, none⟩ ∧ x.cell? ⟨G, o + k, none⟩ = some u ∧ x.frozen? ⟨G, o + k, none⟩ = false ∧ OwnS w p lp N R S d m r g B (.slice a bl c) bl (x.setCell ⟨G, o + k, none⟩ (.int .u8 77)) := by
  obtain ⟨bs, hb, hn⟩ := h.n
  obtain ⟨G, o, rfl, _, _, _, hc, hf, hs⟩ := hn.at_ k (by omega) 77
  obtain ⟨n1, n2, n3⟩ := hN G rfl
  obtain ⟨w1, w2⟩ := h.q.write (o := o + k) n1 n2 n3 (h.s (by omega) G rfl) (u := .int .u8 77) ⟨_, _, rfl⟩
  exact ⟨G, o, _, rfl, hc, hf, w1, ⟨_, by rw [List.length_set]; exact hb, hs⟩, fun _ j hj => by cases hj; exact w2⟩
section
variable {w x y : World} {p lp : Addr} {N : Nat → Prop} {R S : Nat} {d : DM} {m : LM} {r : DV} {g : LgV}
theorem wq_records (h : WQ w p lp N R S d m r g x) (hr : m.recs.length ≤ 100000) : Calls Try.prog 24 #[.pointer (some lp)] x fun e y => ∃ a c, e = .returned (.slice a m.recs.length c) ∧ Hid (Told x (.slice a m.recs.length c) (m.recs.map List.length) y) ∧ Hid (IsRs (fun _ => True) y (.slice a m.recs.length c) m.recs) ∧ Hid (Below x.heap.size x y) := by
  obtain ⟨A, ⟨B, C, h1, h2, h3, h4⟩, _⟩ := h.k
  refine (precords_any C _ _ m x h2 hr).mono ?_
  rintro e y ⟨a, c, rfl, hn, hb⟩
  exact ⟨a, c, rfl, hide (told_start hn hb), hide hn.isRs, hide hb⟩
theorem wq_room (h : WQ w p lp N R S d m r g x) (hO : OkG m) : Calls Try.prog 26 #[.pointer (some lp)] x fun e y => e = .returned (.int .i64 (roomW m : Int)) ∧ Hid (Below x.heap.size x y) := by
  obtain ⟨A, ⟨B, C, h1, h2, h3, h4⟩, _⟩ := h.k
  exact (proom_any C _ _ m x h2 hO).mono fun e y hh => ⟨hh.1, hide hh.2⟩
theorem wq_life (h : WQ w p lp N R S d m r g x) : Calls Try.prog 28 #[.pointer (some lp)] x fun e y => e = .returned (.int .u64 (m.li : Int)) ∧ Hid (Below x.heap.size x y) := by
  obtain ⟨A, ⟨B, C, h1, h2, h3, h4⟩, _⟩ := h.k
  exact (plife_any C _ _ m x h2).mono fun e y hh => ⟨hh.1, hide hh.2⟩
theorem wq_epoch (h : WQ w p lp N R S d m r g x) : Calls Try.prog 29 #[.pointer (some lp)] x fun e y => e = .returned (.int .u64 (m.ep : Int)) ∧ Hid (Below x.heap.size x y) := by
  obtain ⟨A, ⟨B, C, h1, h2, h3, h4⟩, _⟩ := h.k
  exact (pepoch_any C _ _ m x h2).mono fun e y hh => ⟨hh.1, hide hh.2⟩
theorem wq_dump (h : WQ w p lp N R S d m r g x) (hF : Fit d) : Calls Try.prog 30 #[.pointer (some p)] x fun e y => ∃ u c, e = .returned (.slice u (dumpD d).length c) ∧ Hid (NewY x.heap.size y (.slice u (dumpD d).length c) (dumpD d)) ∧ Hid (Below x.heap.size x y) := by
  obtain ⟨A, ⟨B, C, h1, h2, h3, h4⟩, _⟩ := h.k
  refine (pdump_any B _ d x h1 hF).mono ?_
  rintro e y ⟨u, rfl, hn, hb⟩
  obtain ⟨ua, uc, rfl⟩ := hn.form
  exact ⟨ua, uc, rfl, hide hn, hide hb⟩
theorem wq_rdump (h : WQ w p lp N R S d m r g x) (hF : Fit r.m) : Calls Try.prog 31 #[dkA r] x fun e y => ∃ u c, e = .returned (.slice u (dumpD r.m).length c) ∧ Hid (NewY x.heap.size y (.slice u (dumpD r.m).length c) (dumpD r.m)) ∧ Hid (Below x.heap.size x y) := by
  refine (rdump_any r x h.i hF.ok hF.s hF.l).mono ?_
  rintro e y ⟨v, rfl, ho, hb⟩
  obtain ⟨ua, uc, rfl⟩ := owns_formG ho
  exact ⟨ua, uc, rfl, hide (owns_newY ho), hide hb⟩
end
/-- A block of a body, and what follows it. -/
def blockOf (k : Nat) : Code → Option Code
  | .block j c => if j == k then some (.block j c) else blockOf k c
  | .seq a b => match blockOf k a with
    | some c => some c
    | none => blockOf k b
  | .loop c => blockOf k c
  | .scope c => blockOf k c
  | .cond _ a b => match blockOf k a with
    | some c => some c
    | none => blockOf k b
  | _ => none
def isBlock (k : Nat) : Code → Bool
  | .block j _ => j == k
  | .seq _ b => isBlock k b
  | _ => false
def behindBlock (k : Nat) : Code → Option Code
  | .block j c => behindBlock k c
  | .seq a b => if isBlock k a then some b else match behindBlock k a with
    | some c => some c
    | none => behindBlock k b
  | .loop c => behindBlock k c
  | .scope c => behindBlock k c
  | .cond _ a b => match behindBlock k a with
    | some c => some c
    | none => behindBlock k b
  | _ => none
end Go.Proofs.Ythpepkfodcgbcaa
/- WalPlays, in parts: a record appended. -/
set_option linter.unusedVariables false
set_option linter.unusedSimpArgs false
set_option maxRecDepth 40000
namespace Go.Proofs.Ythpepkfodcgbcaa
open Go.RowKit

set_option maxHeartbeats 8000000 in
theorem wp_c1 (w y1 : World) (p lp : Addr) (NN : Nat → Prop) (R S Q q i : Nat) (d : DM) (m : LM) (r : DV) (g : LgV) (nn : Int) (b : Bs) (keep : List Bool) (ba ka : Option Addr) (bl bc kl kc : Nat)
    (HI40 : Hid (i ≤ 400)) (HQ : Hid (q < 8)) (HPT : Hid (PT q i d m)) (HEQ : Hid (r.m = d ∧ g.m = m)) (W3 : Hid (WQ w p lp (fun k => NN k ∨ k = Q) R S d m r g y1)) (HNN : Hid ((fun k : Nat => k = R ∨ k = S) = NN)) (HYY : Hid (IsY w (.slice ba bl bc) b)) (HKK : Hid (IsF w (.slice ka kl kc) keep))
    (HOK : Hid (OkW ⟨1, nn, b, keep, .slice ba b.length bc, .slice ka keep.length kc⟩)) (HBL : Hid (b.length ≤ 600 ∧ keep.length ≤ 400)) (HBN : Hid (bl = b.length)) (HKN : Hid (kl = keep.length))
    (HBQ : Hid (y1.heap[Q]? = some (.cells #[.int .i64 1, .int .i64 nn, .slice ba bl bc, .slice ka kl kc] 46 (0, 0)))) (HQL : Hid (Q < y1.heap.size)) (HQR : Hid (Q ≠ R ∧ Q ≠ S))
    (c0 c1 c2 c3 c4 c7 c9 c11 c13 c14 c18 c19 c20 c21 c22 c23 c24 c25 c26 c27 c28 c29 c30 c31 c32 c33 c34 c35 c36 c37 c38 c39 c40 c41 c42 c43 c44 c45 c46 c47 c48 c49 c50 c51 c52 c53 c54 c55 c56 c57 c58 c59 c60 c61 c62 c63 c64 c65 c66 c67 c68 c69 c70 c71 c72 c73 c74 c75 c76 c77 c78 c79 c80 c81 c82 c83 c84 c85 c86 c88 c89 c90 c91 c92 c93 c94 c95 c96 c97 c98 c99 c100 c101 c102 c103 c104 c105 c106 c107 c108 c109 c110 c111 c112 c113 c114 c115 c116 c117 c118 c119 c120 c121 c122 c123 c124 c125 c126 c127 c128 c129 c130 c131 c132 c133 c134 c135 c136 c137 c138 c139 c140 c141 c142 c143 c144 c145 c146 c147 c148 c149 c150 c151 c152 c153 c154 c155 c156 c157 c158 c159 c160 c161 c162 c163 c164 c165 c166 c167 c168 c169 c170 c171 c172 c173 c174 c175 c176 c177 c178 c179 c180 c181 c182 c183 c184 c185 c186 c187 c188 c189 c190 c191 c192 c193 c194 c195 c196 c197 c198 c199 c200 c201 c202 c203 c204 c205 c206 c207 c208 c209 c210 c211 c212 c213 c214 c215 c216 c217 c218 c219 c220 c221 c222 c223 c224 c225 c226 c227 c228 c229 c230 c231 c232 c233 c234 c235 c236 c237 c238 c239 c240 c241 c242 c243 c244 c245 : Value) (K : Act → World → Prop) (Q9 : Exit → Act → World → Prop)
    (hK : ∀ (v10 v16 v17 v18 v19 v20 v69 v70 v71 v72 v73 v74 v75 v76 v77 v78 v79 v80 v81 v82 v83 v84 v85 v86 v87 v88 v89 v90 v91 v92 v93 v94 v95 v96 v97 v98 v99 v100 v101 v102 v103 v104 v105 v106 v107 v108 v109 v110 v111 v112 v113 v114 v115 v116 v117 v118 v119 v120 v121 v122 v123 v124 v125 v126 v127 v128 v129 v130 v131 v132 v133 v134 v135 v136 v137 v138 v139 v140 v141 v142 v143 v144 v145 v146 v147 v148 v149 v150 v151 v152 v153 v154 v155 v156 v157 v158 v159 v160 v161 v162 v163 v164 v165 v166 v167 v168 v169 v170 v171 v172 v173 v174 v175 v176 v177 v178 v179 v180 v181 v182 v183 v184 v185 v186 v187 v188 v189 v190 v191 v192 v193 v194 v195 v196 v197 v198 v199 v200 v201 v202 v203 v204 v205 v206 v207 v208 v209 v210 v211 v212 v213 v214 v215 v216 v217 v218 v219 v220 v221 v222 v223 v224 v225 v226 v227 v228 v229 v230 v231 v232 v233 v234 v235 v236 v237 v238 v239 v240 v241 v242 v243 v244 : Value) (wc : World), (∃ (d : DM) (m : LM) (lp : Addr) (r : DV) (g : LgV) (E : Int), v10 = .pointer (some lp) ∧ v16 = .int .i64 E ∧ v17 = .int .i64 E ∧ Hid (PT q (i + 1) d m) ∧ Hid (r.m = d ∧ g.m = m) ∧ Hid (WQ w p lp NN R S d m r g wc)) → K ⟨#[c0, c1, c2, c3, c4, .int .i64 (1 + (q : Int)), .pointer (some p), c7, .pointer (some ⟨R, 0, none⟩), c9, v10, c11, .pointer (some ⟨S, 0, none⟩), c13, c14, .pointer (some ⟨Q, 0, none⟩), v16, v17, v18, v19, v20, c21, c22, c23, c24, c25, c26, c27, c28, c29, c30, c31, c32, c33, c34, c35, c36, c37, c38, c39, c40, c41, c42, c43, c44, c45, c46, c47, c48, c49, c50, c51, c52, c53, c54, c55, c56, c57, c58, c59, c60, c61, c62, c63, c64, c65, c66, c67, c68, v69, v70, v71, v72, v73, v74, v75, v76, v77, v78, v79, v80, v81, v82, v83, v84, v85, v86, v87, v88, v89, v90, v91, v92, v93, v94, v95, v96, v97, v98, v99, v100, v101, v102, v103, v104, v105, v106, v107, v108, v109, v110, v111, v112, v113, v114, v115, v116, v117, v118, v119, v120, v121, v122, v123, v124, v125, v126, v127, v128, v129, v130, v131, v132, v133, v134, v135, v136, v137, v138, v139, v140, v141, v142, v143, v144, v145, v146, v147, v148, v149, v150, v151, v152, v153, v154, v155, v156, v157, v158, v159, v160, v161, v162, v163, v164, v165, v166, v167, v168, v169, v170, v171, v172, v173, v174, v175, v176, v177, v178, v179, v180, v181, v182, v183, v184, v185, v186, v187, v188, v189, v190, v191, v192, v193, v194, v195, v196, v197, v198, v199, v200, v201, v202, v203, v204, v205, v206, v207, v208, v209, v210, v211, v212, v213, v214, v215, v216, v217, v218, v219, v220, v221, v222, v223, v224, v225, v226, v227, v228, v229, v230, v231, v232, v233, v234, v235, v236, v237, v238, v239, v240, v241, v242, v243, v244, c245], []⟩ wc) :
    Code.wp Try.prog (((Try.f3).body.bind (blockOf 2)).getD .skip) (Exit.then K Q9) ⟨#[c0, c1, c2, c3, c4, .int .i64 (1 + (q : Int)), .pointer (some p), c7, .pointer (some ⟨R, 0, none⟩), c9, .pointer (some lp), c11, .pointer (some ⟨S, 0, none⟩), c13, c14, .pointer (some ⟨Q, 0, none⟩), .int .i64 0, .int .i64 0, c18, c19, c20, c21, c22, c23, c24, c25, c26, c27, c28, c29, c30, c31, c32, c33, c34, c35, c36, c37, c38, c39, c40, c41, c42, c43, c44, c45, c46, c47, c48, c49, c50, c51, c52, c53, c54, c55, c56, c57, c58, c59, c60, c61, c62, c63, c64, c65, c66, c67, c68, c69, c70, c71, c72, c73, c74, c75, c76, c77, c78, c79, c80, c81, c82, c83, c84, c85, c86, .int .i64 1, c88, c89, c90, c91, c92, c93, c94, c95, c96, c97, c98, c99, c100, c101, c102, c103, c104, c105, c106, c107, c108, c109, c110, c111, c112, c113, c114, c115, c116, c117, c118, c119, c120, c121, c122, c123, c124, c125, c126, c127, c128, c129, c130, c131, c132, c133, c134, c135, c136, c137, c138, c139, c140, c141, c142, c143, c144, c145, c146, c147, c148, c149, c150, c151, c152, c153, c154, c155, c156, c157, c158, c159, c160, c161, c162, c163, c164, c165, c166, c167, c168, c169, c170, c171, c172, c173, c174, c175, c176, c177, c178, c179, c180, c181, c182, c183, c184, c185, c186, c187, c188, c189, c190, c191, c192, c193, c194, c195, c196, c197, c198, c199, c200, c201, c202, c203, c204, c205, c206, c207, c208, c209, c210, c211, c212, c213, c214, c215, c216, c217, c218, c219, c220, c221, c222, c223, c224, c225, c226, c227, c228, c229, c230, c231, c232, c233, c234, c235, c236, c237, c238, c239, c240, c241, c242, c243, c244, c245], []⟩ y1 := by
  conv => arg 2; whnf
  have HK9 := hide hK
  clear hK
  obtain ⟨z0c, z1c, z2c, z3c⟩ := act_cells HBQ.out
  obtain ⟨rfl, rfl⟩ := HEQ.out
  obtain ⟨_, _, _, _, q4⟩ := W3.out.k
  obtain ⟨ga, gc, eg⟩ := q4.form
  obtain ⟨sa, sc, es⟩ := W3.out.i.s.form
  obtain ⟨la, lc, el⟩ := W3.out.i.l.form
  obtain ⟨gm, gv⟩ := g
  obtain ⟨rm, rsv, rlv⟩ := r
  simp only at eg es el
  subst eg es el
  clear q4
  have hneS : ¬ R = S := W3.out.ne
  have hneS2 : ¬ S = R := fun e => W3.out.ne e.symm
  obtain ⟨a1, c1o, w1, hr1, hb1, hnew, hns⟩ := own_any y1 (.slice ba bl bc) b (HYY.out.below W3.out.b) HBL.out.1
  have HR1 := hide hr1
  have hNY : NewY y1.heap.size w1 (.slice a1 b.length c1o) b := hnew
  rw [← HBN.out] at HR1 hnew hns
  have W4 := hide (W3.out.moreM hb1 (fun k => (Value.slice a1 bl c1o).ownBlock = some k) (fun k hk => hnew.blk k hk))
  have HOW := hide (And.intro hnew (And.intro hns hb1.size))
  have hcq : ∀ o, (y1.alloc o).cell? ⟨Q, 2, none⟩ = some (.slice ba bl bc) := fun o => ((below_alloc y1 o).cell (cell_lt z2c)).trans z2c
  have HA := hide (wq_append W4.out HPT.out HQ.out HI40.out (ov := .slice a1 bl c1o) (b := b) hnew.isY (fun _ k hk => .inr hk) HBL.out.1)
  have HQW : Hid (w1.heap[Q]? = some (.cells #[.int .i64 1, .int .i64 nn, .slice ba bl bc, .slice ka kl kc] 46 (0, 0))) := hide ((hb1.block Q HQL.out).trans HBQ.out)
  have HYS : Hid (y1.heap.size ≤ w1.heap.size) := hide hb1.size
  have HRS : Hid (R < y1.heap.size ∧ S < y1.heap.size) := hide ⟨(W3.out.nl R W3.out.nr).2, (W3.out.nl _ W3.out.ns).2⟩
  clear hr1 hb1 hnew hns hNY z1c z3c W3
  go_wp2_with (at_builtin; refine wpList_append_run rfl (.tmp 90) (.tmp 92) 43 rfl _ _ _ _ rfl rfl HR1.out ?_)
  refine HA.out.mono ?_
  rintro e y2 ⟨rfl, HB⟩
  obtain ⟨⟨t0, t1, t2, t3, t4, t5, t6⟩, _⟩ := lg_cells HB.out.1.c12
  obtain ⟨s0, s1, s2, s3, s4, _⟩ := dk_cells HB.out.1.c8
  simp only [] at t0 t1 t2 t3 t4 t5 t6 s0 s1 s2 s3 s4
  obtain ⟨z0d, z1d, z2d, z3d⟩ := act_cells ((HB.out.2 Q (.inl (.inr rfl))).trans HQW.out)
  have HD := hide (wq_rappend HB.out.1 HPT.out HQ.out HI40.out (HYY.out.below HB.out.1.b) HBL.out.1)
  clear HA HR1 hcq z2c z0d z1d z3d
  go_wp2_with fail
  refine HD.out.mono ?_
  rintro e y3 ⟨g', r', rfl, HE2, W5, hb3, W6⟩
  have HOZ : Hid (OwnS w p lp (fun k => (NN k ∨ k = Q) ∨ (Value.slice a1 bl c1o).ownBlock = some k) R S (appendW gm rm b).2.1 (appendW gm rm b).1 r' g' y1.heap.size (.slice a1 bl c1o) bl (putRW (putSW y3 S g') R r')) := hide (by
    have hk : ∀ j, (Value.slice a1 bl c1o).ownBlock = some j → (putRW (putSW y3 S g') R r').heap[j]? = w1.heap[j]? := fun j hj => by
      have h1 := HOW.out.1.blk j hj
      have h2 := (HB.out.1.nl j (.inr hj)).2
      exact (W6.out.2 j (fun e => by have := HRS.out.1; omega) (fun e => by have := HRS.out.2; omega)).trans ((hb3.out.block j h2).trans (HB.out.2 j (.inr hj)))
    refine ⟨W6.out.1, ⟨b, HBN.out.symm, ?_⟩, fun h0 j hj => ?_⟩
    · by_cases hbe : b = []
      · have hn := HOW.out.1
        have h0 : bl = 0 := by rw [HBN.out, hbe]; rfl
        rcases hn with ⟨_, e⟩ | ⟨g1, o1, cp, e, q1, q2, q3, q4, q5⟩
        · exact .inl ⟨hbe, e⟩
        · refine .inr ⟨g1, o1, cp, e, q1, ?_, q3, fun j hj => ?_, fun j hj => ?_⟩
          · exact (W6.out.1.nl g1 (.inr (by rw [e]; rfl))).2
          · rw [hbe] at hj; exact absurd hj (Nat.not_lt_zero _)
          · rw [hbe] at hj; exact absurd hj (Nat.not_lt_zero _)
      · rcases HOW.out.1 with ⟨e, _⟩ | ⟨g1, o1, cp, e, q1, q2, q3, q4, q5⟩
        · exact absurd e hbe
        · have hkg := hk g1 (by rw [e]; rfl)
          exact .inr ⟨g1, o1, cp, e, q1, (W6.out.1.nl g1 (.inr (by rw [e]; rfl))).2, q3, fun j hj => (cell_blk hkg _).trans (q4 j hj), fun j hj => (frozen_blk hkg _).trans (q5 j hj)⟩
    · have hne : b ≠ [] := fun e => by rw [HBN.out, e] at h0; exact absurd h0 (Nat.lt_irrefl _)
      intro o s e
      exact HOW.out.2.1 hne j hj o s ((cell_blk (hk j hj) o).symm.trans e))
  have HNO : Hid (∀ k, (Value.slice a1 bl c1o).ownBlock = some k → ((NN k ∨ k = Q) ∨ (Value.slice a1 bl c1o).ownBlock = some k) ∧ k ≠ R ∧ k ≠ S) := hide (fun k hk => ⟨.inr hk, fun e => by have := (HOW.out.1.blk k hk).1; have := HRS.out.1; omega, fun e => by have := (HOW.out.1.blk k hk).1; have := HRS.out.2; omega⟩)
  clear s0 s1 s2 s3 s4 t0 t1 t2 t3 t4 t5 t6
  obtain ⟨_, _, _, _, q4⟩ := W6.out.1.k
  obtain ⟨ga', gc', eg'⟩ := q4.form
  obtain ⟨sa', sc', es'⟩ := W6.out.1.i.s.form
  obtain ⟨la', lc', el'⟩ := W6.out.1.i.l.form
  obtain ⟨gm', gv'⟩ := g'
  obtain ⟨rm', rsv', rlv'⟩ := r'
  simp only at eg' es' el'
  subst eg' es' el'
  obtain ⟨⟨t0, t1, t2, t3, t4, t5, t6⟩, f0, f1, f2, f3, f4, f5, f6⟩ := lg_cells W5.out.c12
  obtain ⟨s0, s1, s2, s3, s4, h0, h1, h2, h3, h4⟩ := dk_cells W5.out.c8
  simp only [] at t0 t1 t2 t3 t4 t5 t6 s0 s1 s2 s3 s4
  have HE3 := HE2
  clear q4 W5 hb3
  have HPN := hide (pt_append HPT.out HI40.out b)
  rw [← HE2.out.1, ← HE2.out.2] at HPN
  rw [← HE2.out.1, ← HE2.out.2] at HOZ
  clear HD HB HOW W6 HE3 z2d W4
  go_wp2
  go_loopw [19] (fun v19 wq => ∃ k : Nat, v19 = .int .i64 (k : Int) ∧ k ≤ bl ∧ Hid (OwnS w p lp (fun k => (NN k ∨ k = Q) ∨ (Value.slice a1 bl c1o).ownBlock = some k) R S rm' gm' ⟨rm', .slice sa' rm'.safe.length sc', .slice la' rm'.l.length lc'⟩ ⟨gm', .slice ga' gm'.recs.length gc'⟩ y1.heap.size (.slice a1 bl c1o) bl wq)) (fun v19 _ => bl - (intOf v19).toNat)
  case atStart => exact ⟨0, rfl, Nat.zero_le _, HOZ⟩
  case round =>
    clear HOZ s0 s1 s2 s3 s4 t0 t1 t2 t3 t4 t5 t6 f0 f1 f2 f3 f4 f5 f6 h0 h1 h2 h3 h4
    obtain ⟨k, rfl, hk, HO⟩ := hrel
    by_cases hkb : k < bl
    · have hkb2 : (k : Int) < bl := by omega
      obtain ⟨G, o, u, rfl, hcu, hfu, hst⟩ := HO.out.step HNO.out k hkb
      have HST := hide hst
      have hwk : wrap64 ((k : Int) + 1) = (k : Int) + 1 := by
        have := HBL.out.1
        have := HBN.out
        unfold wrap64
        omega
      clear hst HO
      go_wp2
      go_roundw
      case rel => exact ⟨k + 1, congrArg (Value.int .i64) (hwk.trans (Int.natCast_succ k).symm), Nat.succ_le_of_lt hkb, HST⟩
      case measure => rw [hwk]; exact loop_down hkb
    · have hkb2 : ¬ (k : Int) < bl := by omega
      have W9 := hide (HO.out.q.less NN (fun k hk => .inl (.inl hk)) (by rw [← HNN.out]; exact .inl rfl) (by rw [← HNN.out]; exact .inr rfl))
      clear HO HNO
      go_wp2_with fail
      exact HK9.out _ _ _ _ _ _ _ _ _ _ _ _ _ _ _ _ _ _ _ _ _ _ _ _ _ _ _ _ _ _ _ _ _ _ _ _ _ _ _ _ _ _ _ _ _ _ _ _ _ _ _ _ _ _ _ _ _ _ _ _ _ _ _ _ _ _ _ _ _ _ _ _ _ _ _ _ _ _ _ _ _ _ _ _ _ _ _ _ _ _ _ _ _ _ _ _ _ _ _ _ _ _ _ _ _ _ _ _ _ _ _ _ _ _ _ _ _ _ _ _ _ _ _ _ _ _ _ _ _ _ _ _ _ _ _ _ _ _ _ _ _ _ _ _ _ _ _ _ _ _ _ _ _ _ _ _ _ _ _ _ _ _ _ _ _ _ _ _ _ _ _ _ _ _ _ _ _ _ _ _ _ _ _ ⟨rm', gm', lp, _, _, _, rfl, rfl, rfl, HPN, hide ⟨rfl, rfl⟩, W9⟩
end Go.Proofs.Ythpepkfodcgbcaa
/- WalPlays, in parts: a sync, a fuse, and nothing. -/
set_option linter.unusedVariables false
set_option linter.unusedSimpArgs false
set_option maxRecDepth 40000
namespace Go.Proofs.Ythpepkfodcgbcaa
open Go.RowKit

set_option maxHeartbeats 8000000 in
theorem wp_c2 (w y1 : World) (p lp : Addr) (NN : Nat → Prop) (R S Q q i : Nat) (d : DM) (m : LM) (r : DV) (g : LgV) (nn : Int) (b : Bs) (keep : List Bool) (ba ka : Option Addr) (bl bc kl kc : Nat)
    (HI40 : Hid (i ≤ 400)) (HQ : Hid (q < 8)) (HPT : Hid (PT q i d m)) (HEQ : Hid (r.m = d ∧ g.m = m)) (W3 : Hid (WQ w p lp (fun k => NN k ∨ k = Q) R S d m r g y1)) (HNN : Hid ((fun k : Nat => k = R ∨ k = S) = NN)) (HYY : Hid (IsY w (.slice ba bl bc) b)) (HKK : Hid (IsF w (.slice ka kl kc) keep))
    (HOK : Hid (OkW ⟨2, nn, b, keep, .slice ba b.length bc, .slice ka keep.length kc⟩)) (HBL : Hid (b.length ≤ 600 ∧ keep.length ≤ 400)) (HBN : Hid (bl = b.length)) (HKN : Hid (kl = keep.length))
    (HBQ : Hid (y1.heap[Q]? = some (.cells #[.int .i64 2, .int .i64 nn, .slice ba bl bc, .slice ka kl kc] 46 (0, 0)))) (HQL : Hid (Q < y1.heap.size)) (HQR : Hid (Q ≠ R ∧ Q ≠ S))
    (c0 c1 c2 c3 c4 c7 c9 c11 c13 c14 c18 c19 c20 c21 c22 c23 c24 c25 c26 c27 c28 c29 c30 c31 c32 c33 c34 c35 c36 c37 c38 c39 c40 c41 c42 c43 c44 c45 c46 c47 c48 c49 c50 c51 c52 c53 c54 c55 c56 c57 c58 c59 c60 c61 c62 c63 c64 c65 c66 c67 c68 c69 c70 c71 c72 c73 c74 c75 c76 c77 c78 c79 c80 c81 c82 c83 c84 c85 c86 c88 c89 c90 c91 c92 c93 c94 c95 c96 c97 c98 c99 c100 c101 c102 c103 c104 c105 c106 c107 c108 c109 c110 c111 c112 c113 c114 c115 c116 c117 c118 c119 c120 c121 c122 c123 c124 c125 c126 c127 c128 c129 c130 c131 c132 c133 c134 c135 c136 c137 c138 c139 c140 c141 c142 c143 c144 c145 c146 c147 c148 c149 c150 c151 c152 c153 c154 c155 c156 c157 c158 c159 c160 c161 c162 c163 c164 c165 c166 c167 c168 c169 c170 c171 c172 c173 c174 c175 c176 c177 c178 c179 c180 c181 c182 c183 c184 c185 c186 c187 c188 c189 c190 c191 c192 c193 c194 c195 c196 c197 c198 c199 c200 c201 c202 c203 c204 c205 c206 c207 c208 c209 c210 c211 c212 c213 c214 c215 c216 c217 c218 c219 c220 c221 c222 c223 c224 c225 c226 c227 c228 c229 c230 c231 c232 c233 c234 c235 c236 c237 c238 c239 c240 c241 c242 c243 c244 c245 : Value) (K : Act → World → Prop) (Q9 : Exit → Act → World → Prop)
    (hK : ∀ (v10 v16 v17 v18 v19 v20 v69 v70 v71 v72 v73 v74 v75 v76 v77 v78 v79 v80 v81 v82 v83 v84 v85 v86 v87 v88 v89 v90 v91 v92 v93 v94 v95 v96 v97 v98 v99 v100 v101 v102 v103 v104 v105 v106 v107 v108 v109 v110 v111 v112 v113 v114 v115 v116 v117 v118 v119 v120 v121 v122 v123 v124 v125 v126 v127 v128 v129 v130 v131 v132 v133 v134 v135 v136 v137 v138 v139 v140 v141 v142 v143 v144 v145 v146 v147 v148 v149 v150 v151 v152 v153 v154 v155 v156 v157 v158 v159 v160 v161 v162 v163 v164 v165 v166 v167 v168 v169 v170 v171 v172 v173 v174 v175 v176 v177 v178 v179 v180 v181 v182 v183 v184 v185 v186 v187 v188 v189 v190 v191 v192 v193 v194 v195 v196 v197 v198 v199 v200 v201 v202 v203 v204 v205 v206 v207 v208 v209 v210 v211 v212 v213 v214 v215 v216 v217 v218 v219 v220 v221 v222 v223 v224 v225 v226 v227 v228 v229 v230 v231 v232 v233 v234 v235 v236 v237 v238 v239 v240 v241 v242 v243 v244 : Value) (wc : World), (∃ (d : DM) (m : LM) (lp : Addr) (r : DV) (g : LgV) (E : Int), v10 = .pointer (some lp) ∧ v16 = .int .i64 E ∧ v17 = .int .i64 E ∧ Hid (PT q (i + 1) d m) ∧ Hid (r.m = d ∧ g.m = m) ∧ Hid (WQ w p lp NN R S d m r g wc)) → K ⟨#[c0, c1, c2, c3, c4, .int .i64 (1 + (q : Int)), .pointer (some p), c7, .pointer (some ⟨R, 0, none⟩), c9, v10, c11, .pointer (some ⟨S, 0, none⟩), c13, c14, .pointer (some ⟨Q, 0, none⟩), v16, v17, v18, v19, v20, c21, c22, c23, c24, c25, c26, c27, c28, c29, c30, c31, c32, c33, c34, c35, c36, c37, c38, c39, c40, c41, c42, c43, c44, c45, c46, c47, c48, c49, c50, c51, c52, c53, c54, c55, c56, c57, c58, c59, c60, c61, c62, c63, c64, c65, c66, c67, c68, v69, v70, v71, v72, v73, v74, v75, v76, v77, v78, v79, v80, v81, v82, v83, v84, v85, v86, v87, v88, v89, v90, v91, v92, v93, v94, v95, v96, v97, v98, v99, v100, v101, v102, v103, v104, v105, v106, v107, v108, v109, v110, v111, v112, v113, v114, v115, v116, v117, v118, v119, v120, v121, v122, v123, v124, v125, v126, v127, v128, v129, v130, v131, v132, v133, v134, v135, v136, v137, v138, v139, v140, v141, v142, v143, v144, v145, v146, v147, v148, v149, v150, v151, v152, v153, v154, v155, v156, v157, v158, v159, v160, v161, v162, v163, v164, v165, v166, v167, v168, v169, v170, v171, v172, v173, v174, v175, v176, v177, v178, v179, v180, v181, v182, v183, v184, v185, v186, v187, v188, v189, v190, v191, v192, v193, v194, v195, v196, v197, v198, v199, v200, v201, v202, v203, v204, v205, v206, v207, v208, v209, v210, v211, v212, v213, v214, v215, v216, v217, v218, v219, v220, v221, v222, v223, v224, v225, v226, v227, v228, v229, v230, v231, v232, v233, v234, v235, v236, v237, v238, v239, v240, v241, v242, v243, v244, c245], []⟩ wc) :
    Code.wp Try.prog (((Try.f3).body.bind (blockOf 2)).getD .skip) (Exit.then K Q9) ⟨#[c0, c1, c2, c3, c4, .int .i64 (1 + (q : Int)), .pointer (some p), c7, .pointer (some ⟨R, 0, none⟩), c9, .pointer (some lp), c11, .pointer (some ⟨S, 0, none⟩), c13, c14, .pointer (some ⟨Q, 0, none⟩), .int .i64 0, .int .i64 0, c18, c19, c20, c21, c22, c23, c24, c25, c26, c27, c28, c29, c30, c31, c32, c33, c34, c35, c36, c37, c38, c39, c40, c41, c42, c43, c44, c45, c46, c47, c48, c49, c50, c51, c52, c53, c54, c55, c56, c57, c58, c59, c60, c61, c62, c63, c64, c65, c66, c67, c68, c69, c70, c71, c72, c73, c74, c75, c76, c77, c78, c79, c80, c81, c82, c83, c84, c85, c86, .int .i64 2, c88, c89, c90, c91, c92, c93, c94, c95, c96, c97, c98, c99, c100, c101, c102, c103, c104, c105, c106, c107, c108, c109, c110, c111, c112, c113, c114, c115, c116, c117, c118, c119, c120, c121, c122, c123, c124, c125, c126, c127, c128, c129, c130, c131, c132, c133, c134, c135, c136, c137, c138, c139, c140, c141, c142, c143, c144, c145, c146, c147, c148, c149, c150, c151, c152, c153, c154, c155, c156, c157, c158, c159, c160, c161, c162, c163, c164, c165, c166, c167, c168, c169, c170, c171, c172, c173, c174, c175, c176, c177, c178, c179, c180, c181, c182, c183, c184, c185, c186, c187, c188, c189, c190, c191, c192, c193, c194, c195, c196, c197, c198, c199, c200, c201, c202, c203, c204, c205, c206, c207, c208, c209, c210, c211, c212, c213, c214, c215, c216, c217, c218, c219, c220, c221, c222, c223, c224, c225, c226, c227, c228, c229, c230, c231, c232, c233, c234, c235, c236, c237, c238, c239, c240, c241, c242, c243, c244, c245], []⟩ y1 := by
  conv => arg 2; whnf
  have HK9 := hide hK
  clear hK
  obtain ⟨z0c, z1c, z2c, z3c⟩ := act_cells HBQ.out
  obtain ⟨rfl, rfl⟩ := HEQ.out
  obtain ⟨_, _, _, _, q4⟩ := W3.out.k
  obtain ⟨ga, gc, eg⟩ := q4.form
  obtain ⟨sa, sc, es⟩ := W3.out.i.s.form
  obtain ⟨la, lc, el⟩ := W3.out.i.l.form
  obtain ⟨gm, gv⟩ := g
  obtain ⟨rm, rsv, rlv⟩ := r
  simp only at eg es el
  subst eg es el
  clear q4
  have hneS : ¬ R = S := W3.out.ne
  have hneS2 : ¬ S = R := fun e => W3.out.ne e.symm
  have n1 : ((2 : Int) == 1) = false := rfl
  have HA := hide (wq_sync W3.out HPT.out)
  clear z1c z2c z3c
  go_wp2_with fail
  refine HA.out.mono ?_
  rintro e y2 ⟨rfl, HB⟩
  obtain ⟨⟨t0, t1, t2, t3, t4, t5, t6⟩, _⟩ := lg_cells HB.out.1.c12
  obtain ⟨s0, s1, s2, s3, s4, _⟩ := dk_cells HB.out.1.c8
  simp only [] at t0 t1 t2 t3 t4 t5 t6 s0 s1 s2 s3 s4
  obtain ⟨z0d, z1d, z2d, z3d⟩ := act_cells ((HB.out.2 Q (.inr rfl)).trans HBQ.out)
  have HD := hide (wq_rsync HB.out.1 HPT.out)
  clear HA
  go_wp2_with fail
  refine HD.out.mono ?_
  rintro e y3 ⟨g', r', rfl, HE2, W5, hb3, W6⟩
  obtain ⟨_, _, _, _, q4⟩ := W6.out.1.k
  obtain ⟨ga', gc', eg'⟩ := q4.form
  obtain ⟨sa', sc', es'⟩ := W6.out.1.i.s.form
  obtain ⟨la', lc', el'⟩ := W6.out.1.i.l.form
  obtain ⟨gm', gv'⟩ := g'
  obtain ⟨rm', rsv', rlv'⟩ := r'
  simp only at eg' es' el'
  subst eg' es' el'
  obtain ⟨⟨t0, t1, t2, t3, t4, t5, t6⟩, f0, f1, f2, f3, f4, f5, f6⟩ := lg_cells W5.out.c12
  obtain ⟨s0, s1, s2, s3, s4, h0, h1, h2, h3, h4⟩ := dk_cells W5.out.c8
  simp only [] at t0 t1 t2 t3 t4 t5 t6 s0 s1 s2 s3 s4
  have HE3 := HE2
  clear q4 W5 hb3
  have HPN := hide (pt_sync HPT.out)
  have W9 := hide (W6.out.1.less NN (fun k hk => .inl hk) (by rw [← HNN.out]; exact .inl rfl) (by rw [← HNN.out]; exact .inr rfl))
  rw [← HE2.out.1, ← HE2.out.2] at HPN
  rw [← HE2.out.1, ← HE2.out.2] at W9
  clear HD HB
  go_wp2_with fail
  exact HK9.out _ _ _ _ _ _ _ _ _ _ _ _ _ _ _ _ _ _ _ _ _ _ _ _ _ _ _ _ _ _ _ _ _ _ _ _ _ _ _ _ _ _ _ _ _ _ _ _ _ _ _ _ _ _ _ _ _ _ _ _ _ _ _ _ _ _ _ _ _ _ _ _ _ _ _ _ _ _ _ _ _ _ _ _ _ _ _ _ _ _ _ _ _ _ _ _ _ _ _ _ _ _ _ _ _ _ _ _ _ _ _ _ _ _ _ _ _ _ _ _ _ _ _ _ _ _ _ _ _ _ _ _ _ _ _ _ _ _ _ _ _ _ _ _ _ _ _ _ _ _ _ _ _ _ _ _ _ _ _ _ _ _ _ _ _ _ _ _ _ _ _ _ _ _ _ _ _ _ _ _ _ _ _ ⟨rm', gm', lp, _, _, _, rfl, rfl, rfl, HPN, hide ⟨rfl, rfl⟩, W9⟩
set_option maxHeartbeats 8000000 in
theorem wp_c5 (w y1 : World) (p lp : Addr) (NN : Nat → Prop) (R S Q q i : Nat) (d : DM) (m : LM) (r : DV) (g : LgV) (nn : Int) (b : Bs) (keep : List Bool) (ba ka : Option Addr) (bl bc kl kc : Nat)
    (HI40 : Hid (i ≤ 400)) (HQ : Hid (q < 8)) (HPT : Hid (PT q i d m)) (HEQ : Hid (r.m = d ∧ g.m = m)) (W3 : Hid (WQ w p lp (fun k => NN k ∨ k = Q) R S d m r g y1)) (HNN : Hid ((fun k : Nat => k = R ∨ k = S) = NN)) (HYY : Hid (IsY w (.slice ba bl bc) b)) (HKK : Hid (IsF w (.slice ka kl kc) keep))
    (HOK : Hid (OkW ⟨5, nn, b, keep, .slice ba b.length bc, .slice ka keep.length kc⟩)) (HBL : Hid (b.length ≤ 600 ∧ keep.length ≤ 400)) (HBN : Hid (bl = b.length)) (HKN : Hid (kl = keep.length))
    (HBQ : Hid (y1.heap[Q]? = some (.cells #[.int .i64 5, .int .i64 nn, .slice ba bl bc, .slice ka kl kc] 46 (0, 0)))) (HQL : Hid (Q < y1.heap.size)) (HQR : Hid (Q ≠ R ∧ Q ≠ S))
    (c0 c1 c2 c3 c4 c7 c9 c11 c13 c14 c18 c19 c20 c21 c22 c23 c24 c25 c26 c27 c28 c29 c30 c31 c32 c33 c34 c35 c36 c37 c38 c39 c40 c41 c42 c43 c44 c45 c46 c47 c48 c49 c50 c51 c52 c53 c54 c55 c56 c57 c58 c59 c60 c61 c62 c63 c64 c65 c66 c67 c68 c69 c70 c71 c72 c73 c74 c75 c76 c77 c78 c79 c80 c81 c82 c83 c84 c85 c86 c88 c89 c90 c91 c92 c93 c94 c95 c96 c97 c98 c99 c100 c101 c102 c103 c104 c105 c106 c107 c108 c109 c110 c111 c112 c113 c114 c115 c116 c117 c118 c119 c120 c121 c122 c123 c124 c125 c126 c127 c128 c129 c130 c131 c132 c133 c134 c135 c136 c137 c138 c139 c140 c141 c142 c143 c144 c145 c146 c147 c148 c149 c150 c151 c152 c153 c154 c155 c156 c157 c158 c159 c160 c161 c162 c163 c164 c165 c166 c167 c168 c169 c170 c171 c172 c173 c174 c175 c176 c177 c178 c179 c180 c181 c182 c183 c184 c185 c186 c187 c188 c189 c190 c191 c192 c193 c194 c195 c196 c197 c198 c199 c200 c201 c202 c203 c204 c205 c206 c207 c208 c209 c210 c211 c212 c213 c214 c215 c216 c217 c218 c219 c220 c221 c222 c223 c224 c225 c226 c227 c228 c229 c230 c231 c232 c233 c234 c235 c236 c237 c238 c239 c240 c241 c242 c243 c244 c245 : Value) (K : Act → World → Prop) (Q9 : Exit → Act → World → Prop)
    (hK : ∀ (v10 v16 v17 v18 v19 v20 v69 v70 v71 v72 v73 v74 v75 v76 v77 v78 v79 v80 v81 v82 v83 v84 v85 v86 v87 v88 v89 v90 v91 v92 v93 v94 v95 v96 v97 v98 v99 v100 v101 v102 v103 v104 v105 v106 v107 v108 v109 v110 v111 v112 v113 v114 v115 v116 v117 v118 v119 v120 v121 v122 v123 v124 v125 v126 v127 v128 v129 v130 v131 v132 v133 v134 v135 v136 v137 v138 v139 v140 v141 v142 v143 v144 v145 v146 v147 v148 v149 v150 v151 v152 v153 v154 v155 v156 v157 v158 v159 v160 v161 v162 v163 v164 v165 v166 v167 v168 v169 v170 v171 v172 v173 v174 v175 v176 v177 v178 v179 v180 v181 v182 v183 v184 v185 v186 v187 v188 v189 v190 v191 v192 v193 v194 v195 v196 v197 v198 v199 v200 v201 v202 v203 v204 v205 v206 v207 v208 v209 v210 v211 v212 v213 v214 v215 v216 v217 v218 v219 v220 v221 v222 v223 v224 v225 v226 v227 v228 v229 v230 v231 v232 v233 v234 v235 v236 v237 v238 v239 v240 v241 v242 v243 v244 : Value) (wc : World), (∃ (d : DM) (m : LM) (lp : Addr) (r : DV) (g : LgV) (E : Int), v10 = .pointer (some lp) ∧ v16 = .int .i64 E ∧ v17 = .int .i64 E ∧ Hid (PT q (i + 1) d m) ∧ Hid (r.m = d ∧ g.m = m) ∧ Hid (WQ w p lp NN R S d m r g wc)) → K ⟨#[c0, c1, c2, c3, c4, .int .i64 (1 + (q : Int)), .pointer (some p), c7, .pointer (some ⟨R, 0, none⟩), c9, v10, c11, .pointer (some ⟨S, 0, none⟩), c13, c14, .pointer (some ⟨Q, 0, none⟩), v16, v17, v18, v19, v20, c21, c22, c23, c24, c25, c26, c27, c28, c29, c30, c31, c32, c33, c34, c35, c36, c37, c38, c39, c40, c41, c42, c43, c44, c45, c46, c47, c48, c49, c50, c51, c52, c53, c54, c55, c56, c57, c58, c59, c60, c61, c62, c63, c64, c65, c66, c67, c68, v69, v70, v71, v72, v73, v74, v75, v76, v77, v78, v79, v80, v81, v82, v83, v84, v85, v86, v87, v88, v89, v90, v91, v92, v93, v94, v95, v96, v97, v98, v99, v100, v101, v102, v103, v104, v105, v106, v107, v108, v109, v110, v111, v112, v113, v114, v115, v116, v117, v118, v119, v120, v121, v122, v123, v124, v125, v126, v127, v128, v129, v130, v131, v132, v133, v134, v135, v136, v137, v138, v139, v140, v141, v142, v143, v144, v145, v146, v147, v148, v149, v150, v151, v152, v153, v154, v155, v156, v157, v158, v159, v160, v161, v162, v163, v164, v165, v166, v167, v168, v169, v170, v171, v172, v173, v174, v175, v176, v177, v178, v179, v180, v181, v182, v183, v184, v185, v186, v187, v188, v189, v190, v191, v192, v193, v194, v195, v196, v197, v198, v199, v200, v201, v202, v203, v204, v205, v206, v207, v208, v209, v210, v211, v212, v213, v214, v215, v216, v217, v218, v219, v220, v221, v222, v223, v224, v225, v226, v227, v228, v229, v230, v231, v232, v233, v234, v235, v236, v237, v238, v239, v240, v241, v242, v243, v244, c245], []⟩ wc) :
    Code.wp Try.prog (((Try.f3).body.bind (blockOf 2)).getD .skip) (Exit.then K Q9) ⟨#[c0, c1, c2, c3, c4, .int .i64 (1 + (q : Int)), .pointer (some p), c7, .pointer (some ⟨R, 0, none⟩), c9, .pointer (some lp), c11, .pointer (some ⟨S, 0, none⟩), c13, c14, .pointer (some ⟨Q, 0, none⟩), .int .i64 0, .int .i64 0, c18, c19, c20, c21, c22, c23, c24, c25, c26, c27, c28, c29, c30, c31, c32, c33, c34, c35, c36, c37, c38, c39, c40, c41, c42, c43, c44, c45, c46, c47, c48, c49, c50, c51, c52, c53, c54, c55, c56, c57, c58, c59, c60, c61, c62, c63, c64, c65, c66, c67, c68, c69, c70, c71, c72, c73, c74, c75, c76, c77, c78, c79, c80, c81, c82, c83, c84, c85, c86, .int .i64 5, c88, c89, c90, c91, c92, c93, c94, c95, c96, c97, c98, c99, c100, c101, c102, c103, c104, c105, c106, c107, c108, c109, c110, c111, c112, c113, c114, c115, c116, c117, c118, c119, c120, c121, c122, c123, c124, c125, c126, c127, c128, c129, c130, c131, c132, c133, c134, c135, c136, c137, c138, c139, c140, c141, c142, c143, c144, c145, c146, c147, c148, c149, c150, c151, c152, c153, c154, c155, c156, c157, c158, c159, c160, c161, c162, c163, c164, c165, c166, c167, c168, c169, c170, c171, c172, c173, c174, c175, c176, c177, c178, c179, c180, c181, c182, c183, c184, c185, c186, c187, c188, c189, c190, c191, c192, c193, c194, c195, c196, c197, c198, c199, c200, c201, c202, c203, c204, c205, c206, c207, c208, c209, c210, c211, c212, c213, c214, c215, c216, c217, c218, c219, c220, c221, c222, c223, c224, c225, c226, c227, c228, c229, c230, c231, c232, c233, c234, c235, c236, c237, c238, c239, c240, c241, c242, c243, c244, c245], []⟩ y1 := by
  conv => arg 2; whnf
  have HK9 := hide hK
  clear hK
  obtain ⟨z0c, z1c, z2c, z3c⟩ := act_cells HBQ.out
  obtain ⟨rfl, rfl⟩ := HEQ.out
  obtain ⟨_, _, _, _, q4⟩ := W3.out.k
  obtain ⟨ga, gc, eg⟩ := q4.form
  obtain ⟨sa, sc, es⟩ := W3.out.i.s.form
  obtain ⟨la, lc, el⟩ := W3.out.i.l.form
  obtain ⟨gm, gv⟩ := g
  obtain ⟨rm, rsv, rlv⟩ := r
  simp only at eg es el
  subst eg es el
  clear q4
  have hneS : ¬ R = S := W3.out.ne
  have hneS2 : ¬ S = R := fun e => W3.out.ne e.symm
  have n1 : ((5 : Int) == 1) = false := rfl
  have n2 : ((5 : Int) == 2) = false := rfl
  have n3 : ((5 : Int) == 3) = false := rfl
  have n4 : ((5 : Int) == 4) = false := rfl
  have HA := hide (wq_fuse (n := nn) W3.out HPT.out HOK.out.n)
  clear z2c z3c
  go_wp2_with fail
  refine HA.out.mono ?_
  rintro e y2 ⟨rfl, HB⟩
  obtain ⟨s0, s1, s2, s3, s4, _⟩ := dk_cells HB.out.1.c8
  simp only [] at s0 s1 s2 s3 s4
  obtain ⟨z0d, z1d, z2d, z3d⟩ := act_cells ((HB.out.2 Q (.inr rfl)).trans HBQ.out)
  have HD := hide (wq_rarm (n := nn) HB.out.1)
  clear HA z2d z3d
  go_wp2_with fail
  refine HD.out.mono ?_
  rintro e y3 ⟨r', rfl, HE2, W5, hb3, W6⟩
  obtain ⟨sa', sc', es'⟩ := W6.out.1.i.s.form
  obtain ⟨la', lc', el'⟩ := W6.out.1.i.l.form
  obtain ⟨rm', rsv', rlv'⟩ := r'
  simp only at es' el'
  subst es' el'
  clear s0 s1 s2 s3 s4
  obtain ⟨s0, s1, s2, s3, s4, h0, h1, h2, h3, h4⟩ := dk_cells W5.out.c8
  simp only [] at s0 s1 s2 s3 s4
  clear W5 hb3
  have HPN := hide (pt_fuse HPT.out nn HOK.out.n.2)
  have W9 := hide (W6.out.1.less NN (fun k hk => .inl hk) (by rw [← HNN.out]; exact .inl rfl) (by rw [← HNN.out]; exact .inr rfl))
  rw [← HE2.out] at HPN W9
  clear HD HB
  go_wp2_with fail
  exact HK9.out _ _ _ _ _ _ _ _ _ _ _ _ _ _ _ _ _ _ _ _ _ _ _ _ _ _ _ _ _ _ _ _ _ _ _ _ _ _ _ _ _ _ _ _ _ _ _ _ _ _ _ _ _ _ _ _ _ _ _ _ _ _ _ _ _ _ _ _ _ _ _ _ _ _ _ _ _ _ _ _ _ _ _ _ _ _ _ _ _ _ _ _ _ _ _ _ _ _ _ _ _ _ _ _ _ _ _ _ _ _ _ _ _ _ _ _ _ _ _ _ _ _ _ _ _ _ _ _ _ _ _ _ _ _ _ _ _ _ _ _ _ _ _ _ _ _ _ _ _ _ _ _ _ _ _ _ _ _ _ _ _ _ _ _ _ _ _ _ _ _ _ _ _ _ _ _ _ _ _ _ _ _ _ ⟨rm', gm, lp, _, _, 0, rfl, rfl, rfl, HPN, hide ⟨rfl, rfl⟩, W9⟩
end Go.Proofs.Ythpepkfodcgbcaa
/- WalPlays, in parts: a reset, and nothing. -/
set_option linter.unusedVariables false
set_option linter.unusedSimpArgs false
set_option maxRecDepth 40000
namespace Go.Proofs.Ythpepkfodcgbcaa
open Go.RowKit

set_option maxHeartbeats 8000000 in
theorem wp_c3 (w y1 : World) (p lp : Addr) (NN : Nat → Prop) (R S Q q i : Nat) (d : DM) (m : LM) (r : DV) (g : LgV) (nn : Int) (b : Bs) (keep : List Bool) (ba ka : Option Addr) (bl bc kl kc : Nat)
    (HI40 : Hid (i ≤ 400)) (HQ : Hid (q < 8)) (HPT : Hid (PT q i d m)) (HEQ : Hid (r.m = d ∧ g.m = m)) (W3 : Hid (WQ w p lp (fun k => NN k ∨ k = Q) R S d m r g y1)) (HNN : Hid ((fun k : Nat => k = R ∨ k = S) = NN)) (HYY : Hid (IsY w (.slice ba bl bc) b)) (HKK : Hid (IsF w (.slice ka kl kc) keep))
    (HOK : Hid (OkW ⟨3, nn, b, keep, .slice ba b.length bc, .slice ka keep.length kc⟩)) (HBL : Hid (b.length ≤ 600 ∧ keep.length ≤ 400)) (HBN : Hid (bl = b.length)) (HKN : Hid (kl = keep.length))
    (HBQ : Hid (y1.heap[Q]? = some (.cells #[.int .i64 3, .int .i64 nn, .slice ba bl bc, .slice ka kl kc] 46 (0, 0)))) (HQL : Hid (Q < y1.heap.size)) (HQR : Hid (Q ≠ R ∧ Q ≠ S))
    (c0 c1 c2 c3 c4 c7 c9 c11 c13 c14 c18 c19 c20 c21 c22 c23 c24 c25 c26 c27 c28 c29 c30 c31 c32 c33 c34 c35 c36 c37 c38 c39 c40 c41 c42 c43 c44 c45 c46 c47 c48 c49 c50 c51 c52 c53 c54 c55 c56 c57 c58 c59 c60 c61 c62 c63 c64 c65 c66 c67 c68 c69 c70 c71 c72 c73 c74 c75 c76 c77 c78 c79 c80 c81 c82 c83 c84 c85 c86 c88 c89 c90 c91 c92 c93 c94 c95 c96 c97 c98 c99 c100 c101 c102 c103 c104 c105 c106 c107 c108 c109 c110 c111 c112 c113 c114 c115 c116 c117 c118 c119 c120 c121 c122 c123 c124 c125 c126 c127 c128 c129 c130 c131 c132 c133 c134 c135 c136 c137 c138 c139 c140 c141 c142 c143 c144 c145 c146 c147 c148 c149 c150 c151 c152 c153 c154 c155 c156 c157 c158 c159 c160 c161 c162 c163 c164 c165 c166 c167 c168 c169 c170 c171 c172 c173 c174 c175 c176 c177 c178 c179 c180 c181 c182 c183 c184 c185 c186 c187 c188 c189 c190 c191 c192 c193 c194 c195 c196 c197 c198 c199 c200 c201 c202 c203 c204 c205 c206 c207 c208 c209 c210 c211 c212 c213 c214 c215 c216 c217 c218 c219 c220 c221 c222 c223 c224 c225 c226 c227 c228 c229 c230 c231 c232 c233 c234 c235 c236 c237 c238 c239 c240 c241 c242 c243 c244 c245 : Value) (K : Act → World → Prop) (Q9 : Exit → Act → World → Prop)
    (hK : ∀ (v10 v16 v17 v18 v19 v20 v69 v70 v71 v72 v73 v74 v75 v76 v77 v78 v79 v80 v81 v82 v83 v84 v85 v86 v87 v88 v89 v90 v91 v92 v93 v94 v95 v96 v97 v98 v99 v100 v101 v102 v103 v104 v105 v106 v107 v108 v109 v110 v111 v112 v113 v114 v115 v116 v117 v118 v119 v120 v121 v122 v123 v124 v125 v126 v127 v128 v129 v130 v131 v132 v133 v134 v135 v136 v137 v138 v139 v140 v141 v142 v143 v144 v145 v146 v147 v148 v149 v150 v151 v152 v153 v154 v155 v156 v157 v158 v159 v160 v161 v162 v163 v164 v165 v166 v167 v168 v169 v170 v171 v172 v173 v174 v175 v176 v177 v178 v179 v180 v181 v182 v183 v184 v185 v186 v187 v188 v189 v190 v191 v192 v193 v194 v195 v196 v197 v198 v199 v200 v201 v202 v203 v204 v205 v206 v207 v208 v209 v210 v211 v212 v213 v214 v215 v216 v217 v218 v219 v220 v221 v222 v223 v224 v225 v226 v227 v228 v229 v230 v231 v232 v233 v234 v235 v236 v237 v238 v239 v240 v241 v242 v243 v244 : Value) (wc : World), (∃ (d : DM) (m : LM) (lp : Addr) (r : DV) (g : LgV) (E : Int), v10 = .pointer (some lp) ∧ v16 = .int .i64 E ∧ v17 = .int .i64 E ∧ Hid (PT q (i + 1) d m) ∧ Hid (r.m = d ∧ g.m = m) ∧ Hid (WQ w p lp NN R S d m r g wc)) → K ⟨#[c0, c1, c2, c3, c4, .int .i64 (1 + (q : Int)), .pointer (some p), c7, .pointer (some ⟨R, 0, none⟩), c9, v10, c11, .pointer (some ⟨S, 0, none⟩), c13, c14, .pointer (some ⟨Q, 0, none⟩), v16, v17, v18, v19, v20, c21, c22, c23, c24, c25, c26, c27, c28, c29, c30, c31, c32, c33, c34, c35, c36, c37, c38, c39, c40, c41, c42, c43, c44, c45, c46, c47, c48, c49, c50, c51, c52, c53, c54, c55, c56, c57, c58, c59, c60, c61, c62, c63, c64, c65, c66, c67, c68, v69, v70, v71, v72, v73, v74, v75, v76, v77, v78, v79, v80, v81, v82, v83, v84, v85, v86, v87, v88, v89, v90, v91, v92, v93, v94, v95, v96, v97, v98, v99, v100, v101, v102, v103, v104, v105, v106, v107, v108, v109, v110, v111, v112, v113, v114, v115, v116, v117, v118, v119, v120, v121, v122, v123, v124, v125, v126, v127, v128, v129, v130, v131, v132, v133, v134, v135, v136, v137, v138, v139, v140, v141, v142, v143, v144, v145, v146, v147, v148, v149, v150, v151, v152, v153, v154, v155, v156, v157, v158, v159, v160, v161, v162, v163, v164, v165, v166, v167, v168, v169, v170, v171, v172, v173, v174, v175, v176, v177, v178, v179, v180, v181, v182, v183, v184, v185, v186, v187, v188, v189, v190, v191, v192, v193, v194, v195, v196, v197, v198, v199, v200, v201, v202, v203, v204, v205, v206, v207, v208, v209, v210, v211, v212, v213, v214, v215, v216, v217, v218, v219, v220, v221, v222, v223, v224, v225, v226, v227, v228, v229, v230, v231, v232, v233, v234, v235, v236, v237, v238, v239, v240, v241, v242, v243, v244, c245], []⟩ wc) :
    Code.wp Try.prog (((Try.f3).body.bind (blockOf 2)).getD .skip) (Exit.then K Q9) ⟨#[c0, c1, c2, c3, c4, .int .i64 (1 + (q : Int)), .pointer (some p), c7, .pointer (some ⟨R, 0, none⟩), c9, .pointer (some lp), c11, .pointer (some ⟨S, 0, none⟩), c13, c14, .pointer (some ⟨Q, 0, none⟩), .int .i64 0, .int .i64 0, c18, c19, c20, c21, c22, c23, c24, c25, c26, c27, c28, c29, c30, c31, c32, c33, c34, c35, c36, c37, c38, c39, c40, c41, c42, c43, c44, c45, c46, c47, c48, c49, c50, c51, c52, c53, c54, c55, c56, c57, c58, c59, c60, c61, c62, c63, c64, c65, c66, c67, c68, c69, c70, c71, c72, c73, c74, c75, c76, c77, c78, c79, c80, c81, c82, c83, c84, c85, c86, .int .i64 3, c88, c89, c90, c91, c92, c93, c94, c95, c96, c97, c98, c99, c100, c101, c102, c103, c104, c105, c106, c107, c108, c109, c110, c111, c112, c113, c114, c115, c116, c117, c118, c119, c120, c121, c122, c123, c124, c125, c126, c127, c128, c129, c130, c131, c132, c133, c134, c135, c136, c137, c138, c139, c140, c141, c142, c143, c144, c145, c146, c147, c148, c149, c150, c151, c152, c153, c154, c155, c156, c157, c158, c159, c160, c161, c162, c163, c164, c165, c166, c167, c168, c169, c170, c171, c172, c173, c174, c175, c176, c177, c178, c179, c180, c181, c182, c183, c184, c185, c186, c187, c188, c189, c190, c191, c192, c193, c194, c195, c196, c197, c198, c199, c200, c201, c202, c203, c204, c205, c206, c207, c208, c209, c210, c211, c212, c213, c214, c215, c216, c217, c218, c219, c220, c221, c222, c223, c224, c225, c226, c227, c228, c229, c230, c231, c232, c233, c234, c235, c236, c237, c238, c239, c240, c241, c242, c243, c244, c245], []⟩ y1 := by
  conv => arg 2; whnf
  have HK9 := hide hK
  clear hK
  obtain ⟨z0c, z1c, z2c, z3c⟩ := act_cells HBQ.out
  obtain ⟨rfl, rfl⟩ := HEQ.out
  obtain ⟨_, _, _, _, q4⟩ := W3.out.k
  obtain ⟨ga, gc, eg⟩ := q4.form
  obtain ⟨sa, sc, es⟩ := W3.out.i.s.form
  obtain ⟨la, lc, el⟩ := W3.out.i.l.form
  obtain ⟨gm, gv⟩ := g
  obtain ⟨rm, rsv, rlv⟩ := r
  simp only at eg es el
  subst eg es el
  clear q4
  have hneS : ¬ R = S := W3.out.ne
  have hneS2 : ¬ S = R := fun e => W3.out.ne e.symm
  have n1 : ((3 : Int) == 1) = false := rfl
  have n2 : ((3 : Int) == 2) = false := rfl
  obtain ⟨t, ht, hbits⟩ := and3 nn
  obtain ⟨e1, e2, e3⟩ := ep_fit HPT.out.b.1 ht HI40.out
  have HEB := hide e1
  have hA := wq_reset W3.out HPT.out e1
  rw [Int.natCast_add] at hA
  have HA := hide hA
  obtain ⟨⟨t0, t1, t2, t3, t4, t5, t6⟩, _⟩ := lg_cells W3.out.c12
  simp only [] at t0 t1 t2 t3 t4 t5 t6
  have HT3 := hide ht
  clear hA e1 ht z2c z3c
  go_wp2_with fail
  refine HA.out.mono ?_
  rintro e y2 ⟨rfl, HB⟩
  clear t0 t1 t2 t3 t4 t5 t6
  obtain ⟨⟨t0, t1, t2, t3, t4, t5, t6⟩, _⟩ := lg_cells HB.out.1.c12
  simp only [] at t0 t1 t2 t3 t4 t5 t6
  have hD := wq_rreset HB.out.1 HPT.out HEB.out
  rw [Int.natCast_add] at hD
  have HD := hide hD
  clear hD HA
  go_wp2_with fail
  refine HD.out.mono ?_
  rintro e y3 ⟨g', rfl, HE2, W5, hb3, W6⟩
  obtain ⟨_, _, _, _, q4⟩ := W6.out.1.k
  obtain ⟨ga', gc', eg'⟩ := q4.form
  obtain ⟨gm', gv'⟩ := g'
  simp only at eg'
  subst eg'
  clear t0 t1 t2 t3 t4 t5 t6
  obtain ⟨⟨t0, t1, t2, t3, t4, t5, t6⟩, f0, f1, f2, f3, f4, f5, f6⟩ := lg_cells W5.out.c12
  simp only [] at t0 t1 t2 t3 t4 t5 t6
  have HPN := hide (pt_reset HPT.out HI40.out t HT3.out)
  have W9 := hide (W6.out.1.less NN (fun k hk => .inl hk) (by rw [← HNN.out]; exact .inl rfl) (by rw [← HNN.out]; exact .inr rfl))
  have hE2 := HE2.out
  try simp only at hE2
  rw [← hE2] at HPN W9
  clear hE2 HD HB q4 W5 hb3
  go_wp2_with fail
  exact HK9.out _ _ _ _ _ _ _ _ _ _ _ _ _ _ _ _ _ _ _ _ _ _ _ _ _ _ _ _ _ _ _ _ _ _ _ _ _ _ _ _ _ _ _ _ _ _ _ _ _ _ _ _ _ _ _ _ _ _ _ _ _ _ _ _ _ _ _ _ _ _ _ _ _ _ _ _ _ _ _ _ _ _ _ _ _ _ _ _ _ _ _ _ _ _ _ _ _ _ _ _ _ _ _ _ _ _ _ _ _ _ _ _ _ _ _ _ _ _ _ _ _ _ _ _ _ _ _ _ _ _ _ _ _ _ _ _ _ _ _ _ _ _ _ _ _ _ _ _ _ _ _ _ _ _ _ _ _ _ _ _ _ _ _ _ _ _ _ _ _ _ _ _ _ _ _ _ _ _ _ _ _ _ _ ⟨rm, gm', lp, _, _, _, rfl, rfl, rfl, HPN, hide ⟨rfl, rfl⟩, W9⟩
set_option maxHeartbeats 8000000 in
theorem wp_c0 (w y1 : World) (p lp : Addr) (NN : Nat → Prop) (R S Q q i : Nat) (d : DM) (m : LM) (r : DV) (g : LgV) (kind nn : Int) (b : Bs) (keep : List Bool) (ba ka : Option Addr) (bl bc kl kc : Nat)
    (HI40 : Hid (i ≤ 400)) (HQ : Hid (q < 8)) (HPT : Hid (PT q i d m)) (HEQ : Hid (r.m = d ∧ g.m = m)) (W3 : Hid (WQ w p lp (fun k => NN k ∨ k = Q) R S d m r g y1)) (HNN : Hid ((fun k : Nat => k = R ∨ k = S) = NN)) (HYY : Hid (IsY w (.slice ba bl bc) b)) (HKK : Hid (IsF w (.slice ka kl kc) keep))
    (HOK : Hid (OkW ⟨kind, nn, b, keep, .slice ba b.length bc, .slice ka keep.length kc⟩)) (HBL : Hid (b.length ≤ 600 ∧ keep.length ≤ 400)) (HBN : Hid (bl = b.length)) (HKN : Hid (kl = keep.length))
    (HBQ : Hid (y1.heap[Q]? = some (.cells #[.int .i64 kind, .int .i64 nn, .slice ba bl bc, .slice ka kl kc] 46 (0, 0)))) (HQL : Hid (Q < y1.heap.size)) (HQR : Hid (Q ≠ R ∧ Q ≠ S)) (n1 : (kind == 1) = false) (n2 : (kind == 2) = false) (n3 : (kind == 3) = false) (n4 : (kind == 4) = false) (n5 : (kind == 5) = false)
    (c0 c1 c2 c3 c4 c7 c9 c11 c13 c14 c18 c19 c20 c21 c22 c23 c24 c25 c26 c27 c28 c29 c30 c31 c32 c33 c34 c35 c36 c37 c38 c39 c40 c41 c42 c43 c44 c45 c46 c47 c48 c49 c50 c51 c52 c53 c54 c55 c56 c57 c58 c59 c60 c61 c62 c63 c64 c65 c66 c67 c68 c69 c70 c71 c72 c73 c74 c75 c76 c77 c78 c79 c80 c81 c82 c83 c84 c85 c86 c88 c89 c90 c91 c92 c93 c94 c95 c96 c97 c98 c99 c100 c101 c102 c103 c104 c105 c106 c107 c108 c109 c110 c111 c112 c113 c114 c115 c116 c117 c118 c119 c120 c121 c122 c123 c124 c125 c126 c127 c128 c129 c130 c131 c132 c133 c134 c135 c136 c137 c138 c139 c140 c141 c142 c143 c144 c145 c146 c147 c148 c149 c150 c151 c152 c153 c154 c155 c156 c157 c158 c159 c160 c161 c162 c163 c164 c165 c166 c167 c168 c169 c170 c171 c172 c173 c174 c175 c176 c177 c178 c179 c180 c181 c182 c183 c184 c185 c186 c187 c188 c189 c190 c191 c192 c193 c194 c195 c196 c197 c198 c199 c200 c201 c202 c203 c204 c205 c206 c207 c208 c209 c210 c211 c212 c213 c214 c215 c216 c217 c218 c219 c220 c221 c222 c223 c224 c225 c226 c227 c228 c229 c230 c231 c232 c233 c234 c235 c236 c237 c238 c239 c240 c241 c242 c243 c244 c245 : Value) (K : Act → World → Prop) (Q9 : Exit → Act → World → Prop)
    (hK : ∀ (v10 v16 v17 v18 v19 v20 v69 v70 v71 v72 v73 v74 v75 v76 v77 v78 v79 v80 v81 v82 v83 v84 v85 v86 v87 v88 v89 v90 v91 v92 v93 v94 v95 v96 v97 v98 v99 v100 v101 v102 v103 v104 v105 v106 v107 v108 v109 v110 v111 v112 v113 v114 v115 v116 v117 v118 v119 v120 v121 v122 v123 v124 v125 v126 v127 v128 v129 v130 v131 v132 v133 v134 v135 v136 v137 v138 v139 v140 v141 v142 v143 v144 v145 v146 v147 v148 v149 v150 v151 v152 v153 v154 v155 v156 v157 v158 v159 v160 v161 v162 v163 v164 v165 v166 v167 v168 v169 v170 v171 v172 v173 v174 v175 v176 v177 v178 v179 v180 v181 v182 v183 v184 v185 v186 v187 v188 v189 v190 v191 v192 v193 v194 v195 v196 v197 v198 v199 v200 v201 v202 v203 v204 v205 v206 v207 v208 v209 v210 v211 v212 v213 v214 v215 v216 v217 v218 v219 v220 v221 v222 v223 v224 v225 v226 v227 v228 v229 v230 v231 v232 v233 v234 v235 v236 v237 v238 v239 v240 v241 v242 v243 v244 : Value) (wc : World), (∃ (d : DM) (m : LM) (lp : Addr) (r : DV) (g : LgV) (E : Int), v10 = .pointer (some lp) ∧ v16 = .int .i64 E ∧ v17 = .int .i64 E ∧ Hid (PT q (i + 1) d m) ∧ Hid (r.m = d ∧ g.m = m) ∧ Hid (WQ w p lp NN R S d m r g wc)) → K ⟨#[c0, c1, c2, c3, c4, .int .i64 (1 + (q : Int)), .pointer (some p), c7, .pointer (some ⟨R, 0, none⟩), c9, v10, c11, .pointer (some ⟨S, 0, none⟩), c13, c14, .pointer (some ⟨Q, 0, none⟩), v16, v17, v18, v19, v20, c21, c22, c23, c24, c25, c26, c27, c28, c29, c30, c31, c32, c33, c34, c35, c36, c37, c38, c39, c40, c41, c42, c43, c44, c45, c46, c47, c48, c49, c50, c51, c52, c53, c54, c55, c56, c57, c58, c59, c60, c61, c62, c63, c64, c65, c66, c67, c68, v69, v70, v71, v72, v73, v74, v75, v76, v77, v78, v79, v80, v81, v82, v83, v84, v85, v86, v87, v88, v89, v90, v91, v92, v93, v94, v95, v96, v97, v98, v99, v100, v101, v102, v103, v104, v105, v106, v107, v108, v109, v110, v111, v112, v113, v114, v115, v116, v117, v118, v119, v120, v121, v122, v123, v124, v125, v126, v127, v128, v129, v130, v131, v132, v133, v134, v135, v136, v137, v138, v139, v140, v141, v142, v143, v144, v145, v146, v147, v148, v149, v150, v151, v152, v153, v154, v155, v156, v157, v158, v159, v160, v161, v162, v163, v164, v165, v166, v167, v168, v169, v170, v171, v172, v173, v174, v175, v176, v177, v178, v179, v180, v181, v182, v183, v184, v185, v186, v187, v188, v189, v190, v191, v192, v193, v194, v195, v196, v197, v198, v199, v200, v201, v202, v203, v204, v205, v206, v207, v208, v209, v210, v211, v212, v213, v214, v215, v216, v217, v218, v219, v220, v221, v222, v223, v224, v225, v226, v227, v228, v229, v230, v231, v232, v233, v234, v235, v236, v237, v238, v239, v240, v241, v242, v243, v244, c245], []⟩ wc) :
    Code.wp Try.prog (((Try.f3).body.bind (blockOf 2)).getD .skip) (Exit.then K Q9) ⟨#[c0, c1, c2, c3, c4, .int .i64 (1 + (q : Int)), .pointer (some p), c7, .pointer (some ⟨R, 0, none⟩), c9, .pointer (some lp), c11, .pointer (some ⟨S, 0, none⟩), c13, c14, .pointer (some ⟨Q, 0, none⟩), .int .i64 0, .int .i64 0, c18, c19, c20, c21, c22, c23, c24, c25, c26, c27, c28, c29, c30, c31, c32, c33, c34, c35, c36, c37, c38, c39, c40, c41, c42, c43, c44, c45, c46, c47, c48, c49, c50, c51, c52, c53, c54, c55, c56, c57, c58, c59, c60, c61, c62, c63, c64, c65, c66, c67, c68, c69, c70, c71, c72, c73, c74, c75, c76, c77, c78, c79, c80, c81, c82, c83, c84, c85, c86, .int .i64 kind, c88, c89, c90, c91, c92, c93, c94, c95, c96, c97, c98, c99, c100, c101, c102, c103, c104, c105, c106, c107, c108, c109, c110, c111, c112, c113, c114, c115, c116, c117, c118, c119, c120, c121, c122, c123, c124, c125, c126, c127, c128, c129, c130, c131, c132, c133, c134, c135, c136, c137, c138, c139, c140, c141, c142, c143, c144, c145, c146, c147, c148, c149, c150, c151, c152, c153, c154, c155, c156, c157, c158, c159, c160, c161, c162, c163, c164, c165, c166, c167, c168, c169, c170, c171, c172, c173, c174, c175, c176, c177, c178, c179, c180, c181, c182, c183, c184, c185, c186, c187, c188, c189, c190, c191, c192, c193, c194, c195, c196, c197, c198, c199, c200, c201, c202, c203, c204, c205, c206, c207, c208, c209, c210, c211, c212, c213, c214, c215, c216, c217, c218, c219, c220, c221, c222, c223, c224, c225, c226, c227, c228, c229, c230, c231, c232, c233, c234, c235, c236, c237, c238, c239, c240, c241, c242, c243, c244, c245], []⟩ y1 := by
  conv => arg 2; whnf
  have HK9 := hide hK
  clear hK
  obtain ⟨z0c, z1c, z2c, z3c⟩ := act_cells HBQ.out
  obtain ⟨rfl, rfl⟩ := HEQ.out
  obtain ⟨_, _, _, _, q4⟩ := W3.out.k
  obtain ⟨ga, gc, eg⟩ := q4.form
  obtain ⟨sa, sc, es⟩ := W3.out.i.s.form
  obtain ⟨la, lc, el⟩ := W3.out.i.l.form
  obtain ⟨gm, gv⟩ := g
  obtain ⟨rm, rsv, rlv⟩ := r
  simp only at eg es el
  subst eg es el
  clear q4
  have hneS : ¬ R = S := W3.out.ne
  have hneS2 : ¬ S = R := fun e => W3.out.ne e.symm
  have W9 := hide (W3.out.less NN (fun k hk => .inl hk) (by rw [← HNN.out]; exact .inl rfl) (by rw [← HNN.out]; exact .inr rfl))
  have HPN := hide HPT.out.next
  clear z1c z2c z3c
  go_wp2_with fail
  exact HK9.out _ _ _ _ _ _ _ _ _ _ _ _ _ _ _ _ _ _ _ _ _ _ _ _ _ _ _ _ _ _ _ _ _ _ _ _ _ _ _ _ _ _ _ _ _ _ _ _ _ _ _ _ _ _ _ _ _ _ _ _ _ _ _ _ _ _ _ _ _ _ _ _ _ _ _ _ _ _ _ _ _ _ _ _ _ _ _ _ _ _ _ _ _ _ _ _ _ _ _ _ _ _ _ _ _ _ _ _ _ _ _ _ _ _ _ _ _ _ _ _ _ _ _ _ _ _ _ _ _ _ _ _ _ _ _ _ _ _ _ _ _ _ _ _ _ _ _ _ _ _ _ _ _ _ _ _ _ _ _ _ _ _ _ _ _ _ _ _ _ _ _ _ _ _ _ _ _ _ _ _ _ _ _ ⟨rm, gm, lp, _, _, 0, rfl, rfl, rfl, HPN, hide ⟨rfl, rfl⟩, W9⟩
end Go.Proofs.Ythpepkfodcgbcaa
/- WalPlays, in parts: a crash, and the log opened again. -/
set_option linter.unusedVariables false
set_option linter.unusedSimpArgs false
set_option maxRecDepth 40000
namespace Go.Proofs.Ythpepkfodcgbcaa
open Go.RowKit

set_option maxHeartbeats 8000000 in
theorem wp_c4 (w y1 : World) (p lp : Addr) (NN : Nat → Prop) (R S Q q i : Nat) (d : DM) (m : LM) (r : DV) (g : LgV) (nn : Int) (b : Bs) (keep : List Bool) (ba ka : Option Addr) (bl bc kl kc : Nat)
    (HI40 : Hid (i ≤ 400)) (HQ : Hid (q < 8)) (HPT : Hid (PT q i d m)) (HEQ : Hid (r.m = d ∧ g.m = m)) (W3 : Hid (WQ w p lp (fun k => NN k ∨ k = Q) R S d m r g y1)) (HNN : Hid ((fun k : Nat => k = R ∨ k = S) = NN)) (HYY : Hid (IsY w (.slice ba bl bc) b)) (HKK : Hid (IsF w (.slice ka kl kc) keep))
    (HOK : Hid (OkW ⟨4, nn, b, keep, .slice ba b.length bc, .slice ka keep.length kc⟩)) (HBL : Hid (b.length ≤ 600 ∧ keep.length ≤ 400)) (HBN : Hid (bl = b.length)) (HKN : Hid (kl = keep.length))
    (HBQ : Hid (y1.heap[Q]? = some (.cells #[.int .i64 4, .int .i64 nn, .slice ba bl bc, .slice ka kl kc] 46 (0, 0)))) (HQL : Hid (Q < y1.heap.size)) (HQR : Hid (Q ≠ R ∧ Q ≠ S))
    (c0 c1 c2 c3 c4 c7 c9 c11 c13 c14 c18 c19 c20 c21 c22 c23 c24 c25 c26 c27 c28 c29 c30 c31 c32 c33 c34 c35 c36 c37 c38 c39 c40 c41 c42 c43 c44 c45 c46 c47 c48 c49 c50 c51 c52 c53 c54 c55 c56 c57 c58 c59 c60 c61 c62 c63 c64 c65 c66 c67 c68 c69 c70 c71 c72 c73 c74 c75 c76 c77 c78 c79 c80 c81 c82 c83 c84 c85 c86 c88 c89 c90 c91 c92 c93 c94 c95 c96 c97 c98 c99 c100 c101 c102 c103 c104 c105 c106 c107 c108 c109 c110 c111 c112 c113 c114 c115 c116 c117 c118 c119 c120 c121 c122 c123 c124 c125 c126 c127 c128 c129 c130 c131 c132 c133 c134 c135 c136 c137 c138 c139 c140 c141 c142 c143 c144 c145 c146 c147 c148 c149 c150 c151 c152 c153 c154 c155 c156 c157 c158 c159 c160 c161 c162 c163 c164 c165 c166 c167 c168 c169 c170 c171 c172 c173 c174 c175 c176 c177 c178 c179 c180 c181 c182 c183 c184 c185 c186 c187 c188 c189 c190 c191 c192 c193 c194 c195 c196 c197 c198 c199 c200 c201 c202 c203 c204 c205 c206 c207 c208 c209 c210 c211 c212 c213 c214 c215 c216 c217 c218 c219 c220 c221 c222 c223 c224 c225 c226 c227 c228 c229 c230 c231 c232 c233 c234 c235 c236 c237 c238 c239 c240 c241 c242 c243 c244 c245 : Value) (K : Act → World → Prop) (Q9 : Exit → Act → World → Prop)
    (hK : ∀ (v10 v16 v17 v18 v19 v20 v69 v70 v71 v72 v73 v74 v75 v76 v77 v78 v79 v80 v81 v82 v83 v84 v85 v86 v87 v88 v89 v90 v91 v92 v93 v94 v95 v96 v97 v98 v99 v100 v101 v102 v103 v104 v105 v106 v107 v108 v109 v110 v111 v112 v113 v114 v115 v116 v117 v118 v119 v120 v121 v122 v123 v124 v125 v126 v127 v128 v129 v130 v131 v132 v133 v134 v135 v136 v137 v138 v139 v140 v141 v142 v143 v144 v145 v146 v147 v148 v149 v150 v151 v152 v153 v154 v155 v156 v157 v158 v159 v160 v161 v162 v163 v164 v165 v166 v167 v168 v169 v170 v171 v172 v173 v174 v175 v176 v177 v178 v179 v180 v181 v182 v183 v184 v185 v186 v187 v188 v189 v190 v191 v192 v193 v194 v195 v196 v197 v198 v199 v200 v201 v202 v203 v204 v205 v206 v207 v208 v209 v210 v211 v212 v213 v214 v215 v216 v217 v218 v219 v220 v221 v222 v223 v224 v225 v226 v227 v228 v229 v230 v231 v232 v233 v234 v235 v236 v237 v238 v239 v240 v241 v242 v243 v244 : Value) (wc : World), (∃ (d : DM) (m : LM) (lp : Addr) (r : DV) (g : LgV) (E : Int), v10 = .pointer (some lp) ∧ v16 = .int .i64 E ∧ v17 = .int .i64 E ∧ Hid (PT q (i + 1) d m) ∧ Hid (r.m = d ∧ g.m = m) ∧ Hid (WQ w p lp NN R S d m r g wc)) → K ⟨#[c0, c1, c2, c3, c4, .int .i64 (1 + (q : Int)), .pointer (some p), c7, .pointer (some ⟨R, 0, none⟩), c9, v10, c11, .pointer (some ⟨S, 0, none⟩), c13, c14, .pointer (some ⟨Q, 0, none⟩), v16, v17, v18, v19, v20, c21, c22, c23, c24, c25, c26, c27, c28, c29, c30, c31, c32, c33, c34, c35, c36, c37, c38, c39, c40, c41, c42, c43, c44, c45, c46, c47, c48, c49, c50, c51, c52, c53, c54, c55, c56, c57, c58, c59, c60, c61, c62, c63, c64, c65, c66, c67, c68, v69, v70, v71, v72, v73, v74, v75, v76, v77, v78, v79, v80, v81, v82, v83, v84, v85, v86, v87, v88, v89, v90, v91, v92, v93, v94, v95, v96, v97, v98, v99, v100, v101, v102, v103, v104, v105, v106, v107, v108, v109, v110, v111, v112, v113, v114, v115, v116, v117, v118, v119, v120, v121, v122, v123, v124, v125, v126, v127, v128, v129, v130, v131, v132, v133, v134, v135, v136, v137, v138, v139, v140, v141, v142, v143, v144, v145, v146, v147, v148, v149, v150, v151, v152, v153, v154, v155, v156, v157, v158, v159, v160, v161, v162, v163, v164, v165, v166, v167, v168, v169, v170, v171, v172, v173, v174, v175, v176, v177, v178, v179, v180, v181, v182, v183, v184, v185, v186, v187, v188, v189, v190, v191, v192, v193, v194, v195, v196, v197, v198, v199, v200, v201, v202, v203, v204, v205, v206, v207, v208, v209, v210, v211, v212, v213, v214, v215, v216, v217, v218, v219, v220, v221, v222, v223, v224, v225, v226, v227, v228, v229, v230, v231, v232, v233, v234, v235, v236, v237, v238, v239, v240, v241, v242, v243, v244, c245], []⟩ wc) :
    Code.wp Try.prog (((Try.f3).body.bind (blockOf 2)).getD .skip) (Exit.then K Q9) ⟨#[c0, c1, c2, c3, c4, .int .i64 (1 + (q : Int)), .pointer (some p), c7, .pointer (some ⟨R, 0, none⟩), c9, .pointer (some lp), c11, .pointer (some ⟨S, 0, none⟩), c13, c14, .pointer (some ⟨Q, 0, none⟩), .int .i64 0, .int .i64 0, c18, c19, c20, c21, c22, c23, c24, c25, c26, c27, c28, c29, c30, c31, c32, c33, c34, c35, c36, c37, c38, c39, c40, c41, c42, c43, c44, c45, c46, c47, c48, c49, c50, c51, c52, c53, c54, c55, c56, c57, c58, c59, c60, c61, c62, c63, c64, c65, c66, c67, c68, c69, c70, c71, c72, c73, c74, c75, c76, c77, c78, c79, c80, c81, c82, c83, c84, c85, c86, .int .i64 4, c88, c89, c90, c91, c92, c93, c94, c95, c96, c97, c98, c99, c100, c101, c102, c103, c104, c105, c106, c107, c108, c109, c110, c111, c112, c113, c114, c115, c116, c117, c118, c119, c120, c121, c122, c123, c124, c125, c126, c127, c128, c129, c130, c131, c132, c133, c134, c135, c136, c137, c138, c139, c140, c141, c142, c143, c144, c145, c146, c147, c148, c149, c150, c151, c152, c153, c154, c155, c156, c157, c158, c159, c160, c161, c162, c163, c164, c165, c166, c167, c168, c169, c170, c171, c172, c173, c174, c175, c176, c177, c178, c179, c180, c181, c182, c183, c184, c185, c186, c187, c188, c189, c190, c191, c192, c193, c194, c195, c196, c197, c198, c199, c200, c201, c202, c203, c204, c205, c206, c207, c208, c209, c210, c211, c212, c213, c214, c215, c216, c217, c218, c219, c220, c221, c222, c223, c224, c225, c226, c227, c228, c229, c230, c231, c232, c233, c234, c235, c236, c237, c238, c239, c240, c241, c242, c243, c244, c245], []⟩ y1 := by
  conv => arg 2; whnf
  have HK9 := hide hK
  clear hK
  obtain ⟨z0c, z1c, z2c, z3c⟩ := act_cells HBQ.out
  obtain ⟨rfl, rfl⟩ := HEQ.out
  obtain ⟨_, _, _, _, q4⟩ := W3.out.k
  obtain ⟨ga, gc, eg⟩ := q4.form
  obtain ⟨sa, sc, es⟩ := W3.out.i.s.form
  obtain ⟨la, lc, el⟩ := W3.out.i.l.form
  obtain ⟨gm, gv⟩ := g
  obtain ⟨rm, rsv, rlv⟩ := r
  simp only at eg es el
  subst eg es el
  clear q4
  have hneS : ¬ R = S := W3.out.ne
  have hneS2 : ¬ S = R := fun e => W3.out.ne e.symm
  have n1 : ((4 : Int) == 1) = false := rfl
  have n2 : ((4 : Int) == 2) = false := rfl
  have n3 : ((4 : Int) == 3) = false := rfl
  obtain ⟨m', hop, hpn⟩ := pt_crash HPT.out HQ.out HI40.out keep
  have HPN := hide hpn
  have HOPN := hide hop
  clear hop hpn
  have HA := hide (wq_crash W3.out HPT.out HKK.out HBL.out.2)
  clear z1c z2c
  go_wp2_with fail
  refine HA.out.mono ?_
  rintro e y2 ⟨rfl, HB⟩
  obtain ⟨s0, s1, s2, s3, s4, _⟩ := dk_cells HB.out.1.c8
  simp only [] at s0 s1 s2 s3 s4
  obtain ⟨z0d, z1d, z2d, z3d⟩ := act_cells ((HB.out.2 Q (.inr rfl)).trans HBQ.out)
  have HD := hide (wq_rcrash HB.out.1 HPT.out HKK.out HBL.out.2)
  clear HA z1d z2d
  go_wp2_with fail
  refine HD.out.mono ?_
  rintro e y3 ⟨r', rfl, HE2, W5, hb3, W6⟩
  have HL3 : Hid (y3.cell? ⟨S, 2, none⟩ = some (.int .u64 (gm.ep : Int))) := hide (lg_cells W5.out.c12).1.2.2.1
  have hl3 := HL3.out
  have HF9 := hide (HPN.out.f.fit)
  have HEB : Hid (gm.ep < 18446744073709551616) := hide (by have := HPT.out.b.1; have := HI40.out; omega)
  have HA3 := hide (wq_open W6.out.1 HF9.out HQ.out HPN.out.s HEB.out HOPN.out)
  obtain ⟨sa', sc', es'⟩ := W6.out.1.i.s.form
  obtain ⟨la', lc', el'⟩ := W6.out.1.i.l.form
  obtain ⟨rm', rsv', rlv'⟩ := r'
  simp only at es' el'
  subst es' el'
  clear s0 s1 s2 s3 s4
  obtain ⟨s0, s1, s2, s3, s4, h0, h1, h2, h3, h4⟩ := dk_cells W5.out.c8
  simp only [] at s0 s1 s2 s3 s4
  clear W5 hb3
  clear HD HB HL3
  go_wp2_with fail
  refine HA3.out.mono ?_
  rintro e y4 ⟨lp', rfl, HB4⟩
  clear HA3 s0 s1 s2 s3 s4 h0 h1 h2 h3 h4 hl3
  obtain ⟨⟨t0, t1, t2, t3, t4, t5, t6⟩, _⟩ := lg_cells HB4.out.1.c12
  obtain ⟨s0, s1, s2, s3, s4, _⟩ := dk_cells HB4.out.1.c8
  simp only [] at t0 t1 t2 t3 t4 t5 t6 s0 s1 s2 s3 s4
  have hE2 := HE2.out
  try simp only at hE2
  have HD := hide (wq_ropen HB4.out.1 (q := q) (m' := m') (by show Fit rm'; rw [hE2]; exact HF9.out) HQ.out (by show rm'.safe.length = _; rw [hE2]; exact HPN.out.s) HEB.out (by show openW rm' 2 ((1 : Int) + q) gm.ep = _; rw [hE2]; exact HOPN.out))
  clear hE2
  go_wp2_with fail
  refine HD.out.mono ?_
  rintro e y5 ⟨g', rfl, HG2, W5, hb3, W8⟩
  obtain ⟨_, _, _, _, q4⟩ := W8.out.1.k
  obtain ⟨ga', gc', eg'⟩ := q4.form
  obtain ⟨gm', gv'⟩ := g'
  simp only at eg'
  subst eg'
  clear t0 t1 t2 t3 t4 t5 t6 s0 s1 s2 s3 s4
  obtain ⟨⟨t0, t1, t2, t3, t4, t5, t6⟩, f0, f1, f2, f3, f4, f5, f6⟩ := lg_cells W5.out.c12
  simp only [] at t0 t1 t2 t3 t4 t5 t6
  have W9 := hide (W8.out.1.less NN (fun k hk => .inl hk) (by rw [← HNN.out]; exact .inl rfl) (by rw [← HNN.out]; exact .inr rfl))
  rw [← HE2.out] at HPN W9
  have hG2 := HG2.out
  try simp only at hG2
  rw [← hG2] at HPN W9
  clear hG2 HD q4 W5 hb3 HB4
  go_wp2_with fail
  exact HK9.out _ _ _ _ _ _ _ _ _ _ _ _ _ _ _ _ _ _ _ _ _ _ _ _ _ _ _ _ _ _ _ _ _ _ _ _ _ _ _ _ _ _ _ _ _ _ _ _ _ _ _ _ _ _ _ _ _ _ _ _ _ _ _ _ _ _ _ _ _ _ _ _ _ _ _ _ _ _ _ _ _ _ _ _ _ _ _ _ _ _ _ _ _ _ _ _ _ _ _ _ _ _ _ _ _ _ _ _ _ _ _ _ _ _ _ _ _ _ _ _ _ _ _ _ _ _ _ _ _ _ _ _ _ _ _ _ _ _ _ _ _ _ _ _ _ _ _ _ _ _ _ _ _ _ _ _ _ _ _ _ _ _ _ _ _ _ _ _ _ _ _ _ _ _ _ _ _ _ _ _ _ _ _ ⟨rm', gm', lp', _, _, 0, rfl, rfl, rfl, HPN, hide ⟨rfl, rfl⟩, W9⟩
end Go.Proofs.Ythpepkfodcgbcaa
