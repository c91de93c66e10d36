/- The program's Value, walked. -/
import Derived.Test.YtjgklemhlmgheaaVQ5
set_option linter.unusedVariables false
set_option linter.unusedSimpArgs false
namespace Go.Proofs.Ytjgklemhlmgheaa
open Go.RowKit

def ValP (T : TR) (pb n : Nat) : Prop := ∀ (A : Nat → Prop) (w : World), PT A w pb T → Calls Try.prog 15 #[.pointer (some ⟨pb, 0, none⟩), .int .i64 (n : Int)] w fun e w' => (∃ vs, e = .returned (.agg vs.toArray) ∧ IsN (fun k => w.heap.size ≤ k) w' (valueL T n) vs) ∧ Below w.heap.size w w'
set_option maxRecDepth 10000 in
set_option maxHeartbeats 8000000 in
theorem value_step {T : TR} (hW : WF T) (hz : T.length ≤ 1000000) (ha : ∀ i, (nodeAt T i).attrs.length ≤ 1000000) (pb n : Nat) (hn : n < T.length) (ih : ∀ x ∈ kidsAt T n, ValP T pb x) : ValP T pb n := by
  intro A w h
  have HVE := hide (hW.value_eq hn)
  have HIH := hide ih
  have b0 := below_alloc w (.cells #[.int .i64 0, .int .i64 0, .string ⟨#[]⟩, .slice none 0 0, .string ⟨#[]⟩, .slice none 0 0] 41)
  have HB0 := hide b0
  have HK0 : Hid (Kept (w.alloc (.cells #[.int .i64 0, .int .i64 0, .string ⟨#[]⟩, .slice none 0 0, .string ⟨#[]⟩, .slice none 0 0] 41)) w.heap.size zeroC6) := hide (Kept.new w zeroC6 41)
  have HH := hide (has_p (n : Int) (h.below b0))
  rw [raw_len, decide_eq_true (⟨by omega, by omega⟩ : 0 ≤ (n : Int) ∧ (n : Int) < T.length)] at HH
  have HPT := hide h
  obtain ⟨g, cap, rs, hR, hP⟩ := h
  have hlr := map_len hR
  rw [raw_len] at hlr
  have hn2 : n < rs.length := by omega
  have hrn := map_get hR n hn2 (by rw [raw_len]; exact hn)
  rw [raw_get] at hrn
  have hnd : rs[n].rn.nd = nodeAt T n := by rw [hrn]; rfl
  have hkd : rs[n].rn.kids = kidsAt T n := by rw [hrn]; rfl
  have HPV := hide hP
  have HAL := hide (fun W (hb : Below w.heap.size w W) => alone_p (hP.below hb) n hn2 (by rw [hnd]; exact ha n))
  rw [hnd] at HAL
  have hki := hP.kid n hn2
  rw [hkd] at hki
  have HC2 : Hid (w.cell? ⟨g, n * 7 + 2, none⟩ = some rs[n].kv) := hide (hP.cellAt n hn2 2 (by omega))
  obtain ⟨ka, kc, ek⟩ := owns_form hki
  rw [ek] at HC2 hki
  have HKI := hide (owns_isI hki)
  have HKL : Hid (∀ k, (Value.slice ka (kidsAt T n).length kc).ownBlock = some k → k < w.heap.size) := hide fun k e => (hki.lt k e).2
  have hkl : (kidsAt T n).length ≤ 1000000 := by have := hW.kids_len n; omega
  have hni : (n : Int) < T.length := by omega
  clear hP hR hrn hnd hkd hki ek b0 ih ha hW
  generalize hks : kidsAt T n = ks at *
  generalize nodeAt T n = d at *
  clear hks
  go_enter Try.func15, Try.ntmps15
  go_wp2_with fail
  refine HH.out.mono ?_
  rintro e x1 ⟨rfl, b1⟩
  have B1 := hide (HB0.out.trans (b1.mono HB0.out.size))
  have K1 := hide (Kept.below (v := .int .i64 0) (cs := [.int .i64 0, .string ⟨#[]⟩, .slice none 0 0, .string ⟨#[]⟩, .slice none 0 0]) HK0.out b1)
  have c0 := (HPV.out.below B1.out).tree
  rw [hlr] at c0
  clear b1
  go_wp2_with fail
  refine (HAL.out _ B1.out).mono ?_
  rintro e x2 ⟨⟨av, rfl, hA2, hav, ⟨aa, an, ac, rfl⟩⟩, b2⟩
  have B2 := hide (B1.out.trans (b2.mono B1.out.size))
  have K2 : Kept x2 w.heap.size zeroC6 := Kept.below (v := .int .i64 0) (cs := [.int .i64 0, .string ⟨#[]⟩, .slice none 0 0, .string ⟨#[]⟩, .slice none 0 0]) K1.out b2
  have hx1 : w.heap.size < x1.heap.size := cell_lt (K1.out.1 0)
  have hx12 := b2.size
  have hVS : VS (j := T.length + 1) w x2.heap.size d (.slice aa an ac) (.slice none 0 0) [] (x2.alloc (.cells #[.int .i64 d.kind, .int .i64 d.space, .string ⟨d.name.toArray⟩, .slice aa an ac, .string ⟨d.text.toArray⟩, .slice none 0 0] 41)) := by
    by_cases hae : d.attrs = []
    · refine ⟨B2.out.trans ((below_alloc x2 _).mono B2.out.size), Kept.new x2 _ _, K2.keep ((below_alloc x2 _).block _ (by omega)), ⟨hA2.below (below_alloc x2 _), .inl hae⟩, ⟨⟨[], rfl, World.ownsRow_nil _ _ _ _, by intro j h1; simp at h1⟩⟩, by omega⟩
    · refine VS.start rfl B2.out K2 hA2 fun k e => ⟨by have := hav k e; omega, ?_⟩
      rcases hA2 with ⟨_, h0⟩ | ⟨bb, oo, cc, e1, _, hcs⟩
      · exact absurd h0 hae
      · have hl0 : 0 < d.attrs.length := by
          cases hd : d.attrs with
          | nil => exact absurd hd hae
          | cons x y => simp
        rw [e1] at e
        have : bb = k := by simpa [Value.ownBlock] using e
        rw [← this]
        exact cell_lt (hcs 0 hl0).1
  have c02 : x2.cell? ⟨pb, 0, none⟩ = some (.slice (some ⟨g, 0, none⟩) T.length cap) := (b2.cell (cell_lt c0)).trans c0
  have hpb : pb < x2.heap.size := cell_lt c02
  have c0a : (x2.alloc (.cells #[.int .i64 d.kind, .int .i64 d.space, .string ⟨d.name.toArray⟩, .slice aa an ac, .string ⟨d.text.toArray⟩, .slice none 0 0] 41)).cell? ⟨pb, 0, none⟩ = some (.slice (some ⟨g, 0, none⟩) T.length cap) := ((below_alloc x2 _).cell (cell_lt c02)).trans c02
  have c2a : (x2.alloc (.cells #[.int .i64 d.kind, .int .i64 d.space, .string ⟨d.name.toArray⟩, .slice aa an ac, .string ⟨d.text.toArray⟩, .slice none 0 0] 41)).cell? ⟨g, n * 7 + 2, none⟩ = some (.slice ka ks.length kc) := by
    have h2 : x2.cell? ⟨g, n * 7 + 2, none⟩ = some (.slice ka ks.length kc) := (B2.out.cell (cell_lt HC2.out)).trans HC2.out
    exact ((below_alloc x2 _).cell (cell_lt h2)).trans h2
  have HVS := hide hVS
  clear hVS hA2 hav b2 c0 c02 K1 K2
  go_wp2_with fail
  generalize x2.alloc (.cells #[.int .i64 d.kind, .int .i64 d.space, .string ⟨d.name.toArray⟩, .slice aa an ac, .string ⟨d.text.toArray⟩, .slice none 0 0] 41) = W3 at *
  clear c0a c2a hpb hx12 hx1 B2
  generalize x2.heap.size = p at *
  go_loopw [7, 30] (fun v7 vi wr => ∃ (i : Nat) (kvv : Value), vi = .int .i64 (i : Int) ∧ i ≤ ks.length ∧ Hid (VS w p d (.slice aa an ac) kvv ((ks.take i).map (valueL T)) wr ∧ ∃ a n c, kvv = .slice a n c)) (fun _ vi _ => ks.length - (intOf vi).toNat)
  case atStart => exact ⟨0, .slice none 0 0, rfl, by omega, hide ⟨HVS.out, _, _, _, rfl⟩⟩
  case round =>
    clear HVS
    obtain ⟨i, kvv, rfl, hi, HV⟩ := hrel
    obtain ⟨hV, qa, qn, qc, rfl⟩ := HV.out
    have k0 : wr.cell? ⟨p, 0, none⟩ = some (.int .i64 d.kind) := hV.kp.1 0
    have k1 : wr.cell? ⟨p, 1, none⟩ = some (.int .i64 d.space) := hV.kp.1 1
    have k2 : wr.cell? ⟨p, 2, none⟩ = some (.string ⟨d.name.toArray⟩) := hV.kp.1 2
    have k3 : wr.cell? ⟨p, 3, none⟩ = some (.slice aa an ac) := hV.kp.1 3
    have k4 : wr.cell? ⟨p, 4, none⟩ = some (.string ⟨d.text.toArray⟩) := hV.kp.1 4
    have k5 : wr.cell? ⟨p, 5, none⟩ = some (.slice qa qn qc) := hV.kp.1 5
    by_cases hlt : i < ks.length
    · have hlt2 : (i : Int) < ks.length := by omega
      have hIr : IsI wr (.slice ka ks.length kc) ks := by
        have hIB : IsIB (fun k => k < w.heap.size) w (.slice ka ks.length kc) ks := ⟨HKI.out, .inr HKL.out⟩
        exact (hIB.keep fun k hk => hV.bel.block k hk).1
      obtain ⟨kb, ko, rfl, hkc⟩ := hIr.at (by omega)
      have ck := hkc i hlt
      have HD := hide (Below.refl wr.heap.size wr).drew
      have HVAL := hide (HIH.out ks[i] (List.getElem_mem hlt) A wr.drew ((HPT.out.below hV.bel).below (Below.refl wr.heap.size wr).drew))
      have HTK : Hid ((ks.take (i + 1)).map (valueL T) = (ks.take i).map (valueL T) ++ [valueL T ks[i]]) := hide (by rw [List.take_succ_eq_append_getElem hlt, List.map_append]; rfl)
      have hmi : ((ks.take i).map (valueL T)).length ≤ 1000000 := by rw [List.length_map, List.length_take]; omega
      have HPOST : Hid (∀ e y1, ((∃ vs, e = Ending.returned (.agg vs.toArray) ∧ IsN (fun k => wr.drew.heap.size ≤ k) y1 (valueL T ks[i]) vs) ∧ Below wr.drew.heap.size wr.drew y1) → ∃ (q1 q2 : Int) (q3 : ByteArray) (q4 : Option Addr) (q5 q6 : Nat) (q7 : ByteArray) (q8 : Option Addr) (q9 q10 : Nat) (ra : Option Addr) (rn rc : Nat) (w' : World), e = .returned (.agg #[.int .i64 q1, .int .i64 q2, .string q3, .slice q4 q5 q6, .string q7, .slice q8 q9 q10]) ∧ y1.cell? ⟨p, 5, none⟩ = some (.slice qa qn qc) ∧ (y1.alloc (.cells #[.int .i64 q1, .int .i64 q2, .string q3, .slice q4 q5 q6, .string q7, .slice q8 q9 q10] 41)).cell? ⟨p, 5, none⟩ = some (.slice qa qn qc) ∧ Hid ((Builtin.append_ #[39, 39] 39 #[.slice qa qn qc, .slice (some ⟨y1.heap.size, 0, none⟩) 1 1]).run Try.prog (y1.alloc (.cells #[.int .i64 q1, .int .i64 q2, .string q3, .slice q4 q5 q6, .string q7, .slice q8 q9 q10] 41)) = .ok (.slice ra rn rc) w') ∧ w'.cell? ⟨p, 5, none⟩ = some (.slice qa qn qc) ∧ w'.frozen? ⟨p, 5, none⟩ = false ∧ Hid (VS w p d (.slice aa an ac) (.slice ra rn rc) ((ks.take (i + 1)).map (valueL T)) (w'.setCell ⟨p, 5, none⟩ (.slice ra rn rc)))) := hide (by
        rintro e y1 ⟨⟨vs, rfl, hN⟩, b1⟩
        have hb : Below wr.heap.size wr y1 := HD.out.trans b1
        obtain ⟨v', w', hr, u1, u2, ⟨ra, rn, rc, rfl⟩, hV'⟩ := hV.step hb hN hmi
        obtain ⟨q1, q2, q3, q4, q5, q6, q7, q8, q9, q10, rfl⟩ := hN.form
        have hc5 : y1.cell? ⟨p, 5, none⟩ = some (.slice qa qn qc) := (hb.cell (cell_lt k5)).trans k5
        refine ⟨q1, q2, q3, q4, q5, q6, q7, q8, q9, q10, ra, rn, rc, w', rfl, hc5, ((below_alloc y1 _).cell (cell_lt hc5)).trans hc5, hide hr, u1, u2, hide ?_⟩
        rw [HTK.out]
        exact hV')
      have HVV := HV
      clear hIr hkc hV HV HTK hmi
      generalize valueL T ks[i] = tv at *
      generalize ks[i] = x at *
      go_wp2_with fail
      go_region_law (first | (refine step_append_run rfl (.tmp 35) (.tmp 39) 39 39 rfl (.slice qa qn qc) (.slice (some ⟨y1.heap.size, 0, none⟩) 1 1) (by simp [Act.eval, Act.put]) (by simp [Act.eval, Act.put]) HR.out ?_) | (refine step_call_enter rfl 15 #[.pointer (some ⟨pb, 0, none⟩), .int .i64 (x : Int)] ?_ HVAL.out ?_; go_simp; intro e y1 hh; obtain ⟨q1, q2, q3, q4, q5, q6, q7, q8, q9, q10, ra, rn, rc, w', rfl, z5, z5a, HR, z6, z6f, HVN⟩ := HPOST.out e y1 hh; refine ⟨_, rfl, ?_⟩; clear hh))
      all_goals
        go_wp2
        go_roundw
        case rel => exact ⟨i + 1, .slice ra rn rc, by go_num, by omega, hide ⟨HVN.out, _, _, _, rfl⟩⟩
        case measure => simp [intOf]; omega
    · have hlt2 : ¬ (i : Int) < ks.length := by omega
      have hke : ks.take i = ks := List.take_of_length_le (by omega)
      rw [hke] at hV
      obtain ⟨hN, hB⟩ := hV.done
      rw [← HVE.out] at hN; replace hN := IsN.lift _ _ hN
      have HF := hide (And.intro hN hB)
      have j0 : wr.cell? ⟨w.heap.size, 0, none⟩ = some (.int .i64 0) := hV.kq.1 0
      have j1 : wr.cell? ⟨w.heap.size, 1, none⟩ = some (.int .i64 0) := hV.kq.1 1
      have j2 : wr.cell? ⟨w.heap.size, 2, none⟩ = some (.string ⟨#[]⟩) := hV.kq.1 2
      have j3 : wr.cell? ⟨w.heap.size, 3, none⟩ = some (.slice none 0 0) := hV.kq.1 3
      have j4 : wr.cell? ⟨w.heap.size, 4, none⟩ = some (.string ⟨#[]⟩) := hV.kq.1 4
      have j5 : wr.cell? ⟨w.heap.size, 5, none⟩ = some (.slice none 0 0) := hV.kq.1 5
      have jf := hV.kq.2
      clear hN hB hV HV hke
      go_wp2
      refine bodyPost_ret (v := .agg #[.int .i64 d.kind, .int .i64 d.space, .string ⟨d.name.toArray⟩, .slice aa an ac, .string ⟨d.text.toArray⟩, .slice qa qn qc]) ?_ rfl ⟨⟨_, rfl, HF.out.1⟩, HF.out.2⟩
      rw [results_cell_one rfl]
      go_simp
end Go.Proofs.Ytjgklemhlmgheaa
