import Derived.Test.YtpppdfjdngmaoaaGreatDoorKh36
import Derived.Test.YtpppdfjdngmaoaaGreatDoorKh41
import Derived.Test.YtpppdfjdngmaoaaGreatDoorKh43
import Derived.Test.YtpppdfjdngmaoaaGreatDoorKh44
set_option linter.unusedVariables false
set_option linter.unusedSimpArgs false
set_option maxRecDepth 100000
set_option maxHeartbeats 8000000
namespace Go.Proofs.YtpppdfjdngmaoaaGreatDoor
open Go.RowKit
open G5 (hide)
theorem size_attr (aa : List (Bs × Bs)) (a : Bs × Bs) (h : a ∈ aa) : a.1.length ≤ P9.sizeAs aa := by
  induction aa with
  | nil => cases h
  | cons x r ih =>
    have e : P9.sizeAs (x :: r) = P9.sizeA x + P9.sizeAs r := by unfold P9.sizeAs; rw [List.map_cons, List.sum_cons]
    rw [e]
    unfold P9.sizeA
    rcases List.mem_cons.1 h with rfl | h
    · omega
    · have := ih h
      omega
theorem plain9_any : ∀ {k : Nat} (ts : List (G5.NT k)), ts.length ≤ 9223372036854775807 → G5.OkTs ts → P9.sizeTs ts ≤ 1000000 → PlainOk ts
  | 0, ts, hl, ho, hs => by
    intro Bk va w hB hK
    obtain ⟨rfl, h2⟩ := G5.isK_up hK
    refine (plain9_step ([] : List (G5.NT 1)) (Nat.zero_le _) (fun i h => by simp at h) (fun i h => by simp at h) Bk va w hB h2).mono ?_
    rintro e w1 ⟨⟨r, rfl, _⟩, b1⟩
    exact ⟨⟨r, rfl, fun _ => trivial⟩, b1⟩
  | k + 1, ts, hl, ho, hs => by
    have hz : ∀ i (h : i < ts.length), P9.sizeAs ts[i].nd.attrs ≤ 1000000 ∧ P9.sizeTs ts[i].kids ≤ 1000000 := fun i h => by
      have h1 := P9.sizeTs_mem ts i h
      rw [P9.sizeT_mk] at h1
      omega
    refine plain9_step ts hl (fun i h => ⟨(ho.get i h).1, fun a ha => ?_⟩) (fun i h => plain9_any ts[i].kids (ho.get i h).2.1 (ho.get i h).2.2 (hz i h).2)
    have := size_attr _ a ha
    have := (hz i h).1
    omega
theorem isK_up5 {w W : World} {k : Nat} {ts : List (G5.NT k)} {v : Value} (h : G5.IsK (fun k => k < w.heap.size) w ts v) (hb : Below w.heap.size w W) : G5.IsK (fun k => k < W.heap.size) W ts v := by
  rcases h with h | ⟨b, o, cap, e, h1, h2, h3⟩
  · exact .inl h
  · rcases h2 with h2 | h2
    · subst h2
      exact .inr ⟨b, o, cap, e, h1, .inl rfl, trivial⟩
    · exact .inr ⟨b, o, cap, e, h1, .inr (Nat.lt_of_lt_of_le h2 hb.size), G5.IsNs.keep (fun k hk => hb.block k hk) (fun k hk => Nat.lt_of_lt_of_le hk hb.size) b h2 o ts h3⟩
theorem again_any {m : Nat} (va : Value) (ta : List (G5.NT m)) (w : World) (he : S4.Env w) (hKa : G5.IsK (fun k => k < w.heap.size) w ta va) (hla : ta.length ≤ 9223372036854775807) (hoa : G5.OkTs ta) :
    Calls Tryz.prog 7 #[va] w fun e w' => e = .returned (.bool true) ∧ Below w.heap.size w w' := by
  have up := fun (W : World) (hb : Below w.heap.size w W) (j : Nat) (hj : j < w.heap.size) => Nat.lt_of_lt_of_le hj hb.size
  have HW := hide (P9.weight_any 30 (by decide) ta hla hoa (fun k => k < w.heap.size) va w 200 (by decide) (fun _ h => h) hKa)
  have HP := hide (fun (hs : P9.sizeTs ta ≤ 1000000) (W : World) (hb : Below w.heap.size w W) => plain9_any ta hla hoa hs (fun k => k < w.heap.size) va W (up W hb) (isK_up9 hKa hb))
  have HF := hide (fun (hs : P9.sizeTs ta ≤ 1000000) (W : World) (hb : Below w.heap.size w W) => P9.fragment_any ta (fun k => k < w.heap.size) va W (up W hb) (isK_up9 hKa hb) hs)
  have HE := hide (fun (W : World) (hb : Below w.heap.size w W) => env_below he hb)
  have HK5 := hide (fun (W : World) (hb : Below w.heap.size w W) => isK_up5 hKa hb)
  have HO := hide (And.intro hla hoa)
  obtain ⟨a1, c1, rfl⟩ := G5.isK_form hKa
  generalize hln : ta.length = ln at *
  have HLN := hide hln
  clear hKa hoa he up hln
  go_enter Tryz.func7, Tryz.ntmps7
  go_wp2_with fail
  refine HW.out.mono ?_
  rintro e w1 ⟨⟨W, rfl, hW⟩, b1⟩
  have HWT := hide hW
  clear hW HW
  by_cases hlt : W < 200
  · have hlt2 : ¬ (200 : Int) ≤ W := by omega
    have HSZ : Hid (P9.sizeTs ta ≤ 200 ∧ P9.tallTs ta + 1 ≤ 30) := hide (by have := HWT.out.2 hlt; omega)
    have HS6 : Hid (P9.sizeTs ta ≤ 1000000) := hide (by have := HSZ.out.1; omega)
    clear hlt HWT
    go_wp2_with fail
    refine (HP.out HS6.out _ b1).mono ?_
    rintro e w2 ⟨⟨r, rfl, hr⟩, b2⟩
    have B2 := b1.trans (b2.mono b1.size)
    clear b2 HP
    have HR := hide hr
    clear hr
    cases r
    · go_wp2_with fail
      refine (P9.alive_p _).mono ?_
      rintro e w3 ⟨rfl, b3⟩
      go_wp2
      go_ret
      exact ⟨rfl, B2.trans (b3.mono B2.size)⟩
    · obtain ⟨g1, g2, g3, g4⟩ := again_tree ta (HR.out rfl) HSZ.out.1 HSZ.out.2
      have hpl := P9.printTs_len false ta
      have HTS : Hid ((⟨(P9.printTs false ta).toArray⟩ : ByteArray).size ≤ 4096) := hide (by rw [G5.size_list, G5.str_data]; have := HSZ.out.1; omega)
      have HBF := hide (fun (W : World) (hb : Below w.heap.size w W) => fragment_ev ⟨(P9.printTs false ta).toArray⟩ HTS.out (evTs ta) g2 g1 (by rw [G5.str_data]; exact print_ev ta (HR.out rfl)) W (HE.out W hb))
      rw [G5.str_data] at HBF
      have HG3 := hide g3
      have HG4 := hide (alike_of _ _ g4)
      have HG5 := hide g4
      clear hpl g1 g2 g3 g4 HR
      have HF2 := hide (HF.out HS6.out)
      clear HF
      go_wp2_with fail
      refine (HF2.out _ B2).mono ?_
      rintro e w3 ⟨rfl, b3⟩
      have B3 := B2.trans (b3.mono B2.size)
      clear b3
      go_wp2_with fail
      refine (HBF.out _ B3).mono ?_
      rintro e w4 ⟨a, n, c, rfl, _, hk, b4⟩
      rw [HG3.out]
      have B4 := B3.trans (b4.mono B3.size)
      have HM := hide (isK_cv (isK_mono (C := fun k => k < w4.heap.size) (fun _ h => h.2) (isK_tight (hk HG3.out))))
      clear hk b4 HBF
      go_wp2_with fail
      refine (P9.alive_p _).mono ?_
      rintro e w5 ⟨rfl, b5⟩
      have B5 := B4.trans (b5.mono B4.size)
      have HM5 := hide (isK_up5 HM.out b5)
      clear b5
      go_wp2_with fail
      have HSM := ref_same ta _ (by rw [HLN.out]; exact HO.out.1) (by rw [← HG4.out.len, HLN.out]; exact HO.out.1) HO.out.2 (HG4.out.ok HO.out.2) (fun k => k < w5.heap.size) _ _ w5 (fun _ h => h) (HK5.out _ B5) HM5.out
      rw [HG5.out] at HSM
      refine HSM.mono ?_
      clear HSM
      rintro e w6 ⟨rfl, b6⟩
      have B6 := B5.trans (b6.mono B5.size)
      have HM6 := hide (isK_up5 HM5.out b6)
      clear b6
      go_wp2_with fail
      have HPR := P9.fragment_any _ (fun k => k < w6.heap.size) _ w6 (fun _ h => h) HM6.out (by rw [← HG4.out.size]; exact HS6.out)
      rw [← HG4.out.print] at HPR
      refine HPR.mono ?_
      clear HPR
      rintro e w7 ⟨rfl, b7⟩
      have B7 := B6.trans (b7.mono B6.size)
      clear b7
      generalize (⟨(P9.printTs false ta).toArray⟩ : ByteArray) = T at *
      go_wp2
      go_ret
      exact ⟨rfl, B7⟩
  · have hlt2 : (200 : Int) ≤ W := by omega
    clear hlt
    go_wp2_with fail
    refine (P9.alive_p _).mono ?_
    rintro e w2 ⟨rfl, b2⟩
    go_wp2
    go_ret
    exact ⟨rfl, b1.trans (b2.mono b1.size)⟩
end Go.Proofs.YtpppdfjdngmaoaaGreatDoor
