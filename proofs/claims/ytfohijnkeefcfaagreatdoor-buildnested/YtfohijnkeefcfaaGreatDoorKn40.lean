import Derived.Test.YtfohijnkeefcfaaGreatDoorKn15
import Derived.RangeFuncNested
import Derived.RangeFuncBound
import Derived.RangeFuncCalls
import Derived.RangeFuncLeaves
import Derived.Shelf.Abstract
import Derived.Shelf.RegionOpen
import Derived.WalkKit
import Derived.OwnWalkIn
import Derived.TacticsInMore
import Derived.LoopNIn
import Derived.LoopIn
set_option linter.unusedVariables false
set_option linter.unusedSimpArgs false
set_option maxRecDepth 100000
set_option maxHeartbeats 8000000
namespace Go.Proofs.YtfohijnkeefcfaaGreatDoor
open Go.RowKit Go.Shelf
open S6 (OV)
attribute [local go_sem] Oper.semAt_some
abbrev AtO (l : List OV) := { x : Nat × OV // l[x.1]? = some x.2 }
def atO (l : List OV) (k : Nat) (h : k < l.length) : AtO l := ⟨(l.length - 1 - k, l[l.length - 1 - k]), List.getElem?_eq_getElem (by omega)⟩
def downO (l : List OV) : Nat -> List (AtO l)
  | 0 => []
  | k + 1 => downO l k ++ (if h : k < l.length then [atO l k h] else [])
theorem downO_succ (l : List OV) (k : Nat) (h : k < l.length) : downO l (k + 1) = downO l k ++ [atO l k h] := by rw [downO, dif_pos h]
theorem downO_len (l : List OV) : ∀ k, k <= l.length -> (downO l k).length = k
  | 0, _ => rfl
  | k + 1, h => by rw [downO_succ l k (by omega), List.length_append, downO_len l k (by omega)]; rfl
def encO {l : List OV} (x : AtO l) : Array Value := #[.int .i64 (x.1.1 : Int), .agg #[.int .i64 x.1.2.id, .int .i64 x.1.2.sp, .string x.1.2.nm]]
theorem back1_in (F : Fence) (n : Nat) (hF : F.fn 167) (hro : F.round = none) (hn : 1 <= n) (g Bs n₀ b off cap : Nat) (l : List OV) (hl : l.length <= 1000000) (hb : b < n₀) (hBn : Bs < n₀) (J Jx : List (AtO l) -> World -> Prop)
    (hY : ∀ pre x W, J pre W -> pre.length < l.length -> YieldAt F (n - 1) Tryz.prog g (encO x) W fun e W' => (e = .returned (.bool true) /\ J (pre ++ [x]) W' /\ Below n₀ W W') \/ (e = .returned (.bool false) /\ Jx (pre ++ [x]) W'))
    (W : World) (hBs : W.cell? ⟨Bs, 0, none⟩ = some (.slice (some ⟨b, off, none⟩) l.length cap))
    (hc : ∀ j (hj : j < l.length), W.cell? ⟨b, off + j * 3, none⟩ = some (.int .i64 l[j].id) /\ W.cell? ⟨b, off + j * 3 + 1, none⟩ = some (.int .i64 l[j].sp) /\ W.cell? ⟨b, off + j * 3 + 2, none⟩ = some (.string l[j].nm)) (h0 : J [] W) :
    CallsIn F n Tryz.prog 167 #[.func (.yield g) #[] #[], .pointer (some ⟨Bs, 0, none⟩)] W fun e W' => (∃ v, e = .returned v) /\ ((∃ ys, ys = downO l l.length /\ J ys W') \/ (∃ pre, (∃ k, k <= l.length /\ pre = downO l k) /\ Jx pre W')) := by
  refine callsIn_of_wp Tryz.func167 rfl hF ?_ hro
  simp only [Tryz.ntmps167, List.size_toArray, List.length_cons, List.length_nil, Nat.reduceAdd, Nat.reduceSub, Array.replicate_succ, Array.replicate_zero, List.push_toArray, List.append_toArray, List.nil_append, List.cons_append]
  have hl2 : (l.length : Int) <= 1000000 := by omega
  gi_wp2
  gi_loopw [3] (fun i wr => ∃ k : Nat, k <= l.length /\ i = .int .i64 ((l.length : Int) - 1 - k) /\ J (downO l k) wr /\ Below n₀ W wr) (fun i _ => (intOf i + 1).toNat)
  case atStart => exact ⟨0, Nat.zero_le _, by simp, h0, Below.refl _ _⟩
  case round =>
    obtain ⟨k, hk, rfl, hJs, hnx⟩ := hrel
    by_cases hlt : k < l.length
    · obtain ⟨u0, u1, u2⟩ := hc (l.length - 1 - k) (by omega)
      have e1 : ((l.length : Int) - 1 - k) = ((l.length - 1 - k : Nat) : Int) := by omega
      obtain ⟨fn, tmps, assign, body, hy, hR⟩ := hY _ (atO l k hlt) wr hJs (by rw [downO_len l k hk]; exact hlt)
      dsimp only [encO, atO] at hy
      have v0 := (hnx.cell (p := ⟨b, off + (l.length - 1 - k) * 3, none⟩) hb).trans u0
      have v1 := (hnx.cell (p := ⟨b, off + (l.length - 1 - k) * 3 + 1, none⟩) hb).trans u1
      have v2 := (hnx.cell (p := ⟨b, off + (l.length - 1 - k) * 3 + 2, none⟩) hb).trans u2
      have vs := (hnx.cell (p := ⟨Bs, 0, none⟩) hBn).trans hBs
      have HDS := S5.hide (downO_succ l k hlt)
      have hj : l.length - 1 - k < l.length := by omega
      rw [e1]
      clear u0 u1 u2
      generalize atO l k hlt = AT at *
      generalize hX : l[l.length - 1 - k] = X at *
      have hi1 : l.length - 1 - k + 1 + k = l.length := by omega
      generalize hI : l.length - 1 - k = i at *
      clear hX hI
      have hi2 : (i : Int) < l.length := by omega
      gi_wp2
      refine hR.mono ?_
      rintro e W3 (⟨rfl, hJ3, hk3⟩ | ⟨rfl, hJx3⟩)
      · gi_wp2
        go_roundw
        case rel => exact ⟨k + 1, by omega, by go_num, by rw [HDS.out]; exact hJ3, hnx.trans hk3⟩
        case measure => simp [intOf]
      · gi_wp2
        refine bodyPost_ret (results_none rfl _ _ _) rfl ?_
        exact ⟨⟨_, rfl⟩, .inr ⟨_, ⟨k + 1, by omega, HDS.out.symm⟩, hJx3⟩⟩
    · obtain rfl : k = l.length := by omega
      have e1 : ((l.length : Int) - 1 - l.length) = -1 := by omega
      rw [e1]
      gi_wp2
      go_end0
      exact ⟨⟨_, rfl⟩, .inl ⟨_, rfl, hJs⟩⟩
theorem back0_in (F : Fence) (n : Nat) (hF : F.fn 167) (hro : F.round = none) (g Bs : Nat) (a : Option Addr) (cap : Nat) {l : List OV} (J : List (AtO l) -> World -> Prop) (W : World) (hBs : W.cell? ⟨Bs, 0, none⟩ = some (.slice a 0 cap)) (h0 : J [] W) :
    CallsIn F n Tryz.prog 167 #[.func (.yield g) #[] #[], .pointer (some ⟨Bs, 0, none⟩)] W fun e W' => (∃ v, e = .returned v) /\ J [] W' := by
  refine callsIn_of_wp Tryz.func167 rfl hF ?_ hro
  simp only [Tryz.ntmps167, List.size_toArray, List.length_cons, List.length_nil, Nat.reduceAdd, Nat.reduceSub, Array.replicate_succ, Array.replicate_zero, List.push_toArray, List.append_toArray, List.nil_append, List.cons_append]
  gi_wp2
  gi_loopw [3] (fun i wr => i = .int .i64 (-1) /\ J [] wr) (fun _ _ => 0)
  case atStart => exact ⟨rfl, h0⟩
  case round =>
    obtain ⟨rfl, hJs⟩ := hrel
    gi_wp2
    go_end0
    exact ⟨⟨_, rfl⟩, hJs⟩
theorem back_in (F : Fence) (n : Nat) (hF : F.fn 118) (hro : F.round = none) (a : Option Addr) (len cap : Nat) (w : World) :
    CallsIn F n Tryz.prog 118 #[.slice a len cap] w fun e w' => e = .returned (.func (.func 167) #[] #[.pointer (some ⟨w.heap.size, 0, none⟩)]) /\ w' = w.alloc (.cells #[.slice a len cap] 50) := by
  refine callsIn_of_wp Tryz.func118 rfl hF ?_ hro
  simp only [Tryz.ntmps118, List.size_toArray, List.length_cons, List.length_nil, Nat.reduceAdd, Nat.reduceSub, Array.replicate_succ, Array.replicate_zero, List.push_toArray, List.append_toArray, List.nil_append, List.cons_append]
  gi_wp2
  go_ret
  exact ⟨rfl, rfl⟩
theorem back_stops (F : Fence) (n : Nat) (hF : F.fn 167) (hro : F.round = none) (hn : 1 <= n) (Bs n₀ : Nat) (sv : Value) (l : List OV) (hl : l.length <= 1000000) (w : World) (hBs : Bs < w.heap.size) (hBn : Bs < n₀) (hn₀ : n₀ <= w.heap.size)
    (hc : w.cell? ⟨Bs, 0, none⟩ = some sv) (hO : S6.IsO w sv l) (hb : ∀ k, sv.ownBlock = some k -> k < n₀) :
    SeqStopsK F n Tryz.prog 167 #[.pointer (some ⟨Bs, 0, none⟩)] encO (Below n₀) (fun ys => ys = downO l l.length) (fun pre => ∃ k, k <= l.length /\ pre = downO l k) l.length w := fun g J Jx W hW _ _ hY h0 => by
  have hc' := (hW.cell (p := ⟨Bs, 0, none⟩) hBs).trans hc
  rcases hO.below hW with ⟨rfl, a, c, rfl⟩ | ⟨b, off, cap, rfl, hcs⟩
  · exact (back0_in F n hF hro g Bs a c J W hc' h0).mono fun e W' ⟨he, hj⟩ => ⟨he, .inl ⟨_, rfl, hj⟩⟩
  · exact back1_in F n hF hro hn g Bs n₀ b off cap l hl (hb b rfl) hBn J Jx hY W hc' hcs h0
end Go.Proofs.YtfohijnkeefcfaaGreatDoor
