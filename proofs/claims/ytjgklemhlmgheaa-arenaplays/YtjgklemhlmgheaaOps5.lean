/- What is done to an arena, over lists. No program in it. -/
import Derived.Test.YtjgklemhlmgheaaWalkG5
set_option linter.unusedVariables false
set_option linter.unusedSimpArgs false
namespace Go.Proofs.Ytjgklemhlmgheaa

def beforeZ (T : TR) (zr zc : Int) : TR × Int := if inT T zr ∧ inT T zc then (match parentN T zr.toNat with | none => (T, 1) | some p => if !(zc == 0) && !(withinL T zr.toNat zc.toNat) then (beforeL T p zr.toNat zc.toNat, 0) else (T, 1)) else (T, 2)
def moveZ (T : TR) (za zb : Int) : TR × Int := if inT T za ∧ inT T zb then (if holdsL T zb.toNat && !(withinL T zb.toNat za.toNat) then (moveL T za.toNat zb.toNat, 0) else (T, 1)) else (T, 2)
def addZ (T : TR) (z : Int) (s : List UInt8) : TR × Int := if inT T z then (if (nodeAt T z.toNat).kind = 2 then (addL T z.toNat s, 0) else (T, 1)) else (T, 2)
theorem ahead_ins (ref c : Nat) : ∀ (l : List Nat) (i : Nat) (hi : i < l.length), l[i] = ref → l.Nodup → aheadL ref c l = l.take i ++ c :: l.drop i
  | a :: r, 0, _, he, hn => by
    obtain rfl : a = ref := he
    obtain ⟨h1, h2⟩ := List.nodup_cons.1 hn
    unfold aheadL
    rw [List.flatMap_cons, if_pos rfl]
    have : r.flatMap (fun x => if x = a then [c, x] else [x]) = r := by
      have : ∀ q : List Nat, a ∉ q → q.flatMap (fun x => if x = a then [c, x] else [x]) = q := by
        intro q
        induction q with
        | nil => intro _; rfl
        | cons y s ih =>
          intro hy
          simp only [List.mem_cons, not_or] at hy
          rw [List.flatMap_cons, if_neg (fun e => hy.1 e.symm), ih hy.2]
          rfl
      exact this r h1
    rw [this]
    rfl
  | a :: r, i + 1, hi, he, hn => by
    obtain ⟨h1, h2⟩ := List.nodup_cons.1 hn
    have hi2 : i < r.length := by simpa using hi
    have he2 : r[i] = ref := by simpa using he
    have hne : ¬ a = ref := fun e => h1 (e ▸ he2 ▸ List.getElem_mem hi2)
    have ih := ahead_ins ref c r i hi2 he2 h2
    unfold aheadL at ih ⊢
    rw [List.flatMap_cons, if_neg hne, ih]
    simp
end Go.Proofs.Ytjgklemhlmgheaa
