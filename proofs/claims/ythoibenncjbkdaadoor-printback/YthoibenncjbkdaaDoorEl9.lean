/- What is written of texts and nodes, over lists. No function of the program in it. -/
import Derived.Test.YthoibenncjbkdaaDoorS5Kn9
import Derived.Test.YthoibenncjbkdaaDoorS6Plain
set_option linter.unusedVariables false
set_option linter.unusedSimpArgs false
set_option maxRecDepth 4000
namespace Go.Proofs.YthoibenncjbkdaaDoor
open Go.RowKit

def ampE : List UInt8 := [38, 97, 109, 112, 59]
def ltE : List UInt8 := [38, 108, 116, 59]
def gtE : List UInt8 := [38, 103, 116, 59]
def quotE : List UInt8 := [38, 113, 117, 111, 116, 59]
def nbspE : List UInt8 := [38, 110, 98, 115, 112, 59]
/-- What one byte is written as. -/
def oneB (attr : Bool) (c : UInt8) : List UInt8 := if c = 38 then ampE else if c = 60 then ltE else if c = 62 then gtE else if c = 34 ∧ attr = true then quotE else [c]
/-- A text, escaped; true: its first byte was taken already. -/
def escG (attr : Bool) : Bool → List UInt8 → List UInt8
  | _, [] => []
  | true, _ :: r => escG attr false r
  | false, c :: r => if c = 194 ∧ r.head? = some 160 then nbspE ++ escG attr true r else oneB attr c ++ escG attr false r
def escL (attr : Bool) (l : List UInt8) : List UInt8 := escG attr false l
/-- What the first sign is written as, and how many bytes it has. -/
def escF (attr : Bool) (c : UInt8) (r : List UInt8) : List UInt8 × Nat := if c = 194 ∧ r.head? = some 160 then (nbspE, 2) else (oneB attr c, 1)
theorem hide {p : Prop} (h : p) : Hid p := h
theorem escL_nil (attr : Bool) : escL attr [] = [] := rfl
theorem escL_nbsp (attr : Bool) (r : List UInt8) : escL attr (194 :: 160 :: r) = nbspE ++ escL attr r := by
  unfold escL
  rw [escG, if_pos ⟨rfl, rfl⟩]
  rfl
theorem escL_one (attr : Bool) (c : UInt8) (r : List UInt8) (h : ¬ (c = 194 ∧ r.head? = some 160)) : escL attr (c :: r) = oneB attr c ++ escL attr r := by
  unfold escL
  rw [escG, if_neg h]
theorem escL_first (attr : Bool) (c : UInt8) (r : List UInt8) : escL attr (c :: r) = (escF attr c r).1 ++ escL attr ((c :: r).drop (escF attr c r).2) := by
  unfold escF
  by_cases h : c = 194 ∧ r.head? = some 160
  · rw [if_pos h]
    obtain ⟨rfl, h2⟩ := h
    cases r with
    | nil => simp at h2
    | cons d s =>
      obtain rfl : d = 160 := by simpa using h2
      exact escL_nbsp attr s
  · rw [if_neg h]
    exact escL_one attr c r h
theorem oneB_len (attr : Bool) (c : UInt8) : 1 ≤ (oneB attr c).length ∧ (oneB attr c).length ≤ 6 := by
  unfold oneB
  split
  · decide
  · split
    · decide
    · split
      · decide
      · split
        · decide
        · simp
theorem escF_bd (attr : Bool) (c : UInt8) (r : List UInt8) : 1 ≤ (escF attr c r).2 ∧ (escF attr c r).2 ≤ r.length + 1 ∧ (escF attr c r).2 ≤ 2 ∧ (escF attr c r).1.length ≤ 6 := by
  unfold escF
  split
  · rename_i h
    cases r with
    | nil => simp at h
    | cons d s => simp [nbspE]
  · have := oneB_len attr c
    simp only
    omega
theorem escG_len (attr : Bool) : ∀ (b : Bool) (l : List UInt8), (escG attr b l).length ≤ 6 * l.length
  | b, [] => by cases b <;> simp [escG]
  | true, c :: r => by
    have := escG_len attr false r
    rw [escG, List.length_cons]
    omega
  | false, c :: r => by
    have h1 := escG_len attr false r
    have h2 := escG_len attr true r
    have h3 := oneB_len attr c
    rw [escG]
    split
    · rw [List.length_append, List.length_cons]
      simp only [nbspE, List.length_cons, List.length_nil]
      omega
    · rw [List.length_append, List.length_cons]
      omega
theorem escL_len (attr : Bool) (l : List UInt8) : (escL attr l).length ≤ 6 * l.length := escG_len attr false l
/-- No sign that is escaped stands in what is written. -/
theorem lits_no : ∀ x ∈ ampE ++ ltE ++ gtE ++ quotE ++ nbspE, x ≠ 60 ∧ x ≠ 62 ∧ x ≠ 34 := by decide +kernel
theorem oneB_no (attr : Bool) (c x : UInt8) (h : x ∈ oneB attr c) : x ≠ 60 ∧ x ≠ 62 ∧ (attr = true → x ≠ 34) := by
  unfold oneB at h
  split at h
  · obtain ⟨a, b, c⟩ := lits_no x (by simp [h]); exact ⟨a, b, fun _ => c⟩
  · split at h
    · obtain ⟨a, b, c⟩ := lits_no x (by simp [h]); exact ⟨a, b, fun _ => c⟩
    · split at h
      · obtain ⟨a, b, c⟩ := lits_no x (by simp [h]); exact ⟨a, b, fun _ => c⟩
      · split at h
        · obtain ⟨a, b, c⟩ := lits_no x (by simp [h]); exact ⟨a, b, fun _ => c⟩
        · rename_i h1 h2 h3 h4
          obtain rfl : x = c := by simpa using h
          exact ⟨h2, h3, fun ha e => h4 ⟨e, ha⟩⟩
theorem nbsp_no (x : UInt8) (h : x ∈ nbspE) : x ≠ 60 ∧ x ≠ 62 ∧ x ≠ 34 := by
  revert x; decide +kernel
theorem escG_no (attr : Bool) : ∀ (b : Bool) (l : List UInt8) (x : UInt8), x ∈ escG attr b l → x ≠ 60 ∧ x ≠ 62 ∧ (attr = true → x ≠ 34)
  | b, [], x, h => by cases b <;> simp [escG] at h
  | true, c :: r, x, h => by
    rw [escG] at h
    exact escG_no attr false r x h
  | false, c :: r, x, h => by
    rw [escG] at h
    split at h
    · rcases List.mem_append.1 h with h | h
      · obtain ⟨a, b, c⟩ := nbsp_no x h
        exact ⟨a, b, fun _ => c⟩
      · exact escG_no attr true r x h
    · rcases List.mem_append.1 h with h | h
      · exact oneB_no attr c x h
      · exact escG_no attr false r x h
theorem escL_no (attr : Bool) (l : List UInt8) (x : UInt8) (h : x ∈ escL attr l) : x ≠ 60 ∧ x ≠ 62 ∧ (attr = true → x ≠ 34) := escG_no attr false l x h

/-! Nodes. -/
def attrW (a : List UInt8 × List UInt8) : List UInt8 := 32 :: (a.1 ++ (61 :: 34 :: (escL true a.2 ++ [34])))
def attrsW (aa : List (List UInt8 × List UInt8)) : List UInt8 := aa.flatMap attrW
def voidE (d : S5.ND) : Bool := (d.space == 0) && S6.isL 1 d.name
def plainT : List UInt8 := [112, 108, 97, 105, 110, 116, 101, 120, 116]
def rawE (d : S5.ND) : Bool := (d.space == 0) && (S6.isL 2 d.name || d.name == plainT)
def headE (d : S5.ND) : List UInt8 := 60 :: (d.name ++ (attrsW d.attrs ++ [62]))
def footE (d : S5.ND) : List UInt8 := 60 :: 47 :: (d.name ++ [62])
def textW (raw : Bool) (t : List UInt8) : List UInt8 := if raw then t else escL false t
def commentW (t : List UInt8) : List UInt8 := [60, 33, 45, 45] ++ (t ++ [45, 45, 62])
/-- A node, right within something raw or not. -/
def printT : {k : Nat} → Bool → S5.NT k → List UInt8
  | 0, _, _ => []
  | k + 1, raw, t => if t.nd.kind = 2 then textW raw t.nd.text else if t.nd.kind = 3 then commentW t.nd.text else if t.nd.kind = 1 then (if voidE t.nd then headE t.nd else headE t.nd ++ (t.kids.flatMap (fun x => printT (rawE t.nd) x) ++ footE t.nd)) else []
def printTs {k : Nat} (raw : Bool) (ts : List (S5.NT k)) : List UInt8 := ts.flatMap (fun x => printT raw x)
theorem printT_mk {k : Nat} (raw : Bool) (t : S5.NT (k + 1)) : printT raw t = if t.nd.kind = 2 then textW raw t.nd.text else if t.nd.kind = 3 then commentW t.nd.text else if t.nd.kind = 1 then (if voidE t.nd then headE t.nd else headE t.nd ++ (printTs (rawE t.nd) t.kids ++ footE t.nd)) else [] := rfl
theorem printTs_nil {k : Nat} (raw : Bool) : printTs raw ([] : List (S5.NT k)) = [] := rfl
theorem printTs_app {k : Nat} (raw : Bool) (a b : List (S5.NT k)) : printTs raw (a ++ b) = printTs raw a ++ printTs raw b := by
  unfold printTs
  rw [List.flatMap_append]
theorem printTs_at {k : Nat} (raw : Bool) (ts : List (S5.NT k)) (i : Nat) (h : i < ts.length) : printTs raw (ts.drop i) = printT raw ts[i] ++ printTs raw (ts.drop (i + 1)) := by
  rw [List.drop_eq_getElem_cons h]
  rfl
theorem printTs_take {k : Nat} (raw : Bool) (ts : List (S5.NT k)) (i : Nat) (h : i < ts.length) : printTs raw (ts.take (i + 1)) = printTs raw (ts.take i) ++ printT raw ts[i] := by
  rw [List.take_succ_eq_append_getElem h, printTs_app]
  congr 1
  show [ts[i]].flatMap _ = _
  simp
theorem attrsW_at (aa : List (List UInt8 × List UInt8)) (i : Nat) (h : i < aa.length) : attrsW (aa.drop i) = attrW aa[i] ++ attrsW (aa.drop (i + 1)) := by
  rw [List.drop_eq_getElem_cons h]
  rfl
/-! Sizes: how many nodes, attributes and bytes. -/
def sizeA (a : List UInt8 × List UInt8) : Nat := 1 + a.1.length + a.2.length
def sizeAs (aa : List (List UInt8 × List UInt8)) : Nat := (aa.map sizeA).sum
def sizeT : {k : Nat} → S5.NT k → Nat
  | 0, _ => 0
  | k + 1, t => 1 + t.nd.name.length + t.nd.text.length + sizeAs t.nd.attrs + (t.kids.map fun x => sizeT x).sum
def sizeTs {k : Nat} (ts : List (S5.NT k)) : Nat := (ts.map fun x => sizeT x).sum
theorem sizeT_mk {k : Nat} (t : S5.NT (k + 1)) : sizeT t = 1 + t.nd.name.length + t.nd.text.length + sizeAs t.nd.attrs + sizeTs t.kids := rfl
theorem sizeTs_nil {k : Nat} : sizeTs ([] : List (S5.NT k)) = 0 := rfl
theorem sizeTs_app {k : Nat} (a b : List (S5.NT k)) : sizeTs (a ++ b) = sizeTs a + sizeTs b := by
  unfold sizeTs
  rw [List.map_append, List.sum_append]
theorem sizeTs_take {k : Nat} (ts : List (S5.NT k)) (i : Nat) (h : i < ts.length) : sizeTs (ts.take (i + 1)) = sizeTs (ts.take i) + sizeT ts[i] := by
  rw [List.take_succ_eq_append_getElem h, sizeTs_app]
  congr 1
theorem sizeTs_at {k : Nat} (ts : List (S5.NT k)) (i : Nat) (h : i < ts.length) : sizeTs (ts.drop i) = sizeT ts[i] + sizeTs (ts.drop (i + 1)) := by
  rw [List.drop_eq_getElem_cons h]
  rfl
theorem sizeTs_mem {k : Nat} (ts : List (S5.NT k)) (i : Nat) (h : i < ts.length) : sizeT ts[i] ≤ sizeTs ts := by
  have h1 := sizeTs_at ts i h
  have h2 := sizeTs_app (ts.take i) (ts.drop i)
  rw [List.take_append_drop] at h2
  omega
theorem sizeAs_take (aa : List (List UInt8 × List UInt8)) (i : Nat) (h : i < aa.length) : sizeAs (aa.take (i + 1)) = sizeAs (aa.take i) + sizeA aa[i] := by
  unfold sizeAs
  rw [List.take_succ_eq_append_getElem h, List.map_append, List.sum_append]
  simp
theorem attrW_len (a : List UInt8 × List UInt8) : (attrW a).length ≤ 6 * sizeA a := by
  have := escL_len true a.2
  unfold attrW sizeA
  simp only [List.length_cons, List.length_append, List.length_nil]
  omega
theorem attrsW_len : ∀ (aa : List (List UInt8 × List UInt8)), (attrsW aa).length ≤ 6 * sizeAs aa
  | [] => Nat.le_refl _
  | a :: r => by
    have h1 := attrsW_len r
    have h2 := attrW_len a
    have e1 : attrsW (a :: r) = attrW a ++ attrsW r := rfl
    have e2 : sizeAs (a :: r) = sizeA a + sizeAs r := by unfold sizeAs; rw [List.map_cons, List.sum_cons]
    rw [e1, e2, List.length_append]
    omega
theorem printG_len {k : Nat} {raw : Bool} (h : ∀ (raw : Bool) (x : S5.NT k), (printT raw x).length ≤ 7 * sizeT x) : ∀ (ts : List (S5.NT k)), (printTs raw ts).length ≤ 7 * sizeTs ts
  | [] => Nat.le_refl _
  | x :: r => by
    have h1 := printG_len (raw := raw) h r
    have h2 := h raw x
    have e1 : printTs raw (x :: r) = printT raw x ++ printTs raw r := rfl
    have e2 : sizeTs (x :: r) = sizeT x + sizeTs r := by unfold sizeTs; rw [List.map_cons, List.sum_cons]
    rw [e1, e2, List.length_append]
    omega
theorem printT_len : ∀ {k : Nat} (raw : Bool) (t : S5.NT k), (printT raw t).length ≤ 7 * sizeT t
  | 0, _, _ => Nat.zero_le _
  | k + 1, raw, t => by
    have h1 := printG_len (raw := rawE t.nd) (fun raw x => printT_len raw x) t.kids
    have h2 := attrsW_len t.nd.attrs
    have h3 := escL_len false t.nd.text
    rw [printT_mk, sizeT_mk]
    split
    · unfold textW
      split
      · omega
      · omega
    · split
      · unfold commentW
        simp only [List.length_append, List.length_cons, List.length_nil]
        omega
      · split
        · split
          · unfold headE
            simp only [List.length_append, List.length_cons, List.length_nil]
            omega
          · unfold headE footE
            simp only [List.length_append, List.length_cons, List.length_nil]
            omega
        · exact Nat.zero_le _
theorem printTs_len {k : Nat} (raw : Bool) (ts : List (S5.NT k)) : (printTs raw ts).length ≤ 7 * sizeTs ts := printG_len (fun raw x => printT_len raw x) ts
/-- How deep nodes stand. -/
def tallG {α : Type} (f : α → Nat) : List α → Nat
  | [] => 0
  | x :: r => max (f x) (tallG f r)
def tallT : {k : Nat} → S5.NT k → Nat
  | 0, _ => 0
  | k + 1, t => 1 + tallG (fun x => tallT x) t.kids
def tallTs {k : Nat} (ts : List (S5.NT k)) : Nat := tallG (fun x => tallT x) ts
theorem tallT_mk {k : Nat} (t : S5.NT (k + 1)) : tallT t = 1 + tallTs t.kids := rfl
theorem tallG_app {α : Type} (f : α → Nat) : ∀ (a b : List α), tallG f (a ++ b) = max (tallG f a) (tallG f b)
  | [], b => by rw [List.nil_append]; unfold tallG; omega
  | x :: r, b => by
    rw [List.cons_append, tallG, tallG, tallG_app f r b]
    omega
theorem tallTs_take {k : Nat} (ts : List (S5.NT (k + 1))) (i : Nat) (h : i < ts.length) : tallTs (ts.take (i + 1)) = max (tallTs (ts.take i)) (1 + tallTs ts[i].kids) := by
  unfold tallTs
  rw [List.take_succ_eq_append_getElem h, tallG_app]
  show max _ (max (1 + tallTs ts[i].kids) 0) = _
  unfold tallTs
  omega
end Go.Proofs.YthoibenncjbkdaaDoor
