/- What the printer's ways write but for elements: text, rawText, comment, nothing; html, textsWithin, wayOf. -/
import Derived.Test.YthoibenncjbkdaaDoorPu9
import Derived.Test.YthoibenncjbkdaaDoorS6WalkD
set_option linter.unusedVariables false
set_option linter.unusedSimpArgs false
set_option maxRecDepth 4000
namespace Go.Proofs.YthoibenncjbkdaaDoor
open Go.RowKit

theorem pr_lt {B b : Nat} {acc : List UInt8} {w : World} (h : Pr B b acc w) : b < w.heap.size := by
  rcases h.1 with h1 | h1
  · exact h1.lt
  · exact h1.lt
theorem new_heap (w : World) (o : Obj) : (w.alloc o).heap[w.heap.size]? = some o := by
  show (w.heap.push o)[w.heap.size]? = some o
  simp
theorem put_lit {B b : Nat} {acc : List UInt8} {w : World} (h : Pr B b acc w) (ss : List ByteArray) (hn : ss.length ≤ 1000) (hl : acc.length + (ss.map fun s => s.data.toList).flatten.length ≤ 140737488355328) :
    Calls Tryd.prog 20 #[.pointer (some ⟨b, 0, none⟩), .slice (some ⟨w.heap.size, 0, none⟩) ss.length ss.length] (w.alloc (.cells (ss.map fun s => Value.string s).toArray 9)) fun e w' => e = .returned (.tuple #[]) ∧ Wrote B b acc (ss.map fun s => s.data.toList).flatten w w' := by
  have e1 : (ss.map fun s => Value.string s).toArray = cellsW (ss.map fun s => s.data.toList) := by
    unfold cellsW
    rw [List.map_map]
    rfl
  have hlt := pr_lt h
  have := put_any (h.alloc (.cells (cellsW (ss.map fun s => s.data.toList)) 9)) (ss.map fun s => s.data.toList) w.heap.size ss.length (by rw [List.length_map]; exact hn) (by omega) (new_heap w _) hl
  rw [List.length_map] at this
  rw [e1]
  refine this.mono ?_
  rintro e w' ⟨rfl, h1⟩
  exact ⟨rfl, h1.behind (S5.below_alloc w _) h.2⟩
theorem put1 {B b : Nat} {acc : List UInt8} {w : World} (h : Pr B b acc w) (s : ByteArray) (hl : acc.length + s.size ≤ 140737488355328) {m : Nat} (hm : m = w.heap.size) :
    Calls Tryd.prog 20 #[.pointer (some ⟨b, 0, none⟩), .slice (some ⟨m, 0, none⟩) 1 1] (w.alloc (.cells #[.string s] 9)) fun e w' => e = .returned (.tuple #[]) ∧ Wrote B b acc s.data.toList w w' := by
  subst hm
  have := put_lit h [s] (by simp) (by simp only [List.map_cons, List.map_nil, List.flatten_cons, List.flatten_nil, List.append_nil]; rw [← S5.size_list]; exact hl)
  simp only [List.map_cons, List.map_nil, List.flatten_cons, List.flatten_nil, List.append_nil, List.length_cons, List.length_nil] at this
  exact this
theorem put2 {B b : Nat} {acc : List UInt8} {w : World} (h : Pr B b acc w) (s t : ByteArray) (hl : acc.length + (s.size + t.size) ≤ 140737488355328) {m : Nat} (hm : m = w.heap.size) :
    Calls Tryd.prog 20 #[.pointer (some ⟨b, 0, none⟩), .slice (some ⟨m, 0, none⟩) 2 2] (w.alloc (.cells #[.string s, .string t] 9)) fun e w' => e = .returned (.tuple #[]) ∧ Wrote B b acc (s.data.toList ++ t.data.toList) w w' := by
  subst hm
  have := put_lit h [s, t] (by simp) (by simp only [List.map_cons, List.map_nil, List.flatten_cons, List.flatten_nil, List.append_nil, List.length_append]; rw [← S5.size_list, ← S5.size_list]; exact hl)
  simp only [List.map_cons, List.map_nil, List.flatten_cons, List.flatten_nil, List.append_nil, List.length_cons, List.length_nil] at this
  exact this
theorem put3 {B b : Nat} {acc : List UInt8} {w : World} (h : Pr B b acc w) (s t u : ByteArray) (hl : acc.length + (s.size + (t.size + u.size)) ≤ 140737488355328) {m : Nat} (hm : m = w.heap.size) :
    Calls Tryd.prog 20 #[.pointer (some ⟨b, 0, none⟩), .slice (some ⟨m, 0, none⟩) 3 3] (w.alloc (.cells #[.string s, .string t, .string u] 9)) fun e w' => e = .returned (.tuple #[]) ∧ Wrote B b acc (s.data.toList ++ (t.data.toList ++ u.data.toList)) w w' := by
  subst hm
  have := put_lit h [s, t, u] (by simp) (by simp only [List.map_cons, List.map_nil, List.flatten_cons, List.flatten_nil, List.append_nil, List.length_append]; rw [← S5.size_list, ← S5.size_list, ← S5.size_list]; exact hl)
  simp only [List.map_cons, List.map_nil, List.flatten_cons, List.flatten_nil, List.append_nil, List.length_cons, List.length_nil] at this
  exact this
theorem put5 {B b : Nat} {acc : List UInt8} {w : World} (h : Pr B b acc w) (s t u v x : ByteArray) (hl : acc.length + (s.size + (t.size + (u.size + (v.size + x.size)))) ≤ 140737488355328) {m : Nat} (hm : m = w.heap.size) :
    Calls Tryd.prog 20 #[.pointer (some ⟨b, 0, none⟩), .slice (some ⟨m, 0, none⟩) 5 5] (w.alloc (.cells #[.string s, .string t, .string u, .string v, .string x] 9)) fun e w' => e = .returned (.tuple #[]) ∧ Wrote B b acc (s.data.toList ++ (t.data.toList ++ (u.data.toList ++ (v.data.toList ++ x.data.toList)))) w w' := by
  subst hm
  have := put_lit h [s, t, u, v, x] (by simp) (by simp only [List.map_cons, List.map_nil, List.flatten_cons, List.flatten_nil, List.append_nil, List.length_append]; rw [← S5.size_list, ← S5.size_list, ← S5.size_list, ← S5.size_list, ← S5.size_list]; exact hl)
  simp only [List.map_cons, List.map_nil, List.flatten_cons, List.flatten_nil, List.append_nil, List.length_cons, List.length_nil] at this
  exact this
/-- A node, as it is handed on. -/
abbrev nodeV (d : S5.ND) (av kv : Value) : Value := .agg #[.int .i64 d.kind, .int .i64 d.space, .string ⟨d.name.toArray⟩, av, .string ⟨d.text.toArray⟩, kv]
set_option maxHeartbeats 400000 in
theorem text_p {B b : Nat} {acc : List UInt8} {w : World} (h : Pr B b acc w) (kd sp : Int) (nm tx : ByteArray) (av kv : Value) (ht : tx.size ≤ 1000000) (hl : acc.length + 6 * tx.size ≤ 140737488355328) :
    Calls Tryd.prog 14 #[.pointer (some ⟨b, 0, none⟩), .agg #[.int .i64 kd, .int .i64 sp, .string nm, av, .string tx, kv]] w fun e w' => e = .returned (.tuple #[]) ∧ Wrote B b acc (escL false tx.data.toList) w w' := by
  have HE := hide (escape_any tx ht false (w.alloc (.cells #[.int .i64 kd, .int .i64 sp, .string nm, av, .string tx, kv] 32)))
  have hz := escL_len false tx.data.toList
  rw [← S5.size_list] at hz
  have HD := hide (S5.str_data (escL false tx.data.toList))
  have hsz : (⟨(escL false tx.data.toList).toArray⟩ : ByteArray).size = (escL false tx.data.toList).length := by rw [S5.size_list, S5.str_data]
  generalize escL false tx.data.toList = T at *
  generalize (⟨T.toArray⟩ : ByteArray) = t at *
  have HP := hide h
  clear h
  go_enter Tryd.func14, Tryd.ntmps14
  go_wp2_with fail
  refine HE.out.mono ?_
  rintro e w1 ⟨rfl, b0⟩
  have b1 : Below w.heap.size w w1 := (S5.below_alloc w _).trans (b0.mono (S5.below_alloc w _).size)
  have hp1 := HP.out.below b1
  clear b0
  go_wp2_with fail
  refine (put1 hp1 t (by omega) rfl).mono ?_
  rintro e w2 ⟨rfl, h2⟩
  go_wp2
  go_end0
  rw [HD.out] at h2
  exact ⟨rfl, h2.behind b1 HP.out.2⟩
set_option maxHeartbeats 400000 in
theorem rawText_p {B b : Nat} {acc : List UInt8} {w : World} (h : Pr B b acc w) (kd sp : Int) (nm tx : ByteArray) (av kv : Value) (hl : acc.length + tx.size ≤ 140737488355328) :
    Calls Tryd.prog 44 #[.pointer (some ⟨b, 0, none⟩), .agg #[.int .i64 kd, .int .i64 sp, .string nm, av, .string tx, kv]] w fun e w' => e = .returned (.tuple #[]) ∧ Wrote B b acc tx.data.toList w w' := by
  have HP := hide h
  clear h
  go_enter Tryd.func44, Tryd.ntmps44
  go_wp2_with fail
  refine (put1 (HP.out.alloc (.cells #[.int .i64 kd, .int .i64 sp, .string nm, av, .string tx, kv] 32)) tx hl (by simp)).mono ?_
  rintro e w2 ⟨rfl, h2⟩
  go_wp2
  go_end0
  exact ⟨rfl, h2.behind (S5.below_alloc w _) HP.out.2⟩
set_option maxHeartbeats 400000 in
theorem comment_p {B b : Nat} {acc : List UInt8} {w : World} (h : Pr B b acc w) (kd sp : Int) (nm tx : ByteArray) (av kv : Value) (hl : acc.length + (4 + (tx.size + 3)) ≤ 140737488355328) :
    Calls Tryd.prog 28 #[.pointer (some ⟨b, 0, none⟩), .agg #[.int .i64 kd, .int .i64 sp, .string nm, av, .string tx, kv]] w fun e w' => e = .returned (.tuple #[]) ∧ Wrote B b acc (commentW tx.data.toList) w w' := by
  have HP := hide h
  clear h
  go_enter Tryd.func28, Tryd.ntmps28
  go_wp2_with fail
  refine (put3 (HP.out.alloc (.cells #[.int .i64 kd, .int .i64 sp, .string nm, av, .string tx, kv] 32)) ⟨#[60, 33, 45, 45]⟩ tx ⟨#[45, 45, 62]⟩ hl (by simp)).mono ?_
  rintro e w2 ⟨rfl, h2⟩
  go_wp2
  go_end0
  exact ⟨rfl, h2.behind (S5.below_alloc w _) HP.out.2⟩
set_option maxHeartbeats 400000 in
theorem nothing_p {B b : Nat} {acc : List UInt8} {w : World} (h : Pr B b acc w) (cs : Array Value) :
    Calls Tryd.prog 29 #[.pointer (some ⟨b, 0, none⟩), .agg cs] w fun e w' => e = .returned (.tuple #[]) ∧ Wrote B b acc [] w w' := by
  have HP := hide h
  clear h
  go_enter Tryd.func29, Tryd.ntmps29
  go_wp2
  go_end0
  exact ⟨rfl, Wrote.none HP.out (S5.below_alloc w _)⟩
end Go.Proofs.YthoibenncjbkdaaDoor
