/- What few answers: a file of at most seventy tasks and two hundred operations; and Text of any file. -/
import Derived.Test.YtgjfhfjmdkhllaaDoorArg
namespace Go.Proofs.YtgjfhfjmdkhllaaDoor
open Go.RowKit
open M
set_option linter.unusedVariables false
set_option linter.unusedSimpArgs false

theorem min_is (n m : Nat) (ts : Array TypeId) (t : TypeId) (W : World) : (Builtin.min_ ts t #[.int .i64 (n : Int), .int .i64 (m : Int)]).run Tryd.prog W = .ok (.int .i64 ((min m n : Nat) : Int)) W := by
  rw [run_min_int2]
  congr 2
  split <;> omega

set_option maxRecDepth 1000000 in
set_option maxHeartbeats 4000000 in
theorem few_any (x0 x1 x2 x3 x4 x5 x6 x7 x8 x9 : Int) (n1 n2 : Nat) (ta oa : Option Addr) (tc oc : Nat) (w : World) (h1 : n1 ≤ tc) (h2 : n2 ≤ oc) (h3 : tc ≤ maxLen) (h4 : oc ≤ maxLen) :
    Calls Tryd.prog 13 #[.agg #[.int .i64 x0, .int .i64 x1, .int .i64 x2, .int .i64 x3, .int .i64 x4, .int .i64 x5, .int .i64 x6, .int .i64 x7, .int .i64 x8, .int .i64 x9, .slice ta n1 tc, .slice oa n2 oc]] w fun e w' => e = .returned (.agg #[.int .i64 x0, .int .i64 x1, .int .i64 x2, .int .i64 x3, .int .i64 x4, .int .i64 x5, .int .i64 x6, .int .i64 x7, .int .i64 x8, .int .i64 x9, .slice ta (min 70 n1) tc, .slice oa (min 200 n2) oc]) ∧ Below w.heap.size w w' := by
  have hmin1 : ∀ ts t W, (Builtin.min_ ts t #[.int .i64 (n1 : Int), .int .i64 70]).run Tryd.prog W = .ok (.int .i64 ((min 70 n1 : Nat) : Int)) W := min_is n1 70
  have hmin2 : ∀ ts t W, (Builtin.min_ ts t #[.int .i64 (n2 : Int), .int .i64 200]).run Tryd.prog W = .ok (.int .i64 ((min 200 n2 : Nat) : Int)) W := min_is n2 200
  obtain ⟨m1, e1⟩ : ∃ m1, min 70 n1 = m1 := ⟨_, rfl⟩
  obtain ⟨m2, e2⟩ : ∃ m2, min 200 n2 = m2 := ⟨_, rfl⟩
  rw [e1] at hmin1 ⊢
  rw [e2] at hmin2 ⊢
  have q1 : m1 ≤ tc := by omega
  have q2 : m2 ≤ oc := by omega
  unfold maxLen at h3 h4
  clear e1 e2
  go_enter Tryd.func13, Tryd.ntmps13
  go_wp2
  refine bodyPost_ret (v := .agg #[.int .i64 x0, .int .i64 x1, .int .i64 x2, .int .i64 x3, .int .i64 x4, .int .i64 x5, .int .i64 x6, .int .i64 x7, .int .i64 x8, .int .i64 x9, .slice ta m1 tc, .slice oa m2 oc]) (by simp [results, Tryd.results13, go_sem]) rfl ⟨rfl, Joins.below_alloc2 w _ _⟩

/-- The file that few leaves. -/
def fewF (f : Fl) : Fl := ⟨f.cfg, f.tasks.take 70, f.ops.take 200⟩
theorem fewF_len (f : Fl) : (fewF f).tasks.length = min 70 f.tasks.length ∧ (fewF f).ops.length = min 200 f.ops.length := ⟨by simp [fewF], by simp [fewF]⟩
theorem TasksIn.take {w : World} {a : Option Addr} {ts : List (Int × Int)} (h : TasksIn w a ts) (k : Nat) : TasksIn w a (ts.take k) := by
  intro i hi
  have hi' : i < ts.length := by simp at hi; omega
  obtain ⟨b, o, h1, h2, h3, h4⟩ := h i hi'
  exact ⟨b, o, h1, h2, by rw [List.getElem_take]; exact h3, by rw [List.getElem_take]; exact h4⟩
theorem OpsIn.take {w : World} {a : Option Addr} {ts : List Oz} (h : OpsIn w a ts) (k : Nat) : OpsIn w a (ts.take k) := by
  intro i hi
  have hi' : i < ts.length := by simp at hi; omega
  obtain ⟨b, o, h1, h2, h3⟩ := h i hi'
  exact ⟨b, o, h1, h2, by rw [List.getElem_take]; exact h3⟩

/-- Text, of a file of not too many operations. -/
theorem text_some (x0 x1 x2 x3 x4 x5 x6 x7 x8 x9 : Int) (f : Fl) (hcf : f.cfg = [x0, x1, x2, x3, x4, x5, x6, x7, x8, x9]) (ta oa : Option Addr) (tc oc : Nat) (w : World) (hT : Tabs w) (hti : TasksIn w ta f.tasks) (hoi : OpsIn w oa f.ops) (r : List UInt8) (hR : textF f = some r) :
    Calls Tryd.prog 14 #[.agg #[.int .i64 x0, .int .i64 x1, .int .i64 x2, .int .i64 x3, .int .i64 x4, .int .i64 x5, .int .i64 x6, .int .i64 x7, .int .i64 x8, .int .i64 x9, .slice ta f.tasks.length tc, .slice oa f.ops.length oc]] w fun e w' => e = .returned (.tuple #[strV r, .int .i64 0]) ∧ Below w.heap.size w w' := by
  unfold textF at hR
  split at hR
  · cases hR
  · rename_i h
    exact text_good x0 x1 x2 x3 x4 x5 x6 x7 x8 x9 f hcf ta oa tc oc w hT hti hoi (by omega) (by omega) r hR
theorem text_no (x0 x1 x2 x3 x4 x5 x6 x7 x8 x9 : Int) (f : Fl) (hcf : f.cfg = [x0, x1, x2, x3, x4, x5, x6, x7, x8, x9]) (ta oa : Option Addr) (tc oc : Nat) (w : World) (hT : Tabs w) (hti : TasksIn w ta f.tasks) (hoi : OpsIn w oa f.ops) (hol : f.ops.length ≤ 4096) (hR : textF f = none) :
    Calls Tryd.prog 14 #[.agg #[.int .i64 x0, .int .i64 x1, .int .i64 x2, .int .i64 x3, .int .i64 x4, .int .i64 x5, .int .i64 x6, .int .i64 x7, .int .i64 x8, .int .i64 x9, .slice ta f.tasks.length tc, .slice oa f.ops.length oc]] w fun e w' => e = .returned (.tuple #[.string ⟨#[]⟩, .int .i64 1]) ∧ Below w.heap.size w w' := by
  unfold textF at hR
  split at hR
  · rename_i h
    exact text_many x0 x1 x2 x3 x4 x5 x6 x7 x8 x9 f.tasks.length f.ops.length ta oa tc oc w (by omega)
  · rename_i h
    exact text_none x0 x1 x2 x3 x4 x5 x6 x7 x8 x9 f hcf ta oa tc oc w hT hti hoi (by omega) (by omega) hR

/-- Bytes of a text, wherever it is laid out. -/
theorem conv_all (S : ByteArray) (J : List UInt8) (hS : S = ⟨J.toArray⟩) (hJ : J.length ≤ 1000000) :
    ∃ (cap : World → Nat) (wF : World → World), (∀ W : World, (convert 9 22 (.string S)).run Tryd.prog W = .ok (.slice (some ⟨W.heap.size, 0, none⟩) J.length (cap W)) (wF W)) ∧ ∀ W : World, Bytes (wF W) (some ⟨W.heap.size, 0, none⟩) J ∧ J.length ≤ cap W ∧ cap W ≤ maxLen ∧ Below W.heap.size W (wF W) := by
  obtain ⟨F, hF⟩ := Classical.axiomOfChoice (fun W : World => (show ∃ p : Nat × World, (convert 9 22 (.string S)).run Tryd.prog W = .ok (.slice (some ⟨W.heap.size, 0, none⟩) J.length p.1) p.2 ∧ Bytes p.2 (some ⟨W.heap.size, 0, none⟩) J ∧ J.length ≤ p.1 ∧ p.1 ≤ maxLen ∧ Below W.heap.size W p.2 from by
    obtain ⟨cap, w6, h⟩ := conv_bytes W S J hS hJ
    exact ⟨(cap, w6), h⟩))
  exact ⟨fun W => (F W).1, fun W => (F W).2, fun W => (hF W).1, fun W => (hF W).2⟩

/-- The file's variable behind few: what stands there. -/
theorem put_file {w W : World} {g : Nat} (hg : w.heap.size ≤ g) (hb : Below w.heap.size w W) {c0 c1 c2 c3 c4 c5 c6 c7 c8 c9 c10 c11 : Value} (h : W.heap[g]? = some (.cells #[c0, c1, c2, c3, c4, c5, c6, c7, c8, c9, c10, c11] 29 (0, 0))) (v0 v1 v2 v3 v4 v5 v6 v7 v8 v9 v10 v11 : Value) :
    (put12 W g v0 v1 v2 v3 v4 v5 v6 v7 v8 v9 v10 v11).heap[g]? = some (.cells #[v0, v1, v2, v3, v4, v5, v6, v7, v8, v9, v10, v11] 29 (0, 0)) ∧ Below w.heap.size w (put12 W g v0 v1 v2 v3 v4 v5 v6 v7 v8 v9 v10 v11) :=
  ⟨put12_block h _ _ _ _ _ _ _ _ _ _ _ _, (put12_only W g v0 v1 v2 v3 v4 v5 v6 v7 v8 v9 v10 v11).below hb hg⟩

end Go.Proofs.YtgjfhfjmdkhllaaDoor
