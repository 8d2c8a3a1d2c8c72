/- What writeFile of package parse needs: its deferred closure; how long a line is; a file's rows in memory. -/
import Derived.Test.YtgjfhfjmdkhllaaDoorFmO
import Derived.Defers
import Derived.Recover
namespace Go.Proofs.YtgjfhfjmdkhllaaDoor
open Go.RowKit
open M
set_option linter.unusedVariables false
set_option linter.unusedSimpArgs false

set_option maxRecDepth 1000000 in
set_option maxHeartbeats 1000000 in
theorem freed_none (p q : Value) (w : World) :
    CallsD Tryd.prog 36 #[p, q] .returning w fun e u' w' => e = .returned (.tuple #[]) ∧ u' = .returning ∧ w' = w := by
  refine callsD_of_wpS Tryd.func36 rfl fun c₀ cs hu => ?_
  apply wpS_seq
  apply wpS_region
  simp [wpOpsS, go_sem, recoverD, hu, Tryd.ntmps36, Exit.thenS]
  refine wpS_of_wp ?_
  go_wp2
  cases c₀
  simp_all [bodyPostS, results, Tryd.results36]

theorem field_fault (l e : Int) (w : World) : (Instr.field 69 (.agg #[.int .i64 l, .int .i64 e]) 1).run Tryd.prog w = .ok (.int .i64 e) w := by kernel_rfl
theorem assert_fault2 (v : Value) (w : World) : (Instr.typeAssert (.iface 69 v) 20 69 false).run Tryd.prog w = .ok v w := by kernel_rfl

set_option maxRecDepth 1000000 in
set_option maxHeartbeats 2000000 in
theorem freed_some (g2 g3 : Nat) (l e : Int) (older : List PanicEntry) (w : World) (x y : Value) (h2 : w.heap[g2]? = some (.cells #[x] 9 (0, 0))) (h3 : w.heap[g3]? = some (.cells #[y] 30 (0, 0))) (h23 : g2 ≠ g3) :
    CallsD Tryd.prog 36 #[ptr g2 0, ptr g3 0] (.panicking ({ v := .iface 69 (.agg #[.int .i64 l, .int .i64 e]), recovered := false } :: older)) w fun e' u' w' =>
      e' = .returned (.tuple #[]) ∧ u' = .panicking ({ v := .iface 69 (.agg #[.int .i64 l, .int .i64 e]), recovered := true } :: older) ∧ w'.heap[g2]? = some (.cells #[.string ⟨#[]⟩] 9 (0, 0)) ∧ w'.heap[g3]? = some (.cells #[.int .i64 e] 30 (0, 0)) ∧ (∀ B, B ≤ g2 → B ≤ g3 → Below B w w') := by
  have a2 : w.cell? ⟨g2, 0, none⟩ = some x := by rw [Lib.cell_of_heap h2]; rfl
  have a3 : w.cell? ⟨g3, 0, none⟩ = some y := by rw [Lib.cell_of_heap h3]; rfl
  have fw2 : w.frozen? ⟨g2, 0, none⟩ = false := Lib.frozen_of_heap h2 0
  have fw3 : w.frozen? ⟨g3, 0, none⟩ = false := Lib.frozen_of_heap h3 0
  have hta := assert_fault2
  have hfd := field_fault l e
  have H2 : Hid (w.heap[g2]? = some (.cells #[x] 9 (0, 0))) := h2
  have H3 : Hid (w.heap[g3]? = some (.cells #[y] 30 (0, 0))) := h3
  clear h2 h3
  refine callsD_of_wpS Tryd.func36 rfl fun c₀ cs hu => ?_
  apply wpS_seq
  apply wpS_region
  simp [wpOpsS, go_sem, recoverD, hu, Tryd.ntmps36, Exit.thenS]
  rw [show (#[ptr g2 0, ptr g3 0] ++ ((Array.replicate 7 undef).setIfInBounds 1 (Value.iface 69 (.agg #[.int .i64 l, .int .i64 e]))).setIfInBounds 0 (Value.iface 69 (.agg #[.int .i64 l, .int .i64 e])) : Array Value) = #[ptr g2 0, ptr g3 0, Value.iface 69 (.agg #[.int .i64 l, .int .i64 e]), Value.iface 69 (.agg #[.int .i64 l, .int .i64 e]), undef, undef, undef, undef, undef] from rfl]
  refine wpS_of_wp ?_
  go_wp2
  go_region
  all_goals (
    have u2 := Joins.block_setCell (i := 0) H2.out (.string ⟨#[]⟩)
    have u3 : (w.setCell ⟨g2, 0, none⟩ (.string ⟨#[]⟩)).heap[g3]? = some (.cells #[y] 30 (0, 0)) := by rw [Below.heap_setCell _ _ _ _ (by show g3 ≠ g2; omega)]; exact H3.out
    have v3 := Joins.block_setCell (i := 0) u3 (.int .i64 e)
    refine ⟨rfl, _, rfl, _, results_none rfl _ _ _, rfl, rfl, ?_, v3, fun B k2 k3 => (((Below.refl B w).setCell (p := ⟨g2, 0, none⟩) k2 _).setCell (p := ⟨g3, 0, none⟩) k3 _).drew⟩
    show (World.setCell _ _ _).heap[g2]? = _
    rw [Below.heap_setCell _ _ _ _ (by show g2 ≠ g3; omega)]; exact u2)

/-! ### How long a line is -/
theorem wGo_len : ∀ (ws : List (List UInt8)) (i : Nat) (ns : List Int) (acc r : List UInt8), (∀ x ∈ ws, x.length ≤ 20) → wGo i ws ns acc = some r → r.length ≤ acc.length + 1 + 22 * ws.length
  | [], i, ns, acc, r, _, h => by
    simp only [wGo, Option.some.injEq] at h
    subst h
    simp
  | w :: ws, i, ns, acc, r, hw, h => by
    have hacc : (if 0 < i then acc ++ [32] else acc).length ≤ acc.length + 1 := by split <;> simp
    unfold wGo at h
    by_cases h78 : w = [78]
    · rw [if_pos h78] at h
      cases ns with
      | nil => simp at h
      | cons n rr =>
        simp only at h
        by_cases hok : okN n = true
        · rw [if_pos hok] at h
          have hok' : 0 ≤ n ∧ n ≤ 1048576 := by simpa [okN] using hok
          have hl := Lib.itoa_length_le n (by omega) (by omega)
          have := wGo_len ws (i + 1) rr _ r (fun x hx => hw x (by simp [hx])) h
          simp only [List.length_append, List.length_cons] at this ⊢
          omega
        · rw [if_neg hok] at h; simp at h
    · rw [if_neg h78] at h
      have := wGo_len ws (i + 1) ns _ r (fun x hx => hw x (by simp [hx])) h
      have hl := hw w (by simp)
      simp only [List.length_append, List.length_cons] at this ⊢
      omega
theorem lineOut_len {m : Fm} (hm : m ∈ forms) {ns : List Int} {acc r : List UInt8} (h : lineOut m ns acc = some r) : r.length ≤ acc.length + 500 := by
  obtain ⟨_, _, _, h4, _⟩ := ascii_of hm
  have := wGo_len (words m) 0 ns acc r (words_short hm) h
  omega

/-! ### The loop over the forms, as mathematics -/
def tasksGo (m : Fm) : List (Int × Int) → List UInt8 → Option (List UInt8)
  | [], acc => some acc
  | t :: ts, acc => (lineOut m [t.1, t.2] acc).bind (tasksGo m ts)
def formsGo : List Fm → Fl → List UInt8 → Option (List UInt8)
  | [], _, acc => some acc
  | m :: l, f, acc => if m.part = 1 then (lineOut m f.cfg acc).bind (formsGo l f) else if m.part = 2 then (tasksGo m f.tasks acc).bind (formsGo l f) else formsGo l f acc
theorem tasksGo_is : ∀ (ts : List (Int × Int)) (acc : List UInt8), tasksGo taskForm ts acc = tasksOut ts acc
  | [], acc => rfl
  | t :: ts, acc => by
    unfold tasksGo tasksOut
    congr
    funext a
    exact tasksGo_is ts a
theorem formsGo_three : ∀ (l : List Fm) (f : Fl) (acc : List UInt8), (∀ m ∈ l, m.part = 3) → formsGo l f acc = some acc
  | [], _, _, _ => rfl
  | m :: l, f, acc, h => by
    have h3 := h m (by simp)
    unfold formsGo
    rw [if_neg (by omega), if_neg (by omega)]
    exact formsGo_three l f acc (fun x hx => h x (by simp [hx]))
theorem formsGo_is (f : Fl) : (formsGo forms f []).bind (opsOut f.ops) = fileOut f := by
  have h3 : ∀ m ∈ forms.drop 2, m.part = 3 := by
    have : (forms.drop 2).all (fun m => decide (m.part = 3)) = true := by decide +kernel
    simpa using this
  rw [forms_head]
  have e : ∀ acc, formsGo (forms.drop 2) f acc = some acc := fun acc => formsGo_three _ f acc h3
  unfold fileOut formsGo
  rw [if_pos (show cfgForm.part = 1 from rfl)]
  cases lineOut cfgForm f.cfg [] with
  | none => rfl
  | some a =>
    simp only [Option.bind_some]
    unfold formsGo
    rw [if_neg (show ¬ taskForm.part = 1 by decide), if_pos (show taskForm.part = 2 from rfl), tasksGo_is]
    cases tasksOut f.tasks a with
    | none => rfl
    | some b => simp only [Option.bind_some, e]

/-! ### A file's rows in memory -/
def TasksIn (w : World) (a : Option Addr) (ts : List (Int × Int)) : Prop :=
  ∀ i (h : i < ts.length), ∃ b o, a = some ⟨b, o, none⟩ ∧ b < w.heap.size ∧ w.cell? ⟨b, o + i * 2, none⟩ = some (.int .i64 ts[i].1) ∧ w.cell? ⟨b, o + i * 2 + 1, none⟩ = some (.int .i64 ts[i].2)
def OpsIn (w : World) (a : Option Addr) (os : List Oz) : Prop :=
  ∀ i (h : i < os.length), ∃ b o, a = some ⟨b, o, none⟩ ∧ b < w.heap.size ∧ w.cell? ⟨b, o + i * 5, none⟩ = some (.int .i64 os[i].kind) ∧ w.cell? ⟨b, o + i * 5 + 1, none⟩ = some (.int .i64 os[i].a) ∧ w.cell? ⟨b, o + i * 5 + 2, none⟩ = some (.int .i64 os[i].b) ∧ w.cell? ⟨b, o + i * 5 + 3, none⟩ = some (.int .i64 os[i].c) ∧ w.cell? ⟨b, o + i * 5 + 4, none⟩ = some (.int .i64 os[i].d)
theorem TasksIn.below {w w' : World} {a : Option Addr} {ts : List (Int × Int)} (h : TasksIn w a ts) {B : Nat} (hb : Below B w w') (hB : w.heap.size ≤ B) : TasksIn w' a ts := by
  intro i hi
  obtain ⟨b, o, h1, h2, h3, h4⟩ := h i hi
  exact ⟨b, o, h1, Nat.lt_of_lt_of_le h2 hb.size, by rw [hb.cell (p := ⟨b, _, none⟩) (Nat.lt_of_lt_of_le h2 hB)]; exact h3, by rw [hb.cell (p := ⟨b, _, none⟩) (Nat.lt_of_lt_of_le h2 hB)]; exact h4⟩
theorem OpsIn.below {w w' : World} {a : Option Addr} {os : List Oz} (h : OpsIn w a os) {B : Nat} (hb : Below B w w') (hB : w.heap.size ≤ B) : OpsIn w' a os := by
  intro i hi
  obtain ⟨b, o, h1, h2, h3, h4, h5, h6, h7⟩ := h i hi
  have hlt := Nat.lt_of_lt_of_le h2 hB
  exact ⟨b, o, h1, Nat.lt_of_lt_of_le h2 hb.size, by rw [hb.cell (p := ⟨b, _, none⟩) hlt]; exact h3, by rw [hb.cell (p := ⟨b, _, none⟩) hlt]; exact h4, by rw [hb.cell (p := ⟨b, _, none⟩) hlt]; exact h5, by rw [hb.cell (p := ⟨b, _, none⟩) hlt]; exact h6, by rw [hb.cell (p := ⟨b, _, none⟩) hlt]; exact h7⟩

end Go.Proofs.YtgjfhfjmdkhllaaDoor
