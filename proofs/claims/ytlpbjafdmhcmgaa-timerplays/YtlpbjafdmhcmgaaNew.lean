/- New of a heap. -/
import Derived.Test.YtlpbjafdmhcmgaaWri
namespace Go.Proofs.Ytlpbjafdmhcmgaa
open Go.RowKit
open M
set_option linter.unusedVariables false
set_option linter.unusedSimpArgs false

/-- Of how many ids a heap is. -/
def hsz (n : Int) : Nat := (min (max n 0) 65536).toNat
theorem hsz_le (n : Int) : hsz n ≤ 65536 := by unfold hsz; omega
theorem hsz_in (n : Nat) (h : n ≤ 65536) : hsz n = n := by unfold hsz; omega
theorem max_run (n : Int) (ts : Array TypeId) (t : TypeId) (W : World) : (Builtin.max_ ts t #[.int .i64 n, .int .i64 0]).run Try.prog W = .ok (.int .i64 (max n 0)) W := by
  rw [run_max_int2]
  congr 2
  split <;> omega
theorem min_run (n : Int) (ts : Array TypeId) (t : TypeId) (W : World) : (Builtin.min_ ts t #[.int .i64 (max n 0), .int .i64 65536]).run Try.prog W = .ok (.int .i64 (hsz n)) W := by
  rw [run_min_int2]
  congr 2
  unfold hsz
  split <;> omega

/-- What is new since w. -/
def Span (w w' : World) (k : Nat) : Prop := w.heap.size ≤ k ∧ k < w'.heap.size

theorem ho_new {w : World} {B kb pb g n : Nat} (hk : w.heap[kb]? = some (.cells (iRow (fun _ => 0) n) 3)) (hp : w.heap[pb]? = some (.cells (iRow (fun _ => 0) n) 3)) (hg : w.heap[g]? = some (.cells #[.slice none 0 0, .slice (some ⟨kb, 0, none⟩) n n, .slice (some ⟨pb, 0, none⟩) n n] 63))
    (h1 : g ≠ kb) (h2 : g ≠ pb) (h3 : kb ≠ pb) (hn : n ≤ 65536) (b1 : B ≤ kb) (b2 : B ≤ pb) (b3 : B ≤ g) : HO w (fun k => B ≤ k ∧ k < w.heap.size) g n (fun _ => none) := by
  have hm : HM w g kb pb n (.slice none 0 0) 0 (fun _ => 0) (fun _ => 0) (fun _ => 0) :=
    ⟨hg, hk, hp, World.ownsRow_nil _ _ _ _, h1, h2, h3, by simp [Value.ownBlock], by simp [Value.ownBlock], by simp [Value.ownBlock], hn, Nat.zero_le _⟩
  refine ⟨kb, pb, .slice none 0 0, 0, fun _ => 0, fun _ => 0, fun _ => 0, ⟨hm, ⟨fun i hi => by omega, fun x hx h => by simp at h⟩, fun k k0 km => by omega, fun x hx h => ?_, fun _ _ _ => rfl, (cnt_zero.2 (fun _ _ => rfl)).symm⟩, fun k hf => ⟨?_, hm.lt k hf⟩⟩
  · obtain ⟨i, hi, _⟩ := h; omega
  · rcases hf with q | q | q | q
    · omega
    · omega
    · omega
    · simp [Value.ownBlock] at q

set_option maxRecDepth 1000000 in
set_option maxHeartbeats 2000000 in
theorem new_any (n : Int) (w : World) :
    Calls Try.prog 23 #[.int .i64 n] w fun e w' => ∃ g, e = .returned (ptr g) ∧ HO w' (Span w w') g (hsz n) (fun _ => none) ∧ Below w.heap.size w w' := by
  have hM := max_run n
  have hm := min_run n
  have hle := hsz_le n
  have hk : ∀ W : World, (Instr.makeSlice 35 (.int .i64 (hsz n)) (.int .i64 (hsz n))).run Try.prog W = .ok (.slice (some ⟨W.heap.size, 0, none⟩) (hsz n) (hsz n)) (W.alloc (.cells (madeCells #[.int .i64 0] (hsz n)) 3)) := fun W =>
    run_make_row' 35 3 (.int .i64 0) 8 Try.underlying35 info3 rfl .i64 .i64 (hsz n) (by omega) (by omega) W
  simp only [iRow_new] at hk
  generalize max n 0 = X at *
  generalize hsz n = m at *
  go_enter Try.func23, Try.ntmps23
  go_wp2_with (fail)
  go_region
  all_goals
    go_wp2
    go_ret
    refine ⟨w.heap.size + 1 + 1, rfl, ?_, ?_⟩
    · have a0 : ∀ (o1 o2 o3 : Obj), (((w.alloc o1).alloc o2).alloc o3).heap[w.heap.size]? = some o1 := fun o1 o2 o3 => by
        rw [Below.heap_alloc _ _ _ (by simp; omega), Below.heap_alloc _ _ _ (by simp)]; exact heap_alloc_new _ _
      have a1 : ∀ (o1 o2 o3 : Obj), (((w.alloc o1).alloc o2).alloc o3).heap[w.heap.size + 1]? = some o2 := fun o1 o2 o3 => by
        rw [Below.heap_alloc _ _ _ (by simp)]
        exact heap_alloc_at (by simp) _
      have a2 : ∀ (o1 o2 o3 : Obj), (((w.alloc o1).alloc o2).alloc o3).heap[w.heap.size + 1 + 1]? = some o3 := fun o1 o2 o3 => heap_alloc_at (by simp) _
      first
      | exact ho_new (kb := w.heap.size) (pb := w.heap.size + 1) (a0 _ _ _) (a1 _ _ _) (a2 _ _ _) (by omega) (by omega) (by omega) hle (by omega) (by omega) (by omega)
      | exact ho_new (kb := w.heap.size + 1) (pb := w.heap.size) (a1 _ _ _) (a0 _ _ _) (a2 _ _ _) (by omega) (by omega) (by omega) hle (by omega) (by omega) (by omega)
    · exact ((((Below.refl _ _).alloc (Nat.le_refl _) _).alloc (by simp) _).alloc (by simp; omega) _).drew
end Go.Proofs.Ytlpbjafdmhcmgaa
