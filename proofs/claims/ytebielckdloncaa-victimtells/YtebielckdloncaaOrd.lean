/- What order answers: runs by their places. -/
import Derived.Test.YtebielckdloncaaCmp
import Derived.Deep.CutRange
namespace Go.Proofs.Ytebielckdloncaa
open Go.Shelf Go.RowKit Go.Lib Go.Sort
open M
set_option linter.unusedVariables false
set_option linter.unusedSimpArgs false

theorem two_alloc (w : World) (A B : Array Value) (T : TypeId) : (∀ k v, A[k]? = some v → ((w.alloc (.cells A T)).alloc (.cells B T)).drew.cell? ⟨w.heap.size, k, none⟩ = some v) ∧ (∀ k v, B[k]? = some v → ((w.alloc (.cells A T)).alloc (.cells B T)).drew.cell? ⟨w.heap.size + 1, k, none⟩ = some v) := by
  have hA : ((w.alloc (.cells A T)).alloc (.cells B T)).heap[w.heap.size]? = some (.cells A T) := by
    rw [Go.RowKit.Below.heap_alloc _ _ _ (by simp)]; exact heap_alloc_new w _
  have hB : ((w.alloc (.cells A T)).alloc (.cells B T)).heap[w.heap.size + 1]? = some (.cells B T) := heap_alloc_at (by simp) _
  refine ⟨fun k v h => ?_, fun k v h => ?_⟩
  · show ((w.alloc (.cells A T)).alloc (.cells B T)).cell? _ = _
    rw [cell_of_row _ _ k _ _ _ hA]; exact h
  · show ((w.alloc (.cells A T)).alloc (.cells B T)).cell? _ = _
    rw [cell_of_row _ _ k _ _ _ hB]; exact h
theorem two_grow {w w1 : World} (h : ∃ q os, w1 = grow (w.drewN q) os) (o o' : Obj) : ∃ q os, ((w1.alloc o).alloc o').drew = grow (w.drewN q) os := by
  obtain ⟨q, os, rfl⟩ := h
  refine ⟨q + 1, os ++ #[o] ++ #[o'], ?_⟩
  rw [alloc_eq_grow, alloc_eq_grow, grow_grow, grow_grow]
  rfl
theorem one_grow {w w1 : World} (h : ∃ q os, w1 = grow (w.drewN q) os) (o : Obj) : ∃ q os, (w1.alloc o).drew = grow (w.drewN q) os := by
  obtain ⟨q, os, rfl⟩ := h
  refine ⟨q + 1, os ++ #[o], ?_⟩
  rw [alloc_eq_grow, grow_grow]
  rfl

set_option maxRecDepth 1000000 in
set_option maxHeartbeats 4000000 in
theorem order_any (l : List R) (la : Option Addr) (n cap i j : Nat) (pr mo : Int) (w : World) (hl : l.length = n) (hR : RunsIn w la l) (hi : i < n) (hj : j < n) (hn : n ≤ 1000000) :
    Calls Try.prog 21 #[.agg #[.slice la n cap, .int .i64 pr, .int .i64 mo], .int .i64 i, .int .i64 j] w fun e w' => e = .returned (.int .i64 (cfN l i j)) ∧ ∃ q os, w' = grow (w.drewN q) os := by
  have hli : i < l.length := by omega
  have hlj : j < l.length := by omega
  obtain ⟨b, o, rfl, hb, a0, a1, a2, a3, a4⟩ := hR i hli
  obtain ⟨b', o', e, _, d0, d1, d2, d3, d4⟩ := hR j hlj
  obtain ⟨rfl, rfl⟩ : b' = b ∧ o' = o := by cases e; exact ⟨rfl, rfl⟩
  clear e
  unfold cfN
  rw [at_get hli, at_get hlj]
  generalize l[i] = x at *
  generalize l[j] = y at *
  obtain ⟨xt, xp, xm, xq, xs⟩ := x
  obtain ⟨yt, yp, ym, yq, ys⟩ := y
  simp only [] at *
  clear hR hl hli hlj
  have mx := mixedT
  have HQ : ∀ cb, cb = w.heap.size → ((w.alloc (.cells #[.slice (some ⟨b', o', none⟩) n cap, .int .i64 pr, .int .i64 mo] 42)).cell? ⟨cb, 0, none⟩ = some (.slice (some ⟨b', o', none⟩) n cap) ∧ (w.alloc (.cells #[.slice (some ⟨b', o', none⟩) n cap, .int .i64 pr, .int .i64 mo] 42)).cell? ⟨b', o' + i * 5, none⟩ = some (.int .i64 xt) ∧ (w.alloc (.cells #[.slice (some ⟨b', o', none⟩) n cap, .int .i64 pr, .int .i64 mo] 42)).cell? ⟨b', o' + i * 5 + 1, none⟩ = some (.int .i64 xp) ∧ (w.alloc (.cells #[.slice (some ⟨b', o', none⟩) n cap, .int .i64 pr, .int .i64 mo] 42)).cell? ⟨b', o' + i * 5 + 2, none⟩ = some (.int .i64 xm) ∧ (w.alloc (.cells #[.slice (some ⟨b', o', none⟩) n cap, .int .i64 pr, .int .i64 mo] 42)).cell? ⟨b', o' + i * 5 + 3, none⟩ = some (.int .i64 xq) ∧ (w.alloc (.cells #[.slice (some ⟨b', o', none⟩) n cap, .int .i64 pr, .int .i64 mo] 42)).cell? ⟨b', o' + i * 5 + 4, none⟩ = some (.int .i64 xs) ∧ (w.alloc (.cells #[.slice (some ⟨b', o', none⟩) n cap, .int .i64 pr, .int .i64 mo] 42)).cell? ⟨b', o' + j * 5, none⟩ = some (.int .i64 yt) ∧ (w.alloc (.cells #[.slice (some ⟨b', o', none⟩) n cap, .int .i64 pr, .int .i64 mo] 42)).cell? ⟨b', o' + j * 5 + 1, none⟩ = some (.int .i64 yp) ∧ (w.alloc (.cells #[.slice (some ⟨b', o', none⟩) n cap, .int .i64 pr, .int .i64 mo] 42)).cell? ⟨b', o' + j * 5 + 2, none⟩ = some (.int .i64 ym) ∧ (w.alloc (.cells #[.slice (some ⟨b', o', none⟩) n cap, .int .i64 pr, .int .i64 mo] 42)).cell? ⟨b', o' + j * 5 + 3, none⟩ = some (.int .i64 yq) ∧ (w.alloc (.cells #[.slice (some ⟨b', o', none⟩) n cap, .int .i64 pr, .int .i64 mo] 42)).cell? ⟨b', o' + j * 5 + 4, none⟩ = some (.int .i64 ys)) ∧ b' < (w.alloc (.cells #[.slice (some ⟨b', o', none⟩) n cap, .int .i64 pr, .int .i64 mo] 42)).heap.size ∧ cb < (w.alloc (.cells #[.slice (some ⟨b', o', none⟩) n cap, .int .i64 pr, .int .i64 mo] 42)).heap.size := by
    rintro _ rfl
    have hB : Go.RowKit.Below w.heap.size w (w.alloc (.cells #[.slice (some ⟨b', o', none⟩) n cap, .int .i64 pr, .int .i64 mo] 42)) := (Go.RowKit.Below.refl _ _).alloc (Nat.le_refl _) _
    refine ⟨⟨by simp, (hB.cell (p := ⟨b', _, none⟩) hb).trans a0, (hB.cell (p := ⟨b', _, none⟩) hb).trans a1, (hB.cell (p := ⟨b', _, none⟩) hb).trans a2, (hB.cell (p := ⟨b', _, none⟩) hb).trans a3, (hB.cell (p := ⟨b', _, none⟩) hb).trans a4, (hB.cell (p := ⟨b', _, none⟩) hb).trans d0, (hB.cell (p := ⟨b', _, none⟩) hb).trans d1, (hB.cell (p := ⟨b', _, none⟩) hb).trans d2, (hB.cell (p := ⟨b', _, none⟩) hb).trans d3, (hB.cell (p := ⟨b', _, none⟩) hb).trans d4⟩, by simp; omega, by simp⟩
  have HQ' : Hid _ := HQ _ rfl
  have HG : Hid (∃ q os, w.alloc (.cells #[.slice (some ⟨b', o', none⟩) n cap, .int .i64 pr, .int .i64 mo] 42) = grow (w.drewN q) os) := ⟨0, #[_], by rw [alloc_eq_grow]; rfl⟩
  clear HQ a0 a1 a2 a3 a4 d0 d1 d2 d3 d4
  go_enter Try.func21, Try.ntmps21
  go_wp2_with fail
  generalize hcb : w.heap.size = cb at *
  generalize hw1 : w.alloc (Obj.cells #[.slice (some ⟨b', o', none⟩) n cap, .int .i64 pr, .int .i64 mo] 42) = w1 at *
  obtain ⟨⟨q0, a0, a1, a2, a3, a4, d0, d1, d2, d3, d4⟩, hb1, hc1⟩ := HQ'.out
  clear HQ' hw1 hcb hb
  (go_region_held3 (fun W => W.cell? ⟨cb, 0, none⟩ = some (.slice (some ⟨b', o', none⟩) n cap) ∧ W.cell? ⟨b', o' + i * 5, none⟩ = some (.int .i64 xt) ∧ W.cell? ⟨b', o' + i * 5 + 1, none⟩ = some (.int .i64 xp) ∧ W.cell? ⟨b', o' + i * 5 + 2, none⟩ = some (.int .i64 xm) ∧ W.cell? ⟨b', o' + i * 5 + 3, none⟩ = some (.int .i64 xq) ∧ W.cell? ⟨b', o' + i * 5 + 4, none⟩ = some (.int .i64 xs) ∧ W.cell? ⟨b', o' + j * 5, none⟩ = some (.int .i64 yt) ∧ W.cell? ⟨b', o' + j * 5 + 1, none⟩ = some (.int .i64 yp) ∧ W.cell? ⟨b', o' + j * 5 + 2, none⟩ = some (.int .i64 ym) ∧ W.cell? ⟨b', o' + j * 5 + 3, none⟩ = some (.int .i64 yq) ∧ W.cell? ⟨b', o' + j * 5 + 4, none⟩ = some (.int .i64 ys)) (first | go_keep | (go_split_ands; simp [*]; done)) (fail))
  · obtain ⟨u, v⟩ := two_alloc w1 #[.int .i64 xt, .int .i64 xp, .int .i64 xm, .int .i64 xq, .int .i64 xs] #[.int .i64 yt, .int .i64 yp, .int .i64 ym, .int .i64 yq, .int .i64 ys] 27
    have HG2 := hide_it (two_grow HG.out (.cells #[.int .i64 xt, .int .i64 xp, .int .i64 xm, .int .i64 xq, .int .i64 xs] 27) (.cells #[.int .i64 yt, .int .i64 yp, .int .i64 ym, .int .i64 yq, .int .i64 ys] 27))
    clear HG a0 a1 a2 a3 a4 d0 d1 d2 d3 d4 q0 hb1 hc1
    go_wp2_with fail
    generalize hw2 : ((w1.alloc (.cells #[.int .i64 xt, .int .i64 xp, .int .i64 xm, .int .i64 xq, .int .i64 xs] 27)).alloc (.cells #[.int .i64 yt, .int .i64 yp, .int .i64 ym, .int .i64 yq, .int .i64 ys] 27)).drew = w2 at *
    generalize hs1 : w1.heap.size = bx at *
    generalize hs2 : bx + 1 = by' at *
    have z0 := u 0 _ rfl
    have z1 := u 1 _ rfl
    have z4 := u 4 _ rfl
    have y0 := v 0 _ rfl
    have y1 := v 1 _ rfl
    have y4 := v 4 _ rfl
    clear u v hw2 hs1 hs2
    (go_region_held3 (fun W => W.cell? ⟨bx, 0, none⟩ = some (.int .i64 xt) ∧ W.cell? ⟨bx, 1, none⟩ = some (.int .i64 xp) ∧ W.cell? ⟨bx, 4, none⟩ = some (.int .i64 xs) ∧ W.cell? ⟨by', 0, none⟩ = some (.int .i64 yt) ∧ W.cell? ⟨by', 1, none⟩ = some (.int .i64 yp) ∧ W.cell? ⟨by', 4, none⟩ = some (.int .i64 ys)) (first | go_keep | (go_split_ands; simp [*]; done)) (first | (go_at_call 25; refine (compare_any _ _ _).mono ?_; rintro e w' ⟨rfl, rfl⟩) | (go_at_call 24; refine (or_any [cmpI xp yp, cmpI ys xs, cmpI yt xt, cmpI i j] _ 4 _ rfl (by omega) (by intro q hq; rcases q with _ | _ | _ | _ | q <;> first | (simp; done) | (simp at hq; omega))).mono ?_; rintro e w' ⟨rfl, rfl⟩)))
    go_wp2
    go_ret
    exact ⟨rfl, one_grow HG2.out _⟩
  · obtain ⟨u, v⟩ := two_alloc w1 #[.int .i64 yt, .int .i64 yp, .int .i64 ym, .int .i64 yq, .int .i64 ys] #[.int .i64 xt, .int .i64 xp, .int .i64 xm, .int .i64 xq, .int .i64 xs] 27
    have HG2 := hide_it (two_grow HG.out (.cells #[.int .i64 yt, .int .i64 yp, .int .i64 ym, .int .i64 yq, .int .i64 ys] 27) (.cells #[.int .i64 xt, .int .i64 xp, .int .i64 xm, .int .i64 xq, .int .i64 xs] 27))
    clear HG a0 a1 a2 a3 a4 d0 d1 d2 d3 d4 q0 hb1 hc1
    go_wp2_with fail
    generalize hw2 : ((w1.alloc (.cells #[.int .i64 yt, .int .i64 yp, .int .i64 ym, .int .i64 yq, .int .i64 ys] 27)).alloc (.cells #[.int .i64 xt, .int .i64 xp, .int .i64 xm, .int .i64 xq, .int .i64 xs] 27)).drew = w2 at *
    generalize hs1 : w1.heap.size = by' at *
    generalize hs2 : by' + 1 = bx at *
    have z0 := v 0 _ rfl
    have z1 := v 1 _ rfl
    have z4 := v 4 _ rfl
    have y0 := u 0 _ rfl
    have y1 := u 1 _ rfl
    have y4 := u 4 _ rfl
    clear u v hw2 hs1 hs2
    (go_region_held3 (fun W => W.cell? ⟨bx, 0, none⟩ = some (.int .i64 xt) ∧ W.cell? ⟨bx, 1, none⟩ = some (.int .i64 xp) ∧ W.cell? ⟨bx, 4, none⟩ = some (.int .i64 xs) ∧ W.cell? ⟨by', 0, none⟩ = some (.int .i64 yt) ∧ W.cell? ⟨by', 1, none⟩ = some (.int .i64 yp) ∧ W.cell? ⟨by', 4, none⟩ = some (.int .i64 ys)) (first | go_keep | (go_split_ands; simp [*]; done)) (first | (go_at_call 25; refine (compare_any _ _ _).mono ?_; rintro e w' ⟨rfl, rfl⟩) | (go_at_call 24; refine (or_any [cmpI xp yp, cmpI ys xs, cmpI yt xt, cmpI i j] _ 4 _ rfl (by omega) (by intro q hq; rcases q with _ | _ | _ | _ | q <;> first | (simp; done) | (simp at hq; omega))).mono ?_; rintro e w' ⟨rfl, rfl⟩)))
    go_wp2
    go_ret
    exact ⟨rfl, one_grow HG2.out _⟩
end Go.Proofs.Ytebielckdloncaa
