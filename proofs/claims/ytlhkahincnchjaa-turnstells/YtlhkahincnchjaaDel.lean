/- slices.Delete of one member. -/
import Derived.Test.YtlhkahincnchjaaMem
import Derived.Deep.RegionLaw
import Derived.Lib.SliceRun
namespace Go.Proofs.Ytlhkahincnchjaa
open Go.RowKit
open M
set_option linter.unusedVariables false
set_option linter.unusedSimpArgs false

/-- One place less. -/
def del (f : Nat → Int) (i : Nat) : Nat → Int := fun j => if j < i then f j else f (j + 1)
theorem info64 : (Try.prog.info? 64).map (fun i => (i.zero, i.size, i.bytes)) = some (some (.agg #[.int .i64 0, .int .i64 0, .int .i64 0]), 3, 24) := by kernel_rfl
theorem info50 : (Try.prog.info? 50).map (fun i => (i.zero, i.size, i.bytes)) = some (some (.agg #[.int .i64 0, .int .i64 0, .int .i64 0]), 3, 24) := by kernel_rfl
theorem zero64 (w : World) : (zeroValue 64).run Try.prog w = .ok (.agg #[.int .i64 0, .int .i64 0, .int .i64 0]) w := by
  obtain ⟨i0, hi, hz0, hz1, hz2⟩ := info_parts info64
  simp [zeroValue, typeInfo, hi, hz0]

/-- A store of many cells. -/
theorem heap_setCells (b : Nat) (t : TypeId) (fr : Nat × Nat) : ∀ (vs : List Value) (o : Nat) (w : World) (cur : Array Value), w.heap[b]? = some (.cells cur t fr) → ∃ cur', (w.setCells b o vs).heap[b]? = some (.cells cur' t fr) ∧ cur'.size = cur.size ∧ ∀ i, i < cur.size → cur'[i]? = if o ≤ i ∧ i < o + vs.length then vs[i - o]? else cur[i]?
  | [], o, w, cur, h => ⟨cur, h, rfl, fun i hi => by rw [if_neg (by simp)]⟩
  | v :: vs, o, w, cur, h => by
    obtain ⟨cur', h1, h2, h3⟩ := heap_setCells b t fr vs (o + 1) (w.setCell ⟨b, o, none⟩ v) _ (heap_setCell_at h v)
    refine ⟨cur', h1, by simpa using h2, fun i hi => ?_⟩
    rw [h3 i (by simpa using hi)]
    by_cases e : i = o
    · subst e
      rw [if_neg (by omega), if_pos (by simp), Nat.sub_self, Array.getElem?_setIfInBounds, if_pos rfl, if_pos hi]; rfl
    · by_cases e2 : o + 1 ≤ i ∧ i < o + 1 + vs.length
      · rw [if_pos e2, if_pos (by simp only [List.length_cons]; omega), show i - o = (i - (o + 1)) + 1 by omega, List.getElem?_cons_succ]
      · rw [if_neg e2, if_neg (by simp only [List.length_cons]; omega), Array.getElem?_setIfInBounds, if_neg (fun q => e q.symm)]
theorem Turn.setCells {F : Nat → Prop} {a : World} {b : Nat} (hb : F b) : ∀ (vs : List Value) (o : Nat) (w : World), Turn F a w → Turn F a (w.setCells b o vs)
  | [], o, w, h => h
  | v :: vs, o, w, h => Turn.setCells hb vs (o + 1) _ (h.setCell (p := ⟨b, o, none⟩) (.inl hb) v)
/-- 'clear' of one member. -/
theorem run_clear3 (w : World) (ty : TypeId) (b o c : Nat)
    (hc : ∀ j, j < 3 → (w.cell? ⟨b, o + j, none⟩).isSome = true) (hf : ∀ j, j < 3 → w.frozen? ⟨b, o + j, none⟩ = false) :
    (Builtin.clear_ #[60] ty #[.slice (some ⟨b, o, none⟩) 1 c]).run Try.prog w = .ok (.tuple #[]) (w.setCells b o [.int .i64 0, .int .i64 0, .int .i64 0]) := by
  have hst := run_storeCells_cells (P := Try.prog) b o [.int .i64 0, .int .i64 0, .int .i64 0] 0 w (by simpa using hc) (by simpa using hf) (by intro v hv'; simp at hv'; subst hv'; rfl)
  simp only [Nat.add_zero] at hst
  have hzc : (Builtin.zeroCells (Value.agg #[.int .i64 0, .int .i64 0, .int .i64 0]).cells 1).toList = [.int .i64 0, .int .i64 0, .int .i64 0] := by kernel_rfl
  simp [Builtin.clear_, run_underlying Try.underlying60, zero64, hzc, hst]

set_option maxRecDepth 1000000 in
set_option maxHeartbeats 4000000 in
theorem delete_any {w : World} {g cap i j n : Nat} {I W C : Nat → Int} (h : w.ownsRow 0 64 3 (.slice (some ⟨g, 0, none⟩) n cap) n (mrow n I W C)) (hl : n ≤ 1000000) (hi : i < n) (hj : j = i + 1) :
    Calls Try.prog 25 #[.slice (some ⟨g, 0, none⟩) n cap, .int .i64 i, .int .i64 j] w fun e w' => e = .returned (.slice (some ⟨g, 0, none⟩) (n - 1) cap) ∧ Hid (w'.ownsRow 0 64 3 (.slice (some ⟨g, 0, none⟩) (n - 1) cap) (n - 1) (mrow (n - 1) (del I i) (del W i) (del C i)) ∧ Turn (fun k => k = g) w w') := by
  obtain ⟨i0, hi0, hz0, hz1, hz2⟩ := info_parts info64
  obtain ⟨cur, hg, hnc, hcm, hcs, htake⟩ : ∃ cur, w.heap[g]? = some (.cells cur 64) ∧ n ≤ cap ∧ cap ≤ maxLen ∧ cur.size = cap * 3 ∧ cur.toList.take (n * 3) = mrow n I W C := by
    rcases h.2 with ⟨e, q⟩ | ⟨g', c, cur, e, _, hg, h1, h2, h3, h4⟩
    · cases e
    · cases e; exact ⟨cur, hg, h1, h2, h3, h4⟩
  have hat : ∀ k, k < n * 3 → cur[k]? = (mrow n I W C)[k]? := fun k hk => by
    rw [← Array.getElem?_toList, ← htake, List.getElem?_take_of_lt (by omega)]
  have hml := mrow_len n I W C
  obtain ⟨news, hnews⟩ : ∃ news, news = (mrow n I W C).drop (j * 3) := ⟨_, rfl⟩
  have hlen : news.length = (n - j) * 3 := by rw [hnews, List.length_drop, hml]; omega
  obtain ⟨A, hA, hsrc⟩ : ∃ A : Addr, (if cap = j then some (⟨g, 0, none⟩ : Addr) else some ⟨g, j * 3, none⟩) = some A ∧ Hid (∀ t u, news[t]? = some u → w.drew.cell? (A.add t) = some u) := by
    by_cases h : cap = j
    · refine ⟨⟨g, 0, none⟩, by simp [h], fun t u hu => ?_⟩
      have h0 : news.length = 0 := by rw [hlen]; omega
      rw [List.length_eq_zero_iff.1 h0] at hu
      simp at hu
    · refine ⟨⟨g, j * 3, none⟩, by simp [h], fun t u hu => ?_⟩
      have ht : t < news.length := (List.getElem?_eq_some_iff.1 hu).1
      rw [hlen] at ht
      rw [Addr.add_lit]
      show w.cell? _ = _
      rw [cell_of_row w g (j * 3 + t) _ _ _ hg, hat (j * 3 + t) (by omega), ← hu, hnews, List.getElem?_drop]
  have s1 : Hid (news.length = (n - j) * 3) := hlen
  have s2 : Hid (∀ u ∈ news, u.oneCell' = true) := by rw [hnews]; exact fun u hu => mrow_one n I W C u (List.mem_of_mem_drop hu)
  have s3 : Hid (∀ t, t < news.length → (w.drew.cell? ⟨g, 0 + i * 3 + t, none⟩).isSome = true ∧ w.drew.frozen? ⟨g, 0 + i * 3 + t, none⟩ = false) := by
    intro t ht
    rw [hlen] at ht
    rw [Nat.zero_add]
    exact ⟨by show (w.cell? _).isSome = true; rw [cell_of_row w g (i * 3 + t) _ _ _ hg, Array.getElem?_eq_getElem (by omega)]; rfl, by show w.frozen? _ = false; simp [World.frozen?, hg]⟩
  obtain ⟨W1, hW1⟩ : ∃ W1, W1 = w.drew.setCells g (0 + i * 3) news := ⟨_, rfl⟩
  obtain ⟨cur1, g1, z1, c1⟩ := heap_setCells g 64 (0, 0) news (0 + i * 3) w.drew cur hg
  rw [← hW1] at g1
  have t1 : Turn (fun k => k = g) w W1 := by rw [hW1]; exact Turn.setCells (F := fun k => k = g) (b := g) rfl news _ _ ((Turn.refl _ w).drew)
  have hcl : ∀ ty c, (Builtin.clear_ #[60] ty #[.slice (some ⟨g, (i + (n - j)) * 3, none⟩) (n - (i + (n - j))) c]).run Try.prog W1 = .ok (.tuple #[]) (W1.setCells g ((i + (n - j)) * 3) [.int .i64 0, .int .i64 0, .int .i64 0]) :=
    fun ty c => by
      rw [show n - (i + (n - j)) = 1 by omega]
      exact run_clear3 W1 ty g _ c (fun t ht => by rw [cell_of_row W1 g _ _ _ _ g1, Array.getElem?_eq_getElem (by omega)]; rfl) (fun t ht => by simp [World.frozen?, g1])
  have HEND : Hid ((W1.setCells g ((i + (n - j)) * 3) [.int .i64 0, .int .i64 0, .int .i64 0]).ownsRow 0 64 3 (.slice (some ⟨g, 0, none⟩) (n - 1) cap) (n - 1) (mrow (n - 1) (del I i) (del W i) (del C i)) ∧ Turn (fun k => k = g) w (W1.setCells g ((i + (n - j)) * 3) [.int .i64 0, .int .i64 0, .int .i64 0])) := by
    obtain ⟨cur2, g2, z2, c2⟩ := heap_setCells g 64 (0, 0) [.int .i64 0, .int .i64 0, .int .i64 0] ((i + (n - j)) * 3) W1 cur1 g1
    refine ⟨⟨mrow_len .., .inr ⟨g, cap, cur2, rfl, Nat.zero_le _, g2, by omega, hcm, by omega, ?_⟩⟩, Turn.setCells (F := fun k => k = g) (b := g) rfl _ _ _ t1⟩
    have hall : ∀ t, t < (n - 1) * 3 → cur2[t]? = if t < i * 3 then (mrow n I W C)[t]? else (mrow n I W C)[t + 3]? := fun t ht => by
      rw [c2 t (by omega), if_neg (by omega), c1 t (by omega)]
      by_cases e : t < i * 3
      · rw [if_neg (by omega), if_pos e, hat t (by omega)]
      · rw [if_pos (by omega), if_neg e, hnews, List.getElem?_drop]
        congr 1
        omega
    refine mrow_ext (by rw [List.length_take, Array.length_toList]; omega) (fun k hk => ?_)
    have htk : ∀ r, r < 3 → (cur2.toList.take ((n - 1) * 3))[k * 3 + r]? = if k < i then (mrow n I W C)[k * 3 + r]? else (mrow n I W C)[(k + 1) * 3 + r]? := fun r hr => by
      rw [List.getElem?_take_of_lt (by omega), Array.getElem?_toList, hall _ (by omega)]
      by_cases e : k < i
      · rw [if_pos e, if_pos (by omega)]
      · rw [if_neg e, if_neg (by omega)]
        congr 1
        omega
    have h0 := htk 0 (by omega)
    rw [Nat.add_zero] at h0
    rw [h0, htk 1 (by omega), htk 2 (by omega)]
    unfold del
    by_cases e : k < i
    · simp only [e, if_true]
      exact mrow_at n I W C k (by omega)
    · simp only [e, if_false]
      have := mrow_at n I W C (k + 1) (by omega)
      simpa using this
  have hW : Hid (W1 = w.drew.setCells g (0 + i * 3) news) := hW1
  have hic : i ≤ cap := by omega
  have hjc : j ≤ cap := by omega
  have hcm2 : cap ≤ 9223372036854775807 := by unfold maxLen at hcm; omega
  have hjn : j ≤ n := by omega
  have hij : (i : Int) ≤ j := by omega
  have hne : ((i : Int) == j) = false := by simp; omega
  have hHJ := hide_it hj
  have hcn : ¬ cap = i + (n - j) := by omega
  clear hW1 g1 c1 z1 t1 hat htake hcs hg h hlen hnews hj hml
  go_enter Try.func25, Try.ntmps25
  go_wp2_with fail
  go_region_law (refine step_append_room rfl (.tmp 22) (.tmp 25) 60 rfl 64 i0 3 Try.underlying60 hi0 hz1 g 0 i cap (by simp [Act.eval, Act.put]) A (n - j) (cap - j) news (by simp [Act.eval, Act.put]) s1.out hsrc.out s2.out (by omega) s3.out ?_; rw [← hW.out])
  go_wp2
  go_ret
  refine ⟨by rw [show n - 1 = i + (n - j) by have := hHJ.out; omega]; rfl, HEND⟩
end Go.Proofs.Ytlhkahincnchjaa
