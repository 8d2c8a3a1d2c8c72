/- slices.Delete of one. -/
import Derived.Test.YtjmdalpffhfdfaaOps
namespace Go.Proofs.Ytjmdalpffhfdfaa
open Go.RowKit
open M
set_option linter.unusedVariables false
set_option linter.unusedSimpArgs false

theorem zero3 (w : World) : (zeroValue 3).run Try.prog w = .ok (.int .i64 0) w := by
  obtain ⟨i0, hi, hz0, hz1, hz2⟩ := info_parts info3
  simp [zeroValue, typeInfo, hi, hz0]

set_option maxRecDepth 1000000 in
set_option maxHeartbeats 4000000 in
theorem delete_any {w : World} {g cap i j : Nat} {L : List Int} (h : w.ownsRow 0 3 1 (.slice (some ⟨g, 0, none⟩) L.length cap) L.length (ints L)) (hl : L.length ≤ 1000000) (hi : i < L.length) (hj : j = i + 1) :
    Calls Try.prog 29 #[.slice (some ⟨g, 0, none⟩) L.length cap, .int .i64 i, .int .i64 j] w fun e w' => e = .returned (.slice (some ⟨g, 0, none⟩) (L.length - 1) cap) ∧ Hid (w'.ownsRow 0 3 1 (.slice (some ⟨g, 0, none⟩) (L.length - 1) cap) (L.length - 1) (ints (L.take i ++ L.drop j)) ∧ Turn (fun k => k = g) w w') := by
  obtain ⟨i0, hi0, hz0, hz1, hz2⟩ := info_parts info3
  obtain ⟨n, hn⟩ : ∃ n, L.length = n := ⟨_, rfl⟩
  obtain ⟨cur, hg, hnc, hcm, hcs, htake⟩ : ∃ cur, w.heap[g]? = some (.cells cur 3) ∧ n ≤ cap ∧ cap ≤ maxLen ∧ cur.size = cap * 1 ∧ cur.toList.take (n * 1) = ints L := by
    rcases h.2 with ⟨e, q⟩ | ⟨g', c, cur, e, _, hg, h1, h2, h3, h4⟩
    · cases e
    · cases e; rw [hn] at h1 h4; exact ⟨cur, hg, h1, h2, h3, h4⟩
  rw [Nat.mul_one] at hcs htake
  have hat : ∀ k (hk : k < L.length), cur[k]? = some (.int .i64 L[k]) := fun k hk => by
    rw [← Array.getElem?_toList, ← ints_at L hk, ← htake, List.getElem?_take_of_lt (by omega)]
  obtain ⟨news, hnews⟩ : ∃ news, news = ints (L.drop j) := ⟨_, rfl⟩
  have hlen : news.length = n - j := by rw [hnews]; simp [hn]
  obtain ⟨A, hA, hsrc⟩ : ∃ A : Addr, (if cap = j then some (⟨g, 0, none⟩ : Addr) else some ⟨g, j, none⟩) = some A ∧ Hid (∀ t u, news[t]? = some u → w.drew.cell? (A.add t) = some u) := by
    by_cases h : cap = j
    · refine ⟨⟨g, 0, none⟩, by simp [h], fun t u hu => ?_⟩
      have h0 : news.length = 0 := by rw [hlen]; omega
      rw [List.length_eq_zero_iff.1 h0] at hu
      simp at hu
    · refine ⟨⟨g, j, none⟩, by simp [h], fun t u hu => ?_⟩
      have ht : t < news.length := (List.getElem?_eq_some_iff.1 hu).1
      rw [hlen] at ht
      rw [Addr.add_lit]
      show w.cell? _ = _
      rw [cell_of_row w g (j + t) _ _ _ hg, hat (j + t) (by omega), ← hu, hnews]
      simp [show j + t < L.length by omega]
  have s1 : Hid (news.length = (n - j) * 1) := by rw [Nat.mul_one]; exact hlen
  have s2 : Hid (∀ u ∈ news, u.oneCell' = true) := by rw [hnews]; exact ints_one _
  have s3 : Hid (∀ t, t < news.length → (w.drew.cell? ⟨g, 0 + i * 1 + t, none⟩).isSome = true ∧ w.drew.frozen? ⟨g, 0 + i * 1 + t, none⟩ = false) := by
    intro t ht
    rw [hlen] at ht
    rw [Nat.mul_one, Nat.zero_add]
    exact ⟨by show (w.cell? _).isSome = true; rw [cell_of_row w g (i + t) _ _ _ hg, hat (i + t) (by omega)]; rfl, by show w.frozen? _ = false; simp [World.frozen?, hg]⟩
  obtain ⟨W1, hW1⟩ : ∃ W1, W1 = w.drew.setCells g (0 + i * 1) news := ⟨_, rfl⟩
  obtain ⟨cur1, g1, z1, c1⟩ := heap_setCells g 3 (0, 0) news (0 + i * 1) w.drew cur hg
  rw [← hW1] at g1
  have t1 : Turn (fun k => k = g) w W1 := by rw [hW1]; exact Turn.setCells (F := fun k => k = g) (b := g) rfl news _ _ ((Turn.refl _ w).drew)
  have hcl : ∀ ty, (Builtin.clear_ #[27] ty #[.slice (some ⟨g, i + (n - j), none⟩) (n - (i + (n - j))) (cap - (i + (n - j)))]).run Try.prog W1 = .ok (.tuple #[]) (W1.setCells g (i + (n - j)) (List.replicate (n - (i + (n - j))) (.int .i64 0))) :=
    fun ty => Lib.run_clear_slice W1 _ _ ty _ Try.underlying27 zero3 rfl rfl g (i + (n - j)) _ _ (by omega) (fun t ht => by rw [cell_of_row W1 g _ _ _ _ g1, Array.getElem?_eq_getElem (by omega)]; rfl) (fun t ht => by simp [World.frozen?, g1])
  have HEND : Hid ((W1.setCells g (i + (n - j)) (List.replicate (n - (i + (n - j))) (.int .i64 0))).ownsRow 0 3 1 (.slice (some ⟨g, 0, none⟩) (n - 1) cap) (n - 1) (ints (L.take i ++ L.drop j)) ∧ Turn (fun k => k = g) w (W1.setCells g (i + (n - j)) (List.replicate (n - (i + (n - j))) (.int .i64 0)))) := by
    obtain ⟨cur2, g2, z2, c2⟩ := heap_setCells g 3 (0, 0) (List.replicate (n - (i + (n - j))) (.int .i64 0)) (i + (n - j)) W1 cur1 g1
    refine ⟨⟨by simp [hn]; omega, .inr ⟨g, cap, cur2, rfl, Nat.zero_le _, g2, by omega, hcm, by omega, ?_⟩⟩, Turn.setCells (F := fun k => k = g) (b := g) rfl _ _ _ t1⟩
    refine List.ext_getElem? (fun k => ?_)
    by_cases hk : k < n - 1
    · rw [List.getElem?_take_of_lt (by omega), Array.getElem?_toList, c2 k (by omega), if_neg (by omega), c1 k (by omega)]
      by_cases e : k < i
      · rw [if_neg (by omega), hat k (by omega), List.getElem?_map, List.getElem?_append_left (by simp; omega), List.getElem?_take_of_lt e, List.getElem?_eq_getElem (by omega)]
        rfl
      · rw [if_pos (by omega), hnews, List.getElem?_map, List.getElem?_map, List.getElem?_append_right (by simp; omega)]
        congr 2
        simp [show min i L.length = i by omega]
    · rw [List.getElem?_eq_none (by simp; omega), List.getElem?_eq_none (by simp; omega)]
  have hW : Hid (W1 = w.drew.setCells g (0 + i * 1) news) := hW1
  have hic : i ≤ cap := by omega
  have hjc : j ≤ cap := by omega
  have hcm2 : cap ≤ 9223372036854775807 := by unfold maxLen at hcm; omega
  rw [hn] at hi hl ⊢
  have hjn : j ≤ n := by omega
  have hij : (i : Int) ≤ j := by omega
  have hne : ((i : Int) == j) = false := by simp; omega
  have hHJ := hide_it hj
  have hcn : ¬ cap = i + (n - j) := by omega
  clear hW1 g1 c1 z1 t1 hat htake hcs hg h hlen hnews hn hj
  go_enter Try.func29, Try.ntmps29
  go_wp2_with fail
  go_region_law (refine step_append_room rfl (.tmp 22) (.tmp 25) 27 rfl 3 i0 1 Try.underlying27 hi0 hz1 g 0 i cap (by simp [Act.eval, Act.put]) A (n - j) (cap - j) news (by simp [Act.eval, Act.put]) s1.out hsrc.out s2.out (by omega) s3.out ?_; rw [← hW.out])
  go_wp2
  go_ret
  refine ⟨by rw [show n - 1 = i + (n - j) by have := hHJ.out; omega]; rfl, HEND⟩
end Go.Proofs.Ytjmdalpffhfdfaa
