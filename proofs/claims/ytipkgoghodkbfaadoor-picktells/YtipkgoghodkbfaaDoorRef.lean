/- The document's own graph: New, there, Has, Add, Out, In. -/
import Derived.Test.YtipkgoghodkbfaaDoorApR
namespace Go.Proofs.YtipkgoghodkbfaaDoor
open Go.RowKit
open M
set_option linter.unusedVariables false
set_option linter.unusedSimpArgs false

theorem off_two (n : Nat) (a b : Int) : (!([a, b].any (offB n))) = (!(offB n a) && !(offB n b)) := by simp
theorem reachB_iff (n : Nat) (es : List E) (a b : Int) : reachB n es a b = true ↔ offB n a = false ∧ offB n b = false ∧ Rch es a.toNat b.toNat := by
  unfold reachB
  rw [off_two]
  simp [rB_iff, and_assoc]
theorem hasB_iff (n : Nat) (es : List E) (a b : Int) : hasB n es a b = true ↔ offB n a = false ∧ offB n b = false ∧ (a.toNat, b.toNat) ∈ es := by
  unfold hasB
  rw [off_two]
  simp [and_assoc]
/-- The document's graph at block r; its edges are v. -/
structure RM (w : World) (r n : Nat) (v : Value) (es : List E) : Prop where
  blk : w.heap[r]? = some (.cells #[.int .i64 n, v] 62)
  own : w.ownsRow 0 70 2 v es.length (ecells es)
  ne : v.ownBlock ≠ some r
def RFoot (r : Nat) (v : Value) (k : Nat) : Prop := k = r ∨ v.ownBlock = some k
section
variable {w w' : World} {r n : Nat} {v : Value} {es : List E}
theorem RM.c0 (h : RM w r n v es) : w.cell? ⟨r, 0, none⟩ = some (.int .i64 n) := by rw [cell_of_row w r 0 _ _ _ h.blk]; rfl
theorem RM.c1 (h : RM w r n v es) : w.cell? ⟨r, 1, none⟩ = some v := by rw [cell_of_row w r 1 _ _ _ h.blk]; rfl
theorem RM.lt (h : RM w r n v es) (k : Nat) (hk : RFoot r v k) : k < w.heap.size := by
  rcases hk with rfl | hk
  · exact block_lt h.blk
  · exact (h.own.lt k hk).2
theorem RM.keep (h : RM w r n v es) (hk : ∀ k, RFoot r v k → w'.heap[k]? = w.heap[k]?) : RM w' r n v es :=
  ⟨by rw [hk r (.inl rfl)]; exact h.blk, owns_keep h.own (fun k hk' => hk k (.inr hk')), h.ne⟩
theorem RM.below (h : RM w r n v es) (hb : Below w.heap.size w w') : RM w' r n v es := h.keep (fun k hk => hb.block k (h.lt k hk))
theorem RM.turn (h : RM w r n v es) {F : Nat → Prop} (ht : Turn F w w') (hF : ∀ k, RFoot r v k → ¬ F k) : RM w' r n v es := h.keep (fun k hk => ht.block k (h.lt k hk) (hF k hk))
theorem RM.eat (h : RM w r n v es) : ∃ ao cap, v = .slice ao es.length cap ∧ EAt w ao es := own_eat h.own
end

set_option maxRecDepth 1000000 in
set_option maxHeartbeats 2000000 in
theorem rnew_any (n : Int) (w : World) :
    Calls Tryd.prog 10 #[.int .i64 n] w fun e w' => e = .returned (ptr w.heap.size) ∧ RM w' w.heap.size (sz n) (.slice none 0 0) [] ∧ Below w.heap.size w w' := by
  have hM := max_run n
  have hm := min_run n
  generalize max n 0 = X at *
  generalize sz n = m at *
  go_enter Tryd.func10, Tryd.ntmps10
  go_wp2
  go_ret
  exact ⟨rfl, ⟨heap_alloc_new _ _, World.ownsRow_nil _ _ _ _, by simp [Value.ownBlock]⟩, (Below.refl _ _).alloc (Nat.le_refl _) _⟩

set_option maxRecDepth 1000000 in
set_option maxHeartbeats 2000000 in
theorem there_any (r n : Nat) (a : Int) (w : World) (hn : n ≤ 64) (c0 : w.cell? ⟨r, 0, none⟩ = some (.int .i64 n)) :
    Calls Tryd.prog 24 #[ptr r, .int .i64 a] w fun e w' => e = .returned (.bool (!offB n a)) ∧ w' = w := by
  unfold offB
  by_cases h0 : 0 ≤ a
  · have h1 : decide (a < 0) = false := by simp; omega
    by_cases h2 : a < n
    · have h3 : decide ((n : Int) ≤ a) = false := by simp; omega
      rw [h1, h3]
      go_enter Tryd.func24, Tryd.ntmps24
      go_wp2
      go_ret
      exact ⟨rfl, rfl⟩
    · have h3 : decide ((n : Int) ≤ a) = true := by simp; omega
      have h4 : decide (a < (n : Int)) = false := by simp; omega
      rw [h1, h3]
      go_enter Tryd.func24, Tryd.ntmps24
      go_wp2
      go_ret
      exact ⟨rfl, rfl⟩
  · have h1 : decide (a < 0) = true := by simp; omega
    have h2 : decide (0 ≤ a) = false := by simp; omega
    rw [h1]
    go_enter Tryd.func24, Tryd.ntmps24
    go_wp2
    go_ret
    exact ⟨rfl, rfl⟩

def hasR (es : List E) (a b : Int) : Bool := es.any fun e => decide ((e.1 : Int) = a) && decide ((e.2 : Int) = b)
theorem hasR_take (es : List E) (a b : Int) (k : Nat) (h : k < es.length) : hasR (es.take (k + 1)) a b = (hasR (es.take k) a b || (decide ((es[k].1 : Int) = a) && decide ((es[k].2 : Int) = b))) := by
  unfold hasR
  rw [List.take_succ_eq_append_getElem h, List.any_append]
  simp
theorem hasR_at (es : List E) (a b : Int) (k : Nat) (h : k < es.length) (h1 : (es[k].1 : Int) = a) (h2 : (es[k].2 : Int) = b) : hasR es a b = true := by
  unfold hasR
  rw [List.any_eq_true]
  exact ⟨es[k], List.getElem_mem h, by simp [h1, h2]⟩

set_option maxRecDepth 1000000 in
set_option maxHeartbeats 2000000 in
theorem rhas_any {w : World} {r n : Nat} {v : Value} {es : List E} (h : RM w r n v es) (a b : Int) (hle : es.length ≤ 1000000) :
    Calls Tryd.prog 25 #[ptr r, .int .i64 a, .int .i64 b] w fun e w' => e = .returned (.bool (hasR es a b)) ∧ w' = w := by
  obtain ⟨ao, cap, rfl, hE⟩ := h.eat
  have c1 := h.c1
  have HE := hide_it hE
  obtain ⟨m, hm⟩ : ∃ m, es.length = m := ⟨_, rfl⟩
  have HN := hide_it hm
  rw [hm] at c1 hle
  obtain ⟨R, hR⟩ : ∃ R, hasR es a b = R := ⟨_, rfl⟩
  have HR := hide_it hR
  rw [hR]
  clear h hE hm hR
  go_enter Tryd.func25, Tryd.ntmps25
  go_wp2
  go_loop [7] (fun i => ∃ k : Nat, k ≤ m ∧ i = .int .i64 k ∧ Hid (hasR (es.take k) a b = false)) (fun i => m - (intOf i).toNat)
  case atStart => exact ⟨0, Nat.zero_le _, rfl, by simp [Hid, hasR]⟩
  case round =>
    obtain ⟨k, hk, rfl, HK⟩ := hrel
    by_cases hlt : k < m
    · have hlx : k < es.length := by rw [HN.out]; exact hlt
      obtain ⟨rb, rfl, hrw, d1, d2⟩ := HE.out k hlx
      have HT := hide_it (hasR_take es a b k hlx)
      have HA := hide_it (hasR_at es a b k hlx)
      generalize es[k] = ed at *
      obtain ⟨x, y⟩ := ed
      simp only at d1 d2 HT HA
      by_cases h1 : (x : Int) = a
      · by_cases h2 : (y : Int) = b
        · have hA := hide_it (HA.out h1 h2)
          subst h1 h2
          clear HT HA
          go_wp2
          go_ret
          exact ⟨ret_bool (by rw [← HR.out, hA.out]), rfl⟩
        · have h3 : ((y : Int) == b) = false := by simpa using h2
          have HT2 : Hid (hasR (es.take (k + 1)) a b = false) := by unfold Hid; rw [HT.out, HK.out]; simp [h2]
          subst h1
          clear HT HA
          go_wp2
          go_round
          case rel => exact ⟨k + 1, by omega, by go_num, HT2⟩
          case measure => simp [intOf]; omega
      · have h3 : ((x : Int) == a) = false := by simpa using h1
        have HT2 : Hid (hasR (es.take (k + 1)) a b = false) := by unfold Hid; rw [HT.out, HK.out]; simp [h1]
        clear HT HA
        go_wp2
        go_round
        case rel => exact ⟨k + 1, by omega, by go_num, HT2⟩
        case measure => simp [intOf]; omega
    · have e := HK.out
      rw [List.take_of_length_le (by rw [HN.out]; omega), HR.out] at e
      subst e
      go_wp2
      go_ret
      exact ⟨rfl, rfl⟩
end Go.Proofs.YtipkgoghodkbfaaDoor
