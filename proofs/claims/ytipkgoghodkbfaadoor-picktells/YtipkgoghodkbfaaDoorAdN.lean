/- Add of package graph: a new edge. -/
import Derived.Test.YtipkgoghodkbfaaDoorAdd
import Derived.Deep.AppendLies
namespace Go.Proofs.YtipkgoghodkbfaaDoor
open Go.RowKit
open M
set_option linter.unusedVariables false
set_option linter.unusedSimpArgs false

theorem or_num (M p : Nat) (hM : M < 18446744073709551616) (b : Nat) (hb : b < 64) (hp : 2 ^ b = p) : bits .or .u64 (M : Int) (p : Int) = ((M ||| 2 ^ b : Nat) : Int) := by
  subst hp
  exact bits_or_u64_nat M _ hM (show 2 ^ b < 2 ^ 64 from Nat.pow_lt_pow_right (by omega) hb)

set_option maxRecDepth 1000000 in
set_option maxHeartbeats 2000000 in
theorem add_new {w : World} {g eb n : Nat} {v : Value} {es : List E} (h : GM w g eb n v es) (a b : Nat) (ha : a < n) (hbn : b < n) (hin : (a, b) ∉ es) (hle : es.length ≤ 1000000) :
    Calls Tryd.prog 11 #[ptr g, .int .i64 a, .int .i64 b] w fun e w' => e = .returned (.tuple #[.bool true, .int .i64 0]) ∧ ∃ v', GM w' g eb n v' (es ++ [(a, b)]) ∧ Turn (Foot g eb v) w w' ∧ Fresh w v v' := by
  have k := are_two h a b true (by simp [offB]; omega)
  have hn := h.hn
  have H := hide_it h
  have kh : ∀ W : World, Calls Tryd.prog 22 #[.int .u64 (mask es a : Nat), .int .i64 b] W fun e w' => e = .returned (.bool false) ∧ w' = W := fun W => by
    have := has_any (mask es a) b W (h.mlt a) (by omega)
    rw [mask_bit, decide_eq_false hin] at this
    exact this
  have HIN := hide_it hin
  have ko : ∀ W : World, Calls Tryd.prog 23 #[.int .i64 b] W fun e w' => e = .returned (.int .u64 ((2 ^ b : Nat) : Int)) ∧ w' = W := fun W => only_any b W (by omega)
  have HO := fun p hp => hide_it (or_num (mask es a) p (h.mlt a) b (by omega) hp)
  obtain ⟨p, hp⟩ : ∃ p, 2 ^ b = p := ⟨_, rfl⟩
  have HO := HO p hp
  rw [hp] at ko
  obtain ⟨i0, hi, hz0, hz1, hz2⟩ := info_parts info68
  obtain ⟨M, hM⟩ : ∃ M, mask es a = M := ⟨_, rfl⟩
  have HM := hide_it hM
  rw [hM] at HO kh
  clear h hin hp hM
  go_enter Tryd.func11, Tryd.ntmps11
  go_wp2_with (first | (go_at_call 21; refine k.mono ?_; rintro e w1 ⟨rfl, hb⟩; have q1 := (H.out.below hb).c1; have q2 := (H.out.below hb).ce a ha; have q0 := (H.out.below hb).c0; rw [HM.out] at q2) | (go_at_call 22; refine (kh _).mono ?_; rintro e w' ⟨rfl, rfl⟩) | (at_builtin; refine wpList_append_tell _ rfl (.tmp 27) (.tmp 31) 57 rfl 0 68 i0 _ 2 16 Tryd.underlying57 hi hz0 hz1 hz2 rfl (by decide) _ es.length (ecells es) rfl ((H.out.below hb).own.alloc _) ⟨_, 0, none⟩ 1 1 [.int .i64 a, .int .i64 b] rfl rfl (World.news_of_block (heap_alloc_new _ _)) (by simp [Value.oneCell']) (by unfold maxLen; omega) (by omega) (by simp) ?_; intro v' w2 hown' hgrow hfr; obtain ⟨gr, cr, hv', _, _⟩ := hown'.form (by omega); subst hv'; have hB0 : ∀ k, k < w.heap.size → v.ownBlock ≠ some k → w2.heap[k]? = w.heap[k]? := (fun k hk hn => by rw [hgrow.block k (by have := hb.size; simp; omega) (fun e => hn e.symm), Below.heap_alloc _ _ _ (by have := hb.size; omega), hb.block k hk]); have gB := (hB0 g (H.out.lt g (.inl rfl)) H.out.ng).trans H.out.blk; have eB := (hB0 eb (H.out.lt eb (.inr (.inl rfl))) H.out.nb).trans H.out.ends; clear hB0; have f0 : w2.frozen? ⟨g, 0, none⟩ = false := (by simp [World.frozen?, gB]); have r0 : w2.cell? ⟨g, 0, none⟩ = some v := (by rw [cell_of_row w2 g 0 _ _ _ gB]; rfl)))
  have GB : (w2.setCell ⟨g, 0, none⟩ (.slice (some ⟨gr, 0, none⟩) (es.length + 1) cr)).heap[g]? = some (.cells #[.slice (some ⟨gr, 0, none⟩) (es.length + 1) cr, .slice (some ⟨eb, 0, none⟩) n n] 59) := by
    have := heap_setCell_at (o := 0) gB (.slice (some ⟨gr, 0, none⟩) (es.length + 1) cr)
    simpa using this
  have EB : (w2.setCell ⟨g, 0, none⟩ (.slice (some ⟨gr, 0, none⟩) (es.length + 1) cr)).heap[eb]? = some (.cells (endsRow es n) 65) := by
    rw [Below.heap_setCell _ _ _ _ (fun e => H.out.ne e.symm)]; exact eB
  have HG := hide_it (gm_add H.out hb ha hbn HIN.out hown' hgrow hfr)
  clear gB eB f0 r0 q0 q1 q2 k kh hi hz0 hz1 hz2
  obtain ⟨w3, hw3⟩ : ∃ w3, w2.setCell ⟨g, 0, none⟩ (.slice (some ⟨gr, 0, none⟩) (es.length + 1) cr) = w3 := ⟨_, rfl⟩
  rw [hw3] at GB EB HG
  rw [hw3]
  clear hw3
  have r1 : w3.cell? ⟨g, 1, none⟩ = some (.slice (some ⟨eb, 0, none⟩) n n) := by rw [cell_of_row w3 g 1 _ _ _ GB]; rfl
  have r2 : w3.cell? ⟨eb, a, none⟩ = some (.int .u64 M) := by rw [cell_of_row w3 eb a _ _ _ EB, endsRow_at es n a ha, HM.out]
  have r3 : w3.frozen? ⟨eb, a, none⟩ = false := by simp [World.frozen?, EB]
  rw [HM.out, ← HO.out] at HG
  clear GB EB hgrow hown' hfr
  go_region_with ((go_at_call 23; refine (ko _).mono ?_; rintro e w' ⟨rfl, rfl⟩))
  all_goals
    go_wp2
    go_ret2
    obtain ⟨h1, h2, h3⟩ := HG.out
    exact ⟨rfl, _, h1.keep (fun _ _ => rfl), h2.drew, h3⟩

/-- The edges behind Add. -/
def addE (n : Nat) (es : List E) (a b : Int) : List E := if (!([a, b].any (offB n))) = true then (if (a.toNat, b.toNat) ∈ es then es else es ++ [(a.toNat, b.toNat)]) else es
/-- What Add answers. -/
def newB (n : Nat) (es : List E) (a b : Int) : Bool := (!([a, b].any (offB n))) && decide ((a.toNat, b.toNat) ∉ es)
def errN (n : Nat) (a b : Int) : Int := if (!([a, b].any (offB n))) = true then 0 else 1

theorem fresh_refl (w : World) (v : Value) : Fresh w v v := .inl rfl

theorem add_any {w : World} {g eb n : Nat} {v : Value} {es : List E} (h : GM w g eb n v es) (a b : Int) (hle : es.length ≤ 1000000) :
    Calls Tryd.prog 11 #[ptr g, .int .i64 a, .int .i64 b] w fun e w' => e = .returned (.tuple #[.bool (newB n es a b), .int .i64 (errN n a b)]) ∧ ∃ v', GM w' g eb n v' (addE n es a b) ∧ Turn (Foot g eb v) w w' ∧ Fresh w v v' := by
  unfold newB errN addE
  cases hR : (!([a, b].any (offB n))) with
  | false =>
    refine (add_bad h a b hR).mono ?_
    rintro e w' ⟨rfl, hb⟩
    exact ⟨rfl, v, h.below hb, Turn.of_below hb, fresh_refl _ _⟩
  | true =>
    have hr : 0 ≤ a ∧ a < n ∧ 0 ≤ b ∧ b < n := by simp [offB] at hR; omega
    obtain ⟨x, rfl⟩ : ∃ x : Nat, a = x := ⟨a.toNat, by omega⟩
    obtain ⟨y, rfl⟩ : ∃ y : Nat, b = y := ⟨b.toNat, by omega⟩
    simp only [Int.toNat_natCast, if_true]
    by_cases hin : (x, y) ∈ es
    · refine (add_old h x y (by omega) (by omega) hin).mono ?_
      rintro e w' ⟨rfl, hb⟩
      rw [if_pos hin]
      exact ⟨by simp [hin], v, h.below hb, Turn.of_below hb, fresh_refl _ _⟩
    · refine (add_new h x y (by omega) (by omega) hin hle).mono ?_
      rintro e w' ⟨rfl, v', h1, h2, h3⟩
      rw [if_neg hin]
      exact ⟨by simp [hin], v', h1, h2, h3⟩
end Go.Proofs.YtipkgoghodkbfaaDoor
