/- Push, Lower, Remove and Pop of a heap. -/
import Derived.Test.YtlpbjafdmhcmgaaObj
namespace Go.Proofs.Ytlpbjafdmhcmgaa
open Go.RowKit
open M
set_option linter.unusedVariables false
set_option linter.unusedSimpArgs false

def upS (S : Nat → Option Int) (x : Nat) (o : Option Int) (k : Nat) : Option Int := if k = x then o else S k
theorem upS_is (S : Nat → Option Int) (x : Nat) (o : Option Int) : upS S x o x = o := by simp [upS]
theorem upS_ne (S : Nat → Option Int) {x k : Nat} (o : Option Int) (h : k ≠ x) : upS S x o k = S k := by simp [upS, h]

theorem foot_grow {F : Nat → Prop} {w w' : World} {g kb pb : Nat} {v v' : Value} (hF : ∀ k, Foot g kb pb v k → F k) (fr : Fresh w v v') (hl : ∀ k, Foot g kb pb v' k → k < w'.heap.size) : ∀ k, Foot g kb pb v' k → Grow F w w' k := by
  intro k hk
  have := hl k hk
  rcases hk with q | q | q | q
  · exact .inl (hF k (.inl q))
  · exact .inl (hF k (.inr (.inl q)))
  · exact .inl (hF k (.inr (.inr (.inl q))))
  · rcases fr with e | ⟨k', e, hs⟩
    · exact .inl (hF k (.inr (.inr (.inr (by rw [← e]; exact q)))))
    · rw [e] at q; cases q; exact .inr ⟨hs, this⟩

theorem HX.in {w : World} {g kb pb n m : Nat} {v : Value} {f P : Nat → Nat} {K : Nat → Int} {S : Nat → Option Int} (h : HX w g kb pb n v m f K P S) {x : Nat} (hx : x < n) {y : Int} (hs : S x = some y) : In f m x ∧ K x = y := by
  by_cases q : In f m x
  · have := h.has x hx q
    rw [hs] at this
    cases this
    exact ⟨q, rfl⟩
  · rw [h.not x hx q] at hs; cases hs
theorem HX.out {w : World} {g kb pb n m : Nat} {v : Value} {f P : Nat → Nat} {K : Nat → Int} {S : Nat → Option Int} (h : HX w g kb pb n v m f K P S) {x : Nat} (hx : x < n) (hs : S x = none) : ¬ In f m x := by
  intro q
  rw [h.has x hx q] at hs
  cases hs

set_option maxRecDepth 1000000 in
set_option maxHeartbeats 2000000 in
theorem push_bad {w : World} {F : Nat → Prop} {g n : Nat} {S : Nat → Option Int} (h : HO w F g n S) (id key : Int) (hid : isId n id = false) :
    Calls Try.prog 25 #[ptr g, .int .i64 id, .int .i64 key] w fun e w' => e = .returned (.int .i64 1) ∧ w' = w := by
  obtain ⟨kb, pb, v, m, f, K, P, h1, h2⟩ := h
  have k := isid_any h1.mem id
  rw [hid] at k
  clear h1 h2 hid
  go_enter Try.func25, Try.ntmps25
  go_wp2_with (go_at_call 33; refine k.mono ?_; rintro e w' ⟨rfl, rfl⟩)
  go_ret
  exact ⟨rfl, rfl⟩
set_option maxRecDepth 1000000 in
set_option maxHeartbeats 2000000 in
theorem push_old {w : World} {F : Nat → Prop} {g n : Nat} {S : Nat → Option Int} (h : HO w F g n S) (x : Nat) (key : Int) (hx : x < n) (hs : (S x).isSome = true) :
    Calls Try.prog 25 #[ptr g, .int .i64 x, .int .i64 key] w fun e w' => e = .returned (.int .i64 8) ∧ w' = w := by
  have k2 := has_any h x
  obtain ⟨kb, pb, v, m, f, K, P, h1, h2⟩ := h
  have k := isid_any h1.mem x
  rw [isId_nat n x hx] at k
  have e : hasB n S x = true := by simp [hasB, isId_nat n x hx, hs]
  rw [e] at k2
  clear h1 h2 e hs
  go_enter Try.func25, Try.ntmps25
  go_wp2_with (first | (go_at_call 33; refine k.mono ?_; rintro e w' ⟨rfl, rfl⟩) | (go_at_call 34; refine k2.mono ?_; rintro e w' ⟨rfl, rfl⟩))
  go_ret
  exact ⟨rfl, rfl⟩

set_option maxRecDepth 1000000 in
set_option maxHeartbeats 2000000 in
theorem push_new {w : World} {F : Nat → Prop} {g n : Nat} {S : Nat → Option Int} (h : HO w F g n S) (x : Nat) (key : Int) (hx : x < n) (hs : S x = none) :
    Calls Try.prog 25 #[ptr g, .int .i64 x, .int .i64 key] w fun e w' => e = .returned (.int .i64 0) ∧ HO w' (Grow F w w') g n (upS S x (some key)) ∧ Turn F w w' := by
  have k2 := has_any h x
  obtain ⟨kb, pb, v, m, f, K, P, h1, h2⟩ := h
  have k := isid_any h1.mem x
  rw [isId_nat n x hx] at k
  have e : hasB n S x = false := by simp [hasB, hs]
  rw [e] at k2
  have hni := h1.out hx hs
  have hcs : M.cnt (fun y => (upS S x (some key) y).isSome) n = m + 1 := by
    rw [h1.cnt]
    exact cnt_set hx (fun y hy hne => by rw [upS_ne S _ hne]) (by rw [hs]; rfl) (by rw [upS_is]; rfl)
  have hm1 : m + 1 ≤ n := by rw [← hcs]; exact cnt_le _ _
  have HI1 : HI (w.setCell ⟨kb, x, none⟩ (.int .i64 key)) g kb pb n v m f (upK K x key) := ⟨P, h1.mem.setK x key, h1.inv⟩
  have ho : Ord (upK K x key) f m := h1.ord.congr (fun _ _ => rfl) (fun j hj => by
    unfold upK
    rw [if_neg (fun q => hni ⟨j, hj, q⟩)])
  have k3 := cpush_any HI1 ho hm1 hx hni
  have q1 := h1.mem.c1
  have ck := h1.mem.ck x hx
  have fk := h1.mem.fk x
  have hn := h1.mem.hn
  have T1 := hide_it ((Turn.refl (Foot g kb pb v) w).setCell (p := ⟨kb, x, none⟩) (.inl (.inr (.inl rfl))) (.int .i64 key))
  have H := hide_it h1
  have HF := hide_it h2
  have HC := hide_it hcs
  clear h1 h2 e HI1 ho hcs
  generalize K x = y at ck
  go_enter Try.func25, Try.ntmps25
  go_wp2_with (first | (go_at_call 33; refine k.mono ?_; rintro e w' ⟨rfl, rfl⟩) | (go_at_call 34; refine k2.mono ?_; rintro e w' ⟨rfl, rfl⟩) | (go_at_call 35; refine k3.mono ?_; rintro e w3 ⟨rfl, v', f', h3, o3, i3, t3, fr⟩; have H3 := hide_it h3; clear h3))
  go_ret
  have hfr : Fresh w' v v' := by
    rcases fr with q | ⟨k, q1, q2⟩
    · exact .inl q
    · exact .inr ⟨k, q1, by simpa [World.setCell] using q2⟩
  obtain ⟨P', m3, v3⟩ := H3.out
  refine ⟨rfl, ⟨kb, pb, v', m + 1, f', _, P', ⟨m3, v3, o3, fun z hz hi => ?_, fun z hz hi => ?_, HC.out.symm⟩, foot_grow HF.out hfr m3.lt⟩, (T1.out.trans t3).mono (fun k _ hk => HF.out k hk)⟩
  · by_cases q : z = x
    · subst q; rw [upS_is]; simp [upK]
    · rw [upS_ne S _ q]
      rcases (i3 z).1 hi with q2 | q2
      · rw [H.out.has z hz q2]; simp [upK, q]
      · exact absurd q2 q
  · by_cases q : z = x
    · exact absurd ((i3 z).2 (.inr q)) hi
    · rw [upS_ne S _ q]
      exact H.out.not z hz (fun q2 => hi ((i3 z).2 (.inl q2)))

set_option maxRecDepth 1000000 in
set_option maxHeartbeats 2000000 in
theorem must_any {w : World} {F : Nat → Prop} {g n : Nat} {S : Nat → Option Int} (h : HO w F g n S) (id : Int) :
    Calls Try.prog 30 #[ptr g, .int .i64 id] w fun e w' => e = .returned (.int .i64 (if isId n id = true then (if hasB n S id = true then 0 else 6) else 1)) ∧ w' = w := by
  have k2 := has_any h id
  obtain ⟨kb, pb, v, m, f, K, P, h1, h2⟩ := h
  have k := isid_any h1.mem id
  clear h1 h2
  cases hid : isId n id with
  | false =>
    rw [hid] at k
    go_enter Try.func30, Try.ntmps30
    go_wp2_with (go_at_call 33; refine k.mono ?_; rintro e w' ⟨rfl, rfl⟩)
    go_ret
    exact ⟨rfl, rfl⟩
  | true =>
    rw [hid] at k
    clear hid
    cases hh : hasB n S id with
    | false =>
      rw [hh] at k2
      go_enter Try.func30, Try.ntmps30
      go_wp2_with (first | (go_at_call 33; refine k.mono ?_; rintro e w' ⟨rfl, rfl⟩) | (go_at_call 34; refine k2.mono ?_; rintro e w' ⟨rfl, rfl⟩))
      go_ret
      exact ⟨rfl, rfl⟩
    | true =>
      rw [hh] at k2
      go_enter Try.func30, Try.ntmps30
      go_wp2_with (first | (go_at_call 33; refine k.mono ?_; rintro e w' ⟨rfl, rfl⟩) | (go_at_call 34; refine k2.mono ?_; rintro e w' ⟨rfl, rfl⟩))
      go_ret
      exact ⟨rfl, rfl⟩

set_option maxRecDepth 1000000 in
set_option maxHeartbeats 2000000 in
theorem place_any {w : World} {g kb pb n m : Nat} {v : Value} {f P : Nat → Nat} {K : Nat → Int} (h : HM w g kb pb n v m f K P) {x i : Nat} (hx : x < n) (hp : P x = i + 1) (hi : i < m) :
    Calls Try.prog 32 #[ptr g, .int .i64 x] w fun e w' => e = .returned (.int .i64 i) ∧ w' = w := by
  have q2 := h.c2
  have cp := h.cp x hx
  have hn := h.hn
  have hm := h.hm
  rw [hp] at cp
  clear h hp
  go_enter Try.func32, Try.ntmps32
  go_wp2
  go_ret
  exact ⟨by first | rfl | exact ret_int (by omega), rfl⟩

set_option maxRecDepth 1000000 in
set_option maxHeartbeats 2000000 in
theorem remove_bad {w : World} {F : Nat → Prop} {g n : Nat} {S : Nat → Option Int} (h : HO w F g n S) (id c : Int) (hc : (if isId n id = true then (if hasB n S id = true then 0 else 6) else 1) = c) (hne : c ≠ 0) :
    Calls Try.prog 24 #[ptr g, .int .i64 id] w fun e w' => e = .returned (.tuple #[.int .i64 0, .int .i64 c]) ∧ w' = w := by
  have k := must_any h id
  rw [hc] at k
  have hne2 : (c != 0) = true := by simp [hne]
  clear h hc
  go_enter Try.func24, Try.ntmps24
  go_wp2_with (go_at_call 30; refine k.mono ?_; rintro e w' ⟨rfl, rfl⟩)
  go_ret2
  exact ⟨rfl, rfl⟩

/-- Behind Pop and Remove. -/
theorem ho_cut {w w' : World} {F : Nat → Prop} {g kb pb n m : Nat} {v v' : Value} {f f' P : Nat → Nat} {K : Nat → Int} {S : Nat → Option Int} {x : Nat} (h : HX w g kb pb n v (m + 1) f K P S) (hF : ∀ k, Foot g kb pb v k → F k) (hx : x < n) (hin : In f (m + 1) x)
    (h3 : HI w' g kb pb n v' m f' (upK K x 0)) (o3 : Ord (upK K x 0) f' m) (i3 : ∀ y, In f' m y ↔ In f (m + 1) y ∧ y ≠ x) (fr : Fresh w v v') : HO w' (Grow F w w') g n (upS S x none) := by
  obtain ⟨P', m3, v3⟩ := h3
  have hcs : M.cnt (fun y => (upS S x none y).isSome) n = m := by
    have := cnt_set (p := fun y => (upS S x none y).isSome) (q := fun y => (S y).isSome) hx (fun y hy hne => by rw [upS_ne S _ hne]) (by rw [upS_is]; rfl) (by rw [h.has x hx hin]; rfl)
    have hc := h.cnt
    omega
  refine ⟨kb, pb, v', m, f', _, P', ⟨m3, v3, o3, fun z hz hi => ?_, fun z hz hi => ?_, hcs.symm⟩, foot_grow hF fr m3.lt⟩
  · obtain ⟨q1, q2⟩ := (i3 z).1 hi
    rw [upS_ne S _ q2, h.has z hz q1]; simp [upK, q2]
  · by_cases q : z = x
    · subst q; exact upS_is _ _ _
    · rw [upS_ne S _ q]
      exact h.not z hz (fun q2 => hi ((i3 z).2 ⟨q2, q⟩))

set_option maxRecDepth 1000000 in
set_option maxHeartbeats 2000000 in
theorem remove_new {w : World} {F : Nat → Prop} {g n : Nat} {S : Nat → Option Int} (h : HO w F g n S) (x : Nat) (y : Int) (hx : x < n) (hs : S x = some y) :
    Calls Try.prog 24 #[ptr g, .int .i64 x] w fun e w' => e = .returned (.tuple #[.int .i64 y, .int .i64 0]) ∧ HO w' (Grow F w w') g n (upS S x none) ∧ Turn F w w' := by
  have k := must_any h x
  rw [isId_nat n x hx, show hasB n S x = true by simp [hasB, isId_nat n x hx, hs]] at k
  simp only [if_true] at k
  obtain ⟨kb, pb, v, m0, f, K, P, h1, h2⟩ := h
  have q1 := h1.mem.c1
  have ck := h1.mem.ck x hx
  obtain ⟨hin, hKx⟩ := h1.in hx hs
  obtain ⟨i, hi, hfi⟩ := hin
  obtain ⟨m, rfl⟩ : ∃ m, m0 = m + 1 := ⟨m0 - 1, by omega⟩
  rw [hKx] at ck
  have hn := h1.mem.hn
  have hp : P x = i + 1 := by rw [← hfi]; exact (h1.inv.at1 i hi).2
  have k3 := cremove_any (w := w.drew) ⟨P, h1.mem.drew, h1.inv⟩ h1.ord hi hfi
  have k4 := place_any h1.mem.drew hx hp hi
  have H := hide_it h1
  have HF := hide_it h2
  have HFI := hide_it hfi
  clear h1 h2 hs hp hfi hKx
  go_enter Try.func24, Try.ntmps24
  go_wp2_with (go_at_call 30; refine k.mono ?_; rintro e w' ⟨rfl, rfl⟩)
  go_region_with (first | (go_at_call 32; refine k4.mono ?_; rintro e w' ⟨rfl, rfl⟩) | (go_at_call 31; refine k3.mono ?_; rintro e w3 ⟨rfl, v', f', h3, o3, i3, t3, fr⟩; have H3 := hide_it h3; clear h3))
  all_goals
    go_wp2
    go_ret2
    exact ⟨rfl, ho_cut H.out HF.out hx ⟨i, hi, HFI.out⟩ H3.out o3 i3 fr, ⟨t3.os, t3.tape, t3.output, t3.size, fun k hk hn => t3.block k hk (fun q => hn (HF.out k q))⟩⟩

set_option maxRecDepth 1000000 in
set_option maxHeartbeats 2000000 in
theorem pop_none {w : World} {F : Nat → Prop} {g n : Nat} {S : Nat → Option Int} (h : HO w F g n S) (he : Emp n S) :
    Calls Try.prog 26 #[ptr g] w fun e w' => e = .returned (.tuple #[.int .i64 0, .int .i64 0, .bool false]) ∧ w' = w := by
  have k := first_none h he
  clear h he
  go_enter Try.func26, Try.ntmps26
  go_wp2_with (go_at_call 27; refine k.mono ?_; rintro e w' ⟨rfl, rfl⟩)
  go_ret3
  exact ⟨rfl, rfl⟩
set_option maxRecDepth 1000000 in
set_option maxHeartbeats 2000000 in
theorem pop_some {w : World} {F : Nat → Prop} {g n : Nat} {S : Nat → Option Int} (h : HO w F g n S) {x : Nat} {y : Int} (hf : Fst n S x y) :
    Calls Try.prog 26 #[ptr g] w fun e w' => e = .returned (.tuple #[.int .i64 x, .int .i64 y, .bool true]) ∧ HO w' (Grow F w w') g n (upS S x none) ∧ Turn F w w' := by
  have k := first_some h hf
  have ta := assert_int
  obtain ⟨kb, pb, v, m0, f, K, P, h1, h2⟩ := h
  have h0 : 0 < m0 := by
    rcases Nat.eq_zero_or_pos m0 with q | q
    · have := h1.emp.1 q x hf.lt; rw [hf.is] at this; cases this
    · exact q
  obtain ⟨m, rfl⟩ : ∃ m, m0 = m + 1 := ⟨m0 - 1, by omega⟩
  obtain ⟨e1, e2⟩ := (h1.first h0).uniq hf
  have hx := hf.lt
  have k3 : ∀ W, Below w.heap.size w W → Calls Try.prog 36 #[ifc g] W fun e w' => e = .returned (.iface 3 (.int .i64 x)) ∧ ∃ v' f', HI w' g kb pb n v' m f' (upK K x 0) ∧ Ord (upK K x 0) f' m ∧ (∀ y, In f' m y ↔ In f (m + 1) y ∧ y ≠ x) ∧ Turn (Foot g kb pb v) W w' ∧ Fresh W v v' := fun W hb => cpop_any (w := W) ⟨P, h1.mem.below hb, h1.inv⟩ h1.ord e1
  have H := hide_it h1
  have HF := hide_it h2
  have HFI := hide_it e1
  clear h1 h2 e1 e2 hf
  go_enter Try.func26, Try.ntmps26
  go_wp2_with (first | (go_at_call 27; refine k.mono ?_; rintro e w1 ⟨rfl, hb⟩) | (go_at_call 36; refine (k3 _ hb).mono ?_; rintro e w3 ⟨rfl, v', f', h3, o3, i3, t3, fr⟩; have H3 := hide_it h3; clear h3))
  go_ret3
  have T := ((Turn.of_below (F := Foot g kb pb v) hb).trans t3)
  have hfr : Fresh w v v' := by
    rcases fr with q | ⟨k, q1, q2⟩
    · exact .inl q
    · exact .inr ⟨k, q1, by have := hb.size; omega⟩
  exact ⟨rfl, ho_cut H.out HF.out hx ⟨0, h0, HFI.out⟩ H3.out o3 i3 hfr, T.mono (fun k _ hk => HF.out k hk)⟩
end Go.Proofs.Ytlpbjafdmhcmgaa
