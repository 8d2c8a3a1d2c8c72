/- The two rows of an Admit: has, all, add, remove, first. -/
import Derived.Test.YtjmdalpffhfdfaaDel
import Derived.BigQuiet
namespace Go.Proofs.Ytjmdalpffhfdfaa
open Go.RowKit
open M
set_option linter.unusedVariables false
set_option linter.unusedSimpArgs false

section
variable {w : World} {F : Nat → Prop} {t : Nat} {x : Ad}

set_option maxRecDepth 1000000 in
set_option maxHeartbeats 2000000 in
theorem hasA (h : MO w F t x) (hl : x.A.length ≤ 1000000) (y : Int) : Calls Try.prog 27 #[.pointer (some ⟨t, 0, none⟩), .int .i64 y] w fun e w' => e = .returned (.bool (decide (y ∈ x.A))) ∧ w' = w := by
  obtain ⟨va, vq, h1, h2⟩ := h
  have q1 := h1.c1
  obtain ⟨ao, cap, rfl, hr⟩ := h1.formA
  have k := contains_any hr hl y
  clear h1 h2 hr
  generalize x.A.length = n at *
  generalize decide (y ∈ x.A) = c at *
  go_enter Try.func27, Try.ntmps27
  go_wp2_with (go_at_call 31; refine k.mono ?_; rintro e w' ⟨rfl, rfl⟩)
  go_ret
  exact ⟨rfl, rfl⟩
set_option maxRecDepth 1000000 in
set_option maxHeartbeats 2000000 in
theorem allA (h : MO w F t x) (hl : x.A.length ≤ 1000000) : Calls Try.prog 26 #[.pointer (some ⟨t, 0, none⟩)] w fun e w' => ∃ a' c', e = .returned (.slice a' x.A.length c') ∧ Hid (w'.ownsRow w.heap.size 3 1 (.slice a' x.A.length c') x.A.length (ints x.A) ∧ Below w.heap.size w w') := by
  obtain ⟨va, vq, h1, h2⟩ := h
  have q1 := h1.c1
  obtain ⟨ao, cap, rfl, hr⟩ := h1.formA
  have k := clone_any hr hl
  clear h1 h2 hr
  generalize ints x.A = XS at *
  generalize x.A.length = n at *
  go_enter Try.func26, Try.ntmps26
  go_wp2_with (go_at_call 30; refine k.mono ?_; rintro e w' ⟨a', c', rfl, hz⟩; have H := hide_it hz; clear hz)
  go_ret
  exact ⟨a', c', rfl, H⟩
set_option maxRecDepth 1000000 in
set_option maxHeartbeats 2000000 in
theorem addA_no (h : MO w F t x) (hl : x.A.length ≤ 1000000) (hf : ¬ (x.A.length : Int) < x.a) (y : Int) : Calls Try.prog 22 #[.pointer (some ⟨t, 0, none⟩), .int .i64 y] w fun e w' => e = .returned (.bool false) ∧ MO w' (Grow F w w') t x ∧ Turn F w w' := by
  have H : Hid (∀ W, Below w.heap.size w W → MO W (Grow F w W) t x ∧ Turn F w W) := fun W hb => h.put hb
  have s0 := hide_it (Below.refl w.heap.size w)
  obtain ⟨va, vq, h1, h2⟩ := h
  have q0 := h1.c0
  have q1 := h1.c1
  obtain ⟨ao, cap, rfl, hr⟩ := h1.formA
  have d : decide (x.a ≤ (x.A.length : Int)) = true := by simp; omega
  clear h1 h2 hr hf
  generalize x.A.length = n at *
  generalize x.a = B at *
  go_enter Try.func22, Try.ntmps22
  go_wp2
  go_big_quiet (fail)
  go_wp2
  go_ret
  exact ⟨rfl, H.out _ (Below.drewN s0.out _)⟩
set_option maxRecDepth 1000000 in
set_option maxHeartbeats 2000000 in
theorem addA_yes (h : MO w F t x) (hl : x.A.length < 1000000) (hf : (x.A.length : Int) < x.a) (y : Int) : Calls Try.prog 22 #[.pointer (some ⟨t, 0, none⟩), .int .i64 y] w fun e w' => e = .returned (.bool true) ∧ MO w' (Grow F w w') t ⟨x.a, x.q, x.A ++ [y], x.Q⟩ ∧ Turn F w w' := by
  have s0 := hide_it (Below.refl w.heap.size w)
  obtain ⟨va, vq, h1, h2⟩ := h
  have HC : Hid (∀ W, Turn (fun k => va.ownBlock = some k) w W → W.cell? ⟨t, 0, none⟩ = some (.int .i64 x.a) ∧ W.cell? ⟨t, 1, none⟩ = some va ∧ W.frozen? ⟨t, 1, none⟩ = false) := fun W hW => by
    have hb : W.heap[t]? = w.heap[t]? := hW.block t (block_lt h1.blk) h1.ta
    refine ⟨?_, ?_, ?_⟩
    · rw [← h1.c0]; simp only [World.cell?, hb]
    · rw [← h1.c1]; simp only [World.cell?, hb]
    · rw [← h1.fr 1]; simp only [World.frozen?, hb]
  have HP : Hid (∀ W ao' cap' m, m = (x.A ++ [y]).length → Turn (fun k => va.ownBlock = some k) w W → W.ownsRow 0 3 1 (.slice ao' m cap') m (ints (x.A ++ [y])) → Fresh w va (.slice ao' m cap') → MO (W.setCell ⟨t, 1, none⟩ (.slice ao' m cap')) (Grow F w (W.setCell ⟨t, 1, none⟩ (.slice ao' m cap'))) t ⟨x.a, x.q, x.A ++ [y], x.Q⟩ ∧ Turn F w (W.setCell ⟨t, 1, none⟩ (.slice ao' m cap'))) := fun W ao' cap' m hm ht ho hf => by subst hm; exact h1.put1 h2 ht ho hf
  have q0 := h1.c0
  have q1 := h1.c1
  have OW := hide_it h1.ra
  obtain ⟨ao, cap, rfl, hr⟩ := h1.formA
  have HL := hide_it hl
  have hlen := hide_it (rfl : x.A.length = x.A.length)
  have d : decide (x.a ≤ (x.A.length : Int)) = false := by simp; omega
  clear h1 h2 hr hf
  generalize hn : x.A.length = n at *
  have HN := hide_it hn
  clear hn
  generalize x.a = B at *
  go_enter Try.func22, Try.ntmps22
  go_wp2
  go_big_quiet (fail)
  have BA : Hid (∀ nq, Below w.heap.size w ((w.drewN nq).alloc (.cells #[.int .i64 y] 3))) := fun nq => (Below.drewN (Below.refl w.heap.size w) nq).alloc (Nat.le_refl _) _
  have OA : Hid (∀ nq, ((w.drewN nq).alloc (.cells #[.int .i64 y] 3)).ownsRow 0 3 1 (.slice ao n cap) x.A.length (ints x.A)) := fun nq => by rw [HN.out]; exact owns_below OW.out (BA.out nq)
  have HLL : Hid (x.A.length + [y].length ≤ 1000000) := by rw [HN.out]; have := HL.out; show n + 1 ≤ 1000000; omega
  go_wp2_with (at_builtin; refine wpList_cat rfl (.tmp 19) (.tmp 21) rfl (OA.out _) (rd_one rfl y) HLL.out rfl rfl (Nat.zero_le _) ?_; intro ao' cap' m w2 HO; have TW := hide_it ((Turn.of_below (F := fun k => (Value.slice ao n cap).ownBlock = some k) (BA.out _)).grown HO.out.2.2.1 (fun k hk => .inl hk)); have HFr := hide_it HO.out.2.2.2; obtain ⟨c1, c2, c3⟩ := HC.out _ TW.out)
  go_ret
  refine ⟨rfl, HP.out _ _ _ _ HO.out.1 TW.out HO.out.2.1 ?_⟩
  rcases HFr.out with e | ⟨k, e, hk⟩
  · exact .inl e
  · exact .inr ⟨k, e, by simp at hk; omega⟩

set_option maxRecDepth 1000000 in
set_option maxHeartbeats 2000000 in
theorem remA_no (h : MO w F t x) (hl : x.A.length ≤ 1000000) {y : Int} (hy : ¬ y ∈ x.A) : Calls Try.prog 24 #[.pointer (some ⟨t, 0, none⟩), .int .i64 y] w fun e w' => e = .returned (.bool false) ∧ w' = w := by
  obtain ⟨va, vq, h1, h2⟩ := h
  have q1 := h1.c1
  obtain ⟨ao, cap, rfl, hr⟩ := h1.formA
  have k := index_any hr hl y
  rw [ix_not hy] at k
  clear h1 h2 hr hy
  generalize x.A.length = n at *
  go_enter Try.func24, Try.ntmps24
  go_wp2_with (go_at_call 28; refine k.mono ?_; rintro e w' ⟨rfl, rfl⟩)
  go_ret
  exact ⟨rfl, rfl⟩
set_option maxRecDepth 1000000 in
set_option maxHeartbeats 2000000 in
theorem remA_yes (h : MO w F t x) (hl : x.A.length ≤ 1000000) {y : Int} (hy : y ∈ x.A) : Calls Try.prog 24 #[.pointer (some ⟨t, 0, none⟩), .int .i64 y] w fun e w' => e = .returned (.bool true) ∧ MO w' (Grow F w w') t ⟨x.a, x.q, x.A.erase y, x.Q⟩ ∧ Turn F w w' := by
  obtain ⟨va, vq, h1, h2⟩ := h
  have HC : Hid (∀ W, Turn (fun k => va.ownBlock = some k) w W → W.cell? ⟨t, 1, none⟩ = some va ∧ W.frozen? ⟨t, 1, none⟩ = false) := fun W hW => by
    have hb : W.heap[t]? = w.heap[t]? := hW.block t (block_lt h1.blk) h1.ta
    refine ⟨?_, ?_⟩
    · rw [← h1.c1]; simp only [World.cell?, hb]
    · rw [← h1.fr 1]; simp only [World.frozen?, hb]
  have HP : Hid (∀ W ao' cap' m, m = (x.A.erase y).length → Turn (fun k => va.ownBlock = some k) w W → W.ownsRow 0 3 1 (.slice ao' m cap') m (ints (x.A.erase y)) → Fresh w va (.slice ao' m cap') → MO (W.setCell ⟨t, 1, none⟩ (.slice ao' m cap')) (Grow F w (W.setCell ⟨t, 1, none⟩ (.slice ao' m cap'))) t ⟨x.a, x.q, x.A.erase y, x.Q⟩ ∧ Turn F w (W.setCell ⟨t, 1, none⟩ (.slice ao' m cap'))) := fun W ao' cap' m hm ht ho hf => by subst hm; exact h1.put1 h2 ht ho hf
  have q1 := h1.c1
  have OW := h1.ra
  obtain ⟨g, cap, rfl⟩ : ∃ g cap, va = .slice (some ⟨g, 0, none⟩) x.A.length cap := by
    rcases OW.2 with ⟨e, q⟩ | ⟨g, c, cur, e, _⟩
    · have := List.length_pos_of_mem hy; omega
    · exact ⟨g, c, e⟩
  obtain ⟨ao, cap', e, hr⟩ := h1.formA
  cases e
  have k := index_any hr hl y
  obtain ⟨i, e1, hi, e2, _⟩ := ix_mem hy
  rw [e1] at k
  have kd := delete_any OW hl hi rfl
  rw [← e2] at kd
  have he := List.length_erase_of_mem hy
  rw [← he, Int.natCast_succ] at kd
  have kd2 : Calls Try.prog 29 #[.slice (some ⟨g, 0, none⟩) x.A.length cap, .int .i64 i, .int .i64 ((i : Int) + 1)] w fun e w' => ∃ m, e = .returned (.slice (some ⟨g, 0, none⟩) m cap) ∧ Hid (m = (x.A.erase y).length ∧ w'.ownsRow 0 3 1 (.slice (some ⟨g, 0, none⟩) m cap) m (ints (x.A.erase y)) ∧ Turn (fun k => (Value.slice (some ⟨g, 0, none⟩) x.A.length cap).ownBlock = some k) w w') := kd.mono (by
    rintro e w' ⟨rfl, hz⟩
    exact ⟨_, rfl, rfl, hz.out.1, hz.out.2.mono (fun k _ hk => by subst hk; rfl)⟩)
  have hb1 : (i : Int) + 1 ≤ 9223372036854775807 := by omega
  have hb0 : ((i : Int) < 0) = False := by simp
  clear h1 h2 hr OW kd e1 e2 he hi hy
  generalize x.A.length = n at *
  go_enter Try.func24, Try.ntmps24
  go_wp2_with (first | (go_at_call 28; refine k.mono ?_; rintro e w' ⟨rfl, e9⟩; have e8 := e9.symm; clear e9; subst e8) | (go_at_call 29; refine kd2.mono ?_; rintro e w2 ⟨m, rfl, HO⟩; obtain ⟨c1, c2⟩ := HC.out _ HO.out.2.2))
  go_ret
  exact ⟨rfl, HP.out _ _ _ _ HO.out.1 HO.out.2.2 HO.out.2.1 (.inl rfl)⟩

set_option maxRecDepth 1000000 in
set_option maxHeartbeats 2000000 in
theorem hasQ (h : MO w F t x) (hl : x.Q.length ≤ 1000000) (y : Int) : Calls Try.prog 27 #[.pointer (some ⟨t, 2, none⟩), .int .i64 y] w fun e w' => e = .returned (.bool (decide (y ∈ x.Q))) ∧ w' = w := by
  obtain ⟨va, vq, h1, h2⟩ := h
  have q1 := h1.c3
  obtain ⟨ao, cap, rfl, hr⟩ := h1.formQ
  have k := contains_any hr hl y
  clear h1 h2 hr
  generalize x.Q.length = n at *
  generalize decide (y ∈ x.Q) = c at *
  go_enter Try.func27, Try.ntmps27
  go_wp2_with (go_at_call 31; refine k.mono ?_; rintro e w' ⟨rfl, rfl⟩)
  go_ret
  exact ⟨rfl, rfl⟩
set_option maxRecDepth 1000000 in
set_option maxHeartbeats 2000000 in
theorem allQ (h : MO w F t x) (hl : x.Q.length ≤ 1000000) : Calls Try.prog 26 #[.pointer (some ⟨t, 2, none⟩)] w fun e w' => ∃ a' c', e = .returned (.slice a' x.Q.length c') ∧ Hid (w'.ownsRow w.heap.size 3 1 (.slice a' x.Q.length c') x.Q.length (ints x.Q) ∧ Below w.heap.size w w') := by
  obtain ⟨va, vq, h1, h2⟩ := h
  have q1 := h1.c3
  obtain ⟨ao, cap, rfl, hr⟩ := h1.formQ
  have k := clone_any hr hl
  clear h1 h2 hr
  generalize ints x.Q = XS at *
  generalize x.Q.length = n at *
  go_enter Try.func26, Try.ntmps26
  go_wp2_with (go_at_call 30; refine k.mono ?_; rintro e w' ⟨a', c', rfl, hz⟩; have H := hide_it hz; clear hz)
  go_ret
  exact ⟨a', c', rfl, H⟩
set_option maxRecDepth 1000000 in
set_option maxHeartbeats 2000000 in
theorem addQ_no (h : MO w F t x) (hl : x.Q.length ≤ 1000000) (hf : ¬ (x.Q.length : Int) < x.q) (y : Int) : Calls Try.prog 22 #[.pointer (some ⟨t, 2, none⟩), .int .i64 y] w fun e w' => e = .returned (.bool false) ∧ MO w' (Grow F w w') t x ∧ Turn F w w' := by
  have H : Hid (∀ W, Below w.heap.size w W → MO W (Grow F w W) t x ∧ Turn F w W) := fun W hb => h.put hb
  have s0 := hide_it (Below.refl w.heap.size w)
  obtain ⟨va, vq, h1, h2⟩ := h
  have q0 := h1.c2
  have q1 := h1.c3
  obtain ⟨ao, cap, rfl, hr⟩ := h1.formQ
  have d : decide (x.q ≤ (x.Q.length : Int)) = true := by simp; omega
  clear h1 h2 hr hf
  generalize x.Q.length = n at *
  generalize x.q = B at *
  go_enter Try.func22, Try.ntmps22
  go_wp2
  go_big_quiet (fail)
  go_wp2
  go_ret
  exact ⟨rfl, H.out _ (Below.drewN s0.out _)⟩
set_option maxRecDepth 1000000 in
set_option maxHeartbeats 2000000 in
theorem addQ_yes (h : MO w F t x) (hl : x.Q.length < 1000000) (hf : (x.Q.length : Int) < x.q) (y : Int) : Calls Try.prog 22 #[.pointer (some ⟨t, 2, none⟩), .int .i64 y] w fun e w' => e = .returned (.bool true) ∧ MO w' (Grow F w w') t ⟨x.a, x.q, x.A, x.Q ++ [y]⟩ ∧ Turn F w w' := by
  have s0 := hide_it (Below.refl w.heap.size w)
  obtain ⟨va, vq, h1, h2⟩ := h
  have HC : Hid (∀ W, Turn (fun k => vq.ownBlock = some k) w W → W.cell? ⟨t, 2, none⟩ = some (.int .i64 x.q) ∧ W.cell? ⟨t, 3, none⟩ = some vq ∧ W.frozen? ⟨t, 3, none⟩ = false) := fun W hW => by
    have hb : W.heap[t]? = w.heap[t]? := hW.block t (block_lt h1.blk) h1.tq
    refine ⟨?_, ?_, ?_⟩
    · rw [← h1.c2]; simp only [World.cell?, hb]
    · rw [← h1.c3]; simp only [World.cell?, hb]
    · rw [← h1.fr 3]; simp only [World.frozen?, hb]
  have HP : Hid (∀ W ao' cap' m, m = (x.Q ++ [y]).length → Turn (fun k => vq.ownBlock = some k) w W → W.ownsRow 0 3 1 (.slice ao' m cap') m (ints (x.Q ++ [y])) → Fresh w vq (.slice ao' m cap') → MO (W.setCell ⟨t, 3, none⟩ (.slice ao' m cap')) (Grow F w (W.setCell ⟨t, 3, none⟩ (.slice ao' m cap'))) t ⟨x.a, x.q, x.A, x.Q ++ [y]⟩ ∧ Turn F w (W.setCell ⟨t, 3, none⟩ (.slice ao' m cap'))) := fun W ao' cap' m hm ht ho hf => by subst hm; exact h1.put3 h2 ht ho hf
  have q0 := h1.c2
  have q1 := h1.c3
  have OW := hide_it h1.rq
  obtain ⟨ao, cap, rfl, hr⟩ := h1.formQ
  have HL := hide_it hl
  have hlen := hide_it (rfl : x.Q.length = x.Q.length)
  have d : decide (x.q ≤ (x.Q.length : Int)) = false := by simp; omega
  clear h1 h2 hr hf
  generalize hn : x.Q.length = n at *
  have HN := hide_it hn
  clear hn
  generalize x.q = B at *
  go_enter Try.func22, Try.ntmps22
  go_wp2
  go_big_quiet (fail)
  have BA : Hid (∀ nq, Below w.heap.size w ((w.drewN nq).alloc (.cells #[.int .i64 y] 3))) := fun nq => (Below.drewN (Below.refl w.heap.size w) nq).alloc (Nat.le_refl _) _
  have OA : Hid (∀ nq, ((w.drewN nq).alloc (.cells #[.int .i64 y] 3)).ownsRow 0 3 1 (.slice ao n cap) x.Q.length (ints x.Q)) := fun nq => by rw [HN.out]; exact owns_below OW.out (BA.out nq)
  have HLL : Hid (x.Q.length + [y].length ≤ 1000000) := by rw [HN.out]; have := HL.out; show n + 1 ≤ 1000000; omega
  go_wp2_with (at_builtin; refine wpList_cat rfl (.tmp 19) (.tmp 21) rfl (OA.out _) (rd_one rfl y) HLL.out rfl rfl (Nat.zero_le _) ?_; intro ao' cap' m w2 HO; have TW := hide_it ((Turn.of_below (F := fun k => (Value.slice ao n cap).ownBlock = some k) (BA.out _)).grown HO.out.2.2.1 (fun k hk => .inl hk)); have HFr := hide_it HO.out.2.2.2; obtain ⟨c1, c2, c3⟩ := HC.out _ TW.out)
  go_ret
  refine ⟨rfl, HP.out _ _ _ _ HO.out.1 TW.out HO.out.2.1 ?_⟩
  rcases HFr.out with e | ⟨k, e, hk⟩
  · exact .inl e
  · exact .inr ⟨k, e, by simp at hk; omega⟩

set_option maxRecDepth 1000000 in
set_option maxHeartbeats 2000000 in
theorem remQ_no (h : MO w F t x) (hl : x.Q.length ≤ 1000000) {y : Int} (hy : ¬ y ∈ x.Q) : Calls Try.prog 24 #[.pointer (some ⟨t, 2, none⟩), .int .i64 y] w fun e w' => e = .returned (.bool false) ∧ w' = w := by
  obtain ⟨va, vq, h1, h2⟩ := h
  have q1 := h1.c3
  obtain ⟨ao, cap, rfl, hr⟩ := h1.formQ
  have k := index_any hr hl y
  rw [ix_not hy] at k
  clear h1 h2 hr hy
  generalize x.Q.length = n at *
  go_enter Try.func24, Try.ntmps24
  go_wp2_with (go_at_call 28; refine k.mono ?_; rintro e w' ⟨rfl, rfl⟩)
  go_ret
  exact ⟨rfl, rfl⟩
set_option maxRecDepth 1000000 in
set_option maxHeartbeats 2000000 in
theorem remQ_yes (h : MO w F t x) (hl : x.Q.length ≤ 1000000) {y : Int} (hy : y ∈ x.Q) : Calls Try.prog 24 #[.pointer (some ⟨t, 2, none⟩), .int .i64 y] w fun e w' => e = .returned (.bool true) ∧ MO w' (Grow F w w') t ⟨x.a, x.q, x.A, x.Q.erase y⟩ ∧ Turn F w w' := by
  obtain ⟨va, vq, h1, h2⟩ := h
  have HC : Hid (∀ W, Turn (fun k => vq.ownBlock = some k) w W → W.cell? ⟨t, 3, none⟩ = some vq ∧ W.frozen? ⟨t, 3, none⟩ = false) := fun W hW => by
    have hb : W.heap[t]? = w.heap[t]? := hW.block t (block_lt h1.blk) h1.tq
    refine ⟨?_, ?_⟩
    · rw [← h1.c3]; simp only [World.cell?, hb]
    · rw [← h1.fr 3]; simp only [World.frozen?, hb]
  have HP : Hid (∀ W ao' cap' m, m = (x.Q.erase y).length → Turn (fun k => vq.ownBlock = some k) w W → W.ownsRow 0 3 1 (.slice ao' m cap') m (ints (x.Q.erase y)) → Fresh w vq (.slice ao' m cap') → MO (W.setCell ⟨t, 3, none⟩ (.slice ao' m cap')) (Grow F w (W.setCell ⟨t, 3, none⟩ (.slice ao' m cap'))) t ⟨x.a, x.q, x.A, x.Q.erase y⟩ ∧ Turn F w (W.setCell ⟨t, 3, none⟩ (.slice ao' m cap'))) := fun W ao' cap' m hm ht ho hf => by subst hm; exact h1.put3 h2 ht ho hf
  have q1 := h1.c3
  have OW := h1.rq
  obtain ⟨g, cap, rfl⟩ : ∃ g cap, vq = .slice (some ⟨g, 0, none⟩) x.Q.length cap := by
    rcases OW.2 with ⟨e, q⟩ | ⟨g, c, cur, e, _⟩
    · have := List.length_pos_of_mem hy; omega
    · exact ⟨g, c, e⟩
  obtain ⟨ao, cap', e, hr⟩ := h1.formQ
  cases e
  have k := index_any hr hl y
  obtain ⟨i, e1, hi, e2, _⟩ := ix_mem hy
  rw [e1] at k
  have kd := delete_any OW hl hi rfl
  rw [← e2] at kd
  have he := List.length_erase_of_mem hy
  rw [← he, Int.natCast_succ] at kd
  have kd2 : Calls Try.prog 29 #[.slice (some ⟨g, 0, none⟩) x.Q.length cap, .int .i64 i, .int .i64 ((i : Int) + 1)] w fun e w' => ∃ m, e = .returned (.slice (some ⟨g, 0, none⟩) m cap) ∧ Hid (m = (x.Q.erase y).length ∧ w'.ownsRow 0 3 1 (.slice (some ⟨g, 0, none⟩) m cap) m (ints (x.Q.erase y)) ∧ Turn (fun k => (Value.slice (some ⟨g, 0, none⟩) x.Q.length cap).ownBlock = some k) w w') := kd.mono (by
    rintro e w' ⟨rfl, hz⟩
    exact ⟨_, rfl, rfl, hz.out.1, hz.out.2.mono (fun k _ hk => by subst hk; rfl)⟩)
  have hb1 : (i : Int) + 1 ≤ 9223372036854775807 := by omega
  have hb0 : ((i : Int) < 0) = False := by simp
  clear h1 h2 hr OW kd e1 e2 he hi hy
  generalize x.Q.length = n at *
  go_enter Try.func24, Try.ntmps24
  go_wp2_with (first | (go_at_call 28; refine k.mono ?_; rintro e w' ⟨rfl, e9⟩; have e8 := e9.symm; clear e9; subst e8) | (go_at_call 29; refine kd2.mono ?_; rintro e w2 ⟨m, rfl, HO⟩; obtain ⟨c1, c2⟩ := HC.out _ HO.out.2.2))
  go_ret
  exact ⟨rfl, HP.out _ _ _ _ HO.out.1 HO.out.2.2 HO.out.2.1 (.inl rfl)⟩

set_option maxRecDepth 1000000 in
set_option maxHeartbeats 2000000 in
theorem first_no (h : MO w F t x) (hq : x.Q = []) : Calls Try.prog 25 #[.pointer (some ⟨t, 2, none⟩)] w fun e w' => e = .returned (.tuple #[.int .i64 0, .bool false]) ∧ w' = w := by
  obtain ⟨va, vq, h1, h2⟩ := h
  have q1 := h1.c3
  obtain ⟨ao, cap, rfl, hr⟩ := h1.formQ
  rw [hq] at q1
  clear h1 h2 hr
  go_enter Try.func25, Try.ntmps25
  go_wp2
  go_ret2
  exact ⟨rfl, rfl⟩
set_option maxRecDepth 1000000 in
set_option maxHeartbeats 2000000 in
theorem first_yes (h : MO w F t x) (hl : x.Q.length ≤ 1000000) {n : Int} {r : List Int} (hq : x.Q = n :: r) : Calls Try.prog 25 #[.pointer (some ⟨t, 2, none⟩)] w fun e w' => e = .returned (.tuple #[.int .i64 n, .bool true]) ∧ w' = w := by
  obtain ⟨va, vq, h1, h2⟩ := h
  have q1 := h1.c3
  obtain ⟨ao, cap, rfl, hr⟩ := h1.formQ
  have h0 : 0 < x.Q.length := by rw [hq]; simp
  obtain ⟨b, o, y, rfl, e1, c0⟩ := hr.get h0
  rw [hq] at e1
  obtain rfl : n = y := by simpa using e1
  rw [Nat.add_zero] at c0
  have hz : ((x.Q.length : Int) == 0) = false := by rw [beq_eq_false_iff_ne]; omega
  clear h1 h2 hr hq e1
  generalize x.Q.length = m at *
  have hz2 : ¬ m = 0 := by omega
  have hb := hl
  go_enter Try.func25, Try.ntmps25
  go_wp2
  go_ret2
  exact ⟨rfl, rfl⟩
end
end Go.Proofs.Ytjmdalpffhfdfaa
