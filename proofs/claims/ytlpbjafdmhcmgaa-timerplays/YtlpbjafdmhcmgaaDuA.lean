/- Due of a timer. -/
import Derived.Test.YtlpbjafdmhcmgaaTob
import Derived.Deep.LoopGhost
namespace Go.Proofs.Ytlpbjafdmhcmgaa
open Go.RowKit
open M
set_option linter.unusedVariables false
set_option linter.unusedSimpArgs false

/-- A row of ids. -/
def rowL (L : List Nat) : List Value := L.map fun (x : Nat) => Value.int .i64 (x : Int)
theorem rowL_len (L : List Nat) : (rowL L).length = L.length := by simp [rowL]
theorem rowL_at (L : List Nat) {i : Nat} (h : i < L.length) : (rowL L)[i]? = some (.int .i64 (L[i] : Nat)) := by simp [rowL, h]
theorem rowL_push (L : List Nat) (x : Nat) : rowL L ++ [.int .i64 (x : Nat)] = rowL (L ++ [x]) := by simp [rowL]

/-- On the way, in memory: the timer has S, the row v the ids of L. -/
def DX (F : Nat → Prop) (w W : World) (t g n : Nat) (S : Nat → Option Int) (v : Value) (L : List Nat) : Prop :=
  ∃ G, TO W G t g n S ∧ (∀ k, G k → k < W.heap.size ∧ Grow F w W k) ∧ Turn F w W ∧ W.ownsRow w.heap.size 3 1 v L.length (rowL L) ∧ ∀ k, v.ownBlock = some k → ¬ G k
section
variable {w W W' : World} {F : Nat → Prop} {t g n : Nat} {S S' : Nat → Option Int} {v : Value} {L : List Nat}
theorem DX.start (h : TO w F t g n S) : DX F w w t g n S (.slice none 0 0) [] :=
  ⟨fun k => F k ∧ k < w.heap.size, h.mono (fun k hk q => ⟨q, hk⟩), fun k hk => ⟨hk.2, .inl hk.1⟩, Turn.refl _ _, World.ownsRow_nil _ _ _ _, fun k hk => by simp [Value.ownBlock] at hk⟩
theorem DX.c0 (h : DX F w W t g n S v L) : W.cell? ⟨t, 0, none⟩ = some (ptr g) := by obtain ⟨G, h, _⟩ := h; exact h.c0
theorem DX.cases (h : DX F w W t g n S v L) : Emp n S ∨ ∃ x y, Fst n S x y := by obtain ⟨G, h, _⟩ := h; exact h.cases
theorem DX.hn (h : DX F w W t g n S v L) : n ≤ 65536 := by obtain ⟨G, h, _⟩ := h; exact h.hn
theorem DX.size (h : DX F w W t g n S v L) : w.heap.size ≤ W.heap.size := by obtain ⟨G, _, _, h, _⟩ := h; exact h.size
theorem DX.congr (h : DX F w W t g n S v L) (hs : ∀ x, x < n → S' x = S x) : DX F w W t g n S' v L := by
  obtain ⟨G, h1, h2⟩ := h
  exact ⟨G, h1.congr hs, h2⟩
theorem DX.own (h : DX F w W t g n S v L) : W.ownsRow w.heap.size 3 1 v L.length (rowL L) := by obtain ⟨G, _, _, _, h, _⟩ := h; exact h
theorem grow_size {F : Nat → Prop} {w W W' : World} (h : W.heap.size ≤ W'.heap.size) {k : Nat} (hk : Grow F w W k) : Grow F w W' k := by
  rcases hk with q | q
  · exact .inl q
  · exact .inr ⟨q.1, by omega⟩
theorem DX.below (h : DX F w W t g n S v L) (hb : Below W.heap.size W W') : DX F w W' t g n S v L := by
  obtain ⟨G, h1, h2, h3, h4, h5⟩ := h
  exact ⟨G, h1.below hb, fun k hk => ⟨Nat.lt_of_lt_of_le (h2 k hk).1 hb.size, grow_size hb.size (h2 k hk).2⟩, h3.trans (Turn.of_below hb), owns_below h4 hb, h5⟩
theorem DX.next1 (h : DX F w W t g n S v L) {x : Nat} {y : Int} (hf : Fst n S x y) : Calls Try.prog 19 #[ptr t] W fun e w' => e = .returned (.tuple #[.int .i64 y, .bool true]) ∧ Hid (DX F w w' t g n S v L) := by
  have h' := h
  obtain ⟨G, h, _⟩ := h
  refine (next_some h hf).mono ?_
  rintro e w' ⟨rfl, hb⟩
  exact ⟨rfl, h'.below hb⟩
theorem DX.next0 (h : DX F w W t g n S v L) (hf : Emp n S) : Calls Try.prog 19 #[ptr t] W fun e w' => e = .returned (.tuple #[.int .i64 0, .bool false]) ∧ Hid (DX F w w' t g n S v L) := by
  have h' := h
  obtain ⟨G, h, _⟩ := h
  refine (next_none h hf).mono ?_
  rintro e w' ⟨rfl, rfl⟩
  exact ⟨rfl, h'⟩
theorem DX.pop (h : DX F w W t g n S v L) {x : Nat} {y : Int} (hf : Fst n S x y) : Calls Try.prog 26 #[ptr g] W fun e w' => e = .returned (.tuple #[.int .i64 x, .int .i64 y, .bool true]) ∧ Hid (DX F w w' t g n (upS S x none) v L) := by
  obtain ⟨G, h1, h2, h3, h4, h5⟩ := h
  refine ((St.refl h1).op (S' := upS S x none) (fun G q => pop_some q hf)).mono ?_
  rintro e w' ⟨rfl, s⟩
  have s1 := s.out.to
  have s2 := s.out.tu
  have hs := s2.size
  refine ⟨rfl, Grow G W w', s1, fun k hk => ?_, ?_, owns_keep h4 (fun k hk => s2.block k (h4.lt k hk).2 (h5 k hk)), fun k hk q => ?_⟩
  · rcases hk with q | q
    · exact ⟨Nat.lt_of_lt_of_le (h2 k q).1 hs, grow_size hs (h2 k q).2⟩
    · exact ⟨q.2, .inr ⟨by have := h3.size; omega, q.2⟩⟩
  · have hs3 := h3.size
    exact ⟨s2.os.trans h3.os, s2.tape.trans h3.tape, s2.output.trans h3.output, by omega, fun k hk hf => by
      rw [s2.block k (by omega) (fun q => by rcases (h2 k q).2 with z | z; exact hf z; omega)]
      exact h3.block k hk hf⟩
  · rcases q with q | q
    · exact h5 k hk q
    · have := (h4.lt k hk).2; omega
/-- One more id behind the row. -/
theorem DX.push (h : DX F w W t g n S v L) {o : Obj} {x : Nat} {v' : Value} {w2 : World} (ho : w2.ownsRow w.heap.size 3 1 v' (L.length + 1) (rowL L ++ [.int .i64 (x : Nat)])) (hg : (W.alloc o).grownBy w2 v.ownBlock) (fr : Fresh (W.alloc o) v v') : DX F w w2 t g n S v' (L ++ [x]) := by
  obtain ⟨G, h1, h2, h3, h4, h5⟩ := h
  have hs := hg.size
  have hz : (W.alloc o).heap.size = W.heap.size + 1 := by simp
  have hs3 := h3.size
  have keep : ∀ k, k < W.heap.size → (∀ j, v.ownBlock = some j → j ≠ k) → w2.heap[k]? = W.heap[k]? := fun k hk hne => by
    rw [hg.block k (by omega) (fun e => hne k e.symm rfl), Below.heap_alloc _ _ _ hk]
  have t0 : Turn (fun k => v.ownBlock = some k) W w2 := ⟨hg.os, hg.tape, hg.output, by omega, fun k hk hn => keep k hk (fun j hj e => hn (by rw [← e]; exact hj))⟩
  refine ⟨G, h1.turn t0 (fun k hk q => h5 k q hk), fun k hk => ⟨by have := (h2 k hk).1; omega, grow_size (by omega) (h2 k hk).2⟩, ?_, ?_, fun k hk q => ?_⟩
  · exact ⟨hg.os.trans h3.os, hg.tape.trans h3.tape, hg.output.trans h3.output, by omega, fun k hk hf => by
      rw [keep k (by omega) (fun j hj e => by have := (h4.lt j hj).1; omega)]
      exact h3.block k hk hf⟩
  · rw [← rowL_push, List.length_append, List.length_singleton]; exact ho
  · rcases fr with e | ⟨k', e, hk'⟩
    · rw [e] at hk; exact h5 k hk q
    · rw [e] at hk
      cases hk
      have := (h2 k q).1
      omega
end
set_option maxRecDepth 1000000 in
set_option maxHeartbeats 4000000 in
theorem due_any {w : World} {F : Nat → Prop} {t g n : Nat} {S : Nat → Option Int} (h : TO w F t g n S) (now : Int) :
    Calls Try.prog 16 #[ptr t, .int .i64 now] w fun e w' => ∃ v L, e = .returned v ∧ Due n S now L ∧ DX F w w' t g n (dueS S now) v L := by
  obtain ⟨i0, hi, hz0, hz1, hz2⟩ := info_parts info3
  have hn := h.hn
  have s0 := hide_it (DX.start h)
  have HI := hide_it (DI.start n S now)
  have hcS : cntS n S ≤ n := cntS_le n S
  clear h
  go_enter Try.func16, Try.ntmps16
  go_wp2
  go_loopg [5] (cntS n S) (fun k iv W => ∃ (S' : Nat → Option Int) (L : List Nat), Hid (DX F w W t g n S' iv L) ∧ Hid (DI n S now S' L) ∧ Hid (k = cntS n S'))
  case atStart => exact ⟨_, _, s0, HI, rfl⟩
  case round =>
    clear s0 HI
    obtain ⟨S', L, s, HI, HK⟩ := hrel
    have c0 := s.out.c0
    rcases s.out.cases with he | ⟨x, y, hf⟩
    · have k1 := s.out.next0 he
      have HE := hide_it (HI.out.emp he)
      clear he
      go_wp2_with (go_at_call 19; refine k1.mono ?_; rintro e w1 ⟨rfl, s1⟩)
      go_ret
      exact ⟨_, L, rfl, HE.out.1, s1.out.congr HE.out.2⟩
    · have k1 := s.out.next1 hf
      by_cases hy : y ≤ now
      · have k2 : ∀ W, DX F w W t g n S' u5 L → Calls Try.prog 26 #[ptr g] W fun e w' => e = .returned (.tuple #[.int .i64 x, .int .i64 y, .bool true]) ∧ Hid (DX F w w' t g n (upS S' x none) u5 L) := fun W q => q.pop hf
        have HI2 := hide_it (HI.out.step hf hy)
        have HL : Hid (L.length + 1 ≤ 65536) := by
          have h1 := HI2.out.len
          have h2 := cnt_le (fun x => (S x).isSome) n
          rw [List.length_append, List.length_singleton] at h1
          show L.length + 1 ≤ 65536
          omega
        have hz := s.out.size
        have d1 : decide (now < y) = false := decide_eq_false (by omega)
        have HC : Hid (∀ W S', DX F w W t g n S' u5 L → W.cell? ⟨t, 0, none⟩ = some (ptr g)) := fun W S' q => q.c0
        clear hf hy
        go_wp2_with (first | (go_at_call 19; refine k1.mono ?_; rintro e w1 ⟨rfl, s1⟩; have c1 := HC.out _ _ s1.out) | (go_at_call 26; refine (k2 _ s1.out).mono ?_; rintro e w2 ⟨rfl, s2⟩) | (at_builtin; refine wpList_append_tell _ rfl (.tmp 33) (.tmp 35) 35 rfl w.heap.size 3 i0 _ 1 8 Try.underlying35 hi hz0 hz1 hz2 rfl (by decide) u5 L.length (rowL L) rfl (s2.out.own.alloc _) ⟨_, 0, none⟩ 1 1 [.int .i64 x] rfl rfl (World.news_of_block (heap_alloc_new _ _)) (by simp [Value.oneCell']) (by have := HL.out; unfold maxLen; omega) (by have := HL.out; omega) (by have := s2.out.size; simp; omega) ?_; intro v' w3 hown' hgrow hfr; have s3 := hide_it (s2.out.push hown' hgrow hfr); clear hown' hgrow hfr))
        go_roundg (cntS n (upS S' x none))
        case measure =>
          have h1 := HI2.out.len
          have h2 := HI.out.len
          have h3 := HK.out
          rw [List.length_append, List.length_singleton] at h1
          unfold cntS at *
          omega
        case rel => exact ⟨_, _, s3, HI2, rfl⟩
      · have HE := hide_it (HI.out.fst hf (by omega))
        have d1 : decide (now < y) = true := decide_eq_true (by omega)
        clear hf hy
        go_wp2_with (go_at_call 19; refine k1.mono ?_; rintro e w1 ⟨rfl, s1⟩)
        go_ret
        exact ⟨_, L, rfl, HE.out.1, s1.out.congr HE.out.2⟩
end Go.Proofs.Ytlpbjafdmhcmgaa
