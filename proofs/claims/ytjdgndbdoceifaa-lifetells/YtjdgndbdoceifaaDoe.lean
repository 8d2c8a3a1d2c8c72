/- A new life; a step by its number. -/
import Derived.Test.YtjdgndbdoceifaaCst
import Derived.Test.YtjdgndbdoceifaaCms
namespace Go.Proofs.Ytjdgndbdoceifaa
open Go.RowKit
open M
set_option linter.unusedVariables false
set_option linter.unusedSimpArgs false

theorem max_num (a c : Int) (ts : Array TypeId) (t : TypeId) (W : World) : (Builtin.max_ ts t #[.int .i64 a, .int .i64 c]).run Try.prog W = .ok (.int .i64 (max a c)) W := by
  rw [run_max_int2]
  congr 2
  split <;> omega
section
variable {B : Nat} {w0 w : World} {b : Nat} {T P : Int} {x : Lf} {R : List (Nat × Obj)}
set_option maxRecDepth 1000000 in
theorem new_any (hb : Below B w0 w) (hlo : B ≤ w0.heap.size) (t p T P : Int) (ht : max t 1 = T) (hp : max p 0 = P) : Calls Try.prog 10 #[.int .i64 t, .int .i64 p] w fun e w' => ∃ b, e = .returned (ptr b) ∧ Hid (LX B w0 w' b T P ⟨0, 0, 0, 0⟩ []) := by
  have k1 : ∀ ts u W, (Builtin.max_ ts u #[.int .i64 t, .int .i64 1]).run Try.prog W = .ok (.int .i64 T) W := fun ts u W => by rw [← ht]; exact max_num t 1 ts u W
  have k2 : ∀ ts u W, (Builtin.max_ ts u #[.int .i64 p, .int .i64 0]).run Try.prog W = .ok (.int .i64 P) W := fun ts u W => by rw [← hp]; exact max_num p 0 ts u W
  have HL : Hid (LX B w0 (w.alloc (blk T P ⟨0, 0, 0, 0⟩)) w.heap.size T P ⟨0, 0, 0, 0⟩ []) := by
    have hsz := hb.size
    exact ⟨hb.alloc (by omega) _, by omega, hlo, heap_alloc_new _ _, inv_new (by omega) (by omega), fun p hp => by simp at hp⟩
  clear ht hp hb
  go_enter Try.func10, Try.ntmps10
  go_wp2
  go_ret
  exact ⟨_, rfl, HL⟩
set_option maxRecDepth 1000000 in
set_option maxHeartbeats 2000000 in
theorem does_any (h : LX B w0 w b T P x R) (he : x.e ≤ 1000000) (k : Nat) (hk : k ≤ 10) : Calls Try.prog 12 #[ptr b, .int .i64 k] w fun e w' => e = .returned (.int .i64 (er P k x)) ∧ Hid (LX B w0 w' b T P (st T P k x) R) := by
  rcases kinds hk with rfl | rfl | rfl | rfl | rfl | rfl | rfl | rfl | rfl | rfl | rfl
  · have k := want_any h
    clear h he hk
    generalize er P 0 x = E at *
    generalize st T P 0 x = X at *
    show Calls Try.prog 12 #[ptr b, .int .i64 0] w _
    go_enter Try.func12, Try.ntmps12
    go_wp2_with (go_at_call 20; refine k.mono ?_; rintro e w' ⟨rfl, s⟩)
    go_ret
    exact ⟨rfl, s⟩
  · have k := start_any h he
    clear h he hk
    generalize er P 1 x = E at *
    generalize st T P 1 x = X at *
    show Calls Try.prog 12 #[ptr b, .int .i64 1] w _
    go_enter Try.func12, Try.ntmps12
    go_wp2_with (go_at_call 21; refine k.mono ?_; rintro e w' ⟨rfl, s⟩)
    go_ret
    exact ⟨rfl, s⟩
  · have k := stop_any h he
    clear h he hk
    generalize er P 2 x = E at *
    generalize st T P 2 x = X at *
    show Calls Try.prog 12 #[ptr b, .int .i64 2] w _
    go_enter Try.func12, Try.ntmps12
    go_wp2_with (go_at_call 22; refine k.mono ?_; rintro e w' ⟨rfl, s⟩)
    go_ret
    exact ⟨rfl, s⟩
  · have k := wait_any h
    clear h he hk
    generalize er P 3 x = E at *
    generalize st T P 3 x = X at *
    show Calls Try.prog 12 #[ptr b, .int .i64 3] w _
    go_enter Try.func12, Try.ntmps12
    go_wp2_with (go_at_call 26; refine k.mono ?_; rintro e w' ⟨rfl, s⟩)
    go_ret
    exact ⟨rfl, s⟩
  · have k := again_any h
    clear h he hk
    generalize er P 4 x = E at *
    generalize st T P 4 x = X at *
    show Calls Try.prog 12 #[ptr b, .int .i64 4] w _
    go_enter Try.func12, Try.ntmps12
    go_wp2_with (go_at_call 27; refine k.mono ?_; rintro e w' ⟨rfl, s⟩)
    go_ret
    exact ⟨rfl, s⟩
  · have k := wake_any h
    clear h he hk
    generalize er P 5 x = E at *
    generalize st T P 5 x = X at *
    show Calls Try.prog 12 #[ptr b, .int .i64 5] w _
    go_enter Try.func12, Try.ntmps12
    go_wp2_with (go_at_call 28; refine k.mono ?_; rintro e w' ⟨rfl, s⟩)
    go_ret
    exact ⟨rfl, s⟩
  · have k := miss_any h he
    clear h he hk
    generalize er P 6 x = E at *
    generalize st T P 6 x = X at *
    show Calls Try.prog 12 #[ptr b, .int .i64 6] w _
    go_enter Try.func12, Try.ntmps12
    go_wp2_with (go_at_call 23; refine k.mono ?_; rintro e w' ⟨rfl, s⟩)
    go_ret
    exact ⟨rfl, s⟩
  · have k := rested_any h
    clear h he hk
    generalize er P 7 x = E at *
    generalize st T P 7 x = X at *
    show Calls Try.prog 12 #[ptr b, .int .i64 7] w _
    go_enter Try.func12, Try.ntmps12
    go_wp2_with (go_at_call 24; refine k.mono ?_; rintro e w' ⟨rfl, s⟩)
    go_ret
    exact ⟨rfl, s⟩
  · have k := end__any h
    clear h he hk
    generalize er P 8 x = E at *
    generalize st T P 8 x = X at *
    show Calls Try.prog 12 #[ptr b, .int .i64 8] w _
    go_enter Try.func12, Try.ntmps12
    go_wp2_with (go_at_call 29; refine k.mono ?_; rintro e w' ⟨rfl, s⟩)
    go_ret
    exact ⟨rfl, s⟩
  · have k := fall_any h
    clear h he hk
    generalize er P 9 x = E at *
    generalize st T P 9 x = X at *
    show Calls Try.prog 12 #[ptr b, .int .i64 9] w _
    go_enter Try.func12, Try.ntmps12
    go_wp2_with (go_at_call 30; refine k.mono ?_; rintro e w' ⟨rfl, s⟩)
    go_ret
    exact ⟨rfl, s⟩
  · have k := turn_any h
    clear h he hk
    generalize er P 10 x = E at *
    generalize st T P 10 x = X at *
    show Calls Try.prog 12 #[ptr b, .int .i64 10] w _
    go_enter Try.func12, Try.ntmps12
    go_wp2_with (go_at_call 25; refine k.mono ?_; rintro e w' ⟨rfl, s⟩)
    go_ret
    exact ⟨rfl, s⟩
end
end Go.Proofs.Ytjdgndbdoceifaa
