/- The calls at whatever words. -/
import Derived.Test.YtgkogklbeclkgaaWld
import Derived.Test.YtgkogklbeclkgaaMax
namespace Go.Proofs.Ytgkogklbeclkgaa
open Go.RowKit Go.Lib
open M
set_option linter.unusedVariables false
set_option linter.unusedSimpArgs false

theorem arith_total (op : BinOp) (hop : op = .add ∨ op = .sub ∨ op = .mul) (x y : Nat) (W : World) : ∃ r k, (Op.Complex.arith op .f64 x y).run Try.prog W = .ok r (W.drewN k) := by
  cases h : floatBits op .f64 x y with
  | some r => exact ⟨r, 0, run_carith W h⟩
  | none =>
    rcases hop with rfl | rfl | rfl
    · have h' : FloatKind.f64.format.add x y = none := h
      exact ⟨_, 1, by simp [Op.Complex.arith, Op.floatArith, h', Question.forced]; exact ⟨rfl, rfl⟩⟩
    · have h' : FloatKind.f64.format.sub x y = none := h
      exact ⟨_, 1, by simp [Op.Complex.arith, Op.floatArith, h', Question.forced]; exact ⟨rfl, rfl⟩⟩
    · have h' : FloatKind.f64.format.mul x y = none := h
      exact ⟨_, 1, by simp [Op.Complex.arith, Op.floatArith, h', Question.forced]; exact ⟨rfl, rfl⟩⟩
theorem csum_total (op : BinOp) (hop : op = .add ∨ op = .sub) (t : TypeId) (a b c d : Nat) (W : World) : ∃ re im k, (binOp op t (.complex .f64 a b) (.complex .f64 c d)).run Try.prog W = .ok (.complex .f64 re im) (W.drewN k) := by
  obtain ⟨r, k, h1⟩ := arith_total op (by rcases hop with h | h <;> simp [h]) a c W
  obtain ⟨i, l, h2⟩ := arith_total op (by rcases hop with h | h <;> simp [h]) b d (W.drewN k)
  refine ⟨r, i, k + l, ?_⟩
  rw [World.drewN_drewN] at h2
  rcases hop with rfl | rfl <;> simp [binOp, Op.complexOp, h1, h2]
theorem cmul_total (t : TypeId) (a b c d : Nat) (W : World) : ∃ re im k, (binOp .mul t (.complex .f64 a b) (.complex .f64 c d)).run Try.prog W = .ok (.complex .f64 re im) (W.drewN k) := by
  obtain ⟨r1, k1, h1⟩ := arith_total .mul (by simp) a c W
  obtain ⟨r2, k2, h2⟩ := arith_total .mul (by simp) b d (W.drewN k1)
  obtain ⟨r3, k3, h3⟩ := arith_total .sub (by simp) r1 r2 (W.drewN (k1 + k2))
  obtain ⟨r4, k4, h4⟩ := arith_total .mul (by simp) a d (W.drewN (k1 + k2 + k3))
  obtain ⟨r5, k5, h5⟩ := arith_total .mul (by simp) b c (W.drewN (k1 + k2 + k3 + k4))
  obtain ⟨r6, k6, h6⟩ := arith_total .add (by simp) r4 r5 (W.drewN (k1 + k2 + k3 + k4 + k5))
  refine ⟨r3, r6, k1 + k2 + k3 + k4 + k5 + k6, ?_⟩
  rw [World.drewN_drewN] at h2 h3 h4 h5 h6
  simp [binOp, Op.complexOp, Op.Complex.conv, Op.Complex.product, Op.Complex.mul, Op.Complex.sub, Op.Complex.add, h1, h2, h3, h4, h5, h6]

theorem compare_wild (x y u v : Nat) (w : World) : Calls Try.prog 15 #[.complex .f64 x y, .complex .f64 u v] w fun e w' => ∃ z k, e = .returned (.int .i64 z) ∧ (-1 ≤ z ∧ z ≤ 1) ∧ w' = w.drewN k := by
  obtain ⟨re, im, k, hop⟩ := cmul_total 25 u (Op.negFloat .f64 v) x y w
  by_cases q1 : (FloatKind.f64.format.order im 0 == some Ordering.lt) = true
  · go_enter Try.func15, Try.ntmps15
    go_wp2_with (first | (go_at_call 21; refine (conj_any _ _ _).mono ?_; rintro e w' ⟨rfl, rfl⟩) | simp only [hop])
    go_ret
    exact ⟨-1, k, rfl, by omega, rfl⟩
  · have q1' : (FloatKind.f64.format.order im 0 == some Ordering.lt) = false := by simpa using q1
    by_cases q2 : (FloatKind.f64.format.order im 0 == some Ordering.gt) = true
    · clear q1
      go_enter Try.func15, Try.ntmps15
      go_wp2_with (first | (go_at_call 21; refine (conj_any _ _ _).mono ?_; rintro e w' ⟨rfl, rfl⟩) | simp only [hop])
      go_ret
      exact ⟨1, k, rfl, by omega, rfl⟩
    · have q2' : (FloatKind.f64.format.order im 0 == some Ordering.gt) = false := by simpa using q2
      clear q1 q2
      go_enter Try.func15, Try.ntmps15
      go_wp2_with (first | (go_at_call 21; refine (conj_any _ _ _).mono ?_; rintro e w' ⟨rfl, rfl⟩) | simp only [hop])
      go_ret
      exact ⟨0, k, rfl, by omega, rfl⟩

/-- What is read off a part. -/
def Whl (x : Nat) (n : Int) : Prop := (0 ≤ n ∧ n ≤ 9007199254740992) ∧ ((FloatKind.f64.format.order x 0 == some Ordering.gt) = false → n = 0) ∧ ((FloatKind.f64.format.order x 4845873199050653696 == some Ordering.gt) = false → (FloatKind.f64.format.order x 0 == some Ordering.gt) = true → floatToIntVal .f64 x .i64 = some n)
theorem whole_wild (x : Nat) (w : World) : Calls Try.prog 20 #[.float .f64 x] w fun e w' => ∃ n, e = .returned (.int .i64 n) ∧ Whl x n ∧ w' = w := by
  by_cases g1 : (FloatKind.f64.format.order x 4845873199050653696 == some Ordering.gt) = true
  · have H : Whl x 9007199254740992 := by
      have := gt_mono is_top is_0 (by decide) g1
      exact ⟨⟨by decide, by decide⟩, fun h => (by rw [this] at h; cases h), fun h => (by rw [g1] at h; cases h)⟩
    have H' := hide_it H
    clear H
    go_enter Try.func20, Try.ntmps20
    go_wp2
    go_ret
    exact ⟨_, rfl, H'.out, rfl⟩
  · have g1' : (FloatKind.f64.format.order x 4845873199050653696 == some Ordering.gt) = false := by simpa using g1
    by_cases g2 : (FloatKind.f64.format.order x 0 == some Ordering.gt) = true
    · obtain ⟨n, hi, h0, h1⟩ := cut_some g1' g2
      have hc : ∀ w, (convert 42 3 (.float .f64 x)).run Try.prog w = .ok (.int .i64 n) w := fun w => run_convert_float_int w 42 3 .f64 .i64 x n (by rw [Try.underlying42]; rfl) Try.underlying3 hi
      have H : Whl x n := ⟨⟨h0, h1⟩, fun h => (by rw [g2] at h; cases h), fun _ _ => hi⟩
      have H' := hide_it H
      clear H hi h0 h1 g1
      go_enter Try.func20, Try.ntmps20
      go_wp2_with (simp only [hc])
      go_ret
      exact ⟨_, rfl, H'.out, rfl⟩
    · have g2' : (FloatKind.f64.format.order x 0 == some Ordering.gt) = false := by simpa using g2
      have H : Whl x 0 := ⟨⟨by decide, by decide⟩, fun _ => rfl, fun _ h => by rw [g2'] at h; cases h⟩
      have H' := hide_it H
      clear H g1 g2
      go_enter Try.func20, Try.ntmps20
      go_wp2
      go_ret
      exact ⟨_, rfl, H'.out, rfl⟩
theorem weight_wild (x y : Nat) (w : World) : Calls Try.prog 12 #[.complex .f64 x y] w fun e w' => ∃ n, e = .returned (.int .i64 n) ∧ Whl x n ∧ w' = w := by
  go_enter Try.func12, Try.ntmps12
  go_wp2_with (go_at_call 20; refine (whole_wild _ _).mono ?_; rintro e w' ⟨n, rfl, h, rfl⟩; have h' := hide_it h; clear h)
  go_ret
  exact ⟨n, rfl, h'.out, rfl⟩
theorem cost_wild (x y : Nat) (w : World) : Calls Try.prog 14 #[.complex .f64 x y] w fun e w' => ∃ n, e = .returned (.int .i64 n) ∧ Whl y n ∧ w' = w := by
  go_enter Try.func14, Try.ntmps14
  go_wp2_with (go_at_call 20; refine (whole_wild _ _).mono ?_; rintro e w' ⟨n, rfl, h, rfl⟩; have h' := hide_it h; clear h)
  go_ret
  exact ⟨n, rfl, h'.out, rfl⟩

set_option maxHeartbeats 1000000 in
theorem sum_wild (x y : Nat → Nat) (b n cap : Nat) (w : World) (hn : n ≤ 1000000) (hc : ∀ i, i < n → w.cell? ⟨b, i, none⟩ = some (.complex .f64 (x i) (y i))) :
    Calls Try.prog 17 #[.slice (some ⟨b, 0, none⟩) n cap] w fun e w' => ∃ re im k, e = .returned (.complex .f64 re im) ∧ w' = w.drewN k := by
  have HC := hide_it hc
  clear hc
  go_enter Try.func17, Try.ntmps17
  go_wp2
  go_loopw [3, 8] (fun s i wr => ∃ re im k q : Nat, s = .complex .f64 re im ∧ i = .int .i64 k ∧ k ≤ n ∧ wr = w.drewN q) (fun _ i _ => n - (intOf i).toNat)
  case atStart => exact ⟨0, 0, 0, 0, rfl, rfl, Nat.zero_le _, rfl⟩
  case round =>
    obtain ⟨re, im, k, q, rfl, rfl, hkn, rfl⟩ := hrel
    by_cases hlt : k < n
    · have c1 := HC.out k hlt
      obtain ⟨r2, i2, t, hop⟩ := csum_total .add (.inl rfl) 25 re im (x k) (y k) (w.drewN q)
      rw [World.drewN_drewN] at hop
      generalize x k = xk at *
      generalize y k = yk at *
      go_wp2_with (simp only [hop])
      go_roundw
      case rel => exact ⟨r2, i2, k + 1, q + t, rfl, by go_num, by omega, rfl⟩
      case measure => simp [intOf]; omega
    · go_wp2
      go_ret
      exact ⟨re, im, q, rfl, rfl⟩
theorem apart_wild (x y : Nat → Nat) (b n cap : Nat) (w : World) (hn0 : 0 < n) (hn : n ≤ 1000000) (hc : ∀ i, i < n → w.cell? ⟨b, i, none⟩ = some (.complex .f64 (x i) (y i))) :
    Calls Try.prog 18 #[.slice (some ⟨b, 0, none⟩) n cap] w fun e w' => ∃ re im k, e = .returned (.complex .f64 re im) ∧ w' = w.drewN k := by
  have HC := hide_it hc
  clear hc
  have k1 := fun W (h : ∀ i, i < n → W.cell? ⟨b, i, none⟩ = some (.complex .f64 (x i) (y i))) => max_any x y b n cap W (fun _ _ _ => True) (fun _ _ => True) hn0 hn h (fun i j W' _ _ => (compare_wild _ _ _ _ W').mono fun e w' ⟨z, k, h1, _, h3⟩ => ⟨z, k, h1, trivial, h3⟩) trivial (fun _ _ _ _ _ _ _ _ => trivial) (fun _ _ _ _ _ _ _ _ => trivial)
  have k2 := fun W (h : ∀ i, i < n → W.cell? ⟨b, i, none⟩ = some (.complex .f64 (x i) (y i))) => min_any x y b n cap W (fun _ _ _ => True) (fun _ _ => True) hn0 hn h (fun i j W' _ _ => (compare_wild _ _ _ _ W').mono fun e w' ⟨z, k, h1, _, h3⟩ => ⟨z, k, h1, trivial, h3⟩) trivial (fun _ _ _ _ _ _ _ _ => trivial) (fun _ _ _ _ _ _ _ _ => trivial)
  have hz : ¬ (n : Int) = 0 := by omega
  have hz' : ¬ n = 0 := by omega
  go_enter Try.func18, Try.ntmps18
  go_wp2_with (first | (go_at_call 22; refine (k1 _ HC.out).mono ?_; rintro e w1 ⟨m, q, hm, rfl, _, rfl⟩; generalize x m = xm; generalize y m = ym; refine Hid.out ?_))
  refine hide_it ?_
  go_wp2_with (first | (go_at_call 23; refine (k2 (w.drewN q) (fun i hi => HC.out i hi)).mono ?_; rintro e w2 ⟨m2, q2, hm2, rfl, _, rfl⟩; generalize x m2 = xm2; generalize y m2 = ym2; obtain ⟨re, im, t, hop⟩ := csum_total .sub (.inr rfl) 25 xm ym xm2 ym2 ((w.drewN q).drewN q2); rw [World.drewN_drewN, World.drewN_drewN] at hop) | simp only [hop])
  go_ret
  exact ⟨re, im, _, rfl, rfl⟩
end Go.Proofs.Ytgkogklbeclkgaa
