/- HeapSorts, walked. -/
import Derived.Test.YtpcjaleogeoabaaRow
import Derived.Deep.RegionHeld3
import Derived.Deep.CutRange
import Derived.Deep.CutBlock
namespace Go.Proofs.Ytpcjaleogeoabaa
open Go.RowKit
open M
set_option linter.unusedVariables false
set_option linter.unusedSimpArgs false

/-- While ids are pushed. -/
structure SI (N i : Nat) (f : Nat → Nat) (K : Nat → Int) (S : Nat → Option Int) : Prop where
  fl : ∀ j, j < N → f j < N
  inj : ∀ p q, p < N → q < N → f p = f q → p = q
  sur : ∀ x, x < N → ∃ j, j < N ∧ f j = x
  s1 : ∀ j, j < i → S (f j) = some (K (f j))
  s0 : ∀ j, i ≤ j → j < N → S (f j) = none
theorem sw_inj {f : Nat → Nat} {N i k : Nat} (h : ∀ p q, p < N → q < N → f p = f q → p = q) (hi : i < N) (hk : k < N) : ∀ p q, p < N → q < N → sw f i k p = sw f i k q → p = q := by
  intro p q hp hq e
  unfold sw at e
  by_cases p1 : p = i
  · by_cases q1 : q = i
    · omega
    · by_cases q2 : q = k
      · rw [if_pos p1, if_neg q1, if_pos q2] at e; have := h _ _ hk hi e; omega
      · rw [if_pos p1, if_neg q1, if_neg q2] at e; have := h _ _ hk hq e; omega
  · by_cases p2 : p = k
    · by_cases q1 : q = i
      · rw [if_neg p1, if_pos p2, if_pos q1] at e; have := h _ _ hi hk e; omega
      · by_cases q2 : q = k
        · omega
        · rw [if_neg p1, if_pos p2, if_neg q1, if_neg q2] at e; have := h _ _ hi hq e; omega
    · by_cases q1 : q = i
      · rw [if_neg p1, if_neg p2, if_pos q1] at e; have := h _ _ hp hk e; omega
      · by_cases q2 : q = k
        · rw [if_neg p1, if_neg p2, if_neg q1, if_pos q2] at e; have := h _ _ hp hi e; omega
        · rw [if_neg p1, if_neg p2, if_neg q1, if_neg q2] at e; exact h _ _ hp hq e
theorem SI.step {N i k : Nat} {f : Nat → Nat} {K : Nat → Int} {S : Nat → Option Int} (h : SI N i f K S) (hi : i < N) (hik : i ≤ k) (hk : k < N) : SI N (i + 1) (sw f i k) K (upS S (sw f i k i) (some (K (sw f i k i)))) ∧ S (sw f i k i) = none ∧ sw f i k i < N := by
  have hin := sw_inj h.inj hi hk
  have fl : ∀ j, j < N → sw f i k j < N := fun j hj => by
    unfold sw
    split
    · exact h.fl k hk
    · split
      · exact h.fl i hi
      · exact h.fl j hj
  refine ⟨⟨fl, hin, fun x hx => ?_, fun j hj => ?_, fun j hj hjN => ?_⟩, ?_, fl i hi⟩
  · obtain ⟨j, hj, e⟩ := (in_sw f hi hk x).2 (h.sur x hx)
    exact ⟨j, hj, e⟩
  · by_cases e : j = i
    · subst e; exact upS_is _ _ _
    · rw [upS_ne _ _ (fun q => e (hin j i (by omega) hi q)), sw_o f e (by omega)]
      exact h.s1 j (by omega)
  · rw [upS_ne _ _ (fun q => by have := hin j i hjN hi q; omega)]
    unfold sw
    rw [if_neg (by omega)]
    split
    · exact h.s0 i (Nat.le_refl _) hi
    · exact h.s0 j (by omega) hjN
  · rw [sw_l]; exact h.s0 k hik hk

/-- While ids are popped. -/
structure PI (N i : Nat) (K : Nat → Int) (S : Nat → Option Int) (seen : Nat → Bool) (last : Int) : Prop where
  s : ∀ x, x < N → S x = none ∨ S x = some (K x)
  seen : ∀ x, x < N → seen x = (S x).isNone
  c : M.cnt (fun x => (S x).isSome) N + i = N
  l : last = -1 ∨ ∃ lx : Nat, last = lx ∧ lx < N ∧ ∀ z, z < N → (S z).isSome = true → K lx < K z ∨ (K lx = K z ∧ lx ≤ z)
theorem cnt_all {p : Nat → Bool} {n : Nat} (h : ∀ x, x < n → p x = true) : M.cnt p n = n := by
  induction n with
  | zero => rfl
  | succ n ih => unfold M.cnt; rw [ih (fun x hx => h x (by omega)), h n (by omega)]; rfl
theorem SI.done {N : Nat} {f : Nat → Nat} {K : Nat → Int} {S : Nat → Option Int} (h : SI N N f K S) : PI N 0 K S (fun _ => false) (-1) := by
  have hs : ∀ x, x < N → S x = some (K x) := fun x hx => by
    obtain ⟨j, hj, rfl⟩ := h.sur x hx
    exact h.s1 j hj
  exact ⟨fun x hx => .inr (hs x hx), fun x hx => by rw [hs x hx]; rfl, by rw [cnt_all (fun x hx => by rw [hs x hx]; rfl)]; rfl, .inl rfl⟩
theorem PI.step {N i : Nat} {K : Nat → Int} {S : Nat → Option Int} {seen : Nat → Bool} {last : Int} (h : PI N i K S seen last) {x : Nat} {y : Int} (hf : Fst N S x y) : PI N (i + 1) K (upS S x none) (fun j => if j = x then true else seen j) x ∧ y = K x ∧ seen x = false ∧ (last = -1 ∨ ∃ lx : Nat, last = lx ∧ lx < N ∧ (K lx < K x ∨ (K lx = K x ∧ lx ≤ x))) := by
  have hy : y = K x := by
    rcases h.s x hf.lt with q | q
    · rw [hf.is] at q; cases q
    · rw [hf.is] at q; exact Option.some.inj q
  have key : ∀ z, z < N → (S z).isSome = true → K x < K z ∨ (K x = K z ∧ x ≤ z) := fun z hz hs => by
    rcases h.s z hz with q | q
    · rw [q] at hs; cases hs
    · have := hf.le z (K z) hz q
      rw [hy] at this
      exact this
  refine ⟨⟨fun z hz => ?_, fun z hz => ?_, ?_, .inr ⟨x, rfl, hf.lt, fun z hz hs => ?_⟩⟩, hy, ?_, ?_⟩
  · by_cases e : z = x
    · subst e; exact .inl (upS_is _ _ _)
    · rw [upS_ne _ _ e]; exact h.s z hz
  · by_cases e : z = x
    · subst e; rw [upS_is]; simp
    · rw [upS_ne _ _ e]; simp only [e, if_false]; exact h.seen z hz
  · have := cnt_set (p := fun y => (upS S x none y).isSome) (q := fun y => (S y).isSome) hf.lt (fun y hy hne => by rw [upS_ne S _ hne]) (by rw [upS_is]; rfl) (by rw [hf.is]; rfl)
    have := h.c
    omega
  · by_cases e : z = x
    · subst e; rw [upS_is] at hs; cases hs
    · rw [upS_ne _ _ e] at hs; exact key z hz hs
  · rw [h.seen x hf.lt, hf.is]; rfl
  · rcases h.l with q | ⟨lx, q1, q2, q3⟩
    · exact .inl q
    · exact .inr ⟨lx, q1, q2, q3 x hf.lt (by rw [hf.is]; rfl)⟩

set_option maxRecDepth 1000000 in
set_option maxHeartbeats 8000000 in
theorem heapSorts_walk (ls : List Int) (a : Option Addr) (cap : Nat) (us : List Int) (b : Option Addr) (cap1 : Nat) (w : World) (hI : NumsIn .i64 w a ls) (hl : ls.length ≤ cap) (hc : cap ≤ maxLen) (hwf : ∀ y ∈ ls, (Lit.int .i64 y).wf = true) (hI1 : NumsIn .u16 w b us) (hl1 : us.length ≤ cap1) (hc1 : cap1 ≤ maxLen) (hwf1 : ∀ y ∈ us, (Lit.int .u16 y).wf = true) :
    Calls Try.prog 4 #[.slice a ls.length cap, .slice b us.length cap1] w fun e w' => e = .returned (.bool true) ∧ Below w.heap.size w w' := by
  obtain ⟨B, hB⟩ : ∃ B, w.heap.size = B := ⟨_, rfl⟩
  have ks : Calls Try.prog 11 #[] w fun e w' => e = .returned (.bool true) ∧ Hid (Below B w w') := by
    have := shown_any w
    rw [hB] at this
    exact this
  have hle : B ≤ w.heap.size := by omega
  have hcm : cap ≤ 9223372036854775807 := by unfold maxLen at hc; omega
  have hcm1 : cap1 ≤ 9223372036854775807 := by unfold maxLen at hc1; omega
  obtain ⟨m, hm⟩ : ∃ m, ls.length = m := ⟨_, rfl⟩
  obtain ⟨m1, hm1⟩ : ∃ m, us.length = m := ⟨_, rfl⟩
  obtain ⟨N, hN⟩ : ∃ N, min m 100 = N := ⟨_, rfl⟩
  have hNm : N ≤ m := by omega
  have hN1 : N ≤ 100 := by omega
  have hmin : ∀ (ts : Array TypeId) (t : TypeId) (W : World), (Builtin.min_ ts t #[.int .i64 (m : Int), .int .i64 100]).run Try.prog W = .ok (.int .i64 (N : Int)) W := fun ts t W => by
    have := min_num m 100 ts t W
    rw [hN] at this
    exact this
  obtain ⟨K, hK⟩ : ∃ K, nth ls = K := ⟨_, rfl⟩
  have HK : Hid (∀ (W : World) (i : Nat), Below B w W → i < N → ∃ kb ko, a = some ⟨kb, ko, none⟩ ∧ W.cell? ⟨kb, ko + i, none⟩ = some (.int .i64 (K i))) := fun W i hb hi => by
    rw [← hK]; exact hI.at (hB ▸ hb) (by omega)
  have HU : Hid (∀ (W : World) (i : Nat), Below B w W → i < m1 → ∃ kb ko v, b = some ⟨kb, ko, none⟩ ∧ W.cell? ⟨kb, ko + i, none⟩ = some (.int .u16 v) ∧ 0 ≤ v ∧ v ≤ 65535) := fun W i hb hi => by
    obtain ⟨kb, ko, h1, h2⟩ := hI1.at (hB ▸ hb) (i := i) (by omega)
    refine ⟨kb, ko, _, h1, h2, ?_⟩
    have := hwf1 (nth us i) (by
      have hlt : i < us.length := by omega
      have e : nth us i = us[i] := by simp [nth, hlt]
      rw [e]; exact List.getElem_mem hlt)
    exact bounds_u16 this
  have kn : ∀ W, Below B w W → Calls Try.prog 12 #[.int .i64 N] W fun e w' => ∃ g, e = .returned (ptr g) ∧ Hid (MX B w w' [(g, N, fun _ => none)] []) := fun W hb => by
    have := (mx_start hb hle).new (N : Int)
    rw [hsz_in N (by omega)] at this
    exact this
  have kmi := make_ints N (by omega)
  have kmb := make_bools N (by omega)
  rw [hm] at hl ⊢
  rw [hm1] at hl1 ⊢
  rw [hB]
  clear hI hI1 hc hc1 hB hwf hwf1 hm hm1 hN hK
  go_enter Try.func4, Try.ntmps4
  go_wp2_with (first | (go_at_call 11; refine ks.mono ?_; rintro e w1 ⟨rfl, s1⟩; clear ks) | (go_at_call 12; refine (kn _ s1.out).mono ?_; rintro e w2 ⟨g, rfl, s⟩; clear kn s1))
  have s0 := hide_it (s.out.alloc (.cells (iRow (fun _ => 0) N) 3))
  obtain ⟨r, hr⟩ : ∃ r, w2.heap.size = r := ⟨_, rfl⟩
  rw [hr] at s0
  simp only [hr]
  clear s hr
  generalize w2.alloc (.cells (iRow (fun _ => 0) N) 3) = w3 at *
  go_loopw [9] (fun iv W => ∃ k : Nat, iv = .int .i64 k ∧ k ≤ N ∧ Hid (MX B w W [(g, N, fun _ => none)] [(r, .cells (iRow (fun j => if j < k then (j : Int) else 0) N) 3)])) (fun iv _ => N - (intOf iv).toNat)
  case atStart => exact ⟨0, rfl, Nat.zero_le _, s0.out.icongr (fun j hj => by simp)⟩
  case round =>
    clear s0
    obtain ⟨k, rfl, hk, s⟩ := hrel
    by_cases hlt : k < N
    · obtain ⟨ck, fk⟩ := s.out.iat hlt
      have s2 := hide_it (s.out.iset k (k : Int) (f' := fun j => if j < k + 1 then (j : Int) else 0) (fun j hj => by
        by_cases e : j = k
        · subst e; simp
        · simp only [e, if_false]
          by_cases e2 : j < k
          · rw [if_pos e2, if_pos (by omega)]
          · rw [if_neg e2, if_neg (by omega)]))
      generalize (if k < k then (k : Int) else 0) = v0 at ck
      clear s
      go_wp2
      go_roundw
      case rel => exact ⟨k + 1, by go_num, by omega, s2⟩
      case measure => simp [intOf]; omega
    · have h2 : decide ((k : Int) < N) = false := by simp; omega
      have h3 : decide (k < N) = false := by simp; omega
      have s2 : Hid (MX B w wr [(g, N, fun _ => none)] [(r, .cells (iRow (nI (fun j => j)) N) 3)]) := s.out.icongr (fun j hj => by rw [if_pos (by omega)])
      have hsi : SI N 0 (fun j => j) K (fun _ => none) := ⟨fun j hj => hj, fun p q _ _ e => e, fun x hx => ⟨x, hx, rfl⟩, fun j hj => by omega, fun _ _ _ => rfl⟩
      have HSI := hide_it hsi
      clear s hsi
      go_wp2
      go_loopw [10] (fun iv W => ∃ (i : Nat) (f : Nat → Nat) (S : Nat → Option Int), iv = .int .i64 i ∧ i ≤ N ∧ Hid (MX B w W [(g, N, S)] [(r, .cells (iRow (nI f) N) 3)]) ∧ Hid (SI N i f K S)) (fun iv _ => N - (intOf iv).toNat)
      case atStart => exact ⟨0, _, _, rfl, Nat.zero_le _, s2, HSI⟩
      case round =>
        clear s2 HSI hk hlt h2 h3
        obtain ⟨i, f, S, rfl, hi, s, HS⟩ := hrel
        by_cases hlt : i < N
        · by_cases hu : i < m1
          · obtain ⟨ub, uo, v, rfl, cu, hv0, hv1⟩ := HU.out _ i s.out.bel hu
            obtain ⟨vn, rfl⟩ : ∃ vn : Nat, v = vn := ⟨v.toNat, by omega⟩
            obtain ⟨d, hd⟩ : ∃ d, N - i = d := ⟨_, rfl⟩
            have hd0 : 0 < d := by omega
            obtain ⟨q, hq⟩ : ∃ q, vn % d = q := ⟨_, rfl⟩
            have hqd : q < d := by rw [← hq]; exact Nat.mod_lt _ hd0
            obtain ⟨kk, hkk⟩ : ∃ kk, i + q = kk := ⟨_, rfl⟩
            have hkk1 : i ≤ kk := by omega
            have hkk2 : kk < N := by omega
            have x1 : (N : Int) - (i : Int) = (d : Int) := by omega
            have x2 : ((vn : Int)).tmod (d : Int) = (q : Int) := by rw [Int.tmod_eq_emod_of_nonneg (by omega), ← hq]; rfl
            have x3 : (i : Int) + (q : Int) = (kk : Int) := by omega
            have x4 : ¬ (d : Int) = 0 := by omega
            have x5 : ((d : Int) == 0) = false := by rw [beq_eq_false_iff_ne]; exact x4
            have x6 : ¬ d = 0 := by omega
            clear hd hq hkk hqd
            obtain ⟨t, ht⟩ : ∃ t, f kk = t := ⟨_, rfl⟩
            obtain ⟨z, hz⟩ : ∃ z, f i = z := ⟨_, rfl⟩
            obtain ⟨H1, H2, H3⟩ := HS.out.step hlt hkk1 hkk2
            rw [sw_l, ht] at H1 H2 H3
            have HN := hide_it H1
            have HZ := hide_it H2
            obtain ⟨ci, fi⟩ := s.out.iat hlt
            obtain ⟨ck, fk⟩ := s.out.iat hkk2
            simp only [nI, ht, hz] at ci ck
            have s1 := hide_it (s.out.iset i (t : Int) (f' := fun j => if j = i then (t : Int) else nI f j) (fun j hj => rfl))
            obtain ⟨ck1, fk1⟩ := s1.out.iat hkk2
            have s2 := hide_it (s1.out.iset kk (z : Int) (f' := nI (sw f i kk)) (fun j hj => by
              unfold sw nI
              by_cases e1 : j = kk
              · subst e1
                by_cases e2 : j = i
                · subst e2; simp [ht, hz]; omega
                · simp [e2, hz]
              · by_cases e2 : j = i
                · subst e2; simp [e1, ht]
                · simp [e1, e2]))
            generalize (if kk = i then (t : Int) else nI f kk) = v1 at ck1
            clear s H1 H2
            go_upto_region 20 with fail
            clear ci ck fi fk ck1 fk1 s1
            generalize (wr.setCell ⟨r, i, none⟩ (.int .i64 (t : Int))).setCell ⟨r, kk, none⟩ (.int .i64 (z : Int)) = W2 at *
            have hst : sw f i kk i = t := by rw [sw_l]; exact ht
            obtain ⟨ci, _⟩ := s2.out.iat hlt
            simp only [nI, hst] at ci
            obtain ⟨kb, ko, rfl, ckk⟩ := HK.out _ t s2.out.bel H3
            have kp : Calls Try.prog 13 #[ptr g, .int .i64 t, .int .i64 (K t)] W2.drew fun e w' => e = .returned (.int .i64 0) ∧ Hid (MX B w w' [(g, N, upS S t (some (K t)))] [(r, .cells (iRow (nI (sw f i kk)) N) 3)]) := by
              have := (s2.out.below (w' := W2.drew) (Below.refl _ _).drew).push 0 rfl (t : Int) (K t)
              rw [show pushE N S t = 0 by simp [pushE, hasB, isId_nat N t H3, HZ.out], show pushS N S t (K t) = upS S t (some (K t)) by simp [pushS, hasB, isId_nat N t H3, HZ.out]] at this
              exact this
            have HC : Hid (∀ W S', MX B w W [(g, N, S')] [(r, .cells (iRow (nI (sw f i kk)) N) 3)] → W.cell? ⟨r, i, none⟩ = some (.int .i64 (t : Nat)) ∧ W.cell? ⟨kb, ko + t, none⟩ = some (.int .i64 (K t))) := fun W S' h => by
              obtain ⟨kb', ko', e, q⟩ := HK.out W t h.bel H3
              cases e
              refine ⟨?_, q⟩
              have := (h.iat hlt).1
              simp only [nI, hst] at this
              exact this
            have HST := hide_it hst
            have htm : t < m := by omega
            generalize K t = kt at *
            generalize upS S t (some kt) = S' at *
            clear hst ht hz HZ
            generalize sw f i kk = f2 at *
            (go_region_held3 (fun V => V.cell? ⟨r, i, none⟩ = some (.int .i64 (t : Nat)) ∧ V.cell? ⟨kb, ko + t, none⟩ = some (.int .i64 kt)) (first | go_keep | exact HC.out _ _ s3.out) ((go_at_call 13; refine kp.mono ?_; rintro e w5 ⟨rfl, s3⟩)))
            all_goals
              go_wp2
              go_roundw
              case rel => exact ⟨i + 1, f2, S', by go_num, by omega, s3.out.below ⟨rfl, rfl, rfl, Nat.le_refl _, fun _ _ => rfl⟩, HN⟩
              case measure => simp [intOf]; omega
          · have hu2 : decide ((i : Int) < (m1 : Int)) = false := decide_eq_false (by omega)
            have hu3 : decide (i < m1) = false := decide_eq_false (by omega)
            have hkk1 : i ≤ i := Nat.le_refl _
            have hkk2 : i < N := hlt
            obtain ⟨t, ht⟩ : ∃ t, f i = t := ⟨_, rfl⟩
            obtain ⟨H1, H2, H3⟩ := HS.out.step hlt hkk1 hkk2
            rw [sw_l, ht] at H1 H2 H3
            have HN := hide_it H1
            have HZ := hide_it H2
            obtain ⟨ci, fi⟩ := s.out.iat hlt
            obtain ⟨ck, fk⟩ := s.out.iat hkk2
            simp only [nI, ht] at ci ck
            have s1 := hide_it (s.out.iset i (t : Int) (f' := fun j => if j = i then (t : Int) else nI f j) (fun j hj => rfl))
            obtain ⟨ck1, fk1⟩ := s1.out.iat hkk2
            have s2 := hide_it (s1.out.iset i (t : Int) (f' := nI (sw f i i)) (fun j hj => by
              unfold sw nI
              by_cases e1 : j = i
              · rw [e1]; simp [ht]
              · simp [e1]))
            simp only [if_true] at ck1
            clear s H1 H2
            go_upto_region 20 with fail
            clear ci ck fi fk ck1 fk1 s1
            generalize (wr.setCell ⟨r, i, none⟩ (.int .i64 (t : Int))).setCell ⟨r, i, none⟩ (.int .i64 (t : Int)) = W2 at *
            have hst : sw f i i i = t := by rw [sw_l]; exact ht
            obtain ⟨ci, _⟩ := s2.out.iat hlt
            simp only [nI, hst] at ci
            obtain ⟨kb, ko, rfl, ci⟩ := HK.out _ t s2.out.bel H3
            have kp : Calls Try.prog 13 #[ptr g, .int .i64 t, .int .i64 (K t)] W2.drew fun e w' => e = .returned (.int .i64 0) ∧ Hid (MX B w w' [(g, N, upS S t (some (K t)))] [(r, .cells (iRow (nI (sw f i i)) N) 3)]) := by
              have := (s2.out.below (w' := W2.drew) (Below.refl _ _).drew).push 0 rfl (t : Int) (K t)
              rw [show pushE N S t = 0 by simp [pushE, hasB, isId_nat N t H3, HZ.out], show pushS N S t (K t) = upS S t (some (K t)) by simp [pushS, hasB, isId_nat N t H3, HZ.out]] at this
              exact this
            have HC : Hid (∀ W S', MX B w W [(g, N, S')] [(r, .cells (iRow (nI (sw f i i)) N) 3)] → W.cell? ⟨r, i, none⟩ = some (.int .i64 (t : Nat)) ∧ W.cell? ⟨kb, ko + t, none⟩ = some (.int .i64 (K t))) := fun W S' h => by
              obtain ⟨kb', ko', e, q⟩ := HK.out W t h.bel H3
              cases e
              refine ⟨?_, q⟩
              have := (h.iat hlt).1
              simp only [nI, hst] at this
              exact this
            have HST := hide_it hst
            have htm : t < m := by omega
            generalize K t = kt at *
            generalize upS S t (some kt) = S' at *
            clear hst ht HZ
            generalize sw f i i = f2 at *
            (go_region_held3 (fun V => V.cell? ⟨r, i, none⟩ = some (.int .i64 (t : Nat)) ∧ V.cell? ⟨kb, ko + t, none⟩ = some (.int .i64 kt)) (first | go_keep | exact HC.out _ _ s3.out) ((go_at_call 13; refine kp.mono ?_; rintro e w5 ⟨rfl, s3⟩)))
            all_goals
              go_wp2
              go_roundw
              case rel => exact ⟨i + 1, f2, S', by go_num, by omega, s3.out.below ⟨rfl, rfl, rfl, Nat.le_refl _, fun _ _ => rfl⟩, HN⟩
              case measure => simp [intOf]; omega
        · have h2 : decide ((i : Int) < N) = false := by simp; omega
          have h3 : decide (i < N) = false := by simp; omega
          have hiN : i = N := by omega
          have HPI : Hid (PI N 0 K S (fun _ => false) (-1)) := by
            have := HS.out
            rw [hiN] at this
            exact this.done
          have s4 : Hid (MX B w (wr.alloc (.cells (bRow (fun _ => false) N) 4)) [(g, N, S)] [(wr.heap.size, .cells (bRow (fun _ => false) N) 4)]) := (s.out.alloc (.cells (bRow (fun _ => false) N) 4)).drop (fun p hp => by
            rw [List.mem_singleton.1 hp]; exact List.mem_cons_self)
          clear HS s hiN HU
          go_wp2
          obtain ⟨r2, hr2⟩ : ∃ r2, wr.heap.size = r2 := ⟨_, rfl⟩
          rw [hr2] at s4
          simp only [hr2]
          clear hr2
          generalize wr.alloc (.cells (bRow (fun _ => false) N) 4) = w6 at *
          go_loopw [13, 15] (fun lv iv W => ∃ (j : Nat) (S : Nat → Option Int) (seen : Nat → Bool) (last : Int), iv = .int .i64 j ∧ lv = .int .i64 last ∧ j ≤ N ∧ Hid (MX B w W [(g, N, S)] [(r2, .cells (bRow seen N) 4)]) ∧ Hid (PI N j K S seen last)) (fun _ iv _ => N - (intOf iv).toNat)
          case atStart => exact ⟨0, _, _, _, rfl, rfl, Nat.zero_le _, s4, HPI⟩
          case round =>
            clear s4 HPI hi hlt h2 h3
            obtain ⟨j, S, seen, last, rfl, rfl, hj, s, HP⟩ := hrel
            by_cases hlt : j < N
            · obtain ⟨x, y, hf⟩ : ∃ x y, Fst N S x y := by
                rcases s.out.cases 0 rfl with he | h
                · have := he.cnt
                  have := HP.out.c
                  omega
                · exact h
              obtain ⟨hp1, hy, hse, hla⟩ := HP.out.step hf
              have HN := hide_it hp1
              have hx := hf.lt
              have kp : Calls Try.prog 19 #[ptr g] wr fun e w' => e = .returned (.tuple #[.int .i64 x, .int .i64 y, .bool true]) ∧ Hid (MX B w w' [(g, N, upS S x none)] [(r2, .cells (bRow seen N) 4)]) := s.out.pop 0 rfl hf
              subst hy
              generalize upS S x none = S' at *
              go_upto_region 28 with (go_at_call 19; refine kp.mono ?_; rintro e w7 ⟨rfl, t⟩; clear s; have s := t; clear t)
              obtain ⟨cs, fs⟩ := s.out.bat hx
              rw [hse] at cs
              obtain ⟨kb, ko, rfl, ck⟩ := HK.out _ x s.out.bel hx
              have s8 := hide_it (s.out.bset x true (f' := fun j => if j = x then true else seen j) (fun j hj => rfl))
              have hxm : x < m := by omega
              have e1 : decide ((x : Int) < 0) = false := decide_eq_false (by omega)
              have e2 : decide ((N : Int) ≤ (x : Int)) = false := decide_eq_false (by omega)
              have e3 : decide (N ≤ x) = false := decide_eq_false (by omega)
              rcases hla with rfl | ⟨lx, rfl, hlx, hla⟩
              · have e4 : decide ((0 : Int) ≤ -1) = false := by decide
                clear hp1 hf hse kp HP s
                generalize K x = kx at *
                go_wp2
                go_roundw
                case rel => exact ⟨j + 1, _, _, _, by go_num, rfl, by omega, s8, HN⟩
                case measure => simp [intOf]; omega
              · obtain ⟨kb', ko', e, cl⟩ := HK.out _ lx s.out.bel hlx
                cases e
                have e4 : decide ((0 : Int) ≤ (lx : Int)) = true := decide_eq_true (by omega)
                have hlm : lx < m := by omega
                have e5 : decide (K x < K lx) = false := decide_eq_false (by omega)
                clear hp1 hf hse kp HP s
                by_cases hq : K lx = K x
                · have e6 : (K lx == K x) = true := by simp [hq]
                  have e7 : decide ((x : Int) < (lx : Int)) = false := decide_eq_false (by omega)
                  have e8 : decide (x < lx) = false := decide_eq_false (by omega)
                  clear hla
                  generalize K lx = kl at *
                  generalize K x = kx at *
                  go_wp2
                  go_roundw
                  case rel => exact ⟨j + 1, _, _, _, by go_num, rfl, by omega, s8, HN⟩
                  case measure => simp [intOf]; omega
                · have e6 : (K lx == K x) = false := by simp [hq]
                  clear hla
                  generalize K lx = kl at *
                  generalize K x = kx at *
                  go_wp2
                  go_roundw
                  case rel => exact ⟨j + 1, _, _, _, by go_num, rfl, by omega, s8, HN⟩
                  case measure => simp [intOf]; omega
            · have h2 : decide ((j : Int) < N) = false := by simp; omega
              have h3 : decide (j < N) = false := by simp; omega
              have he : Emp N S := by
                have hc := HP.out.c
                have := cnt_zero.1 (show M.cnt (fun x => (S x).isSome) N = 0 by omega)
                intro x hx
                have := this x hx
                simpa using this
              have kp := s.out.pop0 0 rfl he
              have kl : ∀ W, MX B w W [(g, N, S)] [(r2, .cells (bRow seen N) 4)] → Calls Try.prog 26 #[ptr g] W fun e w' => e = .returned (.int .i64 0) ∧ w' = W := fun W h => by
                have := h.len 0 rfl
                rw [he.cnt] at this
                exact this
              clear he HP
              go_wp2_with (first | (go_at_call 19; refine kp.mono ?_; rintro e w7 ⟨rfl, t⟩) | (go_at_call 26; refine (kl _ t.out).mono ?_; rintro e w8 ⟨rfl, rfl⟩))
              go_ret
              exact ⟨rfl, t.out.bel⟩
end Go.Proofs.Ytpcjaleogeoabaa
