/- HeapLeast, walked. -/
import Derived.Test.YtpcjaleogeoabaaRow
import Derived.Deep.CutRange
import Derived.Deep.CutBlock
namespace Go.Proofs.Ytpcjaleogeoabaa
open Go.RowKit
open M
set_option linter.unusedVariables false
set_option linter.unusedSimpArgs false

theorem cntA {p : Nat → Bool} {n : Nat} (h : ∀ x, x < n → p x = true) : M.cnt p n = n := by
  induction n with
  | zero => rfl
  | succ n ih => unfold M.cnt; rw [ih (fun x hx => h x (by omega)), h n (by omega)]; rfl

/-- Those of the first i are there. -/
def firstS (K : Nat → Int) (i : Nat) (x : Nat) : Option Int := if x < i then some (K x) else none
theorem firstS_push {K : Nat → Int} {N i : Nat} (hi : i < N) : pushE N (firstS K i) (i : Int) = 0 ∧ pushS N (firstS K i) (i : Int) (K i) = firstS K (i + 1) := by
  have h1 : hasB N (firstS K i) (i : Int) = false := by simp [hasB, firstS]
  have h2 := isId_nat N i hi
  refine ⟨by simp [pushE, h1, h2], ?_⟩
  unfold pushS
  rw [if_pos ⟨h2, h1⟩, Int.toNat_natCast]
  funext x
  unfold upS firstS
  by_cases e : x = i
  · subst e; simp
  · rw [if_neg e]
    by_cases e2 : x < i
    · rw [if_pos e2, if_pos (by omega)]
    · rw [if_neg e2, if_neg (by omega)]

/-- While ids are lowered. -/
structure LI (N t : Nat) (K : Nat → Int) (S : Nat → Option Int) (at0 : Nat → Nat) : Prop where
  s : ∀ x, x < N → (at0 x = 0 ∧ S x = some (K x)) ∨ (1 ≤ at0 x ∧ at0 x ≤ t ∧ S x = some (-4611686018427387904 - (at0 x : Int)))
  inj : ∀ x y, x < N → y < N → at0 x = at0 y → at0 x ≠ 0 → x = y
theorem LI.step {N t id : Nat} {K : Nat → Int} {S : Nat → Option Int} {at0 : Nat → Nat} (h : LI N t K S at0) (hK : ∀ x, x < N → -4611686018427387904 ≤ K x) (hid : id < N) :
    LI N (t + 1) K (upS S id (some (-4611686018427387904 - ((t + 1 : Nat) : Int)))) (fun j => if j = id then t + 1 else at0 j) ∧ lowE N S id (-4611686018427387904 - ((t + 1 : Nat) : Int)) = 0 ∧ lowS N S id (-4611686018427387904 - ((t + 1 : Nat) : Int)) = upS S id (some (-4611686018427387904 - ((t + 1 : Nat) : Int))) ∧ Fst N (upS S id (some (-4611686018427387904 - ((t + 1 : Nat) : Int)))) id (-4611686018427387904 - ((t + 1 : Nat) : Int)) := by
  have all : ∀ x, x < N → ∃ y, S x = some y ∧ -4611686018427387904 - ((t + 1 : Nat) : Int) < y := fun x hx => by
    rcases h.s x hx with ⟨_, q⟩ | ⟨q1, q2, q3⟩
    · exact ⟨_, q, by have := hK x hx; omega⟩
    · exact ⟨_, q3, by omega⟩
  obtain ⟨y, hy, hlt⟩ := all id hid
  have hb : hasB N S (id : Int) = true := by simp [hasB, isId_nat N id hid, hy]
  have hk : keyV N S (id : Int) = y := by simp [keyV, isId_nat N id hid, hy]
  refine ⟨⟨fun x hx => ?_, fun x z hx hz e hne => ?_⟩, ?_, ?_, ⟨hid, upS_is _ _ _, fun z u hz hu => ?_⟩⟩
  · by_cases e : x = id
    · subst e; exact .inr ⟨by simp, by simp, by rw [upS_is]; simp⟩
    · simp only [e, if_false]
      rw [upS_ne _ _ e]
      rcases h.s x hx with q | ⟨q1, q2, q3⟩
      · exact .inl q
      · exact .inr ⟨q1, by omega, q3⟩
  · by_cases e1 : x = id
    · by_cases e2 : z = id
      · omega
      · simp only [e1, if_true, e2, if_false] at e
        rcases h.s z hz with ⟨q, _⟩ | ⟨_, q, _⟩ <;> omega
    · by_cases e2 : z = id
      · simp only [e1, if_false, e2, if_true] at e
        rcases h.s x hx with ⟨q, _⟩ | ⟨_, q, _⟩ <;> omega
      · simp only [e1, if_false, e2] at e hne
        exact h.inj x z hx hz e hne
  · unfold lowE
    rw [isId_nat N id hid, hb, hk]
    simp only [if_true]
    rw [if_neg (by omega)]
  · unfold lowS
    rw [if_pos ⟨hb, by rw [hk]; omega⟩, Int.toNat_natCast]
  · by_cases e : z = id
    · subst e; rw [upS_is] at hu; cases hu; exact .inr ⟨rfl, Nat.le_refl _⟩
    · rw [upS_ne _ _ e] at hu
      obtain ⟨y', hy', hlt'⟩ := all z hz
      rw [hy'] at hu
      cases hu
      exact .inl hlt'

/-- While ids are popped. -/
structure QI (N j : Nat) (K : Nat → Int) (S : Nat → Option Int) (at0 : Nat → Nat) (last : Nat) : Prop where
  s : ∀ x, x < N → S x = none ∨ (at0 x = 0 ∧ S x = some (K x)) ∨ (1 ≤ at0 x ∧ S x = some (-4611686018427387904 - (at0 x : Int)))
  inj : ∀ x y, x < N → y < N → at0 x = at0 y → at0 x ≠ 0 → x = y
  c : M.cnt (fun x => (S x).isSome) N + j = N
  l : ∀ x, x < N → (S x).isSome = true → (last = 0 → at0 x = 0) ∧ (0 < last → at0 x < last)
theorem LI.done {N t : Nat} {K : Nat → Int} {S : Nat → Option Int} {at0 : Nat → Nat} (h : LI N t K S at0) : QI N 0 K S at0 (t + 1) := by
  refine ⟨fun x hx => ?_, h.inj, ?_, fun x hx _ => ⟨fun q => by omega, fun _ => ?_⟩⟩
  · rcases h.s x hx with q | ⟨q1, q2, q3⟩
    · exact .inr (.inl q)
    · exact .inr (.inr ⟨q1, q3⟩)
  · rw [cntA (fun x hx => by rcases h.s x hx with ⟨_, q⟩ | ⟨_, _, q⟩ <;> simp [q])]; rfl
  · rcases h.s x hx with ⟨q, _⟩ | ⟨_, q, _⟩ <;> omega
theorem QI.step {N j last : Nat} {K : Nat → Int} {S : Nat → Option Int} {at0 : Nat → Nat} (h : QI N j K S at0 last) (hK : ∀ x, x < N → -4611686018427387904 ≤ K x) {x : Nat} {y : Int} (hf : Fst N S x y) :
    QI N (j + 1) K (upS S x none) at0 (at0 x) ∧ (last = 0 → at0 x = 0) ∧ (0 < last → at0 x < last) := by
  have hl := h.l x hf.lt (by rw [hf.is]; rfl)
  refine ⟨⟨fun z hz => ?_, h.inj, ?_, fun z hz hs => ?_⟩, hl⟩
  · by_cases e : z = x
    · subst e; exact .inl (upS_is _ _ _)
    · rw [upS_ne _ _ e]; exact h.s z hz
  · have := cnt_set (p := fun y => (upS S x none y).isSome) (q := fun y => (S y).isSome) hf.lt (fun y hy hne => by rw [upS_ne S _ hne]) (by rw [upS_is]; rfl) (by rw [hf.is]; rfl)
    have := h.c
    omega
  · by_cases e : z = x
    · subst e; rw [upS_is] at hs; cases hs
    · rw [upS_ne _ _ e] at hs
      have kx := hK x hf.lt
      have hxs := h.s x hf.lt
      rw [hf.is] at hxs
      rcases h.s z hz with q | ⟨q1, q2⟩ | ⟨q1, q2⟩
      · rw [q] at hs; cases hs
      · exact ⟨fun _ => q1, fun q => by omega⟩
      · have hle := hf.le z _ hz q2
        rcases hxs with q3 | ⟨q3, q4⟩ | ⟨q3, q4⟩
        · cases q3
        · cases q4
          exact ⟨fun _ => by omega, fun q => by omega⟩
        · cases q4
          have hne : at0 z ≠ at0 x := fun q => e (h.inj z x hz hf.lt q (by omega))
          exact ⟨fun q => by omega, fun _ => by omega⟩

set_option maxRecDepth 1000000 in
set_option maxHeartbeats 8000000 in
theorem heapLeast_walk (ls : List Int) (a : Option Addr) (cap : Nat) (us : List Int) (b : Option Addr) (cap1 : Nat) (w : World) (hI : NumsIn .i64 w a ls) (hl : ls.length ≤ cap) (hc : cap ≤ maxLen) (hwf : ∀ y ∈ ls, (Lit.int .i64 y).wf = true) (hI1 : NumsIn .u8 w b us) (hl1 : us.length ≤ cap1) (hc1 : cap1 ≤ maxLen) (hwf1 : ∀ y ∈ us, (Lit.int .u8 y).wf = true) :
    Calls Try.prog 10 #[.slice a ls.length cap, .slice b us.length cap1] w fun e w' => e = .returned (.bool true) ∧ Below w.heap.size w w' := by
  obtain ⟨B, hB⟩ : ∃ B, w.heap.size = B := ⟨_, rfl⟩
  have ks : Calls Try.prog 11 #[] w fun e w' => e = .returned (.bool true) ∧ Hid (Below B w w') := by
    have := shown_any w
    rw [hB] at this
    exact this
  have hle : B ≤ w.heap.size := by omega
  have hcm : cap ≤ 9223372036854775807 := by unfold maxLen at hc; omega
  have hcm1 : cap1 ≤ 9223372036854775807 := by unfold maxLen at hc1; omega
  obtain ⟨m, hm⟩ : ∃ m, ls.length = m := ⟨_, rfl⟩
  obtain ⟨m1, hm1⟩ : ∃ m, us.length = m := ⟨_, rfl⟩
  obtain ⟨N, hN⟩ : ∃ N, min m 60 = N := ⟨_, rfl⟩
  have hNm : N ≤ m := by omega
  have hN1 : N ≤ 60 := by omega
  have hmin : ∀ (ts : Array TypeId) (t : TypeId) (W : World), (Builtin.min_ ts t #[.int .i64 (m : Int), .int .i64 60]).run Try.prog W = .ok (.int .i64 (N : Int)) W := fun ts t W => by
    have := min_num m 60 ts t W
    rw [hN] at this
    exact this
  obtain ⟨K, hK⟩ : ∃ K, nth ls = K := ⟨_, rfl⟩
  have HK : Hid (∀ (W : World) (i : Nat), Below B w W → i < N → ∃ kb ko, a = some ⟨kb, ko, none⟩ ∧ W.cell? ⟨kb, ko + i, none⟩ = some (.int .i64 (K i)) ∧ -9223372036854775808 ≤ K i ∧ K i ≤ 9223372036854775807) := fun W i hb hi => by
    obtain ⟨kb, ko, h1, h2⟩ := hI.at (hB ▸ hb) (i := i) (by omega)
    rw [← hK]
    refine ⟨kb, ko, h1, h2, ?_⟩
    exact bounds_i64 (hwf (nth ls i) (by
      have hlt : i < ls.length := by omega
      have e : nth ls i = ls[i] := by simp [nth, hlt]
      rw [e]; exact List.getElem_mem hlt))
  have HU : Hid (∀ (W : World) (i : Nat), Below B w W → i < m1 → ∃ kb ko v, b = some ⟨kb, ko, none⟩ ∧ W.cell? ⟨kb, ko + i, none⟩ = some (.int .u8 v) ∧ 0 ≤ v ∧ v ≤ 255) := fun W i hb hi => by
    obtain ⟨kb, ko, h1, h2⟩ := hI1.at (hB ▸ hb) (i := i) (by omega)
    refine ⟨kb, ko, _, h1, h2, ?_⟩
    have := hwf1 (nth us i) (by
      have hlt : i < us.length := by omega
      have e : nth us i = us[i] := by simp [nth, hlt]
      rw [e]; exact List.getElem_mem hlt)
    exact bounds_u8 this
  have kn : ∀ W, Below B w W → Calls Try.prog 12 #[.int .i64 N] W fun e w' => ∃ g, e = .returned (ptr g) ∧ Hid (MX B w w' [(g, N, fun _ => none)] []) := fun W hb => by
    have := (mx_start hb hle).new (N : Int)
    rw [hsz_in N (by omega)] at this
    exact this
  have kmi := make_ints N (by omega)
  rw [hm] at hl ⊢
  rw [hm1] at hl1 ⊢
  rw [hB]
  clear hI hI1 hc hc1 hB hwf hwf1 hm hm1 hN hK
  go_enter Try.func10, Try.ntmps10
  go_wp2_with (first | (go_at_call 11; refine ks.mono ?_; rintro e w1 ⟨rfl, s1⟩; clear ks) | (go_at_call 12; refine (kn _ s1.out).mono ?_; rintro e w2 ⟨g, rfl, s⟩; clear kn s1))
  have s0 : Hid (MX B w w2 [(g, N, firstS (fun x => K x / 2) 0)] []) := by
    have := s.out.congr 0 rfl (S' := firstS (fun x => K x / 2) 0) (fun x _ => by simp [firstS])
    exact this
  clear s
  go_loopw [8] (fun iv W => ∃ k : Nat, iv = .int .i64 k ∧ k ≤ N ∧ Hid (MX B w W [(g, N, firstS (fun x => K x / 2) k)] [])) (fun iv _ => N - (intOf iv).toNat)
  case atStart => exact ⟨0, rfl, Nat.zero_le _, s0⟩
  case round =>
    clear s0
    obtain ⟨k, rfl, hk, s⟩ := hrel
    by_cases hlt : k < N
    · obtain ⟨kb, ko, rfl, ck, hk1, hk2⟩ := HK.out _ k s.out.bel hlt
      have kp : Calls Try.prog 13 #[ptr g, .int .i64 k, .int .i64 (K k / 2)] wr fun e w' => e = .returned (.int .i64 0) ∧ Hid (MX B w w' [(g, N, firstS (fun x => K x / 2) (k + 1))] []) := by
        have := s.out.push 0 rfl (k : Int) (K k / 2)
        rw [(firstS_push hlt).1, show pushS N (firstS (fun x => K x / 2) k) (k : Int) (K k / 2) = firstS (fun x => K x / 2) (k + 1) from (firstS_push (K := fun x => K x / 2) hlt).2] at this
        exact this
      have hkm : k < m := by omega
      generalize K k = kk at *
      go_wp2_with (go_at_call 13; refine kp.mono ?_; rintro e w3 ⟨rfl, t⟩)
      go_roundw
      case rel => exact ⟨k + 1, by go_num, by omega, t⟩
      case measure => simp [intOf]; omega
    · have h2 : decide ((k : Int) < N) = false := by simp; omega
      have h3 : decide (k < N) = false := by simp; omega
      have hkN : k = N := by omega
      obtain ⟨K2, hK2⟩ : ∃ K2 : Nat → Int, (fun x => K x / 2) = K2 := ⟨_, rfl⟩
      have HB : Hid (∀ x, x < N → -4611686018427387904 ≤ K2 x) := fun x hx => by
        obtain ⟨_, _, _, _, q, _⟩ := HK.out _ x s.out.bel hx
        rw [← hK2]
        show -4611686018427387904 ≤ K x / 2
        omega
      rw [hK2, hkN] at s
      have hli : LI N 0 K2 (firstS K2 N) (fun _ => 0) := ⟨fun x hx => .inl ⟨rfl, by simp [firstS, hx]⟩, fun x y _ _ _ q => absurd rfl q⟩
      have HL := hide_it hli
      have s4 : Hid (MX B w (wr.alloc (.cells (iRow (fun _ => 0) N) 3)) [(g, N, firstS K2 N)] [(wr.heap.size, .cells (iRow (nI (fun _ => 0)) N) 3)]) := s.out.alloc (.cells (iRow (fun _ => 0) N) 3)
      clear s hli HK hkN hk
      generalize firstS K2 N = S0 at *
      go_wp2
      obtain ⟨r, hr⟩ : ∃ r, wr.heap.size = r := ⟨_, rfl⟩
      rw [hr] at s4
      simp only [hr]
      clear hr
      generalize wr.alloc (.cells (iRow (fun _ => 0) N) 3) = w3 at *
      go_loopw [10, 11, 12] (fun lv tv iv W => ∃ (t : Nat) (S : Nat → Option Int) (at0 : Nat → Nat), iv = .int .i64 t ∧ tv = .int .i64 t ∧ lv = .int .i64 (-4611686018427387904 - (t : Int)) ∧ t ≤ 60 ∧ Hid (MX B w W [(g, N, S)] [(r, .cells (iRow (nI at0) N) 3)]) ∧ Hid (LI N t K2 S at0)) (fun _ _ iv _ => 60 - (intOf iv).toNat)
      case atStart => exact ⟨0, _, _, rfl, rfl, rfl, by omega, s4, HL⟩
      case round =>
        clear s4 HL hlt h2 h3
        obtain ⟨t, S, at0, rfl, rfl, rfl, ht, s, HL⟩ := hrel
        by_cases h0 : 0 < N
        · have d0 : decide (0 < (N : Int)) = true := decide_eq_true (by omega)
          have d0' : decide (0 < N) = true := decide_eq_true (by omega)
          by_cases h1 : t < m1
          · have d1 : decide ((t : Int) < (m1 : Int)) = true := decide_eq_true (by omega)
            have d1' : decide (t < m1) = true := decide_eq_true (by omega)
            by_cases h2 : t < 60
            · have d2 : decide ((t : Int) < 60) = true := decide_eq_true (by omega)
              have d2' : decide (t < 60) = true := decide_eq_true (by omega)
              obtain ⟨ub, uo, v, rfl, cu, hv0, hv1⟩ := HU.out _ t s.out.bel h1
              obtain ⟨vn, rfl⟩ : ∃ vn : Nat, v = vn := ⟨v.toNat, by omega⟩
              obtain ⟨id, hid⟩ : ∃ q, vn % N = q := ⟨_, rfl⟩
              have hidN : id < N := by rw [← hid]; exact Nat.mod_lt _ h0
              have x2 : ((vn : Int)).tmod (N : Int) = (id : Int) := by rw [Int.tmod_eq_emod_of_nonneg (by omega), ← hid]; rfl
              have x4 : ¬ (N : Int) = 0 := by omega
              have x5 : ((N : Int) == 0) = false := by rw [beq_eq_false_iff_ne]; exact x4
              have x6 : ¬ N = 0 := by omega
              obtain ⟨g1, g2, g3, g4⟩ := HL.out.step HB.out hidN
              obtain ⟨t1, ht1⟩ : ∃ t1, t + 1 = t1 := ⟨_, rfl⟩
              rw [ht1] at g1 g2 g3 g4
              obtain ⟨le, hle1⟩ : ∃ le : Int, -4611686018427387904 - (t1 : Int) = le := ⟨_, rfl⟩
              have y1 : (t : Int) + 1 = (t1 : Int) := by omega
              have y2 : -4611686018427387904 - (t : Int) - 1 = le := by omega
              have HLE := hide_it hle1
              rw [hle1] at g1 g2 g3 g4
              have HN := hide_it g1
              have hleb : -9223372036854775808 ≤ le ∧ le ≤ 0 := by omega
              obtain ⟨ca, fa⟩ := s.out.iat hidN
              have s5 := hide_it (s.out.iset id (t1 : Int) (f' := nI (fun j => if j = id then t1 else at0 j)) (fun j hj => by
                unfold nI
                by_cases e : j = id
                · simp [e]
                · simp [e]))
              have kl : Calls Try.prog 15 #[ptr g, .int .i64 id, .int .i64 le] (wr.setCell ⟨r, id, none⟩ (.int .i64 (t1 : Int))) fun e w' => e = .returned (.int .i64 0) ∧ Hid (MX B w w' [(g, N, upS S id (some le))] [(r, .cells (iRow (nI (fun j => if j = id then t1 else at0 j)) N) 3)]) := by
                have := s5.out.lower 0 rfl (id : Int) le
                rw [g2, g3] at this
                exact this
              have kf : ∀ W, MX B w W [(g, N, upS S id (some le))] [(r, .cells (iRow (nI (fun j => if j = id then t1 else at0 j)) N) 3)] → Calls Try.prog 21 #[ptr g] W fun e w' => e = .returned (.tuple #[.int .i64 id, .int .i64 le, .bool true]) ∧ Hid (MX B w w' [(g, N, upS S id (some le))] [(r, .cells (iRow (nI (fun j => if j = id then t1 else at0 j)) N) 3)]) := fun W h => h.first 0 rfl g4
              generalize upS S id (some le) = S1 at *
              generalize (fun j => if j = id then t1 else at0 j) = at1 at *
              obtain ⟨av, hav⟩ : ∃ av, nI at0 id = av := ⟨_, rfl⟩
              rw [hav] at ca
              clear s s5 g1 g2 g3 g4 HL hid hle1 hav
              have yb : -4611686018427387904 - (t : Int) ≤ 0 := by omega
              go_wp2_with (first | (go_at_call 15; refine kl.mono ?_; rintro e w5 ⟨rfl, s6⟩) | (go_at_call 21; refine (kf _ s6.out).mono ?_; rintro e w6 ⟨rfl, s7⟩))
              go_roundw
              case rel =>
                refine ⟨t1, S1, at1, by first | rfl | go_num, rfl, ?_, by omega, s7, HN⟩
                rw [HLE.out]
              case measure => simp [intOf]; omega
            · have d2 : decide ((t : Int) < 60) = false := decide_eq_false (by omega)
              have d2' : decide (t < 60) = false := decide_eq_false (by omega)
              have HQ := hide_it HL.out.done
              obtain ⟨l0, hl0⟩ : ∃ l0, t + 1 = l0 := ⟨_, rfl⟩
              rw [hl0] at HQ
              have y1 : (t : Int) + 1 = (l0 : Int) := by omega
              have hlb : l0 ≤ 61 := by omega
              have HAT : Hid (∀ x, x < N → at0 x ≤ 60) := fun x hx => by
                rcases HL.out.s x hx with ⟨q, _⟩ | ⟨_, q, _⟩ <;> omega
              have s9 := s
              clear s HL HU hl0
              go_wp2
              go_loopw [17, 18] (fun lv iv W => ∃ (j last : Nat) (S : Nat → Option Int), iv = .int .i64 j ∧ lv = .int .i64 last ∧ j ≤ N ∧ last ≤ 61 ∧ Hid (MX B w W [(g, N, S)] [(r, .cells (iRow (nI at0) N) 3)]) ∧ Hid (QI N j K2 S at0 last)) (fun _ iv _ => N - (intOf iv).toNat)
              case atStart => exact ⟨0, l0, _, rfl, rfl, Nat.zero_le _, hlb, s9, HQ⟩
              case round =>
                clear s9 HQ
                obtain ⟨j, last, S, rfl, rfl, hj, hlast, s, HQ⟩ := hrel
                by_cases hjl : j < N
                · have z1 : decide ((j : Int) < (N : Int)) = true := decide_eq_true (by omega)
                  have z1' : decide (j < N) = true := decide_eq_true (by omega)
                  obtain ⟨x, y, hf⟩ : ∃ x y, Fst N S x y := by
                    rcases s.out.cases 0 rfl with he | h
                    · have := he.cnt
                      have := HQ.out.c
                      omega
                    · exact h
                  obtain ⟨q1, q2, q3⟩ := HQ.out.step HB.out hf
                  have HN := hide_it q1
                  have hx := hf.lt
                  have hax := HAT.out x hx
                  have kp : Calls Try.prog 19 #[ptr g] wr fun e w' => e = .returned (.tuple #[.int .i64 x, .int .i64 y, .bool true]) ∧ Hid (MX B w w' [(g, N, upS S x none)] [(r, .cells (iRow (nI at0) N) 3)]) := s.out.pop 0 rfl hf
                  have HC : Hid (∀ W S', MX B w W [(g, N, S')] [(r, .cells (iRow (nI at0) N) 3)] → W.cell? ⟨r, x, none⟩ = some (.int .i64 (at0 x : Nat))) := fun W S' h => (h.iat hx).1
                  clear q1 hf HQ s
                  generalize at0 x = ax at *
                  generalize upS S x none = S1 at *
                  rcases Nat.eq_zero_or_pos last with hl | hl
                  · subst hl
                    have := q2 rfl
                    subst this
                    clear q2 q3
                    go_wp2_with (go_at_call 19; refine kp.mono ?_; rintro e w7 ⟨rfl, t7⟩; have c7 := HC.out _ _ t7.out)
                    go_roundw
                    case rel => exact ⟨j + 1, 0, S1, by go_num, rfl, by omega, by omega, t7, HN⟩
                    case measure => simp [intOf]; omega
                  · have hq := q3 hl
                    have v1 : decide ((last : Int) ≤ (ax : Int)) = false := decide_eq_false (by omega)
                    have v1' : decide (last ≤ ax) = false := decide_eq_false (by omega)
                    have v2 : ((last : Int) == 0) = false := by rw [beq_eq_false_iff_ne]; omega
                    have v2' : ¬ last = 0 := by omega
                    clear q2 q3
                    go_wp2_with (go_at_call 19; refine kp.mono ?_; rintro e w7 ⟨rfl, t7⟩; have c7 := HC.out _ _ t7.out)
                    go_roundw
                    case rel => exact ⟨j + 1, ax, S1, by go_num, rfl, by omega, by omega, t7, HN⟩
                    case measure => simp [intOf]; omega
                · have z1 : decide ((j : Int) < (N : Int)) = false := decide_eq_false (by omega)
                  have z1' : decide (j < N) = false := decide_eq_false (by omega)
                  go_wp2
                  go_ret
                  exact ⟨rfl, s.out.bel⟩
          · have d1 : decide ((t : Int) < (m1 : Int)) = false := decide_eq_false (by omega)
            have d1' : decide (t < m1) = false := decide_eq_false (by omega)
            have HQ := hide_it HL.out.done
            obtain ⟨l0, hl0⟩ : ∃ l0, t + 1 = l0 := ⟨_, rfl⟩
            rw [hl0] at HQ
            have y1 : (t : Int) + 1 = (l0 : Int) := by omega
            have hlb : l0 ≤ 61 := by omega
            have HAT : Hid (∀ x, x < N → at0 x ≤ 60) := fun x hx => by
              rcases HL.out.s x hx with ⟨q, _⟩ | ⟨_, q, _⟩ <;> omega
            have s9 := s
            clear s HL HU hl0
            go_wp2
            go_loopw [17, 18] (fun lv iv W => ∃ (j last : Nat) (S : Nat → Option Int), iv = .int .i64 j ∧ lv = .int .i64 last ∧ j ≤ N ∧ last ≤ 61 ∧ Hid (MX B w W [(g, N, S)] [(r, .cells (iRow (nI at0) N) 3)]) ∧ Hid (QI N j K2 S at0 last)) (fun _ iv _ => N - (intOf iv).toNat)
            case atStart => exact ⟨0, l0, _, rfl, rfl, Nat.zero_le _, hlb, s9, HQ⟩
            case round =>
              clear s9 HQ
              obtain ⟨j, last, S, rfl, rfl, hj, hlast, s, HQ⟩ := hrel
              by_cases hjl : j < N
              · have z1 : decide ((j : Int) < (N : Int)) = true := decide_eq_true (by omega)
                have z1' : decide (j < N) = true := decide_eq_true (by omega)
                obtain ⟨x, y, hf⟩ : ∃ x y, Fst N S x y := by
                  rcases s.out.cases 0 rfl with he | h
                  · have := he.cnt
                    have := HQ.out.c
                    omega
                  · exact h
                obtain ⟨q1, q2, q3⟩ := HQ.out.step HB.out hf
                have HN := hide_it q1
                have hx := hf.lt
                have hax := HAT.out x hx
                have kp : Calls Try.prog 19 #[ptr g] wr fun e w' => e = .returned (.tuple #[.int .i64 x, .int .i64 y, .bool true]) ∧ Hid (MX B w w' [(g, N, upS S x none)] [(r, .cells (iRow (nI at0) N) 3)]) := s.out.pop 0 rfl hf
                have HC : Hid (∀ W S', MX B w W [(g, N, S')] [(r, .cells (iRow (nI at0) N) 3)] → W.cell? ⟨r, x, none⟩ = some (.int .i64 (at0 x : Nat))) := fun W S' h => (h.iat hx).1
                clear q1 hf HQ s
                generalize at0 x = ax at *
                generalize upS S x none = S1 at *
                rcases Nat.eq_zero_or_pos last with hl | hl
                · subst hl
                  have := q2 rfl
                  subst this
                  clear q2 q3
                  go_wp2_with (go_at_call 19; refine kp.mono ?_; rintro e w7 ⟨rfl, t7⟩; have c7 := HC.out _ _ t7.out)
                  go_roundw
                  case rel => exact ⟨j + 1, 0, S1, by go_num, rfl, by omega, by omega, t7, HN⟩
                  case measure => simp [intOf]; omega
                · have hq := q3 hl
                  have v1 : decide ((last : Int) ≤ (ax : Int)) = false := decide_eq_false (by omega)
                  have v1' : decide (last ≤ ax) = false := decide_eq_false (by omega)
                  have v2 : ((last : Int) == 0) = false := by rw [beq_eq_false_iff_ne]; omega
                  have v2' : ¬ last = 0 := by omega
                  clear q2 q3
                  go_wp2_with (go_at_call 19; refine kp.mono ?_; rintro e w7 ⟨rfl, t7⟩; have c7 := HC.out _ _ t7.out)
                  go_roundw
                  case rel => exact ⟨j + 1, ax, S1, by go_num, rfl, by omega, by omega, t7, HN⟩
                  case measure => simp [intOf]; omega
              · have z1 : decide ((j : Int) < (N : Int)) = false := decide_eq_false (by omega)
                have z1' : decide (j < N) = false := decide_eq_false (by omega)
                go_wp2
                go_ret
                exact ⟨rfl, s.out.bel⟩
        · have d0 : decide (0 < (N : Int)) = false := decide_eq_false (by omega)
          have d0' : decide (0 < N) = false := decide_eq_false (by omega)
          have HQ := hide_it HL.out.done
          obtain ⟨l0, hl0⟩ : ∃ l0, t + 1 = l0 := ⟨_, rfl⟩
          rw [hl0] at HQ
          have y1 : (t : Int) + 1 = (l0 : Int) := by omega
          have hlb : l0 ≤ 61 := by omega
          have HAT : Hid (∀ x, x < N → at0 x ≤ 60) := fun x hx => by
            rcases HL.out.s x hx with ⟨q, _⟩ | ⟨_, q, _⟩ <;> omega
          have s9 := s
          clear s HL HU hl0
          go_wp2
          go_loopw [17, 18] (fun lv iv W => ∃ (j last : Nat) (S : Nat → Option Int), iv = .int .i64 j ∧ lv = .int .i64 last ∧ j ≤ N ∧ last ≤ 61 ∧ Hid (MX B w W [(g, N, S)] [(r, .cells (iRow (nI at0) N) 3)]) ∧ Hid (QI N j K2 S at0 last)) (fun _ iv _ => N - (intOf iv).toNat)
          case atStart => exact ⟨0, l0, _, rfl, rfl, Nat.zero_le _, hlb, s9, HQ⟩
          case round =>
            clear s9 HQ
            obtain ⟨j, last, S, rfl, rfl, hj, hlast, s, HQ⟩ := hrel
            by_cases hjl : j < N
            · have z1 : decide ((j : Int) < (N : Int)) = true := decide_eq_true (by omega)
              have z1' : decide (j < N) = true := decide_eq_true (by omega)
              obtain ⟨x, y, hf⟩ : ∃ x y, Fst N S x y := by
                rcases s.out.cases 0 rfl with he | h
                · have := he.cnt
                  have := HQ.out.c
                  omega
                · exact h
              obtain ⟨q1, q2, q3⟩ := HQ.out.step HB.out hf
              have HN := hide_it q1
              have hx := hf.lt
              have hax := HAT.out x hx
              have kp : Calls Try.prog 19 #[ptr g] wr fun e w' => e = .returned (.tuple #[.int .i64 x, .int .i64 y, .bool true]) ∧ Hid (MX B w w' [(g, N, upS S x none)] [(r, .cells (iRow (nI at0) N) 3)]) := s.out.pop 0 rfl hf
              have HC : Hid (∀ W S', MX B w W [(g, N, S')] [(r, .cells (iRow (nI at0) N) 3)] → W.cell? ⟨r, x, none⟩ = some (.int .i64 (at0 x : Nat))) := fun W S' h => (h.iat hx).1
              clear q1 hf HQ s
              generalize at0 x = ax at *
              generalize upS S x none = S1 at *
              rcases Nat.eq_zero_or_pos last with hl | hl
              · subst hl
                have := q2 rfl
                subst this
                clear q2 q3
                go_wp2_with (go_at_call 19; refine kp.mono ?_; rintro e w7 ⟨rfl, t7⟩; have c7 := HC.out _ _ t7.out)
                go_roundw
                case rel => exact ⟨j + 1, 0, S1, by go_num, rfl, by omega, by omega, t7, HN⟩
                case measure => simp [intOf]; omega
              · have hq := q3 hl
                have v1 : decide ((last : Int) ≤ (ax : Int)) = false := decide_eq_false (by omega)
                have v1' : decide (last ≤ ax) = false := decide_eq_false (by omega)
                have v2 : ((last : Int) == 0) = false := by rw [beq_eq_false_iff_ne]; omega
                have v2' : ¬ last = 0 := by omega
                clear q2 q3
                go_wp2_with (go_at_call 19; refine kp.mono ?_; rintro e w7 ⟨rfl, t7⟩; have c7 := HC.out _ _ t7.out)
                go_roundw
                case rel => exact ⟨j + 1, ax, S1, by go_num, rfl, by omega, by omega, t7, HN⟩
                case measure => simp [intOf]; omega
            · have z1 : decide ((j : Int) < (N : Int)) = false := decide_eq_false (by omega)
              have z1' : decide (j < N) = false := decide_eq_false (by omega)
              go_wp2
              go_ret
              exact ⟨rfl, s.out.bel⟩
end Go.Proofs.Ytpcjaleogeoabaa
