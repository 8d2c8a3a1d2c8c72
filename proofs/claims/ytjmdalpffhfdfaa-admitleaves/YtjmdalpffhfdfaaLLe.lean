/- AdmitLeaves, walked. -/
import Derived.Test.YtjmdalpffhfdfaaSho
import Derived.Test.YtjmdalpffhfdfaaArg
import Derived.Deep.RegionHeld3
import Derived.Deep.CutRange
import Derived.Deep.CutBlock
import Derived.BigQuiet
import Derived.Deep.RegionWith
import Derived.Test.YtjmdalpffhfdfaaSam
import Derived.Test.YtjmdalpffhfdfaaOwn
namespace Go.Proofs.Ytjmdalpffhfdfaa
open Go.RowKit
open M
set_option linter.unusedVariables false
set_option linter.unusedSimpArgs false

abbrev st (A Q : List Int) : Ad := ⟨1, 20, A, Q⟩
/-- The numbers from i on, below n. -/
def rst (i n : Nat) : List Int := (List.range' i (n - i)).map fun (k : Nat) => (k : Int)
theorem rst_len (i n : Nat) : (rst i n).length = n - i := by simp [rst]
theorem rst_mem {i n : Nat} {z : Int} : z ∈ rst i n → (i : Int) ≤ z ∧ z < n := by
  intro h
  obtain ⟨k, hk, rfl⟩ := List.mem_map.1 h
  obtain ⟨j, hj, rfl⟩ := List.mem_range'.1 hk
  omega
theorem rst_cons {i n : Nat} (h : i < n) : rst i n = (i : Int) :: rst (i + 1) n := by
  unfold rst
  rw [show n - i = (n - (i + 1)) + 1 by omega, List.range'_succ]
  rfl
theorem rst_nil (n : Nat) : rst n n = [] := by simp [rst]
theorem rst_snoc (n : Nat) : rst 0 (n + 1) = rst 0 n ++ [(n : Int)] := by
  unfold rst
  rw [Nat.sub_zero, Nat.sub_zero, List.range'_1_concat, List.map_append]
  simp
theorem le_add {i : Nat} (h : i < 20) : ts (st [500] (rst 0 i)) i = 0 ∧ te (st [500] (rst 0 i)) i = 0 ∧ tx (st [500] (rst 0 i)) i = st [500] (rst 0 (i + 1)) := by
  have h1 : ¬ ((i : Int) ∈ [(500 : Int)] ∨ (i : Int) ∈ rst 0 i) := by
    rintro (e | e)
    · have := List.mem_singleton.1 e; omega
    · have := rst_mem e; omega
  have h2 : ¬ (([(500 : Int)].length : Int) < 1) := by simp
  have h3 : ((rst 0 i).length : Int) < 20 := by rw [rst_len]; omega
  unfold ts te tx
  simp only [if_neg h1, if_neg h2, if_pos h3]
  exact ⟨trivial, trivial, by rw [rst_snoc]⟩
theorem le_go {i n : Nat} {L : List Int} (h : i < n) (hL : ∀ z ∈ L, z < (i : Int)) : es (st [500] (L ++ rst i n)) i = -1 ∧ ee (st [500] (L ++ rst i n)) i = 0 ∧ ex (st [500] (L ++ rst i n)) i = st [500] (L ++ rst (i + 1) n) := by
  have hm : (i : Int) ∈ L ++ rst i n := by rw [rst_cons h]; simp
  have hn : ¬ (i : Int) ∈ L := fun e => by have := hL _ e; omega
  have he : (L ++ rst i n).erase (i : Int) = L ++ rst (i + 1) n := by
    rw [List.erase_append_right _ hn, rst_cons h, List.erase_cons_head]
  unfold es ee ex
  simp only [if_pos hm, if_pos (Or.inr hm : (i : Int) ∈ [(500 : Int)] ∨ (i : Int) ∈ L ++ rst i n), he]
  exact ⟨trivial, trivial, trivial⟩
theorem le_nil (z : Int) : es (st [z] []) z = -1 ∧ ee (st [z] []) z = 0 ∧ ex (st [z] []) z = st [] [] := by
  unfold es ee ex
  simp
theorem le_cons {z y : Int} {r : List Int} (h : Inv (st [z] (y :: r))) : es (st [z] (y :: r)) z = y ∧ ee (st [z] (y :: r)) z = 0 ∧ ex (st [z] (y :: r)) z = st [y] r := by
  have hn : ¬ z ∈ y :: r := h.dis (List.mem_singleton.2 rfl)
  unfold es ee ex
  simp only [if_neg hn, List.mem_singleton, true_or, if_true, List.head?_cons, Option.getD_some, Option.toList_some, List.tail_cons, List.erase_cons_head, List.nil_append]
  exact ⟨trivial, trivial, trivial⟩

set_option maxRecDepth 1000000 in
set_option maxHeartbeats 4000000 in
theorem admitLeaves_walk (nn : Int) (l : List Bool) (a : Option Addr) (cap : Nat) (w : World) (hI : BoolsIn w a l) (hl : l.length ≤ cap) (hc : cap ≤ maxLen) :
    Calls Try.prog 7 #[.int .i64 nn, .slice a l.length cap] w fun e w' => e = .returned (.bool true) ∧ Below w.heap.size w w' := by
  obtain ⟨B, hB⟩ : ∃ B, w.heap.size = B := ⟨_, rfl⟩
  have ks : Calls Try.prog 10 #[] w fun e w' => e = .returned (.bool true) ∧ Hid (Below B w w') := by
    have := shown_any w
    rw [hB] at this
    exact this
  have hlo : B ≤ w.heap.size := by omega
  obtain ⟨u0, e16, hu0⟩ := and16 nn
  obtain ⟨n, hn⟩ : ∃ v, u0 % 21 = v := ⟨_, rfl⟩
  have r16 : (u0 : Int).tmod 21 = (n : Int) := by rw [Int.tmod_eq_emod_of_nonneg (by omega)]; omega
  have r16' : (u0 : Int) % 21 = (n : Int) := by omega
  have hn20 : n ≤ 20 := by omega
  have kn : ∀ W, Below B w W → Calls Try.prog 11 #[.int .i64 1, .int .i64 20] W fun e w' => ∃ b, e = .returned (ptr b) ∧ Hid (MX B w w' [(b, st [] [])] []) := fun W hb => (mx_start hb hlo).new 1 20 (by omega) (by omega)
  have k5 : ∀ W b, MX B w W [(b, st [] [])] [] → Calls Try.prog 12 #[ptr b, .int .i64 500] W fun e w' => e = .returned (.tuple #[.int .i64 1, .int .i64 0]) ∧ Hid (MX B w w' [(b, st [500] (rst 0 0))] []) := fun W b h => h.add 0 rfl (by decide) 500
  have hcm : cap ≤ 9223372036854775807 := by unfold maxLen at hc; omega
  obtain ⟨m, hm⟩ : ∃ m, l.length = m := ⟨_, rfl⟩
  have HI : Hid (∀ (i : Nat), i < m → ∃ x b o, a = some ⟨b, o, none⟩ ∧ ∀ W, Below B w W → W.cell? ⟨b, o + i, none⟩ = some (.bool x)) := fun i hi => by
    have := hI.get (i := i) (by omega)
    rw [hB] at this
    exact this
  have HQ : Hid (∀ W b A Q, MX B w W [(b, st A Q)] [] → siz (st A Q) ≤ 100) := fun W b A Q h => by
    have h1 := (h.inv 0 rfl).la
    have h2 := (h.inv 0 rfl).lq
    simp only at h1 h2
    unfold siz
    simp only
    omega
  have HQ2 : Hid (∀ W b A Q v L, PT B w W [(b, st A Q)] v L → siz (st A Q) ≤ 100) := fun W b A Q v L h => HQ.out _ _ _ _ h.mx
  have kA : ∀ b W (i : Nat), i < 20 → MX B w W [(b, st [500] (rst 0 i))] [] → Calls Try.prog 12 #[ptr b, .int .i64 i] W fun e w' => e = .returned (.tuple #[.int .i64 0, .int .i64 0]) ∧ Hid (MX B w w' [(b, st [500] (rst 0 (i + 1)))] []) := fun b W i hi h => by
    have := h.add 0 rfl (by have := HQ.out _ _ _ _ h; omega) i
    obtain ⟨e1, e2, e3⟩ := le_add hi
    rw [e1, e2, e3] at this
    exact this
  have HA := hide_it kA
  have HG : Hid (∀ b W (i : Nat) v L, i < n → (∀ z ∈ L, z < (i : Int)) → PT B w W [(b, st [500] (L ++ rst i n))] v L → Calls Try.prog 14 #[ptr b, .int .i64 i] W fun e w' => e = .returned (.tuple #[.int .i64 (-1), .int .i64 0]) ∧ Hid (PT B w w' [(b, st [500] (L ++ rst (i + 1) n))] v L)) := fun b W i v L hi hz h => by
    obtain ⟨e1, e2, e3⟩ := le_go (n := n) hi hz
    refine h.own (p := fun e => e = .returned (.tuple #[.int .i64 (-1), .int .i64 0])) (fun R g => ?_)
    have := g.end_ 0 rfl (by have := HQ2.out _ _ _ _ _ _ h; omega) i
    rw [e1, e2, e3] at this
    exact this
  have HE : Hid (∀ b W A Q v L, PT B w W [(b, st A Q)] v L → (Calls Try.prog 16 #[ptr b] W fun e w' => ∃ a c, e = .returned (.slice a A.length c) ∧ Hid (PT B w w' [(b, st A Q)] v L ∧ Rd w' a A c ∧ Below W.heap.size W w')) ∧ (Calls Try.prog 17 #[ptr b] W fun e w' => ∃ a c, e = .returned (.slice a Q.length c) ∧ Hid (PT B w w' [(b, st A Q)] v L ∧ Rd w' a Q c ∧ Below W.heap.size W w'))) := fun b W A Q v L h => by
    have hz := HQ2.out _ _ _ _ _ _ h
    refine ⟨(h.mx.act 0 rfl (by omega)).mono ?_, (h.mx.wai 0 rfl (by omega)).mono ?_⟩
    · rintro e w' ⟨a, c, rfl, s⟩; exact ⟨a, c, rfl, h.below s.out.2.2, s.out.2.1, s.out.2.2⟩
    · rintro e w' ⟨a, c, rfl, s⟩; exact ⟨a, c, rfl, h.below s.out.2.2, s.out.2.1, s.out.2.2⟩
  have HN : Hid (∀ b W z Q v L, PT B w W [(b, st [z] Q)] v L → (Q = [] → Calls Try.prog 14 #[ptr b, .int .i64 z] W fun e w' => e = .returned (.tuple #[.int .i64 (-1), .int .i64 0]) ∧ Hid (PT B w w' [(b, st [] [])] v L)) ∧ ∀ y r, Q = y :: r → Calls Try.prog 14 #[ptr b, .int .i64 z] W fun e w' => e = .returned (.tuple #[.int .i64 y, .int .i64 0]) ∧ Hid (PT B w w' [(b, st [y] r)] v L)) := fun b W z Q v L h => by
    have hz := HQ2.out _ _ _ _ _ _ h
    refine ⟨fun e => ?_, fun y r e => ?_⟩
    · subst e
      refine h.own (p := fun e => e = .returned (.tuple #[.int .i64 (-1), .int .i64 0])) (fun R g => ?_)
      obtain ⟨e1, e2, e3⟩ := le_nil z
      have := g.end_ 0 rfl (by omega) z
      rw [e1, e2, e3] at this
      exact this
    · subst e
      refine h.own (p := fun e => e = .returned (.tuple #[.int .i64 y, .int .i64 0])) (fun R g => ?_)
      obtain ⟨e1, e2, e3⟩ := le_cons (h.mx.inv 0 rfl)
      have := g.end_ 0 rfl (by omega) z
      rw [e1, e2, e3] at this
      exact this
  have HS : Hid (∀ b W A Q v L, PT B w W [(b, st A Q)] v L → ∀ (x : Int) a1 c1 a2 c2, Rd W a1 [x] c1 → Rd W a2 [x] c2 → Calls Try.prog 21 #[.slice a1 1 c1, .slice a2 1 c2] W fun e w' => e = .returned (.bool true) ∧ Hid (PT B w w' [(b, st A Q)] v L)) := fun b W A Q v L h x a1 c1 a2 c2 h1 h2 => (same_any h1 h2 (by simp) (by simp)).mono (by
    rintro e w' ⟨rfl, s⟩
    exact ⟨by rw [decide_eq_true rfl], h.below s⟩)
  have HS2 : Hid (∀ b W A Q v L, PT B w W [(b, st A Q)] v L → ∀ K a1 c1 a2 c2, Rd W a1 K c1 → Rd W a2 K c2 → K.length ≤ 100 → Calls Try.prog 21 #[.slice a1 K.length c1, .slice a2 K.length c2] W fun e w' => e = .returned (.bool true) ∧ Hid (PT B w w' [(b, st A Q)] v L)) := fun b W A Q v L h K a1 c1 a2 c2 h1 h2 hk => (same_any h1 h2 (by omega) (by omega)).mono (by
    rintro e w' ⟨rfl, s⟩
    exact ⟨by rw [decide_eq_true rfl], h.below s⟩)
  rw [hm] at hl ⊢
  rw [hB]
  clear hB hI hc hm hlo hu0 hn kA
  go_enter Try.func7, Try.ntmps7
  go_wp2_with (first | (go_at_call 10; refine ks.mono ?_; rintro e w1 ⟨rfl, s1⟩; clear ks) | (go_at_call 11; refine (kn _ s1.out).mono ?_; rintro e w2 ⟨b, rfl, s2⟩; clear kn s1) | (go_at_call 12; refine (k5 _ _ s2.out).mono ?_; rintro e w3 ⟨rfl, s⟩; clear k5 s2))
  go_loopw [10] (fun iv W => ∃ (i : Nat), iv = .int .i64 i ∧ i ≤ n ∧ Hid (MX B w W [(b, st [500] (rst 0 i))] [])) (fun iv _ => n - (intOf iv).toNat)
  case atStart => exact ⟨0, rfl, Nat.zero_le _, s⟩
  case round =>
    clear s r16 r16' e16
    obtain ⟨i, rfl, hi, s⟩ := hrel
    by_cases hlt : i < n
    · have d1 : decide ((i : Int) < (n : Int)) = true := decide_eq_true (by omega)
      have d2 : decide (i < n) = true := decide_eq_true hlt
      have k1 := HA.out b wr i (by omega) s.out
      clear HI HQ HQ2 HA HG HE HN HS HS2
      go_wp2_with (go_at_call 12; refine k1.mono ?_; rintro e w4 ⟨rfl, s4⟩)
      go_roundw
      case rel => exact ⟨i + 1, by go_num, by omega, s4⟩
      case measure => simp [intOf]; omega
    · have hin : i = n := by omega
      subst hin
      have d1 : decide ((i : Int) < (i : Int)) = false := decide_eq_false (by omega)
      have d2 : decide (i < i) = false := decide_eq_false (by omega)
      have s5 : Hid (PT B w wr [(b, st [500] ([] ++ rst 0 i))] (.slice none 0 0) []) := pt_start s.out
      clear s HA
      go_wp2
      go_loopw [9, 13] (fun ov iv W => ∃ (j : Nat) (ao : Option Addr) (M : Nat) (c : Nat) (L : List Int), ov = .slice ao M c ∧ iv = .int .i64 j ∧ j ≤ i ∧ M ≤ j ∧ Hid (M = L.length) ∧ Hid (PT B w W [(b, st [500] (L ++ rst j i))] (.slice ao M c) L) ∧ Hid (∀ z ∈ L, z < (j : Int))) (fun ov iv _ => i - (intOf iv).toNat)
      case atStart => exact ⟨0, none, 0, 0, [], rfl, rfl, Nat.zero_le _, Nat.le_refl _, rfl, s5, fun z hz => by simp at hz⟩
      case round =>
        clear s5
        obtain ⟨j, ao, M, c, L, rfl, rfl, hj, hM, HM, s, HZ⟩ := hrel
        by_cases hlt : j < i
        · have d3 : decide ((j : Int) < (i : Int)) = true := decide_eq_true (by omega)
          have d4 : decide (j < i) = true := decide_eq_true hlt
          have k1 := HG.out b _ j _ _ hlt HZ.out s.out
          have KEEP : Hid (∀ ao' m' c' w', Hid (m' = (L ++ [(j : Int)]).length ∧ w'.ownsRow B 3 1 (.slice ao' m' c') m' (ints (L ++ [(j : Int)])) ∧ (wr.alloc (.cells #[.int .i64 j] 3)).grownBy w' (Value.slice ao M c).ownBlock ∧ Fresh (wr.alloc (.cells #[.int .i64 j] 3)) (.slice ao M c) (.slice ao' m' c')) → PT B w w' [(b, st [500] ((L ++ [(j : Int)]) ++ rst (j + 1) i))] (.slice ao' m' c') (L ++ [(j : Int)])) := fun ao' m' c' w' H => by
            obtain ⟨e1, e2, e3, e4⟩ := H.out
            subst e1
            have h1 := s.out.below (w' := wr.alloc (.cells #[.int .i64 j] 3)) ((Below.refl _ _).alloc (Nat.le_refl _) _)
            have h2 := h1.grown e2 e3 e4
            rw [rst_cons hlt] at h2
            rw [List.append_assoc]
            exact h2
          have OWN : Hid ((wr.alloc (.cells #[.int .i64 j] 3)).ownsRow B 3 1 (.slice ao M c) L.length (ints L)) := by
            obtain ⟨R, _, q, _⟩ := s.out
            exact owns_below q ((Below.refl _ _).alloc (Nat.le_refl _) _)
          have HLL : Hid (L.length + [(j : Int)].length ≤ 1000000) := by rw [← HM.out]; show M + 1 ≤ _; omega
          have HBs : Hid (B ≤ (wr.alloc (.cells #[.int .i64 j] 3)).heap.size) := by have := s.out.mx.size; show _ ≤ _; simp; omega
          have HML : Hid (∀ m', m' = (L ++ [(j : Int)]).length → m' ≤ j + 1 ∧ Hid (m' = (L ++ [(j : Int)]).length)) := fun m' e => by
            refine ⟨?_, e⟩
            rw [e, List.length_append, ← HM.out]
            show M + 1 ≤ _; omega
          have HZ1 : Hid (∀ z ∈ L, z < ((j + 1 : Nat) : Int)) := fun z hz => by have := HZ.out z hz; omega
          have HZ2 : Hid (∀ z ∈ L ++ [(j : Int)], z < ((j + 1 : Nat) : Int)) := fun z hz => by
            rcases List.mem_append.1 hz with q | q
            · have := HZ.out z q; omega
            · rw [List.mem_singleton.1 q]; omega
          by_cases hjm : j < m
          · have d5 : decide ((j : Int) < (m : Int)) = true := decide_eq_true (by omega)
            have d6 : decide (j < m) = true := decide_eq_true hjm
            obtain ⟨go, bb, oo, rfl, HX⟩ := HI.out j hjm
            have c0 := HX _ s.out.mx.bel
            cases go with
            | true =>
              clear HI HQ HQ2 HG HE HN HS HS2 KEEP OWN HLL HBs HX HML
              go_wp2_with (go_at_call 14; refine k1.mono ?_; rintro e w4 ⟨rfl, s4⟩)
              go_roundw
              case rel => exact ⟨j + 1, ao, M, c, L, rfl, by go_num, by omega, by omega, HM, s4, HZ1⟩
              case measure => simp [intOf]; omega
            | false =>
              clear HI HQ HQ2 HG HE HN HS HS2 HX k1
              go_wp2_with (at_builtin; refine wpList_cat rfl (.tmp 84) (.tmp 86) rfl OWN.out (rd_one rfl _) HLL.out rfl rfl HBs.out ?_; intro ao' c' m' w4 HO; have s4 := hide_it (KEEP.out _ _ _ _ HO); obtain ⟨hm', HM'⟩ := HML.out _ HO.out.1)
              go_roundw
              case rel => exact ⟨j + 1, ao', m', c', L ++ [(j : Int)], rfl, by go_num, by omega, hm', HM', s4, HZ2⟩
              case measure => simp [intOf]; omega
          · have d5 : decide ((j : Int) < (m : Int)) = false := decide_eq_false (by omega)
            have d6 : decide (j < m) = false := decide_eq_false hjm
            clear HI HQ HQ2 HG HE HN HS HS2 k1
            go_wp2_with (at_builtin; refine wpList_cat rfl (.tmp 84) (.tmp 86) rfl OWN.out (rd_one rfl _) HLL.out rfl rfl HBs.out ?_; intro ao' c' m' w4 HO; have s4 := hide_it (KEEP.out _ _ _ _ HO); obtain ⟨hm', HM'⟩ := HML.out _ HO.out.1)
            go_roundw
            case rel => exact ⟨j + 1, ao', m', c', L ++ [(j : Int)], rfl, by go_num, by omega, hm', HM', s4, HZ2⟩
            case measure => simp [intOf]; omega
        · have hij : j = i := by omega
          subst hij
          have d3 : decide ((j : Int) < (j : Int)) = false := decide_eq_false (by omega)
          have d4 : decide (j < j) = false := decide_eq_false (by omega)
          have s6 : Hid (PT B w wr [(b, st [500] L)] (.slice ao M c) L) := by have := s.out; rw [rst_nil, List.append_nil] at this; exact this
          have hc63 : M ≤ c ∧ c ≤ maxLen := by have := s6.out.rd HM.out; have := HM.out; have h1 := this; have h2 := (s6.out.rd HM.out).1; have h3 := (s6.out.rd HM.out).2.1; omega
          have hc64 : c ≤ 9223372036854775807 := by have := hc63.2; unfold maxLen at this; omega
          have hcM := hc63.1
          have kW := (HE.out b wr [500] L _ L s6.out).2
          rw [← HM.out] at kW
          have kS := fun W a1 c1 (h : PT B w W [(b, st [500] L)] (.slice ao M c) L ∧ Rd W a1 L c1) => HS2.out b W [500] L _ L h.1 L a1 c1 ao c h.2 (h.1.rd HM.out) (by rw [← HM.out]; omega)
          rw [← HM.out] at kS
          have kA2 := fun W (h : PT B w W [(b, st [500] L)] (.slice ao M c) L) => (HE.out b W [500] L _ L h).1
          have kS5 := fun W a1 c1 a2 (h : PT B w W [(b, st [500] L)] (.slice ao M c) L ∧ Rd W a1 [500] c1 ∧ Rd W a2 [500] 1) => HS.out b W [500] L _ L h.1 500 a1 c1 a2 1 h.2.1 h.2.2
          have HLIT : Hid (∀ W a1 c1, PT B w W [(b, st [500] L)] (.slice ao M c) L ∧ Rd W a1 [500] c1 → PT B w (W.alloc (.cells #[.int .i64 500] 3)) [(b, st [500] L)] (.slice ao M c) L ∧ Rd (W.alloc (.cells #[.int .i64 500] 3)) a1 [500] c1 ∧ Rd (W.alloc (.cells #[.int .i64 500] 3)) (some ⟨W.heap.size, 0, none⟩) [500] 1) := fun W a1 c1 h => ⟨h.1.below ((Below.refl _ _).alloc (Nat.le_refl _) _), h.2.below ((Below.refl _ _).alloc (Nat.le_refl _) _), rd_one rfl _⟩
          clear HI HG HS2 s HZ hc63
          go_wp2_with (go_at_call 17; refine kW.mono ?_; rintro e w4 ⟨a4, c4, rfl, s4⟩; refine Hid.out ?_)
          refine hide_it ?_
          go_wp2_with (go_at_call 21; refine (kS _ _ _ ⟨s4.out.1, s4.out.2.1⟩).mono ?_; rintro e w5 ⟨rfl, s5⟩; refine Hid.out ?_)
          refine hide_it ?_
          go_wp2_with (go_at_call 16; refine (kA2 _ s5.out).mono ?_; rintro e w7 ⟨a7, c7, rfl, s7⟩; refine Hid.out ?_)
          refine hide_it ?_
          go_wp2_with (go_at_call 21; refine (kS5 _ _ _ _ (HLIT.out _ _ _ ⟨s7.out.1, s7.out.2.1⟩)).mono ?_; rintro e w8 ⟨rfl, s8⟩)
          clear kW kS kA2 kS5 HLIT s4 s5 s6 s7
          go_loopw [16, 17] (fun nv iv W => ∃ (k : Nat) (y : Int), nv = .int .i64 y ∧ iv = .int .i64 k ∧ k ≤ M ∧ Hid (PT B w W [(b, st [y] (L.drop k))] (.slice ao M c) L)) (fun nv iv _ => M - (intOf iv).toNat)
          case atStart => exact ⟨0, 500, rfl, rfl, Nat.zero_le _, s8.out⟩
          case round =>
            clear s8
            obtain ⟨k, y, rfl, rfl, hk, s⟩ := hrel
            by_cases hkm : k < M
            · have d7 : decide ((k : Int) < (M : Int)) = true := decide_eq_true (by omega)
              have d8 : decide (k < M) = true := decide_eq_true hkm
              have hkL : k < L.length := by have := HM.out; omega
              obtain ⟨bl, ol, x, rfl, ex, cx⟩ := (s.out.rd HM.out).get hkL
              have HC : Hid (∀ W A Q, PT B w W [(b, st A Q)] (.slice (some ⟨bl, ol, none⟩) M c) L → W.cell? ⟨bl, ol + k, none⟩ = some (.int .i64 x)) := fun W A Q h => by
                obtain ⟨b', o', x', e1, e2, e3⟩ := (h.rd HM.out).get hkL
                cases e1
                have e9 := ex.symm.trans e2
                cases e9
                exact e3
              obtain ⟨_, ex2⟩ := List.getElem?_eq_some_iff.1 ex
              have hdr : L.drop k = x :: L.drop (k + 1) := by rw [← ex2]; exact List.drop_eq_getElem_cons hkL
              have k1 := (HN.out b _ y _ _ _ s.out).2 x _ hdr
              have zx : (x != x) = false := by simp
              have KA : Hid (∀ w4, PT B w w4 [(b, st [x] (L.drop (k + 1)))] (.slice (some ⟨bl, ol, none⟩) M c) L → (∀ W, Below w4.heap.size w4 W → Calls Try.prog 16 #[ptr b] W fun e w' => ∃ a c, e = .returned (.slice a 1 c) ∧ Hid (Below w4.heap.size w4 w' ∧ Rd w' a [x] c ∧ Below W.heap.size W w')) ∧ (∀ W a1 c1 a2, Rd W a1 [x] c1 → Rd W a2 [x] 1 → Below w4.heap.size w4 W → Calls Try.prog 21 #[.slice a1 1 c1, .slice a2 1 1] W fun e w' => e = .returned (.bool true) ∧ Hid (Below w4.heap.size w4 w'))) := fun w4 h => ⟨fun W hb => ((HE.out b W _ _ _ _ (h.below hb)).1).mono (by
                rintro e w' ⟨a, c, rfl, s⟩
                exact ⟨a, c, rfl, hb.trans (s.out.2.2.mono hb.size), s.out.2.1, s.out.2.2⟩), fun W a1 c1 a2 h1 h2 hb => (same_any h1 h2 (by simp) (by simp)).mono (by
                rintro e w' ⟨rfl, s⟩
                exact ⟨by rw [decide_eq_true rfl], hb.trans (s.mono hb.size)⟩)⟩
              clear HQ HQ2 HE HN HS ex ex2 hdr
              go_wp2_with (go_at_call 14; refine k1.mono ?_; rintro e w4 ⟨rfl, s4⟩; have cx4 := HC.out _ _ _ s4.out; obtain ⟨kA, kS⟩ := KA.out _ s4.out; refine Hid.out ?_)
              refine hide_it ?_
              go_wp2_with (fail)
              go_region_held3 (fun V => V.cell? ⟨bl, ol + k, none⟩ = some (.int .i64 x)) (first | exact cx4 | exact HC.out _ _ _ (s4.out.below s8.out) | exact HC.out _ _ _ (s4.out.below s5.out.1) | go_keep) (first | (go_at_call 16; refine (kA _ (by first | exact (Below.refl _ _).drew | exact ((Below.refl _ _).drew).alloc (Nat.le_refl _) _)).mono ?_; rintro e w5 ⟨a5, c5, rfl, s5⟩) | (go_at_call 21; refine (kS _ a5 c5 _ (by first | exact s5.out.2.1 | exact s5.out.2.1.below ((Below.refl _ _).alloc (Nat.le_refl _) _)) (by first | exact (rd_one (W := w4.drew) (n := w4.heap.size) rfl x).below s5.out.2.2 | exact rd_one rfl _) (by first | exact s5.out.1 | exact s5.out.1.alloc s5.out.1.size _)).mono ?_; rintro e w8 ⟨rfl, s8⟩))
              all_goals
                have s9 := hide_it (s4.out.below s8.out)
                have cx9 := HC.out _ _ _ s9.out
                clear kA kS KA s4 s5 s8 HC
                go_wp2
                go_roundw
                case rel => exact ⟨k + 1, x, by first | rfl | go_num, by go_num, by omega, s9⟩
                case measure => simp [intOf]; omega
            · have hkM : k = M := by omega
              subst hkM
              have d7 : decide ((k : Int) < (k : Int)) = false := decide_eq_false (by omega)
              have d8 : decide (k < k) = false := decide_eq_false (by omega)
              have k1 := (HN.out b _ y _ _ _ s.out).1 (by rw [HM.out]; exact List.drop_length)
              have kA : ∀ W v L', PT B w W [(b, st [] [])] v L' → Calls Try.prog 16 #[ptr b] W fun e w' => ∃ a c, e = .returned (.slice a 0 c) ∧ Hid (Below B w w') := fun W v L' h => ((HE.out b W [] [] v L' h).1).mono (by rintro e w' ⟨a, c, rfl, s⟩; exact ⟨a, c, rfl, s.out.1.mx.bel⟩)
              clear HQ HQ2 HE HN HS
              go_wp2_with (go_at_call 14; refine k1.mono ?_; rintro e w4 ⟨rfl, s4⟩; refine Hid.out ?_)
              refine hide_it ?_
              go_wp2_with (go_at_call 16; refine (kA _ _ _ s4.out).mono ?_; rintro e w5 ⟨a5, c5, rfl, s5⟩)
              go_ret
              exact ⟨rfl, s5.out⟩
end Go.Proofs.Ytjmdalpffhfdfaa
