/- AdmitNames, walked. -/
import Derived.Test.YtjmdalpffhfdfaaSho
import Derived.Test.YtjmdalpffhfdfaaArg
import Derived.Deep.RegionHeld3
import Derived.Deep.CutRange
import Derived.Deep.CutBlock
import Derived.BigQuiet
namespace Go.Proofs.Ytjmdalpffhfdfaa
open Go.RowKit
open M
set_option linter.unusedVariables false
set_option linter.unusedSimpArgs false

/-- All ids d larger. -/
abbrev shl (d : Int) (L : List Int) : List Int := L.map fun z => z + d
abbrev sh (d : Int) (x : Ad) : Ad := ⟨x.a, x.q, shl d x.A, shl d x.Q⟩
theorem shl_mem {d id : Int} {L : List Int} : id + d ∈ shl d L ↔ id ∈ L := by
  simp only [List.mem_map]
  constructor
  · rintro ⟨z, hz, e⟩
    have : z = id := by omega
    subst this; exact hz
  · intro h; exact ⟨id, h, rfl⟩
theorem shl_erase (d id : Int) (L : List Int) : (shl d L).erase (id + d) = shl d (L.erase id) := by
  induction L with
  | nil => rfl
  | cons z r ih =>
    by_cases e : z = id
    · subst e
      simp only [List.map_cons, List.erase_cons_head]
    · have h1 : ¬ (z == id) = true := by simpa using e
      have h2 : ¬ (z + d == id + d) = true := by simp; omega
      rw [List.erase_cons_tail h1]
      simp only [List.map_cons]
      rw [List.erase_cons_tail h2, ih]
theorem sh_te (d id : Int) (x : Ad) : te (sh d x) (id + d) = te x id := by unfold te; simp only [shl_mem, List.length_map]
theorem sh_ts (d id : Int) (x : Ad) : ts (sh d x) (id + d) = ts x id := by unfold ts; simp only [shl_mem, List.length_map]
theorem sh_tx (d id : Int) (x : Ad) : tx (sh d x) (id + d) = sh d (tx x id) := by
  unfold tx
  simp only [shl_mem, List.length_map]
  split
  · rfl
  · split
    · simp
    · split
      · simp
      · rfl
theorem sh_ee (d id : Int) (x : Ad) : ee (sh d x) (id + d) = ee x id := by unfold ee; simp only [shl_mem]
theorem sh_ex (d id : Int) (x : Ad) : ex (sh d x) (id + d) = sh d (ex x id) := by
  unfold ex
  simp only [shl_mem]
  split
  · simp only [shl_erase]
  · split
    · simp only [shl_erase]
      cases hx : x.Q <;> simp
    · rfl
/-- What ids there are. -/
def Lo (x : Ad) : Prop := ∀ z ∈ x.A ++ x.Q, 0 ≤ z ∧ z ≤ 65535
theorem Lo.tx {x : Ad} (h : Lo x) (hi : Inv x) {id : Int} (h0 : 0 ≤ id) (h1 : id ≤ 65535) : Lo (tx x id) := by
  intro z hz
  rw [all_tx hi id] at hz
  split at hz
  · rcases List.mem_append.1 hz with q | q
    · exact h z q
    · rw [List.mem_singleton.1 q]; exact ⟨h0, h1⟩
  · exact h z hz
theorem Lo.ex {x : Ad} (h : Lo x) (hi : Inv x) (id : Int) : Lo (ex x id) := by
  intro z hz
  rw [all_ex hi id] at hz
  exact h z (List.mem_of_mem_erase hz)
theorem es_cases {x : Ad} (h : Lo x) (d id : Int) : (es x id = -1 ∧ ee x id = 0 ∧ es (sh d x) (id + d) = -1) ∨ (es x id = 0 ∧ ee x id = 6 ∧ es (sh d x) (id + d) = 0) ∨ ∃ n, 0 ≤ n ∧ n ≤ 65535 ∧ es x id = n ∧ ee x id = 0 ∧ es (sh d x) (id + d) = n + d := by
  unfold es ee
  simp only [shl_mem]
  by_cases hq : id ∈ x.Q
  · left; simp [hq]
  · by_cases ha : id ∈ x.A
    · cases hx : x.Q with
      | nil => left; simp [ha]
      | cons n r =>
        have := h n (by rw [hx]; simp)
        have hn : ¬ id ∈ n :: r := by rw [← hx]; exact hq
        right; right; exact ⟨n, this.1, this.2, by rw [if_neg hn, if_pos ha]; rfl, by rw [if_pos (Or.inl ha)], by rw [if_neg hn, if_pos ha]; rfl⟩
    · right; left; simp [ha, hq]

set_option maxRecDepth 1000000 in
set_option maxHeartbeats 8000000 in
theorem admitNames_walk (ac qu : Int) (l : List (Int × Int)) (a : Option Addr) (cap : Nat) (d : Int) (w : World) (hac : -9223372036854775808 ≤ ac ∧ ac ≤ 9223372036854775807) (hqu : -9223372036854775808 ≤ qu ∧ qu ≤ 9223372036854775807) (hI : StepsIn w a l) (hl : l.length ≤ cap) (hc : cap ≤ maxLen) (hb : ∀ t ∈ l, i64B t.1 ∧ i64B t.2) (hd : 0 ≤ d ∧ d ≤ 255) :
    Calls Try.prog 6 #[.int .i64 ac, .int .i64 qu, .slice a l.length cap, .int .u8 d] w fun e w' => e = .returned (.bool true) ∧ Below w.heap.size w w' := by
  obtain ⟨hd0, hd1⟩ := hd
  obtain ⟨B, hB⟩ : ∃ B, w.heap.size = B := ⟨_, rfl⟩
  have ks : Calls Try.prog 10 #[] w fun e w' => e = .returned (.bool true) ∧ Hid (Below B w w') := by
    have := shown_any w
    rw [hB] at this
    exact this
  have hlo : B ≤ w.heap.size := by omega
  have kn : ∀ W, Below B w W → Calls Try.prog 11 #[.int .i64 ac, .int .i64 qu] W fun e w' => ∃ t, e = .returned (ptr t) ∧ Hid (MX B w w' [(t, mk0 ac qu)] []) := fun W hb => (mx_start hb hlo).new ac qu hac.2 hqu.2
  have kn2 : ∀ W t, MX B w W [(t, mk0 ac qu)] [] → Calls Try.prog 11 #[.int .i64 ac, .int .i64 qu] W fun e w' => ∃ t2, e = .returned (ptr t2) ∧ Hid (MX B w w' [(t, mk0 ac qu), (t2, sh d (mk0 ac qu))] []) := fun W t h => h.new ac qu hac.2 hqu.2
  have hcm : cap ≤ 9223372036854775807 := by unfold maxLen at hc; omega
  obtain ⟨m, hm⟩ : ∃ m, l.length = m := ⟨_, rfl⟩
  have HI : Hid (∀ (i : Nat), i < m → ∃ x y b o, a = some ⟨b, o, none⟩ ∧ ∀ W, Below B w W → W.cell? ⟨b, o + i * 2, none⟩ = some (.int .i64 x) ∧ W.cell? ⟨b, o + i * 2 + 1, none⟩ = some (.int .i64 y)) := fun i hi => by
    have := hI.get (i := i) (by omega)
    rw [hB] at this
    exact this
  rw [hm] at hl ⊢
  rw [hB]
  have k0 : Hid (siz (mk0 ac qu) ≤ 0 ∧ Lo (mk0 ac qu)) := ⟨Nat.le_refl _, fun z hz => by simp [mk0] at hz⟩
  generalize mk0 ac qu = x0 at *
  clear hB hI hc hm hlo hb hac hqu
  go_enter Try.func6, Try.ntmps6
  go_wp2_with (first | (go_at_call 10; refine ks.mono ?_; rintro e w1 ⟨rfl, s1⟩; clear ks) | (go_at_call 11; first | (refine (kn2 _ _ s2.out).mono ?_; rintro e w3 ⟨t2, rfl, s⟩; clear kn2 s2) | (refine (kn _ s1.out).mono ?_; rintro e w2 ⟨t1, rfl, s2⟩; clear kn s1)))
  go_loopw [13] (fun iv W => ∃ (i : Nat) (x : Ad), iv = .int .i64 i ∧ i ≤ m ∧ i ≤ 100 ∧ Hid (MX B w W [(t1, x), (t2, sh d x)] []) ∧ Hid (siz x ≤ i ∧ Lo x)) (fun iv _ => m - (intOf iv).toNat)
  case atStart => exact ⟨0, _, rfl, Nat.zero_le _, by omega, s, k0⟩
  case round =>
    clear s k0
    obtain ⟨i, x, rfl, hi, hi2, s, HS⟩ := hrel
    by_cases hgo : i < m ∧ i < 100
    · obtain ⟨hlt, hlt2⟩ := hgo
      have h16 : decide ((i : Int) < 100) = true := decide_eq_true (by omega)
      have h16' : decide (i < 100) = true := decide_eq_true (by omega)
      obtain ⟨kd, y, c, o, rfl, HX⟩ := HI.out i hlt
      obtain ⟨c0, c1⟩ := HX _ s.out.bel
      obtain ⟨u, e8, hu⟩ := and16 y
      have hud : (u : Int) + d ≤ 65790 := by omega
      have hsz : siz x ≤ 100 := by have := HS.out.1; omega
      have hsz2 : siz (sh d x) ≤ 100 := by
        have : siz (sh d x) = siz x := by unfold siz; simp
        omega
      have hin := s.out.inv 0 rfl
      have FIN : Hid (∀ X : Ad, siz X ≤ 101 → Lo X → ∃ N1 N2, N1 ≤ 101 ∧
            (∀ W, MX B w W [(t1, X), (t2, sh d X)] [] → Calls Try.prog 16 #[ptr t1] W fun e w' => ∃ a c, e = .returned (.slice a N1 c) ∧ N1 ≤ c ∧ c ≤ 9223372036854775807 ∧ Hid (MX B w w' [(t1, X), (t2, sh d X)] [] ∧ Rd w' a X.A c))
          ∧ (∀ W a c, MX B w W [(t1, X), (t2, sh d X)] [] ∧ Rd W a X.A c → Calls Try.prog 16 #[ptr t2] W fun e w' => ∃ a2 c2, e = .returned (.slice a2 N1 c2) ∧ N1 ≤ c2 ∧ c2 ≤ 9223372036854775807 ∧ Hid (MX B w w' [(t1, X), (t2, sh d X)] [] ∧ Rd w' a X.A c ∧ Rd w' a2 (shl d X.A) c2))
          ∧ (∀ W a c a2 c2, MX B w W [(t1, X), (t2, sh d X)] [] ∧ Rd W a X.A c ∧ Rd W a2 (shl d X.A) c2 → Calls Try.prog 17 #[ptr t1] W fun e w' => ∃ a3 c3, e = .returned (.slice a3 N2 c3) ∧ Hid (MX B w w' [(t1, X), (t2, sh d X)] [] ∧ Rd w' a X.A c ∧ Rd w' a2 (shl d X.A) c2))
          ∧ (∀ W a c a2 c2, MX B w W [(t1, X), (t2, sh d X)] [] ∧ Rd W a X.A c ∧ Rd W a2 (shl d X.A) c2 → Calls Try.prog 17 #[ptr t2] W fun e w' => ∃ a3 c3, e = .returned (.slice a3 N2 c3) ∧ Hid (MX B w w' [(t1, X), (t2, sh d X)] [] ∧ Rd w' a X.A c ∧ Rd w' a2 (shl d X.A) c2))
          ∧ (∀ W W' a c a2 c2, MX B w W [(t1, X), (t2, sh d X)] [] ∧ Rd W a X.A c ∧ Rd W a2 (shl d X.A) c2 → Below W.heap.size W W' → MX B w W' [(t1, X), (t2, sh d X)] [] ∧ Rd W' a X.A c ∧ Rd W' a2 (shl d X.A) c2)
          ∧ (∀ W a c a2 c2 (k : Nat), MX B w W [(t1, X), (t2, sh d X)] [] ∧ Rd W a X.A c ∧ Rd W a2 (shl d X.A) c2 → k < N1 → ∃ b o b2 o2 z, a = some ⟨b, o, none⟩ ∧ a2 = some ⟨b2, o2, none⟩ ∧ 0 ≤ z ∧ z ≤ 65535 ∧ W.cell? ⟨b, o + k, none⟩ = some (.int .i64 z) ∧ W.cell? ⟨b2, o2 + k, none⟩ = some (.int .i64 (z + d)))) := fun X hX hL => by
        have hX3 : siz (sh d X) ≤ 101 := by
          have : siz (sh d X) = siz X := by unfold siz; simp
          omega
        have hX2 := hX
        unfold siz at hX2
        have cm : ∀ {c : Nat}, c ≤ maxLen → c ≤ 9223372036854775807 := fun h => by unfold maxLen at h; omega
        have e1 : (sh d X).A.length = X.A.length := by simp
        have e2 : (sh d X).Q.length = X.Q.length := by simp
        refine ⟨X.A.length, X.Q.length, by omega, fun W h => (h.act 0 rfl (by omega)).mono ?_, fun W a c h => (h.1.act 1 rfl (by omega)).mono ?_, fun W a c a2 c2 h => (h.1.wai 0 rfl (by omega)).mono ?_, fun W a c a2 c2 h => (h.1.wai 1 rfl (by omega)).mono ?_, fun W W' a c a2 c2 h hb => ⟨h.1.below hb, h.2.1.below hb, h.2.2.below hb⟩, fun W a c a2 c2 k h hk => ?_⟩
        · rintro e w' ⟨a, c, rfl, s⟩; exact ⟨a, c, rfl, s.out.2.1.1, cm s.out.2.1.2.1, s.out.1, s.out.2.1⟩
        · rintro e w' ⟨a2, c2, rfl, s⟩; exact ⟨a2, c2, by rw [e1], by have := s.out.2.1.1; rw [e1] at this; exact this, cm s.out.2.1.2.1, s.out.1, h.2.below s.out.2.2, s.out.2.1⟩
        · rintro e w' ⟨a3, c3, rfl, s⟩; exact ⟨a3, c3, rfl, s.out.1, h.2.1.below s.out.2.2, h.2.2.below s.out.2.2⟩
        · rintro e w' ⟨a3, c3, rfl, s⟩; exact ⟨a3, c3, by rw [e2], s.out.1, h.2.1.below s.out.2.2, h.2.2.below s.out.2.2⟩
        · obtain ⟨b, o, z, q1, q2, q3⟩ := h.2.1.get hk
          obtain ⟨b2, o2, z2, p1, p2, p3⟩ := h.2.2.get (i := k) (by simpa using hk)
          rw [List.getElem?_map, q2] at p2
          cases p2
          have := hL z (List.mem_append_left _ (List.mem_of_getElem? q2))
          exact ⟨b, o, b2, o2, z, q1, p1, this.1, this.2, q3, p3⟩
      clear HX HI
      by_cases hk3 : kd = 3
      · have d3 : (kd == 3) = true := by simp [hk3]
        have k1 : Calls Try.prog 14 #[ptr t1, .int .i64 u] wr fun e w' => e = .returned (.tuple #[.int .i64 (es x u), .int .i64 (ee x u)]) ∧ Hid (MX B w w' [(t1, ex x u), (t2, sh d x)] []) := s.out.end_ 0 rfl (by omega) u
        have k2 : ∀ W, MX B w W [(t1, ex x u), (t2, sh d x)] [] → Calls Try.prog 14 #[ptr t2, .int .i64 ((u : Int) + d)] W fun e w' => e = .returned (.tuple #[.int .i64 (es (sh d x) (u + d)), .int .i64 (ee x u)]) ∧ Hid (MX B w w' [(t1, ex x u), (t2, sh d (ex x u))] []) := fun W h => by
          have := h.end_ 1 rfl (by omega) ((u : Int) + d)
          rw [sh_ee, sh_ex] at this
          exact this
        have HS2 : Hid (siz (ex x u) ≤ i + 1 ∧ Lo (ex x u)) := ⟨by have := siz_ex hin u; have := HS.out.1; omega, HS.out.2.ex hin u⟩
        obtain ⟨N1, N2, hN1, g1, g2, g3, g4, g5, g6⟩ := FIN.out (ex x u) (by have := HS2.out.1; omega) HS2.out.2
        have hcs := es_cases HS.out.2 d (u : Int)
        generalize ex x u = X at *
        generalize es (sh d x) (u + d) = V2 at *
        generalize es x u = V at *
        generalize ee x u = E at *
        clear hk3 FIN HS hin hsz hsz2
        rcases hcs with ⟨rfl, rfl, rfl⟩ | ⟨rfl, rfl, rfl⟩ | ⟨n, hn0, hn1, rfl, rfl, rfl⟩
        · go_wp2_with (go_at_call 14; refine k1.mono ?_; rintro e w3 ⟨rfl, s3⟩; refine Hid.out ?_)
          refine hide_it ?_
          go_wp2_with (go_at_call 14; refine (k2 _ s3.out).mono ?_; rintro e w4 ⟨rfl, s4⟩; refine Hid.out ?_)
          refine hide_it ?_
          go_wp2_with (go_at_call 16; refine (g1 _ s4.out).mono ?_; rintro e w5 ⟨a5, n5, rfl, l5, m5, s5⟩; refine Hid.out ?_)
          refine hide_it ?_
          go_wp2_with (go_at_call 16; refine (g2 _ _ _ s5.out).mono ?_; rintro e w6 ⟨a6, n6, rfl, l6, m6, s6⟩; refine Hid.out ?_)
          refine hide_it ?_
          go_wp2_with (go_at_call 17; refine (g3 _ _ _ _ _ s6.out).mono ?_; rintro e w7 ⟨a7, n7, rfl, s7⟩; refine Hid.out ?_)
          refine hide_it ?_
          go_wp2_with (go_at_call 17; refine (g4 _ _ _ _ _ s7.out).mono ?_; rintro e w8 ⟨a8, n8, rfl, s8⟩)
          clear g1 g2 g3 g4 s5 s6 s7 s4
          go_loopw [25] (fun kv W => ∃ k : Nat, kv = .int .i64 k ∧ k ≤ N1 ∧ Hid (MX B w W [(t1, X), (t2, sh d X)] [] ∧ Rd W a5 X.A n5 ∧ Rd W a6 (shl d X.A) n6)) (fun kv _ => N1 - (intOf kv).toNat)
          case atStart => exact ⟨0, rfl, Nat.zero_le _, s8⟩
          case round =>
            clear s8
            obtain ⟨k, rfl, hk, s9⟩ := hrel
            by_cases hkn : k < N1
            · obtain ⟨bp, op, bq, oq, z, rfl, rfl, hz0, hz1, cp, cq⟩ := g6 _ _ _ _ _ k s9.out hkn
              have zz : (z + d != z + d) = false := by simp
              have HG5 := hide_it g5
              clear g5 g6
              go_wp2
              go_big_quiet (fail)
              go_wp2
              go_roundw
              case rel => exact ⟨k + 1, by go_num, by omega, HG5.out _ _ _ _ _ _ s9.out (Below.drewN (Below.refl _ _) _)⟩
              case measure => simp [intOf]; omega
            · have d7 : decide ((k : Int) < (N1 : Int)) = false := decide_eq_false (by omega)
              have d8 : decide (k < N1) = false := decide_eq_false hkn
              clear g5 g6
              go_wp2
              go_roundw
              case rel => exact ⟨i + 1, X, by go_num, by omega, by omega, s9.out.1, HS2⟩
              case measure => simp [intOf]; omega
        · go_wp2_with (go_at_call 14; refine k1.mono ?_; rintro e w3 ⟨rfl, s3⟩; refine Hid.out ?_)
          refine hide_it ?_
          go_wp2_with (go_at_call 14; refine (k2 _ s3.out).mono ?_; rintro e w4 ⟨rfl, s4⟩; refine Hid.out ?_)
          refine hide_it ?_
          go_wp2_with (go_at_call 16; refine (g1 _ s4.out).mono ?_; rintro e w5 ⟨a5, n5, rfl, l5, m5, s5⟩; refine Hid.out ?_)
          refine hide_it ?_
          go_wp2_with (go_at_call 16; refine (g2 _ _ _ s5.out).mono ?_; rintro e w6 ⟨a6, n6, rfl, l6, m6, s6⟩; refine Hid.out ?_)
          refine hide_it ?_
          go_wp2_with (go_at_call 17; refine (g3 _ _ _ _ _ s6.out).mono ?_; rintro e w7 ⟨a7, n7, rfl, s7⟩; refine Hid.out ?_)
          refine hide_it ?_
          go_wp2_with (go_at_call 17; refine (g4 _ _ _ _ _ s7.out).mono ?_; rintro e w8 ⟨a8, n8, rfl, s8⟩)
          clear g1 g2 g3 g4 s5 s6 s7 s4
          go_loopw [25] (fun kv W => ∃ k : Nat, kv = .int .i64 k ∧ k ≤ N1 ∧ Hid (MX B w W [(t1, X), (t2, sh d X)] [] ∧ Rd W a5 X.A n5 ∧ Rd W a6 (shl d X.A) n6)) (fun kv _ => N1 - (intOf kv).toNat)
          case atStart => exact ⟨0, rfl, Nat.zero_le _, s8⟩
          case round =>
            clear s8
            obtain ⟨k, rfl, hk, s9⟩ := hrel
            by_cases hkn : k < N1
            · obtain ⟨bp, op, bq, oq, z, rfl, rfl, hz0, hz1, cp, cq⟩ := g6 _ _ _ _ _ k s9.out hkn
              have zz : (z + d != z + d) = false := by simp
              have HG5 := hide_it g5
              clear g5 g6
              go_wp2
              go_big_quiet (fail)
              go_wp2
              go_roundw
              case rel => exact ⟨k + 1, by go_num, by omega, HG5.out _ _ _ _ _ _ s9.out (Below.drewN (Below.refl _ _) _)⟩
              case measure => simp [intOf]; omega
            · have d7 : decide ((k : Int) < (N1 : Int)) = false := decide_eq_false (by omega)
              have d8 : decide (k < N1) = false := decide_eq_false hkn
              clear g5 g6
              go_wp2
              go_roundw
              case rel => exact ⟨i + 1, X, by go_num, by omega, by omega, s9.out.1, HS2⟩
              case measure => simp [intOf]; omega
        · have zz : (V + d != V + d) = false := by simp
          have zn : (V == -1) = false := by simp; omega
          by_cases hn : V = 0
          · subst hn
            have dz : ((0 : Int) + d != d) = false := by simp
            go_wp2_with (go_at_call 14; refine k1.mono ?_; rintro e w3 ⟨rfl, s3⟩; refine Hid.out ?_)
            refine hide_it ?_
            go_wp2_with (go_at_call 14; refine (k2 _ s3.out).mono ?_; rintro e w4 ⟨rfl, s4⟩; refine Hid.out ?_)
            refine hide_it ?_
            go_wp2_with (go_at_call 16; refine (g1 _ s4.out).mono ?_; rintro e w5 ⟨a5, n5, rfl, l5, m5, s5⟩; refine Hid.out ?_)
            refine hide_it ?_
            go_wp2_with (go_at_call 16; refine (g2 _ _ _ s5.out).mono ?_; rintro e w6 ⟨a6, n6, rfl, l6, m6, s6⟩; refine Hid.out ?_)
            refine hide_it ?_
            go_wp2_with (go_at_call 17; refine (g3 _ _ _ _ _ s6.out).mono ?_; rintro e w7 ⟨a7, n7, rfl, s7⟩; refine Hid.out ?_)
            refine hide_it ?_
            go_wp2_with (go_at_call 17; refine (g4 _ _ _ _ _ s7.out).mono ?_; rintro e w8 ⟨a8, n8, rfl, s8⟩)
            clear g1 g2 g3 g4 s5 s6 s7 s4
            go_loopw [25] (fun kv W => ∃ k : Nat, kv = .int .i64 k ∧ k ≤ N1 ∧ Hid (MX B w W [(t1, X), (t2, sh d X)] [] ∧ Rd W a5 X.A n5 ∧ Rd W a6 (shl d X.A) n6)) (fun kv _ => N1 - (intOf kv).toNat)
            case atStart => exact ⟨0, rfl, Nat.zero_le _, s8⟩
            case round =>
              clear s8
              obtain ⟨k, rfl, hk, s9⟩ := hrel
              by_cases hkn : k < N1
              · obtain ⟨bp, op, bq, oq, z, rfl, rfl, hz0, hz1, cp, cq⟩ := g6 _ _ _ _ _ k s9.out hkn
                have zz : (z + d != z + d) = false := by simp
                have HG5 := hide_it g5
                clear g5 g6
                go_wp2
                go_big_quiet (fail)
                go_wp2
                go_roundw
                case rel => exact ⟨k + 1, by go_num, by omega, HG5.out _ _ _ _ _ _ s9.out (Below.drewN (Below.refl _ _) _)⟩
                case measure => simp [intOf]; omega
              · have d7 : decide ((k : Int) < (N1 : Int)) = false := decide_eq_false (by omega)
                have d8 : decide (k < N1) = false := decide_eq_false hkn
                clear g5 g6
                go_wp2
                go_roundw
                case rel => exact ⟨i + 1, X, by go_num, by omega, by omega, s9.out.1, HS2⟩
                case measure => simp [intOf]; omega
          · have dp : decide (0 < V) = true := decide_eq_true (by omega)
            have dz : (V == 0) = false := by simp [hn]
            go_wp2_with (go_at_call 14; refine k1.mono ?_; rintro e w3 ⟨rfl, s3⟩; refine Hid.out ?_)
            refine hide_it ?_
            go_wp2_with (go_at_call 14; refine (k2 _ s3.out).mono ?_; rintro e w4 ⟨rfl, s4⟩; refine Hid.out ?_)
            refine hide_it ?_
            go_wp2_with (go_at_call 16; refine (g1 _ s4.out).mono ?_; rintro e w5 ⟨a5, n5, rfl, l5, m5, s5⟩; refine Hid.out ?_)
            refine hide_it ?_
            go_wp2_with (go_at_call 16; refine (g2 _ _ _ s5.out).mono ?_; rintro e w6 ⟨a6, n6, rfl, l6, m6, s6⟩; refine Hid.out ?_)
            refine hide_it ?_
            go_wp2_with (go_at_call 17; refine (g3 _ _ _ _ _ s6.out).mono ?_; rintro e w7 ⟨a7, n7, rfl, s7⟩; refine Hid.out ?_)
            refine hide_it ?_
            go_wp2_with (go_at_call 17; refine (g4 _ _ _ _ _ s7.out).mono ?_; rintro e w8 ⟨a8, n8, rfl, s8⟩)
            clear g1 g2 g3 g4 s5 s6 s7 s4
            go_loopw [25] (fun kv W => ∃ k : Nat, kv = .int .i64 k ∧ k ≤ N1 ∧ Hid (MX B w W [(t1, X), (t2, sh d X)] [] ∧ Rd W a5 X.A n5 ∧ Rd W a6 (shl d X.A) n6)) (fun kv _ => N1 - (intOf kv).toNat)
            case atStart => exact ⟨0, rfl, Nat.zero_le _, s8⟩
            case round =>
              clear s8
              obtain ⟨k, rfl, hk, s9⟩ := hrel
              by_cases hkn : k < N1
              · obtain ⟨bp, op, bq, oq, z, rfl, rfl, hz0, hz1, cp, cq⟩ := g6 _ _ _ _ _ k s9.out hkn
                have zz : (z + d != z + d) = false := by simp
                have HG5 := hide_it g5
                clear g5 g6
                go_wp2
                go_big_quiet (fail)
                go_wp2
                go_roundw
                case rel => exact ⟨k + 1, by go_num, by omega, HG5.out _ _ _ _ _ _ s9.out (Below.drewN (Below.refl _ _) _)⟩
                case measure => simp [intOf]; omega
              · have d7 : decide ((k : Int) < (N1 : Int)) = false := decide_eq_false (by omega)
                have d8 : decide (k < N1) = false := decide_eq_false hkn
                clear g5 g6
                go_wp2
                go_roundw
                case rel => exact ⟨i + 1, X, by go_num, by omega, by omega, s9.out.1, HS2⟩
                case measure => simp [intOf]; omega
      · have d3 : (kd == 3) = false := by simp [hk3]
        have k1 : Calls Try.prog 12 #[ptr t1, .int .i64 u] wr fun e w' => e = .returned (.tuple #[.int .i64 (ts x u), .int .i64 (te x u)]) ∧ Hid (MX B w w' [(t1, tx x u), (t2, sh d x)] []) := s.out.add 0 rfl (by omega) u
        have k2 : ∀ W, MX B w W [(t1, tx x u), (t2, sh d x)] [] → Calls Try.prog 12 #[ptr t2, .int .i64 ((u : Int) + d)] W fun e w' => e = .returned (.tuple #[.int .i64 (ts x u), .int .i64 (te x u)]) ∧ Hid (MX B w w' [(t1, tx x u), (t2, sh d (tx x u))] []) := fun W h => by
          have := h.add 1 rfl (by omega) ((u : Int) + d)
          rw [sh_te, sh_ts, sh_tx] at this
          exact this
        have HS2 : Hid (siz (tx x u) ≤ i + 1 ∧ Lo (tx x u)) := ⟨by have := siz_tx hin u; have := HS.out.1; omega, HS.out.2.tx hin (by omega) (by omega)⟩
        obtain ⟨N1, N2, hN1, g1, g2, g3, g4, g5, g6⟩ := FIN.out (tx x u) (by have := HS2.out.1; omega) HS2.out.2
        generalize tx x u = X at *
        generalize ts x u = V at *
        generalize te x u = E at *
        have z1 : (V != V) = false := by simp
        have z2 : (E != E) = false := by simp
        clear hk3 FIN HS hin hsz hsz2
        go_wp2_with (go_at_call 12; refine k1.mono ?_; rintro e w3 ⟨rfl, s3⟩; refine Hid.out ?_)
        refine hide_it ?_
        go_wp2_with (go_at_call 12; refine (k2 _ s3.out).mono ?_; rintro e w4 ⟨rfl, s4⟩; refine Hid.out ?_)
        refine hide_it ?_
        go_wp2_with (go_at_call 16; refine (g1 _ s4.out).mono ?_; rintro e w5 ⟨a5, n5, rfl, l5, m5, s5⟩; refine Hid.out ?_)
        refine hide_it ?_
        go_wp2_with (go_at_call 16; refine (g2 _ _ _ s5.out).mono ?_; rintro e w6 ⟨a6, n6, rfl, l6, m6, s6⟩; refine Hid.out ?_)
        refine hide_it ?_
        go_wp2_with (go_at_call 17; refine (g3 _ _ _ _ _ s6.out).mono ?_; rintro e w7 ⟨a7, n7, rfl, s7⟩; refine Hid.out ?_)
        refine hide_it ?_
        go_wp2_with (go_at_call 17; refine (g4 _ _ _ _ _ s7.out).mono ?_; rintro e w8 ⟨a8, n8, rfl, s8⟩)
        clear g1 g2 g3 g4 s5 s6 s7 s4
        go_loopw [25] (fun kv W => ∃ k : Nat, kv = .int .i64 k ∧ k ≤ N1 ∧ Hid (MX B w W [(t1, X), (t2, sh d X)] [] ∧ Rd W a5 X.A n5 ∧ Rd W a6 (shl d X.A) n6)) (fun kv _ => N1 - (intOf kv).toNat)
        case atStart => exact ⟨0, rfl, Nat.zero_le _, s8⟩
        case round =>
          clear s8
          obtain ⟨k, rfl, hk, s9⟩ := hrel
          by_cases hkn : k < N1
          · obtain ⟨bp, op, bq, oq, z, rfl, rfl, hz0, hz1, cp, cq⟩ := g6 _ _ _ _ _ k s9.out hkn
            have zz : (z + d != z + d) = false := by simp
            have HG5 := hide_it g5
            clear g5 g6
            go_wp2
            go_big_quiet (fail)
            go_wp2
            go_roundw
            case rel => exact ⟨k + 1, by go_num, by omega, HG5.out _ _ _ _ _ _ s9.out (Below.drewN (Below.refl _ _) _)⟩
            case measure => simp [intOf]; omega
          · have d7 : decide ((k : Int) < (N1 : Int)) = false := decide_eq_false (by omega)
            have d8 : decide (k < N1) = false := decide_eq_false hkn
            clear g5 g6
            go_wp2
            go_roundw
            case rel => exact ⟨i + 1, X, by go_num, by omega, by omega, s9.out.1, HS2⟩
            case measure => simp [intOf]; omega
    · by_cases hlt : i < m
      · have d1 : decide ((i : Int) < 100) = false := by simp; omega
        have d2 : decide (i < 100) = false := by simp; omega
        clear HI HS
        go_wp2
        go_ret
        exact ⟨rfl, s.out.bel⟩
      · have d1 : decide ((i : Int) < m) = false := by simp; omega
        have d2 : decide (i < m) = false := by simp; omega
        clear HI HS
        go_wp2
        go_ret
        exact ⟨rfl, s.out.bel⟩
end Go.Proofs.Ytjmdalpffhfdfaa
