/- Paths, circles and the order are what the document says: the walk. -/
import Derived.Test.YtpbncoaonminoaaDoorROn
import Derived.Test.YtpbncoaonminoaaDoorROr
import Derived.Test.YtpbncoaonminoaaDoorCyZ
namespace Go.Proofs.YtpbncoaonminoaaDoor
open Go.RowKit
open M
set_option linter.unusedVariables false
set_option linter.unusedSimpArgs false

/-- Both graphs, and rows beside them. -/
def TY (B : Nat) (w0 w : World) (g eb n : Nat) (es : List E) (r : Nat) (fs : List E) (X : List (Value × List Nat)) : Prop := TX B w0 w g eb n es r fs ∧ ∀ p ∈ X, IAt w p.1 p.2
section
variable {B : Nat} {w0 w w' : World} {g eb n : Nat} {es : List E} {r : Nat} {fs : List E} {X : List (Value × List Nat)}
theorem TY.step (h : TY B w0 w g eb n es r fs X) (hb : Below w.heap.size w w') : TY B w0 w' g eb n es r fs X := ⟨h.1.step hb, fun p hp => (h.2 p hp).below hb⟩
theorem TY.call (h : TY B w0 w g eb n es r fs X) {f : Nat} {args : Array Value} {L : List Nat} (hc : Calls Tryd.prog f args w fun e w' => ∃ u, e = .returned u ∧ OwnI w' w.heap.size u L ∧ Below w.heap.size w w') :
    Calls Tryd.prog f args w fun e w' => ∃ u, e = .returned u ∧ Hid (TY B w0 w' g eb n es r fs ((u, L) :: X)) := by
  refine hc.mono ?_
  rintro e w' ⟨u, rfl, ho, hb⟩
  refine ⟨u, rfl, h.1.step hb, fun p hp => ?_⟩
  rcases List.mem_cons.1 hp with rfl | hp
  · exact own_iat ho
  · exact (h.2 p hp).below hb
theorem TY.callB (h : TY B w0 w g eb n es r fs X) {f : Nat} {args : Array Value} {L : List Nat} {R : Bool} (hc : Calls Tryd.prog f args w fun e w' => ∃ u, e = .returned (.tuple #[u, .bool R]) ∧ OwnI w' w.heap.size u L ∧ Below w.heap.size w w') :
    Calls Tryd.prog f args w fun e w' => ∃ u, e = .returned (.tuple #[u, .bool R]) ∧ Hid (TY B w0 w' g eb n es r fs ((u, L) :: X)) := by
  refine hc.mono ?_
  rintro e w' ⟨u, rfl, ho, hb⟩
  refine ⟨u, rfl, h.1.step hb, fun p hp => ?_⟩
  rcases List.mem_cons.1 hp with rfl | hp
  · exact own_iat ho
  · exact (h.2 p hp).below hb
theorem TY.eqs (h : TY B w0 w g eb n es r fs X) {x y : Value} {L : List Nat} (hx : (x, L) ∈ X) (hy : (y, L) ∈ X) (hl : L.length ≤ 1000000) : Calls Tryd.prog 15 #[x, y] w fun e w' => e = .returned (.bool true) ∧ Hid (TY B w0 w' g eb n es r fs X) := by
  refine (ints_any (h.2 _ hx) (h.2 _ hy) hl).mono ?_
  rintro e w' ⟨rfl, hb⟩
  exact ⟨by simp, h.step hb⟩
end
theorem rnew_tx {B : Nat} {w0 w : World} {g eb N : Nat} {es : List E} (h : RX B w0 w g eb N es []) (n : Int) (hN : sz n = N) :
    Calls Tryd.prog 11 #[.int .i64 n] w fun e w' => ∃ r, e = .returned (ptr r) ∧ Hid (TX B w0 w' g eb N es r []) := by
  obtain ⟨v, h⟩ := h
  subst hN
  refine (rnew_any n w).mono ?_
  rintro e w' ⟨rfl, hr, hb⟩
  have hs := h.step hb
  refine ⟨_, rfl, v, _, hs.bel, hs.gm, hr, h.gB, ?_, ?_, hs.tab, h.pos, hs.le⟩
  · rintro k (rfl | hk)
    · exact h.le
    · simp [Value.ownBlock] at hk
  · rintro k hF (rfl | hk)
    · have := h.gm.lt _ hF; omega
    · simp [Value.ownBlock] at hk

set_option maxRecDepth 1000000 in
set_option maxHeartbeats 8000000 in
theorem tells_core (n a b : Int) (ls : List (Int × Int)) (la : Option Addr) (lc : Nat) (W : World) (hT : Tab W) (h0 : 0 < W.heap.size) (hl : LIn W la ls) (hm : ls.length ≤ maxLen) :
    Calls Tryd.prog 3 #[.int .i64 n, .slice la ls.length lc, .int .i64 a, .int .i64 b] W fun e w' => e = .returned (.bool true) ∧ Below W.heap.size W w' := by
  have ks := shown_q hT h0 (Below.refl _ W)
  obtain ⟨m, hmm⟩ : ∃ m, ls.length = m := ⟨_, rfl⟩
  obtain ⟨N, hN⟩ : ∃ N, sz30 n = N := ⟨_, rfl⟩
  obtain ⟨es, hes⟩ : ∃ es, foldE N (ls.take 100) [] = es := ⟨_, rfl⟩
  have hlen : es.length ≤ 100 := by rw [← hes]; exact fold_len N ls
  have hN30 : N ≤ 30 := by rw [← hN]; exact sz30_le n
  have km : ∀ w1, Below W.heap.size W w1 → Calls Tryd.prog 10 #[.int .i64 n, .slice la m lc] w1 fun e w' => ∃ g eb, e = .returned (ptr g) ∧ Hid (RX W.heap.size W w' g eb N es []) := fun w1 hb => made_q hT h0 hb n ls la lc hl hm m N es hN hmm hes
  have hmin := min30_run n
  have kr : ∀ w1 g eb, RX W.heap.size W w1 g eb N es [] → Calls Tryd.prog 11 #[.int .i64 (min n 30)] w1 fun e w' => ∃ r, e = .returned (ptr r) ∧ Hid (TX W.heap.size W w' g eb N es r []) := fun w1 g eb h => rnew_tx h (min n 30) hN
  have kO : ∀ w1 g eb r, TX W.heap.size W w1 g eb N es r es → Calls Tryd.prog 13 #[ptr g] w1 fun e w' => ∃ u, e = .returned (.tuple #[u, .bool (orderB es N)]) ∧ Hid (TY W.heap.size W w' g eb N es r es [(u, orderL es N)]) := fun w1 g eb r h => by
    have h2 : TY W.heap.size W w1 g eb N es r es [] := ⟨h, by simp⟩
    obtain ⟨v, v2, t⟩ := h
    exact h2.callB (order_any t.gm (by omega))
  have kRO : ∀ w1 g eb r X, TY W.heap.size W w1 g eb N es r es X → Calls Tryd.prog 14 #[ptr r] w1 fun e w' => ∃ u, e = .returned (.tuple #[u, .bool (orderB es N)]) ∧ Hid (TY W.heap.size W w' g eb N es r es ((u, orderL es N) :: X)) := fun w1 g eb r X h => by
    have h2 := h
    obtain ⟨⟨v, v2, t⟩, _⟩ := h
    exact h2.callB (rorder_any t.rm t.gm.hn t.gm.good (by omega))
  have kP : ∀ (x y : Int) w1 g eb r X, TY W.heap.size W w1 g eb N es r es X → Calls Tryd.prog 16 #[ptr g, .int .i64 x, .int .i64 y] w1 fun e w' => ∃ u, e = .returned u ∧ Hid (TY W.heap.size W w' g eb N es r es ((u, pathG es N x y) :: X)) := fun x y w1 g eb r X h => by
    have h2 := h
    obtain ⟨⟨v, v2, t⟩, _⟩ := h
    exact h2.call (path_any t.gm (by omega) x y)
  have kC : ∀ (x y : Int) w1 g eb r X, TY W.heap.size W w1 g eb N es r es X → Calls Tryd.prog 18 #[ptr g, .int .i64 x, .int .i64 y] w1 fun e w' => ∃ u, e = .returned u ∧ Hid (TY W.heap.size W w' g eb N es r es ((u, pathG es N y x) :: X)) := fun x y w1 g eb r X h => by
    have h2 := h
    obtain ⟨⟨v, v2, t⟩, _⟩ := h
    exact h2.call (closes_any t.gm (by omega) x y)
  have kRP : ∀ (x y : Int) w1 g eb r X, TY W.heap.size W w1 g eb N es r es X → Calls Tryd.prog 17 #[ptr r, .int .i64 x, .int .i64 y] w1 fun e w' => ∃ u, e = .returned u ∧ Hid (TY W.heap.size W w' g eb N es r es ((u, pathG es N x y) :: X)) := fun x y w1 g eb r X h => by
    have h2 := h
    obtain ⟨⟨v, v2, t⟩, _⟩ := h
    exact h2.call (rpath_any t.rm t.gm.hn t.gm.good (by omega) x y)
  have kOn : ∀ w1 g eb r X, TY W.heap.size W w1 g eb N es r es X → Calls Tryd.prog 19 #[ptr g] w1 fun e w' => ∃ u, e = .returned u ∧ Hid (TY W.heap.size W w' g eb N es r es ((u, onL es N) :: X)) := fun w1 g eb r X h => by
    have h2 := h
    obtain ⟨⟨v, v2, t⟩, _⟩ := h
    exact h2.call (on_any t.gm t.tab (Nat.lt_of_lt_of_le t.pos t.le) (by omega))
  have kROn : ∀ w1 g eb r X, TY W.heap.size W w1 g eb N es r es X → Calls Tryd.prog 20 #[ptr r] w1 fun e w' => ∃ u, e = .returned u ∧ Hid (TY W.heap.size W w' g eb N es r es ((u, onL es N) :: X)) := fun w1 g eb r X h => by
    have h2 := h
    obtain ⟨⟨v, v2, t⟩, _⟩ := h
    exact h2.call (ron_any t.rm t.gm.hn t.gm.good (by omega))
  have kE : ∀ (L : List Nat) w1 g eb r X x y, TY W.heap.size W w1 g eb N es r es X → (x, L) ∈ X → (y, L) ∈ X → L.length ≤ 1000000 → Calls Tryd.prog 15 #[x, y] w1 fun e w' => e = .returned (.bool true) ∧ Hid (TY W.heap.size W w' g eb N es r es X) := fun L w1 g eb r X x y h hx hy hl => h.eqs hx hy hl
  have hgood : ∀ e ∈ es, e.1 < N ∧ e.2 < N := by
    intro e he
    rw [← hes] at he
    have : ∀ (ls : List (Int × Int)) (es : List E), (∀ e ∈ es, e.1 < N ∧ e.2 < N) → ∀ e ∈ foldE N ls es, e.1 < N ∧ e.2 < N := by
      intro ls
      induction ls with
      | nil => intro es h; exact h
      | cons p q ih =>
        intro es h
        refine ih (addE N es p.1 p.2) ?_
        unfold addE
        split
        · rename_i hc
          have hr : 0 ≤ p.1 ∧ p.1 < N ∧ 0 ≤ p.2 ∧ p.2 < N := by simp [offB] at hc; omega
          split
          · exact h
          · intro e he
            rcases List.mem_append.1 he with q | q
            · exact h e q
            · simp at q
              subst q
              exact ⟨by show p.1.toNat < N; omega, by show p.2.toNat < N; omega⟩
        · exact h
    exact this _ [] (by simp) e he
  have hpl : ∀ x y : Int, (pathG es N x y).length ≤ 1000000 := fun x y => by
    rcases path_cases hgood x y with ⟨h, _⟩ | ⟨_, p, q, _, _, _, _, h⟩
    · rw [h]; simp
    · have := h.len hgood; omega
  have hol : (orderL es N).length ≤ 1000000 := by have := (orderL_lt es N).2.2; omega
  have hnl : (onL es N).length ≤ 1000000 := by have := onL_len es N; omega
  have HLI := hide_it hl
  have HM := hide_it hmm
  have HF : Hid (foldE N (ls.take 100) [] = es) := hes
  rw [hmm] at hm ⊢
  unfold maxLen at hm
  have kP1 := kP a b
  have kC1 := kC a b
  have kRP1 := kRP a b
  have kRP2 := kRP b a
  have hp1 := hpl a b
  have hp2 := hpl b a
  generalize orderB es N = OB at *
  generalize orderL es N = OL at *
  generalize onL es N = NL at *
  generalize pathG es N a b = P1 at *
  generalize pathG es N b a = P2 at *
  generalize min n 30 = n30 at *
  clear hT hl hmm hes hN hgood hpl kP kC kRP
  go_enter Tryd.func3, Tryd.ntmps3
  go_wp2_with (first | (go_at_call 9; refine ks.mono ?_; rintro e w1 ⟨rfl, s1⟩) | (go_at_call 10; refine (km _ s1.out).mono ?_; rintro e w2 ⟨g, eb, rfl, s2⟩) | (go_at_call 11; refine (kr _ _ _ s2.out).mono ?_; rintro e w3 ⟨r, rfl, s3⟩))
  go_loopw [12] (fun i W' => ∃ k : Nat, k ≤ m ∧ k ≤ 100 ∧ i = .int .i64 k ∧ Hid (TX W.heap.size W W' g eb N es r (foldE N (ls.take k) []))) (fun i _ => m - (intOf i).toNat)
  case atStart => exact ⟨0, Nat.zero_le _, by omega, rfl, s3⟩
  case round =>
    obtain ⟨k, hk, hk2, rfl, s4⟩ := hrel
    clear ks km kr s1 s2 s3 hmin
    by_cases hlt : k < m ∧ k < 100
    · obtain ⟨hlt, hlt2⟩ := hlt
      have hlx : k < ls.length := by rw [HM.out]; exact hlt
      obtain ⟨bb, o, rfl, hbw, c1, c2⟩ := (HLI.out.below s4.out.bel (Nat.le_refl _)) k hlx
      have HT := hide_it (foldE_take N ls k hlx)
      have hfl := foldE_len N ls k
      have ka := fun j => (s4.out.step (below_drewN (Below.refl _ _) j)).radd (by omega) ls[k].1 ls[k].2 _ _ _ rfl rfl rfl
      generalize ls[k] = p at *
      obtain ⟨x, y⟩ := p
      simp only at c1 c2 HT ka
      clear kO kRO kP1 kC1 kRP1 kRP2 kOn kROn kE
      go_wp2
      go_region_with ((go_at_call 12; refine (ka 1).mono ?_; rintro e w5 ⟨rfl, s5⟩))
      all_goals
        go_wp2
        go_roundw
        case rel => exact ⟨k + 1, by omega, by omega, by go_num, by unfold Hid; rw [HT.out]; exact s5.out.1⟩
        case measure => simp [intOf]; omega
    · have e1 : foldE N (ls.take k) [] = es := by
        rw [← HF.out]
        by_cases h1 : k < m
        · have : k = 100 := by omega
          rw [this]
        · rw [List.take_of_length_le (by rw [HM.out]; omega), List.take_of_length_le (by rw [HM.out]; omega)]
      rw [e1] at s4
      clear e1
      by_cases hkm : k < m
      · have hkx : decide ((k : Int) < 100) = false := by simp; omega
        go_wp2_with (first | (go_at_call 13; refine (kO _ _ _ _ s4.out).mono ?_; rintro e w5 ⟨u5, rfl, s5⟩) | (go_at_call 14; refine (kRO _ _ _ _ _ s5.out).mono ?_; rintro e w6 ⟨u6, rfl, s6⟩) | (go_at_call 16; refine (kP1 _ _ _ _ _ s6.out).mono ?_; rintro e w7 ⟨u7, rfl, s7⟩) | (go_at_call 17; refine (kRP1 _ _ _ _ _ s7.out).mono ?_; rintro e w8 ⟨u8, rfl, s8⟩; refine Hid.out ?_))
        refine hide_it ?_
        go_wp2_with (go_at_call 15; refine (kE P1 _ _ _ _ _ _ _ s8.out (by simp) (by simp) hp1).mono ?_; rintro e w9 ⟨rfl, s9⟩; refine Hid.out ?_)
        refine hide_it ?_
        go_wp2_with (first | (go_at_call 18; refine (kC1 _ _ _ _ _ s9.out).mono ?_; rintro e w10 ⟨u10, rfl, s10⟩) | (go_at_call 17; refine (kRP2 _ _ _ _ _ s10.out).mono ?_; rintro e w11 ⟨u11, rfl, s11⟩; refine Hid.out ?_))
        refine hide_it ?_
        go_wp2_with (go_at_call 15; refine (kE P2 _ _ _ _ _ _ _ s11.out (by simp) (by simp) hp2).mono ?_; rintro e w12 ⟨rfl, s12⟩; refine Hid.out ?_)
        refine hide_it ?_
        go_wp2_with (first | (go_at_call 19; refine (kOn _ _ _ _ _ s12.out).mono ?_; rintro e w13 ⟨u13, rfl, s13⟩) | (go_at_call 20; refine (kROn _ _ _ _ _ s13.out).mono ?_; rintro e w14 ⟨u14, rfl, s14⟩; refine Hid.out ?_))
        refine hide_it ?_
        go_wp2_with (go_at_call 15; refine (kE NL _ _ _ _ _ _ _ s14.out (by simp) (by simp) hnl).mono ?_; rintro e w15 ⟨rfl, s15⟩; refine Hid.out ?_)
        refine hide_it ?_
        go_wp2_with (go_at_call 15; refine (kE OL _ _ _ _ _ _ _ s15.out (by simp) (by simp) hol).mono ?_; rintro e w16 ⟨rfl, s16⟩)
        go_ret
        exact ⟨rfl, s16.out.1.bel⟩
      · have hkx : decide ((k : Int) < (m : Int)) = false := by simp; omega
        go_wp2_with (first | (go_at_call 13; refine (kO _ _ _ _ s4.out).mono ?_; rintro e w5 ⟨u5, rfl, s5⟩) | (go_at_call 14; refine (kRO _ _ _ _ _ s5.out).mono ?_; rintro e w6 ⟨u6, rfl, s6⟩) | (go_at_call 16; refine (kP1 _ _ _ _ _ s6.out).mono ?_; rintro e w7 ⟨u7, rfl, s7⟩) | (go_at_call 17; refine (kRP1 _ _ _ _ _ s7.out).mono ?_; rintro e w8 ⟨u8, rfl, s8⟩; refine Hid.out ?_))
        refine hide_it ?_
        go_wp2_with (go_at_call 15; refine (kE P1 _ _ _ _ _ _ _ s8.out (by simp) (by simp) hp1).mono ?_; rintro e w9 ⟨rfl, s9⟩; refine Hid.out ?_)
        refine hide_it ?_
        go_wp2_with (first | (go_at_call 18; refine (kC1 _ _ _ _ _ s9.out).mono ?_; rintro e w10 ⟨u10, rfl, s10⟩) | (go_at_call 17; refine (kRP2 _ _ _ _ _ s10.out).mono ?_; rintro e w11 ⟨u11, rfl, s11⟩; refine Hid.out ?_))
        refine hide_it ?_
        go_wp2_with (go_at_call 15; refine (kE P2 _ _ _ _ _ _ _ s11.out (by simp) (by simp) hp2).mono ?_; rintro e w12 ⟨rfl, s12⟩; refine Hid.out ?_)
        refine hide_it ?_
        go_wp2_with (first | (go_at_call 19; refine (kOn _ _ _ _ _ s12.out).mono ?_; rintro e w13 ⟨u13, rfl, s13⟩) | (go_at_call 20; refine (kROn _ _ _ _ _ s13.out).mono ?_; rintro e w14 ⟨u14, rfl, s14⟩; refine Hid.out ?_))
        refine hide_it ?_
        go_wp2_with (go_at_call 15; refine (kE NL _ _ _ _ _ _ _ s14.out (by simp) (by simp) hnl).mono ?_; rintro e w15 ⟨rfl, s15⟩; refine Hid.out ?_)
        refine hide_it ?_
        go_wp2_with (go_at_call 15; refine (kE OL _ _ _ _ _ _ _ s15.out (by simp) (by simp) hol).mono ?_; rintro e w16 ⟨rfl, s16⟩)
        go_ret
        exact ⟨rfl, s16.out.1.bel⟩

end Go.Proofs.YtpbncoaonminoaaDoor
