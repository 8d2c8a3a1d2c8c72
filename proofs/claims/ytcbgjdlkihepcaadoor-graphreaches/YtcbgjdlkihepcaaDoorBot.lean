/- GraphBoth, walked. -/
import Derived.Test.YtcbgjdlkihepcaaDoorOnw
namespace Go.Proofs.YtcbgjdlkihepcaaDoor
open Go.RowKit
open M
set_option linter.unusedVariables false
set_option linter.unusedSimpArgs false

def cntO (es : List E) (k : Nat) : Nat := (es.filter fun e => decide (e.1 < k)).length
def cntI (es : List E) (k : Nat) : Nat := (es.filter fun e => decide (e.2 < k)).length
theorem cntO_zero (es : List E) : cntO es 0 = 0 := by simp [cntO]
theorem cntI_zero (es : List E) : cntI es 0 = 0 := by simp [cntI]
theorem cntO_succ (es : List E) (k : Nat) : cntO es (k + 1) = cntO es k + (outs es k).length := by
  unfold cntO outs
  induction es with
  | nil => rfl
  | cons e r ih =>
    obtain ⟨x, y⟩ := e
    simp only [List.filter_cons, List.length_map] at ih ⊢
    by_cases h1 : x < k
    · have h2 : ¬ ((x : Int) = (k : Int)) := by omega
      have h3 : x < k + 1 := by omega
      simp [h1, h2, h3]; omega
    · by_cases h2 : x = k
      · subst h2
        simp; omega
      · have h3 : ¬ x < k + 1 := by omega
        have h4 : ¬ ((x : Int) = (k : Int)) := by omega
        simp [h1, h3, h4]; omega
theorem cntI_succ (es : List E) (k : Nat) : cntI es (k + 1) = cntI es k + (ins es k).length := by
  unfold cntI ins
  induction es with
  | nil => rfl
  | cons e r ih =>
    obtain ⟨y, x⟩ := e
    simp only [List.filter_cons, List.length_map] at ih ⊢
    by_cases h1 : x < k
    · have h2 : ¬ ((x : Int) = (k : Int)) := by omega
      have h3 : x < k + 1 := by omega
      simp [h1, h2, h3]; omega
    · by_cases h2 : x = k
      · subst h2
        simp; omega
      · have h3 : ¬ x < k + 1 := by omega
        have h4 : ¬ ((x : Int) = (k : Int)) := by omega
        simp [h1, h3, h4]; omega
theorem cntO_all (es : List E) (n : Nat) (h : ∀ e ∈ es, e.1 < n ∧ e.2 < n) : cntO es n = es.length := by
  unfold cntO
  rw [List.filter_eq_self.2 (fun e he => by simpa using (h e he).1)]
theorem cntI_all (es : List E) (n : Nat) (h : ∀ e ∈ es, e.1 < n ∧ e.2 < n) : cntI es n = es.length := by
  unfold cntI
  rw [List.filter_eq_self.2 (fun e he => by simpa using (h e he).2)]
theorem cntO_le (es : List E) (k : Nat) : cntO es k ≤ es.length := List.length_filter_le _ _
theorem cntI_le (es : List E) (k : Nat) : cntI es k ≤ es.length := List.length_filter_le _ _
theorem outs_mem (es : List E) (a b : Nat) : b ∈ outs es a ↔ (a, b) ∈ es := by
  unfold outs
  simp only [List.mem_map, List.mem_filter, decide_eq_true_eq]
  constructor
  · rintro ⟨⟨x, y⟩, ⟨h1, h2⟩, rfl⟩
    simp only at h2
    have h3 : x = a := by omega
    subst h3
    exact h1
  · intro h
    exact ⟨(a, b), ⟨h, rfl⟩, rfl⟩
theorem ins_mem (es : List E) (a b : Nat) : a ∈ ins es b ↔ (a, b) ∈ es := by
  unfold ins
  simp only [List.mem_map, List.mem_filter, decide_eq_true_eq]
  constructor
  · rintro ⟨⟨x, y⟩, ⟨h1, h2⟩, rfl⟩
    simp only at h2
    have h3 : y = b := by omega
    subst h3
    exact h1
  · intro h
    exact ⟨(a, b), ⟨h, rfl⟩, rfl⟩
theorem ins_count (es : List E) (hn : es.Nodup) (a b : Nat) (h : (a, b) ∈ es) : (ins es b).count a = 1 := by
  have hd : (ins es b).Nodup := by
    unfold ins
    have h2 : (es.filter fun e => decide ((e.2 : Int) = b)).Nodup := hn.filter _
    refine List.pairwise_map.2 ?_
    refine List.Pairwise.imp_of_mem ?_ h2
    rintro ⟨x1, y1⟩ ⟨x2, y2⟩ m1 m2 hne e
    have q1 := (List.mem_filter.1 m1).2
    have q2 := (List.mem_filter.1 m2).2
    simp only [decide_eq_true_eq] at q1 q2 e
    have e2 : y1 = y2 := by omega
    subst e e2
    exact hne rfl
  rw [hd.count]
  simp [(ins_mem es a b).2 h]
theorem count_take (l : List Nat) (a j : Nat) (h : j < l.length) : (l.take (j + 1)).count a = (l.take j).count a + if l[j] = a then 1 else 0 := by
  rw [List.take_succ_eq_append_getElem h, List.count_append]
  by_cases e : l[j] = a
  · simp [e]
  · simp [e]
theorem count_le (l : List Nat) (a : Nat) : l.count a ≤ l.length := List.count_le_length

/-- The cells of a row of numbers. -/
def IC (w : World) (ao : Option Addr) (xs : List Nat) : Prop := ∀ i (h : i < xs.length), ∃ r, ao = some ⟨r, 0, none⟩ ∧ r < w.heap.size ∧ w.cell? ⟨r, i, none⟩ = some (.int .i64 (xs[i] : Nat))
theorem IC.below {w w' : World} {ao : Option Addr} {xs : List Nat} (h : IC w ao xs) (hb : Below w.heap.size w w') : IC w' ao xs := by
  intro i hi
  obtain ⟨r, h1, h2, h3⟩ := h i hi
  exact ⟨r, h1, Nat.lt_of_lt_of_le h2 hb.size, by rw [hb.cell (p := ⟨r, _, none⟩) h2]; exact h3⟩

set_option maxRecDepth 1000000 in
set_option maxHeartbeats 4000000 in
theorem both_core (n : Int) (ls : List (Int × Int)) (la : Option Addr) (lc : Nat) (w : World) (hT : Tab w) (h0 : 0 < w.heap.size) (hl : LIn w la ls) (hm : ls.length ≤ maxLen) :
    Calls Tryd.prog 6 #[.int .i64 n, .slice la ls.length lc] w fun e w' => e = .returned (.bool true) ∧ Below w.heap.size w w' := by
  have kS := shown_b hT h0 (Below.refl _ w)
  have kM := fun w1 (hb : Below w.heap.size w w1) => made_sc hT h0 hb n ls la lc hl hm ls.length (sz n) _ rfl rfl rfl
  have hfl := foldE_len (sz n) ls 200
  have hN := sz_le n
  generalize foldE (sz n) (ls.take 200) [] = es at *
  generalize sz n = N at *
  generalize ls.length = m at *
  have kO : ∀ W g eb (k : Nat) (L : List Nat) (q : Nat), outs es k = L → L.length = q → Sc w.heap.size w W g eb N es → Calls Tryd.prog 20 #[ptr g, .int .i64 k] W fun e w' => ∃ ao cap, e = .returned (.slice ao q cap) ∧ Hid (Sc w.heap.size w w' g eb N es ∧ IC w' ao L) := fun W g eb k L q hL hq h => by
    refine (h.out (by omega) k L hL).mono ?_
    rintro e w' ⟨u, rfl, ho⟩
    obtain ⟨ao, cap, he, hc⟩ := own_iat ho.out.2
    subst hq
    exact ⟨ao, cap, by rw [he], ho.out.1, hc⟩
  have kI : ∀ W g eb (k : Nat) (L : List Nat) (q : Nat), ins es k = L → L.length = q → Sc w.heap.size w W g eb N es → Calls Tryd.prog 22 #[ptr g, .int .i64 k] W fun e w' => ∃ ao cap, e = .returned (.slice ao q cap) ∧ Hid (Sc w.heap.size w w' g eb N es ∧ Below W.heap.size W w' ∧ IC w' ao L) := fun W g eb k L q hL hq h => by
    obtain ⟨v, hm, _⟩ := h.go.ex
    refine (in_any hm k (by omega)).mono ?_
    rintro e w' ⟨u, rfl, ho, hb⟩
    rw [hL] at ho
    obtain ⟨ao, cap, he, hc⟩ := own_iat ho
    subst hq
    exact ⟨ao, cap, by rw [he], h.step hb, hb, hc⟩
  have kH : ∀ W g eb (k b : Nat), (k, b) ∈ es → Sc w.heap.size w W g eb N es → Calls Tryd.prog 17 #[ptr g, .int .i64 k, .int .i64 b] W fun e w' => e = .returned (.bool true) ∧ Hid (Sc w.heap.size w w' g eb N es ∧ Below W.heap.size W w') := fun W g eb k b hkb h => by
    obtain ⟨v, hm, _⟩ := h.go.ex
    refine (has_edge hm k b).mono ?_
    rintro e w' ⟨rfl, hb⟩
    have hg := hm.good _ hkb
    simp only at hg
    have ht : hasB N es k b = true := by
      rw [hasB_iff]
      refine ⟨?_, ?_, by simpa using hkb⟩
      · simp [offB]; omega
      · simp [offB]; omega
    exact ⟨by rw [ht], h.step hb, hb⟩
  have kn : ∀ W g eb, Sc w.heap.size w W g eb N es → Calls Tryd.prog 16 #[ptr g] W fun e w' => e = .returned (.int .i64 N) ∧ w' = W := fun W g eb h => h.num
  have kL : ∀ W g eb, Sc w.heap.size w W g eb N es → Calls Tryd.prog 15 #[ptr g] W fun e w' => e = .returned (.int .i64 es.length) ∧ w' = W := fun W g eb h => h.len
  have hO := fun k => cntO_le es k
  have hI := fun k => cntI_le es k
  clear hl hT hm
  go_enter Tryd.func6, Tryd.ntmps6
  go_wp2_with (first | (go_at_call 10; refine kS.mono ?_; rintro e w1 ⟨rfl, hb1⟩) | (go_at_call 28; refine (kM _ hb1.out).mono ?_; rintro e w2 ⟨g, eb, rfl, s⟩))
  have hgood : Hid (∀ e ∈ es, e.1 < N ∧ e.2 < N) := by obtain ⟨v, hm, _⟩ := s.out.go.ex; exact hm.good
  have hnd : Hid es.Nodup := by obtain ⟨v, hm, _⟩ := s.out.go.ex; exact hm.nd
  clear kS kM
  go_loopw [7, 8, 9] (fun o i x W => ∃ k : Nat, k ≤ N ∧ x = .int .i64 k ∧ o = .int .i64 (cntO es k) ∧ i = .int .i64 (cntI es k) ∧ Hid (Sc w.heap.size w W g eb N es)) (fun _ _ x _ => N - (intOf x).toNat)
  case atStart => exact ⟨0, Nat.zero_le _, rfl, by rw [cntO_zero]; rfl, by rw [cntI_zero]; rfl, s⟩
  case round =>
    obtain ⟨k, hk, rfl, rfl, rfl, s⟩ := hrel
    obtain ⟨w3, rfl⟩ : ∃ W, W = wr := ⟨_, rfl⟩
    have ho1 := hO k
    have hi1 := hI k
    by_cases hlt : k < N
    · have HO1 := hide_it (cntO_succ es k)
      have HI1 := hide_it (cntI_succ es k)
      have HMm := hide_it (fun b => (outs_mem es k b).1)
      have ho2 := hO (k + 1)
      have hi2 := hI (k + 1)
      obtain ⟨L, hL⟩ : ∃ L, outs es k = L := ⟨_, rfl⟩
      obtain ⟨L2, hL2⟩ : ∃ L, ins es k = L := ⟨_, rfl⟩
      obtain ⟨q, hq⟩ : ∃ q, L.length = q := ⟨_, rfl⟩
      obtain ⟨q2, hq2⟩ : ∃ q, L2.length = q := ⟨_, rfl⟩
      have kO' := fun W g eb => kO W g eb k L q hL hq
      have kI' := fun W g eb => kI W g eb k L2 q2 hL2 hq2
      rw [hL, hq] at HO1
      rw [hL2, hq2] at HI1
      rw [hL] at HMm
      have HQ := hide_it hq
      generalize cntO es k = co1 at *
      generalize cntI es k = ci1 at *
      clear hO hI hL hL2 hq hq2
      have hco : cntO es (k + 1) = co1 + q := HO1.out
      have hci : cntI es (k + 1) = ci1 + q2 := HI1.out
      have hco3 : co1 + q ≤ 200 := by omega
      have hci3 : ci1 + q2 ≤ 200 := by omega
      clear hco hci ho2 hi2
      go_wp2_with (first | (go_at_call 16; refine (kn _ _ _ s.out).mono ?_; rintro e w4 ⟨rfl, rfl⟩) | (go_at_call 20; refine (kO' _ _ _ s.out).mono ?_; rintro e w5 ⟨ao, cap, rfl, s5⟩) | (go_at_call 22; refine (kI' _ _ _ s5.out.1).mono ?_; rintro e w6 ⟨ai, ci, rfl, s6⟩))
      have s7 : Hid (Sc w.heap.size w w6 g eb N es ∧ IC w6 ao L) := ⟨s6.out.1, s5.out.2.below s6.out.2.1⟩
      clear s s5 s6 kO' kI'
      go_loopw [11] (fun i W => ∃ j : Nat, j ≤ q ∧ i = .int .i64 j ∧ Hid (Sc w.heap.size w W g eb N es ∧ IC W ao L)) (fun i _ => q - (intOf i).toNat)
      case atStart => exact ⟨0, Nat.zero_le _, rfl, s7⟩
      case round =>
        obtain ⟨j, hj, rfl, s⟩ := hrel
        obtain ⟨w7, rfl⟩ : ∃ W, W = wr := ⟨_, rfl⟩
        by_cases hjq : j < q
        · have hjx : j < L.length := by rw [HQ.out]; exact hjq
          obtain ⟨r, rfl, hr, cr⟩ := s.out.2 j hjx
          have hkb : Hid ((k, L[j]) ∈ es) := HMm.out _ (List.getElem_mem hjx)
          generalize L[j] = b at *
          have HCt := hide_it (ins_count es hnd.out k b hkb.out)
          obtain ⟨L3, hL3⟩ : ∃ L, ins es b = L := ⟨_, rfl⟩
          obtain ⟨q3, hq3⟩ : ∃ q, L3.length = q := ⟨_, rfl⟩
          have hq3l : q3 ≤ 200 := by rw [← hq3, ← hL3]; have := ins_len es b; omega
          have kI' := fun W g eb => kI W g eb b L3 q3 hL3 hq3
          rw [hL3] at HCt
          have HQ3 := hide_it hq3
          clear hL3 hq3
          go_wp2_with (go_at_call 22; refine (kI' _ _ _ s.out.1).mono ?_; rintro e w8 ⟨a3, c3, rfl, s8⟩)
          have hcr : w8.cell? ⟨r, j, none⟩ = some (.int .i64 b) := by rw [s8.out.2.1.cell (p := ⟨r, j, none⟩) hr]; exact cr
          have s9 : Hid (Sc w.heap.size w w8 g eb N es ∧ IC w8 (some ⟨r, 0, none⟩) L) := ⟨s8.out.1, s.out.2.below s8.out.2.1⟩
          have HC8 := hide_it s8.out.2.2
          clear s s8 kI'
          go_loop [13, 14] (fun t i => ∃ p : Nat, p ≤ q3 ∧ i = .int .i64 p ∧ t = .int .i64 ((L3.take p).count k)) (fun _ i => q3 - (intOf i).toNat)
          case atStart => exact ⟨0, Nat.zero_le _, rfl, by simp⟩
          case round =>
            obtain ⟨p, hp, rfl, rfl⟩ := hrel
            have hcl := count_le (L3.take p) k
            have hcl2 : (L3.take p).length ≤ p := List.length_take_le _ _
            by_cases hpq : p < q3
            · have hpx : p < L3.length := by rw [HQ3.out]; exact hpq
              obtain ⟨r3, rfl, hr3, cr3⟩ := HC8.out p hpx
              have HK := hide_it (count_take L3 k p hpx)
              generalize L3[p] = y at *
              generalize (L3.take p).count k = c1 at *
              by_cases hyk : y = k
              · subst hyk
                rw [if_pos rfl] at HK
                go_wp2
                go_round
                case rel => exact ⟨p + 1, by omega, by go_num, by rw [HK.out]; go_num⟩
                case measure => simp [intOf]; omega
              · rw [if_neg hyk] at HK
                have hyk2 : ((y : Int) == (k : Int)) = false := by simp; omega
                go_wp2
                go_round
                case rel => exact ⟨p + 1, by omega, by go_num, by rw [HK.out]; go_num⟩
                case measure => simp [intOf]; omega
            · have e : L3.take p = L3 := List.take_of_length_le (by rw [HQ3.out]; omega)
              rw [e, HCt.out]
              clear hcl hcl2 e
              go_wp2_with (go_at_call 17; refine (kH _ _ _ _ _ hkb.out s9.out.1).mono ?_; rintro e w10 ⟨rfl, s10⟩)
              go_roundw
              case rel => exact ⟨j + 1, by omega, by go_num, s10.out.1, s9.out.2.below s10.out.2⟩
              case measure => simp [intOf]; omega
        · go_wp2
          go_roundw
          case rel => exact ⟨k + 1, by omega, by go_num, by rw [HO1.out]; go_num, by rw [HI1.out]; go_num, s.out.1⟩
          case measure => simp [intOf]; omega
    · have h1 : decide ((k : Int) < N) = false := by simp; omega
      obtain rfl : k = N := by omega
      have e1 := cntO_all es k hgood.out
      have e2 := cntI_all es k hgood.out
      rw [e1, e2]
      clear e1 e2
      go_wp2_with (first | (go_at_call 16; refine (kn _ _ _ s.out).mono ?_; rintro e w4 ⟨rfl, rfl⟩) | (go_at_call 15; refine (kL _ _ _ s.out).mono ?_; rintro e w5 ⟨rfl, rfl⟩))
      go_ret
      exact ⟨rfl, s.out.bel⟩
end Go.Proofs.YtcbgjdlkihepcaaDoor
