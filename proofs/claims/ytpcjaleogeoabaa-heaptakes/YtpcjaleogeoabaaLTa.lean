/- HeapTakes, walked. -/
import Derived.Test.YtpcjaleogeoabaaLLe
namespace Go.Proofs.Ytpcjaleogeoabaa
open Go.RowKit
open M
set_option linter.unusedVariables false
set_option linter.unusedSimpArgs false

/-- Those of the first i that are not gone. -/
def goneS (K : Nat → Int) (gone : Nat → Bool) (i : Nat) (x : Nat) : Option Int := if x < i ∧ gone x = false then some (K x) else none
theorem gs_push {K : Nat → Int} {gone : Nat → Bool} {N i : Nat} (hi : i < N) (hg : gone i = false) : pushE N (goneS K gone i) (i : Int) = 0 ∧ pushS N (goneS K gone i) (i : Int) (K i) = goneS K gone (i + 1) := by
  have h1 : hasB N (goneS K gone i) (i : Int) = false := by simp [hasB, goneS]
  have h2 := isId_nat N i hi
  refine ⟨by simp [pushE, h1, h2], ?_⟩
  unfold pushS
  rw [if_pos ⟨h2, h1⟩, Int.toNat_natCast]
  funext x
  unfold upS goneS
  by_cases e : x = i
  · subst e; simp [hg]
  · rw [if_neg e]
    by_cases e2 : x < i
    · simp [e2, show x < i + 1 by omega]
    · simp [e2, show ¬ x < i + 1 by omega]
theorem gs_skip {K : Nat → Int} {gone : Nat → Bool} {i : Nat} (hg : gone i = true) : goneS K gone (i + 1) = goneS K gone i := by
  funext x
  unfold goneS
  by_cases e : x = i
  · subst e; simp [hg]
  · by_cases e2 : x < i
    · simp [e2, show x < i + 1 by omega]
    · simp [e2, show ¬ x < i + 1 by omega]
theorem gs_rem {K : Nat → Int} {gone : Nat → Bool} {N id : Nat} (hid : id < N) (hg : gone id = false) : keyV N (goneS K gone N) (id : Int) = K id ∧ remE N (goneS K gone N) (id : Int) = 0 ∧ remS N (goneS K gone N) (id : Int) = goneS K (fun j => if j = id then true else gone j) N := by
  have h2 := isId_nat N id hid
  have h1 : hasB N (goneS K gone N) (id : Int) = true := by simp [hasB, h2, goneS, hid, hg]
  refine ⟨by simp [keyV, h2, goneS, hid, hg], by simp [remE, h1, h2], ?_⟩
  unfold remS
  rw [if_pos h1, Int.toNat_natCast]
  funext x
  unfold upS goneS
  by_cases e : x = id
  · subst e; simp
  · simp [e]
theorem gs_old {K : Nat → Int} {gone : Nat → Bool} {N id : Nat} (hid : id < N) (hg : gone id = true) : keyV N (goneS K gone N) (id : Int) = 0 ∧ remE N (goneS K gone N) (id : Int) = 6 ∧ remS N (goneS K gone N) (id : Int) = goneS K (fun j => if j = id then true else gone j) N := by
  have h2 := isId_nat N id hid
  have h1 : hasB N (goneS K gone N) (id : Int) = false := by simp [hasB, h2, goneS, hg]
  refine ⟨by simp [keyV, h2, goneS, hg], by simp [remE, h1, h2], ?_⟩
  unfold remS
  rw [if_neg (by rw [h1]; simp)]
  funext x
  unfold goneS
  by_cases e : x = id
  · subst e; simp [hg]
  · simp [e]
theorem gs_gone {K : Nat → Int} {gone : Nat → Bool} {N id : Nat} : hasB N (goneS K (fun j => if j = id then true else gone j) N) (id : Int) = false := by simp [hasB, goneS]
theorem gs_cnt (K : Nat → Int) (gone : Nat → Bool) (N : Nat) : M.cnt (fun x => (goneS K gone N x).isSome) N = M.cnt (fun x => !gone x) N := cnt_congr (fun x hx => by
  unfold goneS
  cases h : gone x <;> simp [hx])
theorem cnt_popT {N x L : Nat} {y : Int} {S : Nat → Option Int} (hf : Fst N S x y) {j : Nat} (hc : M.cnt (fun z => (S z).isSome) N + j = L) : M.cnt (fun z => (upS S x none z).isSome) N + (j + 1) = L := by
  have := cnt_set (p := fun y => (upS S x none y).isSome) (q := fun y => (S y).isSome) hf.lt (fun y hy hne => by rw [upS_ne S _ hne]) (by rw [upS_is]; rfl) (by rw [hf.is]; rfl)
  omega
theorem emp_of_cnt {N : Nat} {S : Nat → Option Int} (h : M.cnt (fun z => (S z).isSome) N = 0) : Emp N S := fun x hx => by
  have := cnt_zero.1 h x hx
  simpa using this

set_option maxRecDepth 1000000 in
set_option maxHeartbeats 8000000 in
theorem heapTakes_walk (ls : List Int) (a : Option Addr) (cap : Nat) (us : List Int) (b : Option Addr) (cap1 : Nat) (w : World) (hI : NumsIn .i64 w a ls) (hl : ls.length ≤ cap) (hc : cap ≤ maxLen) (hwf : ∀ y ∈ ls, (Lit.int .i64 y).wf = true) (hI1 : NumsIn .u8 w b us) (hl1 : us.length ≤ cap1) (hc1 : cap1 ≤ maxLen) (hwf1 : ∀ y ∈ us, (Lit.int .u8 y).wf = true) :
    Calls Try.prog 6 #[.slice a ls.length cap, .slice b us.length cap1] w fun e w' => e = .returned (.bool true) ∧ Below w.heap.size w w' := by
  obtain ⟨B, hB⟩ : ∃ B, w.heap.size = B := ⟨_, rfl⟩
  have ks : Calls Try.prog 11 #[] w fun e w' => e = .returned (.bool true) ∧ Hid (Below B w w') := by
    have := shown_any w
    rw [hB] at this
    exact this
  have hle : B ≤ w.heap.size := by omega
  have hcm : cap ≤ 9223372036854775807 := by unfold maxLen at hc; omega
  have hcm1 : cap1 ≤ 9223372036854775807 := by unfold maxLen at hc1; omega
  obtain ⟨m, hm⟩ : ∃ m, ls.length = m := ⟨_, rfl⟩
  obtain ⟨m1, hm1⟩ : ∃ m, us.length = m := ⟨_, rfl⟩
  obtain ⟨N, hN⟩ : ∃ N, min m 60 = N := ⟨_, rfl⟩
  have hNm : N ≤ m := by omega
  have hN1 : N ≤ 60 := by omega
  have hmin : ∀ (ts : Array TypeId) (t : TypeId) (W : World), (Builtin.min_ ts t #[.int .i64 (m : Int), .int .i64 60]).run Try.prog W = .ok (.int .i64 (N : Int)) W := fun ts t W => by
    have := min_num m 60 ts t W
    rw [hN] at this
    exact this
  obtain ⟨K, hK⟩ : ∃ K, nth ls = K := ⟨_, rfl⟩
  have HK : Hid (∀ (W : World) (i : Nat), Below B w W → i < N → ∃ kb ko, a = some ⟨kb, ko, none⟩ ∧ W.cell? ⟨kb, ko + i, none⟩ = some (.int .i64 (K i)) ∧ -9223372036854775808 ≤ K i ∧ K i ≤ 9223372036854775807) := fun W i hb hi => by
    obtain ⟨kb, ko, h1, h2⟩ := hI.at (hB ▸ hb) (i := i) (by omega)
    rw [← hK]
    refine ⟨kb, ko, h1, h2, ?_⟩
    exact bounds_i64 (hwf (nth ls i) (by
      have hlt : i < ls.length := by omega
      have e : nth ls i = ls[i] := by simp [nth, hlt]
      rw [e]; exact List.getElem_mem hlt))
  have HU : Hid (∀ (W : World) (i : Nat), Below B w W → i < m1 → ∃ kb ko v, b = some ⟨kb, ko, none⟩ ∧ W.cell? ⟨kb, ko + i, none⟩ = some (.int .u8 v) ∧ 0 ≤ v ∧ v ≤ 255) := fun W i hb hi => by
    obtain ⟨kb, ko, h1, h2⟩ := hI1.at (hB ▸ hb) (i := i) (by omega)
    refine ⟨kb, ko, _, h1, h2, ?_⟩
    have := hwf1 (nth us i) (by
      have hlt : i < us.length := by omega
      have e : nth us i = us[i] := by simp [nth, hlt]
      rw [e]; exact List.getElem_mem hlt)
    exact bounds_u8 this
  have kn : ∀ W, Below B w W → Calls Try.prog 12 #[.int .i64 N] W fun e w' => ∃ g, e = .returned (ptr g) ∧ Hid (MX B w w' [(g, N, fun _ => none)] []) := fun W hb => by
    have := (mx_start hb hle).new (N : Int)
    rw [hsz_in N (by omega)] at this
    exact this
  have kn2 : ∀ W g, MX B w W [(g, N, fun _ => none)] [] → Calls Try.prog 12 #[.int .i64 N] W fun e w' => ∃ g', e = .returned (ptr g') ∧ Hid (MX B w w' [(g, N, fun _ => none), (g', N, fun _ => none)] []) := fun W g h => by
    have := h.new (N : Int)
    rw [hsz_in N (by omega)] at this
    exact this
  have kmb := make_bools N (by omega)
  rw [hm] at hl ⊢
  rw [hm1] at hl1 ⊢
  rw [hB]
  clear hI hI1 hc hc1 hB hwf hwf1 hm hm1 hN hK
  go_enter Try.func6, Try.ntmps6
  go_wp2_with (first | (go_at_call 11; refine ks.mono ?_; rintro e w1 ⟨rfl, s1⟩; clear ks) | (go_at_call 12; refine (kn _ s1.out).mono ?_; rintro e w2 ⟨g, rfl, s⟩; clear kn s1; refine Hid.out ?_))
  refine hide_it ?_
  go_wp2_with (go_at_call 12; refine (kn2 _ _ s.out).mono ?_; rintro e w3 ⟨g2, rfl, t⟩; clear kn2 s; have s := t; clear t)
  have s0 : Hid (MX B w (w3.alloc (.cells (bRow (fun _ => false) N) 4)) [(g, N, goneS K (fun _ => false) 0), (g2, N, fun _ => none)] [(w3.heap.size, .cells (bRow (fun _ => false) N) 4)]) := by
    have := (s.out.congr 0 rfl (S' := goneS K (fun _ => false) 0) (fun x _ => by simp [goneS])).alloc (.cells (bRow (fun _ => false) N) 4)
    exact this
  obtain ⟨r, hr⟩ : ∃ r, w3.heap.size = r := ⟨_, rfl⟩
  rw [hr] at s0
  simp only [hr]
  clear hr s
  generalize w3.alloc (.cells (bRow (fun _ => false) N) 4) = w4 at *
  go_loopw [10] (fun iv W => ∃ k : Nat, iv = .int .i64 k ∧ k ≤ N ∧ Hid (MX B w W [(g, N, goneS K (fun _ => false) k), (g2, N, fun _ => none)] [(r, .cells (bRow (fun _ => false) N) 4)])) (fun iv _ => N - (intOf iv).toNat)
  case atStart => exact ⟨0, rfl, Nat.zero_le _, s0⟩
  case round =>
    clear s0
    obtain ⟨k, rfl, hk, s⟩ := hrel
    by_cases hlt : k < N
    · obtain ⟨kb, ko, rfl, ck, hk1, hk2⟩ := HK.out _ k s.out.bel hlt
      have hkm : k < m := by omega
      have kp : Calls Try.prog 13 #[ptr g, .int .i64 k, .int .i64 (K k)] wr fun e w' => e = .returned (.int .i64 0) ∧ Hid (MX B w w' [(g, N, goneS K (fun _ => false) (k + 1)), (g2, N, fun _ => none)] [(r, .cells (bRow (fun _ => false) N) 4)]) := by
        have := s.out.push 0 rfl (k : Int) (K k)
        rw [(gs_push hlt rfl).1, (gs_push hlt rfl).2] at this
        exact this
      clear s
      generalize K k = kk at *
      go_wp2_with (go_at_call 13; refine kp.mono ?_; rintro e w5 ⟨rfl, t⟩)
      go_roundw
      case rel => exact ⟨k + 1, by go_num, by omega, t⟩
      case measure => simp [intOf]; omega
    · have h2 : decide ((k : Int) < N) = false := by simp; omega
      have h3 : decide (k < N) = false := by simp; omega
      have hkN : k = N := by omega
      rw [hkN] at s
      clear hkN hk kmb
      go_wp2
      go_loopw [11] (fun iv W => ∃ (t : Nat) (gone : Nat → Bool), iv = .int .i64 t ∧ t ≤ 60 ∧ Hid (MX B w W [(g, N, goneS K gone N), (g2, N, fun _ => none)] [(r, .cells (bRow gone N) 4)])) (fun iv _ => 60 - (intOf iv).toNat)
      case atStart => exact ⟨0, _, rfl, by omega, s⟩
      case round =>
        clear s hlt h2 h3
        obtain ⟨t, gone, rfl, ht, s⟩ := hrel
        by_cases h0 : 0 < N
        · have d0 : decide (0 < (N : Int)) = true := decide_eq_true (by omega)
          have d0' : decide (0 < N) = true := decide_eq_true (by omega)
          by_cases h1 : t < m1
          · have d1 : decide ((t : Int) < (m1 : Int)) = true := decide_eq_true (by omega)
            have d1' : decide (t < m1) = true := decide_eq_true (by omega)
            by_cases h3 : t < 60
            · have d3 : decide ((t : Int) < 60) = true := decide_eq_true (by omega)
              have d3' : decide (t < 60) = true := decide_eq_true (by omega)
              obtain ⟨ub, uo, v, rfl, cu, hv0, hv1⟩ := HU.out _ t s.out.bel h1
              obtain ⟨vn, rfl⟩ : ∃ vn : Nat, v = vn := ⟨v.toNat, by omega⟩
              obtain ⟨id, hid⟩ : ∃ q, vn % N = q := ⟨_, rfl⟩
              have hidN : id < N := by rw [← hid]; exact Nat.mod_lt _ h0
              have x2 : ((vn : Int)).tmod (N : Int) = (id : Int) := by rw [Int.tmod_eq_emod_of_nonneg (by omega), ← hid]; rfl
              have x4 : ¬ (N : Int) = 0 := by omega
              have x5 : ((N : Int) == 0) = false := by rw [beq_eq_false_iff_ne]; exact x4
              have x6 : ¬ N = 0 := by omega
              have hidm : id < m := by omega
              obtain ⟨kb, ko, rfl, _, _, _⟩ := HK.out _ id s.out.bel hidN
              have HC : Hid (∀ W hs, MX B w W hs [(r, .cells (bRow gone N) 4)] → (W.cell? ⟨r, id, none⟩ = some (.bool (gone id)) ∧ W.frozen? ⟨r, id, none⟩ = false) ∧ W.cell? ⟨kb, ko + id, none⟩ = some (.int .i64 (K id))) := fun W hs h => by
                obtain ⟨kb', ko', e, q, _, _⟩ := HK.out W id h.bel hidN
                cases e
                exact ⟨h.bat hidN, q⟩
              have kh : ∀ W, MX B w W [(g, N, goneS K (fun j => if j = id then true else gone j) N), (g2, N, fun _ => none)] [(r, .cells (bRow gone N) 4)] → Calls Try.prog 25 #[ptr g, .int .i64 id] W fun e w' => e = .returned (.bool false) ∧ w' = W := fun W h => by
                have := h.has 0 rfl (id : Int)
                rw [gs_gone] at this
                exact this
              have HSET : Hid (∀ W, MX B w W [(g, N, goneS K (fun j => if j = id then true else gone j) N), (g2, N, fun _ => none)] [(r, .cells (bRow gone N) 4)] → MX B w (W.setCell ⟨r, id, none⟩ (.bool true)) [(g, N, goneS K (fun j => if j = id then true else gone j) N), (g2, N, fun _ => none)] [(r, .cells (bRow (fun j => if j = id then true else gone j) N) 4)]) := fun W h => h.bset id true (fun j hj => rfl)
              cases hg : gone id with
              | false =>
                obtain ⟨q1, q2, q3⟩ := gs_rem (K := K) hidN hg
                have kr : Calls Try.prog 17 #[ptr g, .int .i64 id] wr fun e w' => e = .returned (.tuple #[.int .i64 (K id), .int .i64 0]) ∧ Hid (MX B w w' [(g, N, goneS K (fun j => if j = id then true else gone j) N), (g2, N, fun _ => none)] [(r, .cells (bRow gone N) 4)]) := by
                  have := s.out.remove 0 rfl (id : Int)
                  rw [q1, q2, q3] at this
                  exact this
                rw [hg] at HC
                clear s hid q1 q2 q3 hg
                generalize (fun j => if j = id then true else gone j) = gone2 at *
                generalize K id = kid at *
                go_wp2_with (first | (go_at_call 17; refine kr.mono ?_; rintro e w7 ⟨rfl, t7⟩; obtain ⟨⟨c7, f7⟩, c8⟩ := HC.out _ _ t7.out) | (go_at_call 25; refine (kh _ t7.out).mono ?_; rintro e w8 ⟨rfl, rfl⟩))
                go_roundw
                case rel => exact ⟨t + 1, gone2, by go_num, by omega, HSET.out _ t7.out⟩
                case measure => simp [intOf]; omega
              | true =>
                obtain ⟨q1, q2, q3⟩ := gs_old (K := K) hidN hg
                have kr : Calls Try.prog 17 #[ptr g, .int .i64 id] wr fun e w' => e = .returned (.tuple #[.int .i64 0, .int .i64 6]) ∧ Hid (MX B w w' [(g, N, goneS K (fun j => if j = id then true else gone j) N), (g2, N, fun _ => none)] [(r, .cells (bRow gone N) 4)]) := by
                  have := s.out.remove 0 rfl (id : Int)
                  rw [q1, q2, q3] at this
                  exact this
                rw [hg] at HC
                clear s hid q1 q2 q3 hg
                generalize (fun j => if j = id then true else gone j) = gone2 at *
                generalize K id = kid at *
                go_wp2_with (first | (go_at_call 17; refine kr.mono ?_; rintro e w7 ⟨rfl, t7⟩; obtain ⟨⟨c7, f7⟩, c8⟩ := HC.out _ _ t7.out) | (go_at_call 25; refine (kh _ t7.out).mono ?_; rintro e w8 ⟨rfl, rfl⟩))
                go_roundw
                case rel => exact ⟨t + 1, gone2, by go_num, by omega, HSET.out _ t7.out⟩
                case measure => simp [intOf]; omega
            · have d3 : decide ((t : Int) < 60) = false := decide_eq_false (by omega)
              have d3' : decide (t < 60) = false := decide_eq_false (by omega)
              have s9 : Hid (MX B w wr [(g, N, goneS K gone N), (g2, N, goneS K gone 0)] [(r, .cells (bRow gone N) 4)]) := by
                have := s.out.congr 1 rfl (S' := goneS K gone 0) (fun x _ => by simp [goneS])
                exact this
              clear s HU
              go_wp2
              go_loopw [15, 16] (fun lv iv W => ∃ j c : Nat, iv = .int .i64 j ∧ lv = .int .i64 c ∧ j ≤ N ∧ c ≤ j ∧ Hid (MX B w W [(g, N, goneS K gone N), (g2, N, goneS K gone j)] [(r, .cells (bRow gone N) 4)]) ∧ Hid (M.cnt (fun x => !gone x) j = c)) (fun _ iv _ => N - (intOf iv).toNat)
              case atStart => exact ⟨0, 0, rfl, rfl, Nat.zero_le _, Nat.zero_le _, s9, rfl⟩
              case round =>
                clear s9
                obtain ⟨j, c, rfl, rfl, hj, hcj, s, HC⟩ := hrel
                by_cases hjl : j < N
                · have z1 : decide ((j : Int) < (N : Int)) = true := decide_eq_true (by omega)
                  have z1' : decide (j < N) = true := decide_eq_true (by omega)
                  obtain ⟨cj, _⟩ := s.out.bat hjl
                  have hjm : j < m := by omega
                  cases hg : gone j with
                  | false =>
                    obtain ⟨kb, ko, rfl, ck, _, _⟩ := HK.out _ j s.out.bel hjl
                    have kp : Calls Try.prog 13 #[ptr g2, .int .i64 j, .int .i64 (K j)] wr fun e w' => e = .returned (.int .i64 0) ∧ Hid (MX B w w' [(g, N, goneS K gone N), (g2, N, goneS K gone (j + 1))] [(r, .cells (bRow gone N) 4)]) := by
                      have := s.out.push 1 rfl (j : Int) (K j)
                      rw [(gs_push hjl hg).1, (gs_push hjl hg).2] at this
                      exact this
                    have HN : Hid (M.cnt (fun x => !gone x) (j + 1) = c + 1) := by
                      have := HC.out
                      show M.cnt (fun x => !gone x) j + (if (!gone j) = true then 1 else 0) = c + 1
                      rw [hg, this]; rfl
                    rw [hg] at cj
                    clear s hg HC
                    generalize K j = oj at *
                    go_wp2_with (go_at_call 13; refine kp.mono ?_; rintro e w9 ⟨rfl, t9⟩)
                    go_roundw
                    case rel => exact ⟨j + 1, c + 1, by go_num, by go_num, by omega, by omega, t9, HN⟩
                    case measure => simp [intOf]; omega
                  | true =>
                    have s2 : Hid (MX B w wr [(g, N, goneS K gone N), (g2, N, goneS K gone (j + 1))] [(r, .cells (bRow gone N) 4)]) := by rw [gs_skip hg]; exact s
                    have HN : Hid (M.cnt (fun x => !gone x) (j + 1) = c) := by
                      have := HC.out
                      show M.cnt (fun x => !gone x) j + (if (!gone j) = true then 1 else 0) = c
                      rw [hg, this]; rfl
                    rw [hg] at cj
                    clear s hg HC
                    go_wp2
                    go_roundw
                    case rel => exact ⟨j + 1, c, by go_num, rfl, by omega, by omega, s2, HN⟩
                    case measure => simp [intOf]; omega
                · have z1 : decide ((j : Int) < (N : Int)) = false := decide_eq_false (by omega)
                  have z1' : decide (j < N) = false := decide_eq_false (by omega)
                  have hjN : j = N := by omega
                  have sA : Hid (MX B w wr [(g, N, goneS K gone N), (g2, N, goneS K gone N)] [(r, .cells (bRow gone N) 4)]) := by rw [hjN] at s; exact s
                  have HC0 : Hid (M.cnt (fun x => (goneS K gone N x).isSome) N = c) := by rw [gs_cnt, ← hjN]; exact HC.out
                  have kl : Calls Try.prog 26 #[ptr g] wr fun e w' => e = .returned (.int .i64 c) ∧ w' = wr := by
                    have := sA.out.len 0 rfl
                    rw [HC0.out] at this
                    exact this
                  have hcN : c ≤ N := by omega
                  clear s hjN HC
                  generalize goneS K gone N = S0 at *
                  go_wp2_with (go_at_call 26; refine kl.mono ?_; rintro e w9 ⟨rfl, rfl⟩; clear kl)
                  go_loopw [17] (fun iv W => ∃ (i : Nat) (S : Nat → Option Int), iv = .int .i64 i ∧ i ≤ c ∧ Hid (MX B w W [(g, N, S), (g2, N, S)] [(r, .cells (bRow gone N) 4)]) ∧ Hid (M.cnt (fun z => (S z).isSome) N + i = c)) (fun iv _ => c - (intOf iv).toNat)
                  case atStart => exact ⟨0, _, rfl, Nat.zero_le _, sA, by rw [HC0.out]; rfl⟩
                  case round =>
                    clear sA HC0 hj hjl z1 z1'
                    obtain ⟨i, S, rfl, hi, s, HC⟩ := hrel
                    by_cases hil : i < c
                    · have z1 : decide ((i : Int) < (c : Int)) = true := decide_eq_true (by omega)
                      have z1' : decide (i < c) = true := decide_eq_true (by omega)
                      obtain ⟨x, y, hf⟩ : ∃ x y, Fst N S x y := by
                        rcases s.out.cases 0 rfl with he | h
                        · have := he.cnt
                          have := HC.out
                          omega
                        · exact h
                      have HN := hide_it (cnt_popT hf HC.out)
                      have kp : Calls Try.prog 19 #[ptr g] wr fun e w' => e = .returned (.tuple #[.int .i64 x, .int .i64 y, .bool true]) ∧ Hid (MX B w w' [(g, N, upS S x none), (g2, N, S)] [(r, .cells (bRow gone N) 4)]) := s.out.pop 0 rfl hf
                      have kp2 : ∀ W, MX B w W [(g, N, upS S x none), (g2, N, S)] [(r, .cells (bRow gone N) 4)] → Calls Try.prog 19 #[ptr g2] W fun e w' => e = .returned (.tuple #[.int .i64 x, .int .i64 y, .bool true]) ∧ Hid (MX B w w' [(g, N, upS S x none), (g2, N, upS S x none)] [(r, .cells (bRow gone N) 4)]) := fun W h => h.pop 1 rfl hf
                      clear hf HC s
                      generalize upS S x none = S1 at *
                      go_wp2_with (go_at_call 19; refine kp.mono ?_; rintro e w9 ⟨rfl, t9⟩; refine Hid.out ?_)
                      refine hide_it ?_
                      go_wp2_with (go_at_call 19; refine (kp2 _ t9.out).mono ?_; rintro e wB ⟨rfl, tB⟩)
                      go_roundw
                      case rel => exact ⟨i + 1, S1, by go_num, by omega, tB, HN⟩
                      case measure => simp [intOf]; omega
                    · have z1 : decide ((i : Int) < (c : Int)) = false := decide_eq_false (by omega)
                      have z1' : decide (i < c) = false := decide_eq_false (by omega)
                      have he : Emp N S := emp_of_cnt (by have := HC.out; omega)
                      have kp : Calls Try.prog 13 #[ptr g, .int .i64 0, .int .i64 1] wr fun e w' => e = .returned (.int .i64 0) ∧ Hid (MX B w w' [(g, N, upS S 0 (some 1)), (g2, N, S)] [(r, .cells (bRow gone N) 4)]) := by
                        have := s.out.push 0 rfl 0 1
                        rw [show pushE N S 0 = 0 by simp [pushE, hasB, isId, he 0 h0, h0], show pushS N S 0 1 = upS S 0 (some 1) by simp [pushS, hasB, isId, he 0 h0, h0]] at this
                        exact this
                      have v5 : ((N : Int) == 0) = false := by rw [beq_eq_false_iff_ne]; omega
                      have v6 : ¬ N = 0 := by omega
                      clear he HC
                      go_wp2_with (go_at_call 13; refine kp.mono ?_; rintro e w9 ⟨rfl, t9⟩)
                      go_ret
                      exact ⟨rfl, t9.out.bel⟩
          · have d1 : decide ((t : Int) < (m1 : Int)) = false := decide_eq_false (by omega)
            have d1' : decide (t < m1) = false := decide_eq_false (by omega)
            have s9 : Hid (MX B w wr [(g, N, goneS K gone N), (g2, N, goneS K gone 0)] [(r, .cells (bRow gone N) 4)]) := by
              have := s.out.congr 1 rfl (S' := goneS K gone 0) (fun x _ => by simp [goneS])
              exact this
            clear s HU
            go_wp2
            go_loopw [15, 16] (fun lv iv W => ∃ j c : Nat, iv = .int .i64 j ∧ lv = .int .i64 c ∧ j ≤ N ∧ c ≤ j ∧ Hid (MX B w W [(g, N, goneS K gone N), (g2, N, goneS K gone j)] [(r, .cells (bRow gone N) 4)]) ∧ Hid (M.cnt (fun x => !gone x) j = c)) (fun _ iv _ => N - (intOf iv).toNat)
            case atStart => exact ⟨0, 0, rfl, rfl, Nat.zero_le _, Nat.zero_le _, s9, rfl⟩
            case round =>
              clear s9
              obtain ⟨j, c, rfl, rfl, hj, hcj, s, HC⟩ := hrel
              by_cases hjl : j < N
              · have z1 : decide ((j : Int) < (N : Int)) = true := decide_eq_true (by omega)
                have z1' : decide (j < N) = true := decide_eq_true (by omega)
                obtain ⟨cj, _⟩ := s.out.bat hjl
                have hjm : j < m := by omega
                cases hg : gone j with
                | false =>
                  obtain ⟨kb, ko, rfl, ck, _, _⟩ := HK.out _ j s.out.bel hjl
                  have kp : Calls Try.prog 13 #[ptr g2, .int .i64 j, .int .i64 (K j)] wr fun e w' => e = .returned (.int .i64 0) ∧ Hid (MX B w w' [(g, N, goneS K gone N), (g2, N, goneS K gone (j + 1))] [(r, .cells (bRow gone N) 4)]) := by
                    have := s.out.push 1 rfl (j : Int) (K j)
                    rw [(gs_push hjl hg).1, (gs_push hjl hg).2] at this
                    exact this
                  have HN : Hid (M.cnt (fun x => !gone x) (j + 1) = c + 1) := by
                    have := HC.out
                    show M.cnt (fun x => !gone x) j + (if (!gone j) = true then 1 else 0) = c + 1
                    rw [hg, this]; rfl
                  rw [hg] at cj
                  clear s hg HC
                  generalize K j = oj at *
                  go_wp2_with (go_at_call 13; refine kp.mono ?_; rintro e w9 ⟨rfl, t9⟩)
                  go_roundw
                  case rel => exact ⟨j + 1, c + 1, by go_num, by go_num, by omega, by omega, t9, HN⟩
                  case measure => simp [intOf]; omega
                | true =>
                  have s2 : Hid (MX B w wr [(g, N, goneS K gone N), (g2, N, goneS K gone (j + 1))] [(r, .cells (bRow gone N) 4)]) := by rw [gs_skip hg]; exact s
                  have HN : Hid (M.cnt (fun x => !gone x) (j + 1) = c) := by
                    have := HC.out
                    show M.cnt (fun x => !gone x) j + (if (!gone j) = true then 1 else 0) = c
                    rw [hg, this]; rfl
                  rw [hg] at cj
                  clear s hg HC
                  go_wp2
                  go_roundw
                  case rel => exact ⟨j + 1, c, by go_num, rfl, by omega, by omega, s2, HN⟩
                  case measure => simp [intOf]; omega
              · have z1 : decide ((j : Int) < (N : Int)) = false := decide_eq_false (by omega)
                have z1' : decide (j < N) = false := decide_eq_false (by omega)
                have hjN : j = N := by omega
                have sA : Hid (MX B w wr [(g, N, goneS K gone N), (g2, N, goneS K gone N)] [(r, .cells (bRow gone N) 4)]) := by rw [hjN] at s; exact s
                have HC0 : Hid (M.cnt (fun x => (goneS K gone N x).isSome) N = c) := by rw [gs_cnt, ← hjN]; exact HC.out
                have kl : Calls Try.prog 26 #[ptr g] wr fun e w' => e = .returned (.int .i64 c) ∧ w' = wr := by
                  have := sA.out.len 0 rfl
                  rw [HC0.out] at this
                  exact this
                have hcN : c ≤ N := by omega
                clear s hjN HC
                generalize goneS K gone N = S0 at *
                go_wp2_with (go_at_call 26; refine kl.mono ?_; rintro e w9 ⟨rfl, rfl⟩; clear kl)
                go_loopw [17] (fun iv W => ∃ (i : Nat) (S : Nat → Option Int), iv = .int .i64 i ∧ i ≤ c ∧ Hid (MX B w W [(g, N, S), (g2, N, S)] [(r, .cells (bRow gone N) 4)]) ∧ Hid (M.cnt (fun z => (S z).isSome) N + i = c)) (fun iv _ => c - (intOf iv).toNat)
                case atStart => exact ⟨0, _, rfl, Nat.zero_le _, sA, by rw [HC0.out]; rfl⟩
                case round =>
                  clear sA HC0 hj hjl z1 z1'
                  obtain ⟨i, S, rfl, hi, s, HC⟩ := hrel
                  by_cases hil : i < c
                  · have z1 : decide ((i : Int) < (c : Int)) = true := decide_eq_true (by omega)
                    have z1' : decide (i < c) = true := decide_eq_true (by omega)
                    obtain ⟨x, y, hf⟩ : ∃ x y, Fst N S x y := by
                      rcases s.out.cases 0 rfl with he | h
                      · have := he.cnt
                        have := HC.out
                        omega
                      · exact h
                    have HN := hide_it (cnt_popT hf HC.out)
                    have kp : Calls Try.prog 19 #[ptr g] wr fun e w' => e = .returned (.tuple #[.int .i64 x, .int .i64 y, .bool true]) ∧ Hid (MX B w w' [(g, N, upS S x none), (g2, N, S)] [(r, .cells (bRow gone N) 4)]) := s.out.pop 0 rfl hf
                    have kp2 : ∀ W, MX B w W [(g, N, upS S x none), (g2, N, S)] [(r, .cells (bRow gone N) 4)] → Calls Try.prog 19 #[ptr g2] W fun e w' => e = .returned (.tuple #[.int .i64 x, .int .i64 y, .bool true]) ∧ Hid (MX B w w' [(g, N, upS S x none), (g2, N, upS S x none)] [(r, .cells (bRow gone N) 4)]) := fun W h => h.pop 1 rfl hf
                    clear hf HC s
                    generalize upS S x none = S1 at *
                    go_wp2_with (go_at_call 19; refine kp.mono ?_; rintro e w9 ⟨rfl, t9⟩; refine Hid.out ?_)
                    refine hide_it ?_
                    go_wp2_with (go_at_call 19; refine (kp2 _ t9.out).mono ?_; rintro e wB ⟨rfl, tB⟩)
                    go_roundw
                    case rel => exact ⟨i + 1, S1, by go_num, by omega, tB, HN⟩
                    case measure => simp [intOf]; omega
                  · have z1 : decide ((i : Int) < (c : Int)) = false := decide_eq_false (by omega)
                    have z1' : decide (i < c) = false := decide_eq_false (by omega)
                    have he : Emp N S := emp_of_cnt (by have := HC.out; omega)
                    have kp : Calls Try.prog 13 #[ptr g, .int .i64 0, .int .i64 1] wr fun e w' => e = .returned (.int .i64 0) ∧ Hid (MX B w w' [(g, N, upS S 0 (some 1)), (g2, N, S)] [(r, .cells (bRow gone N) 4)]) := by
                      have := s.out.push 0 rfl 0 1
                      rw [show pushE N S 0 = 0 by simp [pushE, hasB, isId, he 0 h0, h0], show pushS N S 0 1 = upS S 0 (some 1) by simp [pushS, hasB, isId, he 0 h0, h0]] at this
                      exact this
                    have v5 : ((N : Int) == 0) = false := by rw [beq_eq_false_iff_ne]; omega
                    have v6 : ¬ N = 0 := by omega
                    clear he HC
                    go_wp2_with (go_at_call 13; refine kp.mono ?_; rintro e w9 ⟨rfl, t9⟩)
                    go_ret
                    exact ⟨rfl, t9.out.bel⟩
        · have d0 : decide (0 < (N : Int)) = false := decide_eq_false (by omega)
          have d0' : decide (0 < N) = false := decide_eq_false (by omega)
          have s9 : Hid (MX B w wr [(g, N, goneS K gone N), (g2, N, goneS K gone 0)] [(r, .cells (bRow gone N) 4)]) := by
            have := s.out.congr 1 rfl (S' := goneS K gone 0) (fun x _ => by simp [goneS])
            exact this
          clear s HU
          go_wp2
          go_loopw [15, 16] (fun lv iv W => ∃ j c : Nat, iv = .int .i64 j ∧ lv = .int .i64 c ∧ j ≤ N ∧ c ≤ j ∧ Hid (MX B w W [(g, N, goneS K gone N), (g2, N, goneS K gone j)] [(r, .cells (bRow gone N) 4)]) ∧ Hid (M.cnt (fun x => !gone x) j = c)) (fun _ iv _ => N - (intOf iv).toNat)
          case atStart => exact ⟨0, 0, rfl, rfl, Nat.zero_le _, Nat.zero_le _, s9, rfl⟩
          case round =>
            clear s9
            obtain ⟨j, c, rfl, rfl, hj, hcj, s, HC⟩ := hrel
            by_cases hjl : j < N
            · have z1 : decide ((j : Int) < (N : Int)) = true := decide_eq_true (by omega)
              have z1' : decide (j < N) = true := decide_eq_true (by omega)
              obtain ⟨cj, _⟩ := s.out.bat hjl
              have hjm : j < m := by omega
              cases hg : gone j with
              | false =>
                obtain ⟨kb, ko, rfl, ck, _, _⟩ := HK.out _ j s.out.bel hjl
                have kp : Calls Try.prog 13 #[ptr g2, .int .i64 j, .int .i64 (K j)] wr fun e w' => e = .returned (.int .i64 0) ∧ Hid (MX B w w' [(g, N, goneS K gone N), (g2, N, goneS K gone (j + 1))] [(r, .cells (bRow gone N) 4)]) := by
                  have := s.out.push 1 rfl (j : Int) (K j)
                  rw [(gs_push hjl hg).1, (gs_push hjl hg).2] at this
                  exact this
                have HN : Hid (M.cnt (fun x => !gone x) (j + 1) = c + 1) := by
                  have := HC.out
                  show M.cnt (fun x => !gone x) j + (if (!gone j) = true then 1 else 0) = c + 1
                  rw [hg, this]; rfl
                rw [hg] at cj
                clear s hg HC
                generalize K j = oj at *
                go_wp2_with (go_at_call 13; refine kp.mono ?_; rintro e w9 ⟨rfl, t9⟩)
                go_roundw
                case rel => exact ⟨j + 1, c + 1, by go_num, by go_num, by omega, by omega, t9, HN⟩
                case measure => simp [intOf]; omega
              | true =>
                have s2 : Hid (MX B w wr [(g, N, goneS K gone N), (g2, N, goneS K gone (j + 1))] [(r, .cells (bRow gone N) 4)]) := by rw [gs_skip hg]; exact s
                have HN : Hid (M.cnt (fun x => !gone x) (j + 1) = c) := by
                  have := HC.out
                  show M.cnt (fun x => !gone x) j + (if (!gone j) = true then 1 else 0) = c
                  rw [hg, this]; rfl
                rw [hg] at cj
                clear s hg HC
                go_wp2
                go_roundw
                case rel => exact ⟨j + 1, c, by go_num, rfl, by omega, by omega, s2, HN⟩
                case measure => simp [intOf]; omega
            · have z1 : decide ((j : Int) < (N : Int)) = false := decide_eq_false (by omega)
              have z1' : decide (j < N) = false := decide_eq_false (by omega)
              have hjN : j = N := by omega
              have sA : Hid (MX B w wr [(g, N, goneS K gone N), (g2, N, goneS K gone N)] [(r, .cells (bRow gone N) 4)]) := by rw [hjN] at s; exact s
              have HC0 : Hid (M.cnt (fun x => (goneS K gone N x).isSome) N = c) := by rw [gs_cnt, ← hjN]; exact HC.out
              have kl : Calls Try.prog 26 #[ptr g] wr fun e w' => e = .returned (.int .i64 c) ∧ w' = wr := by
                have := sA.out.len 0 rfl
                rw [HC0.out] at this
                exact this
              have hcN : c ≤ N := by omega
              clear s hjN HC
              generalize goneS K gone N = S0 at *
              go_wp2_with (go_at_call 26; refine kl.mono ?_; rintro e w9 ⟨rfl, rfl⟩; clear kl)
              go_loopw [17] (fun iv W => ∃ (i : Nat) (S : Nat → Option Int), iv = .int .i64 i ∧ i ≤ c ∧ Hid (MX B w W [(g, N, S), (g2, N, S)] [(r, .cells (bRow gone N) 4)]) ∧ Hid (M.cnt (fun z => (S z).isSome) N + i = c)) (fun iv _ => c - (intOf iv).toNat)
              case atStart => exact ⟨0, _, rfl, Nat.zero_le _, sA, by rw [HC0.out]; rfl⟩
              case round =>
                clear sA HC0 hj hjl z1 z1'
                obtain ⟨i, S, rfl, hi, s, HC⟩ := hrel
                by_cases hil : i < c
                · have z1 : decide ((i : Int) < (c : Int)) = true := decide_eq_true (by omega)
                  have z1' : decide (i < c) = true := decide_eq_true (by omega)
                  obtain ⟨x, y, hf⟩ : ∃ x y, Fst N S x y := by
                    rcases s.out.cases 0 rfl with he | h
                    · have := he.cnt
                      have := HC.out
                      omega
                    · exact h
                  have HN := hide_it (cnt_popT hf HC.out)
                  have kp : Calls Try.prog 19 #[ptr g] wr fun e w' => e = .returned (.tuple #[.int .i64 x, .int .i64 y, .bool true]) ∧ Hid (MX B w w' [(g, N, upS S x none), (g2, N, S)] [(r, .cells (bRow gone N) 4)]) := s.out.pop 0 rfl hf
                  have kp2 : ∀ W, MX B w W [(g, N, upS S x none), (g2, N, S)] [(r, .cells (bRow gone N) 4)] → Calls Try.prog 19 #[ptr g2] W fun e w' => e = .returned (.tuple #[.int .i64 x, .int .i64 y, .bool true]) ∧ Hid (MX B w w' [(g, N, upS S x none), (g2, N, upS S x none)] [(r, .cells (bRow gone N) 4)]) := fun W h => h.pop 1 rfl hf
                  clear hf HC s
                  generalize upS S x none = S1 at *
                  go_wp2_with (go_at_call 19; refine kp.mono ?_; rintro e w9 ⟨rfl, t9⟩; refine Hid.out ?_)
                  refine hide_it ?_
                  go_wp2_with (go_at_call 19; refine (kp2 _ t9.out).mono ?_; rintro e wB ⟨rfl, tB⟩)
                  go_roundw
                  case rel => exact ⟨i + 1, S1, by go_num, by omega, tB, HN⟩
                  case measure => simp [intOf]; omega
                · have z1 : decide ((i : Int) < (c : Int)) = false := decide_eq_false (by omega)
                  have z1' : decide (i < c) = false := decide_eq_false (by omega)
                  have hN0 : N = 0 := by omega
                  subst hN0
                  go_wp2
                  go_ret
                  exact ⟨rfl, s.out.bel⟩
end Go.Proofs.Ytpcjaleogeoabaa
