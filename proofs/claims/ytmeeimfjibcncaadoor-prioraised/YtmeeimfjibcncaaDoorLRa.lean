/- Whose priority an edge raises: the walk. -/
import Derived.Test.YtmeeimfjibcncaaDoorAxb
import Derived.Test.YtmeeimfjibcncaaDoorLWa
import Derived.Deep.RegionHeld3
import Derived.Deep.DeepCutAuto
namespace Go.Proofs.YtmeeimfjibcncaaDoor
open Go.RowKit
open M
set_option linter.unusedVariables false
set_option linter.unusedSimpArgs false

/-- What the law says of the tasks that are told. -/
structure RaW (n : Nat) (es2 : List E) (a b er : Int) (was is : List Int) (U : List Nat) : Prop where
  wl : was.length = n
  il : is.length = n
  ok : er = 0 ∨ U.length = 0
  lt : ∀ k (h : k < U.length), U[k] < n
  up : ∀ k (h : k + 1 < U.length), U[k] < U[k + 1]
  re : ∀ k (h : k < U.length), reachB n es2 b (U[k] : Nat) = true
  at_ : ∀ k (h : k < U.length), ∃ A : Nat, a = A ∧ ∃ hA : A < is.length, ∃ hu : U[k] < is.length, is[U[k]] = is[A]
  in_ : ∀ t (h1 : t < was.length) (h2 : t < is.length), (t ∈ U ↔ was[t] < is[t]) ∧ was[t] ≤ is[t]
theorem raW {n : Nat} {es : List E} (hn : n ≤ 64) (hg : ∀ e ∈ es, e.1 < n ∧ e.2 < n) (Q : List Rq) (a b : Int) : RaW n (addE n es a b) a b (errN n a b) (ofL n es Q) (ofL n (addE n es a b) Q) (raisedL n es Q a b) := by
  have hoff : raisedL n es Q a b ≠ [] → 0 ≤ a ∧ a < n ∧ 0 ≤ b ∧ b < n := by
    intro h
    unfold raisedL at h
    by_cases ho : offB n a = true ∨ offB n b = true
    · rw [if_pos ho] at h; exact absurd rfl h
    · simp [offB] at ho; omega
  have hne : ∀ k, k < (raisedL n es Q a b).length → raisedL n es Q a b ≠ [] := fun k h e => by rw [e] at h; simp at h
  have hm : ∀ k (h : k < (raisedL n es Q a b).length), (raisedL n es Q a b)[k] < n ∧ prioOf n es Q (raisedL n es Q a b)[k] < prioOf n (addE n es a b) Q (raisedL n es Q a b)[k] := fun k h => (raised_mem hn hg Q a b _).1 (List.getElem_mem h)
  have hrb : ∀ t : Nat, t ∈ raisedL n es Q a b → reachB n es b (t : Int) = true := fun t ht => by
    unfold raisedL at ht
    by_cases ho : offB n a = true ∨ offB n b = true
    · rw [if_pos ho] at ht; cases ht
    · rw [if_neg ho, List.mem_filter] at ht
      exact (mem_reachL hn hg b t).1 ht.1
  refine ⟨by simp [ofL], by simp [ofL], ?_, fun k h => (hm k h).1, fun k h => ?_, fun k h => ?_, fun k h => ?_, fun t h1 h2 => ?_⟩
  · by_cases h : raisedL n es Q a b = []
    · right; rw [h]; rfl
    · left
      have := hoff h
      unfold errN
      have e : [a, b].any (offB n) = false := by simp [offB]; omega
      rw [e]; rfl
  · exact List.pairwise_iff_getElem.1 (raised_sorted n es Q a b) k (k + 1) (by omega) h (by omega)
  · have hr := hoff (hne k h)
    have h1 := hrb _ (List.getElem_mem h)
    obtain ⟨A, rfl⟩ : ∃ x : Nat, a = x := ⟨a.toNat, by omega⟩
    obtain ⟨B, rfl⟩ : ∃ y : Nat, b = y := ⟨b.toNat, by omega⟩
    rw [reachB_add (by omega) (by omega), h1]
    rfl
  · have hr := hoff (hne k h)
    have h1 := hrb _ (List.getElem_mem h)
    obtain ⟨h2, h3⟩ := hm k h
    obtain ⟨A, rfl⟩ : ∃ x : Nat, a = x := ⟨a.toNat, by omega⟩
    obtain ⟨B, rfl⟩ : ∃ y : Nat, b = y := ⟨b.toNat, by omega⟩
    refine ⟨A, rfl, by simp [ofL]; omega, by simp [ofL]; exact h2, ?_⟩
    simp only [ofL, List.getElem_map, List.getElem_range]
    rw [prio_add (by omega) (by omega), h1] at h3
    rw [prio_add (by omega) (by omega), prio_add (by omega) (by omega), h1]
    generalize prioOf n es Q (raisedL n es Q (A : Int) (B : Int))[k] = p at *
    generalize prioOf n es Q A = q at *
    unfold upB at *
    simp only [if_true] at *
    split <;> omega
  · simp only [ofL, List.getElem_map, List.getElem_range]
    refine ⟨?_, prio_add_le Q a b t⟩
    rw [raised_mem hn hg]
    have : t < n := by simpa [ofL] using h1
    exact ⟨fun h => h.2, fun h => ⟨this, h⟩⟩
theorem take_succ_mem (U : List Nat) (k : Nat) (h : k < U.length) : (fun i => decide (i ∈ U.take k) || decide (i = U[k])) = fun i => decide (i ∈ U.take (k + 1)) := by
  funext i
  rw [List.take_succ_eq_append_getElem h, Bool.eq_iff_iff]
  simp only [Bool.or_eq_true, decide_eq_true_eq, List.mem_append, List.mem_singleton]

theorem takeD {P : Program} {ops : Array Oper} {Q : Exit → Act → World → Prop} {md : Region.Mode} {S : World → Prop} {i : Nat} {oi : Oper} {v : Value} {fuel : Nat} {listed : Array Bool} {a : Act} {w : World} (d : Nat) (hi : ops[i]? = some oi) (hd : oi.dst = some d)
    (hs : Region.noSelect ops = true) (hf : Region.free md ops listed i = true) (hr : (Region.ready md ops listed).contains i = true)
    (hQ : ∀ c a w, Q (.panic c) (a.put oi.dst v) w → Q (.panic c) a w) (hy : YieldsIf P ops S oi v a) (hS : S w)
    (h : wpAnyH P md ops Q S fuel (listed.setIfInBounds i true) (a.put (some d) v) w) : wpAnyH P md ops Q S (fuel + 1) listed a w := by
  rw [← hd] at h
  exact wpAnyH_take hi hs hf hr hQ hy hS h

set_option maxRecDepth 1000000 in
set_option maxHeartbeats 8000000 in
theorem raised_core (n : Int) (ls : List (Int × Int)) (la : Option Addr) (lc : Nat) (Q0 : List Rq) (qa : Option Addr) (qc : Nat) (ea eb0 : Int) (W0 : World) (hT : Tab W0) (h0 : 0 < W0.heap.size) (hl : LIn W0 la ls) (hm : ls.length ≤ maxLen) (hq : QIn W0 qa Q0) (hqm : Q0.length ≤ maxLen) (hqc : Q0.length ≤ qc) :
    Calls Tryd.prog 6 #[.int .i64 n, .slice la ls.length lc, .slice qa Q0.length qc, .agg #[.int .i64 ea, .int .i64 eb0]] W0 fun e w' => e = .returned (.bool true) ∧ Below W0.heap.size W0 w' := by
  obtain ⟨W, hw1⟩ : ∃ w1, W0.alloc (.cells #[.int .i64 ea, .int .i64 eb0] 33) = w1 := ⟨_, rfl⟩
  obtain ⟨c7, hc7⟩ : ∃ c, W0.heap.size = c := ⟨_, rfl⟩
  have hb1 : Below W0.heap.size W0 W := by rw [← hw1]; exact (Below.refl _ _).alloc (Nat.le_refl _) _
  have hs1 : W.heap.size = c7 + 1 := by rw [← hw1, ← hc7]; simp
  have hblk : W.heap[c7]? = some (.cells #[.int .i64 ea, .int .i64 eb0] 33) := by rw [← hw1]; exact heap_alloc_at hc7 _
  have hT1 := tab_below hT h0 hb1
  have ks := shown_q hT1 (by omega) (Below.refl _ W)
  obtain ⟨m, hmm⟩ : ∃ m, ls.length = m := ⟨_, rfl⟩
  obtain ⟨N, hN⟩ : ∃ N, sz30 n = N := ⟨_, rfl⟩
  obtain ⟨es, hes⟩ : ∃ es, foldE N (ls.take 100) [] = es := ⟨_, rfl⟩
  have hlen : es.length ≤ 100 := by rw [← hes]; exact fold_len N ls
  have hN30 : N ≤ 30 := by rw [← hN]; exact sz30_le n
  obtain ⟨Q, hQ⟩ : ∃ Q, Q0.take 20 = Q := ⟨_, rfl⟩
  obtain ⟨M0, hM0⟩ : ∃ M0, Q0.length = M0 := ⟨_, rfl⟩
  obtain ⟨K, hK⟩ : ∃ K, min M0 20 = K := ⟨_, rfl⟩
  have hQK : Q.length = K := by rw [← hQ, List.length_take]; omega
  have hmin := min20_run M0 K hK
  have hmi := min20_is M0 K hK
  have hKc : K ≤ qc := by omega
  have hK20 : K ≤ 20 := by omega
  have hq' : QIn W qa Q := by rw [← hQ]; exact (hq.take 20).below hb1 (Nat.le_refl _)
  obtain ⟨B, hB⟩ : ∃ B, W.heap.size = B := ⟨_, rfl⟩
  have km : ∀ w2, Below B W w2 → Calls Tryd.prog 9 #[.int .i64 n, .slice la m lc] w2 fun e w' => ∃ g eb, e = .returned (ptr g) ∧ Hid (PX B W w' g eb N es [] [(qa, Q)]) := fun w2 hb => by
    rw [← hB] at hb ⊢
    refine (made_q hT1 (by omega) hb n ls la lc (hl.below hb1 (Nat.le_refl _)) hm m N es hN hmm hes).mono ?_
    rintro e w' ⟨g, eb, rfl, s⟩
    exact ⟨g, eb, rfl, s.out.argQ (Nat.le_refl _) hq'⟩
  have hgd : ∀ e ∈ es, e.1 < N ∧ e.2 < N := by rw [← hes]; exact foldE_good N _ [] (by simp)
  have HW := hide_it (raW (n := N) (es := es) (by omega) hgd Q ea eb0)
  obtain ⟨er, her⟩ : ∃ er, errN N ea eb0 = er := ⟨_, rfl⟩
  obtain ⟨es2, hes2⟩ : ∃ es2, addE N es ea eb0 = es2 := ⟨_, rfl⟩
  have HU64 : Hid ((raisedL N es Q ea eb0).length ≤ 64) := raised_len _ _ _ _ _
  have kO1 : ∀ w1 g eb, PX B W w1 g eb N es [] [(qa, Q)] → Calls Tryd.prog 15 #[ptr g, .slice qa K qc] w1 fun e w' => ∃ b, e = .returned (.slice (some ⟨b, 0, none⟩) N N) ∧ Hid (PX B W w' g eb N es [(.slice (some ⟨b, 0, none⟩) N N, ofL N es Q)] [(qa, Q)]) := fun w1 g eb h => h.of (List.mem_singleton.2 rfl) (by omega) qc K hQK _ rfl
  have kU : ∀ w1 g eb X, PX B W w1 g eb N es X [(qa, Q)] → Calls Tryd.prog 17 #[ptr g, .slice qa K qc, .int .i64 ea, .int .i64 eb0] w1 fun e w' => ∃ ao cap, e = .returned (.slice ao (raisedL N es Q ea eb0).length cap) ∧ Hid (PX B W w' g eb N es ((.slice ao (raisedL N es Q ea eb0).length cap, zs (raisedL N es Q ea eb0)) :: X) [(qa, Q)]) := fun w1 g eb X h => h.raised (List.mem_singleton.2 rfl) (by omega) qc K hQK ea eb0 _ rfl
  have kA : ∀ w1 g eb X, PX B W w1 g eb N es X [(qa, Q)] → Calls Tryd.prog 21 #[ptr g, .int .i64 ea, .int .i64 eb0] w1 fun e w' => e = .returned (.tuple #[.bool (newB N es ea eb0), .int .i64 er]) ∧ Hid (PX B W w' g eb N es2 X [(qa, Q)]) := fun w1 g eb X h => h.add (by omega) ea eb0 _ er es2 rfl her hes2
  have kO2 : ∀ w1 g eb X, PX B W w1 g eb N es2 X [(qa, Q)] → Calls Tryd.prog 15 #[ptr g, .slice qa K qc] w1 fun e w' => ∃ b, e = .returned (.slice (some ⟨b, 0, none⟩) N N) ∧ Hid (PX B W w' g eb N es2 ((.slice (some ⟨b, 0, none⟩) N N, ofL N es2 Q) :: X) [(qa, Q)]) := fun w1 g eb X h => h.of (List.mem_singleton.2 rfl) (by omega) qc K hQK _ rfl
  rw [her, hes2] at HW
  have HCC : Hid (∀ w', Below B W w' → w'.cell? ⟨c7, 0, none⟩ = some (.int .i64 ea) ∧ w'.cell? ⟨c7, 1, none⟩ = some (.int .i64 eb0)) := by
    intro w' hb
    have hk : w'.heap[c7]? = some (.cells #[.int .i64 ea, .int .i64 eb0] 33) := by rw [hb.block c7 (by omega)]; exact hblk
    exact ⟨by rw [cell_of_row w' c7 0 _ _ _ hk]; rfl, by rw [cell_of_row w' c7 1 _ _ _ hk]; rfl⟩
  have HBW : Hid (∀ w', Below B W w' → Below W0.heap.size W0 w') := fun w' hb => hb1.trans (hb.mono (by omega))
  have HW1 := hide_it hw1
  have HC7 := hide_it hc7
  have hqm2 : M0 ≤ maxLen := by omega
  have hqc2 : M0 ≤ qc := by omega
  rw [hB] at ks
  rw [hmm, hM0]
  generalize ofL N es Q = was at *
  generalize ofL N es2 Q = is at *
  generalize raisedL N es Q ea eb0 = U at *
  generalize newB N es ea eb0 = nb at *
  obtain ⟨l, hll⟩ : ∃ l, U.length = l := ⟨_, rfl⟩
  have HL := hide_it hll
  have hl64 : l ≤ 64 := by rw [← hll]; exact HU64.out
  have hok := HW.out.ok
  rw [hll] at kU hok
  have hc0 : 0 < c7 := by omega
  clear hT h0 hl hm hq hmm hes hN hQ hM0 hqm hqc hK hQK hq' hgd her hes2 HU64 hll hT1 hw1 hc7 hb1 hblk hB hs1
  unfold maxLen at hqm2
  go_enter Tryd.func6, Tryd.ntmps6
  go_upto_region 7 with (first | (rw [HW1.out]) | (go_at_call 8; refine ks.mono ?_; rintro e w1 ⟨rfl, s1⟩) | (go_at_call 9; refine (km _ s1.out).mono ?_; rintro e w2 ⟨g, eb, rfl, s2⟩) | (go_at_call 15; refine (kO1 _ _ _ s2.out).mono ?_; rintro e w3 ⟨b1, rfl, s3⟩))
  rw [HC7.out]
  clear s1 s2 ks km kO1
  obtain ⟨q0, q1⟩ := HCC.out _ s3.out.bel
  go_upto_region 8 with (go_at_call 17; refine (kU _ _ _ _ s3.out).mono ?_; rintro e w4 ⟨ua, uc, rfl, s4⟩)
  clear q0 q1 s3 kU
  obtain ⟨q0, q1⟩ := HCC.out _ s4.out.bel
  go_upto_region 10 with (first | (go_at_call 21; refine (kA _ _ _ _ s4.out).mono ?_; rintro e w5 ⟨rfl, s5⟩) | (go_at_call 15; refine (kO2 _ _ _ _ s5.out).mono ?_; rintro e w6 ⟨b2, rfl, s6⟩))
  clear q0 q1 s4 s5 kA kO2
  have hNN : ((N : Int) != (N : Int)) = false := by simp
  go_cut [65] from 52 to 65 (fun s65 wx => s65 = .bool false ∧ wx = w6)
  case first =>
    rcases hok with h | h
    · as_aux_lemma =>
        subst h
        go_wp2
        go_meet
        exact ⟨rfl, rfl⟩
    · as_aux_lemma =>
        subst h
        by_cases he : er = 0
        · subst he
          go_wp2
          go_meet
          exact ⟨rfl, rfl⟩
        · have he2 : (er != 0) = true := by simpa using he
          go_wp2
          go_meet
          exact ⟨rfl, rfl⟩
  case rest =>
    obtain ⟨hz, hwx⟩ := hcut
    subst hz
    rw [hwx]
    clear hok hwx
    have s7 := hide_it s6.out.noQ
    go_upto_region 12 with fail
    apply wp_region_lit
    refine wpList_build52 rfl rfl ?_
    refine wpList_alloc52 rfl rfl ?_
    refine wpList_store52 rfl (.tmp 16) (.tmp 66) rfl rfl rfl rfl ?_
    have s8 := hide_it (AX.start s7.out falses64)
    obtain ⟨w7, hw7⟩ : ∃ w7, w6.alloc (.cells falses64 52) = w7 := ⟨_, rfl⟩
    generalize hsb : w6.heap.size = sb at *
    rw [hw7] at s8 ⊢
    clear hw7 hsb s6 s7
    have s9 : Hid (AX B W w7 g eb N es2 [(.slice (some ⟨b2, 0, none⟩) N N, is), (.slice ua l uc, zs U), (.slice (some ⟨b1, 0, none⟩) N N, was)] sb (bRow (fun i => decide (i ∈ U.take (0))))) := by
      have e : bRow (fun i => decide (i ∈ U.take 0)) = falses64 := by unfold falses64; congr 1
      unfold Hid
      rw [e]
      exact s8.out
    clear s8
    go_wp2
    go_loopw [17] (fun i W' => ∃ k : Nat, k ≤ l ∧ i = .int .i64 k ∧ Hid (AX B W W' g eb N es2 [(.slice (some ⟨b2, 0, none⟩) N N, is), (.slice ua l uc, zs U), (.slice (some ⟨b1, 0, none⟩) N N, was)] sb (bRow (fun i => decide (i ∈ U.take (k)))))) (fun i _ => l - (intOf i).toNat)
    case atStart => exact ⟨0, Nat.zero_le _, rfl, s9⟩
    case round =>
      obtain ⟨k, hk, rfl, sA⟩ := hrel
      obtain ⟨w8, rfl⟩ : ∃ w', w' = wr := ⟨_, rfl⟩
      clear s9
      by_cases hkl : k < l
      · have hkx : k < U.length := by rw [HL.out]; exact hkl
        obtain ⟨ru, rfl, hru, c1⟩ := (sA.out.row (u := .slice ua l uc) (L := zs U) (by simp)).at k (by rw [zs_len]; exact hkx)
        have huN := HW.out.lt k hkx
        have hre := HW.out.re k hkx
        obtain ⟨A, hA, hA1, hu1, hiu⟩ := HW.out.at_ k hkx
        have HST := hide_it (take_succ_mem U k hkx)
        have HAN : A < N := by rw [← HW.out.il]; exact hA1
        have HAT : Hid (∀ V cur, AX B W V g eb N es2 [(.slice (some ⟨b2, 0, none⟩) N N, is), (.slice (some ⟨ru, 0, none⟩) l uc, zs U), (.slice (some ⟨b1, 0, none⟩) N N, was)] sb cur → V.cell? ⟨ru, k, none⟩ = some (.int .i64 (U[k] : Nat)) ∧ V.cell? ⟨b2, U[k], none⟩ = some (.int .i64 is[A]) ∧ V.cell? ⟨b2, A, none⟩ = some (.int .i64 is[A]) ∧ V.cell? ⟨c7, 0, none⟩ = some (.int .i64 (A : Nat)) ∧ V.cell? ⟨c7, 1, none⟩ = some (.int .i64 eb0)) := by
          intro V cur h
          obtain ⟨q1, e1, _, d1⟩ := (h.row (u := .slice (some ⟨ru, 0, none⟩) l uc) (L := zs U) (by simp)).at k (by rw [zs_len]; exact hkx)
          obtain ⟨q2, e2, _, d2⟩ := (h.row (u := .slice (some ⟨b2, 0, none⟩) N N) (L := is) (by simp)).at U[k] hu1
          obtain ⟨q3, e3, _, d3⟩ := (h.row (u := .slice (some ⟨b2, 0, none⟩) N N) (L := is) (by simp)).at A hA1
          cases e1
          cases e2
          cases e3
          obtain ⟨z0, z1⟩ := HCC.out _ h.px.bel
          rw [zs_at] at d1
          rw [hA] at z0
          exact ⟨d1, by rw [d2, hiu], d3, z0, z1⟩
        have HPR : Hid (∀ k1, k = k1 + 1 → ∃ u1 : Nat, u1 < U[k] ∧ ∀ V cur, AX B W V g eb N es2 [(.slice (some ⟨b2, 0, none⟩) N N, is), (.slice (some ⟨ru, 0, none⟩) l uc, zs U), (.slice (some ⟨b1, 0, none⟩) N N, was)] sb cur → V.cell? ⟨ru, k1, none⟩ = some (.int .i64 (u1 : Nat))) := by
          intro k1 hk1
          subst hk1
          refine ⟨U[k1], HW.out.up k1 hkx, fun V cur h => ?_⟩
          obtain ⟨q1, e1, _, d1⟩ := (h.row (u := .slice (some ⟨ru, 0, none⟩) l uc) (L := zs U) (by simp)).at k1 (by rw [zs_len]; omega)
          cases e1
          rw [zs_at] at d1
          exact d1
        clear hA c1 hiu hu1
        generalize is[A] = iu at *
        generalize U[k] = u at *
        clear hA1 hkx
        have hu0 : decide ((u : Int) < 0) = false := by simp
        have huN1 : decide ((N : Int) ≤ u) = false := by simp; omega
        have huN2 : decide (N ≤ u) = false := by simp; omega
        have hu64 : decide ((64 : Int) ≤ u) = false := by simp; omega
        have hu64b : decide (64 ≤ u) = false := by simp; omega
        have huNI : (u : Int) < N := by omega
        have hANI : (A : Int) < N := by omega
        have hii : (iu != iu) = false := by simp
        have kr := (sA.out.drewN 1).reaches eb0 u true hre
        go_upto_region 16 with fail
        go_cut [135] from 73 to 135 (fun s135 wx => s135 = .bool false ∧ Hid (AX B W wx g eb N es2 [(.slice (some ⟨b2, 0, none⟩) N N, is), (.slice (some ⟨ru, 0, none⟩) l uc, zs U), (.slice (some ⟨b1, 0, none⟩) N N, was)] sb (bRow (fun i => decide (i ∈ U.take (k))))))
        case first =>
          rcases Nat.eq_zero_or_pos k with hk0 | hk0
          · as_aux_lemma =>
              subst hk0
              have hS0 := HAT.out _ _ (sA.out.drewN 1)
              clear HPR HST HCC HBW HC7 HW1 HL HW
              refine wp_region_noPanic ?_
              refine wp_region_held_drew (S := (fun V => V.cell? ⟨ru, 0, none⟩ = some (.int .i64 (u : Nat)) ∧ V.cell? ⟨b2, u, none⟩ = some (.int .i64 iu) ∧ V.cell? ⟨b2, A, none⟩ = some (.int .i64 iu) ∧ V.cell? ⟨c7, 0, none⟩ = some (.int .i64 (A : Nat)) ∧ V.cell? ⟨c7, 1, none⟩ = some (.int .i64 eb0))) (by kernel_rfl) ?pS0 (fun hHeld => ?_)
              case pS0 => exact hS0
              refine takeD (i := 0) (v := ?pv0) 73 rfl rfl (by kernel_rfl) (by kernel_rfl) (by kernel_rfl) (fun _ _ _ h => h) (Or.inl ⟨by rfl, ?py0⟩) (by assumption) ?pr0
              case py0 =>
                intro w hSw
                try dsimp only at hSw
                go_simp
                all_goals with_reducible rfl
              try simp only [Act.put, List.setIfInBounds_toArray, List.set_cons_zero, List.set_cons_succ]
              refine takeD (i := 1) (v := ?pv1) 74 rfl rfl (by kernel_rfl) (by kernel_rfl) (by kernel_rfl) (fun _ _ _ h => h) (Or.inl ⟨by rfl, ?py1⟩) (by assumption) ?pr1
              case py1 =>
                intro w hSw
                try dsimp only at hSw
                go_simp
                all_goals with_reducible rfl
              try simp only [Act.put, List.setIfInBounds_toArray, List.set_cons_zero, List.set_cons_succ]
              refine takeD (i := 2) (v := ?pv2) 75 rfl rfl (by kernel_rfl) (by kernel_rfl) (by kernel_rfl) (fun _ _ _ h => h) (Or.inl ⟨by rfl, ?py2⟩) (by assumption) ?pr2
              case py2 =>
                intro w hSw
                try dsimp only at hSw
                go_simp
                all_goals with_reducible rfl
              try simp only [Act.put, List.setIfInBounds_toArray, List.set_cons_zero, List.set_cons_succ]
              refine takeD (i := 3) (v := ?pv3) 76 rfl rfl (by kernel_rfl) (by kernel_rfl) (by kernel_rfl) (fun _ _ _ h => h) (Or.inl ⟨by rfl, ?py3⟩) (by assumption) ?pr3
              case py3 =>
                intro w hSw
                try dsimp only at hSw
                go_simp
                all_goals with_reducible rfl
              try simp only [Act.put, List.setIfInBounds_toArray, List.set_cons_zero, List.set_cons_succ]
              refine takeD (i := 4) (v := ?pv4) 77 rfl rfl (by kernel_rfl) (by kernel_rfl) (by kernel_rfl) (fun _ _ _ h => h) (Or.inl ⟨by rfl, ?py4⟩) (by assumption) ?pr4
              case py4 =>
                intro w hSw
                try dsimp only at hSw
                go_simp
                all_goals with_reducible rfl
              try simp only [Act.put, List.setIfInBounds_toArray, List.set_cons_zero, List.set_cons_succ]
              refine takeD (i := 5) (v := ?pv5) 78 rfl rfl (by kernel_rfl) (by kernel_rfl) (by kernel_rfl) (fun _ _ _ h => h) (Or.inl ⟨by rfl, ?py5⟩) (by assumption) ?pr5
              case py5 =>
                intro w hSw
                try dsimp only at hSw
                go_simp
                all_goals with_reducible rfl
              try simp only [Act.put, List.setIfInBounds_toArray, List.set_cons_zero, List.set_cons_succ]
              refine takeD (i := 6) (v := ?pv6) 79 rfl rfl (by kernel_rfl) (by kernel_rfl) (by kernel_rfl) (fun _ _ _ h => h) (Or.inl ⟨by rfl, ?py6⟩) (by assumption) ?pr6
              case py6 =>
                intro w hSw
                try dsimp only at hSw
                go_simp
                all_goals with_reducible rfl
              try simp only [Act.put, List.setIfInBounds_toArray, List.set_cons_zero, List.set_cons_succ]
              refine takeD (i := 7) (v := ?pv7) 80 rfl rfl (by kernel_rfl) (by kernel_rfl) (by kernel_rfl) (fun _ _ _ h => h) (Or.inl ⟨by rfl, ?py7⟩) (by assumption) ?pr7
              case py7 =>
                intro w hSw
                try dsimp only at hSw
                go_simp
                all_goals with_reducible rfl
              try simp only [Act.put, List.setIfInBounds_toArray, List.set_cons_zero, List.set_cons_succ]
              refine takeD (i := 8) (v := ?pv8) 81 rfl rfl (by kernel_rfl) (by kernel_rfl) (by kernel_rfl) (fun _ _ _ h => h) (Or.inl ⟨by rfl, ?py8⟩) (by assumption) ?pr8
              case py8 =>
                intro w hSw
                try dsimp only at hSw
                go_simp
                all_goals with_reducible rfl
              try simp only [Act.put, List.setIfInBounds_toArray, List.set_cons_zero, List.set_cons_succ]
              refine takeD (i := 9) (v := ?pv9) 82 rfl rfl (by kernel_rfl) (by kernel_rfl) (by kernel_rfl) (fun _ _ _ h => h) (Or.inl ⟨by rfl, ?py9⟩) (by assumption) ?pr9
              case py9 =>
                intro w hSw
                try dsimp only at hSw
                go_simp
                all_goals with_reducible rfl
              try simp only [Act.put, List.setIfInBounds_toArray, List.set_cons_zero, List.set_cons_succ]
              refine takeD (i := 10) (v := ?pv10) 83 rfl rfl (by kernel_rfl) (by kernel_rfl) (by kernel_rfl) (fun _ _ _ h => h) (Or.inl ⟨by rfl, ?py10⟩) (by assumption) ?pr10
              case py10 =>
                intro w hSw
                try dsimp only at hSw
                go_simp
                all_goals with_reducible rfl
              try simp only [Act.put, List.setIfInBounds_toArray, List.set_cons_zero, List.set_cons_succ]
              refine takeD (i := 11) (v := ?pv11) 84 rfl rfl (by kernel_rfl) (by kernel_rfl) (by kernel_rfl) (fun _ _ _ h => h) (Or.inl ⟨by rfl, ?py11⟩) (by assumption) ?pr11
              case py11 =>
                intro w hSw
                try dsimp only at hSw
                go_simp
                all_goals with_reducible rfl
              try simp only [Act.put, List.setIfInBounds_toArray, List.set_cons_zero, List.set_cons_succ]
              refine takeD (i := 12) (v := ?pv12) 85 rfl rfl (by kernel_rfl) (by kernel_rfl) (by kernel_rfl) (fun _ _ _ h => h) (Or.inl ⟨by rfl, ?py12⟩) (by assumption) ?pr12
              case py12 =>
                intro w hSw
                try dsimp only at hSw
                go_simp
                all_goals with_reducible rfl
              try simp only [Act.put, List.setIfInBounds_toArray, List.set_cons_zero, List.set_cons_succ]
              refine takeD (i := 13) (v := ?pv13) 86 rfl rfl (by kernel_rfl) (by kernel_rfl) (by kernel_rfl) (fun _ _ _ h => h) (Or.inl ⟨by rfl, ?py13⟩) (by assumption) ?pr13
              case py13 =>
                intro w hSw
                try dsimp only at hSw
                go_simp
                all_goals with_reducible rfl
              try simp only [Act.put, List.setIfInBounds_toArray, List.set_cons_zero, List.set_cons_succ]
              refine takeD (i := 14) (v := ?pv14) 87 rfl rfl (by kernel_rfl) (by kernel_rfl) (by kernel_rfl) (fun _ _ _ h => h) (Or.inl ⟨by rfl, ?py14⟩) (by assumption) ?pr14
              case py14 =>
                intro w hSw
                try dsimp only at hSw
                go_simp
                all_goals with_reducible rfl
              try simp only [Act.put, List.setIfInBounds_toArray, List.set_cons_zero, List.set_cons_succ]
              refine takeD (i := 15) (v := ?pv15) 88 rfl rfl (by kernel_rfl) (by kernel_rfl) (by kernel_rfl) (fun _ _ _ h => h) (Or.inl ⟨by rfl, ?py15⟩) (by assumption) ?pr15
              case py15 =>
                intro w hSw
                try dsimp only at hSw
                go_simp
                all_goals with_reducible rfl
              try simp only [Act.put, List.setIfInBounds_toArray, List.set_cons_zero, List.set_cons_succ]
              refine takeD (i := 16) (v := ?pv16) 89 rfl rfl (by kernel_rfl) (by kernel_rfl) (by kernel_rfl) (fun _ _ _ h => h) (Or.inl ⟨by rfl, ?py16⟩) (by assumption) ?pr16
              case py16 =>
                intro w hSw
                try dsimp only at hSw
                go_simp
                all_goals with_reducible rfl
              try simp only [Act.put, List.setIfInBounds_toArray, List.set_cons_zero, List.set_cons_succ]
              refine takeD (i := 17) (v := ?pv17) 90 rfl rfl (by kernel_rfl) (by kernel_rfl) (by kernel_rfl) (fun _ _ _ h => h) (Or.inl ⟨by rfl, ?py17⟩) (by assumption) ?pr17
              case py17 =>
                intro w hSw
                try dsimp only at hSw
                go_simp
                all_goals with_reducible rfl
              try simp only [Act.put, List.setIfInBounds_toArray, List.set_cons_zero, List.set_cons_succ]
              refine takeD (i := 18) (v := ?pv18) 91 rfl rfl (by kernel_rfl) (by kernel_rfl) (by kernel_rfl) (fun _ _ _ h => h) (Or.inl ⟨by rfl, ?py18⟩) (by assumption) ?pr18
              case py18 =>
                intro w hSw
                try dsimp only at hSw
                go_simp
                all_goals with_reducible rfl
              try simp only [Act.put, List.setIfInBounds_toArray, List.set_cons_zero, List.set_cons_succ]
              refine takeD (i := 19) (v := ?pv19) 92 rfl rfl (by kernel_rfl) (by kernel_rfl) (by kernel_rfl) (fun _ _ _ h => h) (Or.inl ⟨by rfl, ?py19⟩) (by assumption) ?pr19
              case py19 =>
                intro w hSw
                try dsimp only at hSw
                go_simp
                all_goals with_reducible rfl
              try simp only [Act.put, List.setIfInBounds_toArray, List.set_cons_zero, List.set_cons_succ]
              refine takeD (i := 20) (v := ?pv20) 93 rfl rfl (by kernel_rfl) (by kernel_rfl) (by kernel_rfl) (fun _ _ _ h => h) (Or.inl ⟨by rfl, ?py20⟩) (by assumption) ?pr20
              case py20 =>
                intro w hSw
                try dsimp only at hSw
                go_simp
                all_goals with_reducible rfl
              try simp only [Act.put, List.setIfInBounds_toArray, List.set_cons_zero, List.set_cons_succ]
              refine takeD (i := 21) (v := ?pv21) 94 rfl rfl (by kernel_rfl) (by kernel_rfl) (by kernel_rfl) (fun _ _ _ h => h) (Or.inl ⟨by rfl, ?py21⟩) (by assumption) ?pr21
              case py21 =>
                intro w hSw
                try dsimp only at hSw
                go_simp
                all_goals with_reducible rfl
              try simp only [Act.put, List.setIfInBounds_toArray, List.set_cons_zero, List.set_cons_succ]
              refine takeD (i := 22) (v := ?pv22) 95 rfl rfl (by kernel_rfl) (by kernel_rfl) (by kernel_rfl) (fun _ _ _ h => h) (Or.inl ⟨by rfl, ?py22⟩) (by assumption) ?pr22
              case py22 =>
                intro w hSw
                try dsimp only at hSw
                go_simp
                all_goals with_reducible rfl
              try simp only [Act.put, List.setIfInBounds_toArray, List.set_cons_zero, List.set_cons_succ]
              refine takeD (i := 23) (v := ?pv23) 96 rfl rfl (by kernel_rfl) (by kernel_rfl) (by kernel_rfl) (fun _ _ _ h => h) (Or.inl ⟨by rfl, ?py23⟩) (by assumption) ?pr23
              case py23 =>
                intro w hSw
                try dsimp only at hSw
                go_simp
                all_goals with_reducible rfl
              try simp only [Act.put, List.setIfInBounds_toArray, List.set_cons_zero, List.set_cons_succ]
              refine takeD (i := 24) (v := ?pv24) 97 rfl rfl (by kernel_rfl) (by kernel_rfl) (by kernel_rfl) (fun _ _ _ h => h) (Or.inl ⟨by rfl, ?py24⟩) (by assumption) ?pr24
              case py24 =>
                intro w hSw
                try dsimp only at hSw
                go_simp
                all_goals with_reducible rfl
              try simp only [Act.put, List.setIfInBounds_toArray, List.set_cons_zero, List.set_cons_succ]
              refine takeD (i := 25) (v := undef) 98 rfl rfl (by kernel_rfl) (by kernel_rfl) (by kernel_rfl) (fun _ _ _ h => h) (Or.inr ⟨by rfl, rfl⟩) (by assumption) ?_
              try simp only [Act.put, List.setIfInBounds_toArray, List.set_cons_zero, List.set_cons_succ]
              refine takeD (i := 26) (v := undef) 99 rfl rfl (by kernel_rfl) (by kernel_rfl) (by kernel_rfl) (fun _ _ _ h => h) (Or.inr ⟨by rfl, rfl⟩) (by assumption) ?_
              try simp only [Act.put, List.setIfInBounds_toArray, List.set_cons_zero, List.set_cons_succ]
              refine takeD (i := 27) (v := undef) 100 rfl rfl (by kernel_rfl) (by kernel_rfl) (by kernel_rfl) (fun _ _ _ h => h) (Or.inr ⟨by rfl, rfl⟩) (by assumption) ?_
              try simp only [Act.put, List.setIfInBounds_toArray, List.set_cons_zero, List.set_cons_succ]
              refine takeD (i := 28) (v := undef) 101 rfl rfl (by kernel_rfl) (by kernel_rfl) (by kernel_rfl) (fun _ _ _ h => h) (Or.inr ⟨by rfl, rfl⟩) (by assumption) ?_
              try simp only [Act.put, List.setIfInBounds_toArray, List.set_cons_zero, List.set_cons_succ]
              refine takeD (i := 29) (v := undef) 102 rfl rfl (by kernel_rfl) (by kernel_rfl) (by kernel_rfl) (fun _ _ _ h => h) (Or.inr ⟨by rfl, rfl⟩) (by assumption) ?_
              try simp only [Act.put, List.setIfInBounds_toArray, List.set_cons_zero, List.set_cons_succ]
              refine takeD (i := 30) (v := undef) 103 rfl rfl (by kernel_rfl) (by kernel_rfl) (by kernel_rfl) (fun _ _ _ h => h) (Or.inr ⟨by rfl, rfl⟩) (by assumption) ?_
              try simp only [Act.put, List.setIfInBounds_toArray, List.set_cons_zero, List.set_cons_succ]
              refine takeD (i := 31) (v := undef) 104 rfl rfl (by kernel_rfl) (by kernel_rfl) (by kernel_rfl) (fun _ _ _ h => h) (Or.inr ⟨by rfl, rfl⟩) (by assumption) ?_
              try simp only [Act.put, List.setIfInBounds_toArray, List.set_cons_zero, List.set_cons_succ]
              refine takeD (i := 32) (v := undef) 105 rfl rfl (by kernel_rfl) (by kernel_rfl) (by kernel_rfl) (fun _ _ _ h => h) (Or.inr ⟨by rfl, rfl⟩) (by assumption) ?_
              try simp only [Act.put, List.setIfInBounds_toArray, List.set_cons_zero, List.set_cons_succ]
              refine takeD (i := 33) (v := undef) 106 rfl rfl (by kernel_rfl) (by kernel_rfl) (by kernel_rfl) (fun _ _ _ h => h) (Or.inr ⟨by rfl, rfl⟩) (by assumption) ?_
              try simp only [Act.put, List.setIfInBounds_toArray, List.set_cons_zero, List.set_cons_succ]
              refine takeD (i := 34) (v := undef) 107 rfl rfl (by kernel_rfl) (by kernel_rfl) (by kernel_rfl) (fun _ _ _ h => h) (Or.inr ⟨by rfl, rfl⟩) (by assumption) ?_
              try simp only [Act.put, List.setIfInBounds_toArray, List.set_cons_zero, List.set_cons_succ]
              refine takeD (i := 35) (v := ?pv35) 108 rfl rfl (by kernel_rfl) (by kernel_rfl) (by kernel_rfl) (fun _ _ _ h => h) (Or.inl ⟨by rfl, ?py35⟩) (by assumption) ?pr35
              case py35 =>
                intro w hSw
                try dsimp only at hSw
                go_simp
                all_goals with_reducible rfl
              try simp only [Act.put, List.setIfInBounds_toArray, List.set_cons_zero, List.set_cons_succ]
              refine takeD (i := 36) (v := ?pv36) 109 rfl rfl (by kernel_rfl) (by kernel_rfl) (by kernel_rfl) (fun _ _ _ h => h) (Or.inl ⟨by rfl, ?py36⟩) (by assumption) ?pr36
              case py36 =>
                intro w hSw
                try dsimp only at hSw
                go_simp
                all_goals with_reducible rfl
              try simp only [Act.put, List.setIfInBounds_toArray, List.set_cons_zero, List.set_cons_succ]
              refine takeD (i := 37) (v := ?pv37) 110 rfl rfl (by kernel_rfl) (by kernel_rfl) (by kernel_rfl) (fun _ _ _ h => h) (Or.inl ⟨by rfl, ?py37⟩) (by assumption) ?pr37
              case py37 =>
                intro w hSw
                try dsimp only at hSw
                go_simp
                all_goals with_reducible rfl
              try simp only [Act.put, List.setIfInBounds_toArray, List.set_cons_zero, List.set_cons_succ]
              refine takeD (i := 38) (v := ?pv38) 111 rfl rfl (by kernel_rfl) (by kernel_rfl) (by kernel_rfl) (fun _ _ _ h => h) (Or.inl ⟨by rfl, ?py38⟩) (by assumption) ?pr38
              case py38 =>
                intro w hSw
                try dsimp only at hSw
                go_simp
                all_goals with_reducible rfl
              try simp only [Act.put, List.setIfInBounds_toArray, List.set_cons_zero, List.set_cons_succ]
              refine takeD (i := 39) (v := ?pv39) 112 rfl rfl (by kernel_rfl) (by kernel_rfl) (by kernel_rfl) (fun _ _ _ h => h) (Or.inl ⟨by rfl, ?py39⟩) (by assumption) ?pr39
              case py39 =>
                intro w hSw
                try dsimp only at hSw
                go_simp
                all_goals with_reducible rfl
              try simp only [Act.put, List.setIfInBounds_toArray, List.set_cons_zero, List.set_cons_succ]
              refine takeD (i := 40) (v := ?pv40) 113 rfl rfl (by kernel_rfl) (by kernel_rfl) (by kernel_rfl) (fun _ _ _ h => h) (Or.inl ⟨by rfl, ?py40⟩) (by assumption) ?pr40
              case py40 =>
                intro w hSw
                try dsimp only at hSw
                go_simp
                all_goals with_reducible rfl
              try simp only [Act.put, List.setIfInBounds_toArray, List.set_cons_zero, List.set_cons_succ]
              refine takeD (i := 41) (v := ?pv41) 114 rfl rfl (by kernel_rfl) (by kernel_rfl) (by kernel_rfl) (fun _ _ _ h => h) (Or.inl ⟨by rfl, ?py41⟩) (by assumption) ?pr41
              case py41 =>
                intro w hSw
                try dsimp only at hSw
                go_simp
                all_goals with_reducible rfl
              try simp only [Act.put, List.setIfInBounds_toArray, List.set_cons_zero, List.set_cons_succ]
              refine takeD (i := 42) (v := ?pv42) 115 rfl rfl (by kernel_rfl) (by kernel_rfl) (by kernel_rfl) (fun _ _ _ h => h) (Or.inl ⟨by rfl, ?py42⟩) (by assumption) ?pr42
              case py42 =>
                intro w hSw
                try dsimp only at hSw
                go_simp
                all_goals with_reducible rfl
              try simp only [Act.put, List.setIfInBounds_toArray, List.set_cons_zero, List.set_cons_succ]
              refine takeD (i := 43) (v := ?pv43) 116 rfl rfl (by kernel_rfl) (by kernel_rfl) (by kernel_rfl) (fun _ _ _ h => h) (Or.inl ⟨by rfl, ?py43⟩) (by assumption) ?pr43
              case py43 =>
                intro w hSw
                try dsimp only at hSw
                go_simp
                all_goals with_reducible rfl
              try simp only [Act.put, List.setIfInBounds_toArray, List.set_cons_zero, List.set_cons_succ]
              refine takeD (i := 44) (v := ?pv44) 117 rfl rfl (by kernel_rfl) (by kernel_rfl) (by kernel_rfl) (fun _ _ _ h => h) (Or.inl ⟨by rfl, ?py44⟩) (by assumption) ?pr44
              case py44 =>
                intro w hSw
                try dsimp only at hSw
                go_simp
                all_goals with_reducible rfl
              try simp only [Act.put, List.setIfInBounds_toArray, List.set_cons_zero, List.set_cons_succ]
              refine wpAnyH_ready (rs := [45]) (by kernel_rfl) (by simp) ?_
              refine AllReadyH.cons rfl (fun K hK => ?_) AllReadyH.nil
              go_simp
              (go_at_call 22; refine kr.mono ?_; rintro e wA ⟨rfl, sA⟩)
              refine hK.out _ _ ?pS45 (fun hHeld => ?_)
              case pS45 => exact HAT.out _ _ sA.out
              clear hK K
              try simp only [Act.put, List.getElem_toArray, List.getElem_cons_succ, List.getElem_cons_zero, List.setIfInBounds_toArray, List.set_cons_zero, List.set_cons_succ]
              refine takeD (i := 46) (v := ?pv46) 119 rfl rfl (by kernel_rfl) (by kernel_rfl) (by kernel_rfl) (fun _ _ _ h => h) (Or.inl ⟨by rfl, ?py46⟩) (by assumption) ?pr46
              case py46 =>
                intro w hSw
                try dsimp only at hSw
                go_simp
                all_goals with_reducible rfl
              try simp only [Act.put, List.setIfInBounds_toArray, List.set_cons_zero, List.set_cons_succ]
              refine takeD (i := 47) (v := ?pv47) 120 rfl rfl (by kernel_rfl) (by kernel_rfl) (by kernel_rfl) (fun _ _ _ h => h) (Or.inl ⟨by rfl, ?py47⟩) (by assumption) ?pr47
              case py47 =>
                intro w hSw
                try dsimp only at hSw
                go_simp
                all_goals with_reducible rfl
              try simp only [Act.put, List.setIfInBounds_toArray, List.set_cons_zero, List.set_cons_succ]
              refine takeD (i := 48) (v := ?pv48) 121 rfl rfl (by kernel_rfl) (by kernel_rfl) (by kernel_rfl) (fun _ _ _ h => h) (Or.inl ⟨by rfl, ?py48⟩) (by assumption) ?pr48
              case py48 =>
                intro w hSw
                try dsimp only at hSw
                go_simp
                all_goals with_reducible rfl
              try simp only [Act.put, List.setIfInBounds_toArray, List.set_cons_zero, List.set_cons_succ]
              refine takeD (i := 49) (v := ?pv49) 122 rfl rfl (by kernel_rfl) (by kernel_rfl) (by kernel_rfl) (fun _ _ _ h => h) (Or.inl ⟨by rfl, ?py49⟩) (by assumption) ?pr49
              case py49 =>
                intro w hSw
                try dsimp only at hSw
                go_simp
                all_goals with_reducible rfl
              try simp only [Act.put, List.setIfInBounds_toArray, List.set_cons_zero, List.set_cons_succ]
              refine takeD (i := 50) (v := ?pv50) 123 rfl rfl (by kernel_rfl) (by kernel_rfl) (by kernel_rfl) (fun _ _ _ h => h) (Or.inl ⟨by rfl, ?py50⟩) (by assumption) ?pr50
              case py50 =>
                intro w hSw
                try dsimp only at hSw
                go_simp
                all_goals with_reducible rfl
              try simp only [Act.put, List.setIfInBounds_toArray, List.set_cons_zero, List.set_cons_succ]
              refine takeD (i := 51) (v := ?pv51) 124 rfl rfl (by kernel_rfl) (by kernel_rfl) (by kernel_rfl) (fun _ _ _ h => h) (Or.inl ⟨by rfl, ?py51⟩) (by assumption) ?pr51
              case py51 =>
                intro w hSw
                try dsimp only at hSw
                go_simp
                all_goals with_reducible rfl
              try simp only [Act.put, List.setIfInBounds_toArray, List.set_cons_zero, List.set_cons_succ]
              refine takeD (i := 52) (v := ?pv52) 125 rfl rfl (by kernel_rfl) (by kernel_rfl) (by kernel_rfl) (fun _ _ _ h => h) (Or.inl ⟨by rfl, ?py52⟩) (by assumption) ?pr52
              case py52 =>
                intro w hSw
                try dsimp only at hSw
                go_simp
                all_goals with_reducible rfl
              try simp only [Act.put, List.setIfInBounds_toArray, List.set_cons_zero, List.set_cons_succ]
              refine takeD (i := 53) (v := ?pv53) 126 rfl rfl (by kernel_rfl) (by kernel_rfl) (by kernel_rfl) (fun _ _ _ h => h) (Or.inl ⟨by rfl, ?py53⟩) (by assumption) ?pr53
              case py53 =>
                intro w hSw
                try dsimp only at hSw
                go_simp
                all_goals with_reducible rfl
              try simp only [Act.put, List.setIfInBounds_toArray, List.set_cons_zero, List.set_cons_succ]
              refine takeD (i := 54) (v := ?pv54) 127 rfl rfl (by kernel_rfl) (by kernel_rfl) (by kernel_rfl) (fun _ _ _ h => h) (Or.inl ⟨by rfl, ?py54⟩) (by assumption) ?pr54
              case py54 =>
                intro w hSw
                try dsimp only at hSw
                go_simp
                all_goals with_reducible rfl
              try simp only [Act.put, List.setIfInBounds_toArray, List.set_cons_zero, List.set_cons_succ]
              refine takeD (i := 55) (v := ?pv55) 128 rfl rfl (by kernel_rfl) (by kernel_rfl) (by kernel_rfl) (fun _ _ _ h => h) (Or.inl ⟨by rfl, ?py55⟩) (by assumption) ?pr55
              case py55 =>
                intro w hSw
                try dsimp only at hSw
                go_simp
                all_goals with_reducible rfl
              try simp only [Act.put, List.setIfInBounds_toArray, List.set_cons_zero, List.set_cons_succ]
              refine takeD (i := 56) (v := ?pv56) 129 rfl rfl (by kernel_rfl) (by kernel_rfl) (by kernel_rfl) (fun _ _ _ h => h) (Or.inl ⟨by rfl, ?py56⟩) (by assumption) ?pr56
              case py56 =>
                intro w hSw
                try dsimp only at hSw
                go_simp
                all_goals with_reducible rfl
              try simp only [Act.put, List.setIfInBounds_toArray, List.set_cons_zero, List.set_cons_succ]
              refine takeD (i := 57) (v := ?pv57) 130 rfl rfl (by kernel_rfl) (by kernel_rfl) (by kernel_rfl) (fun _ _ _ h => h) (Or.inl ⟨by rfl, ?py57⟩) (by assumption) ?pr57
              case py57 =>
                intro w hSw
                try dsimp only at hSw
                go_simp
                all_goals with_reducible rfl
              try simp only [Act.put, List.setIfInBounds_toArray, List.set_cons_zero, List.set_cons_succ]
              refine takeD (i := 58) (v := ?pv58) 131 rfl rfl (by kernel_rfl) (by kernel_rfl) (by kernel_rfl) (fun _ _ _ h => h) (Or.inl ⟨by rfl, ?py58⟩) (by assumption) ?pr58
              case py58 =>
                intro w hSw
                try dsimp only at hSw
                go_simp
                all_goals with_reducible rfl
              try simp only [Act.put, List.setIfInBounds_toArray, List.set_cons_zero, List.set_cons_succ]
              refine takeD (i := 59) (v := ?pv59) 132 rfl rfl (by kernel_rfl) (by kernel_rfl) (by kernel_rfl) (fun _ _ _ h => h) (Or.inl ⟨by rfl, ?py59⟩) (by assumption) ?pr59
              case py59 =>
                intro w hSw
                try dsimp only at hSw
                go_simp
                all_goals with_reducible rfl
              try simp only [Act.put, List.setIfInBounds_toArray, List.set_cons_zero, List.set_cons_succ]
              refine takeD (i := 60) (v := ?pv60) 133 rfl rfl (by kernel_rfl) (by kernel_rfl) (by kernel_rfl) (fun _ _ _ h => h) (Or.inl ⟨by rfl, ?py60⟩) (by assumption) ?pr60
              case py60 =>
                intro w hSw
                try dsimp only at hSw
                go_simp
                all_goals with_reducible rfl
              try simp only [Act.put, List.setIfInBounds_toArray, List.set_cons_zero, List.set_cons_succ]
              refine takeD (i := 61) (v := ?pv61) 134 rfl rfl (by kernel_rfl) (by kernel_rfl) (by kernel_rfl) (fun _ _ _ h => h) (Or.inl ⟨by rfl, ?py61⟩) (by assumption) ?pr61
              case py61 =>
                intro w hSw
                try dsimp only at hSw
                go_simp
                all_goals with_reducible rfl
              try simp only [Act.put, List.setIfInBounds_toArray, List.set_cons_zero, List.set_cons_succ]
              refine takeD (i := 62) (v := ?pv62) 135 rfl rfl (by kernel_rfl) (by kernel_rfl) (by kernel_rfl) (fun _ _ _ h => h) (Or.inl ⟨by rfl, ?py62⟩) (by assumption) ?pr62
              case py62 =>
                intro w hSw
                try dsimp only at hSw
                go_simp
                all_goals with_reducible rfl
              try simp only [Act.put, List.setIfInBounds_toArray, List.set_cons_zero, List.set_cons_succ]
              refine wpAnyH_done (by kernel_rfl) ?_ _
              refine NoPanic.normal ?_
              go_wp2
              go_meet
              exact ⟨rfl, sA⟩
          · as_aux_lemma =>
              obtain ⟨k1, hk1⟩ : ∃ k1, k = k1 + 1 := ⟨k - 1, by omega⟩
              obtain ⟨u1, hu1, HP⟩ := HPR.out k1 hk1
              have HP1 := hide_it HP
              have HAT2 : Hid (∀ V cur, AX B W V g eb N es2 [(.slice (some ⟨b2, 0, none⟩) N N, is), (.slice (some ⟨ru, 0, none⟩) l uc, zs U), (.slice (some ⟨b1, 0, none⟩) N N, was)] sb cur → V.cell? ⟨ru, k, none⟩ = some (.int .i64 (u : Nat)) ∧ V.cell? ⟨b2, u, none⟩ = some (.int .i64 iu) ∧ V.cell? ⟨b2, A, none⟩ = some (.int .i64 iu) ∧ V.cell? ⟨c7, 0, none⟩ = some (.int .i64 (A : Nat)) ∧ V.cell? ⟨c7, 1, none⟩ = some (.int .i64 eb0) ∧ V.cell? ⟨ru, k1, none⟩ = some (.int .i64 (u1 : Nat))) := fun V cur h => by
                obtain ⟨z0, z1, z2, z3, z4⟩ := HAT.out V cur h
                exact ⟨z0, z1, z2, z3, z4, HP1.out V cur h⟩
              have hS0 := HAT2.out _ _ (sA.out.drewN 1)
              have hkp : decide ((0 : Int) < k) = true := by simp; omega
              have hkp2 : decide (0 < k) = true := by simp; omega
              have hwa : IntKind.i64.wrap ((k : Int) - 1) = (k1 : Int) := by rw [IntKind.wrap_i64]; omega
              have hwb : wrap64 ((k : Int) - 1) = (k1 : Int) := by unfold wrap64; omega
              have hk1l : (k1 : Int) < l := by omega
              have hgd1 : decide ((u : Int) ≤ u1) = false := by simp; omega
              have hgd2 : decide (u ≤ u1) = false := by simp; omega
              clear HP hk1 hk0
              clear HAT
              obtain ⟨HAT, -⟩ : ∃ h : Hid (∀ V cur, AX B W V g eb N es2 [(.slice (some ⟨b2, 0, none⟩) N N, is), (.slice (some ⟨ru, 0, none⟩) l uc, zs U), (.slice (some ⟨b1, 0, none⟩) N N, was)] sb cur → V.cell? ⟨ru, k, none⟩ = some (.int .i64 (u : Nat)) ∧ V.cell? ⟨b2, u, none⟩ = some (.int .i64 iu) ∧ V.cell? ⟨b2, A, none⟩ = some (.int .i64 iu) ∧ V.cell? ⟨c7, 0, none⟩ = some (.int .i64 (A : Nat)) ∧ V.cell? ⟨c7, 1, none⟩ = some (.int .i64 eb0) ∧ V.cell? ⟨ru, k1, none⟩ = some (.int .i64 (u1 : Nat))), True := ⟨HAT2, trivial⟩
              clear HAT2 HPR HP1 HST HCC HBW HC7 HW1 HL HW
              refine wp_region_noPanic ?_
              refine wp_region_held_drew (S := (fun V => V.cell? ⟨ru, k, none⟩ = some (.int .i64 (u : Nat)) ∧ V.cell? ⟨b2, u, none⟩ = some (.int .i64 iu) ∧ V.cell? ⟨b2, A, none⟩ = some (.int .i64 iu) ∧ V.cell? ⟨c7, 0, none⟩ = some (.int .i64 (A : Nat)) ∧ V.cell? ⟨c7, 1, none⟩ = some (.int .i64 eb0) ∧ V.cell? ⟨ru, k1, none⟩ = some (.int .i64 (u1 : Nat)))) (by kernel_rfl) ?qS0 (fun hHeld => ?_)
              case qS0 => exact hS0
              refine takeD (i := 0) (v := ?qv0) 73 rfl rfl (by kernel_rfl) (by kernel_rfl) (by kernel_rfl) (fun _ _ _ h => h) (Or.inl ⟨by rfl, ?qy0⟩) (by assumption) ?qr0
              case qy0 =>
                intro w hSw
                try dsimp only at hSw
                go_simp
                all_goals with_reducible rfl
              try simp only [Act.put, List.setIfInBounds_toArray, List.set_cons_zero, List.set_cons_succ]
              refine takeD (i := 1) (v := ?qv1) 74 rfl rfl (by kernel_rfl) (by kernel_rfl) (by kernel_rfl) (fun _ _ _ h => h) (Or.inl ⟨by rfl, ?qy1⟩) (by assumption) ?qr1
              case qy1 =>
                intro w hSw
                try dsimp only at hSw
                go_simp
                all_goals with_reducible rfl
              try simp only [Act.put, List.setIfInBounds_toArray, List.set_cons_zero, List.set_cons_succ]
              refine takeD (i := 2) (v := ?qv2) 75 rfl rfl (by kernel_rfl) (by kernel_rfl) (by kernel_rfl) (fun _ _ _ h => h) (Or.inl ⟨by rfl, ?qy2⟩) (by assumption) ?qr2
              case qy2 =>
                intro w hSw
                try dsimp only at hSw
                go_simp
                all_goals with_reducible rfl
              try simp only [Act.put, List.setIfInBounds_toArray, List.set_cons_zero, List.set_cons_succ]
              refine takeD (i := 3) (v := ?qv3) 76 rfl rfl (by kernel_rfl) (by kernel_rfl) (by kernel_rfl) (fun _ _ _ h => h) (Or.inl ⟨by rfl, ?qy3⟩) (by assumption) ?qr3
              case qy3 =>
                intro w hSw
                try dsimp only at hSw
                go_simp
                all_goals with_reducible rfl
              try simp only [Act.put, List.setIfInBounds_toArray, List.set_cons_zero, List.set_cons_succ]
              refine takeD (i := 4) (v := ?qv4) 77 rfl rfl (by kernel_rfl) (by kernel_rfl) (by kernel_rfl) (fun _ _ _ h => h) (Or.inl ⟨by rfl, ?qy4⟩) (by assumption) ?qr4
              case qy4 =>
                intro w hSw
                try dsimp only at hSw
                go_simp
                all_goals with_reducible rfl
              try simp only [Act.put, List.setIfInBounds_toArray, List.set_cons_zero, List.set_cons_succ]
              refine takeD (i := 5) (v := ?qv5) 78 rfl rfl (by kernel_rfl) (by kernel_rfl) (by kernel_rfl) (fun _ _ _ h => h) (Or.inl ⟨by rfl, ?qy5⟩) (by assumption) ?qr5
              case qy5 =>
                intro w hSw
                try dsimp only at hSw
                go_simp
                all_goals with_reducible rfl
              try simp only [Act.put, List.setIfInBounds_toArray, List.set_cons_zero, List.set_cons_succ]
              refine takeD (i := 6) (v := ?qv6) 79 rfl rfl (by kernel_rfl) (by kernel_rfl) (by kernel_rfl) (fun _ _ _ h => h) (Or.inl ⟨by rfl, ?qy6⟩) (by assumption) ?qr6
              case qy6 =>
                intro w hSw
                try dsimp only at hSw
                go_simp
                all_goals with_reducible rfl
              try simp only [Act.put, List.setIfInBounds_toArray, List.set_cons_zero, List.set_cons_succ]
              refine takeD (i := 7) (v := ?qv7) 80 rfl rfl (by kernel_rfl) (by kernel_rfl) (by kernel_rfl) (fun _ _ _ h => h) (Or.inl ⟨by rfl, ?qy7⟩) (by assumption) ?qr7
              case qy7 =>
                intro w hSw
                try dsimp only at hSw
                go_simp
                all_goals with_reducible rfl
              try simp only [Act.put, List.setIfInBounds_toArray, List.set_cons_zero, List.set_cons_succ]
              refine takeD (i := 8) (v := ?qv8) 81 rfl rfl (by kernel_rfl) (by kernel_rfl) (by kernel_rfl) (fun _ _ _ h => h) (Or.inl ⟨by rfl, ?qy8⟩) (by assumption) ?qr8
              case qy8 =>
                intro w hSw
                try dsimp only at hSw
                go_simp
                all_goals with_reducible rfl
              try simp only [Act.put, List.setIfInBounds_toArray, List.set_cons_zero, List.set_cons_succ]
              refine takeD (i := 9) (v := ?qv9) 82 rfl rfl (by kernel_rfl) (by kernel_rfl) (by kernel_rfl) (fun _ _ _ h => h) (Or.inl ⟨by rfl, ?qy9⟩) (by assumption) ?qr9
              case qy9 =>
                intro w hSw
                try dsimp only at hSw
                go_simp
                all_goals with_reducible rfl
              try simp only [Act.put, List.setIfInBounds_toArray, List.set_cons_zero, List.set_cons_succ]
              refine takeD (i := 10) (v := ?qv10) 83 rfl rfl (by kernel_rfl) (by kernel_rfl) (by kernel_rfl) (fun _ _ _ h => h) (Or.inl ⟨by rfl, ?qy10⟩) (by assumption) ?qr10
              case qy10 =>
                intro w hSw
                try dsimp only at hSw
                go_simp
                all_goals with_reducible rfl
              try simp only [Act.put, List.setIfInBounds_toArray, List.set_cons_zero, List.set_cons_succ]
              refine takeD (i := 11) (v := ?qv11) 84 rfl rfl (by kernel_rfl) (by kernel_rfl) (by kernel_rfl) (fun _ _ _ h => h) (Or.inl ⟨by rfl, ?qy11⟩) (by assumption) ?qr11
              case qy11 =>
                intro w hSw
                try dsimp only at hSw
                go_simp
                all_goals with_reducible rfl
              try simp only [Act.put, List.setIfInBounds_toArray, List.set_cons_zero, List.set_cons_succ]
              refine takeD (i := 12) (v := ?qv12) 85 rfl rfl (by kernel_rfl) (by kernel_rfl) (by kernel_rfl) (fun _ _ _ h => h) (Or.inl ⟨by rfl, ?qy12⟩) (by assumption) ?qr12
              case qy12 =>
                intro w hSw
                try dsimp only at hSw
                go_simp
                all_goals with_reducible rfl
              try simp only [Act.put, List.setIfInBounds_toArray, List.set_cons_zero, List.set_cons_succ]
              refine takeD (i := 13) (v := ?qv13) 86 rfl rfl (by kernel_rfl) (by kernel_rfl) (by kernel_rfl) (fun _ _ _ h => h) (Or.inl ⟨by rfl, ?qy13⟩) (by assumption) ?qr13
              case qy13 =>
                intro w hSw
                try dsimp only at hSw
                go_simp
                all_goals with_reducible rfl
              try simp only [Act.put, List.setIfInBounds_toArray, List.set_cons_zero, List.set_cons_succ]
              refine takeD (i := 14) (v := ?qv14) 87 rfl rfl (by kernel_rfl) (by kernel_rfl) (by kernel_rfl) (fun _ _ _ h => h) (Or.inl ⟨by rfl, ?qy14⟩) (by assumption) ?qr14
              case qy14 =>
                intro w hSw
                try dsimp only at hSw
                go_simp
                all_goals with_reducible rfl
              try simp only [Act.put, List.setIfInBounds_toArray, List.set_cons_zero, List.set_cons_succ]
              refine takeD (i := 15) (v := ?qv15) 88 rfl rfl (by kernel_rfl) (by kernel_rfl) (by kernel_rfl) (fun _ _ _ h => h) (Or.inl ⟨by rfl, ?qy15⟩) (by assumption) ?qr15
              case qy15 =>
                intro w hSw
                try dsimp only at hSw
                go_simp
                all_goals with_reducible rfl
              try simp only [Act.put, List.setIfInBounds_toArray, List.set_cons_zero, List.set_cons_succ]
              refine takeD (i := 16) (v := ?qv16) 89 rfl rfl (by kernel_rfl) (by kernel_rfl) (by kernel_rfl) (fun _ _ _ h => h) (Or.inl ⟨by rfl, ?qy16⟩) (by assumption) ?qr16
              case qy16 =>
                intro w hSw
                try dsimp only at hSw
                go_simp
                all_goals with_reducible rfl
              try simp only [Act.put, List.setIfInBounds_toArray, List.set_cons_zero, List.set_cons_succ]
              refine takeD (i := 17) (v := ?qv17) 90 rfl rfl (by kernel_rfl) (by kernel_rfl) (by kernel_rfl) (fun _ _ _ h => h) (Or.inl ⟨by rfl, ?qy17⟩) (by assumption) ?qr17
              case qy17 =>
                intro w hSw
                try dsimp only at hSw
                go_simp
                all_goals with_reducible rfl
              try simp only [Act.put, List.setIfInBounds_toArray, List.set_cons_zero, List.set_cons_succ]
              refine takeD (i := 18) (v := ?qv18) 91 rfl rfl (by kernel_rfl) (by kernel_rfl) (by kernel_rfl) (fun _ _ _ h => h) (Or.inl ⟨by rfl, ?qy18⟩) (by assumption) ?qr18
              case qy18 =>
                intro w hSw
                try dsimp only at hSw
                go_simp
                all_goals with_reducible rfl
              try simp only [Act.put, List.setIfInBounds_toArray, List.set_cons_zero, List.set_cons_succ]
              refine takeD (i := 19) (v := ?qv19) 92 rfl rfl (by kernel_rfl) (by kernel_rfl) (by kernel_rfl) (fun _ _ _ h => h) (Or.inl ⟨by rfl, ?qy19⟩) (by assumption) ?qr19
              case qy19 =>
                intro w hSw
                try dsimp only at hSw
                go_simp
                all_goals with_reducible rfl
              try simp only [Act.put, List.setIfInBounds_toArray, List.set_cons_zero, List.set_cons_succ]
              refine takeD (i := 20) (v := ?qv20) 93 rfl rfl (by kernel_rfl) (by kernel_rfl) (by kernel_rfl) (fun _ _ _ h => h) (Or.inl ⟨by rfl, ?qy20⟩) (by assumption) ?qr20
              case qy20 =>
                intro w hSw
                try dsimp only at hSw
                go_simp
                all_goals with_reducible rfl
              try simp only [Act.put, List.setIfInBounds_toArray, List.set_cons_zero, List.set_cons_succ]
              refine takeD (i := 21) (v := ?qv21) 94 rfl rfl (by kernel_rfl) (by kernel_rfl) (by kernel_rfl) (fun _ _ _ h => h) (Or.inl ⟨by rfl, ?qy21⟩) (by assumption) ?qr21
              case qy21 =>
                intro w hSw
                try dsimp only at hSw
                go_simp
                all_goals with_reducible rfl
              try simp only [Act.put, List.setIfInBounds_toArray, List.set_cons_zero, List.set_cons_succ]
              refine takeD (i := 22) (v := ?qv22) 95 rfl rfl (by kernel_rfl) (by kernel_rfl) (by kernel_rfl) (fun _ _ _ h => h) (Or.inl ⟨by rfl, ?qy22⟩) (by assumption) ?qr22
              case qy22 =>
                intro w hSw
                try dsimp only at hSw
                go_simp
                all_goals with_reducible rfl
              try simp only [Act.put, List.setIfInBounds_toArray, List.set_cons_zero, List.set_cons_succ]
              refine takeD (i := 23) (v := ?qv23) 96 rfl rfl (by kernel_rfl) (by kernel_rfl) (by kernel_rfl) (fun _ _ _ h => h) (Or.inl ⟨by rfl, ?qy23⟩) (by assumption) ?qr23
              case qy23 =>
                intro w hSw
                try dsimp only at hSw
                go_simp
                all_goals with_reducible rfl
              try simp only [Act.put, List.setIfInBounds_toArray, List.set_cons_zero, List.set_cons_succ]
              refine takeD (i := 24) (v := ?qv24) 97 rfl rfl (by kernel_rfl) (by kernel_rfl) (by kernel_rfl) (fun _ _ _ h => h) (Or.inl ⟨by rfl, ?qy24⟩) (by assumption) ?qr24
              case qy24 =>
                intro w hSw
                try dsimp only at hSw
                go_simp
                all_goals with_reducible rfl
              try simp only [Act.put, List.setIfInBounds_toArray, List.set_cons_zero, List.set_cons_succ]
              refine takeD (i := 25) (v := ?qv25) 98 rfl rfl (by kernel_rfl) (by kernel_rfl) (by kernel_rfl) (fun _ _ _ h => h) (Or.inl ⟨by rfl, ?qy25⟩) (by assumption) ?qr25
              case qy25 =>
                intro w hSw
                try dsimp only at hSw
                go_simp
                all_goals with_reducible rfl
              try simp only [Act.put, List.setIfInBounds_toArray, List.set_cons_zero, List.set_cons_succ]
              refine takeD (i := 26) (v := ?qv26) 99 rfl rfl (by kernel_rfl) (by kernel_rfl) (by kernel_rfl) (fun _ _ _ h => h) (Or.inl ⟨by rfl, ?qy26⟩) (by assumption) ?qr26
              case qy26 =>
                intro w hSw
                try dsimp only at hSw
                go_simp
                all_goals with_reducible rfl
              try simp only [Act.put, List.setIfInBounds_toArray, List.set_cons_zero, List.set_cons_succ]
              refine takeD (i := 27) (v := ?qv27) 100 rfl rfl (by kernel_rfl) (by kernel_rfl) (by kernel_rfl) (fun _ _ _ h => h) (Or.inl ⟨by rfl, ?qy27⟩) (by assumption) ?qr27
              case qy27 =>
                intro w hSw
                try dsimp only at hSw
                go_simp
                all_goals with_reducible rfl
              try simp only [Act.put, List.setIfInBounds_toArray, List.set_cons_zero, List.set_cons_succ]
              refine takeD (i := 28) (v := ?qv28) 101 rfl rfl (by kernel_rfl) (by kernel_rfl) (by kernel_rfl) (fun _ _ _ h => h) (Or.inl ⟨by rfl, ?qy28⟩) (by assumption) ?qr28
              case qy28 =>
                intro w hSw
                try dsimp only at hSw
                go_simp
                all_goals with_reducible rfl
              try simp only [Act.put, List.setIfInBounds_toArray, List.set_cons_zero, List.set_cons_succ]
              refine takeD (i := 29) (v := ?qv29) 102 rfl rfl (by kernel_rfl) (by kernel_rfl) (by kernel_rfl) (fun _ _ _ h => h) (Or.inl ⟨by rfl, ?qy29⟩) (by assumption) ?qr29
              case qy29 =>
                intro w hSw
                try dsimp only at hSw
                go_simp
                all_goals with_reducible rfl
              try simp only [Act.put, List.setIfInBounds_toArray, List.set_cons_zero, List.set_cons_succ]
              refine takeD (i := 30) (v := ?qv30) 103 rfl rfl (by kernel_rfl) (by kernel_rfl) (by kernel_rfl) (fun _ _ _ h => h) (Or.inl ⟨by rfl, ?qy30⟩) (by assumption) ?qr30
              case qy30 =>
                intro w hSw
                try dsimp only at hSw
                go_simp
                all_goals with_reducible rfl
              try simp only [Act.put, List.setIfInBounds_toArray, List.set_cons_zero, List.set_cons_succ]
              refine takeD (i := 31) (v := ?qv31) 104 rfl rfl (by kernel_rfl) (by kernel_rfl) (by kernel_rfl) (fun _ _ _ h => h) (Or.inl ⟨by rfl, ?qy31⟩) (by assumption) ?qr31
              case qy31 =>
                intro w hSw
                try dsimp only at hSw
                go_simp
                all_goals with_reducible rfl
              try simp only [Act.put, List.setIfInBounds_toArray, List.set_cons_zero, List.set_cons_succ]
              refine takeD (i := 32) (v := ?qv32) 105 rfl rfl (by kernel_rfl) (by kernel_rfl) (by kernel_rfl) (fun _ _ _ h => h) (Or.inl ⟨by rfl, ?qy32⟩) (by assumption) ?qr32
              case qy32 =>
                intro w hSw
                try dsimp only at hSw
                go_simp
                all_goals with_reducible rfl
              try simp only [Act.put, List.setIfInBounds_toArray, List.set_cons_zero, List.set_cons_succ]
              refine takeD (i := 33) (v := ?qv33) 106 rfl rfl (by kernel_rfl) (by kernel_rfl) (by kernel_rfl) (fun _ _ _ h => h) (Or.inl ⟨by rfl, ?qy33⟩) (by assumption) ?qr33
              case qy33 =>
                intro w hSw
                try dsimp only at hSw
                go_simp
                all_goals with_reducible rfl
              try simp only [Act.put, List.setIfInBounds_toArray, List.set_cons_zero, List.set_cons_succ]
              refine takeD (i := 34) (v := ?qv34) 107 rfl rfl (by kernel_rfl) (by kernel_rfl) (by kernel_rfl) (fun _ _ _ h => h) (Or.inl ⟨by rfl, ?qy34⟩) (by assumption) ?qr34
              case qy34 =>
                intro w hSw
                try dsimp only at hSw
                go_simp
                all_goals with_reducible rfl
              try simp only [Act.put, List.setIfInBounds_toArray, List.set_cons_zero, List.set_cons_succ]
              refine takeD (i := 35) (v := ?qv35) 108 rfl rfl (by kernel_rfl) (by kernel_rfl) (by kernel_rfl) (fun _ _ _ h => h) (Or.inl ⟨by rfl, ?qy35⟩) (by assumption) ?qr35
              case qy35 =>
                intro w hSw
                try dsimp only at hSw
                go_simp
                all_goals with_reducible rfl
              try simp only [Act.put, List.setIfInBounds_toArray, List.set_cons_zero, List.set_cons_succ]
              refine takeD (i := 36) (v := ?qv36) 109 rfl rfl (by kernel_rfl) (by kernel_rfl) (by kernel_rfl) (fun _ _ _ h => h) (Or.inl ⟨by rfl, ?qy36⟩) (by assumption) ?qr36
              case qy36 =>
                intro w hSw
                try dsimp only at hSw
                go_simp
                all_goals with_reducible rfl
              try simp only [Act.put, List.setIfInBounds_toArray, List.set_cons_zero, List.set_cons_succ]
              refine takeD (i := 37) (v := ?qv37) 110 rfl rfl (by kernel_rfl) (by kernel_rfl) (by kernel_rfl) (fun _ _ _ h => h) (Or.inl ⟨by rfl, ?qy37⟩) (by assumption) ?qr37
              case qy37 =>
                intro w hSw
                try dsimp only at hSw
                go_simp
                all_goals with_reducible rfl
              try simp only [Act.put, List.setIfInBounds_toArray, List.set_cons_zero, List.set_cons_succ]
              refine takeD (i := 38) (v := ?qv38) 111 rfl rfl (by kernel_rfl) (by kernel_rfl) (by kernel_rfl) (fun _ _ _ h => h) (Or.inl ⟨by rfl, ?qy38⟩) (by assumption) ?qr38
              case qy38 =>
                intro w hSw
                try dsimp only at hSw
                go_simp
                all_goals with_reducible rfl
              try simp only [Act.put, List.setIfInBounds_toArray, List.set_cons_zero, List.set_cons_succ]
              refine takeD (i := 39) (v := ?qv39) 112 rfl rfl (by kernel_rfl) (by kernel_rfl) (by kernel_rfl) (fun _ _ _ h => h) (Or.inl ⟨by rfl, ?qy39⟩) (by assumption) ?qr39
              case qy39 =>
                intro w hSw
                try dsimp only at hSw
                go_simp
                all_goals with_reducible rfl
              try simp only [Act.put, List.setIfInBounds_toArray, List.set_cons_zero, List.set_cons_succ]
              refine takeD (i := 40) (v := ?qv40) 113 rfl rfl (by kernel_rfl) (by kernel_rfl) (by kernel_rfl) (fun _ _ _ h => h) (Or.inl ⟨by rfl, ?qy40⟩) (by assumption) ?qr40
              case qy40 =>
                intro w hSw
                try dsimp only at hSw
                go_simp
                all_goals with_reducible rfl
              try simp only [Act.put, List.setIfInBounds_toArray, List.set_cons_zero, List.set_cons_succ]
              refine takeD (i := 41) (v := ?qv41) 114 rfl rfl (by kernel_rfl) (by kernel_rfl) (by kernel_rfl) (fun _ _ _ h => h) (Or.inl ⟨by rfl, ?qy41⟩) (by assumption) ?qr41
              case qy41 =>
                intro w hSw
                try dsimp only at hSw
                go_simp
                all_goals with_reducible rfl
              try simp only [Act.put, List.setIfInBounds_toArray, List.set_cons_zero, List.set_cons_succ]
              refine takeD (i := 42) (v := ?qv42) 115 rfl rfl (by kernel_rfl) (by kernel_rfl) (by kernel_rfl) (fun _ _ _ h => h) (Or.inl ⟨by rfl, ?qy42⟩) (by assumption) ?qr42
              case qy42 =>
                intro w hSw
                try dsimp only at hSw
                go_simp
                all_goals with_reducible rfl
              try simp only [Act.put, List.setIfInBounds_toArray, List.set_cons_zero, List.set_cons_succ]
              refine takeD (i := 43) (v := ?qv43) 116 rfl rfl (by kernel_rfl) (by kernel_rfl) (by kernel_rfl) (fun _ _ _ h => h) (Or.inl ⟨by rfl, ?qy43⟩) (by assumption) ?qr43
              case qy43 =>
                intro w hSw
                try dsimp only at hSw
                go_simp
                all_goals with_reducible rfl
              try simp only [Act.put, List.setIfInBounds_toArray, List.set_cons_zero, List.set_cons_succ]
              refine takeD (i := 44) (v := ?qv44) 117 rfl rfl (by kernel_rfl) (by kernel_rfl) (by kernel_rfl) (fun _ _ _ h => h) (Or.inl ⟨by rfl, ?qy44⟩) (by assumption) ?qr44
              case qy44 =>
                intro w hSw
                try dsimp only at hSw
                go_simp
                all_goals with_reducible rfl
              try simp only [Act.put, List.setIfInBounds_toArray, List.set_cons_zero, List.set_cons_succ]
              refine wpAnyH_ready (rs := [45]) (by kernel_rfl) (by simp) ?_
              refine AllReadyH.cons rfl (fun K hK => ?_) AllReadyH.nil
              go_simp
              (go_at_call 22; refine kr.mono ?_; rintro e wA ⟨rfl, sA⟩)
              refine hK.out _ _ ?qS45 (fun hHeld => ?_)
              case qS45 => exact HAT.out _ _ sA.out
              clear hK K
              try simp only [Act.put, List.getElem_toArray, List.getElem_cons_succ, List.getElem_cons_zero, List.setIfInBounds_toArray, List.set_cons_zero, List.set_cons_succ]
              refine takeD (i := 46) (v := ?qv46) 119 rfl rfl (by kernel_rfl) (by kernel_rfl) (by kernel_rfl) (fun _ _ _ h => h) (Or.inl ⟨by rfl, ?qy46⟩) (by assumption) ?qr46
              case qy46 =>
                intro w hSw
                try dsimp only at hSw
                go_simp
                all_goals with_reducible rfl
              try simp only [Act.put, List.setIfInBounds_toArray, List.set_cons_zero, List.set_cons_succ]
              refine takeD (i := 47) (v := ?qv47) 120 rfl rfl (by kernel_rfl) (by kernel_rfl) (by kernel_rfl) (fun _ _ _ h => h) (Or.inl ⟨by rfl, ?qy47⟩) (by assumption) ?qr47
              case qy47 =>
                intro w hSw
                try dsimp only at hSw
                go_simp
                all_goals with_reducible rfl
              try simp only [Act.put, List.setIfInBounds_toArray, List.set_cons_zero, List.set_cons_succ]
              refine takeD (i := 48) (v := ?qv48) 121 rfl rfl (by kernel_rfl) (by kernel_rfl) (by kernel_rfl) (fun _ _ _ h => h) (Or.inl ⟨by rfl, ?qy48⟩) (by assumption) ?qr48
              case qy48 =>
                intro w hSw
                try dsimp only at hSw
                go_simp
                all_goals with_reducible rfl
              try simp only [Act.put, List.setIfInBounds_toArray, List.set_cons_zero, List.set_cons_succ]
              refine takeD (i := 49) (v := ?qv49) 122 rfl rfl (by kernel_rfl) (by kernel_rfl) (by kernel_rfl) (fun _ _ _ h => h) (Or.inl ⟨by rfl, ?qy49⟩) (by assumption) ?qr49
              case qy49 =>
                intro w hSw
                try dsimp only at hSw
                go_simp
                all_goals with_reducible rfl
              try simp only [Act.put, List.setIfInBounds_toArray, List.set_cons_zero, List.set_cons_succ]
              refine takeD (i := 50) (v := ?qv50) 123 rfl rfl (by kernel_rfl) (by kernel_rfl) (by kernel_rfl) (fun _ _ _ h => h) (Or.inl ⟨by rfl, ?qy50⟩) (by assumption) ?qr50
              case qy50 =>
                intro w hSw
                try dsimp only at hSw
                go_simp
                all_goals with_reducible rfl
              try simp only [Act.put, List.setIfInBounds_toArray, List.set_cons_zero, List.set_cons_succ]
              refine takeD (i := 51) (v := ?qv51) 124 rfl rfl (by kernel_rfl) (by kernel_rfl) (by kernel_rfl) (fun _ _ _ h => h) (Or.inl ⟨by rfl, ?qy51⟩) (by assumption) ?qr51
              case qy51 =>
                intro w hSw
                try dsimp only at hSw
                go_simp
                all_goals with_reducible rfl
              try simp only [Act.put, List.setIfInBounds_toArray, List.set_cons_zero, List.set_cons_succ]
              refine takeD (i := 52) (v := ?qv52) 125 rfl rfl (by kernel_rfl) (by kernel_rfl) (by kernel_rfl) (fun _ _ _ h => h) (Or.inl ⟨by rfl, ?qy52⟩) (by assumption) ?qr52
              case qy52 =>
                intro w hSw
                try dsimp only at hSw
                go_simp
                all_goals with_reducible rfl
              try simp only [Act.put, List.setIfInBounds_toArray, List.set_cons_zero, List.set_cons_succ]
              refine takeD (i := 53) (v := ?qv53) 126 rfl rfl (by kernel_rfl) (by kernel_rfl) (by kernel_rfl) (fun _ _ _ h => h) (Or.inl ⟨by rfl, ?qy53⟩) (by assumption) ?qr53
              case qy53 =>
                intro w hSw
                try dsimp only at hSw
                go_simp
                all_goals with_reducible rfl
              try simp only [Act.put, List.setIfInBounds_toArray, List.set_cons_zero, List.set_cons_succ]
              refine takeD (i := 54) (v := ?qv54) 127 rfl rfl (by kernel_rfl) (by kernel_rfl) (by kernel_rfl) (fun _ _ _ h => h) (Or.inl ⟨by rfl, ?qy54⟩) (by assumption) ?qr54
              case qy54 =>
                intro w hSw
                try dsimp only at hSw
                go_simp
                all_goals with_reducible rfl
              try simp only [Act.put, List.setIfInBounds_toArray, List.set_cons_zero, List.set_cons_succ]
              refine takeD (i := 55) (v := ?qv55) 128 rfl rfl (by kernel_rfl) (by kernel_rfl) (by kernel_rfl) (fun _ _ _ h => h) (Or.inl ⟨by rfl, ?qy55⟩) (by assumption) ?qr55
              case qy55 =>
                intro w hSw
                try dsimp only at hSw
                go_simp
                all_goals with_reducible rfl
              try simp only [Act.put, List.setIfInBounds_toArray, List.set_cons_zero, List.set_cons_succ]
              refine takeD (i := 56) (v := ?qv56) 129 rfl rfl (by kernel_rfl) (by kernel_rfl) (by kernel_rfl) (fun _ _ _ h => h) (Or.inl ⟨by rfl, ?qy56⟩) (by assumption) ?qr56
              case qy56 =>
                intro w hSw
                try dsimp only at hSw
                go_simp
                all_goals with_reducible rfl
              try simp only [Act.put, List.setIfInBounds_toArray, List.set_cons_zero, List.set_cons_succ]
              refine takeD (i := 57) (v := ?qv57) 130 rfl rfl (by kernel_rfl) (by kernel_rfl) (by kernel_rfl) (fun _ _ _ h => h) (Or.inl ⟨by rfl, ?qy57⟩) (by assumption) ?qr57
              case qy57 =>
                intro w hSw
                try dsimp only at hSw
                go_simp
                all_goals with_reducible rfl
              try simp only [Act.put, List.setIfInBounds_toArray, List.set_cons_zero, List.set_cons_succ]
              refine takeD (i := 58) (v := ?qv58) 131 rfl rfl (by kernel_rfl) (by kernel_rfl) (by kernel_rfl) (fun _ _ _ h => h) (Or.inl ⟨by rfl, ?qy58⟩) (by assumption) ?qr58
              case qy58 =>
                intro w hSw
                try dsimp only at hSw
                go_simp
                all_goals with_reducible rfl
              try simp only [Act.put, List.setIfInBounds_toArray, List.set_cons_zero, List.set_cons_succ]
              refine takeD (i := 59) (v := ?qv59) 132 rfl rfl (by kernel_rfl) (by kernel_rfl) (by kernel_rfl) (fun _ _ _ h => h) (Or.inl ⟨by rfl, ?qy59⟩) (by assumption) ?qr59
              case qy59 =>
                intro w hSw
                try dsimp only at hSw
                go_simp
                all_goals with_reducible rfl
              try simp only [Act.put, List.setIfInBounds_toArray, List.set_cons_zero, List.set_cons_succ]
              refine takeD (i := 60) (v := ?qv60) 133 rfl rfl (by kernel_rfl) (by kernel_rfl) (by kernel_rfl) (fun _ _ _ h => h) (Or.inl ⟨by rfl, ?qy60⟩) (by assumption) ?qr60
              case qy60 =>
                intro w hSw
                try dsimp only at hSw
                go_simp
                all_goals with_reducible rfl
              try simp only [Act.put, List.setIfInBounds_toArray, List.set_cons_zero, List.set_cons_succ]
              refine takeD (i := 61) (v := ?qv61) 134 rfl rfl (by kernel_rfl) (by kernel_rfl) (by kernel_rfl) (fun _ _ _ h => h) (Or.inl ⟨by rfl, ?qy61⟩) (by assumption) ?qr61
              case qy61 =>
                intro w hSw
                try dsimp only at hSw
                go_simp
                all_goals with_reducible rfl
              try simp only [Act.put, List.setIfInBounds_toArray, List.set_cons_zero, List.set_cons_succ]
              refine takeD (i := 62) (v := ?qv62) 135 rfl rfl (by kernel_rfl) (by kernel_rfl) (by kernel_rfl) (fun _ _ _ h => h) (Or.inl ⟨by rfl, ?qy62⟩) (by assumption) ?qr62
              case qy62 =>
                intro w hSw
                try dsimp only at hSw
                go_simp
                all_goals with_reducible rfl
              try simp only [Act.put, List.setIfInBounds_toArray, List.set_cons_zero, List.set_cons_succ]
              refine wpAnyH_done (by kernel_rfl) ?_ _
              refine NoPanic.normal ?_
              go_wp2
              go_meet
              exact ⟨rfl, sA⟩
        case rest =>
          obtain ⟨hz, sB⟩ := hcut
          subst hz
          obtain ⟨q0, q1, q2, q3, q4⟩ := HAT.out _ _ sB.out
          have c2 := sB.out.cell u (by omega)
          have f2 := sB.out.fro u
          have sC := hide_it (sB.out.set u _ HST.out)
          have hx64 : (u : Int) < 64 := by omega
          have hx64b : ¬ ((64 : Int) ≤ (u : Int)) := by omega
          clear kr HAT HPR sA
          go_wp2
          go_roundw
          case rel => exact ⟨k + 1, by omega, by go_num, sC⟩
          case measure => simp [intOf]; omega
      · have ek : k = l := by omega
        subst ek
        go_wp2
        go_loopw [18] (fun i W' => ∃ t : Nat, t ≤ N ∧ i = .int .i64 t ∧ Hid (AX B W W' g eb N es2 [(.slice (some ⟨b2, 0, none⟩) N N, is), (.slice ua k uc, zs U), (.slice (some ⟨b1, 0, none⟩) N N, was)] sb (bRow (fun i => decide (i ∈ U.take (k)))))) (fun i _ => N - (intOf i).toNat)
        case atStart => exact ⟨0, Nat.zero_le _, rfl, sA⟩
        case round =>
          obtain ⟨t, ht, rfl, sB⟩ := hrel
          obtain ⟨w9, rfl⟩ : ∃ w', w' = wr := ⟨_, rfl⟩
          clear sA
          by_cases htn : t < N
          · have hw := HW.out.wl
            have hi := HW.out.il
            obtain ⟨h1, h2⟩ := HW.out.in_ t (by omega) (by omega)
            obtain ⟨q1, e1, _, c1⟩ := (sB.out.row (u := .slice (some ⟨b2, 0, none⟩) N N) (L := is) (by simp)).at t (by omega)
            obtain ⟨q2, e2, _, c2⟩ := (sB.out.row (u := .slice (some ⟨b1, 0, none⟩) N N) (L := was) (by simp)).at t (by omega)
            cases e1
            cases e2
            have c3 := sB.out.cell t (by omega)
            rw [List.take_of_length_le (by rw [HL.out]; exact Nat.le_refl _)] at c3
            have e3 : decide (t ∈ U) = decide (was[t] < is[t]) := by rw [Bool.eq_iff_iff]; simpa using h1
            rw [e3] at c3
            clear h1 e3
            generalize was[t] = pt at *
            generalize is[t] = rt at *
            clear hw hi
            have ht64 : decide ((t : Int) < 64) = true := by simp; omega
            have ht64c : ¬ ((64 : Int) ≤ (t : Int)) := by omega
            have ht64d : (t : Int) < 64 := by omega
            have htI : (t : Int) < N := by omega
            have hd3 : decide (rt < pt) = false := by simp; omega
            cases hd : decide (pt < rt) with
            | true =>
              rw [hd] at c3
              go_wp2
              go_big_quiet (fail)
              go_wp2
              go_roundw
              case rel => exact ⟨t + 1, by omega, by go_num, sB.out.drewN _⟩
              case measure => simp [intOf]; omega
            | false =>
              rw [hd] at c3
              go_wp2
              go_big_quiet (fail)
              go_wp2
              go_roundw
              case rel => exact ⟨t + 1, by omega, by go_num, sB.out.drewN _⟩
              case measure => simp [intOf]; omega
          · go_wp2
            go_ret
            exact ⟨rfl, HBW.out _ sB.out.px.bel⟩
end Go.Proofs.YtmeeimfjibcncaaDoor
