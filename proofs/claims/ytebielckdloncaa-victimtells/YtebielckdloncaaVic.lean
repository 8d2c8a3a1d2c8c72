/- The victims, by their places. -/
import Derived.Test.YtebielckdloncaaSor
import Derived.Test.YtebielckdloncaaMay
namespace Go.Proofs.Ytebielckdloncaa
open Go.Shelf Go.RowKit Go.Lib
open M
set_option linter.unusedVariables false
set_option linter.unusedSimpArgs false

set_option maxRecDepth 100000 in
set_option maxHeartbeats 2000000 in
theorem insertion_none (p : Option Addr) (cap : Nat) (fv : Value) (w : World) : Calls Try.prog 26 #[.slice p 0 cap, .int .i64 0, .int .i64 0, fv] w fun e w' => e = .returned (.tuple #[]) ∧ w' = w := by
  go_enter Try.func26, Try.ntmps26
  go_wp2
  refine wp_loop_rounds 1 ?_
  rw [rounds_succ]
  go_wp2
  go_end0
  exact ⟨rfl, rfl⟩
set_option maxRecDepth 100000 in
set_option maxHeartbeats 2000000 in
theorem pdq_none (p : Option Addr) (cap : Nat) (lim : Int) (fv : Value) (w : World) : Calls Try.prog 22 #[.slice p 0 cap, .int .i64 0, .int .i64 0, .int .i64 lim, fv] w fun e w' => e = .returned (.tuple #[]) ∧ w' = w := by
  have k := fun W => insertion_none p cap fv W
  go_enter Try.func22, Try.ntmps22
  go_wp2
  refine wp_loop_rounds 1 ?_
  rw [rounds_succ]
  go_wp2_with (go_at_call 26; refine (k _).mono ?_; rintro e w' ⟨rfl, rfl⟩)
  (try simp only [Exit.inBlock, Exit.then]); refine bodyPost_ret (results_none rfl _ _ _) rfl ?_
  exact ⟨rfl, rfl⟩
set_option maxRecDepth 100000 in
set_option maxHeartbeats 2000000 in
theorem sort_none (p : Option Addr) (cap : Nat) (fv : Value) (w : World) : Calls Try.prog 20 #[.slice p 0 cap, fv] w fun e w' => e = .returned (.tuple #[]) ∧ w' = w := by
  have k := fun lim W => pdq_none p cap lim fv W
  have hLen : ∀ W, Calls Try.prog 23 #[.int .u64 0] W fun e w' => e = .returned (.int .i64 (Lib.bitLen 0 : Nat)) ∧ w' = W := fun W => by
    have h := Any.bits_Len (SlLaysF0.n15.bits Try.lenL) 0 W (by omega) (by omega)
    exact h
  go_enter Try.func20, Try.ntmps20
  go_wp2_with (first | (go_at_call 23; refine (hLen _).mono ?_; rintro e w' ⟨rfl, rfl⟩) | (go_at_call 22; refine (k _ _).mono ?_; rintro e w' ⟨rfl, rfl⟩))
  go_end0
  exact ⟨rfl, rfl⟩

/-- The victims among the first k, as they stand. -/
def Fk (l : List R) (pr mo : Int) (k : Nat) : List Nat := (List.range k).filter (fun i => mayB pr mo (at' l i))
theorem Fk_succ (l : List R) (pr mo : Int) (k : Nat) : Fk l pr mo (k + 1) = if mayB pr mo (at' l k) = true then Fk l pr mo k ++ [k] else Fk l pr mo k := by
  unfold Fk
  rw [List.range_succ, List.filter_append]
  cases h : mayB pr mo (at' l k) <;> simp [h]
theorem Fk_le (l : List R) (pr mo : Int) {k : Nat} (h : k ≤ l.length) : (Fk l pr mo k).length ≤ (vics l pr mo).length := by
  unfold vics Fk
  rw [List.length_mergeSort]
  refine List.Sublist.length_le (List.Sublist.filter _ ?_)
  obtain ⟨j, hj⟩ : ∃ j, l.length = k + j := ⟨l.length - k, by omega⟩
  rw [hj, List.range_add]
  exact List.sublist_append_left _ _
theorem Fk_all (l : List R) (pr mo : Int) : (Fk l pr mo l.length).length = (vics l pr mo).length := by unfold vics Fk; rw [List.length_mergeSort]
theorem Fk_mem {l : List R} {pr mo : Int} {k i : Nat} : i ∈ Fk l pr mo k ↔ i < k ∧ mayB pr mo (at' l i) = true := by unfold Fk; simp
theorem Fk_nodup (l : List R) (pr mo : Int) (k : Nat) : (Fk l pr mo k).Nodup := List.nodup_range.sublist List.filter_sublist

set_option maxRecDepth 1000000 in
set_option maxHeartbeats 8000000 in
theorem victims_any (l : List R) (la : Option Addr) (n cap : Nat) (pr mo : Int) (w : World) (hl : l.length = n) (hn : n ≤ 1000000) (hR : RunsIn w la l) (h49 : (vics l pr mo).length < 50) :
    Calls Try.prog 15 #[clV la n cap pr mo] w fun e w' => ∃ ao c m, e = .returned (.slice ao m c) ∧ Hid (m = (vics l pr mo).length ∧ Below w.heap.size w w' ∧ w'.ownsRow w.heap.size 3 1 (.slice ao m c) m (ints ((vics l pr mo).map Int.ofNat))) := by
  obtain ⟨i0, hi, hz0, hz1, hz2⟩ := info_parts info3
  have hmf : ∀ (fn : Fn) (first cap : Array Value) (w : World), (Instr.makeFunc fn first cap).run Try.prog w = .ok (.func fn first cap) w := fun _ _ _ _ => rfl
  have HL : Hid (l.length = n) := hl
  have HV : Hid ((vics l pr mo).length < 50) := h49
  have hB0 : Below w.heap.size w (w.alloc (.cells #[.slice la n cap, .int .i64 pr, .int .i64 mo] 42)) := (Below.refl _ _).alloc (Nat.le_refl _) _
  have HR : Hid (RunsIn (w.alloc (.cells #[.slice la n cap, .int .i64 pr, .int .i64 mo] 42)) la l) := hR.below hB0
  have HB0 : Hid (Below w.heap.size w (w.alloc (.cells #[.slice la n cap, .int .i64 pr, .int .i64 mo] 42))) := hB0
  have HQ : ∀ cb, cb = w.heap.size → ((w.alloc (.cells #[.slice la n cap, .int .i64 pr, .int .i64 mo] 42)).cell? ⟨cb, 0, none⟩ = some (.slice la n cap) ∧ (w.alloc (.cells #[.slice la n cap, .int .i64 pr, .int .i64 mo] 42)).cell? ⟨cb, 1, none⟩ = some (.int .i64 pr) ∧ (w.alloc (.cells #[.slice la n cap, .int .i64 pr, .int .i64 mo] 42)).cell? ⟨cb, 2, none⟩ = some (.int .i64 mo)) ∧ cb < (w.alloc (.cells #[.slice la n cap, .int .i64 pr, .int .i64 mo] 42)).heap.size ∧ cb = w.heap.size := by
    rintro _ rfl; exact ⟨⟨by simp, by simp, by simp⟩, by simp, rfl⟩
  have HQ' : Hid _ := HQ _ rfl
  have HRB : Hid (∀ b o, la = some ⟨b, o, none⟩ → 0 < n → b < w.heap.size) := fun b o e h0 => by
    obtain ⟨b', o', e', hb', _⟩ := hR 0 (by omega)
    rw [e] at e'; cases e'; exact hb'
  clear HQ hB0 hR hl h49
  unfold clV
  go_enter Try.func15, Try.ntmps15
  go_upto_block 0 with fail
  generalize hcb : w.heap.size = cb at *
  generalize hw1 : w.alloc (.cells #[.slice la n cap, .int .i64 pr, .int .i64 mo] 42) = w1 at *
  have HC : Hid (w.heap.size = cb) := hcb
  obtain ⟨⟨q0, q1, q2⟩, hcs, _⟩ := HQ'.out
  have HCS : Hid (cb < w1.heap.size) := hcs
  clear HQ' hw1 hcb hcs
  go_wp2_with fail
  go_loopw [3, 8] (fun p i W => ∃ (k m c : Nat) (ao : Option Addr), k ≤ n ∧ i = .int .i64 k ∧ p = .slice ao m c ∧ Hid (Below w1.heap.size w1 W) ∧ Hid (m = (Fk l pr mo k).length ∧ W.ownsRow w1.heap.size 3 1 (.slice ao m c) m (ints ((Fk l pr mo k).map Int.ofNat)))) (fun _ i _ => n - (intOf i).toNat)
  case atStart => exact ⟨0, 0, 0, none, Nat.zero_le _, rfl, rfl, Below.refl _ _, rfl, World.ownsRow_nil _ _ _ _⟩
  case round =>
    obtain ⟨k, m, c, ao, hk, rfl, rfl, HB, HO⟩ := hrel
    have c0 := (HB.out.cell (p := ⟨cb, 0, none⟩) HCS.out).trans q0
    have c1 := (HB.out.cell (p := ⟨cb, 1, none⟩) HCS.out).trans q1
    have c2 := (HB.out.cell (p := ⟨cb, 2, none⟩) HCS.out).trans q2
    by_cases hlt : k < n
    · have kM := may_any l la n cap k pr mo wr HL.out (HR.out.below HB.out) hlt hn
      have HF := hide_it (Fk_succ l pr mo k)
      have HLE : Hid ((Fk l pr mo k).length ≤ (vics l pr mo).length) := Fk_le l pr mo (by have := HL.out; omega)
      cases hm : mayB pr mo (at' l k) with
      | false =>
        rw [hm] at kM
        have HF2 : Hid (Fk l pr mo (k + 1) = Fk l pr mo k) := HF.out.trans (by rw [hm]; rfl)
        clear HF hm
        go_wp2_with (go_at_call 19; refine kM.mono ?_; rintro e w2 ⟨rfl, hb2⟩; have HB2 := hide_it hb2; clear hb2)
        go_roundw
        case rel => exact ⟨k + 1, m, c, ao, by omega, by go_num, rfl, HB.out.trans (HB2.out.mono HB.out.size), by rw [HF2.out]; exact HO.out.1, by rw [HF2.out]; exact owns_below HO.out.2 HB2.out⟩
        case measure => simp [intOf]; omega
      | true =>
        rw [hm] at kM
        have HF2 : Hid (Fk l pr mo (k + 1) = Fk l pr mo k ++ [k]) := HF.out.trans (by rw [hm]; rfl)
        clear HF hm
        go_wp2_with (first | (go_at_call 19; refine kM.mono ?_; rintro e w2 ⟨rfl, hb2⟩; have HB2 := hide_it hb2; clear hb2) | (at_builtin; refine wpList_cat rfl (.tmp 14) (.tmp 16) rfl (L := (Fk l pr mo k).map Int.ofNat) (by rw [List.length_map, ← HO.out.1]; exact owns_below (owns_below HO.out.2 HB2.out) ((Below.refl _ _).alloc (Nat.le_refl _) _)) (rd_one rfl _) (by have := HLE.out; have := HV.out; simp; omega) rfl rfl (by have := HB.out.size; have := HB2.out.size; simp; omega) ?_; intro ao' c' m' w3 HA))
        go_roundw
        case rel =>
          have hsz := (HB.out.trans (HB2.out.mono HB.out.size)).size
          refine ⟨k + 1, m', c', ao', by omega, by go_num, rfl, ?_, ?_, ?_⟩
          · exact ((HB.out.trans (HB2.out.mono HB.out.size)).alloc hsz _).grown HA.out.2.2.1 (by simp; omega) (fun q hq => (HO.out.2.lt q hq).1)
          · rw [HF2.out, HA.out.1]; simp
          · rw [HF2.out, List.map_append]; exact HA.out.2.1
        case measure => simp [intOf]; omega
    · obtain rfl : k = n := by omega
      obtain ⟨hm, ho⟩ := HO.out
      have hD : ∀ p ∈ Fk l pr mo k, p < k := fun p hp => (Fk_mem.1 hp).1
      have HE : Hid ((Fk l pr mo k).length = (vics l pr mo).length) := by have := Fk_all l pr mo; rw [HL.out] at this; exact this
      by_cases h0 : m = 0
      · subst h0
        have kS := fun W => sort_none ao c (.func (.func 21) #[.agg #[.slice la k cap, .int .i64 pr, .int .i64 mo]] #[]) W
        have hv : vics l pr mo = [] := List.eq_nil_of_length_eq_zero (by rw [← HE.out, ← hm])
        have HV0 : Hid (vics l pr mo = []) := hv
        have HO2 : Hid (wr.ownsRow w1.heap.size 3 1 (.slice ao 0 c) 0 (ints (((vics l pr mo)).map Int.ofNat))) := by
          rw [hv]; rw [List.eq_nil_of_length_eq_zero (l := Fk l pr mo k) hm.symm] at ho; exact ho
        clear hm ho HO hv
        go_wp2_with (go_at_call 20; refine (kS _).mono ?_; rintro e w2 ⟨rfl, rfl⟩)
        go_ret
        rw [HC.out]
        refine ⟨ao, c, 0, rfl, (by rw [HV0.out]; rfl), HB0.out.trans (HB.out.mono (by have := HCS.out; have := HC.out; omega)), owns_base HO2.out (fun q hq => ?_)⟩
        have := (HO2.out.lt q hq).1
        have := HCS.out; have := HC.out; omega
      · rcases ho.2 with ⟨e, _⟩ | ⟨g, cc, cur, e, hgb, hgh, _⟩
        · cases e; exact absurd rfl h0
        · cases e
          have hge : ∀ b o, la = some ⟨b, o, none⟩ → b ≠ g := fun b o e => by
            have h1 : 0 < k := by
              rcases Nat.eq_zero_or_pos k with z | z
              · subst z; simp [Fk] at hm; exact absurd hm h0
              · exact z
            have := HRB.out b o e h1
            have := HCS.out; have := HC.out
            omega
          have kS := sort_any l la k cap pr mo (Fk l pr mo k) g c m wr HL.out hn (HR.out.below HB.out) hge hD (Fk_nodup l pr mo k) hm.symm (by omega) (by have := HV.out; have := HE.out; omega) (owns_base ho (fun q _ => Nat.zero_le _))
          have HG : Hid (w1.heap.size ≤ g ∧ g < wr.heap.size) := ⟨hgb, block_lt hgh⟩
          have HM : Hid (m = (vics l pr mo).length) := hm.trans HE.out
          clear hm ho HO hgb hgh hge
          go_wp2_with (go_at_call 20; refine kS.mono ?_; rintro e w2 ⟨rfl, S, hp, hpw, ht, ho2⟩)
          go_ret
          have hS : S = vics l pr mo := Vic.eq ⟨fun i => by rw [hp.mem_iff, Fk_mem, HL.out], hpw⟩
          have hB2 : Below w1.heap.size wr w2 := ht.below HB.out.size (fun q hq => by subst hq; exact HG.out.1)
          rw [HC.out]
          refine ⟨_, c, m, rfl, HM.out, HB0.out.trans ((HB.out.trans hB2).mono (by have := HCS.out; have := HC.out; omega)), ?_⟩
          rw [← hS]
          refine owns_base ho2 (fun q hq => ?_)
          simp [Value.ownBlock] at hq
          have := HG.out.1; have := HCS.out; have := HC.out
          omega
end Go.Proofs.Ytebielckdloncaa
