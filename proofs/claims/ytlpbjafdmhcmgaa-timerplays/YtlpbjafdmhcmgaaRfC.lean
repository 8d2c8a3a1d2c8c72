/- The document's own timer: Set. -/
import Derived.Test.YtlpbjafdmhcmgaaRfB
import Derived.Deep.RegionLaw
import Derived.Deep.RegionHeld3
import Derived.Deep.CutRange
import Derived.Deep.CutBlock
namespace Go.Proofs.Ytlpbjafdmhcmgaa
open Go.RowKit
open M
set_option linter.unusedVariables false
set_option linter.unusedSimpArgs false

/-- By time, of one time by id. -/
def ltI (p q : It) : Prop := p.2 < q.2 ∨ (p.2 = q.2 ∧ p.1 < q.1)
instance (p q : It) : Decidable (ltI p q) := by unfold ltI; exact inferInstance
/-- Where it is laid in. -/
def posL : List It → It → Nat
  | [], _ => 0
  | p :: r, it => if ltI p it then posL r it + 1 else 0
theorem posL_le (X : List It) (it : It) : posL X it ≤ X.length := by
  induction X with
  | nil => exact Nat.le_refl _
  | cons p r ih => unfold posL; split <;> simp <;> omega
theorem posL_lt (X : List It) (it : It) : ∀ i p, i < posL X it → X[i]? = some p → ltI p it := by
  induction X with
  | nil => intro i p hi; simp [posL] at hi
  | cons q r ih =>
    intro i p hi hp
    unfold posL at hi
    split at hi
    · next hq =>
      cases i with
      | zero => simp at hp; subst hp; exact hq
      | succ i => exact ih i p (by omega) (by simpa using hp)
    · omega
theorem posL_at (X : List It) (it : It) : ∀ p, X[posL X it]? = some p → ¬ ltI p it := by
  induction X with
  | nil => intro p hp; simp at hp
  | cons q r ih =>
    intro p hp
    unfold posL at hp
    split at hp
    · exact ih p (by simpa using hp)
    · next hq => simp at hp; subst hp; exact hq
def insL (X : List It) (it : It) : List It := X.take (posL X it) ++ [it] ++ X.drop (posL X it)

section
variable {P : Program} (w : World)
theorem step_append_tell {ops : Array Oper} {o : Oper} {a : Act} {K : Act → World → Prop} {Q : Exit → Act → World → Prop} {E : Prop} (hgd : o.guard = none) (s x : Operand) (t : TypeId)
    (ho : o.op = .call { callee := .builtin .append, args := #[s, x], argTypes := #[t, t] })
    (base : Nat) (e : TypeId) (i : TypeInfo) (z : Value) (size bytes : Nat) (ht : P.underlying t = some (.slice e)) (hi : P.info? e = some i) (hz : i.zero = some z)
    (hsize : i.size = size) (hby : i.bytes = bytes) (hzs : z.cells.size = size) (hsz : 0 < size)
    (v : Value) (n : Nat) (xs : List Value) (hs : a.eval s = v) (hown : w.ownsRow base e size v n xs)
    (ad : Addr) (m c : Nat) (news : List Value) (hx : a.eval x = .slice (some ad) m c) (hl : news.length = m * size) (hnews : ∀ j u, news[j]? = some u → w.cell? (ad.add j) = some u) (h1 : ∀ u ∈ news, u.oneCell' = true)
    (h63 : n + m ≤ maxLen) (hbytes : (n + m) * bytes ≤ 140737488355328) (hbase : base ≤ w.heap.size)
    (h : ∀ v' w', w'.ownsRow base e size v' (n + m) (xs ++ news) → w.grownBy w' v.ownBlock → K (a.put o.dst v') w') :
    if Region.wanted o (yielded ops a.tmps) = true then Oper.wp P o a w K Q else E := by
  have hw : Region.wanted o (yielded ops a.tmps) = true := by simp [Region.wanted, hgd]
  rw [if_pos hw]
  obtain ⟨v', w', hr, h2, h3, h4⟩ := run_append_tell (P := P) w base t o.type e i z size bytes ht hi hz hsize hby hzs hsz v n xs hown ad m c news hl hnews h1 h63 hbytes hbase
  unfold Oper.wp execOp
  simp only [ho, resolve, invoke, builtin, Sem.run_bind, Sem.run_pure, Result.andThen_ok, List.map_toArray, List.map_cons, List.map_nil, hs, hx, hr]
  exact h v' w' h2 h3
end
theorem min_run2 (n : Int) (ts : Array TypeId) (t : TypeId) (W : World) : (Builtin.min_ ts t #[.int .i64 n, .int .i64 65536]).run Try.prog W = .ok (.int .i64 (min n 65536)) W := by
  rw [run_min_int2]
  congr 2
  split <;> omega

set_option maxRecDepth 1000000 in
set_option maxHeartbeats 2000000 in
theorem rset_bad {w : World} {rb : Nat} {n : Int} {v : Value} {L : List It} (h : RM w rb n v L) (id y : Int) (hid : isId (hsz n) id = false) :
    Calls Try.prog 13 #[ptr rb, .int .i64 id, .int .i64 y] w fun e w' => e = .returned (.int .i64 1) ∧ w' = w := by
  have q0 := h.c0
  clear h
  have hm := min_run2 n
  have hb : ¬ (0 ≤ id ∧ id < min n 65536) := fun q => by
    have : isId (hsz n) id = true := by unfold isId hsz; simp; omega
    rw [this] at hid; cases hid
  clear hid
  by_cases h0 : id < 0
  · have d : decide (id < 0) = true := decide_eq_true h0
    go_enter Try.func13, Try.ntmps13
    go_wp2
    go_ret
    exact ⟨rfl, rfl⟩
  · have d : decide (id < 0) = false := decide_eq_false h0
    have d2 : decide (min n 65536 ≤ id) = true := decide_eq_true (by omega)
    generalize min n 65536 = x at *
    go_enter Try.func13, Try.ntmps13
    go_wp2
    go_ret
    exact ⟨rfl, rfl⟩

theorem lit_keep {W w2 : World} {r : Nat} {o : Obj} {row : Option Nat} (h : W.heap[r]? = some o) (hg : W.grownBy w2 row) (hr : row ≠ some r) : w2.heap[r]? = some o := by
  rw [hg.block r (block_lt h) (fun e => hr e.symm)]; exact h
/-- The row that is laid anew. -/
theorem ins_cells (X : List It) (k : Nat) (it : It) : icells (X.take k) ++ [.int .i64 it.1, .int .i64 it.2] ++ icells (X.drop k) = icells (X.take k ++ [it] ++ X.drop k) := by
  rw [icells_app, icells_app]; rfl

set_option maxRecDepth 1000000 in
set_option maxHeartbeats 8000000 in
theorem rset_new {w : World} {rb : Nat} {n : Int} {v : Value} {L : List It} (h : RM w rb n v L) (hlen : L.length ≤ 50000) (id y : Int) (hid : isId (hsz n) id = true) :
    Calls Try.prog 13 #[ptr rb, .int .i64 id, .int .i64 y] w fun e w' => e = .returned (.int .i64 0) ∧ ∃ v', RM w' rb n v' (insL (rmL L id) (id, y)) ∧ Turn (RFoot rb v) w w' ∧ ∀ k, RFoot rb v' k → RFoot rb v k ∨ k = rb ∨ w.heap.size ≤ k := by
  obtain ⟨i0, hi0, hz0, hz1, hz2⟩ := info_parts info42
  have q0 := h.c0
  have hm := min_run2 n
  have hb : 0 ≤ id ∧ id < min n 65536 := by
    unfold isId hsz at hid; simp at hid; omega
  clear hid
  have ks := rstop_any h (by omega) id rfl
  have d : decide (id < 0) = false := decide_eq_false (by omega)
  have d2 : decide (min n 65536 ≤ id) = false := decide_eq_false (by omega)
  generalize min n 65536 = mn at *
  have hXL : (rmL L id).length ≤ 50000 := by have := rmL_len L id; omega
  generalize decide ((rmL L id).length < L.length) = was at ks
  generalize rmL L id = X at *
  clear h hb hlen
  obtain ⟨m, hmm⟩ : ∃ m, X.length = m := ⟨_, rfl⟩
  have HXL := hide_it hmm
  obtain ⟨K, hK⟩ : ∃ K, posL X (id, y) = K := ⟨_, rfl⟩
  have hKm : K ≤ m := by rw [← hK, ← hmm]; exact posL_le _ _
  have HP1 : Hid (∀ i p, i < K → X[i]? = some p → ltI p (id, y)) := by rw [← hK]; exact posL_lt X (id, y)
  have HP2 : Hid (∀ p, X[K]? = some p → ¬ ltI p (id, y)) := by rw [← hK]; exact posL_at X (id, y)
  have hins : insL X (id, y) = X.take K ++ [(id, y)] ++ X.drop K := by unfold insL; rw [hK]
  rw [hins]
  rw [hmm] at hXL
  clear hK hins
  clear hmm
  go_enter Try.func13, Try.ntmps13
  go_upto_block 0 with (go_at_call 15; refine ks.mono ?_; rintro e w1 ⟨rfl, v1, h1, t1, f1, nn⟩; have HNN := hide_it nn; clear nn; have HR := hide_it h1; have HT := hide_it t1; have HF := hide_it f1; clear h1 t1 f1 ks)
  have q1 := HR.out.c1
  have HC : Hid (∀ i, i < m → ∃ b o c p, v1 = .slice (some ⟨b, o, none⟩) m c ∧ X[i]? = some p ∧ w1.cell? ⟨b, o + i * 2, none⟩ = some (.int .i64 p.1) ∧ w1.cell? ⟨b, o + i * 2 + 1, none⟩ = some (.int .i64 p.2)) := fun i hi => by
    obtain ⟨b, o, c, e, _, _, hc⟩ := HR.out.row.cells (by have := HXL.out; omega)
    rw [HXL.out] at e
    have hi2 : i < X.length := by have := HXL.out; omega
    exact ⟨b, o, c, X[i], e, List.getElem?_eq_getElem hi2, hc i _ (List.getElem?_eq_getElem hi2)⟩
  obtain ⟨ao, cap, hv, hc1, hc2⟩ := HR.out.row.form
  rw [HXL.out] at hv hc1
  subst hv
  clear hm q0 d d2
  go_cut [7] from 22 to 66 (fun kv wx => kv = .int .i64 K ∧ wx = w1)
  case first =>
    go_wp2_with fail
    go_loop [7] (fun kv => ∃ k : Nat, k ≤ K ∧ kv = .int .i64 k) (fun kv => m - (intOf kv).toNat)
    case atStart => exact ⟨0, Nat.zero_le _, rfl⟩
    case round =>
      obtain ⟨k, hk, rfl⟩ := hrel
      by_cases hlt : k < m
      · have m1 : decide ((k : Int) < m) = true := decide_eq_true (by omega)
        have m2 : decide (k < m) = true := decide_eq_true (by omega)
        obtain ⟨b, o, c, p, e, e1, c1, c2⟩ := HC.out k hlt
        obtain ⟨rfl, rfl⟩ : ao = some ⟨b, o, none⟩ ∧ cap = c := by simpa using e
        clear e
        by_cases hkK : k < K
        · have hl := HP1.out k p hkK e1
          unfold ltI at hl
          obtain ⟨p1, p2⟩ := p
          simp only at c1 c2 hl
          clear e1
          by_cases hq : p2 < y
          · have g1 : decide (p2 < y) = true := decide_eq_true hq
            go_wp2
            go_round
            case rel => exact ⟨k + 1, by omega, by go_num⟩
            case measure => simp [intOf]; omega
          · have g1 : decide (p2 < y) = false := decide_eq_false hq
            have g2 : (p2 == y) = true := by rw [beq_iff_eq]; omega
            have g3 : decide (p1 < id) = true := decide_eq_true (by omega)
            clear hl hq
            go_wp2
            go_round
            case rel => exact ⟨k + 1, by omega, by go_num⟩
            case measure => simp [intOf]; omega
        · have hKk : k = K := by omega
          subst hKk
          have hl := HP2.out p e1
          unfold ltI at hl
          obtain ⟨p1, p2⟩ := p
          simp only at c1 c2 hl
          have g1 : decide (p2 < y) = false := decide_eq_false (by omega)
          clear e1
          by_cases hq : p2 = y
          · have g2 : (p2 == y) = true := by rw [beq_iff_eq]; omega
            have g3 : decide (p1 < id) = false := decide_eq_false (by omega)
            clear hl hq
            go_wp2
            go_meet
            exact ⟨rfl, rfl⟩
          · have g2 : (p2 == y) = false := by rw [beq_eq_false_iff_ne]; omega
            clear hl hq
            go_wp2
            go_meet
            exact ⟨rfl, rfl⟩
      · have d1 : decide ((k : Int) < m) = false := by simp; omega
        have d2 : decide (k < m) = false := by simp; omega
        have hKk : k = K := by omega
        subst hKk
        go_wp2
        go_meet
        exact ⟨rfl, rfl⟩
  case rest =>
    obtain ⟨e1, e2⟩ := hcut
    subst e1 e2
    clear HC HP1 HP2
    rcases HR.out.row with ⟨hX, hvn⟩ | ⟨b, o, c, hvs, hd1, hd2, hd3, hd4⟩
    · exact absurd hvn HNN.out
    · clear HNN
      obtain ⟨rfl, hmx, rfl⟩ : ao = some ⟨b, o, none⟩ ∧ m = X.length ∧ cap = c := by simpa using hvs
      clear hvs hd1 hd2 hmx
      have hrb := HR.out.lt rb (.inl rfl)
      have hbl : b < wc.heap.size := hd3
      have hcm : cap ≤ 9223372036854775807 := by unfold maxLen at hc2; omega
      have HQ : Hid (∀ W, Below wc.heap.size wc W → W.cell? ⟨rb, 1, none⟩ = some (.slice (some ⟨b, o, none⟩) m cap) ∧ W.frozen? ⟨rb, 1, none⟩ = false) := fun W hb => ⟨by rw [hb.cell (p := ⟨rb, 1, none⟩) hrb]; exact q1, (HR.out.below hb).fr 1⟩
      have HN1 : Hid (∀ W, Below wc.heap.size wc W → ∀ j u, (icells (X.take K))[j]? = some u → W.cell? ((⟨b, o, none⟩ : Addr).add j) = some u) := fun W hb j u hu => by
        rw [icells_take, List.getElem?_take] at hu
        split at hu
        · rw [Addr.add_lit, hb.cell (p := ⟨b, _, none⟩) hbl]; exact hd4 j u hu
        · cases hu
      obtain ⟨ad, had⟩ : ∃ ad : Addr, (if cap = K then some (⟨b, o, none⟩ : Addr) else some ⟨b, o + K * 2, none⟩) = some ad := by split <;> exact ⟨_, rfl⟩
      have HN2 : Hid (∀ W, Below wc.heap.size wc W → ∀ j u, (icells (X.drop K))[j]? = some u → W.cell? (ad.add j) = some u) := fun W hb j u hu => by
        have hlt : j < (icells (X.drop K)).length := by
          rcases Nat.lt_or_ge j (icells (X.drop K)).length with q | q
          · exact q
          · rw [List.getElem?_eq_none q] at hu; cases hu
        rw [icells_len, List.length_drop, HXL.out] at hlt
        rw [if_neg (by omega)] at had
        cases had
        rw [icells_drop, List.getElem?_drop] at hu
        rw [Addr.add_lit, hb.cell (p := ⟨b, _, none⟩) hbl, ← hd4 _ u hu]
        congr 2
        omega
      have l1 : (icells (X.take K)).length = K * 2 := by rw [icells_len, List.length_take, HXL.out]; congr 1; omega
      have l2 : (icells (X.drop K)).length = (m - K) * 2 := by rw [icells_len, List.length_drop, HXL.out]
      have o1 := icells_one (X.take K)
      have o2 := icells_one (X.drop K)
      have HEND : Hid (∀ W ao3 cap3, Below wc.heap.size wc W → W.ownsRow wc.heap.size 42 2 (.slice ao3 (K + 1 + (m - K)) cap3) (K + 1 + (m - K)) (icells (X.take K) ++ [.int .i64 id, .int .i64 y] ++ icells (X.drop K)) → ∃ v', RM (W.setCell ⟨rb, 1, none⟩ (.slice ao3 (K + 1 + (m - K)) cap3)) rb n v' (X.take K ++ [(id, y)] ++ X.drop K) ∧ Turn (RFoot rb v) w (W.setCell ⟨rb, 1, none⟩ (.slice ao3 (K + 1 + (m - K)) cap3)) ∧ ∀ k, RFoot rb v' k → RFoot rb v k ∨ k = rb ∨ w.heap.size ≤ k) := fun W ao3 cap3 hb hown => by
        rw [ins_cells X K (id, y)] at hown
        have hll : K + 1 + (m - K) = (X.take K ++ [(id, y)] ++ X.drop K).length := by
          simp only [List.length_append, List.length_take, List.length_drop, List.length_singleton, HXL.out]
          omega
        rw [hll] at hown ⊢
        obtain ⟨z1, z2, z3⟩ := HR.out.put hb (ir_own hown) (fun j hj => .inr (hown.lt j hj).1)
        have hsz := HT.out.size
        refine ⟨_, z1, ⟨z2.os.trans HT.out.os, z2.tape.trans HT.out.tape, z2.output.trans HT.out.output, Nat.le_trans hsz z2.size, fun k hk hn => ?_⟩, fun k hk => ?_⟩
        · rw [z2.block k (by omega) (fun q => by
            rcases HF.out k q with z | z | z
            · exact hn z
            · exact hn (.inl z)
            · omega)]
          exact HT.out.block k hk hn
        · rcases z3 k hk with z | z | z
          · exact HF.out k z
          · exact .inr (.inl z)
          · exact .inr (.inr (by omega))
      have LA0 : Hid ((wc.alloc (.cells #[] 42)).drew.ownsRow wc.heap.size 42 2 (.slice (some ⟨wc.heap.size, 0, none⟩) 0 0) 0 []) := (World.ownsRow_lit wc #[] 0 (Nat.le_refl _) (Nat.zero_le _) rfl : (wc.alloc (.cells #[] 42)).ownsRow wc.heap.size 42 2 (.slice (some ⟨wc.heap.size, 0, none⟩) 0 0) 0 []).drew
      have LAc : Hid (((wc.alloc (.cells #[] 42)).alloc (.cells #[.int .i64 id, .int .i64 y] 42)).drew.ownsRow wc.heap.size 42 2 (.slice (some ⟨wc.heap.size, 0, none⟩) 0 0) 0 []) := ((World.ownsRow_lit wc #[] 0 (Nat.le_refl _) (Nat.zero_le _) rfl : (wc.alloc (.cells #[] 42)).ownsRow wc.heap.size 42 2 (.slice (some ⟨wc.heap.size, 0, none⟩) 0 0) 0 []).alloc _).drew
      have LAa : Hid (((wc.alloc (.cells #[.int .i64 id, .int .i64 y] 42)).alloc (.cells #[] 42)).drew.ownsRow wc.heap.size 42 2 (.slice (some ⟨wc.heap.size + 1, 0, none⟩) 0 0) 0 []) := by
        have q : ((wc.alloc (.cells #[.int .i64 id, .int .i64 y] 42)).alloc (.cells #[] 42)).ownsRow (wc.alloc (.cells #[.int .i64 id, .int .i64 y] 42)).heap.size 42 2 (.slice (some ⟨(wc.alloc (.cells #[.int .i64 id, .int .i64 y] 42)).heap.size, 0, none⟩) 0 0) 0 [] := World.ownsRow_lit _ #[] 0 (Nat.le_refl _) (Nat.zero_le _) rfl
        have e : (wc.alloc (.cells #[.int .i64 id, .int .i64 y] 42)).heap.size = wc.heap.size + 1 := by simp
        rw [e] at q
        exact (owns_base q (fun k hk => by simp [Value.ownBlock] at hk; omega)).drew
      have BA0 : Hid (Below wc.heap.size wc (wc.alloc (.cells #[] 42)).drew) := ((Below.refl _ _).alloc (Nat.le_refl _) _).drew
      have BAc : Hid (Below wc.heap.size wc ((wc.alloc (.cells #[] 42)).alloc (.cells #[.int .i64 id, .int .i64 y] 42)).drew) := (((Below.refl _ _).alloc (Nat.le_refl _) _).alloc (by simp) _).drew
      have BAa : Hid (Below wc.heap.size wc ((wc.alloc (.cells #[.int .i64 id, .int .i64 y] 42)).alloc (.cells #[] 42)).drew) := (((Below.refl _ _).alloc (Nat.le_refl _) _).alloc (by simp) _).drew
      have BL : Hid (Below wc.heap.size wc (wc.alloc (.cells #[.int .i64 id, .int .i64 y] 42)).drew) := ((Below.refl _ _).alloc (Nat.le_refl _) _).drew
      have HLc : Hid (((wc.alloc (.cells #[] 42)).alloc (.cells #[.int .i64 id, .int .i64 y] 42)).drew.heap[wc.heap.size + 1]? = some (.cells #[.int .i64 id, .int .i64 y] 42)) := heap_alloc_at (w := wc.alloc (.cells #[] 42)) (by simp) _
      have HLa : Hid (((wc.alloc (.cells #[.int .i64 id, .int .i64 y] 42)).alloc (.cells #[] 42)).drew.heap[wc.heap.size]? = some (.cells #[.int .i64 id, .int .i64 y] 42)) := by
        show ((wc.alloc (.cells #[.int .i64 id, .int .i64 y] 42)).alloc (.cells #[] 42)).heap[wc.heap.size]? = _
        rw [Below.heap_alloc _ _ _ (by simp)]
        exact heap_alloc_new _ _
      obtain ⟨r1, s1⟩ := HQ.out _ BA0.out
      obtain ⟨r2, s2⟩ := HQ.out _ BAc.out
      obtain ⟨r3, s3⟩ := HQ.out _ BAa.out
      obtain ⟨r4, s4⟩ := HQ.out _ BL.out
      generalize icells (X.take K) = A at *
      generalize icells (X.drop K) = C at *
      have b1 : K ≤ cap := by omega
      have y1 : (0 : Int) ≤ (K : Int) := by omega
      have hKm' : (K : Int) ≤ (m : Int) := by omega
      have y2 : (K : Int) ≤ (m : Int) := by omega
      have y4 : (K : Int) ≤ (cap : Int) := by omega
      clear HR HT HF hd4 HXL
      go_wp2_with (fail)
      go_region_law
        (first
          | (refine step_append_tell _ (by rfl) (.tmp 68) (.tmp 74) 27 (by rfl) wc.heap.size 42 i0 _ 2 16 Try.underlying27 hi0 hz0 hz1 hz2 rfl (by omega) (.slice (some ⟨wc.heap.size, 0, none⟩) 0 0) 0 [] (by rfl) LA0.out ⟨b, o, none⟩ K cap A (by rfl) l1 (HN1.out _ BA0.out) o1 (by unfold maxLen; omega) (by omega) BA0.out.size ?_; intro v1 w2 hown1 hgrow1; have hB1 := hide_it (BA0.out.grown hgrow1 BA0.out.size (fun q hq => (LA0.out.lt q hq).1)); obtain ⟨c1, f1⟩ := HQ.out _ hB1.out; obtain ⟨c1', f1'⟩ := HQ.out _ (hB1.out.alloc hB1.out.size (.cells #[.int .i64 id, .int .i64 y] 42)))
          | (refine step_append_tell _ (by rfl) (.tmp 68) (.tmp 74) 27 (by rfl) wc.heap.size 42 i0 _ 2 16 Try.underlying27 hi0 hz0 hz1 hz2 rfl (by omega) (.slice (some ⟨wc.heap.size, 0, none⟩) 0 0) 0 [] (by rfl) LAc.out ⟨b, o, none⟩ K cap A (by rfl) l1 (HN1.out _ BAc.out) o1 (by unfold maxLen; omega) (by omega) BAc.out.size ?_; intro v1 w2 hown1 hgrow1; have hB1 := hide_it (BAc.out.grown hgrow1 BAc.out.size (fun q hq => (LAc.out.lt q hq).1)); have HLT := hide_it (lit_keep HLc.out hgrow1 (by simp [Value.ownBlock])); obtain ⟨c1, f1⟩ := HQ.out _ hB1.out; obtain ⟨c1', f1'⟩ := HQ.out _ (hB1.out.alloc hB1.out.size (.cells #[.int .i64 id, .int .i64 y] 42)))
          | (refine step_append_tell _ (by rfl) (.tmp 68) (.tmp 74) 27 (by rfl) wc.heap.size 42 i0 _ 2 16 Try.underlying27 hi0 hz0 hz1 hz2 rfl (by omega) (.slice (some ⟨wc.heap.size + 1, 0, none⟩) 0 0) 0 [] (by rfl) LAa.out ⟨b, o, none⟩ K cap A (by rfl) l1 (HN1.out _ BAa.out) o1 (by unfold maxLen; omega) (by omega) BAa.out.size ?_; intro v1 w2 hown1 hgrow1; have hB1 := hide_it (BAa.out.grown hgrow1 BAa.out.size (fun q hq => (LAa.out.lt q hq).1)); have HLT := hide_it (lit_keep HLa.out hgrow1 (by simp [Value.ownBlock])); obtain ⟨c1, f1⟩ := HQ.out _ hB1.out; obtain ⟨c1', f1'⟩ := HQ.out _ (hB1.out.alloc hB1.out.size (.cells #[.int .i64 id, .int .i64 y] 42)))
          | (refine step_append_tell _ (by rfl) (.tmp 75) (.tmp 79) 27 (by rfl) wc.heap.size 42 i0 _ 2 16 Try.underlying27 hi0 hz0 hz1 hz2 rfl (by omega) v1 (0 + K) ([] ++ A) (by rfl) (hown1.alloc _) ⟨w2.heap.size, 0, none⟩ 1 1 [.int .i64 id, .int .i64 y] (by rfl) (by rfl) (World.news_of_block (heap_alloc_new _ _)) (by simp [Value.oneCell']) (by unfold maxLen; omega) (by omega) (hB1.out.alloc hB1.out.size (.cells #[.int .i64 id, .int .i64 y] 42)).size ?_; intro v2 w3 hown2 hgrow2; have hB2 := hide_it ((hB1.out.alloc hB1.out.size (.cells #[.int .i64 id, .int .i64 y] 42)).grown hgrow2 (hB1.out.alloc hB1.out.size (.cells #[.int .i64 id, .int .i64 y] 42)).size (fun q hq => (hown1.lt q hq).1)); obtain ⟨c2, f2⟩ := HQ.out _ hB2.out)
          | (refine step_append_tell _ (by rfl) (.tmp 75) (.tmp 79) 27 (by rfl) wc.heap.size 42 i0 _ 2 16 Try.underlying27 hi0 hz0 hz1 hz2 rfl (by omega) v1 (0 + K) ([] ++ A) (by rfl) hown1 ⟨wc.heap.size + 1, 0, none⟩ 1 1 [.int .i64 id, .int .i64 y] (by rfl) (by rfl) (World.news_of_block HLT.out) (by simp [Value.oneCell']) (by unfold maxLen; omega) (by omega) (hB1.out).size ?_; intro v2 w3 hown2 hgrow2; have hB2 := hide_it ((hB1.out).grown hgrow2 (hB1.out).size (fun q hq => (hown1.lt q hq).1)); obtain ⟨c2, f2⟩ := HQ.out _ hB2.out)
          | (refine step_append_tell _ (by rfl) (.tmp 75) (.tmp 79) 27 (by rfl) wc.heap.size 42 i0 _ 2 16 Try.underlying27 hi0 hz0 hz1 hz2 rfl (by omega) v1 (0 + K) ([] ++ A) (by rfl) hown1 ⟨wc.heap.size, 0, none⟩ 1 1 [.int .i64 id, .int .i64 y] (by rfl) (by rfl) (World.news_of_block HLT.out) (by simp [Value.oneCell']) (by unfold maxLen; omega) (by omega) (hB1.out).size ?_; intro v2 w3 hown2 hgrow2; have hB2 := hide_it ((hB1.out).grown hgrow2 (hB1.out).size (fun q hq => (hown1.lt q hq).1)); obtain ⟨c2, f2⟩ := HQ.out _ hB2.out)
          | (refine step_append_tell _ (by rfl) (.tmp 80) (.tmp 86) 27 (by rfl) wc.heap.size 42 i0 _ 2 16 Try.underlying27 hi0 hz0 hz1 hz2 rfl (by omega) v2 (0 + K + 1) ([] ++ A ++ [.int .i64 id, .int .i64 y]) (by rfl) hown2 ad (m - K) (cap - K) C (by rfl) l2 (HN2.out _ hB2.out) o2 (by unfold maxLen; omega) (by omega) hB2.out.size ?_; intro v3 w4 hown3 hgrow3; obtain ⟨ao3, cap3, hv3⟩ := own_slice hown3; subst hv3; have hB3 := hide_it (hB2.out.grown hgrow3 hB2.out.size (fun q hq => (hown2.lt q hq).1)); obtain ⟨c3, f3⟩ := HQ.out _ hB3.out))
      all_goals
        go_wp2
        go_ret
        have q := hown3
        simp only [Nat.zero_add, List.nil_append] at q
        exact ⟨rfl, HEND.out _ _ _ hB3.out q⟩
end Go.Proofs.Ytlpbjafdmhcmgaa
