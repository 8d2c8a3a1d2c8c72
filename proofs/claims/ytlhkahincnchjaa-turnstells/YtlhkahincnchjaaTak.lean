/- Take: again and again, of whose turn it is. -/
import Derived.Test.YtlhkahincnchjaaCon
import Derived.Test.YtlhkahincnchjaaGon
import Derived.Test.YtlhkahincnchjaaIdl
import Derived.Test.YtlhkahincnchjaaPas
import Derived.ScopeJumps
import Derived.WalkMore
namespace Go
/-- As Q; by a goto to a label l: J l. -/
def Exit.jumps (J : Nat → Act → World → Prop) (Q : Exit → Act → World → Prop) : Exit → Act → World → Prop
  | .goto l, a, w => J l a w
  | e, a, w => Q e a w

/-- A scope in which the run jumps among several labels: what holds at each jump, with a number of one's own that every pass from a label lowers. -/
theorem wp_scope_labels {P : Program} {a : Act} {w : World} {Q : Exit → Act → World → Prop} {c : Code} (J : Nat → Nat → Act → World → Prop)
    (first : c.wp P (Exit.jumps (fun l a w => ∃ n, J l n a w) Q) a w)
    (pass : ∀ l n a w, J l n a w → ∃ rest, findLabel c l = some rest ∧ rest.wp P (Exit.jumps (fun l' a' w' => ∃ n', n' < n ∧ J l' n' a' w') Q) a w) : (Code.scope c).wp P Q a w := by
  intro b k cs
  have key : ∀ n l a w, J l n a w → ∃ rest, findLabel c l = some rest ∧ ∃ e a' w', Q e a' w' ∧ Arrives P (lone (b.at a (.code rest :: .inScope c :: k)) cs w) b k cs e a' w' := by
    intro n
    induction n using Nat.strongRecOn with
    | _ n ih =>
      intro l a w hJ
      obtain ⟨rest, hf, hp⟩ := pass l n a w hJ
      refine ⟨rest, hf, ?_⟩
      obtain ⟨e, a₁, w₁, hq, harr⟩ := hp b (.inScope c :: k) cs
      cases e with
      | normal => exact ⟨.normal, a₁, w₁, hq, Steps.trans harr (.one step_inScope)⟩
      | exit id => exact ⟨.exit id, a₁, w₁, hq, fun k' hk => harr k' (by simp [exitTo, hk])⟩
      | goto l' =>
        obtain ⟨n', hlt, hJ'⟩ := hq
        obtain ⟨rest', hf', e₂, a₂, w₂, hq₂, harr₂⟩ := ih n' hlt l' a₁ w₁ hJ'
        exact ⟨e₂, a₂, w₂, hq₂, .of_steps (harr _ (by simp [gotoIn, hf'])) harr₂⟩
      | ret => exact ⟨_, a₁, w₁, hq, harr⟩
      | panic ch => exact ⟨_, a₁, w₁, hq, harr⟩
      | outgrown => exact ⟨_, a₁, w₁, hq, harr⟩
  obtain ⟨e, a₁, w₁, hq, harr⟩ := first b (.inScope c :: k) cs
  cases e with
  | normal => exact ⟨.normal, a₁, w₁, hq, .head step_scope (Steps.trans harr (.one step_inScope))⟩
  | exit id => exact ⟨.exit id, a₁, w₁, hq, fun k' hk => .head step_scope (harr k' (by simp [exitTo, hk]))⟩
  | goto l' =>
    obtain ⟨n', hJ'⟩ := hq
    obtain ⟨rest', hf', e₂, a₂, w₂, hq₂, harr₂⟩ := key n' l' a₁ w₁ hJ'
    exact ⟨e₂, a₂, w₂, hq₂, .of_steps (.head step_scope (harr _ (by simp [gotoIn, hf']))) harr₂⟩
  | ret => exact ⟨_, a₁, w₁, hq, .of_steps (.one step_scope) harr⟩
  | panic ch => exact ⟨_, a₁, w₁, hq, .of_steps (.one step_scope) harr⟩
  | outgrown => exact ⟨_, a₁, w₁, hq, .of_steps (.one step_scope) harr⟩

/-- The same, where the scope's own text falls into one of its labels first. -/
theorem wp_scope_into {P : Program} {a : Act} {w : World} {Q : Exit → Act → World → Prop} {c : Code} (J : Nat → Nat → Act → World → Prop) (l0 n0 : Nat) (body : Code) (hbody : findLabel c l0 = some (.seq .skip body))
    (first : ∀ K : Exit → Act → World → Prop, (∀ a w, J l0 n0 a w → body.wp P K a w) → c.wp P K a w)
    (pass : ∀ l n a w, J l n a w → ∃ rest, findLabel c l = some (.seq .skip rest) ∧ rest.wp P (Exit.jumps (fun l' a' w' => ∃ n', n' < n ∧ J l' n' a' w') Q) a w) : (Code.scope c).wp P Q a w := by
  refine wp_scope_labels J (first _ fun a w hJ => ?_) (fun l n a w hJ => ?_)
  · obtain ⟨rest', hf', hp⟩ := pass l0 n0 a w hJ
    rw [hbody] at hf'
    cases hf'
    intro b k cs
    obtain ⟨e, a', w', hq, harr⟩ := hp b k cs
    refine ⟨e, a', w', ?_, harr⟩
    cases e with
    | goto l => obtain ⟨n', _, h⟩ := hq; exact ⟨n', h⟩
    | normal => exact hq
    | exit id => exact hq
    | ret => exact hq
    | panic ch => exact hq
    | outgrown => exact hq
  · obtain ⟨rest, hf, hp⟩ := pass l n a w hJ
    exact ⟨_, hf, wp_seq (wp_skip hp)⟩
end Go
namespace Go.Proofs.Ytlhkahincnchjaa
open Go.RowKit
open M
set_option linter.unusedVariables false
set_option linter.unusedSimpArgs false

theorem inv_zero {M : Int} {x : Tn} (h : Inv M x) (hM : 1 ≤ M) : Inv M { x with C := upd x.C x.k 0 } := by
  refine ⟨h.q1, h.q2, h.w, fun j hj => ?_, fun j hj hne => ?_, fun hk => ?_, h.kn, h.k0⟩
  · show 0 ≤ upd x.C x.k 0 j
    by_cases e : j = x.k
    · rw [e, upd_same]; omega
    · rw [upd_other _ _ e]; exact h.c0 j hj
  · have hne2 : j ≠ x.k := hne
    show upd x.C x.k 0 j < M
    rw [upd_other _ _ hne2]; exact h.cM j hj hne2
  · have hk2 : x.k < x.n := hk
    show upd x.C x.k 0 x.k < M + x.q * x.W x.k
    rw [upd_same]
    have := (h.gain hk2).1
    omega

theorem mu_le {M : Int} {p : Nat} {x : Tn} (h : Inv M x) (hp : p < x.n) : mu p x ≤ 268435456 * x.n + x.n := by
  have hk := h.kn (by omega)
  have h0 := h.c0 p hp
  unfold mu
  have := Nat.mul_le_mul_right x.n (show (268435456 - x.C p).toNat ≤ 268435456 by omega)
  have : (if x.k < p then p - 1 - x.k else p + x.n - 1 - x.k) ≤ x.n := by split <;> omega
  omega

/-- The frame of Take at its label. -/
def FrT (t cb n m lc : Nat) (la : Option Addr) (a : Act) : Prop := ∃ u7 u8 u9 u10 u11 u12 u13 u14 u15 u16 u17 u18 u19 u20 u21 u22 u23 u24 u25 u26 u27 u28 u29 u30 u31 u32 u33 u34 u35 u36 u37 u38 u39 u40 u41 u42 u43 u44 u45 u46 u47 u48 u49 u50 u51 u52 u53 u54 u55 u56 u57 u58 u59 u60 u61 u62 u63 u64 u65 u66 u67 : Value, a = { tmps := #[ptr t, .slice la m lc, undef, undef, .int .i64 0, .bool false, .slice (some ⟨cb, 0, none⟩) n n, u7, u8, u9, u10, u11, u12, u13, u14, u15, u16, u17, u18, u19, u20, u21, u22, u23, u24, u25, u26, u27, u28, u29, u30, u31, u32, u33, u34, u35, u36, u37, u38, u39, u40, u41, u42, u43, u44, u45, u46, u47, u48, u49, u50, u51, u52, u53, u54, u55, u56, u57, u58, u59, u60, u61, u62, u63, u64, u65, u66, u67], defers := [] }
theorem FrT.mk {t cb n m lc : Nat} {la : Option Addr} {u7 u8 u9 u10 u11 u12 u13 u14 u15 u16 u17 u18 u19 u20 u21 u22 u23 u24 u25 u26 u27 u28 u29 u30 u31 u32 u33 u34 u35 u36 u37 u38 u39 u40 u41 u42 u43 u44 u45 u46 u47 u48 u49 u50 u51 u52 u53 u54 u55 u56 u57 u58 u59 u60 u61 u62 u63 u64 u65 u66 u67 : Value} : FrT t cb n m lc la { tmps := #[ptr t, .slice la m lc, undef, undef, .int .i64 0, .bool false, .slice (some ⟨cb, 0, none⟩) n n, u7, u8, u9, u10, u11, u12, u13, u14, u15, u16, u17, u18, u19, u20, u21, u22, u23, u24, u25, u26, u27, u28, u29, u30, u31, u32, u33, u34, u35, u36, u37, u38, u39, u40, u41, u42, u43, u44, u45, u46, u47, u48, u49, u50, u51, u52, u53, u54, u55, u56, u57, u58, u59, u60, u61, u62, u63, u64, u65, u66, u67], defers := [] } := ⟨u7, u8, u9, u10, u11, u12, u13, u14, u15, u16, u17, u18, u19, u20, u21, u22, u23, u24, u25, u26, u27, u28, u29, u30, u31, u32, u33, u34, u35, u36, u37, u38, u39, u40, u41, u42, u43, u44, u45, u46, u47, u48, u49, u50, u51, u52, u53, u54, u55, u56, u57, u58, u59, u60, u61, u62, u63, u64, u65, u66, u67, rfl⟩

/-- On the way. -/
structure TW (F : Nat → Prop) (w W : World) (t g cap cb : Nat) (cs : Nat → Int) (x z : Tn) : Prop where
  sc : SC F w W t g cap z cb cs
  wy : M.Way cs x z
  iv : Inv 1048576 z

set_option maxRecDepth 1000000 in
set_option maxHeartbeats 8000000 in
theorem take_any {w : World} {F : Nat → Prop} {t : Nat} {x : Tn} (h : MO 64 62 w F t x) (hi : Inv 1048576 x) (hn : x.n ≤ 1000000) (hb : ∀ j, j < x.n → i64B (x.I j)) {la : Option Addr} {l : List Wn} {m lc : Nat} (hl : Ws w la l) (hm : l.length = m) (hm2 : m ≤ 1000000) (hlb : ∀ p ∈ l, i64B p.1) :
    Calls Try.prog 18 #[ptr t, .slice la m lc] w fun e w' => ∃ y id ok, e = .returned (.tuple #[.int .i64 id, .bool ok]) ∧ Hid (TakeP l x y id ok ∧ St 64 62 F w w' t y) := by
  have kc := costs_any (lc := lc) h hn hb hl hm hm2 hlb
  obtain ⟨v, sv0⟩ := SV.start h
  have HSV := hide_it sv0
  have hc : ∀ j, j < x.n → 0 ≤ costs l x j ∧ costs l x j ≤ 1048576 := fun j _ => costOf_bnd _ _
  have HI := hide_it hi
  have HN := hide_it hn
  obtain ⟨cs, hcs⟩ : ∃ cs, costs l x = cs := ⟨_, rfl⟩
  have HCS := hide_it hcs
  rw [hcs] at kc hc
  have HC := hide_it hc
  clear h hi hb hl hm hm2 hlb sv0 hcs hc
  by_cases hany : anyB cs x.n = true
  · obtain ⟨p, hp, hcp⟩ := anyB_true hany
    have HA := hide_it hany
    have HP := hide_it (And.intro hp hcp)
    have hn0 : 0 < x.n := by omega
    obtain ⟨g, cap, rfl⟩ : ∃ g cap, v = .slice (some ⟨g, 0, none⟩) x.n cap := by
      obtain ⟨ao, cap, e, _, _, hm⟩ := HSV.out.tm.mbs
      obtain ⟨g, e2, _⟩ := hm p hp
      exact ⟨g, cap, by rw [e, e2]⟩
    have HSC : Hid (∀ (W : World) cb, Below w.heap.size w W → w.heap.size ≤ cb → W.heap[cb]? = some (.cells (iRow cs x.n) 3) → SC F w W t g cap x cb cs) := fun W cb hW hcb hrow => by
      have h1 := HSV.out.tm.lt t (.inl rfl)
      have h2 := HSV.out.tm.lt g (.inr rfl)
      exact ⟨HSV.out.below hW, hrow, fun e => by omega, fun e => by omega⟩
    clear hany hp hcp HSV
    go_enter Try.func18, Try.ntmps18
    go_wp2
    refine wp_scope_into (fun l m' a' W => l = 0 ∧ ∃ cb z, FrT t cb x.n m lc la a' ∧ TW F w W t g cap cb cs x z ∧ mu p z ≤ m') 0 (268435456 * x.n + x.n) _ rfl ?_ ?_
    · intro K hK
      go_wp2_with (go_at_call 26; refine kc.mono ?_; rintro e w1 ⟨cb, rfl, HK⟩; refine Hid.out ?_)
      refine hide_it ?_
      have S1 := hide_it (HSC.out _ cb HK.out.1 HK.out.2.1 HK.out.2.2)
      have k2 := contains_any HK.out.2.2 HN.out HC.out
      rw [HA.out] at k2
      have k3 := idle_any S1.out HI.out HN.out HC.out
      clear kc
      go_wp2_with (go_at_call 27; refine k2.mono ?_; rintro e w' ⟨rfl, e9⟩; have e8 := e9.symm; clear e9; subst e8; refine Hid.out ?_)
      refine hide_it ?_
      clear k2
      go_wp2_with (go_at_call 30; refine k3.mono ?_; rintro e w2 ⟨r, rfl, HID⟩; refine Hid.out ?_)
      refine hide_it ?_
      clear k3
      have k4 := pass_any (S1.out.below HID.out.2) HI.out HN.out HC.out HID.out.1
      have wy := way_idle (cs := cs) (by omega) HI.out hn0 (fun j hj => (HC.out j hj).2) HID.out.1
      have HT : Hid (∀ W, SC F w W t g cap (if r = 0 then x else passed r cs x) cb cs → TW F w W t g cap cb cs x (if r = 0 then x else passed r cs x)) := fun W hW => ⟨hW, wy, inv_way HI.out hn0 (by omega) (fun j hj => (HC.out j hj).2) wy⟩
      have HMU : Hid (mu p (if r = 0 then x else passed r cs x) ≤ 268435456 * x.n + x.n) := by
        have e := wy.same.n
        have := mu_le (p := p) (inv_way HI.out hn0 (by omega) (fun j hj => (HC.out j hj).2) wy) (by rw [e]; exact HP.out.1)
        rw [e] at this
        exact this
      clear wy
      generalize (if r = 0 then x else passed r cs x) = z at *
      go_wp2_with (go_at_call 29; refine k4.mono ?_; rintro e w3 ⟨rfl, S3⟩)
      go_step3
      rename_i K1 hK1
      exact hK1 _ _ (hK _ _ ⟨trivial, cb, z, FrT.mk, HT.out _ S3.out, HMU.out⟩)
    · rintro l' m' a' W ⟨rfl, cb, z, hfr, htw, hmu⟩
      obtain ⟨u7, u8, u9, u10, u11, u12, u13, u14, u15, u16, u17, u18, u19, u20, u21, u22, u23, u24, u25, u26, u27, u28, u29, u30, u31, u32, u33, u34, u35, u36, u37, u38, u39, u40, u41, u42, u43, u44, u45, u46, u47, u48, u49, u50, u51, u52, u53, u54, u55, u56, u57, u58, u59, u60, u61, u62, u63, u64, u65, u66, u67, rfl⟩ := hfr
      refine ⟨_, rfl, ?_⟩
      have HT := hide_it htw
      have HMU := hide_it hmu
      have hs := htw.wy.same
      have hr := htw.sc.read
      have hi := htw.iv
      have hzn : z.n = x.n := hs.n
      have hk : z.k < z.n := hi.kn (by omega)
      have a1 : W.cell? ⟨t, 1, none⟩ = some (.slice (some ⟨g, 0, none⟩) x.n cap) := by rw [← hzn]; exact hr.a1
      have a2 := hr.a2
      obtain ⟨b0, b1, b2⟩ := hr.mb z.k hk
      have cc := hr.co z.k hk
      have f2 := hr.gf (z.k * 3 + 2)
      have hck := HC.out z.k (by omega)
      have hC0 := hi.c0 z.k hk
      have hCl := hi.lt hk
      have hgk := hi.gain hk
      have hkx : z.k < x.n := by omega
      have hcap : x.n ≤ cap := by rw [← hzn]; exact hr.cap1
      clear htw hmu kc HSC hr hs hi
      have kI := isCost_any W (cs z.k)
      by_cases hS : Stop cs z
      · have hs1 : cs z.k ≠ 0 := hS.1
        have hs2 : cs z.k ≤ z.C z.k := hS.2
        rw [show decide (1 ≤ cs z.k ∧ cs z.k ≤ 1048576) = true by simp; omega] at kI
        have hd : decide (cs z.k ≤ z.C z.k) = true := decide_eq_true hs2
        have w1 : IntKind.i64.wrap (z.C z.k - cs z.k) = z.C z.k - cs z.k := by rw [IntKind.wrap_i64]; omega
        have w2 : wrap64 (z.C z.k - cs z.k) = z.C z.k - cs z.k := by unfold wrap64; omega
        have HE : Hid (TakeP l x (pay cs z) (z.I z.k) true ∧ St 64 62 F w (W.setCell ⟨g, z.k * 3 + 2, none⟩ (.int .i64 (z.C z.k - cs z.k))) t (pay cs z)) := by
          refine ⟨.inr ⟨⟨p, HP.out.1, by rw [HCS.out]; exact HP.out.2⟩, ⟨z, by rw [HCS.out]; exact HT.out.wy, by rw [HCS.out]; exact hS, by rw [HCS.out]⟩, rfl, rfl⟩, ?_⟩
          exact (HT.out.sc.setC hk (z.C z.k - cs z.k)).sv.st
        have hkn : z.k < x.n := hkx
        have w3 : ∀ nq : Nat, (W.drewN nq).setCell ⟨g, z.k * 3 + 2, none⟩ (.int .i64 (z.C z.k - cs z.k)) = (W.setCell ⟨g, z.k * 3 + 2, none⟩ (.int .i64 (z.C z.k - cs z.k))).drewN nq := fun nq => rfl
        have HE2 : Hid (∀ nq : Nat, TakeP l x (pay cs z) (z.I z.k) true ∧ St 64 62 F w ((W.drewN nq).setCell ⟨g, z.k * 3 + 2, none⟩ (.int .i64 (z.C z.k - cs z.k))) t (pay cs z)) := fun nq => ⟨HE.out.1, by rw [w3]; exact HE.out.2.below (below_drewN (Below.refl _ _) nq)⟩
        have KI := hide_it (fun nq => isCost_any (W.drewN nq) (cs z.k))
        rw [show decide (1 ≤ cs z.k ∧ cs z.k ≤ 1048576) = true by simp; omega] at KI
        clear hS hs1 hs2 hck hC0 hCl hgk kI HE w3 HT HMU hzn hk HN HI HC HCS HA HP
        generalize z.C z.k = C' at *
        generalize cs z.k = c at *
        generalize z.I z.k = i' at *
        generalize z.W z.k = w' at *
        generalize pay cs z = y at *
        generalize z.k = k at *
        generalize x.n = n at *
        go_upto_region 5 with fail
        go_quiet (fail)
        have kI := KI.out nq
        have HE3 := hide_it (HE2.out nq)
        clear HE2 KI
        go_wp2_with (go_at_call 28; refine kI.mono ?_; rintro e w' ⟨rfl, e9⟩; have e8 := e9.symm; clear e9; subst e8)
        (try simp only [Exit.jumps])
        go_ret2
        exact ⟨y, i', true, rfl, HE3⟩
      · have HQ : Hid (∀ W', SC F w W' t g cap (nxt cs z) cb cs → ∃ n', n' < m' ∧ 0 = 0 ∧ ∃ cb' z', TW F w W' t g cap cb' cs x z' ∧ cb' = cb ∧ mu p z' ≤ n') := fun W' hW' => by
          have hd := mu_nxt (cs := cs) HT.out.iv (by omega) (p := p) (by rw [hzn]; exact HP.out.1) HP.out.2 hS
          have hm := HMU.out
          exact ⟨mu p (nxt cs z), by omega, rfl, cb, nxt cs z, ⟨hW', HT.out.wy.step hS, inv_nxt HT.out.iv (by omega) (by omega) (fun j hj => (HC.out j (by omega)).2) hS⟩, rfl, Nat.le_refl _⟩
        by_cases hcz : cs z.k = 0
        · rw [show decide (1 ≤ cs z.k ∧ cs z.k ≤ 1048576) = false by simp; omega] at kI
          have KI : Hid (∀ nq : Nat, Calls Try.prog 28 #[.int .i64 (cs z.k)] (W.drewN nq) fun e w' => e = .returned (.bool false) ∧ w' = W.drewN nq) := fun nq => by
            have := isCost_any (W.drewN nq) (cs z.k)
            rw [show decide (1 ≤ cs z.k ∧ cs z.k ≤ 1048576) = false by simp; omega] at this
            exact this
          have KG : Hid (∀ nq : Nat, Calls Try.prog 31 #[ptr t, .slice (some ⟨cb, 0, none⟩) x.n x.n] ((W.drewN nq).setCell ⟨g, z.k * 3 + 2, none⟩ (.int .i64 0)) fun e w' => e = .returned (.tuple #[]) ∧ Hid (SC F w w' t g cap (nxt cs z) cb cs)) := fun nq => by
            have hs := (HT.out.sc.drewN nq).setC hk 0
            have := goon_any hs (inv_zero HT.out.iv (by omega)) hk (by show z.n ≤ 1000000; rw [hzn]; exact HN.out) (fun j hj => HC.out j (by rw [← hzn]; exact hj)) (nxt cs z) (by unfold nxt; simp only [hcz, if_true])
            rw [← hzn]
            exact this
          have hd : ¬ x.n = 0 := by omega
          clear hS hck hC0 hCl hgk kI HT HMU hzn hk HN HI HC HCS HA HP hcz
          generalize z.C z.k = C' at *
          generalize cs z.k = c at *
          generalize z.I z.k = i' at *
          generalize z.W z.k = w' at *
          generalize z.k = k at *
          generalize x.n = n at *
          go_hide hQ
          go_upto_region 5 with fail
          go_quiet (fail)
          have kI := KI.out nq
          have kg := KG.out nq
          clear KI KG
          go_wp2_with (first | (go_at_call 28; refine kI.mono ?_; rintro e w' ⟨rfl, e9⟩; have e8 := e9.symm; clear e9; subst e8) | (go_at_call 31; refine kg.mono ?_; rintro e w5 ⟨rfl, S5⟩))
          subst hQ
          go_step3
          obtain ⟨n', h1, h2, cb', z', h3, h4, h5⟩ := HQ.out _ S5.out
          subst h4
          exact ⟨n', h1, rfl, cb', z', FrT.mk, h3, h5⟩
        · have KI : Hid (∀ nq : Nat, Calls Try.prog 28 #[.int .i64 (cs z.k)] (W.drewN nq) fun e w' => e = .returned (.bool true) ∧ w' = W.drewN nq) := fun nq => by
            have := isCost_any (W.drewN nq) (cs z.k)
            rw [show decide (1 ≤ cs z.k ∧ cs z.k ≤ 1048576) = true by simp; omega] at this
            exact this
          have KG : Hid (∀ nq : Nat, Calls Try.prog 31 #[ptr t, .slice (some ⟨cb, 0, none⟩) x.n x.n] (W.drewN nq) fun e w' => e = .returned (.tuple #[]) ∧ Hid (SC F w w' t g cap (nxt cs z) cb cs)) := fun nq => by
            have hs := HT.out.sc.drewN nq
            have := goon_any hs HT.out.iv hk (by rw [hzn]; exact HN.out) (fun j hj => HC.out j (by rw [← hzn]; exact hj)) (nxt cs z) (by unfold nxt; simp only [hcz, if_false])
            rw [← hzn]
            exact this
          have hd : decide (cs z.k ≤ z.C z.k) = false := decide_eq_false (fun q => hS ⟨hcz, q⟩)
          clear hS hck hC0 hCl hgk kI HT HMU hzn hk HN HI HC HCS HA HP hcz
          generalize z.C z.k = C' at *
          generalize cs z.k = c at *
          generalize z.I z.k = i' at *
          generalize z.W z.k = w' at *
          generalize z.k = k at *
          generalize x.n = n at *
          go_hide hQ
          go_upto_region 5 with fail
          go_quiet (fail)
          have kI := KI.out nq
          have kg := KG.out nq
          clear KI KG
          go_wp2_with (first | (go_at_call 28; refine kI.mono ?_; rintro e w' ⟨rfl, e9⟩; have e8 := e9.symm; clear e9; subst e8) | (go_at_call 31; refine kg.mono ?_; rintro e w5 ⟨rfl, S5⟩))
          subst hQ
          go_step3
          obtain ⟨n', h1, h2, cb', z', h3, h4, h5⟩ := HQ.out _ S5.out
          subst h4
          exact ⟨n', h1, rfl, cb', z', FrT.mk, h3, h5⟩
  · have hany2 : anyB cs x.n = false := by simpa using hany
    have HZ : Hid (∀ W : World, Below w.heap.size w W → TakeP l x x 0 false ∧ St 64 62 F w W t x) := fun W hW => ⟨.inl ⟨fun j hj => by rw [HCS.out]; exact anyB_false hany2 j hj, rfl, rfl, rfl⟩, (HSV.out.below hW).st⟩
    have KC := hide_it (fun (W : World) cb (hr : W.heap[cb]? = some (Obj.cells (iRow cs x.n) 3)) => contains_any hr HN.out HC.out)
    rw [hany2] at KC
    clear hany hany2 HSV HI HC HCS HN
    generalize x.n = n at *
    go_enter Try.func18, Try.ntmps18
    go_wp2
    refine wp_scope_labels (fun _ _ _ _ => False) ?_ (fun _ _ _ _ q => q.elim)
    go_wp2_with (go_at_call 26; refine kc.mono ?_; rintro e w1 ⟨cb, rfl, HK⟩; refine Hid.out ?_)
    refine hide_it ?_
    have k2 := KC.out w1 cb HK.out.2.2
    go_wp2_with (go_at_call 27; refine k2.mono ?_; rintro e w' ⟨rfl, e9⟩; have e8 := e9.symm; clear e9; subst e8)
    (try simp only [Exit.jumps])
    go_ret2
    exact ⟨x, 0, false, rfl, HZ.out _ HK.out.1⟩
end Go.Proofs.Ytlhkahincnchjaa
