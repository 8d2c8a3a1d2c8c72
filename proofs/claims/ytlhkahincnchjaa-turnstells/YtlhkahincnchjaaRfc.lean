/- The document's own turns: Take. -/
import Derived.Test.YtlhkahincnchjaaRfa
import Derived.Deep.LoopGhost
import Derived.BigRegion
import Derived.RegionTactic
import Derived.Deep.RegionHeld3
namespace Go.Proofs.Ytlhkahincnchjaa
open Go.RowKit
open M
set_option linter.unusedVariables false
set_option linter.unusedSimpArgs false

/-- The document's turns on the way: the row's block is g. -/
structure RW (F : Nat → Prop) (w W : World) (t g cap : Nat) (x z : Tn) (cs : Nat → Int) : Prop where
  sv : SV 50 48 F w W t z (.slice (some ⟨g, 0, none⟩) z.n cap)
  wy : M.Way cs x z
  iv : Inv 1048576 z
/-- What is read of it. -/
structure RR (W : World) (t g cap : Nat) (x : Tn) : Prop where
  a0 : W.cell? ⟨t, 0, none⟩ = some (.int .i64 x.q)
  a1 : W.cell? ⟨t, 1, none⟩ = some (.slice (some ⟨g, 0, none⟩) x.n cap)
  a2 : W.cell? ⟨t, 2, none⟩ = some (.int .i64 x.k)
  af : ∀ i, W.frozen? ⟨t, i, none⟩ = false
  cap1 : x.n ≤ cap
  cap2 : cap ≤ maxLen
  mb : ∀ j, j < x.n → W.cell? ⟨g, j * 3, none⟩ = some (.int .i64 (x.I j)) ∧ W.cell? ⟨g, j * 3 + 1, none⟩ = some (.int .i64 (x.W j)) ∧ W.cell? ⟨g, j * 3 + 2, none⟩ = some (.int .i64 (x.C j))
  gf : ∀ i, W.frozen? ⟨g, i, none⟩ = false
theorem SV.read {F : Nat → Prop} {w W : World} {t g cap : Nat} {x : Tn} (h : SV 50 48 F w W t x (.slice (some ⟨g, 0, none⟩) x.n cap)) : RR W t g cap x := by
  have h1 := h.tm
  obtain ⟨ao, c, e, e1, e2, e3⟩ := h1.form
  cases e
  refine ⟨h1.c0, h1.c1, h1.c2, h1.fr, e1, e2, fun j hj => ?_, fun i => ?_⟩
  · obtain ⟨g', q, _, _, a, b, c, _⟩ := e3 j hj
    cases q
    exact ⟨a, b, c⟩
  · rcases h1.row.2 with ⟨q, _⟩ | ⟨g', c, cur, q, hb, hg, _⟩
    · cases q
    · cases q; simp [World.frozen?, hg]

theorem anyB_zero (cs : Nat → Int) : anyB cs 0 = false := rfl
theorem anyB_had {cs : Nat → Int} {k : Nat} (h : anyB cs k = true) : anyB cs (k + 1) = true := by
  obtain ⟨j, hj, hc⟩ := anyB_true h
  exact anyB_yes (j := j) (by omega) hc
theorem anyB_none {cs : Nat → Int} {k : Nat} (h : anyB cs k = false) (hc : cs k = 0) : anyB cs (k + 1) = false :=
  anyB_no fun j hj => by
    by_cases e : j = k
    · subst e; exact hc
    · exact anyB_false h j (by omega)
theorem Ws.turn {F : Nat → Prop} {w W : World} {la : Option Addr} {l : List Wn} (h : Ws w la l) (hF : ∀ b o, la = some ⟨b, o, none⟩ → ¬ F b) (ht : Turn F w W) : Ws W la l := fun i hi => by
  obtain ⟨b, o, e, hl, c0, c1⟩ := h i hi
  have hb := ht.block b hl (hF b o e)
  refine ⟨b, o, e, Nat.lt_of_lt_of_le hl ht.size, ?_, ?_⟩
  · rw [show W.cell? ⟨b, o + i * 2, none⟩ = w.cell? ⟨b, o + i * 2, none⟩ by simp only [World.cell?, hb]]; exact c0
  · rw [show W.cell? ⟨b, o + i * 2 + 1, none⟩ = w.cell? ⟨b, o + i * 2 + 1, none⟩ by simp only [World.cell?, hb]]; exact c1

def TkE (F : Nat → Prop) (w : World) (t : Nat) (l : List Wn) (x : Tn) (e : Ending) (w' : World) : Prop := ∃ y id ok, e = .returned (.tuple #[.int .i64 id, .bool ok]) ∧ Hid (TakeP l x y id ok ∧ St 50 48 F w w' t y)

theorem zero_block (W : World) : (W.alloc (.cells #[.int .i64 0, .int .i64 0, .int .i64 0] 50)).cell? ⟨W.heap.size, 0, none⟩ = some (.int .i64 0) ∧ (W.alloc (.cells #[.int .i64 0, .int .i64 0, .int .i64 0] 50)).cell? ⟨W.heap.size, 1, none⟩ = some (.int .i64 0) ∧ (W.alloc (.cells #[.int .i64 0, .int .i64 0, .int .i64 0] 50)).cell? ⟨W.heap.size, 2, none⟩ = some (.int .i64 0) ∧ (W.alloc (.cells #[.int .i64 0, .int .i64 0, .int .i64 0] 50)).frozen? ⟨W.heap.size, 0, none⟩ = false ∧ (W.alloc (.cells #[.int .i64 0, .int .i64 0, .int .i64 0] 50)).frozen? ⟨W.heap.size, 1, none⟩ = false ∧ (W.alloc (.cells #[.int .i64 0, .int .i64 0, .int .i64 0] 50)).frozen? ⟨W.heap.size, 2, none⟩ = false := by
  have h := heap_alloc_new W (.cells #[.int .i64 0, .int .i64 0, .int .i64 0] 50)
  refine ⟨?_, ?_, ?_, ?_, ?_, ?_⟩ <;> first | (rw [cell_of_row _ _ _ _ _ _ h]; rfl) | (simp only [World.frozen?, h]; rfl)
theorem new_block (W : World) (i w c : Int) : (W.alloc (.cells #[.int .i64 i, .int .i64 w, .int .i64 c] 50)).drew.cell? ⟨W.heap.size, 0, none⟩ = some (.int .i64 i) ∧ (W.alloc (.cells #[.int .i64 i, .int .i64 w, .int .i64 c] 50)).drew.cell? ⟨W.heap.size, 1, none⟩ = some (.int .i64 w) ∧ (W.alloc (.cells #[.int .i64 i, .int .i64 w, .int .i64 c] 50)).drew.cell? ⟨W.heap.size, 2, none⟩ = some (.int .i64 c) := by
  have h : (W.alloc (.cells #[.int .i64 i, .int .i64 w, .int .i64 c] 50)).drew.heap[W.heap.size]? = _ := heap_alloc_new W (.cells #[.int .i64 i, .int .i64 w, .int .i64 c] 50)
  refine ⟨?_, ?_, ?_⟩ <;> (rw [cell_of_row _ _ _ _ _ _ h]; rfl)
theorem cell_past (W : World) {a p : Addr} (v : Value) (h : p.block ≠ a.block) : (W.setCell a v).cell? p = W.cell? p := by
  simp only [World.cell?, Below.heap_setCell _ _ _ _ h]
theorem SV.lt2 {F : Nat → Prop} {w W : World} {t g cap : Nat} {x : Tn} (h : SV 50 48 F w W t x (.slice (some ⟨g, 0, none⟩) x.n cap)) : t < W.heap.size ∧ g < W.heap.size := ⟨h.tm.lt t (.inl rfl), h.tm.lt g (.inr rfl)⟩

set_option maxRecDepth 1000000 in
set_option maxHeartbeats 8000000 in
theorem rtake_any {w : World} {F : Nat → Prop} {t : Nat} {x : Tn} (h : MO 50 48 w F t x) (hi : Inv 1048576 x) (hn : x.n ≤ 1000000) {la : Option Addr} {l : List Wn} {m lc : Nat} (hl : Ws w la l) (hF : ∀ b o, la = some ⟨b, o, none⟩ → ¬ F b) (hm : l.length = m) (hm2 : m ≤ 1000000) :
    Calls Try.prog 19 #[ptr t, .slice la m lc] w fun e w' => Hid (TkE F w t l x e w') := by
  obtain ⟨v, sv0⟩ := SV.start h
  have HSV := hide_it sv0
  have HI := hide_it hi
  have HN := hide_it hn
  have KR : Hid (∀ (W : World) (id : Int), Turn F w W → Calls Try.prog 32 #[.slice la m lc, .int .i64 id] W fun e w' => e = .returned (.int .i64 (costOf l id)) ∧ w' = W) := fun W id hW => rcost_any (hl.turn hF hW) hm hm2 id
  have b1 := sv0.tm.c1
  have HCB : Hid (∀ j, 0 ≤ costs l x j ∧ costs l x j ≤ 1048576) := fun j => costOf_bnd _ _
  obtain ⟨ao, cap, rfl, hcap, hcm, hmb⟩ := sv0.tm.mbs
  have HM := hide_it hmb
  obtain ⟨n, hnn⟩ : ∃ n, x.n = n := ⟨_, rfl⟩
  rw [hnn] at b1
  have HNN := hide_it hnn
  have hnb : n ≤ 1000000 := by rw [← hnn]; exact hn
  have hck : n ≤ cap := by rw [← hnn]; exact hcap
  have hcm' : cap ≤ maxLen := hcm
  clear h hi hn hl hF hm hm2 sv0 hmb hcap hcm hnn
  go_enter Try.func19, Try.ntmps19
  go_wp2
  go_loop [6, 7] (fun a i => ∃ (k : Nat), k ≤ n ∧ i = .int .i64 k ∧ a = .bool (anyB (costs l x) k)) (fun a i => n - (intOf i).toNat)
  case atStart => exact ⟨0, Nat.zero_le _, rfl, rfl⟩
  case round =>
    obtain ⟨k, hk, rfl, rfl⟩ := hrel
    by_cases hlt : k < n
    · cases hA : anyB (costs l x) k with
      | true =>
        have e1 := anyB_had hA
        go_wp2
        go_round
        case rel => exact ⟨k + 1, by omega, by go_num, by rw [e1]⟩
        case measure => simp [intOf]; omega
      | false =>
        obtain ⟨g, rfl, hg, m0, m1, m2⟩ := HM.out k (by rw [HNN.out]; exact hlt)
        have kr := KR.out w (x.I k) HSV.out.tu
        have hcost : costOf l (x.I k) = costs l x k := rfl
        have hb := HCB.out k
        rw [hcost] at kr
        clear hg m1 m2 hcost
        by_cases hc : costs l x k = 0
        · have HE := hide_it (anyB_none hA hc)
          have hd : decide (0 < costs l x k) = false := by simp; omega
          clear hA hc hb HM
          generalize costs l x k = c at *
          generalize x.I k = i0 at *
          go_wp2_with (go_at_call 32; refine kr.mono ?_; rintro e w1 ⟨rfl, e9⟩; have e8 := e9.symm; clear e9; subst e8)
          go_round
          case rel => exact ⟨k + 1, by omega, by go_num, by rw [HE.out]⟩
          case measure => simp [intOf]; omega
        · have HE := hide_it (anyB_yes (cs := costs l x) (n := k + 1) (j := k) (by omega) hc)
          have hd : decide (0 < costs l x k) = true := by simp; omega
          clear hA hc hb HM
          generalize costs l x k = c at *
          generalize x.I k = i0 at *
          go_wp2_with (go_at_call 32; refine kr.mono ?_; rintro e w1 ⟨rfl, e9⟩; have e8 := e9.symm; clear e9; subst e8)
          go_round
          case rel => exact ⟨k + 1, by omega, by go_num, by rw [HE.out]⟩
          case measure => simp [intOf]; omega
    · have : k = n := by omega
      subst this
      cases hA : anyB (costs l x) k with
      | false =>
        have HZ : Hid (TakeP l x x 0 false ∧ St 50 48 F w w t x) := ⟨.inl ⟨fun j hj => anyB_false hA j (by rw [← HNN.out]; exact hj), rfl, rfl, rfl⟩, HSV.out.st⟩
        clear hA
        go_wp2
        go_ret2
        exact hide_it ⟨x, 0, false, rfl, HZ⟩
      | true =>
        obtain ⟨p, hp, hcp⟩ := anyB_true hA
        obtain ⟨g, rfl, _⟩ := HM.out p (by rw [HNN.out]; exact hp)
        have HP := hide_it (And.intro hp hcp)
        clear hA hp hcp HM
        obtain ⟨cs, hcs⟩ : ∃ cs, costs l x = cs := ⟨_, rfl⟩
        have HCS := hide_it hcs
        rw [hcs] at HP HCB
        have HR0 : Hid (RW F w w t g cap x x cs) := ⟨HSV.out, M.Way.refl _ _, HI.out⟩
        have KR2 : Hid (∀ (W : World) (z : Tn), SV 50 48 F w W t z (.slice (some ⟨g, 0, none⟩) z.n cap) → z.I = x.I → ∀ j, Calls Try.prog 32 #[.slice la m lc, .int .i64 (z.I j)] W fun e w' => e = .returned (.int .i64 (cs j)) ∧ w' = W) := fun W z hz e j => by
          rw [e, ← hcs]
          exact KR.out W (x.I j) hz.tu
        have HMU0 : Hid (mu p x ≤ 268435456 * x.n + x.n) := mu_le HI.out (by rw [HNN.out]; exact HP.out.1)
        clear hcs KR HSV HI
        go_wp2
        go_loopg [] (268435456 * x.n + x.n) (fun m' W => ∃ z, mu p z ≤ m' ∧ Hid (RW F w W t g cap x z cs))
        case atStart => exact ⟨x, HMU0.out, HR0⟩
        case round =>
          obtain ⟨z, hmu, HR⟩ := hrel
          clear b1 hlt hk
          have HMU := hide_it hmu
          have hs := HR.out.wy.same
          have hi := HR.out.iv
          have S0 := hide_it HR.out.sv
          have hzn : z.n = k := hs.n.trans HNN.out
          have hkz : z.k < z.n := hi.kn (by have := HP.out.1; omega)
          have hkk : z.k < k := by omega
          have EI := hide_it hs.I
          obtain ⟨q, eq⟩ : ∃ q, z.q = q := ⟨_, rfl⟩
          obtain ⟨kz, ek⟩ : ∃ kz, z.k = kz := ⟨_, rfl⟩
          obtain ⟨i0, ei⟩ : ∃ i, z.I kz = i := ⟨_, rfl⟩
          obtain ⟨w0, ew⟩ : ∃ i, z.W kz = i := ⟨_, rfl⟩
          obtain ⟨c0, ec⟩ : ∃ i, z.C kz = i := ⟨_, rfl⟩
          obtain ⟨c, eco⟩ : ∃ i, cs kz = i := ⟨_, rfl⟩
          rw [ek] at hkz hkk
          have EQ := hide_it eq
          have EN := hide_it hzn
          have EK := hide_it ek
          have EV := hide_it (And.intro ei (And.intro ew ec))
          have ECO := hide_it eco
          have HKZ := hide_it hkz
          have r0 := S0.out.read
          have a00 : wr.cell? ⟨t, 0, none⟩ = some (.int .i64 q) := by rw [← eq]; exact r0.a0
          have a10 : wr.cell? ⟨t, 1, none⟩ = some (.slice (some ⟨g, 0, none⟩) k cap) := by rw [← hzn]; exact r0.a1
          have a20 : wr.cell? ⟨t, 2, none⟩ = some (.int .i64 kz) := by rw [← ek]; exact r0.a2
          obtain ⟨b00, b10, b20⟩ := r0.mb kz hkz
          rw [ei] at b00
          rw [ew] at b10
          rw [ec] at b20
          have hcb := HCB.out kz
          rw [eco] at hcb
          have hc0 := hi.c0 kz hkz
          have hcl := hi.lt hkz
          have hgk := hi.gain hkz
          rw [ec] at hc0 hcl
          have HSTP : Hid (Stop cs z ↔ (c ≠ 0 ∧ c ≤ c0)) := by show _ ↔ _; unfold Stop; rw [ek, eco, ec]
          have KRA : Hid (∀ W, SV 50 48 F w W t z (.slice (some ⟨g, 0, none⟩) z.n cap) → Calls Try.prog 32 #[.slice la m lc, .int .i64 i0] W fun e w' => e = .returned (.int .i64 c) ∧ w' = W) := fun W h => by
            have := KR2.out W z h EI.out kz
            rw [ei, eco] at this
            exact this
          clear hmu hs r0 a00 eq ek ei ew ec eco hzn hkz
          by_cases hS : c ≠ 0 ∧ c ≤ c0
          · as_aux_lemma =>
              have HS : Hid (Stop cs z) := HSTP.out.2 hS
              have BZ0 : Below wr.heap.size wr (wr.alloc (Obj.cells #[Value.int .i64 0, Value.int .i64 0, Value.int .i64 0] 50)) := (Below.refl _ _).alloc (Nat.le_refl _) _
              have hlt0 := S0.out.lt2
              have a1z : (wr.alloc (Obj.cells #[Value.int .i64 0, Value.int .i64 0, Value.int .i64 0] 50)).cell? ⟨t, 1, none⟩ = some (.slice (some ⟨g, 0, none⟩) k cap) := by rw [BZ0.cell (p := ⟨t, 1, none⟩) hlt0.1]; exact a10
              have a2z : (wr.alloc (Obj.cells #[Value.int .i64 0, Value.int .i64 0, Value.int .i64 0] 50)).cell? ⟨t, 2, none⟩ = some (.int .i64 kz) := by rw [BZ0.cell (p := ⟨t, 2, none⟩) hlt0.1]; exact a20
              have b0z : (wr.alloc (Obj.cells #[Value.int .i64 0, Value.int .i64 0, Value.int .i64 0] 50)).cell? ⟨g, kz * 3, none⟩ = some (.int .i64 i0) := by rw [BZ0.cell (p := ⟨g, _, none⟩) hlt0.2]; exact b00
              have b1z : (wr.alloc (Obj.cells #[Value.int .i64 0, Value.int .i64 0, Value.int .i64 0] 50)).cell? ⟨g, kz * 3 + 1, none⟩ = some (.int .i64 w0) := by rw [BZ0.cell (p := ⟨g, _, none⟩) hlt0.2]; exact b10
              have b2z : (wr.alloc (Obj.cells #[Value.int .i64 0, Value.int .i64 0, Value.int .i64 0] 50)).cell? ⟨g, kz * 3 + 2, none⟩ = some (.int .i64 c0) := by rw [BZ0.cell (p := ⟨g, _, none⟩) hlt0.2]; exact b20
              obtain ⟨z0, z1, z2, zf0, zf1, zf2⟩ := zero_block wr
              clear BZ0 hlt0
              go_upto_region 8 with fail
              go_region
              have SB0 := hide_it (S0.out.below ((Below.refl _ _).alloc (Nat.le_refl _) (.cells #[.int .i64 i0, .int .i64 w0, .int .i64 c0] 50)).drew)
              have d00 : (wr.alloc (.cells #[.int .i64 i0, .int .i64 w0, .int .i64 c0] 50)).drew.cell? ⟨wr.heap.size, 0, none⟩ = some (.int .i64 i0) := (new_block wr i0 w0 c0).1
              have d10 : (wr.alloc (.cells #[.int .i64 i0, .int .i64 w0, .int .i64 c0] 50)).drew.cell? ⟨wr.heap.size, 1, none⟩ = some (.int .i64 w0) := (new_block wr i0 w0 c0).2.1
              have d20 : (wr.alloc (.cells #[.int .i64 i0, .int .i64 w0, .int .i64 c0] 50)).drew.cell? ⟨wr.heap.size, 2, none⟩ = some (.int .i64 c0) := (new_block wr i0 w0 c0).2.2
              have hne0 : wr.heap.size ≠ g := fun e => by have := S0.out.lt2.2; omega
              have hnt0 : wr.heap.size ≠ t := fun e => by have := S0.out.lt2.1; omega
              have HNE0 := hide_it (And.intro hne0 hnt0)
              clear z0 z1 z2 zf0 zf1 zf2 a1z a2z b0z b1z b2z hne0 hnt0 a10 a20 b00 b10 b20
              change Exit.then _ _ Exit.normal _ ((wr.alloc (.cells #[.int .i64 i0, .int .i64 w0, .int .i64 c0] 50)).drew)
              generalize (wr.alloc (.cells #[.int .i64 i0, .int .i64 w0, .int .i64 c0] 50)).drew = W1 at *
              generalize wr.heap.size = nb0 at *
              have r1 := SB0.out.read
              have a11 : W1.cell? ⟨t, 1, none⟩ = some (.slice (some ⟨g, 0, none⟩) k cap) := by rw [← EN.out]; exact r1.a1
              have a21 : W1.cell? ⟨t, 2, none⟩ = some (.int .i64 kz) := by rw [← EK.out]; exact r1.a2
              have b21 : W1.cell? ⟨g, kz * 3 + 2, none⟩ = some (.int .i64 c0) := by rw [← EV.out.2.2]; exact (r1.mb kz HKZ.out).2.2
              have f21 := r1.gf (kz * 3 + 2)
              have kr := KRA.out _ SB0.out
              have hd1 : decide (0 < c) = true := decide_eq_true (by omega)
              have hd2 : decide (c ≤ c0) = true := decide_eq_true (by omega)
              have hw1 : IntKind.i64.wrap (c0 - c) = c0 - c := by rw [IntKind.wrap_i64]; omega
              have hw2 : wrap64 (c0 - c) = c0 - c := by unfold wrap64; omega
              have hbn : nb0 ≠ g := HNE0.out.1
              clear r1 hcb hc0 hcl hgk hi
              go_upto_region 11 with (go_at_call 32; refine kr.mono ?_; rintro e w1 ⟨rfl, e9⟩; have e8 := e9.symm; clear e9; subst e8)
              go_region
              change Exit.then _ _ Exit.normal _ ((W1.setCell ⟨g, kz * 3 + 2, none⟩ (.int .i64 (c0 - c))).drew)
              have d0 : ((W1.setCell ⟨g, kz * 3 + 2, none⟩ (.int .i64 (c0 - c))).drew).cell? ⟨nb0, 0, none⟩ = some (.int .i64 i0) := by
                show (W1.setCell ⟨g, kz * 3 + 2, none⟩ (.int .i64 (c0 - c))).cell? ⟨nb0, 0, none⟩ = _
                rw [cell_past _ _ (by exact hbn)]; exact d00
              have HE : Hid (TkE F w t l x (.returned (.tuple #[.int .i64 i0, .bool true])) ((W1.setCell ⟨g, kz * 3 + 2, none⟩ (.int .i64 (c0 - c))).drew)) := by
                refine ⟨pay cs z, i0, true, rfl, hide_it ⟨.inr ⟨⟨p, by rw [HNN.out]; exact HP.out.1, by rw [HCS.out]; exact HP.out.2⟩, ⟨z, by rw [HCS.out]; exact HR.out.wy, by rw [HCS.out]; exact HS.out, by rw [HCS.out]⟩, ?_, rfl⟩, ?_⟩⟩
                · show i0 = z.I z.k
                  rw [EK.out, EV.out.1]
                · have h1 := SB0.out.setC HKZ.out (c0 - c)
                  have h2 : pay cs z = { z with C := upd z.C kz (c0 - c) } := by unfold pay; rw [EK.out, EV.out.2.2, ECO.out]
                  rw [h2]
                  exact h1.st.below (Below.refl _ _).drew
              clear hw1 hw2 hd1 hd2 b21 f21 a11 a21 d00 d10 d20
              generalize (W1.setCell ⟨g, kz * 3 + 2, none⟩ (.int .i64 (c0 - c))).drew = W2 at *
              go_wp2
              go_ret2
              exact HE
          · have HNS : Hid (¬ Stop cs z) := fun q => hS (HSTP.out.1 q)
            have HI2 := hide_it hi
            have hs_n : Hid (z.n = k) := EN
            have HDN : Hid (mu p (nxt cs z) < gk) := by
              have := mu_nxt (cs := cs) HR.out.iv (by omega) (p := p) (by rw [hs_n.out]; exact HP.out.1) HP.out.2 HNS.out
              have h2 := HMU.out
              show _ < _
              omega
            have HNX : Hid (Inv 1048576 (nxt cs z)) := inv_nxt HR.out.iv (by have := HKZ.out; omega) (by omega) (fun j _ => (HCB.out j).2) HNS.out
            by_cases hc : c = 0
            · have BZ0 : Below wr.heap.size wr (wr.alloc (Obj.cells #[Value.int .i64 0, Value.int .i64 0, Value.int .i64 0] 50)) := (Below.refl _ _).alloc (Nat.le_refl _) _
              have hlt0 := S0.out.lt2
              have a1z : (wr.alloc (Obj.cells #[Value.int .i64 0, Value.int .i64 0, Value.int .i64 0] 50)).cell? ⟨t, 1, none⟩ = some (.slice (some ⟨g, 0, none⟩) k cap) := by rw [BZ0.cell (p := ⟨t, 1, none⟩) hlt0.1]; exact a10
              have a2z : (wr.alloc (Obj.cells #[Value.int .i64 0, Value.int .i64 0, Value.int .i64 0] 50)).cell? ⟨t, 2, none⟩ = some (.int .i64 kz) := by rw [BZ0.cell (p := ⟨t, 2, none⟩) hlt0.1]; exact a20
              have b0z : (wr.alloc (Obj.cells #[Value.int .i64 0, Value.int .i64 0, Value.int .i64 0] 50)).cell? ⟨g, kz * 3, none⟩ = some (.int .i64 i0) := by rw [BZ0.cell (p := ⟨g, _, none⟩) hlt0.2]; exact b00
              have b1z : (wr.alloc (Obj.cells #[Value.int .i64 0, Value.int .i64 0, Value.int .i64 0] 50)).cell? ⟨g, kz * 3 + 1, none⟩ = some (.int .i64 w0) := by rw [BZ0.cell (p := ⟨g, _, none⟩) hlt0.2]; exact b10
              have b2z : (wr.alloc (Obj.cells #[Value.int .i64 0, Value.int .i64 0, Value.int .i64 0] 50)).cell? ⟨g, kz * 3 + 2, none⟩ = some (.int .i64 c0) := by rw [BZ0.cell (p := ⟨g, _, none⟩) hlt0.2]; exact b20
              obtain ⟨z0, z1, z2, zf0, zf1, zf2⟩ := zero_block wr
              clear BZ0 hlt0
              go_upto_region 8 with fail
              go_region
              have SB0 := hide_it (S0.out.below ((Below.refl _ _).alloc (Nat.le_refl _) (.cells #[.int .i64 i0, .int .i64 w0, .int .i64 c0] 50)).drew)
              have d00 : (wr.alloc (.cells #[.int .i64 i0, .int .i64 w0, .int .i64 c0] 50)).drew.cell? ⟨wr.heap.size, 0, none⟩ = some (.int .i64 i0) := (new_block wr i0 w0 c0).1
              have d10 : (wr.alloc (.cells #[.int .i64 i0, .int .i64 w0, .int .i64 c0] 50)).drew.cell? ⟨wr.heap.size, 1, none⟩ = some (.int .i64 w0) := (new_block wr i0 w0 c0).2.1
              have d20 : (wr.alloc (.cells #[.int .i64 i0, .int .i64 w0, .int .i64 c0] 50)).drew.cell? ⟨wr.heap.size, 2, none⟩ = some (.int .i64 c0) := (new_block wr i0 w0 c0).2.2
              have hne0 : wr.heap.size ≠ g := fun e => by have := S0.out.lt2.2; omega
              have hnt0 : wr.heap.size ≠ t := fun e => by have := S0.out.lt2.1; omega
              have HNE0 := hide_it (And.intro hne0 hnt0)
              clear z0 z1 z2 zf0 zf1 zf2 a1z a2z b0z b1z b2z hne0 hnt0 a10 a20 b00 b10 b20
              change Exit.then _ _ Exit.normal _ ((wr.alloc (.cells #[.int .i64 i0, .int .i64 w0, .int .i64 c0] 50)).drew)
              generalize (wr.alloc (.cells #[.int .i64 i0, .int .i64 w0, .int .i64 c0] 50)).drew = W1 at *
              generalize wr.heap.size = nb0 at *
              subst hc
              have r1 := SB0.out.read
              have a11 : W1.cell? ⟨t, 1, none⟩ = some (.slice (some ⟨g, 0, none⟩) k cap) := by rw [← EN.out]; exact r1.a1
              have a21 : W1.cell? ⟨t, 2, none⟩ = some (.int .i64 kz) := by rw [← EK.out]; exact r1.a2
              have b21 : W1.cell? ⟨g, kz * 3 + 2, none⟩ = some (.int .i64 c0) := by rw [← EV.out.2.2]; exact (r1.mb kz HKZ.out).2.2
              have f21 := r1.gf (kz * 3 + 2)
              have kr := KRA.out _ SB0.out
              clear r1 hcb hc0 hcl hgk hi
              go_upto_region 14 with (go_at_call 32; refine kr.mono ?_; rintro e w1 ⟨rfl, e9⟩; have e8 := e9.symm; clear e9; subst e8)
              go_region
              change Exit.then _ _ Exit.normal _ ((W1.setCell ⟨g, kz * 3 + 2, none⟩ (.int .i64 0)).drew)
              have S1 := hide_it ((SB0.out.setC HKZ.out 0).below (Below.refl _ _).drew)
              clear b21 f21 a11 a21 d00 d10 d20 kr
              generalize (W1.setCell ⟨g, kz * 3 + 2, none⟩ (.int .i64 0)).drew = W2 at *
              have k'lt : (kz + 1) % k < k := Nat.mod_lt _ (by omega)
              obtain ⟨k', hk'⟩ : ∃ k', (kz + 1) % k = k' := ⟨_, rfl⟩
              rw [hk'] at k'lt
              have HK' := hide_it hk'
              have hm : ((kz : Int) + 1).tmod (k : Int) = (k' : Int) := by
                rw [Int.tmod_eq_emod_of_nonneg (by omega), ← hk']
                push_cast
                rfl
              have hz : ((k : Int) == 0) = false := by simp; omega
              have hcx : k ≤ 9223372036854775807 := by omega
              have hn0 : ¬ k = 0 := by omega
              have hw0 : IntKind.i64.wrap ((kz : Int) + 1) = (kz : Int) + 1 := by rw [IntKind.wrap_i64]; omega
              have hw1 : wrap64 ((kz : Int) + 1) = (kz : Int) + 1 := by unfold wrap64; omega
              have r2 := S1.out.read
              have a12 : W2.cell? ⟨t, 1, none⟩ = some (.slice (some ⟨g, 0, none⟩) k cap) := by rw [← EN.out]; exact r2.a1
              have a22 : W2.cell? ⟨t, 2, none⟩ = some (.int .i64 kz) := by rw [← EK.out]; exact r2.a2
              have f22 := r2.af 2
              clear r2 hk'
              go_upto_region 15 with fail
              go_region
              change Exit.then _ _ Exit.normal _ ((W2.setCell ⟨t, 2, none⟩ (.int .i64 k')).drew)
              have S2 := hide_it ((S1.out.setK k').below (Below.refl _ _).drew)
              clear a12 a22 f22 hm hz hcx hn0 hw0 hw1
              generalize (W2.setCell ⟨t, 2, none⟩ (.int .i64 k')).drew = W3 at *
              have hkz' : k' < z.n := by rw [EN.out]; exact k'lt
              have HKZ' := hide_it hkz'
              obtain ⟨i1, ei⟩ : ∃ i, z.I k' = i := ⟨_, rfl⟩
              obtain ⟨w1, ew⟩ : ∃ i, z.W k' = i := ⟨_, rfl⟩
              obtain ⟨c1, ec⟩ : ∃ i, upd z.C kz 0 k' = i := ⟨_, rfl⟩
              obtain ⟨c', eco⟩ : ∃ i, cs k' = i := ⟨_, rfl⟩
              obtain ⟨G, eG⟩ : ∃ i, q * w1 = i := ⟨_, rfl⟩
              have hcb' := HCB.out k'
              rw [eco] at hcb'
              have hc1 : 0 ≤ c1 ∧ c1 ≤ 268435456 := by
                have h1 := HI2.out.c0 k' hkz'
                have h2 := HI2.out.lt hkz'
                have h3 := HI2.out.gain hkz'
                rw [← ec]
                unfold upd; split <;> omega
              have hG : 1 ≤ G ∧ G ≤ 104857600 := by
                have h3 := HI2.out.gain hkz'
                rw [EQ.out, ew, eG] at h3
                exact h3
              have EV' := hide_it (And.intro ei (And.intro ew ec))
              have ECO' := hide_it eco
              have EG := hide_it eG
              have r3 := S2.out.read
              have a03 : W3.cell? ⟨t, 0, none⟩ = some (.int .i64 q) := by rw [← EQ.out]; exact r3.a0
              have a13 : W3.cell? ⟨t, 1, none⟩ = some (.slice (some ⟨g, 0, none⟩) k cap) := by rw [← EN.out]; exact r3.a1
              have a23 : W3.cell? ⟨t, 2, none⟩ = some (.int .i64 k') := r3.a2
              obtain ⟨e03, e13, e23⟩ := r3.mb k' hkz'
              have b03 : W3.cell? ⟨g, k' * 3, none⟩ = some (.int .i64 i1) := by rw [← ei]; exact e03
              have b13 : W3.cell? ⟨g, k' * 3 + 1, none⟩ = some (.int .i64 w1) := by rw [← ew]; exact e13
              have b23 : W3.cell? ⟨g, k' * 3 + 2, none⟩ = some (.int .i64 c1) := by rw [← ec]; exact e23
              have KRB : Hid (∀ W, SV 50 48 F w W t { { z with C := upd z.C kz 0 } with k := k' } (.slice (some ⟨g, 0, none⟩) z.n cap) → Calls Try.prog 32 #[.slice la m lc, .int .i64 i1] W fun e w' => e = .returned (.int .i64 c') ∧ w' = W) := fun W h => by
                have := KR2.out W _ h EI.out k'
                rw [← ei, ← eco]
                exact this
              clear r3 ei ew ec eco eG hkz' e03 e13 e23
              have BZ3 : Below W3.heap.size W3 (W3.alloc (Obj.cells #[Value.int .i64 0, Value.int .i64 0, Value.int .i64 0] 50)) := (Below.refl _ _).alloc (Nat.le_refl _) _
              have hlt3 := S2.out.lt2
              have a1z : (W3.alloc (Obj.cells #[Value.int .i64 0, Value.int .i64 0, Value.int .i64 0] 50)).cell? ⟨t, 1, none⟩ = some (.slice (some ⟨g, 0, none⟩) k cap) := by rw [BZ3.cell (p := ⟨t, 1, none⟩) hlt3.1]; exact a13
              have a2z : (W3.alloc (Obj.cells #[Value.int .i64 0, Value.int .i64 0, Value.int .i64 0] 50)).cell? ⟨t, 2, none⟩ = some (.int .i64 k') := by rw [BZ3.cell (p := ⟨t, 2, none⟩) hlt3.1]; exact a23
              have b0z : (W3.alloc (Obj.cells #[Value.int .i64 0, Value.int .i64 0, Value.int .i64 0] 50)).cell? ⟨g, k' * 3, none⟩ = some (.int .i64 i1) := by rw [BZ3.cell (p := ⟨g, _, none⟩) hlt3.2]; exact b03
              have b1z : (W3.alloc (Obj.cells #[Value.int .i64 0, Value.int .i64 0, Value.int .i64 0] 50)).cell? ⟨g, k' * 3 + 1, none⟩ = some (.int .i64 w1) := by rw [BZ3.cell (p := ⟨g, _, none⟩) hlt3.2]; exact b13
              have b2z : (W3.alloc (Obj.cells #[Value.int .i64 0, Value.int .i64 0, Value.int .i64 0] 50)).cell? ⟨g, k' * 3 + 2, none⟩ = some (.int .i64 c1) := by rw [BZ3.cell (p := ⟨g, _, none⟩) hlt3.2]; exact b23
              obtain ⟨z0, z1, z2, zf0, zf1, zf2⟩ := zero_block W3
              clear BZ3 hlt3
              go_upto_region 16 with fail
              go_region
              have SB3 := hide_it (S2.out.below ((Below.refl _ _).alloc (Nat.le_refl _) (.cells #[.int .i64 i1, .int .i64 w1, .int .i64 c1] 50)).drew)
              have d03 : (W3.alloc (.cells #[.int .i64 i1, .int .i64 w1, .int .i64 c1] 50)).drew.cell? ⟨W3.heap.size, 0, none⟩ = some (.int .i64 i1) := (new_block W3 i1 w1 c1).1
              have d13 : (W3.alloc (.cells #[.int .i64 i1, .int .i64 w1, .int .i64 c1] 50)).drew.cell? ⟨W3.heap.size, 1, none⟩ = some (.int .i64 w1) := (new_block W3 i1 w1 c1).2.1
              have d23 : (W3.alloc (.cells #[.int .i64 i1, .int .i64 w1, .int .i64 c1] 50)).drew.cell? ⟨W3.heap.size, 2, none⟩ = some (.int .i64 c1) := (new_block W3 i1 w1 c1).2.2
              have hne3 : W3.heap.size ≠ g := fun e => by have := S2.out.lt2.2; omega
              have hnt3 : W3.heap.size ≠ t := fun e => by have := S2.out.lt2.1; omega
              have HNE3 := hide_it (And.intro hne3 hnt3)
              clear z0 z1 z2 zf0 zf1 zf2 a1z a2z b0z b1z b2z hne3 hnt3 a13 a23 b03 b13 b23
              change Exit.then _ _ Exit.normal _ ((W3.alloc (.cells #[.int .i64 i1, .int .i64 w1, .int .i64 c1] 50)).drew)
              generalize (W3.alloc (.cells #[.int .i64 i1, .int .i64 w1, .int .i64 c1] 50)).drew = W4 at *
              generalize W3.heap.size = nb3 at *
              have kr := KRB.out _ SB3.out
              by_cases hc' : c' = 0
              · as_aux_lemma =>
                  subst hc'
                  have HQ := hide_it (show nxt cs z = { { z with C := upd z.C kz 0 } with k := k' } by unfold nxt; simp only [EK.out, EN.out, HK'.out, ECO.out, ECO'.out, if_true])
                  have HEND : Hid (mu p (nxt cs z) < gk ∧ RW F w W4 t g cap x (nxt cs z) cs) := by
                    refine ⟨HDN.out, ?_⟩
                    rw [HQ.out]
                    exact ⟨SB3.out, by rw [← HQ.out]; exact HR.out.wy.step HNS.out, by rw [← HQ.out]; exact HNX.out⟩
                  clear hcb' hc1 hG a03
                  go_wp2_with (go_at_call 32; refine kr.mono ?_; rintro e w1 ⟨rfl, e9⟩; have e8 := e9.symm; clear e9; subst e8)
                  go_roundg (mu p (nxt cs z))
                  case measure => exact HEND.out.1
                  case rel => exact ⟨nxt cs z, Nat.le_refl _, HEND.out.2⟩
              · as_aux_lemma =>
                  have hd4 : decide (0 < c') = true := decide_eq_true (by omega)
                  have hp1 : IntKind.i64.wrap (q * w1) = G := by rw [EG.out, IntKind.wrap_i64]; omega
                  have hp2 : wrap64 (q * w1) = G := by rw [EG.out]; unfold wrap64; omega
                  have hp3 : IntKind.i64.wrap (c1 + G) = c1 + G := by rw [IntKind.wrap_i64]; omega
                  have hp4 : wrap64 (c1 + G) = c1 + G := by unfold wrap64; omega
                  have r4 := SB3.out.read
                  have a04 : W4.cell? ⟨t, 0, none⟩ = some (.int .i64 q) := by rw [← EQ.out]; exact r4.a0
                  have a14 : W4.cell? ⟨t, 1, none⟩ = some (.slice (some ⟨g, 0, none⟩) k cap) := by rw [← EN.out]; exact r4.a1
                  have a24 : W4.cell? ⟨t, 2, none⟩ = some (.int .i64 k') := r4.a2
                  have b24 : W4.cell? ⟨g, k' * 3 + 2, none⟩ = some (.int .i64 c1) := by rw [← EV'.out.2.2]; exact (r4.mb k' HKZ'.out).2.2
                  have f24 := r4.gf (k' * 3 + 2)
                  have HQ := hide_it (show nxt cs z = { { { z with C := upd z.C kz 0 } with k := k' } with C := upd (upd z.C kz 0) k' (c1 + G) } by
                    unfold nxt
                    simp only [EK.out, EN.out, HK'.out, ECO.out, ECO'.out, EQ.out, EV'.out.2.1, EV'.out.2.2, EG.out, if_true, if_neg hc'])
                  have S5 := hide_it ((SB3.out.setC HKZ'.out (c1 + G)).below (Below.refl _ _).drew)
                  have HEND : Hid (mu p (nxt cs z) < gk ∧ RW F w ((W4.setCell ⟨g, k' * 3 + 2, none⟩ (.int .i64 (c1 + G))).drew) t g cap x (nxt cs z) cs) := by
                    refine ⟨HDN.out, ?_⟩
                    rw [HQ.out]
                    exact ⟨S5.out, by rw [← HQ.out]; exact HR.out.wy.step HNS.out, by rw [← HQ.out]; exact HNX.out⟩
                  have hgt : g ≠ t := fun e => by have q := SB3.out.tm.tv; rw [e] at q; exact q rfl
                  have HK5 : Hid (((W4.setCell ⟨g, k' * 3 + 2, none⟩ (.int .i64 (c1 + G))).drew).cell? ⟨t, 0, none⟩ = some (.int .i64 q) ∧ ((W4.setCell ⟨g, k' * 3 + 2, none⟩ (.int .i64 (c1 + G))).drew).cell? ⟨t, 1, none⟩ = some (.slice (some ⟨g, 0, none⟩) k cap) ∧ ((W4.setCell ⟨g, k' * 3 + 2, none⟩ (.int .i64 (c1 + G))).drew).cell? ⟨t, 2, none⟩ = some (.int .i64 k') ∧ ((W4.setCell ⟨g, k' * 3 + 2, none⟩ (.int .i64 (c1 + G))).drew).cell? ⟨nb3, 1, none⟩ = some (.int .i64 w1) ∧ ((W4.setCell ⟨g, k' * 3 + 2, none⟩ (.int .i64 (c1 + G))).drew).cell? ⟨nb3, 2, none⟩ = some (.int .i64 c1)) :=
                    ⟨(cell_past W4 (a := ⟨g, k' * 3 + 2, none⟩) (p := ⟨t, 0, none⟩) _ (Ne.symm hgt)).trans a04, (cell_past W4 (a := ⟨g, k' * 3 + 2, none⟩) (p := ⟨t, 1, none⟩) _ (Ne.symm hgt)).trans a14, (cell_past W4 (a := ⟨g, k' * 3 + 2, none⟩) (p := ⟨t, 2, none⟩) _ (Ne.symm hgt)).trans a24, (cell_past W4 (a := ⟨g, k' * 3 + 2, none⟩) (p := ⟨nb3, 1, none⟩) _ HNE3.out.1).trans d13, (cell_past W4 (a := ⟨g, k' * 3 + 2, none⟩) (p := ⟨nb3, 2, none⟩) _ HNE3.out.1).trans d23⟩
                  clear hcb' hc1 hG a03 r4 hc' hgt
                  go_upto_region 18 with (go_at_call 32; refine kr.mono ?_; rintro e w1 ⟨rfl, e9⟩; have e8 := e9.symm; clear e9; subst e8)
                  (go_region_held3 (fun V => V.cell? ⟨t, 0, none⟩ = some (.int .i64 q) ∧ V.cell? ⟨t, 1, none⟩ = some (.slice (some ⟨g, 0, none⟩) k cap) ∧ V.cell? ⟨t, 2, none⟩ = some (.int .i64 k') ∧ V.cell? ⟨nb3, 1, none⟩ = some (.int .i64 w1) ∧ V.cell? ⟨nb3, 2, none⟩ = some (.int .i64 c1)) (first | with_reducible exact HK5.out | go_keep) (fail))
                  change Exit.inBlock _ _ Exit.normal _ ((W4.setCell ⟨g, k' * 3 + 2, none⟩ (.int .i64 (c1 + G))).drew)
                  clear a04 a14 a24 b24 f24 hp1 hp2 hp3 hp4 hd4 kr HK5 S5
                  generalize (W4.setCell ⟨g, k' * 3 + 2, none⟩ (.int .i64 (c1 + G))).drew = W5 at *
                  go_wp2
                  go_roundg (mu p (nxt cs z))
                  case measure => exact HEND.out.1
                  case rel => exact ⟨nxt cs z, Nat.le_refl _, HEND.out.2⟩
            · have BZ0 : Below wr.heap.size wr (wr.alloc (Obj.cells #[Value.int .i64 0, Value.int .i64 0, Value.int .i64 0] 50)) := (Below.refl _ _).alloc (Nat.le_refl _) _
              have hlt0 := S0.out.lt2
              have a1z : (wr.alloc (Obj.cells #[Value.int .i64 0, Value.int .i64 0, Value.int .i64 0] 50)).cell? ⟨t, 1, none⟩ = some (.slice (some ⟨g, 0, none⟩) k cap) := by rw [BZ0.cell (p := ⟨t, 1, none⟩) hlt0.1]; exact a10
              have a2z : (wr.alloc (Obj.cells #[Value.int .i64 0, Value.int .i64 0, Value.int .i64 0] 50)).cell? ⟨t, 2, none⟩ = some (.int .i64 kz) := by rw [BZ0.cell (p := ⟨t, 2, none⟩) hlt0.1]; exact a20
              have b0z : (wr.alloc (Obj.cells #[Value.int .i64 0, Value.int .i64 0, Value.int .i64 0] 50)).cell? ⟨g, kz * 3, none⟩ = some (.int .i64 i0) := by rw [BZ0.cell (p := ⟨g, _, none⟩) hlt0.2]; exact b00
              have b1z : (wr.alloc (Obj.cells #[Value.int .i64 0, Value.int .i64 0, Value.int .i64 0] 50)).cell? ⟨g, kz * 3 + 1, none⟩ = some (.int .i64 w0) := by rw [BZ0.cell (p := ⟨g, _, none⟩) hlt0.2]; exact b10
              have b2z : (wr.alloc (Obj.cells #[Value.int .i64 0, Value.int .i64 0, Value.int .i64 0] 50)).cell? ⟨g, kz * 3 + 2, none⟩ = some (.int .i64 c0) := by rw [BZ0.cell (p := ⟨g, _, none⟩) hlt0.2]; exact b20
              obtain ⟨z0, z1, z2, zf0, zf1, zf2⟩ := zero_block wr
              clear BZ0 hlt0
              go_upto_region 8 with fail
              go_region
              have SB0 := hide_it (S0.out.below ((Below.refl _ _).alloc (Nat.le_refl _) (.cells #[.int .i64 i0, .int .i64 w0, .int .i64 c0] 50)).drew)
              have d00 : (wr.alloc (.cells #[.int .i64 i0, .int .i64 w0, .int .i64 c0] 50)).drew.cell? ⟨wr.heap.size, 0, none⟩ = some (.int .i64 i0) := (new_block wr i0 w0 c0).1
              have d10 : (wr.alloc (.cells #[.int .i64 i0, .int .i64 w0, .int .i64 c0] 50)).drew.cell? ⟨wr.heap.size, 1, none⟩ = some (.int .i64 w0) := (new_block wr i0 w0 c0).2.1
              have d20 : (wr.alloc (.cells #[.int .i64 i0, .int .i64 w0, .int .i64 c0] 50)).drew.cell? ⟨wr.heap.size, 2, none⟩ = some (.int .i64 c0) := (new_block wr i0 w0 c0).2.2
              have hne0 : wr.heap.size ≠ g := fun e => by have := S0.out.lt2.2; omega
              have hnt0 : wr.heap.size ≠ t := fun e => by have := S0.out.lt2.1; omega
              have HNE0 := hide_it (And.intro hne0 hnt0)
              clear z0 z1 z2 zf0 zf1 zf2 a1z a2z b0z b1z b2z hne0 hnt0 a10 a20 b00 b10 b20
              change Exit.then _ _ Exit.normal _ ((wr.alloc (.cells #[.int .i64 i0, .int .i64 w0, .int .i64 c0] 50)).drew)
              generalize (wr.alloc (.cells #[.int .i64 i0, .int .i64 w0, .int .i64 c0] 50)).drew = W1 at *
              generalize wr.heap.size = nb0 at *
              have kr := KRA.out _ SB0.out
              have hd1 : decide (0 < c) = true := decide_eq_true (by omega)
              have hd2 : decide (c ≤ c0) = false := decide_eq_false (by omega)
              have hd3 : (c == 0) = false := by simp; omega
              have HC0 := hide_it hc
              clear hcb hc0 hcl hgk hi
              go_upto_region 15 with (go_at_call 32; refine kr.mono ?_; rintro e w1 ⟨rfl, e9⟩; have e8 := e9.symm; clear e9; subst e8)
              clear hd1 hd2 hd3 kr d00 d10 d20
              have k'lt : (kz + 1) % k < k := Nat.mod_lt _ (by omega)
              obtain ⟨k', hk'⟩ : ∃ k', (kz + 1) % k = k' := ⟨_, rfl⟩
              rw [hk'] at k'lt
              have HK' := hide_it hk'
              have hm : ((kz : Int) + 1).tmod (k : Int) = (k' : Int) := by
                rw [Int.tmod_eq_emod_of_nonneg (by omega), ← hk']
                push_cast
                rfl
              have hz : ((k : Int) == 0) = false := by simp; omega
              have hcx : k ≤ 9223372036854775807 := by omega
              have hn0 : ¬ k = 0 := by omega
              have hw0 : IntKind.i64.wrap ((kz : Int) + 1) = (kz : Int) + 1 := by rw [IntKind.wrap_i64]; omega
              have hw1 : wrap64 ((kz : Int) + 1) = (kz : Int) + 1 := by unfold wrap64; omega
              have r2 := SB0.out.read
              have a12 : W1.cell? ⟨t, 1, none⟩ = some (.slice (some ⟨g, 0, none⟩) k cap) := by rw [← EN.out]; exact r2.a1
              have a22 : W1.cell? ⟨t, 2, none⟩ = some (.int .i64 kz) := by rw [← EK.out]; exact r2.a2
              have f22 := r2.af 2
              clear r2 hk'
              go_upto_region 15 with fail
              go_region
              change Exit.then _ _ Exit.normal _ ((W1.setCell ⟨t, 2, none⟩ (.int .i64 k')).drew)
              have S2 := hide_it ((SB0.out.setK k').below (Below.refl _ _).drew)
              clear a12 a22 f22 hm hz hcx hn0 hw0 hw1
              generalize (W1.setCell ⟨t, 2, none⟩ (.int .i64 k')).drew = W3 at *
              have hkz' : k' < z.n := by rw [EN.out]; exact k'lt
              have HKZ' := hide_it hkz'
              obtain ⟨i1, ei⟩ : ∃ i, z.I k' = i := ⟨_, rfl⟩
              obtain ⟨w1, ew⟩ : ∃ i, z.W k' = i := ⟨_, rfl⟩
              obtain ⟨c1, ec⟩ : ∃ i, z.C k' = i := ⟨_, rfl⟩
              obtain ⟨c', eco⟩ : ∃ i, cs k' = i := ⟨_, rfl⟩
              obtain ⟨G, eG⟩ : ∃ i, q * w1 = i := ⟨_, rfl⟩
              have hcb' := HCB.out k'
              rw [eco] at hcb'
              have hc1 : 0 ≤ c1 ∧ c1 ≤ 268435456 := by
                have h1 := HI2.out.c0 k' hkz'
                have h2 := HI2.out.lt hkz'
                have h3 := HI2.out.gain hkz'
                rw [← ec]
                omega
              have hG : 1 ≤ G ∧ G ≤ 104857600 := by
                have h3 := HI2.out.gain hkz'
                rw [EQ.out, ew, eG] at h3
                exact h3
              have EV' := hide_it (And.intro ei (And.intro ew ec))
              have ECO' := hide_it eco
              have EG := hide_it eG
              have r3 := S2.out.read
              have a03 : W3.cell? ⟨t, 0, none⟩ = some (.int .i64 q) := by rw [← EQ.out]; exact r3.a0
              have a13 : W3.cell? ⟨t, 1, none⟩ = some (.slice (some ⟨g, 0, none⟩) k cap) := by rw [← EN.out]; exact r3.a1
              have a23 : W3.cell? ⟨t, 2, none⟩ = some (.int .i64 k') := r3.a2
              obtain ⟨e03, e13, e23⟩ := r3.mb k' hkz'
              have b03 : W3.cell? ⟨g, k' * 3, none⟩ = some (.int .i64 i1) := by rw [← ei]; exact e03
              have b13 : W3.cell? ⟨g, k' * 3 + 1, none⟩ = some (.int .i64 w1) := by rw [← ew]; exact e13
              have b23 : W3.cell? ⟨g, k' * 3 + 2, none⟩ = some (.int .i64 c1) := by rw [← ec]; exact e23
              have KRB : Hid (∀ W, SV 50 48 F w W t { z with k := k' } (.slice (some ⟨g, 0, none⟩) z.n cap) → Calls Try.prog 32 #[.slice la m lc, .int .i64 i1] W fun e w' => e = .returned (.int .i64 c') ∧ w' = W) := fun W h => by
                have := KR2.out W _ h EI.out k'
                rw [← ei, ← eco]
                exact this
              clear r3 ei ew ec eco eG hkz' e03 e13 e23
              have BZ3 : Below W3.heap.size W3 (W3.alloc (Obj.cells #[Value.int .i64 0, Value.int .i64 0, Value.int .i64 0] 50)) := (Below.refl _ _).alloc (Nat.le_refl _) _
              have hlt3 := S2.out.lt2
              have a1z : (W3.alloc (Obj.cells #[Value.int .i64 0, Value.int .i64 0, Value.int .i64 0] 50)).cell? ⟨t, 1, none⟩ = some (.slice (some ⟨g, 0, none⟩) k cap) := by rw [BZ3.cell (p := ⟨t, 1, none⟩) hlt3.1]; exact a13
              have a2z : (W3.alloc (Obj.cells #[Value.int .i64 0, Value.int .i64 0, Value.int .i64 0] 50)).cell? ⟨t, 2, none⟩ = some (.int .i64 k') := by rw [BZ3.cell (p := ⟨t, 2, none⟩) hlt3.1]; exact a23
              have b0z : (W3.alloc (Obj.cells #[Value.int .i64 0, Value.int .i64 0, Value.int .i64 0] 50)).cell? ⟨g, k' * 3, none⟩ = some (.int .i64 i1) := by rw [BZ3.cell (p := ⟨g, _, none⟩) hlt3.2]; exact b03
              have b1z : (W3.alloc (Obj.cells #[Value.int .i64 0, Value.int .i64 0, Value.int .i64 0] 50)).cell? ⟨g, k' * 3 + 1, none⟩ = some (.int .i64 w1) := by rw [BZ3.cell (p := ⟨g, _, none⟩) hlt3.2]; exact b13
              have b2z : (W3.alloc (Obj.cells #[Value.int .i64 0, Value.int .i64 0, Value.int .i64 0] 50)).cell? ⟨g, k' * 3 + 2, none⟩ = some (.int .i64 c1) := by rw [BZ3.cell (p := ⟨g, _, none⟩) hlt3.2]; exact b23
              obtain ⟨z0, z1, z2, zf0, zf1, zf2⟩ := zero_block W3
              clear BZ3 hlt3
              go_upto_region 16 with fail
              go_region
              have SB3 := hide_it (S2.out.below ((Below.refl _ _).alloc (Nat.le_refl _) (.cells #[.int .i64 i1, .int .i64 w1, .int .i64 c1] 50)).drew)
              have d03 : (W3.alloc (.cells #[.int .i64 i1, .int .i64 w1, .int .i64 c1] 50)).drew.cell? ⟨W3.heap.size, 0, none⟩ = some (.int .i64 i1) := (new_block W3 i1 w1 c1).1
              have d13 : (W3.alloc (.cells #[.int .i64 i1, .int .i64 w1, .int .i64 c1] 50)).drew.cell? ⟨W3.heap.size, 1, none⟩ = some (.int .i64 w1) := (new_block W3 i1 w1 c1).2.1
              have d23 : (W3.alloc (.cells #[.int .i64 i1, .int .i64 w1, .int .i64 c1] 50)).drew.cell? ⟨W3.heap.size, 2, none⟩ = some (.int .i64 c1) := (new_block W3 i1 w1 c1).2.2
              have hne3 : W3.heap.size ≠ g := fun e => by have := S2.out.lt2.2; omega
              have hnt3 : W3.heap.size ≠ t := fun e => by have := S2.out.lt2.1; omega
              have HNE3 := hide_it (And.intro hne3 hnt3)
              clear z0 z1 z2 zf0 zf1 zf2 a1z a2z b0z b1z b2z hne3 hnt3 a13 a23 b03 b13 b23
              change Exit.then _ _ Exit.normal _ ((W3.alloc (.cells #[.int .i64 i1, .int .i64 w1, .int .i64 c1] 50)).drew)
              generalize (W3.alloc (.cells #[.int .i64 i1, .int .i64 w1, .int .i64 c1] 50)).drew = W4 at *
              generalize W3.heap.size = nb3 at *
              have kr := KRB.out _ SB3.out
              by_cases hc' : c' = 0
              · as_aux_lemma =>
                  subst hc'
                  have HQ := hide_it (show nxt cs z = { z with k := k' } by unfold nxt; simp only [EK.out, EN.out, HK'.out, ECO.out, ECO'.out, if_true, if_neg HC0.out])
                  have HEND : Hid (mu p (nxt cs z) < gk ∧ RW F w W4 t g cap x (nxt cs z) cs) := by
                    refine ⟨HDN.out, ?_⟩
                    rw [HQ.out]
                    exact ⟨SB3.out, by rw [← HQ.out]; exact HR.out.wy.step HNS.out, by rw [← HQ.out]; exact HNX.out⟩
                  clear hcb' hc1 hG a03
                  go_wp2_with (go_at_call 32; refine kr.mono ?_; rintro e w1 ⟨rfl, e9⟩; have e8 := e9.symm; clear e9; subst e8)
                  go_roundg (mu p (nxt cs z))
                  case measure => exact HEND.out.1
                  case rel => exact ⟨nxt cs z, Nat.le_refl _, HEND.out.2⟩
              · as_aux_lemma =>
                  have hd4 : decide (0 < c') = true := decide_eq_true (by omega)
                  have hp1 : IntKind.i64.wrap (q * w1) = G := by rw [EG.out, IntKind.wrap_i64]; omega
                  have hp2 : wrap64 (q * w1) = G := by rw [EG.out]; unfold wrap64; omega
                  have hp3 : IntKind.i64.wrap (c1 + G) = c1 + G := by rw [IntKind.wrap_i64]; omega
                  have hp4 : wrap64 (c1 + G) = c1 + G := by unfold wrap64; omega
                  have r4 := SB3.out.read
                  have a04 : W4.cell? ⟨t, 0, none⟩ = some (.int .i64 q) := by rw [← EQ.out]; exact r4.a0
                  have a14 : W4.cell? ⟨t, 1, none⟩ = some (.slice (some ⟨g, 0, none⟩) k cap) := by rw [← EN.out]; exact r4.a1
                  have a24 : W4.cell? ⟨t, 2, none⟩ = some (.int .i64 k') := r4.a2
                  have b24 : W4.cell? ⟨g, k' * 3 + 2, none⟩ = some (.int .i64 c1) := by rw [← EV'.out.2.2]; exact (r4.mb k' HKZ'.out).2.2
                  have f24 := r4.gf (k' * 3 + 2)
                  have HQ := hide_it (show nxt cs z = { { z with k := k' } with C := upd z.C k' (c1 + G) } by
                    unfold nxt
                    simp only [EK.out, EN.out, HK'.out, ECO.out, ECO'.out, EQ.out, EV'.out.2.1, EV'.out.2.2, EG.out, if_neg HC0.out, if_neg hc'])
                  have S5 := hide_it ((SB3.out.setC HKZ'.out (c1 + G)).below (Below.refl _ _).drew)
                  have HEND : Hid (mu p (nxt cs z) < gk ∧ RW F w ((W4.setCell ⟨g, k' * 3 + 2, none⟩ (.int .i64 (c1 + G))).drew) t g cap x (nxt cs z) cs) := by
                    refine ⟨HDN.out, ?_⟩
                    rw [HQ.out]
                    exact ⟨S5.out, by rw [← HQ.out]; exact HR.out.wy.step HNS.out, by rw [← HQ.out]; exact HNX.out⟩
                  have hgt : g ≠ t := fun e => by have q := SB3.out.tm.tv; rw [e] at q; exact q rfl
                  have HK5 : Hid (((W4.setCell ⟨g, k' * 3 + 2, none⟩ (.int .i64 (c1 + G))).drew).cell? ⟨t, 0, none⟩ = some (.int .i64 q) ∧ ((W4.setCell ⟨g, k' * 3 + 2, none⟩ (.int .i64 (c1 + G))).drew).cell? ⟨t, 1, none⟩ = some (.slice (some ⟨g, 0, none⟩) k cap) ∧ ((W4.setCell ⟨g, k' * 3 + 2, none⟩ (.int .i64 (c1 + G))).drew).cell? ⟨t, 2, none⟩ = some (.int .i64 k') ∧ ((W4.setCell ⟨g, k' * 3 + 2, none⟩ (.int .i64 (c1 + G))).drew).cell? ⟨nb3, 1, none⟩ = some (.int .i64 w1) ∧ ((W4.setCell ⟨g, k' * 3 + 2, none⟩ (.int .i64 (c1 + G))).drew).cell? ⟨nb3, 2, none⟩ = some (.int .i64 c1)) :=
                    ⟨(cell_past W4 (a := ⟨g, k' * 3 + 2, none⟩) (p := ⟨t, 0, none⟩) _ (Ne.symm hgt)).trans a04, (cell_past W4 (a := ⟨g, k' * 3 + 2, none⟩) (p := ⟨t, 1, none⟩) _ (Ne.symm hgt)).trans a14, (cell_past W4 (a := ⟨g, k' * 3 + 2, none⟩) (p := ⟨t, 2, none⟩) _ (Ne.symm hgt)).trans a24, (cell_past W4 (a := ⟨g, k' * 3 + 2, none⟩) (p := ⟨nb3, 1, none⟩) _ HNE3.out.1).trans d13, (cell_past W4 (a := ⟨g, k' * 3 + 2, none⟩) (p := ⟨nb3, 2, none⟩) _ HNE3.out.1).trans d23⟩
                  clear hcb' hc1 hG a03 r4 hc' hgt
                  go_upto_region 18 with (go_at_call 32; refine kr.mono ?_; rintro e w1 ⟨rfl, e9⟩; have e8 := e9.symm; clear e9; subst e8)
                  (go_region_held3 (fun V => V.cell? ⟨t, 0, none⟩ = some (.int .i64 q) ∧ V.cell? ⟨t, 1, none⟩ = some (.slice (some ⟨g, 0, none⟩) k cap) ∧ V.cell? ⟨t, 2, none⟩ = some (.int .i64 k') ∧ V.cell? ⟨nb3, 1, none⟩ = some (.int .i64 w1) ∧ V.cell? ⟨nb3, 2, none⟩ = some (.int .i64 c1)) (first | with_reducible exact HK5.out | go_keep) (fail))
                  change Exit.inBlock _ _ Exit.normal _ ((W4.setCell ⟨g, k' * 3 + 2, none⟩ (.int .i64 (c1 + G))).drew)
                  clear a04 a14 a24 b24 f24 hp1 hp2 hp3 hp4 hd4 kr HK5 S5
                  generalize (W4.setCell ⟨g, k' * 3 + 2, none⟩ (.int .i64 (c1 + G))).drew = W5 at *
                  go_wp2
                  go_roundg (mu p (nxt cs z))
                  case measure => exact HEND.out.1
                  case rel => exact ⟨nxt cs z, Nat.le_refl _, HEND.out.2⟩
end Go.Proofs.Ytlhkahincnchjaa
