/- The document's Far: how many edges the shortest path has. -/
import Derived.Test.YtpbncoaonminoaaDoorTlB
import Derived.Test.YtpbncoaonminoaaDoorCyP
namespace Go.Proofs.YtpbncoaonminoaaDoor
open Go.RowKit
open M
set_option linter.unusedVariables false
set_option linter.unusedSimpArgs false

/-- What is told behind so many rounds. -/
def fR (D : Nat → Option Nat) (rd x : Nat) : Int := match D x with
  | some d => if d ≤ rd then (d : Int) else -1
  | none => -1
def hitB (D : Nat → Option Nat) (rd : Nat) (es : List E) (x : Nat) : Bool := es.any (fun e => decide (e.1 = x) && decide (D e.2 = some rd))
/-- .. and within a round, behind so many edges. -/
def fE (D : Nat → Option Nat) (rd : Nat) (es : List E) (x : Nat) : Int := if D x = some (rd + 1) ∧ hitB D rd es x = true then ((rd : Int) + 1) else fR D rd x
def farI (es : List E) (n : Nat) (a b : Int) : Int := if (offB n a || offB n b) = true then -1 else match dist es n b.toNat a.toNat with
  | some d => (d : Int)
  | none => -1
theorem fR_eq (D : Nat → Option Nat) (rd x : Nat) : fR D rd x = (rd : Int) ↔ D x = some rd := by
  unfold fR
  cases h : D x with
  | none =>
    constructor
    · intro e
      have e2 : (-1 : Int) = (rd : Int) := e
      omega
    · intro e
      cases e
  | some d =>
    constructor
    · intro e
      have e2 : (if d ≤ rd then (d : Int) else -1) = (rd : Int) := e
      split at e2
      · have : d = rd := by omega
        rw [this]
      · omega
    · intro e
      have : d = rd := Option.some.inj e
      subst this
      show (if d ≤ d then (d : Int) else -1) = (d : Int)
      rw [if_pos (Nat.le_refl _)]
theorem fR_bound (D : Nat → Option Nat) (rd x : Nat) : -1 ≤ fR D rd x ∧ fR D rd x ≤ rd := by
  unfold fR
  cases h : D x with
  | none =>
    show (-1 : Int) ≤ -1 ∧ (-1 : Int) ≤ rd
    omega
  | some d =>
    show (-1 : Int) ≤ (if d ≤ rd then (d : Int) else -1) ∧ (if d ≤ rd then (d : Int) else -1) ≤ rd
    split <;> omega
theorem fE_bound (D : Nat → Option Nat) (rd : Nat) (es : List E) (x : Nat) : -1 ≤ fE D rd es x ∧ fE D rd es x ≤ (rd : Int) + 1 := by
  have := fR_bound D rd x
  unfold fE
  split <;> omega
theorem fE_eq (D : Nat → Option Nat) (rd : Nat) (es : List E) (x : Nat) : fE D rd es x = (rd : Int) ↔ D x = some rd := by
  unfold fE
  split
  · rename_i h
    rw [h.1]
    constructor
    · intro e; omega
    · intro e; have := Option.some.inj e; omega
  · exact fR_eq D rd x
theorem hitB_snoc (D : Nat → Option Nat) (rd : Nat) (es : List E) (k : Nat) (h : k < es.length) (x : Nat) : hitB D rd (es.take (k + 1)) x = (hitB D rd (es.take k) x || (decide (es[k].1 = x) && decide (D es[k].2 = some rd))) := by
  unfold hitB
  rw [List.take_succ_eq_append_getElem h, List.any_append]
  simp
/-- An edge that tells something new. -/
theorem fE_new {D : Nat → Option Nat} {rd : Nat} {es : List E} {k : Nat} (h : k < es.length) (hD : ∀ x y d, (x, y) ∈ es → D y = some d → ∃ e, e ≤ d + 1 ∧ D x = some e)
    (h1 : D es[k].2 = some rd) (h2 : fE D rd (es.take k) es[k].1 < 0) (i : Nat) : fE D rd (es.take (k + 1)) i = if i = es[k].1 then (rd : Int) + 1 else fE D rd (es.take k) i := by
  obtain ⟨e, he1, he2⟩ := hD es[k].1 es[k].2 rd (List.getElem_mem h) h1
  have he3 : e = rd + 1 := by
    apply Classical.byContradiction
    intro hne
    have hle : e ≤ rd := by omega
    have : fE D rd (es.take k) es[k].1 = (e : Int) := by
      unfold fE
      rw [if_neg (fun q => by rw [he2] at q; have := Option.some.inj q.1; omega)]
      unfold fR
      rw [he2]
      simp [hle]
    omega
  subst he3
  unfold fE
  rw [hitB_snoc D rd es k h]
  by_cases hi : i = es[k].1
  · subst hi
    rw [if_pos rfl, if_pos ⟨he2, by simp [h1]⟩]
  · rw [if_neg hi]
    have : decide (es[k].1 = i) = false := by simp; exact fun e => hi e.symm
    rw [this]
    simp
/-- An edge that tells nothing new. -/
theorem fE_old {D : Nat → Option Nat} {rd : Nat} {es : List E} {k : Nat} (h : k < es.length)
    (hc : D es[k].2 ≠ some rd ∨ 0 ≤ fE D rd (es.take k) es[k].1) (i : Nat) : fE D rd (es.take (k + 1)) i = fE D rd (es.take k) i := by
  unfold fE at hc ⊢
  rw [hitB_snoc D rd es k h]
  by_cases hi : es[k].1 = i
  · subst hi
    rcases hc with hc | hc
    · simp [hc]
    · by_cases hh : D es[k].1 = some (rd + 1) ∧ hitB D rd (es.take k) es[k].1 = true
      · rw [if_pos hh, if_pos ⟨hh.1, by rw [hh.2]; rfl⟩]
      · rw [if_neg hh] at hc ⊢
        by_cases hd : D es[k].1 = some (rd + 1)
        · exfalso
          unfold fR at hc
          rw [hd] at hc
          simp at hc
          omega
        · rw [if_neg (fun q => hd q.1)]
  · have : decide (es[k].1 = i) = false := by simp; exact hi
    rw [this]
    simp
theorem fE_nil (D : Nat → Option Nat) (rd x : Nat) : fE D rd [] x = fR D rd x := by
  unfold fE hitB
  simp
theorem fE_all {D : Nat → Option Nat} {rd : Nat} {es : List E} (hS : ∀ x, D x = some (rd + 1) → ∃ y, (x, y) ∈ es ∧ D y = some rd) (x : Nat) : fE D rd es x = fR D (rd + 1) x := by
  unfold fE
  by_cases h : D x = some (rd + 1)
  · obtain ⟨y, h1, h2⟩ := hS x h
    have hh : hitB D rd es x = true := List.any_eq_true.2 ⟨(x, y), h1, by simp [h2]⟩
    rw [if_pos ⟨h, hh⟩]
    unfold fR
    rw [h]
    simp
  · rw [if_neg (fun q => h q.1)]
    unfold fR
    cases hd : D x with
    | none => rfl
    | some d =>
      have : d ≠ rd + 1 := fun e => h (by rw [hd, e])
      by_cases h1 : d ≤ rd
      · simp [h1, show d ≤ rd + 1 by omega]
      · simp [h1, show ¬ d ≤ rd + 1 by omega]

set_option maxRecDepth 1000000 in
set_option maxHeartbeats 4000000 in
theorem far_off {w : World} {r n : Nat} {v : Value} {es : List E} (h : RM w r n v es) (hn : n ≤ 64) (a b : Int) (ho : (offB n a || offB n b) = true) :
    Calls Tryd.prog 34 #[ptr r, .int .i64 a, .int .i64 b] w fun e w' => e = .returned (.int .i64 (-1)) ∧ w' = w := by
  have c0 := h.c0
  clear h
  by_cases ha : a < 0
  · have ha1 : decide (a < 0) = true := by simpa using ha
    go_enter Tryd.func34, Tryd.ntmps34
    go_wp2
    go_ret
    exact ⟨rfl, rfl⟩
  · have ha1 : decide (a < 0) = false := by simpa using ha
    by_cases haN : (n : Int) ≤ a
    · have haN1 : decide ((n : Int) ≤ a) = true := by simpa using haN
      go_enter Tryd.func34, Tryd.ntmps34
      go_wp2
      go_ret
      exact ⟨rfl, rfl⟩
    · have haN1 : decide ((n : Int) ≤ a) = false := by simpa using haN
      by_cases hb : b < 0
      · have hb1 : decide (b < 0) = true := by simpa using hb
        go_enter Tryd.func34, Tryd.ntmps34
        go_wp2
        go_ret
        exact ⟨rfl, rfl⟩
      · have hb1 : decide (b < 0) = false := by simpa using hb
        have hbN : (n : Int) ≤ b := by simp [offB] at ho; omega
        have hbN1 : decide ((n : Int) ≤ b) = true := by simpa using hbN
        go_enter Tryd.func34, Tryd.ntmps34
        go_wp2
        go_ret
        exact ⟨rfl, rfl⟩

set_option maxRecDepth 1000000 in
set_option maxHeartbeats 8000000 in
theorem far_in {w : World} {r n : Nat} {v : Value} {es : List E} (h : RM w r n v es) (hn : n ≤ 64) (hg : ∀ e ∈ es, e.1 < n ∧ e.2 < n) (hle : es.length ≤ 1000000) (a b : Nat) (ha : a < n) (hb : b < n) :
    Calls Tryd.prog 34 #[ptr r, .int .i64 a, .int .i64 b] w fun e w' => e = .returned (.int .i64 (fR (dist es n b) n a)) ∧ Below w.heap.size w w' := by
  have hk : ∀ W : World, (Instr.makeSlice 33 (.int .i64 n) (.int .i64 n)).run Tryd.prog W = .ok (.slice (some ⟨W.heap.size, 0, none⟩) n n) (W.alloc (.cells (madeCells #[.int .i64 0] n) 3)) := fun W =>
    run_make_row' 33 3 (.int .i64 0) 8 Tryd.underlying33 info3 rfl .i64 .i64 n (by omega) (by omega) W
  simp only [iRow_new] at hk
  have HS := hide_it (OQ.start (w := w) n)
  obtain ⟨D, hD⟩ : ∃ D, dist es n b = D := ⟨_, rfl⟩
  have HD0 : Hid (∀ x, x < n → (fR D 0 x = if x = b then 0 else -1)) := fun x hx => by
    rw [← hD]
    unfold fR
    by_cases e : x = b
    · subst e
      rw [(dist_some hg hx).2 Dst.zero]
      simp
    · rw [if_neg e]
      cases q : dist es n b x with
      | none => rfl
      | some d =>
        have : d ≠ 0 := fun e0 => by subst e0; exact e ((dist_some hg hx).1 q).zero_eq
        simp [this]
  have HD1 : Hid (∀ x y d, (x, y) ∈ es → D y = some d → ∃ e, e ≤ d + 1 ∧ D x = some e) := fun x y d he hy => by
    rw [← hD] at hy ⊢
    obtain ⟨e, h1, h2⟩ := Dst.edge he ((dist_some hg (hg _ he).2).1 hy)
    exact ⟨e, h1, (dist_some hg (hg _ he).1).2 h2⟩
  have HD2 : Hid (∀ rd x, x < n → D x = some (rd + 1) → ∃ y, (x, y) ∈ es ∧ D y = some rd) := fun rd x hx hx2 => by
    rw [← hD] at hx2 ⊢
    obtain ⟨y, h1, h2⟩ := ((dist_some hg hx).1 hx2).step
    exact ⟨y, h1, (dist_some hg (hg _ h1).2).2 h2⟩
  rw [hD]
  clear hD
  have HG := hide_it hg
  have HR := hide_it h
  have c0 := h.c0
  obtain ⟨ao, cap, rfl, hE⟩ := h.eat
  have HE := hide_it hE
  obtain ⟨m, hm⟩ : ∃ m, es.length = m := ⟨_, rfl⟩
  have HM := hide_it hm
  rw [hm] at hle
  have ha1 : decide ((a : Int) < 0) = false := by simp
  have hb1 : decide ((b : Int) < 0) = false := by simp
  have ha2 : decide ((n : Int) ≤ (a : Int)) = false := by simp; omega
  have hb2 : decide ((n : Int) ≤ (b : Int)) = false := by simp; omega
  have ha3 : decide (n ≤ a) = false := by simp; omega
  have hb3 : decide (n ≤ b) = false := by simp; omega
  clear h hg hE hm
  go_enter Tryd.func34, Tryd.ntmps34
  go_wp2
  go_loopw [8] (fun i W => ∃ k : Nat, k ≤ n ∧ i = .int .i64 k ∧ Hid (OQ w W w.heap.size n (fun t => if t < k then -1 else 0) (.slice none 0 0) [])) (fun i _ => n - (intOf i).toNat)
  case atStart => exact ⟨0, Nat.zero_le _, rfl, HS.out.congr (fun i _ => by simp)⟩
  case round =>
    obtain ⟨k, hk2, rfl, HQ⟩ := hrel
    clear HS hk
    have d0 := (HR.out.below HQ.out.bel).c0
    by_cases hlt : k < n
    · have ck := HQ.out.cell k hlt
      have fk := HQ.out.fro k
      have HQ2 := hide_it (HQ.out.set k (-1) (f' := fun t => if t < k + 1 then -1 else 0) (fun i _ => by
        show (if i < k + 1 then (-1 : Int) else 0) = if i = k then -1 else (if i < k then -1 else 0)
        split <;> split <;> first | rfl | (split <;> omega) | omega))
      rw [if_neg (by omega)] at ck
      clear ha1 hb1 ha2 hb2 ha3 hb3
      go_wp2
      go_roundw
      case rel => exact ⟨k + 1, by omega, by go_num, HQ2⟩
      case measure => simp [intOf]; omega
    · have cb := HQ.out.cell b hb
      have fb := HQ.out.fro b
      rw [if_pos (by omega)] at cb
      have HQ2 := hide_it (HQ.out.set b 0 (f' := fR D 0) (fun i hi => by
        rw [HD0.out i hi]
        show (if i = b then (0 : Int) else -1) = if i = b then 0 else (if i < k then -1 else 0)
        rw [if_pos (show i < k by omega)]))
      clear ha1 hb1 ha2 hb2 ha3 hb3
      go_wp2
      go_loopw [9] (fun i W => ∃ rd : Nat, rd ≤ n ∧ i = .int .i64 rd ∧ Hid (OQ w W w.heap.size n (fR D rd) (.slice none 0 0) [])) (fun i _ => n - (intOf i).toNat)
      case atStart => exact ⟨0, Nat.zero_le _, rfl, HQ2⟩
      case round =>
        obtain ⟨rd, hrd, rfl, HQ3⟩ := hrel
        clear HQ2 HQ d0 cb fb
        have d0 := (HR.out.below HQ3.out.bel).c0
        by_cases hrn : rd < n
        · go_wp2
          go_loopw [10] (fun i W => ∃ k : Nat, k ≤ m ∧ i = .int .i64 k ∧ Hid (OQ w W w.heap.size n (fE D rd (es.take k)) (.slice none 0 0) [])) (fun i _ => m - (intOf i).toNat)
          case atStart => exact ⟨0, Nat.zero_le _, rfl, HQ3.out.congr (fun i _ => by rw [List.take_zero, fE_nil])⟩
          case round =>
            obtain ⟨k2, hk3, rfl, HQ4⟩ := hrel
            have d1 := (HR.out.below HQ4.out.bel).c1
            rw [HM.out] at d1
            clear d0 HQ3
            by_cases hkm : k2 < m
            · have hlx : k2 < es.length := by rw [HM.out]; exact hkm
              obtain ⟨rb, rfl, hrw, e1, e2⟩ := (HE.out.below HQ4.out.bel) k2 hlx
              obtain ⟨hx, hy⟩ := HG.out _ (List.getElem_mem hlx)
              have HNEW := hide_it (fun h1 h2 i => fE_new (rd := rd) hlx HD1.out h1 h2 i)
              have HOLD := hide_it (fun h1 i => fE_old (D := D) (rd := rd) hlx h1 i)
              have HQ5 : Hid (∀ o, OQ w (wr.alloc o) w.heap.size n (fE D rd (es.take k2)) (.slice none 0 0) []) := fun o => HQ4.out.below ((Below.refl _ _).alloc (Nat.le_refl _) o)
              generalize es[k2] = ed at *
              obtain ⟨x, y⟩ := ed
              simp only at e1 e2 hx hy HNEW HOLD
              have cx := (HQ5.out (.cells #[.int .i64 x, .int .i64 y] 54)).cell x hx
              have cy := (HQ5.out (.cells #[.int .i64 x, .int .i64 y] 54)).cell y hy
              have fx := (HQ5.out (.cells #[.int .i64 x, .int .i64 y] 54)).fro x
              have hbx := fE_bound D rd (es.take k2) x
              have hby := fE_bound D rd (es.take k2) y
              by_cases hDy : D y = some rd
              · have ey : fE D rd (es.take k2) y = (rd : Int) := (fE_eq D rd _ y).2 hDy
                rw [ey] at cy
                by_cases hneg : fE D rd (es.take k2) x < 0
                · have HQ6 := hide_it ((HQ5.out (.cells #[.int .i64 x, .int .i64 y] 54)).set x ((rd : Int) + 1) (f' := fE D rd (es.take (k2 + 1))) (fun i _ => HNEW.out hDy hneg i))
                  have hneg1 : decide (fE D rd (es.take k2) x < 0) = true := by simpa using hneg
                  generalize fE D rd (es.take k2) x = vx at *
                  clear ey hby HNEW HOLD
                  go_wp2
                  go_roundw
                  case rel => exact ⟨k2 + 1, by omega, by go_num, HQ6⟩
                  case measure => simp [intOf]; omega
                · have HQ6 := hide_it ((HQ5.out (.cells #[.int .i64 x, .int .i64 y] 54)).congr (fun i _ => (HOLD.out (.inr (by omega)) i).symm))
                  have hneg1 : decide (fE D rd (es.take k2) x < 0) = false := by simpa using hneg
                  generalize fE D rd (es.take k2) x = vx at *
                  clear ey hby HNEW HOLD
                  go_wp2
                  go_roundw
                  case rel => exact ⟨k2 + 1, by omega, by go_num, HQ6⟩
                  case measure => simp [intOf]; omega
              · have ey : ¬ fE D rd (es.take k2) y = (rd : Int) := fun e => hDy ((fE_eq D rd _ y).1 e)
                have ey1 : (fE D rd (es.take k2) y == (rd : Int)) = false := by simpa using ey
                have HQ6 := hide_it ((HQ5.out (.cells #[.int .i64 x, .int .i64 y] 54)).congr (fun i _ => (HOLD.out (.inl hDy) i).symm))
                generalize fE D rd (es.take k2) y = vy at *
                clear hbx HNEW HOLD
                go_wp2
                go_roundw
                case rel => exact ⟨k2 + 1, by omega, by go_num, HQ6⟩
                case measure => simp [intOf]; omega
            · have HQ5 : Hid (OQ w wr w.heap.size n (fR D (rd + 1)) (.slice none 0 0) []) := HQ4.out.congr (fun i hi => by
                rw [List.take_of_length_le (by rw [HM.out]; omega)]
                unfold fE
                by_cases q : D i = some (rd + 1)
                · obtain ⟨y, h1, h2⟩ := HD2.out rd i hi q
                  have hh : hitB D rd es i = true := List.any_eq_true.2 ⟨(i, y), h1, by simp [h2]⟩
                  rw [if_pos ⟨q, hh⟩]
                  unfold fR
                  rw [q]
                  simp
                · rw [if_neg (fun z => q z.1)]
                  unfold fR
                  cases hd : D i with
                  | none => rfl
                  | some d =>
                    have : d ≠ rd + 1 := fun e => q (by rw [hd, e])
                    by_cases h1 : d ≤ rd
                    · simp [h1, show d ≤ rd + 1 by omega]
                    · simp [h1, show ¬ d ≤ rd + 1 by omega])
              go_wp2
              go_roundw
              case rel => exact ⟨rd + 1, by omega, by go_num, HQ5⟩
              case measure => simp [intOf]; omega
        · have ca := HQ3.out.cell a ha
          have ern : rd = n := by omega
          rw [ern] at ca
          obtain ⟨va, hva⟩ : ∃ va, fR D n a = va := ⟨_, rfl⟩
          rw [hva] at ca
          have HVA := hide_it hva
          clear hva ern
          go_wp2
          go_ret
          exact ⟨ret_int HVA.out.symm, HQ3.out.bel⟩
theorem far_any {w : World} {r n : Nat} {v : Value} {es : List E} (h : RM w r n v es) (hn : n ≤ 64) (hg : ∀ e ∈ es, e.1 < n ∧ e.2 < n) (hle : es.length ≤ 1000000) (a b : Int) :
    Calls Tryd.prog 34 #[ptr r, .int .i64 a, .int .i64 b] w fun e w' => e = .returned (.int .i64 (farI es n a b)) ∧ Below w.heap.size w w' := by
  unfold farI
  cases ho : (offB n a || offB n b) with
  | true =>
    refine (far_off h hn a b ho).mono ?_
    rintro e w' ⟨rfl, rfl⟩
    exact ⟨rfl, Below.refl _ _⟩
  | false =>
    simp [offB] at ho
    obtain ⟨x, rfl⟩ : ∃ x : Nat, a = x := ⟨a.toNat, by omega⟩
    obtain ⟨y, rfl⟩ : ∃ y : Nat, b = y := ⟨b.toNat, by omega⟩
    have hx : x < n := by omega
    refine (far_in h hn hg hle x y hx (by omega)).mono ?_
    rintro e w' ⟨rfl, hb⟩
    refine ⟨ret_int ?_, hb⟩
    simp only [Int.toNat_natCast, if_neg Bool.false_ne_true]
    unfold fR
    cases hd : dist es n y x with
    | none => rfl
    | some d =>
      have := ((dist_some hg hx).1 hd).lt hg hx
      simp [show d ≤ n by omega]
end Go.Proofs.YtpbncoaonminoaaDoor
