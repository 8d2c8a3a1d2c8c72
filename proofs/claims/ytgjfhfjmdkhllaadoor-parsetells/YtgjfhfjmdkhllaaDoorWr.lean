/- What digitsOf and writeLine of package parse do. -/
import Derived.Test.YtgjfhfjmdkhllaaDoorBldK
import Derived.Test.YtgjfhfjmdkhllaaDoorTexM
import Derived.Test.YtgjfhfjmdkhllaaDoorLine
namespace Go.Proofs.YtgjfhfjmdkhllaaDoor
open Go.RowKit
open M
set_option linter.unusedVariables false
set_option linter.unusedSimpArgs false

set_option maxRecDepth 1000000 in
set_option maxHeartbeats 1000000 in
theorem digitsOf_ok (n : Int) (h0 : 0 ≤ n) (h1 : n ≤ 1048576) (w : World) (hT : Tabs w) : Calls Tryd.prog 54 #[.int .i64 n] w fun e w' => e = .returned (strV (Lib.itoa n)) ∧ Below w.heap.size w w' := by
  have kT := text_any n (by omega) (by omega) w hT
  have e1 : ¬ n < 0 := by omega
  have e2 : ¬ (1048576 : Int) < n := by omega
  go_enter Tryd.func54, Tryd.ntmps54
  go_wp2_with (go_at_call 61; refine kT.mono ?_; rintro e w' ⟨rfl, hb⟩)
  go_ret
  exact ⟨rfl, hb⟩
set_option maxRecDepth 1000000 in
set_option maxHeartbeats 1000000 in
theorem digitsOf_bad (n : Int) (h : ¬ (0 ≤ n ∧ n ≤ 1048576)) (w : World) : Calls Tryd.prog 54 #[.int .i64 n] w fun e w' => e = .panicked (faultV 0 1) ∧ w' = w := by
  by_cases h1 : n < 0
  · clear h
    go_enter Tryd.func54, Tryd.ntmps54
    go_wp2
    exact ⟨rfl, rfl, rfl⟩
  · have h2 : (1048576 : Int) < n := by omega
    have h1' : decide (n < 0) = false := by simp; omega
    clear h
    go_enter Tryd.func54, Tryd.ntmps54
    go_wp2
    exact ⟨rfl, rfl, rfl⟩

/-- Numbers in memory, in a block of ints. -/
def IntsK (w : World) (a : Option Addr) (ns : List Int) : Prop :=
  ns = [] ∨ ∃ vb off cs fr, a = some ⟨vb, off, none⟩ ∧ w.heap[vb]? = some (.cells cs 3 fr) ∧ ∀ i (h : i < ns.length), cs[off + i]? = some (.int .i64 ns[i])
theorem IntsK.kept {w w' : World} {a : Option Addr} {ns : List Int} (h : IntsK w a ns) (hk : Kept w w') : IntsK w' a ns := by
  rcases h with h | ⟨vb, off, cs, fr, h1, h2, h3⟩
  · exact .inl h
  · exact .inr ⟨vb, off, cs, fr, h1, hk.block _ _ _ _ h2 (by decide) (by decide), h3⟩
theorem IntsK.own {w : World} {base cap : Nat} {a : Option Addr} {ns : List Int} (h : w.ownsRow base 3 1 (.slice a ns.length cap) ns.length (ns.map intV)) : IntsK w a ns := by
  by_cases h0 : ns.length = 0
  · exact .inl (List.eq_nil_of_length_eq_zero h0)
  · rcases h.2 with ⟨hv, hz⟩ | ⟨g, c, cur, hv, _, hb, h1, h2, h3, h4⟩
    · exact absurd hz h0
    · cases hv
      refine .inr ⟨g, 0, cur, (0, 0), rfl, hb, fun i hi => ?_⟩
      have h5 : (cur.toList.take (ns.length * 1))[i]? = (ns.map intV)[i]? := by rw [h4]
      rw [List.getElem?_take_of_lt (by omega)] at h5
      simp only [List.getElem?_map, List.getElem?_eq_getElem hi, Option.map_some] at h5
      rw [Nat.zero_add]
      simpa using h5
theorem own_keptK {w w' : World} {base e size n : Nat} {v : Value} {xs : List Value} (h : w.ownsRow base e size v n xs) (hk : Kept w w') (h5 : e ≠ 5) (h84 : e ≠ 84) : w'.ownsRow base e size v n xs := by
  obtain ⟨h1, h2⟩ := h
  refine ⟨h1, ?_⟩
  rcases h2 with h2 | ⟨g, c, cur, e1, e2, e3, e4⟩
  · exact .inl h2
  · exact .inr ⟨g, c, cur, e1, e2, hk.block _ _ _ _ e3 h5 h84, e4⟩

/-- What a line that was to be written leaves. -/
def Wrote (R : Option (List UInt8)) (B bb : Nat) (e : Ending) (w' : World) : Prop :=
  match R with
  | some r => e = .returned (.tuple #[]) ∧ Lib.IsBuilder 84 5 B bb (Lib.byteCells r) w'
  | none => e = .panicked (faultV 0 1)

theorem byte_more {B bb : Nat} {acc : List UInt8} {w : World} (h : Lib.IsBuilder 84 5 B bb (Lib.byteCells acc ++ [.int .u8 32]) w) : Lib.IsBuilder 84 5 B bb (Lib.byteCells (acc ++ [32])) w := by
  rw [Lib.byteCells_append]; exact h
theorem nl_more {B bb : Nat} {acc : List UInt8} {w : World} (h : Lib.IsBuilder 84 5 B bb (Lib.byteCells acc ++ [.int .u8 10]) w) : Lib.IsBuilder 84 5 B bb (Lib.byteCells (acc ++ [10])) w := by
  rw [Lib.byteCells_append]; exact h
theorem str_more {B bb : Nat} {acc x : List UInt8} {w : World} (h : Lib.IsBuilder 84 5 B bb (Lib.byteCells acc ++ Lib.strCells ⟨x.toArray⟩) w) : Lib.IsBuilder 84 5 B bb (Lib.byteCells (acc ++ x)) w := by
  rw [Lib.byteCells_append]; exact h

/-- A byte, or a text, written: in the words of this proof. -/
theorem put_byte (c : Nat) (hc : c = 32 ∨ c = 10) (B bb : Nat) (acc : List UInt8) (w : World) (h : Lib.IsBuilder 84 5 B bb (Lib.byteCells acc) w) (hl : acc.length ≤ 2000000000) (hBw : B ≤ w.heap.size) :
    Calls Tryd.prog 53 #[ptr bb 0, .int .u8 c] w fun e w' => e = .returned .nilIface ∧ Lib.IsBuilder 84 5 B bb (Lib.byteCells (acc ++ [UInt8.ofNat c])) w' ∧ Below B w w' ∧ Kept w w' := by
  refine (writeByteK B bb _ c w h (by rw [Lib.byteCells_length]; omega) hBw).mono ?_
  rintro e w' ⟨rfl, h1, h2, h3⟩
  refine ⟨rfl, ?_, h2, h3⟩
  rcases hc with rfl | rfl
  · exact byte_more h1
  · exact nl_more h1
theorem put_text (x : List UInt8) (hx : x.length ≤ 1000) (B bb : Nat) (acc : List UInt8) (w : World) (h : Lib.IsBuilder 84 5 B bb (Lib.byteCells acc) w) (hl : acc.length ≤ 2000000000) (hBw : B ≤ w.heap.size) :
    Calls Tryd.prog 55 #[ptr bb 0, strV x] w fun e w' => (∃ v, e = .returned v) ∧ Lib.IsBuilder 84 5 B bb (Lib.byteCells (acc ++ x)) w' ∧ Below B w w' ∧ Kept w w' := by
  refine (writeStringK B bb _ ⟨x.toArray⟩ w h (by rw [Lib.byteCells_length]; show _ + x.toArray.size ≤ _; simp; omega) hBw).mono ?_
  rintro e w' ⟨rfl, h1, h2, h3⟩
  exact ⟨⟨_, rfl⟩, str_more h1, h2, h3⟩

theorem bld_below {w w' : World} {B b : Nat} {p : Value} {bs : List Value} (h : Lib.BuilderAt 84 5 B b p bs w) (hb : Below w.heap.size w w') : Lib.BuilderAt 84 5 B b p bs w' := by
  obtain ⟨h1, v, h2, h3, h4⟩ := h
  exact ⟨h1, v, by rw [hb.block b (block_lt h2)]; exact h2, own_below h3 hb (fun k hk => (h3.lt k hk).2), h4⟩
theorem bldI_below {w w' : World} {B b : Nat} {bs : List Value} (h : Lib.IsBuilder 84 5 B b bs w) (hb : Below w.heap.size w w') : Lib.IsBuilder 84 5 B b bs w' := by
  rcases h with h | h
  · exact .inl (bld_below h hb)
  · exact .inr (bld_below h hb)

theorem words_short {m : Fm} (hm : m ∈ forms) : ∀ x ∈ words m, x.length ≤ 20 := by
  have h : forms.all (fun m => (words m).all (fun x => decide (x.length ≤ 20))) = true := by decide +kernel
  have := List.all_eq_true.1 h m hm
  simpa using this

set_option maxRecDepth 1000000 in
set_option maxHeartbeats 8000000 in
theorem writeLine_any (bb B : Nat) {m : Fm} (hm : m ∈ forms) (a : Option Addr) (ns : List Int) (cap : Nat) (acc : List UInt8) (w : World) (hT : Tabs w) (hB8 : 7 ≤ B) (hBd : Lib.IsBuilder 84 5 B bb (Lib.byteCells acc) w) (hBw : B ≤ w.heap.size) (hns : IntsK w a ns) (hcap : ns.length ≤ cap) (hcm : cap ≤ 9223372036854775807) (hct : (words m).count [78] ≤ ns.length) (hal : acc.length ≤ 1000000000) (R : Option (List UInt8)) (hR : lineOut m ns acc = R) :
    Calls Tryd.prog 37 #[ptr bb 0, formV m, .slice a ns.length cap] w fun e w' => Wrote R B bb e w' ∧ Below B w w' ∧ Kept w w' := by
  obtain ⟨_, _, hw0, hw1, hw2⟩ := ascii_of hm
  have hws := words_short hm
  obtain ⟨i9, hi9, hy0, hy1, hy2⟩ := info_parts info9
  have kF := fields_any hm (w.alloc (.cells #[strV m.text, .int .i64 m.part, .int .i64 m.kind, .int .i64 m.says] 86)) (hT.alloc _)
  have hba : Below w.heap.size w (w.alloc (.cells #[strV m.text, .int .i64 m.part, .int .i64 m.kind, .int .i64 m.says] 86)) := (Below.refl _ _).alloc (Nat.le_refl _) _
  have kF2 : Calls Tryd.prog 52 #[strV m.text] (w.alloc (.cells #[strV m.text, .int .i64 m.part, .int .i64 m.kind, .int .i64 m.says] 86)) fun e w' => ∃ g cw, e = .returned (.slice (some ⟨g, 0, none⟩) (words m).length cw) ∧ Hid (w'.ownsRow w.heap.size 9 1 (.slice (some ⟨g, 0, none⟩) (words m).length cw) (words m).length ((words m).map strV)) ∧ g < w'.heap.size ∧ Below w.heap.size w w' := by
    refine kF.mono ?_
    rintro e w' ⟨v, rfl, h1, h2⟩
    obtain ⟨g, cw, rfl, h3, h4⟩ := h1.form (by omega)
    exact ⟨g, cw, rfl, own_base h1 (by simp), h4, hba.trans (h2.mono (by simp))⟩
  have HR : Hid (wGo 0 (words m) ns acc = R) := hR
  clear hR kF hba
  obtain ⟨W, hW⟩ : ∃ W, (words m).length = W := ⟨_, rfl⟩
  have HW : Hid ((words m).length = W) := hW
  rw [hW] at kF2
  have hW1 : W ≤ 21 := by omega
  clear hW hw1 hw2
  go_enter Tryd.func37, Tryd.ntmps37
  go_wp2_with (go_at_call 52; refine kF2.mono ?_; rintro e w1 ⟨g, cw, rfl, hof, hgl, hb1⟩)
  have hcw : W ≤ cw := by
    rcases hof.out.2 with ⟨hv, _⟩ | ⟨g', c', cur, hv, _, _, h1, _⟩
    · cases hv
    · cases hv; exact h1
  go_loopw [2, 12] (fun nv i wr => ∃ (k : Nat) (a' : Option Addr) (rest : List Int) (cap' : Nat) (acc' : List UInt8), i = .int .i64 k ∧ nv = .slice a' rest.length cap' ∧ k ≤ W ∧ Hid (IntsK wr a' rest) ∧ rest.length ≤ cap' ∧ cap' ≤ 9223372036854775807 ∧ Hid (((words m).drop k).count [78] ≤ rest.length) ∧ Hid (Lib.IsBuilder 84 5 B bb (Lib.byteCells acc') wr) ∧ acc'.length ≤ acc.length + 40 * k ∧ Hid (wr.ownsRow w.heap.size 9 1 (.slice (some ⟨g, 0, none⟩) W cw) W ((words m).map strV)) ∧ g < wr.heap.size ∧ Below B w wr ∧ Kept w wr ∧ Hid (wGo k ((words m).drop k) rest acc' = R)) (fun _ i _ => W - (intOf i).toNat)
  case atStart =>
    refine ⟨0, a, ns, cap, acc, rfl, rfl, by omega, hns.kept (Kept.of hb1), hcap, hcm, hct, ?_, by omega, hof, hgl, hb1.mono hBw, Kept.of hb1, HR⟩
    rcases hBd with h | h
    · exact .inl (bld_below h hb1)
    · exact .inr (bld_below h hb1)
  case round =>
    obtain ⟨k, a', rest, cap', acc', rfl, rfl, hk, hin, hc', hcm', hctk, hbd, hal', how, hgs, hbr, hkr, hgo⟩ := hrel
    clear HR
    have hsz := hbr.size
    have hBr : B ≤ wr.heap.size := by omega
    have hTr := hT.on hbr hB8
    by_cases hkW : k < W
    · have hkl : k < (words m).length := by rw [HW.out]; exact hkW
      have cw0 := own_cell how.out k (by simpa using hkl)
      rw [List.getElem_map] at cw0
      have hgo2 := hgo.out
      have hct2 := hctk.out
      rw [List.drop_eq_getElem_cons hkl] at hgo2 hct2
      have hxs := hws _ (List.getElem_mem hkl)
      generalize (words m)[k] = x at *
      clear hgo hctk
      by_cases hk0 : 0 < k
      · have hk0' : (0 : Int) < (k : Int) := by omega
        by_cases hx : x = [78]
        · subst hx
          cases rest with
          | nil =>
            rw [List.count_cons] at hct2
            simp at hct2
          | cons n r =>
            rcases hin.out with hnil | ⟨vb, off, cs, fr, rfl, hvb, hcs⟩
            · cases hnil
            have cn0 : wr.cell? ⟨vb, off, none⟩ = some (.int .i64 n) := by
              rw [Joins.cell_of_block hvb]
              exact hcs 0 (by simp)
            have hrl : (n :: r).length = r.length + 1 := by simp
            have hc1 : r.length + 1 ≤ cap' := by simpa using hc'
            unfold wGo at hgo2
            rw [if_pos rfl] at hgo2
            simp only at hgo2
            rw [hrl]
            have hct3 : Hid (((words m).drop (k + 1)).count [78] ≤ r.length) := by
              show _ ≤ _
              rw [List.count_cons] at hct2
              simp at hct2
              exact hct2
            clear hct2 hrl
            have kS := put_byte 32 (.inl rfl) B bb acc' wr hbd.out (by omega) hBr
            have cnS : ∀ W1, Kept wr W1 → W1.cell? ⟨vb, off, none⟩ = some (.int .i64 n) := fun W1 hW1 => by
              rw [Joins.cell_of_block (hW1.block _ _ _ _ hvb (by decide) (by decide))]
              exact hcs 0 (by simp)
            by_cases hok : okN n = true
            · rw [if_pos hok] at hgo2
              rw [if_pos hk0] at hgo2
              have hok' : 0 ≤ n ∧ n ≤ 1048576 := by simpa [okN] using hok
              have HG : Hid (wGo (k + 1) ((words m).drop (k + 1)) r ((acc' ++ [32]) ++ Lib.itoa n) = R) := hgo2
              have hil := Lib.itoa_length_le n (by omega) (by omega)
              have kD : ∀ W1, Tabs W1 → Calls Tryd.prog 54 #[.int .i64 n] W1 _ := fun W1 h1 => digitsOf_ok n hok'.1 hok'.2 W1 h1
              have kT : ∀ W1, Lib.IsBuilder 84 5 B bb (Lib.byteCells (acc' ++ [32])) W1 → B ≤ W1.heap.size → Calls Tryd.prog 55 #[ptr bb 0, strV (Lib.itoa n)] W1 _ := fun W1 h1 h2 => put_text (Lib.itoa n) (by omega) B bb _ W1 h1 (by first | omega | (simp; omega)) h2
              have hin1 : Hid (IntsK wr (some ⟨vb, off, none⟩) (n :: r)) := hin
              have hinr : Hid (IntsK wr (some ⟨vb, off + 1, none⟩) r) := by
                refine .inr ⟨vb, off + 1, cs, fr, rfl, hvb, fun i hi => ?_⟩
                have := hcs (i + 1) (by simp; omega)
                rw [show off + 1 + i = off + (i + 1) by omega]
                simpa using this
              clear hgo2 hok hok' hin hcs hvb
              generalize Lib.itoa n = ds at *
              by_cases hcc : cap' = 1
              · subst hcc
                have hr0 : Hid (r = []) := List.eq_nil_of_length_eq_zero (by omega)
                go_wp2_with (first | (go_at_call 53; refine kS.mono ?_; rintro e wS ⟨rfl, hdS, hbS, hkS⟩; have hBS : B ≤ wS.heap.size := Nat.le_trans hBr hbS.size; have cnS1 := cnS wS hkS) | (go_at_call 54; refine (kD wS (hTr.on hbS hB8)).mono ?_; rintro e wD ⟨rfl, hbD⟩; have hBD : B ≤ wD.heap.size := Nat.le_trans hBS hbD.size) | (go_at_call 55; refine (kT wD (bldI_below hdS hbD) hBD).mono ?_; rintro e w5 ⟨⟨v5, rfl⟩, hd5, hb5, hk5⟩))
                go_roundw
                case rel => exact ⟨k + 1, some ⟨vb, off, none⟩, r, 0, (acc' ++ [32]) ++ ds, by go_num, by rw [hr0.out]; rfl, by omega, .inl hr0.out, by rw [hr0.out]; simp, by omega, hct3, hd5, by simp; omega, own_keptK (own_keptK (own_keptK how.out hkS (by decide) (by decide)) (Kept.of hbD) (by decide) (by decide)) hk5 (by decide) (by decide), by have := hk5.size; have := hbD.size; have := hkS.size; omega, ((hbr.trans hbS).trans (hbD.mono hBS)).trans hb5, ((hkr.trans hkS).trans (Kept.of hbD)).trans hk5, HG⟩
                case measure => simp [intOf]; omega
              · have hcc' : ¬ ((cap' : Int) - 1 = 0) := by omega
                go_wp2_with (first | (go_at_call 53; refine kS.mono ?_; rintro e wS ⟨rfl, hdS, hbS, hkS⟩; have hBS : B ≤ wS.heap.size := Nat.le_trans hBr hbS.size; have cnS1 := cnS wS hkS) | (go_at_call 54; refine (kD wS (hTr.on hbS hB8)).mono ?_; rintro e wD ⟨rfl, hbD⟩; have hBD : B ≤ wD.heap.size := Nat.le_trans hBS hbD.size) | (go_at_call 55; refine (kT wD (bldI_below hdS hbD) hBD).mono ?_; rintro e w5 ⟨⟨v5, rfl⟩, hd5, hb5, hk5⟩))
                go_roundw
                case rel => exact ⟨k + 1, some ⟨vb, off + 1, none⟩, r, cap' - 1, (acc' ++ [32]) ++ ds, by go_num, rfl, by omega, ((hinr.out.kept hkS).kept (Kept.of hbD)).kept hk5, by omega, by omega, hct3, hd5, by simp; omega, own_keptK (own_keptK (own_keptK how.out hkS (by decide) (by decide)) (Kept.of hbD) (by decide) (by decide)) hk5 (by decide) (by decide), by have := hk5.size; have := hbD.size; have := hkS.size; omega, ((hbr.trans hbS).trans (hbD.mono hBS)).trans hb5, ((hkr.trans hkS).trans (Kept.of hbD)).trans hk5, HG⟩
                case measure => simp [intOf]; omega
            · rw [if_neg hok] at hgo2
              have hok' : ¬ (0 ≤ n ∧ n ≤ 1048576) := by simpa [okN] using hok
              subst hgo2
              have kD : ∀ W1, Calls Tryd.prog 54 #[.int .i64 n] W1 _ := fun W1 => digitsOf_bad n hok' W1
              clear hok hok' hin hcs hvb
              go_wp2_with (first | (go_at_call 53; refine kS.mono ?_; rintro e wS ⟨rfl, hdS, hbS, hkS⟩; have hBS : B ≤ wS.heap.size := Nat.le_trans hBr hbS.size; have cnS1 := cnS wS hkS) | (go_at_call 54; refine (kD wS).mono ?_; rintro e wD ⟨rfl, rfl⟩))
              exact ⟨rfl, rfl, (hbr.trans hbS), (hkr.trans hkS)⟩
        · have hx1 : (x == [78]) = false := beq_eq_false_iff_ne.2 hx
          unfold wGo at hgo2
          rw [if_neg hx] at hgo2
          rw [if_pos hk0] at hgo2
          have HG : Hid (wGo (k + 1) ((words m).drop (k + 1)) rest ((acc' ++ [32]) ++ x) = R) := hgo2
          have HC : Hid (((words m).drop (k + 1)).count [78] ≤ rest.length) := by
            show _ ≤ _
            rw [List.count_cons] at hct2
            simp [hx1] at hct2
            exact hct2
          have kS := put_byte 32 (.inl rfl) B bb acc' wr hbd.out (by omega) hBr
          have kT : ∀ W1, Lib.IsBuilder 84 5 B bb (Lib.byteCells (acc' ++ [32])) W1 → B ≤ W1.heap.size → Calls Tryd.prog 55 #[ptr bb 0, strV x] W1 _ := fun W1 h1 h2 => put_text x (by omega) B bb _ W1 h1 (by first | omega | (simp; omega)) h2
          clear hgo2 hct2 hx
          go_wp2_with (first | (go_at_call 53; refine kS.mono ?_; rintro e wS ⟨rfl, hdS, hbS, hkS⟩; have hBS : B ≤ wS.heap.size := Nat.le_trans hBr hbS.size) | (go_at_call 55; refine (kT wS hdS hBS).mono ?_; rintro e w5 ⟨⟨v5, rfl⟩, hd5, hb5, hk5⟩))
          go_roundw
          case rel => exact ⟨k + 1, a', rest, cap', (acc' ++ [32]) ++ x, by go_num, rfl, by omega, (hin.out.kept hkS).kept hk5, hc', hcm', HC, hd5, by simp; omega, own_keptK (own_keptK how.out hkS (by decide) (by decide)) hk5 (by decide) (by decide), by have := hk5.size; have := hkS.size; omega, (hbr.trans hbS).trans hb5, (hkr.trans hkS).trans hk5, HG⟩
          case measure => simp [intOf]; omega
      · have hk0' : ¬ ((0 : Int) < (k : Int)) := by omega
        by_cases hx : x = [78]
        · subst hx
          cases rest with
          | nil =>
            rw [List.count_cons] at hct2
            simp at hct2
          | cons n r =>
            rcases hin.out with hnil | ⟨vb, off, cs, fr, rfl, hvb, hcs⟩
            · cases hnil
            have cn0 : wr.cell? ⟨vb, off, none⟩ = some (.int .i64 n) := by
              rw [Joins.cell_of_block hvb]
              exact hcs 0 (by simp)
            have hrl : (n :: r).length = r.length + 1 := by simp
            have hc1 : r.length + 1 ≤ cap' := by simpa using hc'
            unfold wGo at hgo2
            rw [if_pos rfl] at hgo2
            simp only at hgo2
            rw [hrl]
            have hct3 : Hid (((words m).drop (k + 1)).count [78] ≤ r.length) := by
              show _ ≤ _
              rw [List.count_cons] at hct2
              simp at hct2
              exact hct2
            clear hct2 hrl
            have cnS : ∀ W1, Kept wr W1 → W1.cell? ⟨vb, off, none⟩ = some (.int .i64 n) := fun W1 hW1 => by
              rw [Joins.cell_of_block (hW1.block _ _ _ _ hvb (by decide) (by decide))]
              exact hcs 0 (by simp)
            by_cases hok : okN n = true
            · rw [if_pos hok] at hgo2
              rw [if_neg (by omega)] at hgo2
              have hok' : 0 ≤ n ∧ n ≤ 1048576 := by simpa [okN] using hok
              have HG : Hid (wGo (k + 1) ((words m).drop (k + 1)) r (acc' ++ Lib.itoa n) = R) := hgo2
              have hil := Lib.itoa_length_le n (by omega) (by omega)
              have kD : ∀ W1, Tabs W1 → Calls Tryd.prog 54 #[.int .i64 n] W1 _ := fun W1 h1 => digitsOf_ok n hok'.1 hok'.2 W1 h1
              have kT : ∀ W1, Lib.IsBuilder 84 5 B bb (Lib.byteCells acc') W1 → B ≤ W1.heap.size → Calls Tryd.prog 55 #[ptr bb 0, strV (Lib.itoa n)] W1 _ := fun W1 h1 h2 => put_text (Lib.itoa n) (by omega) B bb _ W1 h1 (by first | omega | (simp; omega)) h2
              have hin1 : Hid (IntsK wr (some ⟨vb, off, none⟩) (n :: r)) := hin
              have hinr : Hid (IntsK wr (some ⟨vb, off + 1, none⟩) r) := by
                refine .inr ⟨vb, off + 1, cs, fr, rfl, hvb, fun i hi => ?_⟩
                have := hcs (i + 1) (by simp; omega)
                rw [show off + 1 + i = off + (i + 1) by omega]
                simpa using this
              clear hgo2 hok hok' hin hcs hvb
              generalize Lib.itoa n = ds at *
              by_cases hcc : cap' = 1
              · subst hcc
                have hr0 : Hid (r = []) := List.eq_nil_of_length_eq_zero (by omega)
                go_wp2_with (first | (go_at_call 54; refine (kD wr (hTr)).mono ?_; rintro e wD ⟨rfl, hbD⟩; have hBD : B ≤ wD.heap.size := Nat.le_trans hBr hbD.size) | (go_at_call 55; refine (kT wD (bldI_below hbd.out hbD) hBD).mono ?_; rintro e w5 ⟨⟨v5, rfl⟩, hd5, hb5, hk5⟩))
                go_roundw
                case rel => exact ⟨k + 1, some ⟨vb, off, none⟩, r, 0, acc' ++ ds, by go_num, by rw [hr0.out]; rfl, by omega, .inl hr0.out, by rw [hr0.out]; simp, by omega, hct3, hd5, by simp; omega, own_keptK (own_keptK how.out (Kept.of hbD) (by decide) (by decide)) hk5 (by decide) (by decide), by have := hk5.size; have := hbD.size; have := hkr.size; omega, (hbr.trans (hbD.mono hBr)).trans hb5, (hkr.trans (Kept.of hbD)).trans hk5, HG⟩
                case measure => simp [intOf]; omega
              · have hcc' : ¬ ((cap' : Int) - 1 = 0) := by omega
                go_wp2_with (first | (go_at_call 54; refine (kD wr (hTr)).mono ?_; rintro e wD ⟨rfl, hbD⟩; have hBD : B ≤ wD.heap.size := Nat.le_trans hBr hbD.size) | (go_at_call 55; refine (kT wD (bldI_below hbd.out hbD) hBD).mono ?_; rintro e w5 ⟨⟨v5, rfl⟩, hd5, hb5, hk5⟩))
                go_roundw
                case rel => exact ⟨k + 1, some ⟨vb, off + 1, none⟩, r, cap' - 1, acc' ++ ds, by go_num, rfl, by omega, ((hinr.out).kept (Kept.of hbD)).kept hk5, by omega, by omega, hct3, hd5, by simp; omega, own_keptK (own_keptK how.out (Kept.of hbD) (by decide) (by decide)) hk5 (by decide) (by decide), by have := hk5.size; have := hbD.size; have := hkr.size; omega, (hbr.trans (hbD.mono hBr)).trans hb5, (hkr.trans (Kept.of hbD)).trans hk5, HG⟩
                case measure => simp [intOf]; omega
            · rw [if_neg hok] at hgo2
              have hok' : ¬ (0 ≤ n ∧ n ≤ 1048576) := by simpa [okN] using hok
              subst hgo2
              have kD : ∀ W1, Calls Tryd.prog 54 #[.int .i64 n] W1 _ := fun W1 => digitsOf_bad n hok' W1
              clear hok hok' hin hcs hvb
              go_wp2_with (go_at_call 54; refine (kD wr).mono ?_; rintro e wD ⟨rfl, rfl⟩)
              exact ⟨rfl, rfl, hbr, hkr⟩
        · have hx1 : (x == [78]) = false := beq_eq_false_iff_ne.2 hx
          unfold wGo at hgo2
          rw [if_neg hx] at hgo2
          rw [if_neg (by omega)] at hgo2
          have HG : Hid (wGo (k + 1) ((words m).drop (k + 1)) rest (acc' ++ x) = R) := hgo2
          have HC : Hid (((words m).drop (k + 1)).count [78] ≤ rest.length) := by
            show _ ≤ _
            rw [List.count_cons] at hct2
            simp [hx1] at hct2
            exact hct2
          have kT : ∀ W1, Lib.IsBuilder 84 5 B bb (Lib.byteCells acc') W1 → B ≤ W1.heap.size → Calls Tryd.prog 55 #[ptr bb 0, strV x] W1 _ := fun W1 h1 h2 => put_text x (by omega) B bb _ W1 h1 (by first | omega | (simp; omega)) h2
          clear hgo2 hct2 hx
          go_wp2_with (go_at_call 55; refine (kT wr hbd.out hBr).mono ?_; rintro e w5 ⟨⟨v5, rfl⟩, hd5, hb5, hk5⟩)
          go_roundw
          case rel => exact ⟨k + 1, a', rest, cap', acc' ++ x, by go_num, rfl, by omega, hin.out.kept hk5, hc', hcm', HC, hd5, by simp; omega, own_keptK how.out hk5 (by decide) (by decide), by have := hk5.size; have := hkr.size; omega, hbr.trans hb5, hkr.trans hk5, HG⟩
          case measure => simp [intOf]; omega
    · have hkE : k = W := by omega
      have hgo2 := hgo.out
      rw [hkE, ← HW.out, List.drop_length] at hgo2
      have hR2 : some (acc' ++ [10]) = R := hgo2
      subst hR2
      have kB := put_byte 10 (.inr rfl) B bb acc' wr hbd.out (by omega) hBr
      clear hgo2 hgo
      go_wp2_with (go_at_call 53; refine kB.mono ?_; rintro e w5 ⟨rfl, hd5, hb5, hk5⟩)
      go_end0
      exact ⟨⟨rfl, hd5⟩, hbr.trans hb5, hkr.trans hk5⟩

end Go.Proofs.YtgjfhfjmdkhllaaDoor
