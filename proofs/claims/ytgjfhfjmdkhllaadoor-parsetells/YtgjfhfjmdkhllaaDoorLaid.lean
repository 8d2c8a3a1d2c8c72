/- What the rows of this seat share: the listed tables as the program's own door lays them meet the rows' condition; and the condition gives the three tables that the program reads. -/
import Derived.Test.YtgjfhfjmdkhllaaDoorRows
import Derived.Test.YtgjfhfjmdkhllaaDoorTab
import Derived.ProofKit
import Derived.LaidMore
import Derived.OpenShut
import Derived.Stop.Joined
import Derived.Stop.LaidErr
import Derived.Lib.LaidTab
namespace Go.Proofs.YtgjfhfjmdkhllaaDoor
open Go.ChangeShapes Go.WideShapes Go.ChangeAt Go.WideMaps Go.WideElems Go.RowKit
open M
set_option linter.unusedVariables false
set_option linter.unusedSimpArgs false

theorem own : ownKnob Tryd.prog.godebug = none := by kernel_rfl

def laid6 : List (String × DataW Unit) := [("math/bits.deBruijn32tab", Rows.laid_math_bits_deBruijn32tab), ("math/bits.deBruijn64tab", Rows.laid_math_bits_deBruijn64tab), ("internal/strconv.uint64pow10", Rows.laid_internal_strconv_uint64pow10), ("unicode.White_Space", Rows.laid_unicode_White_Space), ("strings.asciiSpace", Rows.laid_strings_asciiSpace), ("millwright/parse.forms", Rows.laid_millwright_parse_forms)]

theorem door_met (os : Os) (args : Array Value) : laidMetH Tryd.prog laid6 ((World.doorLaid Tryd.prog 63 os).forCall (fun _ _ => 0) ⟨#[], args, []⟩).memory :=
  laidMetH_of_parts3 (fuel := 8) (laidMet_of_run' 8 (by kernel_rfl) (by kernel_rfl)) (by kernel_rfl) (by kernel_rfl)

theorem powData : (Rows.laid_internal_strconv_uint64pow10 : DataW Unit) = Lib.tabData .u64 Lib.pow10Tab := by kernel_rfl
theorem spData : (Rows.laid_strings_asciiSpace : DataW Unit) = Lib.tabData .u8 Lib.asciiSpaceTab := by kernel_rfl

def formData {H : Type} (m : Fm) : DataW H := .agg [.lit (.string m.text), .lit (.int .i64 m.part), .lit (.int .i64 m.kind), .lit (.int .i64 m.says)]
theorem foData : (Rows.laid_millwright_parse_forms : DataW Unit) = .agg (forms.map formData) := by kernel_rfl

section
variable {H : Type} {enc : TypeId × Value → H} {w : World} {base : Nat} {sp : Nat → Bool} {held : Bool}

set_option maxRecDepth 100000 in
theorem form_of {fuel : Nat} {cs : List Value} {m : Fm} {p : List MemPlace} (h : DataW.trod enc Tryd.prog w base sp held fuel 86 cs = some (formData m, p)) : cs = formCells m := by
  have c86 : Tryd.prog.cellsOf 86 = 4 := by kernel_rfl
  have c9 : Tryd.prog.cellsOf 9 = 1 := by kernel_rfl
  have c3 : Tryd.prog.cellsOf 3 = 1 := by kernel_rfl
  obtain ⟨y0, y1, y2, y3, n, hx, hl, h0, h1, h2, h3⟩ := Joins.trod_struct4 Tryd.underlying86 h
  rw [c86] at hl
  obtain ⟨s, e0, rfl, _⟩ := DataW.trod_string Tryd.underlying9 h0
  obtain ⟨z1, e1, rfl, _⟩ := DataW.trod_int Tryd.underlying3 h1
  obtain ⟨z2, e2, rfl, _⟩ := DataW.trod_int Tryd.underlying3 h2
  obtain ⟨z3, e3, rfl, _⟩ := DataW.trod_int Tryd.underlying3 h3
  have hx1 := congrArg Prod.fst hx
  simp only [formData, DataW.agg.injEq, List.cons.injEq, DataW.lit.injEq, Lit.string.injEq, Lit.int.injEq, true_and, and_true] at hx1
  obtain ⟨q0, q1, q2, q3⟩ := hx1
  match cs, hl with
  | [c0, c1, c2, c3'], _ =>
    simp only [c9, c3] at e0 e1 e2 e3
    simp at e0 e1 e2 e3
    subst e0 e1 e2 e3
    unfold formCells strV
    rw [q0, q1, q2, q3]

set_option maxRecDepth 100000 in
theorem forms_of {fuel : Nat} {cs : List Value} {p : List MemPlace} (h : DataW.trod enc Tryd.prog w base sp held fuel 87 cs = some (.agg (forms.map formData), p)) : cs.toArray = formsCells := by
  have c86 : Tryd.prog.cellsOf 86 = 4 := by kernel_rfl
  have c87 : Tryd.prog.cellsOf 87 = 40 := by kernel_rfl
  cases fuel with
  | zero => simp [DataW.trod] at h
  | succ fuel =>
    simp only [DataW.trod, Tryd.underlying87, c86, c87] at h
    split at h
    · rename_i hl
      obtain ⟨xs, hm, hx⟩ := Option.map_eq_some_iff.1 h
      have hxs : xs.map (·.1) = forms.map (formData (H := H)) := by
        have := congrArg Prod.fst hx
        simpa using this
      have hp : ∀ i (hi : i < forms.length), (cs.drop (i * 4)).take 4 = formCells forms[i] := by
        intro i hi
        obtain ⟨b, hb, hf⟩ := Lib.mapM_at hm i i (by
          have h10 : forms.length = 10 := rfl
          rw [List.getElem?_range (by omega)])
        have h2 : (xs.map (·.1))[i]? = some b.1 := by simp [hb]
        rw [hxs, List.getElem?_map, List.getElem?_eq_getElem hi] at h2
        have h3 : formData forms[i] = b.1 := Option.some.inj h2
        have h4 : b = (formData forms[i], b.2) := by rw [h3]
        rw [h4] at hf
        exact form_of hf
      have hl40 : cs.length = 40 := hl
      have hcut : ∀ (n : Nat) (l : List Value), l.length = n * 4 → l = (List.range n).flatMap (fun i => (l.drop (i * 4)).take 4) := by
        intro n
        induction n with
        | zero => intro l hl; simp at hl; subst hl; rfl
        | succ n ih =>
          intro l hl
          have h1 := ih (l.drop 4) (by simp; omega)
          rw [List.range_succ_eq_map, List.flatMap_cons, List.flatMap_map]
          simp only [Nat.zero_mul, List.drop_zero]
          conv => lhs; rw [← List.take_append_drop 4 l, h1]
          congr 1
          apply congrArg (fun f => List.flatMap f (List.range n))
          funext i
          rw [List.drop_drop]
          congr 2
          show 4 + i * 4 = (i + 1) * 4
          omega
      have h5 := hcut 10 cs (by omega)
      have h6 : (List.range 10).flatMap (fun i => (cs.drop (i * 4)).take 4) = forms.flatMap formCells := by
        have e0 := hp 0 (by decide); have e1 := hp 1 (by decide); have e2 := hp 2 (by decide); have e3 := hp 3 (by decide); have e4 := hp 4 (by decide)
        have e5 := hp 5 (by decide); have e6 := hp 6 (by decide); have e7 := hp 7 (by decide); have e8 := hp 8 (by decide); have e9 := hp 9 (by decide)
        have hr : List.range 10 = [0, 1, 2, 3, 4, 5, 6, 7, 8, 9] := rfl
        rw [hr]
        simp only [List.flatMap_cons, List.flatMap_nil, e0, e1, e2, e3, e4, e5, e6, e7, e8, e9]
        rfl
      rw [h5, h6]
      rfl
    · cases h
end

theorem tabs_of_laid {W : World} (h : laidMetH Tryd.prog laid6 W) : Tabs W := by
  rw [MakeChecks.laidMetH_plain _ _ _ (by kernel_rfl)] at h
  have h2 := h.tail
  have h3 := h2.tail
  have h4 := h3.tail.tail
  have h5 := h4.tail
  have hb : 7 ≤ W.heap.size := by
    obtain ⟨ps, ⟨g', t', cs, fuel, p, q, hg', ht', hvar, hd, _, _⟩, _⟩ := h2
    have hg : Tryd.prog.globalNamed "math/bits.deBruijn64tab" = some 6 := by kernel_rfl
    unfold World.var? at hvar
    rw [hg] at hvar
    simp only [Option.bind_some] at hvar
    by_cases hz : 6 < W.heap.size
    · omega
    · rw [Array.getElem?_eq_none (by omega)] at hvar
      cases hvar
  rw [powData] at h3
  rw [spData] at h4
  refine ⟨?_, ?_, ?_, hb⟩
  · exact Lib.tabIs_of_head gSpace (t := 118) (e := 5) (n := 256) (by kernel_rfl) (by kernel_rfl) (by kernel_rfl) (by kernel_rfl) (by kernel_rfl) h4
  · exact Lib.tabIs_of_head gPow (t := 156) (e := 150) (n := 20) (by kernel_rfl) (by kernel_rfl) (by kernel_rfl) (by kernel_rfl) (by kernel_rfl) h3
  · obtain ⟨ps, ⟨g', t', cs, fuel, p, q, hg', ht', hvar, hd, _, _⟩, _⟩ := h5
    obtain rfl := Option.some.inj (gForms.symm.trans hg')
    have ht : t' = 87 := (Option.some.inj ((show (Tryd.prog.globals[0]?).map (·.type) = some 87 by kernel_rfl).symm.trans ht')).symm
    subst ht
    rw [foData] at hd
    rw [hvar]
    congr 1
    have := forms_of hd
    simpa using this

end Go.Proofs.YtgjfhfjmdkhllaaDoor
