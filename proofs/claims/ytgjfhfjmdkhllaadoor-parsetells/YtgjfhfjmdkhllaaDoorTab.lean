/- The tables that the program reads: the forms, the blanks of package strings, the powers of ten; and strings.Fields, strings.Count, num.Text out of the shelf's contracts. -/
import Derived.Test.YtgjfhfjmdkhllaaDoorBld
import Derived.Test.YtgjfhfjmdkhllaaDoorIdx
import Derived.Test.YtgjfhfjmdkhllaaDoorNumP
import Derived.Lib.SmallJoins
import Derived.WalkSmall
namespace Go.Proofs.YtgjfhfjmdkhllaaDoor
open Go.RowKit
open M
set_option linter.unusedVariables false

abbrev strV (l : List UInt8) : Value := .string ⟨l.toArray⟩
def formCells (m : Fm) : List Value := [strV m.text, .int .i64 m.part, .int .i64 m.kind, .int .i64 m.says]
abbrev formV (m : Fm) : Value := .agg #[strV m.text, .int .i64 m.part, .int .i64 m.kind, .int .i64 m.says]
def formsCells : Array Value := (forms.flatMap formCells).toArray

structure Tabs (w : World) : Prop where
  sp : Lib.TabIs Tryd.prog w "strings.asciiSpace" .u8 Lib.asciiSpaceTab
  pow : Lib.TabIs Tryd.prog w "internal/strconv.uint64pow10" .u64 Lib.pow10Tab
  fo : w.var? Tryd.prog "millwright/parse.forms" = some formsCells
  big : 7 ≤ w.heap.size

theorem gForms : Tryd.prog.globalNamed "millwright/parse.forms" = some 0 := by kernel_rfl
theorem gSpace : Tryd.prog.globalNamed "strings.asciiSpace" = some 1 := by kernel_rfl
theorem gPow : Tryd.prog.globalNamed "internal/strconv.uint64pow10" = some 4 := by kernel_rfl

theorem Tabs.on {w w' : World} (h : Tabs w) {B : Nat} (hb : Below B w w') (hB : 7 ≤ B) : Tabs w' := by
  have h8 := h.big
  refine ⟨?_, ?_, ?_, Nat.le_trans h8 hb.size⟩
  · have := h.sp
    unfold Lib.TabIs World.var? at *
    simp only [gSpace, Option.bind_some] at *
    rw [hb.block 1 (by omega)]; exact this
  · have := h.pow
    unfold Lib.TabIs World.var? at *
    simp only [gPow, Option.bind_some] at *
    rw [hb.block 4 (by omega)]; exact this
  · have := h.fo
    unfold World.var? at *
    simp only [gForms, Option.bind_some] at *
    rw [hb.block 0 (by omega)]; exact this
theorem Tabs.alloc {w : World} (h : Tabs w) (o : Obj) : Tabs (w.alloc o) := h.on ((Below.refl w.heap.size w).alloc (Nat.le_refl _) o) h.big

theorem ascii_of {m : Fm} (hm : m ∈ forms) : (∀ c ∈ m.text, c.toNat < 128) ∧ m.text.length ≤ 200 ∧ (∀ x ∈ words m, x ≠ []) ∧ (words m).length ≤ 21 ∧ (words m).length ≠ 0 := by
  have h : forms.all (fun m => m.text.all (fun c => decide (c.toNat < 128)) && decide (m.text.length ≤ 200) && (words m).all (fun x => !x.isEmpty) && decide ((words m).length ≤ 21) && decide ((words m).length ≠ 0)) = true := by decide +kernel
  have := List.all_eq_true.1 h m hm
  simp only [Bool.and_eq_true, List.all_eq_true, decide_eq_true_eq, Bool.not_eq_true', List.isEmpty_eq_false_iff] at this
  obtain ⟨⟨⟨⟨h1, h2⟩, h3⟩, h4⟩, h5⟩ := this
  exact ⟨h1, h2, h3, h4, h5⟩

/-- A row that is made whole. -/
theorem own_made {w : World} {base e : Nat} (xs : List Value) (hb : base ≤ w.heap.size) (hm : xs.length ≤ maxLen) :
    (w.alloc (.cells xs.toArray e)).ownsRow base e 1 (.slice (some ⟨w.heap.size, 0, none⟩) xs.length xs.length) xs.length xs :=
  ⟨by omega, .inr ⟨w.heap.size, xs.length, xs.toArray, rfl, hb, heap_alloc_new w _, Nat.le_refl _, hm, by simp, by simp⟩⟩

theorem fields_any {m : Fm} (hm : m ∈ forms) (w : World) (hT : Tabs w) :
    Calls Tryd.prog 52 #[strV m.text] w fun e w' => ∃ v, e = .returned v ∧ w'.ownsRow w.heap.size 9 1 v (words m).length ((words m).map strV) ∧ Below w.heap.size w w' := by
  obtain ⟨h1, h2, h3, h4, _⟩ := ascii_of hm
  have := Tryd.strings_Fields ⟨m.text.toArray⟩ w (by show m.text.toArray.size < _; simp; omega) (fun j b hj => h1 b (by simp at hj; exact List.mem_of_getElem? hj)) hT.sp
  refine this.mono ?_
  rintro e w' ⟨rfl, rfl⟩
  have e1 : (⟨m.text.toArray⟩ : ByteArray).data.toList = m.text := by simp
  rw [e1]
  refine ⟨_, rfl, ?_, (Below.refl _ _).alloc (Nat.le_refl _) _⟩
  have := own_made (w := w) (base := w.heap.size) (e := 9) ((words m).map strV) (Nat.le_refl _) (by simp; unfold maxLen; omega)
  rw [List.length_map] at this
  exact this

theorem count_any (m : Fm) (w : World) : Calls Tryd.prog 56 #[strV m.text, .string ⟨#[78]⟩] w fun e w' => e = .returned (.int .i64 (nums m)) ∧ w' = w := by
  have := Tryd.strings_Count_one ⟨m.text.toArray⟩ 78 w
  have e1 : (⟨m.text.toArray⟩ : ByteArray).data.toList = m.text := by simp
  rw [e1] at this
  exact this

theorem below_grow (w : World) (k : Nat) (os : Array Obj) : Below w.heap.size w (Sort.grow (w.drewN k) os) := by
  refine ⟨rfl, rfl, rfl, ?_, fun i hi => ?_⟩
  · show w.heap.size ≤ (w.heap ++ os).size
    simp
  · show (w.heap ++ os)[i]? = _
    exact Array.getElem?_append_left hi

set_option maxHeartbeats 400000 in
theorem text_any (n : Int) (h0 : -9223372036854775808 ≤ n) (h1 : n ≤ 9223372036854775807) (w : World) (hT : Tabs w) :
    Calls Tryd.prog 61 #[.int .i64 n] w fun e w' => e = .returned (.string ⟨(Lib.itoa n).toArray⟩) ∧ Below w.heap.size w w' := by
  have kI := Tryd.strconv_Itoa n h0 h1 w hT.pow
  go_enter Tryd.func61, Tryd.ntmps61
  go_wp2_with (go_at_call 68; refine kI.mono ?_; rintro e w' ⟨rfl, k, os, rfl⟩)
  go_ret
  exact ⟨rfl, below_grow w k os⟩

end Go.Proofs.YtgjfhfjmdkhllaaDoor
