/- What readLine of package parse does with any line. -/
import Derived.Test.YtgjfhfjmdkhllaaDoorLinP
import Derived.Test.YtgjfhfjmdkhllaaDoorParN
namespace Go.Proofs.YtgjfhfjmdkhllaaDoor
open Go.RowKit
open M
set_option linter.unusedVariables false
set_option linter.unusedSimpArgs false

/-- Not too many lines. -/
def FileOk (f : Fl) : Prop := f.tasks.length ≤ 64 ∧ f.ops.length ≤ 4096

theorem two_of {l : List Int} (h : l.length = 2) : l = [l.getD 0 0, l.getD 1 0] := by
  match l, h with
  | [a, b], _ => rfl

theorem lineAdd_ok {f : Fl} {line : List Tok} {first : Bool} (h : FileOk f) (he : lineErr f line first = 0) : FileOk (lineAdd f line) := by
  unfold lineErr at he
  split at he
  · simp at he
  · split at he
    · simp at he
    · rename_i h1 h2
      obtain ⟨h3, h4⟩ := h
      unfold lineAdd
      unfold isFull at h2
      by_cases p1 : (near line).m.part = 1
      · rw [if_pos p1]; exact ⟨h3, h4⟩
      · rw [if_neg p1]
        by_cases p2 : (near line).m.part = 2
        · rw [if_pos p2]
          rw [p2] at h2
          simp at h2
          exact ⟨by simp; omega, h4⟩
        · rw [if_neg p2]
          have p0 : (near line).m.part ≠ 0 := mayStand_part (by simpa using h1)
          obtain ⟨_, hp, _⟩ := form_facts (near_form p0).1
          have p3 : (near line).m.part = 3 := by omega
          rw [p3] at h2
          simp at h2
          exact ⟨h3, by simp; omega⟩

theorem readLine_ok (g B b o cap : Nat) (f : Fl) (vt vo : Value) (line : List Tok) (first : Bool) (w : World) (hT : Tabs w) (hf : FileAt w g B f vt vo) (hok : FileOk f) (hgB : g < B) (hBw : B ≤ w.heap.size) (hl : LineOk line) (hcap : line.length ≤ cap) (hn : line.length ≤ 1000000) (ht : TAt w b o line) (hbw : b < w.heap.size)
    (he : lineErr f line first = 0) :
    Calls Tryd.prog 30 #[ptr g 0, .slice (some ⟨b, o, none⟩) line.length cap, .bool first] w fun e w' => e = .returned (.tuple #[]) ∧ (∃ vt' vo', FileAt w' g B (lineAdd f line) vt' vo') ∧ But g B w w' := by
  have he' := he
  unfold lineErr at he'
  split at he'
  · simp at he'
  · split at he'
    · simp at he'
    · rename_i h1 h2
      have r1 : mayStand f (near line).m.part first = true := by simpa using h1
      have r2 : isFull f (near line).m.part = false := by simpa using h2
      have p0 := mayStand_part r1
      obtain ⟨_, hp, f1, f2, f3, _⟩ := form_facts (near_form p0).1
      have hx := near_nums hl p0 he'
      unfold lineAdd
      rcases hp with p1 | p2 | p3
      · rw [if_pos p1]
        rw [f1 p1] at hx
        exact (readLine_cfg g B b o cap f vt vo line first w hT hf hgB hBw hl hcap hn ht hbw (near line) rfl hx p1 he' r1 r2).mono fun e w' ⟨a1, a2, a3⟩ => ⟨a1, ⟨_, _, a2⟩, a3⟩
      · rw [if_neg (by omega), if_pos p2]
        rw [f2 p2] at hx
        exact (readLine_task g B b o cap f vt vo line first w hT hf hgB hBw hl hcap hn ht hbw hok.1 (near line) rfl _ _ (two_of hx) p2 he' r1 r2).mono fun e w' ⟨a1, ⟨vt', a2⟩, a3⟩ => ⟨a1, ⟨_, _, a2⟩, a3⟩
      · rw [if_neg (by omega), if_neg (by omega)]
        exact (readLine_op g B b o cap f vt vo line first w hT hf hgB hBw hl hcap hn ht hbw hok.2 (near line) rfl hx (f3 p3) p3 he' r1 r2).mono fun e w' ⟨a1, ⟨vo', a2⟩, a3⟩ => ⟨a1, ⟨_, _, a2⟩, a3⟩

end Go.Proofs.YtgjfhfjmdkhllaaDoor
