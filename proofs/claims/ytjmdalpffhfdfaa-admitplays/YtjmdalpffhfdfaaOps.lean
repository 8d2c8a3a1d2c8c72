/- slices.Index, Contains, Delete, Clone. -/
import Derived.Test.YtjmdalpffhfdfaaMem
import Derived.Deep.RegionLaw
import Derived.Lib.SliceRun
namespace Go.Proofs.Ytjmdalpffhfdfaa
open Go.RowKit
open M
set_option linter.unusedVariables false
set_option linter.unusedSimpArgs false

set_option maxRecDepth 1000000 in
set_option maxHeartbeats 2000000 in
theorem index_any {w : World} {a : Option Addr} {L : List Int} {cap : Nat} (h : Rd w a L cap) (hl : L.length ≤ 1000000) (y : Int) :
    Calls Try.prog 28 #[.slice a L.length cap, .int .i64 y] w fun e w' => e = .returned (.int .i64 (ix L y)) ∧ w' = w := by
  have HG : Hid (∀ i, i < L.length → ∃ b o x, a = some ⟨b, o, none⟩ ∧ L[i]? = some x ∧ w.cell? ⟨b, o + i, none⟩ = some (.int .i64 x)) := fun i hi => h.get hi
  have HF : Hid (∀ k : Nat, L[k]? = some y → (∀ j, j < k → L[j]? ≠ some y) → ix L y = k) := fun k => ix_first
  have HN : Hid ((∀ j, j < L.length → L[j]? ≠ some y) → ix L y = -1) := ix_none
  clear h
  generalize ix L y = z at *
  generalize L.length = n at *
  go_enter Try.func28, Try.ntmps28
  go_wp2
  go_loop [8] (fun i => ∃ k : Nat, k ≤ n ∧ i = .int .i64 k ∧ Hid (∀ i, i < k → L[i]? ≠ some y)) (fun i => n - (intOf i).toNat)
  case atStart => exact ⟨0, Nat.zero_le _, rfl, fun i hi => by omega⟩
  case round =>
    obtain ⟨k, hk, rfl, HR⟩ := hrel
    by_cases hlt : k < n
    · obtain ⟨b, o, x, rfl, e1, hcx⟩ := HG.out k hlt
      by_cases hz : x = y
      · subst hz
        have HZ := hide_it (HF.out k e1 HR.out)
        clear e1 HR HF HN HG
        go_wp2
        go_ret
        exact ⟨ret_int HZ.out.symm, rfl⟩
      · have HZ : Hid (∀ i, i < k + 1 → L[i]? ≠ some y) := fun i hi => by
          by_cases e : i = k
          · subst e; rw [e1]; intro q; cases q; exact hz rfl
          · exact HR.out i (by omega)
        have hz' : (y == x) = false := by simp; omega
        clear hz HR e1
        go_wp2
        go_round
        case rel => exact ⟨k + 1, by omega, by go_num, HZ⟩
        case measure => simp [intOf]; omega
    · have HZ := hide_it (HN.out (fun j hj => HR.out j (by omega)))
      clear HG HF HN HR
      go_wp2
      go_ret
      exact ⟨ret_int HZ.out.symm, rfl⟩

set_option maxRecDepth 1000000 in
set_option maxHeartbeats 2000000 in
theorem contains_any {w : World} {a : Option Addr} {L : List Int} {cap : Nat} (h : Rd w a L cap) (hl : L.length ≤ 1000000) (y : Int) :
    Calls Try.prog 31 #[.slice a L.length cap, .int .i64 y] w fun e w' => e = .returned (.bool (decide (y ∈ L))) ∧ w' = w := by
  have k := index_any h hl y
  have hc := hide_it (ix_ge (L := L) (id := y))
  clear h
  generalize ix L y = z at *
  generalize decide (y ∈ L) = c at *
  go_enter Try.func31, Try.ntmps31
  go_wp2_with (go_at_call 28; refine k.mono ?_; rintro e w' ⟨rfl, rfl⟩)
  go_ret
  exact ⟨ret_bool hc.out, rfl⟩

set_option maxRecDepth 1000000 in
set_option maxHeartbeats 2000000 in
/-- slices.Clone: in memory of the call's own. -/
theorem clone_any {w : World} {a : Option Addr} {L : List Int} {cap : Nat} (h : Rd w a L cap) (hl : L.length ≤ 1000000) :
    Calls Try.prog 30 #[.slice a L.length cap] w fun e w' => ∃ a' c', e = .returned (.slice a' L.length c') ∧ w'.ownsRow w.heap.size 3 1 (.slice a' L.length c') L.length (ints L) ∧ Below w.heap.size w w' := by
  obtain ⟨n, hn⟩ : ∃ n, L.length = n := ⟨_, rfl⟩
  rcases h.2.2 with ⟨rfl, rfl, rfl⟩ | ⟨b, o, rfl, hb, hc⟩
  · clear h
    simp only [List.length_nil] at hn ⊢
    have q22 : ∀ (w : World) (a : Option Addr) (n c n' c' : Nat), (binOp .eql 27 (.slice a n c) (.slice none n' c')).run Try.prog w = .ok (.bool a.isNone) w := fun w a n c n' c' => Lib.run_eql_slice_nil w _ _ a n c n' c' Try.underlying27
    clear hn
    go_enter Try.func30, Try.ntmps30
    go_wp2
    go_ret
    exact ⟨none, 0, rfl, World.ownsRow_nil _ _ _ _, Below.refl _ _⟩
  · have OW0 : Hid ((w.alloc (.cells #[] 3)).ownsRow w.heap.size 3 1 (.slice (some ⟨w.heap.size, 0, none⟩) 0 0) ([] : List Int).length (ints [])) := World.ownsRow_lit w #[] 0 (Nat.le_refl _) (by simp [maxLen]) (by simp)
    have B0 : Hid (Below w.heap.size w (w.alloc (.cells #[] 3))) := (Below.refl _ _).alloc (Nat.le_refl _) _
    have HR : Hid (Rd (w.alloc (.cells #[] 3)) (some ⟨b, o, none⟩) L cap) := h.below B0.out
    have HH := hide_it hl
    have HNN := hide_it hn
    clear h hc hb hl
    rw [hn]
    have q22 : ∀ (w : World) (a : Option Addr) (n c n' c' : Nat), (binOp .eql 27 (.slice a n c) (.slice none n' c')).run Try.prog w = .ok (.bool a.isNone) w := fun w a n c n' c' => Lib.run_eql_slice_nil w _ _ a n c n' c' Try.underlying27
    go_enter Try.func30, Try.ntmps30
    go_wp2_with (at_builtin; refine wpList_cat rfl (.tmp 5) (.tmp 6) rfl OW0.out HR.out (by have := HH.out; simp; omega) rfl (by simp only [HNN.out]; rfl) (by have := B0.out.size; omega) ?_; intro ao' cap' m w2 HO; have BW := hide_it (B0.out.grown HO.out.2.2.1 B0.out.size (fun q hq => by simp [Value.ownBlock] at hq; omega)))
    go_ret
    obtain ⟨e1, e2, _⟩ := HO.out
    rw [List.nil_append] at e1 e2
    obtain rfl : m = n := e1.trans HNN.out
    exact ⟨ao', cap', rfl, e2, BW.out⟩

/-- A store of many cells. -/
theorem heap_setCells (b : Nat) (t : TypeId) (fr : Nat × Nat) : ∀ (vs : List Value) (o : Nat) (w : World) (cur : Array Value), w.heap[b]? = some (.cells cur t fr) → ∃ cur', (w.setCells b o vs).heap[b]? = some (.cells cur' t fr) ∧ cur'.size = cur.size ∧ ∀ i, i < cur.size → cur'[i]? = if o ≤ i ∧ i < o + vs.length then vs[i - o]? else cur[i]?
  | [], o, w, cur, h => ⟨cur, h, rfl, fun i hi => by rw [if_neg (by simp)]⟩
  | v :: vs, o, w, cur, h => by
    obtain ⟨cur', h1, h2, h3⟩ := heap_setCells b t fr vs (o + 1) (w.setCell ⟨b, o, none⟩ v) _ (heap_setCell_at h v)
    refine ⟨cur', h1, by simpa using h2, fun i hi => ?_⟩
    rw [h3 i (by simpa using hi)]
    by_cases e : i = o
    · subst e
      rw [if_neg (by omega), if_pos (by simp), Nat.sub_self, Array.getElem?_setIfInBounds, if_pos rfl, if_pos hi]; rfl
    · by_cases e2 : o + 1 ≤ i ∧ i < o + 1 + vs.length
      · rw [if_pos e2, if_pos (by simp only [List.length_cons]; omega), show i - o = (i - (o + 1)) + 1 by omega, List.getElem?_cons_succ]
      · rw [if_neg e2, if_neg (by simp only [List.length_cons]; omega), Array.getElem?_setIfInBounds, if_neg (fun q => e q.symm)]
theorem Turn.setCells {F : Nat → Prop} {a : World} {b : Nat} (hb : F b) : ∀ (vs : List Value) (o : Nat) (w : World), Turn F a w → Turn F a (w.setCells b o vs)
  | [], o, w, h => h
  | v :: vs, o, w, h => Turn.setCells hb vs (o + 1) _ (h.setCell (p := ⟨b, o, none⟩) (.inl hb) v)
end Go.Proofs.Ytjmdalpffhfdfaa
