/- Shares in a row of the law's own. -/
import Derived.Test.YtgkogklbeclkgaaApt
import Derived.Test.YtgkogklbeclkgaaArg
namespace Go.Proofs.Ytgkogklbeclkgaa
open Go.RowKit Go.Lib
open M
set_option linter.unusedVariables false
set_option linter.unusedSimpArgs false

/-- The cells of shares. -/
def cl (S : List (Int × Int)) : List Value := S.map fun p => .complex .f64 (F p.1) (F p.2)
theorem cl_len (S : List (Int × Int)) : (cl S).length = S.length := by simp [cl]
theorem cl_app (S : List (Int × Int)) (p : Int × Int) : cl (S ++ [p]) = cl S ++ [.complex .f64 (F p.1) (F p.2)] := by simp [cl]
/-- The shares of at most thirty pairs. -/
def shs (l : List (Int × Int)) : List (Int × Int) := (l.take 30).map fun p => (wei p.1, cut p.2)
theorem shs_len (l : List (Int × Int)) : (shs l).length = min 30 l.length := by simp [shs]
theorem shs_ok (l : List (Int × Int)) : Shs (shs l) := by
  intro i
  unfold wA cA
  by_cases h : i < (shs l).length
  · rw [List.getD_eq_getElem?_getD, List.getElem?_eq_getElem h]
    simp only [shs, List.getElem_map, Option.getD_some]
    have := wei_lo ((l.take 30)[i]'(by simpa [shs] using h)).1
    exact ⟨prt_wei _, by omega, prt_cut _⟩
  · rw [List.getD_eq_getElem?_getD, List.getElem?_eq_none (by omega)]
    exact ⟨⟨by decide, by decide⟩, by decide, ⟨by decide, by decide⟩⟩
theorem shs_take {l : List (Int × Int)} {k : Nat} (h : k < l.length) (h30 : k < 30) : (shs l).take (k + 1) = (shs l).take k ++ [(wei l[k].1, cut l[k].2)] := by
  have hk : k < (shs l).length := by rw [shs_len]; omega
  rw [List.take_succ_eq_append_getElem hk]
  congr 2
  simp [shs]
theorem info25 : (Try.prog.info? 25).map (fun i => (i.zero, i.size, i.bytes)) = some (some (.complex .f64 0 0), 1, 16) := by kernel_rfl
theorem info_parts {el : TypeId} {z : Value} {size bytes : Nat} (h : (Try.prog.info? el).map (fun i => (i.zero, i.size, i.bytes)) = some (some z, size, bytes)) : ∃ i, Try.prog.info? el = some i ∧ i.zero = some z ∧ i.size = size ∧ i.bytes = bytes := by
  obtain ⟨i, hi, e⟩ := Option.map_eq_some_iff.1 h
  simp only [Prod.mk.injEq] at e
  exact ⟨i, hi, e.1, e.2.1, e.2.2⟩
theorem own_slice {w : World} {base sz n : Nat} {e : TypeId} {v : Value} {xs : List Value} (h : w.ownsRow base e sz v n xs) : ∃ ao cap, v = .slice ao n cap := by
  rcases h.2 with ⟨rfl, rfl⟩ | ⟨g, cap, cur, rfl, _⟩
  · exact ⟨none, 0, rfl⟩
  · exact ⟨_, cap, rfl⟩
theorem own_below {w w' : World} {base sz n : Nat} {e : TypeId} {v : Value} {xs : List Value} (h : w.ownsRow base e sz v n xs) (hb : Below w.heap.size w w') : w'.ownsRow base e sz v n xs := by
  refine ⟨h.1, ?_⟩
  rcases h.2 with hn | ⟨g, cap, cur, rfl, hbg, hg, rest⟩
  · exact .inl hn
  · exact .inr ⟨g, cap, cur, rfl, hbg, by rw [hb.block g (block_lt hg)]; exact hg, rest⟩
/-- What a row of one's own holds, read. -/
theorem own_sh {w : World} {base n cap : Nat} {ao : Option Addr} {S : List (Int × Int)} (h : w.ownsRow base 25 1 (.slice ao n cap) n (cl S)) (hn : 0 < n) (hl : S.length = n) : ∃ g, ao = some ⟨g, 0, none⟩ ∧ ShIn w g n S := by
  rcases h.2 with ⟨e, q⟩ | ⟨g, cc, cur, e, _, hg, h1, h2, h3, h4⟩
  · omega
  · cases e
    refine ⟨g, rfl, fun i hi => ?_⟩
    rw [cell_of_row w g i _ _ _ hg, ← Array.getElem?_toList]
    have : (cl S)[i]? = some (.complex .f64 (F (wA S i)) (F (cA S i))) := by
      unfold cl wA cA
      rw [List.getElem?_map, List.getD_eq_getElem?_getD, List.getElem?_eq_getElem (by omega)]
      rfl
    rw [← this, ← h4, List.getElem?_take_of_lt (by omega)]
/-- What stands behind each round of the first loop. -/
def Gr (w wr : World) (S : List (Int × Int)) (ao : Option Addr) (n cap : Nat) : Prop := Below w.heap.size w wr ∧ w.heap.size ≤ wr.heap.size ∧ wr.ownsRow w.heap.size 25 1 (.slice ao n cap) n (cl S)
theorem Gr.below {w wr w' : World} {S : List (Int × Int)} {ao : Option Addr} {n cap : Nat} (h : Gr w wr S ao n cap) (hb : Below wr.heap.size wr w') : Gr w w' S ao n cap :=
  ⟨h.1.trans (hb.mono h.2.1), Nat.le_trans h.2.1 hb.size, own_below h.2.2 hb⟩
theorem PairsIn.get {w : World} {a : Option Addr} {l : List (Int × Int)} (h : PairsIn w a l) {i : Nat} (hi : i < l.length) : ∃ b o, a = some ⟨b, o, none⟩ ∧ ∀ W, Below w.heap.size w W → W.cell? ⟨b, o + i * 2, none⟩ = some (.int .i64 l[i].1) ∧ W.cell? ⟨b, o + i * 2 + 1, none⟩ = some (.int .i64 l[i].2) := by
  obtain ⟨b, o, e, hb, c0, c1⟩ := h i hi
  exact ⟨b, o, e, fun W q => ⟨by rw [q.cell (p := ⟨b, _, none⟩) hb]; exact c0, by rw [q.cell (p := ⟨b, _, none⟩) hb]; exact c1⟩⟩
end Go.Proofs.Ytgkogklbeclkgaa
