/- What writeFile and Text of package parse answer for a file that has a text. -/
import Derived.Test.YtgjfhfjmdkhllaaDoorWrF
import Derived.Test.YtgjfhfjmdkhllaaDoorReaF
namespace Go.Proofs.YtgjfhfjmdkhllaaDoor
open Go.RowKit
open M
set_option linter.unusedVariables false
set_option linter.unusedSimpArgs false

/-- The worlds of writeFile: the file, its two results, and the builder with what is written. -/
structure Sc (w : World) (fc : Array Value) (W : World) (acc : List UInt8) : Prop where
  fb : W.heap[w.heap.size]? = some (.cells fc 29 (0, 0))
  tb : W.heap[w.heap.size + 1]? = some (.cells #[.string ⟨#[]⟩] 9 (0, 0))
  eb : W.heap[w.heap.size + 2]? = some (.cells #[.int .i64 0] 30 (0, 0))
  bd : Lib.IsBuilder 84 5 (w.heap.size + 3) (w.heap.size + 3) (Lib.byteCells acc) W
  bel : Below w.heap.size w W
  sz : w.heap.size + 4 ≤ W.heap.size
theorem Sc.below {w W W' : World} {fc : Array Value} {acc : List UInt8} (h : Sc w fc W acc) (hb : Below W.heap.size W W') : Sc w fc W' acc :=
  ⟨by rw [hb.block _ (block_lt h.fb)]; exact h.fb, by rw [hb.block _ (block_lt h.tb)]; exact h.tb, by rw [hb.block _ (block_lt h.eb)]; exact h.eb, bldI_below h.bd hb, h.bel.trans (hb.mono h.bel.size), Nat.le_trans h.sz hb.size⟩
theorem Sc.drew {w W : World} {fc : Array Value} {acc : List UInt8} (h : Sc w fc W acc) : Sc w fc W.drew acc := h.below (Below.refl _ _).drew
theorem Sc.wrote {w W W' : World} {fc : Array Value} {acc acc' : List UInt8} (h : Sc w fc W acc) (hb : Below (w.heap.size + 3) W W') (hd : Lib.IsBuilder 84 5 (w.heap.size + 3) (w.heap.size + 3) (Lib.byteCells acc') W') : Sc w fc W' acc' :=
  ⟨by rw [hb.block _ (by omega)]; exact h.fb, by rw [hb.block _ (by omega)]; exact h.tb, by rw [hb.block _ (by omega)]; exact h.eb, hd, h.bel.trans (hb.mono (by omega)), Nat.le_trans h.sz hb.size⟩

/-- A line written. -/
theorem line_put {w W : World} {fc : Array Value} {acc r : List UInt8} {m : Fm} (hm : m ∈ forms) (hS : Sc w fc W acc) (hT : Tabs w) (a : Option Addr) (ns : List Int) (cap : Nat) (hi : IntsK W a ns) (hc : (words m).count [78] ≤ ns.length) (hcap : ns.length ≤ cap) (hcm : cap ≤ 9223372036854775807) (hl : acc.length ≤ 1000000000) (hR : lineOut m ns acc = some r) :
    Calls Tryd.prog 37 #[ptr (w.heap.size + 3) 0, formV m, .slice a ns.length cap] W fun e W' => e = .returned (.tuple #[]) ∧ Sc w fc W' r ∧ Kept W W' := by
  have h8 := hT.big
  refine (writeLine_any (w.heap.size + 3) (w.heap.size + 3) hm a ns cap acc W (hT.on hS.bel hT.big) (by omega) hS.bd (by have := hS.sz; omega) hi hcap hcm hc hl (some r) hR).mono ?_
  rintro e W' ⟨⟨h1, h2⟩, h3, h4⟩
  exact ⟨h1, hS.wrote h3 h2, h4⟩

theorem config_nums : (words cfgForm).count [78] = 10 ∧ (words taskForm).count [78] = 2 := by decide +kernel
theorem parts_count {m : Fm} (hm : m ∈ forms) : (m.part = 1 → (words m).count [78] = 10) ∧ (m.part = 2 → (words m).count [78] = 2) := by
  obtain ⟨h1, _, h3, h4, _, _⟩ := form_facts hm
  exact ⟨fun h => by rw [h1]; exact h3 h, fun h => by rw [h1]; exact h4 h⟩

/-- The numbers of a config that lies in a block. -/
theorem get_cfg (g h : Nat) (f : Fl) {x0 x1 x2 x3 x4 x5 x6 x7 x8 x9 : Int} (hcf : f.cfg = [x0, x1, x2, x3, x4, x5, x6, x7, x8, x9]) (vt vo : Value) (W : World) (hg : W.heap[g]? = some (.cells #[.int .i64 x0, .int .i64 x1, .int .i64 x2, .int .i64 x3, .int .i64 x4, .int .i64 x5, .int .i64 x6, .int .i64 x7, .int .i64 x8, .int .i64 x9, vt, vo] 29 (0, 0))) (hh : W.heap[h]? = some (.cells #[ptr g 0, ptr g 1, ptr g 2, ptr g 3, ptr g 4, ptr g 5, ptr g 6, ptr g 7, ptr g 8, ptr g 9] 113 (0, 0))) :
    Calls Tryd.prog 38 #[.slice (some ⟨h, 0, none⟩) 10 10] W fun e w' => ∃ v, e = .returned v ∧ w'.ownsRow W.heap.size 3 1 v f.cfg.length (f.cfg.map intV) ∧ Below W.heap.size W w' := by
  refine get_any h g 10 10 _ [0, 1, 2, 3, 4, 5, 6, 7, 8, 9] f.cfg W hh ?_ (by rw [hcf]; rfl) ?_ (by omega) (by omega)
  · intro k hk
    have : k = 0 ∨ k = 1 ∨ k = 2 ∨ k = 3 ∨ k = 4 ∨ k = 5 ∨ k = 6 ∨ k = 7 ∨ k = 8 ∨ k = 9 := by omega
    rcases this with rfl | rfl | rfl | rfl | rfl | rfl | rfl | rfl | rfl | rfl <;> rfl
  · intro k hk
    rw [Lib.cell_of_heap hg]
    simp only [hcf] at hk ⊢
    have : k = 0 ∨ k = 1 ∨ k = 2 ∨ k = 3 ∨ k = 4 ∨ k = 5 ∨ k = 6 ∨ k = 7 ∨ k = 8 ∨ k = 9 := by simp at hk; omega
    rcases this with rfl | rfl | rfl | rfl | rfl | rfl | rfl | rfl | rfl | rfl <;> rfl

theorem bind_some_of {α β : Type} {x : Option α} {g : α → Option β} {r : β} (h : x.bind g = some r) : ∃ a, x = some a ∧ g a = some r := by
  cases x with
  | none => simp at h
  | some a => exact ⟨a, rfl, h⟩

set_option maxRecDepth 1000000 in
set_option maxHeartbeats 8000000 in
theorem writeFile_good (x0 x1 x2 x3 x4 x5 x6 x7 x8 x9 : Int) (f : Fl) (hcf : f.cfg = [x0, x1, x2, x3, x4, x5, x6, x7, x8, x9]) (at1 ao1 : Option Addr) (ct1 co1 : Nat) (w : World) (hT : Tabs w) (hti : TasksIn w at1 f.tasks) (hoi : OpsIn w ao1 f.ops) (htl : f.tasks.length ≤ 64) (hol : f.ops.length ≤ 4096) (r : List UInt8) (hR : fileOut f = some r) :
    Calls Tryd.prog 22 #[.agg #[.int .i64 x0, .int .i64 x1, .int .i64 x2, .int .i64 x3, .int .i64 x4, .int .i64 x5, .int .i64 x6, .int .i64 x7, .int .i64 x8, .int .i64 x9, .slice at1 f.tasks.length ct1, .slice ao1 f.ops.length co1]] w fun e w' => e = .returned (.tuple #[strV r, .int .i64 0]) ∧ Below w.heap.size w w' := by
  have hmf : ∀ (fn : Fn) (first cap : Array Value) (w : World), (Instr.makeFunc fn first cap).run Tryd.prog w = .ok (.func fn first cap) w := fun _ _ _ _ => rfl
  have HR : Hid ((formsGo forms f []).bind (opsOut f.ops) = some r) := by rw [← hR]; exact formsGo_is f
  have HCF : Hid (f.cfg = [x0, x1, x2, x3, x4, x5, x6, x7, x8, x9]) := hcf
  clear hR hcf
  obtain ⟨w4, hw4⟩ : ∃ w4, w4 = (((w.alloc (.cells #[.int .i64 x0, .int .i64 x1, .int .i64 x2, .int .i64 x3, .int .i64 x4, .int .i64 x5, .int .i64 x6, .int .i64 x7, .int .i64 x8, .int .i64 x9, .slice at1 f.tasks.length ct1, .slice ao1 f.ops.length co1] 29)).alloc (.cells #[.string ⟨#[]⟩] 9)).alloc (.cells #[.int .i64 0] 30)).alloc (.cells #[.pointer none, .slice none 0 0] 84) := ⟨_, rfl⟩
  have hb4 : Below w.heap.size w w4 := by rw [hw4]; exact (Joins.below_alloc3 w _ _ _).alloc (by simp; omega) _
  have HS0 : Hid (Sc w #[.int .i64 x0, .int .i64 x1, .int .i64 x2, .int .i64 x3, .int .i64 x4, .int .i64 x5, .int .i64 x6, .int .i64 x7, .int .i64 x8, .int .i64 x9, .slice at1 f.tasks.length ct1, .slice ao1 f.ops.length co1] w4 []) := by
    refine ⟨?_, ?_, ?_, ?_, hb4, by rw [hw4]; simp⟩
    · rw [hw4, Below.heap_alloc _ _ _ (by first | (simp; done) | (simp; omega)), Below.heap_alloc _ _ _ (by first | (simp; done) | (simp; omega)), Below.heap_alloc _ _ _ (by simp)]; exact heap_alloc_new w _
    · rw [hw4, Below.heap_alloc _ _ _ (by first | (simp; done) | (simp; omega)), Below.heap_alloc _ _ _ (by simp)]; exact heap_alloc2_new w _ _
    · rw [hw4, Below.heap_alloc _ _ _ (by simp)]
      have := heap_alloc_new ((w.alloc (.cells #[.int .i64 x0, .int .i64 x1, .int .i64 x2, .int .i64 x3, .int .i64 x4, .int .i64 x5, .int .i64 x6, .int .i64 x7, .int .i64 x8, .int .i64 x9, .slice at1 f.tasks.length ct1, .slice ao1 f.ops.length co1] 29)).alloc (.cells #[.string ⟨#[]⟩] 9)) (.cells #[.int .i64 0] 30)
      simpa using this
    · have := Lib.fresh_isBuilder 84 5 (((w.alloc (.cells #[.int .i64 x0, .int .i64 x1, .int .i64 x2, .int .i64 x3, .int .i64 x4, .int .i64 x5, .int .i64 x6, .int .i64 x7, .int .i64 x8, .int .i64 x9, .slice at1 f.tasks.length ct1, .slice ao1 f.ops.length co1] 29)).alloc (.cells #[.string ⟨#[]⟩] 9)).alloc (.cells #[.int .i64 0] 30))
      rw [hw4]
      rw [show (((w.alloc (.cells #[.int .i64 x0, .int .i64 x1, .int .i64 x2, .int .i64 x3, .int .i64 x4, .int .i64 x5, .int .i64 x6, .int .i64 x7, .int .i64 x8, .int .i64 x9, .slice at1 f.tasks.length ct1, .slice ao1 f.ops.length co1] 29)).alloc (.cells #[.string ⟨#[]⟩] 9)).alloc (.cells #[.int .i64 0] 30)).heap.size = w.heap.size + 3 by simp] at this
      exact this
  have hT4 : Tabs w4 := hT.on hb4 hT.big
  obtain ⟨fz, tf, h0⟩ := forms_at hT4
  have hix := index_forms
  have hFs := formsCells_size
  generalize formsCells = F at *
  have HF : Hid (F.size = 40) := hFs
  have HX : Hid (∀ (k : Nat) (hk : k < forms.length) (W : World), (Instr.index 87 (.agg F) (.int .i64 k)).run Tryd.prog W = .ok (formV forms[k]) W) := hix
  clear hix hFs hb4 hT4
  subst hw4
  go_enter_defers Tryd.func22, Tryd.ntmps22
  go_wp2_with (refine wpList_load_row rfl 87 (.global 0) rfl 0 rfl tf F fz _ h0 Tryd.underlying87 rfl (by rw [HF.out]; kernel_rfl) ?_)
  clear h0
  go_loopw [14] (fun i wr => ∃ (k : Nat) (acc : List UInt8), i = .int .i64 k ∧ k ≤ 10 ∧ Hid (Sc w #[.int .i64 x0, .int .i64 x1, .int .i64 x2, .int .i64 x3, .int .i64 x4, .int .i64 x5, .int .i64 x6, .int .i64 x7, .int .i64 x8, .int .i64 x9, .slice at1 f.tasks.length ct1, .slice ao1 f.ops.length co1] wr acc) ∧ acc.length ≤ 40000 * k ∧ Hid ((formsGo (forms.drop k) f acc).bind (opsOut f.ops) = some r)) (fun i _ => 10 - (intOf i).toNat)
  case atStart => exact ⟨0, [], rfl, by omega, HS0, by simp, HR⟩
  case round =>
    obtain ⟨k, acc, rfl, hk, hS, hal, hgo⟩ := hrel
    clear HR HS0
    by_cases hk' : k < 10
    · have hkl : k < forms.length := hk'
      have hix : ∀ W, (Instr.index 87 (.agg F) (.int .i64 k)).run Tryd.prog W = .ok (formV forms[k]) W := fun W => HX.out k hkl W
      have hfm : forms[k] ∈ forms := List.getElem_mem hkl
      have hgo2 := hgo.out
      rw [List.drop_eq_getElem_cons hkl] at hgo2
      obtain ⟨fm, hf⟩ : ∃ fm, forms[k] = fm := ⟨_, rfl⟩
      rw [hf] at hix hfm hgo2
      obtain ⟨_, hparts, _⟩ := form_facts hfm
      have hcount := parts_count hfm
      unfold formsGo at hgo2
      have hsB := hS.out.sz
      have hSa : ∀ ob : Obj, Sc w #[.int .i64 x0, .int .i64 x1, .int .i64 x2, .int .i64 x3, .int .i64 x4, .int .i64 x5, .int .i64 x6, .int .i64 x7, .int .i64 x8, .int .i64 x9, .slice at1 f.tasks.length ct1, .slice ao1 f.ops.length co1] (wr.alloc ob) acc := fun ob => hS.out.below ((Below.refl _ _).alloc (Nat.le_refl _) _)
      clear hf hgo
      rcases hparts with hp | hp | hp
      · -- the config
        rw [if_pos hp] at hgo2
        obtain ⟨a2, hg2, hg4⟩ := bind_some_of hgo2
        obtain ⟨a1, hg1, hg3⟩ := bind_some_of hg2
        have hlen1 := lineOut_len hfm hg1
        have HG : Hid ((formsGo (forms.drop (k + 1)) f a1).bind (opsOut f.ops) = some r) := by
          show _ = _
          rw [hg3]; exact hg4
        have hp1 : (((fm.part : Nat) : Int) == 1) = true := by rw [hp]; rfl
        have kA : ∀ W, Sc w #[.int .i64 x0, .int .i64 x1, .int .i64 x2, .int .i64 x3, .int .i64 x4, .int .i64 x5, .int .i64 x6, .int .i64 x7, .int .i64 x8, .int .i64 x9, .slice at1 f.tasks.length ct1, .slice ao1 f.ops.length co1] W acc → Calls Tryd.prog 39 #[ptr w.heap.size 0] W fun e w' => ∃ h, e = .returned (.slice (some ⟨h, 0, none⟩) 10 10) ∧ Hid (w'.heap[h]? = some (.cells #[ptr w.heap.size 0, ptr w.heap.size 1, ptr w.heap.size 2, ptr w.heap.size 3, ptr w.heap.size 4, ptr w.heap.size 5, ptr w.heap.size 6, ptr w.heap.size 7, ptr w.heap.size 8, ptr w.heap.size 9] 113 (0, 0))) ∧ Hid (Sc w #[.int .i64 x0, .int .i64 x1, .int .i64 x2, .int .i64 x3, .int .i64 x4, .int .i64 x5, .int .i64 x6, .int .i64 x7, .int .i64 x8, .int .i64 x9, .slice at1 f.tasks.length ct1, .slice ao1 f.ops.length co1] w' acc) ∧ Below W.heap.size W w' := fun W h => by
          refine (configFields_any w.heap.size W (by rw [Lib.cell_of_heap h.fb]; rfl)).mono ?_
          rintro e w' ⟨hh, rfl, q1, q2⟩
          exact ⟨hh, rfl, q1, h.below q2, q2⟩
        have kB : ∀ W h, Sc w #[.int .i64 x0, .int .i64 x1, .int .i64 x2, .int .i64 x3, .int .i64 x4, .int .i64 x5, .int .i64 x6, .int .i64 x7, .int .i64 x8, .int .i64 x9, .slice at1 f.tasks.length ct1, .slice ao1 f.ops.length co1] W acc → W.heap[h]? = some (.cells #[ptr w.heap.size 0, ptr w.heap.size 1, ptr w.heap.size 2, ptr w.heap.size 3, ptr w.heap.size 4, ptr w.heap.size 5, ptr w.heap.size 6, ptr w.heap.size 7, ptr w.heap.size 8, ptr w.heap.size 9] 113 (0, 0)) → Calls Tryd.prog 38 #[.slice (some ⟨h, 0, none⟩) 10 10] W fun e w' => ∃ va vc, e = .returned (.slice va f.cfg.length vc) ∧ Hid (IntsK w' va f.cfg) ∧ Hid (f.cfg.length ≤ vc ∧ vc ≤ 9223372036854775807) ∧ Hid (Sc w #[.int .i64 x0, .int .i64 x1, .int .i64 x2, .int .i64 x3, .int .i64 x4, .int .i64 x5, .int .i64 x6, .int .i64 x7, .int .i64 x8, .int .i64 x9, .slice at1 f.tasks.length ct1, .slice ao1 f.ops.length co1] w' acc) ∧ Below W.heap.size W w' := fun W h hS hh => by
          refine (get_cfg w.heap.size h f HCF.out _ _ W hS.fb hh).mono ?_
          rintro e w' ⟨v, rfl, q1, q2⟩
          obtain ⟨va, vc, rfl⟩ := own_slice q1
          refine ⟨va, vc, rfl, IntsK.own q1, ?_, hS.below q2, q2⟩
          rcases q1.2 with ⟨hv, hz⟩ | ⟨g', c', cur, hv, _, _, h4, h5, _⟩
          · rw [HCF.out] at hz; cases hz
          · cases hv; unfold maxLen at h5; exact ⟨h4, by omega⟩
        have kC : ∀ W va vc, Sc w #[.int .i64 x0, .int .i64 x1, .int .i64 x2, .int .i64 x3, .int .i64 x4, .int .i64 x5, .int .i64 x6, .int .i64 x7, .int .i64 x8, .int .i64 x9, .slice at1 f.tasks.length ct1, .slice ao1 f.ops.length co1] W acc → IntsK W va f.cfg → (f.cfg.length ≤ vc ∧ vc ≤ 9223372036854775807) → Calls Tryd.prog 37 #[ptr (w.heap.size + 3) 0, formV fm, .slice va f.cfg.length vc] W fun e W' => e = .returned (.tuple #[]) ∧ Hid (Sc w #[.int .i64 x0, .int .i64 x1, .int .i64 x2, .int .i64 x3, .int .i64 x4, .int .i64 x5, .int .i64 x6, .int .i64 x7, .int .i64 x8, .int .i64 x9, .slice at1 f.tasks.length ct1, .slice ao1 f.ops.length co1] W' a1) ∧ Kept W W' := fun W va vc h1 h2 h3 => line_put hfm h1 hT va f.cfg vc h2 (by rw [hcount.1 hp, HCF.out]; exact Nat.le_refl _) h3.1 h3.2 (by omega) hg1
        have hS0 : Hid (Sc w #[.int .i64 x0, .int .i64 x1, .int .i64 x2, .int .i64 x3, .int .i64 x4, .int .i64 x5, .int .i64 x6, .int .i64 x7, .int .i64 x8, .int .i64 x9, .slice at1 f.tasks.length ct1, .slice ao1 f.ops.length co1] (wr.alloc (.cells #[strV fm.text, .int .i64 fm.part, .int .i64 fm.kind, .int .i64 fm.says] 86)).drew acc) := (hSa _).drew
        have d4 : Hid ((wr.alloc (.cells #[strV fm.text, .int .i64 fm.part, .int .i64 fm.kind, .int .i64 fm.says] 86)).drew.heap[wr.heap.size]? = some (.cells #[strV fm.text, .int .i64 fm.part, .int .i64 fm.kind, .int .i64 fm.says] 86 (0, 0))) := heap_alloc_new wr _
        clear hgo2 hg1 hg2 hg3 hg4 hp hcount hSa
        generalize f.cfg.length = cl at *
        go_wp2
        go_region_held3 (fun W => W.cell? ⟨wr.heap.size, 0, none⟩ = some (strV fm.text) ∧ W.cell? ⟨wr.heap.size, 1, none⟩ = some (.int .i64 fm.part) ∧ W.cell? ⟨wr.heap.size, 2, none⟩ = some (.int .i64 fm.kind) ∧ W.cell? ⟨wr.heap.size, 3, none⟩ = some (.int .i64 fm.says)) (first | go_keep | (go_split_ands; exact ⟨d0, d1, d2, d3⟩))
          (first
            | (go_at_call 39; refine (kA _ hS0.out).mono ?_; rintro e wA ⟨h, rfl, hh, hSA, hbA⟩; have e4 : Hid (wA.heap[wr.heap.size]? = some (.cells #[strV fm.text, .int .i64 fm.part, .int .i64 fm.kind, .int .i64 fm.says] 86 (0, 0))) := (by show _ = _; rw [hbA.block _ (block_lt d4.out)]; exact d4.out); obtain ⟨d0, d1, d2, d3, _⟩ := cells4 e4.out)
            | (go_at_call 38; refine (kB _ h hSA.out hh.out).mono ?_; rintro e wB ⟨va, vc, rfl, hin, hvc, hSB, hbB⟩; have e5 : Hid (wB.heap[wr.heap.size]? = some (.cells #[strV fm.text, .int .i64 fm.part, .int .i64 fm.kind, .int .i64 fm.says] 86 (0, 0))) := (by show _ = _; rw [hbB.block _ (block_lt e4.out)]; exact e4.out); obtain ⟨d0, d1, d2, d3, _⟩ := cells4 e5.out)
            | (go_at_call 37; refine (kC _ va vc hSB.out hin.out hvc.out).mono ?_; rintro e wC ⟨rfl, hSC, hkC⟩; have e6 := hkC.block _ _ _ _ e5.out (by decide) (by decide); obtain ⟨d0, d1, d2, d3, _⟩ := cells4 e6))
        all_goals go_wp2
        all_goals go_roundw
        case rel => exact ⟨k + 1, a1, by go_num, by omega, hSC, by omega, HG⟩
        case measure => simp [intOf]; omega
      · -- the tasks
        rw [if_neg (by omega), if_pos hp] at hgo2
        have HG0 : Hid (((tasksGo fm f.tasks acc).bind (formsGo (forms.drop (k + 1)) f)).bind (opsOut f.ops) = some r) := hgo2
        have hp1 : (((fm.part : Nat) : Int) == 1) = false := beq_eq_false_iff_ne.2 (by omega)
        have hp2 : (((fm.part : Nat) : Int) == 2) = true := by rw [hp]; rfl
        have hcn := hcount.2 hp
        have hS1 : Hid (Sc w #[.int .i64 x0, .int .i64 x1, .int .i64 x2, .int .i64 x3, .int .i64 x4, .int .i64 x5, .int .i64 x6, .int .i64 x7, .int .i64 x8, .int .i64 x9, .slice at1 f.tasks.length ct1, .slice ao1 f.ops.length co1] (wr.alloc (.cells #[strV fm.text, .int .i64 fm.part, .int .i64 fm.kind, .int .i64 fm.says] 86)) acc) := hSa _
        have d4 : Hid ((wr.alloc (.cells #[strV fm.text, .int .i64 fm.part, .int .i64 fm.kind, .int .i64 fm.says] 86)).heap[wr.heap.size]? = some (.cells #[strV fm.text, .int .i64 fm.part, .int .i64 fm.kind, .int .i64 fm.says] 86 (0, 0))) := heap_alloc_new wr _
        obtain ⟨_, _, _, _, _, _, _, _, _, _, t10, _, _⟩ := cells12 hS1.out.fb
        have HCN : Hid ((words fm).count [78] = 2) := hcn
        clear hgo2 hp hcount hSa hcn
        have hk10 : decide ((k : Int) < 10) = true := by simp; omega
        go_wp2
        obtain ⟨wo, rfl⟩ : ∃ W : World, W = wr := ⟨_, rfl⟩
        go_loopw [31] (fun i wr => ∃ (j : Nat) (acc2 : List UInt8), i = .int .i64 j ∧ j ≤ f.tasks.length ∧ Hid (Sc w #[.int .i64 x0, .int .i64 x1, .int .i64 x2, .int .i64 x3, .int .i64 x4, .int .i64 x5, .int .i64 x6, .int .i64 x7, .int .i64 x8, .int .i64 x9, .slice at1 f.tasks.length ct1, .slice ao1 f.ops.length co1] wr acc2) ∧ acc2.length ≤ acc.length + 500 * j ∧ Hid (wr.heap[wo.heap.size]? = some (.cells #[strV fm.text, .int .i64 fm.part, .int .i64 fm.kind, .int .i64 fm.says] 86 (0, 0))) ∧ Hid (((tasksGo fm (f.tasks.drop j) acc2).bind (formsGo (forms.drop (k + 1)) f)).bind (opsOut f.ops) = some r)) (fun i _ => f.tasks.length - (intOf i).toNat)
        case atStart => exact ⟨0, acc, rfl, by omega, hS1, by omega, d4, HG0⟩
        case round =>
          obtain ⟨j, acc2, rfl, hj, hS2, hal2, e4, hgo3⟩ := hrel
          clear HG0 hS1 d4
          by_cases hj' : j < f.tasks.length
          · obtain ⟨tb, tof, hta, htb, c0, c1⟩ := (hti.below hS2.out.bel (Nat.le_refl _)) j hj'
            have hgo4 := hgo3.out
            rw [List.drop_eq_getElem_cons hj'] at hgo4
            unfold tasksGo at hgo4
            obtain ⟨a2, hg2, hg4⟩ := bind_some_of hgo4
            obtain ⟨a3, hg3, hg5⟩ := bind_some_of hg2
            obtain ⟨a1, hg1, hg6⟩ := bind_some_of hg3
            have hlen1 := lineOut_len hfm hg1
            have HG : Hid (((tasksGo fm (f.tasks.drop (j + 1)) a1).bind (formsGo (forms.drop (k + 1)) f)).bind (opsOut f.ops) = some r) := by
              show _ = _
              rw [hg6]
              show ((formsGo (forms.drop (k + 1)) f a3)).bind (opsOut f.ops) = some r
              rw [hg5]; exact hg4
            obtain ⟨d0, d1, d2, d3, _⟩ := cells4 e4.out
            have hol4 := block_lt e4.out
            generalize f.tasks[j].1 = y0 at *
            generalize f.tasks[j].2 = y1 at *
            have kC : ∀ W h, Sc w #[.int .i64 x0, .int .i64 x1, .int .i64 x2, .int .i64 x3, .int .i64 x4, .int .i64 x5, .int .i64 x6, .int .i64 x7, .int .i64 x8, .int .i64 x9, .slice at1 f.tasks.length ct1, .slice ao1 f.ops.length co1] W acc2 → W.heap[h]? = some (.cells #[.int .i64 y0, .int .i64 y1] 3 (0, 0)) → Calls Tryd.prog 37 #[ptr (w.heap.size + 3) 0, formV fm, .slice (some ⟨h, 0, none⟩) 2 2] W fun e W' => e = .returned (.tuple #[]) ∧ Hid (Sc w #[.int .i64 x0, .int .i64 x1, .int .i64 x2, .int .i64 x3, .int .i64 x4, .int .i64 x5, .int .i64 x6, .int .i64 x7, .int .i64 x8, .int .i64 x9, .slice at1 f.tasks.length ct1, .slice ao1 f.ops.length co1] W' a1) ∧ Kept W W' := fun W h h1 h2 =>
              line_put hfm h1 hT (some ⟨h, 0, none⟩) [y0, y1] 2 (.inr ⟨h, 0, _, _, rfl, h2, fun i hi => by
                have : i = 0 ∨ i = 1 := by simp at hi; omega
                rcases this with rfl | rfl <;> rfl⟩) (by rw [HCN.out]; exact Nat.le_refl _) (by simp) (by omega) (by omega) hg1
            have hSb : ∀ ob1 ob2 : Obj, Sc w #[.int .i64 x0, .int .i64 x1, .int .i64 x2, .int .i64 x3, .int .i64 x4, .int .i64 x5, .int .i64 x6, .int .i64 x7, .int .i64 x8, .int .i64 x9, .slice at1 f.tasks.length ct1, .slice ao1 f.ops.length co1] ((wr.alloc ob1).alloc ob2) acc2 := fun ob1 ob2 => hS2.out.below (Joins.below_alloc2 wr _ _)
            have e4b : ∀ ob1 ob2 : Obj, ((wr.alloc ob1).alloc ob2).heap[wo.heap.size]? = some (.cells #[strV fm.text, .int .i64 fm.part, .int .i64 fm.kind, .int .i64 fm.says] 86 (0, 0)) := fun ob1 ob2 => by
              rw [(Joins.below_alloc2 wr ob1 ob2).block _ hol4]; exact e4.out
            have HE4 : Hid (∀ ob1 ob2 : Obj, ((wr.alloc ob1).alloc ob2).heap[wo.heap.size]? = some (.cells #[strV fm.text, .int .i64 fm.part, .int .i64 fm.kind, .int .i64 fm.says] 86 (0, 0))) := e4b
            clear hgo3 hgo4 hg1 hg2 hg3 hg4 hg5 hg6 e4b
            subst hta
            go_wp2_with (go_at_call 37; refine (kC _ (wr.heap.size + 1) (hSb _ _) (heap_alloc2_new wr _ _)).mono ?_; rintro e wC ⟨rfl, hSC, hkC⟩)
            go_roundw
            case rel => exact ⟨j + 1, a1, by go_num, by omega, hSC, by omega, hkC.block _ _ _ _ (HE4.out _ _) (by decide) (by decide), HG⟩
            case measure => simp [intOf]; omega
          · have hje : j = f.tasks.length := by omega
            have HG : Hid ((formsGo (forms.drop (k + 1)) f acc2).bind (opsOut f.ops) = some r) := by
              have := hgo3.out
              rw [hje, List.drop_length] at this
              exact this
            clear hgo3 hje
            go_wp2
            go_roundw
            case rel => exact ⟨k + 1, acc2, by go_num, by omega, hS2, by omega, HG⟩
            case measure => simp [intOf]; omega
      · -- no other
        rw [if_neg (by omega), if_neg (by omega)] at hgo2
        have HG : Hid ((formsGo (forms.drop (k + 1)) f acc).bind (opsOut f.ops) = some r) := hgo2
        have hp1 : (((fm.part : Nat) : Int) == 1) = false := beq_eq_false_iff_ne.2 (by omega)
        have hp2 : (((fm.part : Nat) : Int) == 2) = false := beq_eq_false_iff_ne.2 (by omega)
        have HSa : Hid (∀ ob : Obj, Sc w #[.int .i64 x0, .int .i64 x1, .int .i64 x2, .int .i64 x3, .int .i64 x4, .int .i64 x5, .int .i64 x6, .int .i64 x7, .int .i64 x8, .int .i64 x9, .slice at1 f.tasks.length ct1, .slice ao1 f.ops.length co1] (wr.alloc ob) acc) := hSa
        clear hgo2 hp hcount hSa
        go_wp2
        go_roundw
        case rel => exact ⟨k + 1, acc, by go_num, by omega, HSa.out _, by omega, HG⟩
        case measure => simp [intOf]; omega
    · have hke : k = 10 := by omega
      have HG0 : Hid (opsOut f.ops acc = some r) := by
        have := hgo.out
        rw [hke] at this
        exact this
      obtain ⟨_, _, _, _, _, _, _, _, _, _, _, t11, _⟩ := cells12 hS.out.fb
      have hal0 : acc.length ≤ 400000 := by omega
      clear hgo hke
      go_wp2
      obtain ⟨wo, rfl⟩ : ∃ W : World, W = wr := ⟨_, rfl⟩
      go_loopw [47] (fun i wr => ∃ (j : Nat) (acc2 : List UInt8), i = .int .i64 j ∧ j ≤ f.ops.length ∧ Hid (Sc w #[.int .i64 x0, .int .i64 x1, .int .i64 x2, .int .i64 x3, .int .i64 x4, .int .i64 x5, .int .i64 x6, .int .i64 x7, .int .i64 x8, .int .i64 x9, .slice at1 f.tasks.length ct1, .slice ao1 f.ops.length co1] wr acc2) ∧ acc2.length ≤ 400000 + 500 * j ∧ Hid (opsOut (f.ops.drop j) acc2 = some r)) (fun i _ => f.ops.length - (intOf i).toNat)
      case atStart => exact ⟨0, acc, rfl, by omega, hS, by omega, HG0⟩
      case round =>
        obtain ⟨j, acc2, rfl, hj, hS2, hal2, hgo3⟩ := hrel
        clear HG0 hS
        by_cases hj' : j < f.ops.length
        · obtain ⟨ob, oof, hoa, hob, c0, c1, c2, c3, c4⟩ := (hoi.below hS2.out.bel (Nat.le_refl _)) j hj'
          have hgo4 := hgo3.out
          rw [List.drop_eq_getElem_cons hj'] at hgo4
          unfold opsOut at hgo4
          obtain ⟨m, hm1, hgo5⟩ := bind_some_of hgo4
          obtain ⟨a1, hg1, hg2⟩ := bind_some_of hgo5
          have hm : m ∈ forms := List.mem_of_find?_eq_some hm1
          have hmi : isOp m f.ops[j] = true := List.find?_some (p := fun m => isOp m f.ops[j]) hm1
          have hmp : m.part = 3 := by
            unfold isOp at hmi
            simp at hmi
            exact hmi.1
          obtain ⟨hcw, _, _, _, hn3, _⟩ := form_facts hm
          have hn3' := hn3 hmp
          have hlen1 := lineOut_len hm hg1
          have HG : Hid (opsOut (f.ops.drop (j + 1)) a1 = some r) := hg2
          obtain ⟨oo, hoo⟩ : ∃ oo, f.ops[j] = oo := ⟨_, rfl⟩
          rw [hoo] at c0 c1 c2 c3 c4 hm1 hg1
          have hsz2 := hS2.out.sz
          obtain ⟨w6, hw6⟩ : ∃ w6, w6 = wr.alloc (.cells #[.int .i64 oo.kind, .int .i64 oo.a, .int .i64 oo.b, .int .i64 oo.c, .int .i64 oo.d] 46) := ⟨_, rfl⟩
          have hb6 : Below wr.heap.size wr w6 := by rw [hw6]; exact (Below.refl _ _).alloc (Nat.le_refl _) _
          have hS6 := hS2.out.below hb6
          have ho6 : w6.heap[wr.heap.size]? = some (.cells (opA oo) 46 (0, 0)) := by rw [hw6]; exact heap_alloc_new wr _
          have kO : Calls Tryd.prog 40 #[.agg #[.int .i64 oo.kind, .int .i64 oo.a, .int .i64 oo.b, .int .i64 oo.c, .int .i64 oo.d]] w6 fun e w' => e = .returned (formV m) ∧ Hid (Sc w #[.int .i64 x0, .int .i64 x1, .int .i64 x2, .int .i64 x3, .int .i64 x4, .int .i64 x5, .int .i64 x6, .int .i64 x7, .int .i64 x8, .int .i64 x9, .slice at1 f.tasks.length ct1, .slice ao1 f.ops.length co1] w' acc2) ∧ Hid (w'.heap[wr.heap.size]? = some (.cells (opA oo) 46 (0, 0))) := by
            refine (formOf_any oo w6 (hT.on hS6.bel hT.big) (some m) hm1).mono ?_
            rintro e w' ⟨h1, h2⟩
            exact ⟨h1, hS6.below h2, by show _ = _; rw [h2.block _ (block_lt ho6)]; exact ho6⟩
          have kA : ∀ W, Sc w #[.int .i64 x0, .int .i64 x1, .int .i64 x2, .int .i64 x3, .int .i64 x4, .int .i64 x5, .int .i64 x6, .int .i64 x7, .int .i64 x8, .int .i64 x9, .slice at1 f.tasks.length ct1, .slice ao1 f.ops.length co1] W acc2 → W.heap[wr.heap.size]? = some (.cells (opA oo) 46 (0, 0)) → Calls Tryd.prog 41 #[formV m, ptr wr.heap.size 0] W fun e w' => ∃ h, e = .returned (.slice (some ⟨h, 0, none⟩) (nums m) 3) ∧ Hid (w'.heap[h]? = some (.cells #[ptr wr.heap.size 1, ptr wr.heap.size 2, ptr wr.heap.size (third m)] 113 (0, 0))) ∧ Hid (Sc w #[.int .i64 x0, .int .i64 x1, .int .i64 x2, .int .i64 x3, .int .i64 x4, .int .i64 x5, .int .i64 x6, .int .i64 x7, .int .i64 x8, .int .i64 x9, .slice at1 f.tasks.length ct1, .slice ao1 f.ops.length co1] w' acc2) ∧ Hid (w'.heap[wr.heap.size]? = some (.cells (opA oo) 46 (0, 0))) ∧ Below W.heap.size W w' := fun W h1 h2 => by
            refine (opFields_any m wr.heap.size W hn3').mono ?_
            rintro e w' ⟨h, rfl, q1, q2⟩
            exact ⟨h, rfl, q1, h1.below q2, by show _ = _; rw [q2.block _ (block_lt h2)]; exact h2, q2⟩
          have kB : ∀ W h, Sc w #[.int .i64 x0, .int .i64 x1, .int .i64 x2, .int .i64 x3, .int .i64 x4, .int .i64 x5, .int .i64 x6, .int .i64 x7, .int .i64 x8, .int .i64 x9, .slice at1 f.tasks.length ct1, .slice ao1 f.ops.length co1] W acc2 → W.heap[wr.heap.size]? = some (.cells (opA oo) 46 (0, 0)) → W.heap[h]? = some (.cells #[ptr wr.heap.size 1, ptr wr.heap.size 2, ptr wr.heap.size (third m)] 113 (0, 0)) → Calls Tryd.prog 38 #[.slice (some ⟨h, 0, none⟩) (nums m) 3] W fun e w' => ∃ va vc, e = .returned (.slice va (getN m oo).length vc) ∧ Hid (IntsK w' va (getN m oo)) ∧ Hid ((getN m oo).length ≤ vc ∧ vc ≤ 9223372036854775807) ∧ Hid (Sc w #[.int .i64 x0, .int .i64 x1, .int .i64 x2, .int .i64 x3, .int .i64 x4, .int .i64 x5, .int .i64 x6, .int .i64 x7, .int .i64 x8, .int .i64 x9, .slice at1 f.tasks.length ct1, .slice ao1 f.ops.length co1] w' acc2) ∧ Below W.heap.size W w' := fun W h h1 h2 h3 => by
            refine (get_op m oo wr.heap.size h W hn3' h2 h3).mono ?_
            rintro e w' ⟨v, rfl, q1, q2⟩
            obtain ⟨va, vc, rfl⟩ := own_slice q1
            refine ⟨va, vc, rfl, IntsK.own q1, ?_, h1.below q2, q2⟩
            rcases q1.2 with ⟨hv, hz⟩ | ⟨g', c', cur, hv, _, _, h4, h5, _⟩
            · simp only [Value.slice.injEq] at hv
              exact ⟨by omega, by omega⟩
            · cases hv; unfold maxLen at h5; exact ⟨h4, by omega⟩
          have kC : ∀ W va vc, Sc w #[.int .i64 x0, .int .i64 x1, .int .i64 x2, .int .i64 x3, .int .i64 x4, .int .i64 x5, .int .i64 x6, .int .i64 x7, .int .i64 x8, .int .i64 x9, .slice at1 f.tasks.length ct1, .slice ao1 f.ops.length co1] W acc2 → IntsK W va (getN m oo) → ((getN m oo).length ≤ vc ∧ vc ≤ 9223372036854775807) → Calls Tryd.prog 37 #[ptr (w.heap.size + 3) 0, formV m, .slice va (getN m oo).length vc] W fun e W' => e = .returned (.tuple #[]) ∧ Hid (Sc w #[.int .i64 x0, .int .i64 x1, .int .i64 x2, .int .i64 x3, .int .i64 x4, .int .i64 x5, .int .i64 x6, .int .i64 x7, .int .i64 x8, .int .i64 x9, .slice at1 f.tasks.length ct1, .slice ao1 f.ops.length co1] W' a1) ∧ Kept W W' := fun W va vc h1 h2 h3 => line_put hm h1 hT va (getN m oo) vc h2 (by rw [hcw, getN_len m oo hn3']; exact Nat.le_refl _) h3.1 h3.2 (by omega) hg1
          clear hgo3 hgo4 hgo5 hg1 hg2 hm1 hmi hmp hcw hn3 hn3' hoo hS6 ho6 hb6
          subst hw6
          subst hoa
          generalize nums m = nm at *
          generalize (getN m oo).length = gl at *
          generalize f.ops.length = no at *
          go_wp2_with (go_at_call 40; refine kO.mono ?_; rintro e w7 ⟨rfl, hS7, ho7⟩)
          have e4 : Hid ((w7.alloc (.cells #[strV m.text, .int .i64 m.part, .int .i64 m.kind, .int .i64 m.says] 86)).drew.heap[w7.heap.size]? = some (.cells #[strV m.text, .int .i64 m.part, .int .i64 m.kind, .int .i64 m.says] 86 (0, 0))) := heap_alloc_new w7 _
          have hb7 : Below w7.heap.size w7 (w7.alloc (.cells #[strV m.text, .int .i64 m.part, .int .i64 m.kind, .int .i64 m.says] 86)).drew := ((Below.refl _ _).alloc (Nat.le_refl _) _).drew
          have hS8 : Hid (Sc w #[.int .i64 x0, .int .i64 x1, .int .i64 x2, .int .i64 x3, .int .i64 x4, .int .i64 x5, .int .i64 x6, .int .i64 x7, .int .i64 x8, .int .i64 x9, .slice at1 f.tasks.length ct1, .slice (some ⟨ob, oof, none⟩) no co1] (w7.alloc (.cells #[strV m.text, .int .i64 m.part, .int .i64 m.kind, .int .i64 m.says] 86)).drew acc2) := hS7.out.below hb7
          have ho8 : Hid ((w7.alloc (.cells #[strV m.text, .int .i64 m.part, .int .i64 m.kind, .int .i64 m.says] 86)).drew.heap[wr.heap.size]? = some (.cells (opA oo) 46 (0, 0))) := by
            show _ = _
            rw [hb7.block _ (block_lt ho7.out)]; exact ho7.out
          go_region_held3 (fun W => W.cell? ⟨w7.heap.size, 0, none⟩ = some (strV m.text) ∧ W.cell? ⟨w7.heap.size, 1, none⟩ = some (.int .i64 m.part) ∧ W.cell? ⟨w7.heap.size, 2, none⟩ = some (.int .i64 m.kind) ∧ W.cell? ⟨w7.heap.size, 3, none⟩ = some (.int .i64 m.says)) (first | go_keep | (go_split_ands; exact ⟨d0, d1, d2, d3⟩))
            (first
              | (go_at_call 41; refine (kA _ hS8.out ho8.out).mono ?_; rintro e wA ⟨h, rfl, hh, hSA, hoA, hbA⟩; have e5 : Hid (wA.heap[w7.heap.size]? = some (.cells #[strV m.text, .int .i64 m.part, .int .i64 m.kind, .int .i64 m.says] 86 (0, 0))) := (by show _ = _; rw [hbA.block _ (block_lt e4.out)]; exact e4.out); obtain ⟨d0, d1, d2, d3, _⟩ := cells4 e5.out)
              | (go_at_call 38; refine (kB _ h hSA.out hoA.out hh.out).mono ?_; rintro e wB ⟨va, vc, rfl, hin, hvc, hSB, hbB⟩; have e6 : Hid (wB.heap[w7.heap.size]? = some (.cells #[strV m.text, .int .i64 m.part, .int .i64 m.kind, .int .i64 m.says] 86 (0, 0))) := (by show _ = _; rw [hbB.block _ (block_lt e5.out)]; exact e5.out); obtain ⟨d0, d1, d2, d3, _⟩ := cells4 e6.out)
              | (go_at_call 37; refine (kC _ va vc hSB.out hin.out hvc.out).mono ?_; rintro e wC ⟨rfl, hSC, hkC⟩; have e7 := hkC.block _ _ _ _ e6.out (by decide) (by decide); obtain ⟨d0, d1, d2, d3, _⟩ := cells4 e7))
          all_goals go_wp2
          all_goals go_roundw
          case rel => exact ⟨j + 1, a1, by go_num, by omega, hSC, by omega, HG⟩
          case measure => simp [intOf]; omega
        · have hje : j = f.ops.length := by omega
          have HG : acc2 = r := by
            have := hgo3.out
            rw [hje, List.drop_length] at this
            exact Option.some.inj this
          subst HG
          have kS := Tryd.Builder_String_any (w.heap.size + 3) (w.heap.size + 3) acc2 wr hS2.out.bd (by have := hS2.out.sz; omega)
          have kS2 : Calls Tryd.prog 42 #[ptr (w.heap.size + 3) 0] wr fun e w' => e = .returned (strV acc2) ∧ Hid (w'.heap[w.heap.size + 1]? = some (.cells #[.string ⟨#[]⟩] 9 (0, 0))) ∧ Hid (w'.heap[w.heap.size + 2]? = some (.cells #[.int .i64 0] 30 (0, 0))) ∧ Hid (Below w.heap.size w w') := by
            refine kS.mono ?_
            rintro e w' ⟨rfl, h1⟩
            exact ⟨rfl, by show _ = _; rw [h1.block _ (by omega)]; exact hS2.out.tb, by show _ = _; rw [h1.block _ (by omega)]; exact hS2.out.eb, hS2.out.bel.trans (h1.mono (by omega))⟩
          clear hgo3 hje kS
          go_wp2_with (go_at_call 42; refine kS2.mono ?_; rintro e w9 ⟨rfl, q1, q2, q3⟩; have z1 : w9.cell? ⟨w.heap.size + 1, 0, none⟩ = some (.string ⟨#[]⟩) := (by rw [Lib.cell_of_heap q1.out]; rfl); have z2 : w9.cell? ⟨w.heap.size + 2, 0, none⟩ = some (.int .i64 0) := (by rw [Lib.cell_of_heap q2.out]; rfl); have z3 : w9.frozen? ⟨w.heap.size + 1, 0, none⟩ = false := Lib.frozen_of_heap q1.out 0; have z4 : w9.frozen? ⟨w.heap.size + 2, 0, none⟩ = false := Lib.frozen_of_heap q2.out 0)
          refine leaves_cons (f := 36) (args := #[ptr (w.heap.size + 1) 0, ptr (w.heap.size + 2) 0]) (by simp) (by simp [go_sem]) ?_
          refine (freed_none _ _ _).mono ?_
          rintro e u' w3 ⟨rfl, rfl, rfl⟩
          have u1 := Joins.block_setCell (i := 0) q1.out (strV acc2)
          have u2 : (w9.setCell ⟨w.heap.size + 1, 0, none⟩ (strV acc2)).heap[w.heap.size + 2]? = some (.cells #[.int .i64 0] 30 (0, 0)) := by rw [Below.heap_setCell _ _ _ _ (by show w.heap.size + 2 ≠ w.heap.size + 1; omega)]; exact q2.out
          have v2 := Joins.block_setCell (i := 0) u2 (.int .i64 0)
          have v1 : ((w9.setCell ⟨w.heap.size + 1, 0, none⟩ (strV acc2)).setCell ⟨w.heap.size + 2, 0, none⟩ (.int .i64 0)).heap[w.heap.size + 1]? = some (.cells #[strV acc2] 9 (0, 0)) := by rw [Below.heap_setCell _ _ _ _ (by show w.heap.size + 1 ≠ w.heap.size + 2; omega)]; exact u1
          have y1 : ((w9.setCell ⟨w.heap.size + 1, 0, none⟩ (strV acc2)).setCell ⟨w.heap.size + 2, 0, none⟩ (.int .i64 0)).cell? ⟨w.heap.size + 1, 0, none⟩ = some (strV acc2) := by rw [Lib.cell_of_heap v1]; rfl
          have y2 : ((w9.setCell ⟨w.heap.size + 1, 0, none⟩ (strV acc2)).setCell ⟨w.heap.size + 2, 0, none⟩ (.int .i64 0)).cell? ⟨w.heap.size + 2, 0, none⟩ = some (.int .i64 0) := by rw [Lib.cell_of_heap v2]; rfl
          have hbl : Below w.heap.size w ((w9.setCell ⟨w.heap.size + 1, 0, none⟩ (strV acc2)).setCell ⟨w.heap.size + 2, 0, none⟩ (.int .i64 0)) := (q3.out.setCell (p := ⟨w.heap.size + 1, 0, none⟩) (by simp) _).setCell (p := ⟨w.heap.size + 2, 0, none⟩) (by simp) _
          change Leaves _ _ _ _ _ _ ((w9.setCell ⟨w.heap.size + 1, 0, none⟩ (strV acc2)).setCell ⟨w.heap.size + 2, 0, none⟩ (.int .i64 0))
          generalize (w9.setCell ⟨w.heap.size + 1, 0, none⟩ (strV acc2)).setCell ⟨w.heap.size + 2, 0, none⟩ (.int .i64 0) = W at *
          refine ⟨.tuple #[strV acc2, .int .i64 0], ?_, rfl, hbl⟩
          simp [results, Tryd.results22, go_sem, y1, y2]

end Go.Proofs.YtgjfhfjmdkhllaaDoor
