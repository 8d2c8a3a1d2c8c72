/- Push and Pop of the order. -/
import Derived.Test.YtlpbjafdmhcmgaaLes
import Derived.Deep.RegionHeld3
import Derived.BigRegion
import Derived.Deep.AppendLies
namespace Go.Proofs.Ytlpbjafdmhcmgaa
open Go.RowKit
open M
set_option linter.unusedVariables false
set_option linter.unusedSimpArgs false

/-- One more id in memory. -/
theorem hm_push {w w2 : World} {g kb pb n m : Nat} {v v' : Value} {f P : Nat → Nat} {K : Nat → Int} {o : Obj} {x : Nat} (h : HM w g kb pb n v m f K P) (hm : m + 1 ≤ n) 
    (hown : w2.ownsRow 0 3 1 v' (m + 1) (rowI f m ++ [.int .i64 x])) (hg : (w.alloc o).grownBy w2 v.ownBlock) (hf : Fresh (w.alloc o) v v') :
    HM (w2.setCell ⟨g, 0, none⟩ v') g kb pb n v' (m + 1) (up1 f m x) K P ∧ Turn (Foot g kb pb v) w (w2.setCell ⟨g, 0, none⟩ v') ∧ Fresh w v v' := by
  have hlt := h.lt
  have hf' : Fresh w v v' := by
    rcases hf with q | ⟨k, q1, q2⟩
    · exact .inl q
    · exact .inr ⟨k, q1, by simp at q2; omega⟩
  have b1 : ∀ k, k < w.heap.size → v.ownBlock ≠ some k → w2.heap[k]? = w.heap[k]? := fun k hk hn => by
    rw [hg.block k (by simp; omega) (fun e => hn e.symm), Below.heap_alloc _ _ _ (by omega)]
  have ne : ∀ k, k < w.heap.size → v.ownBlock ≠ some k → v'.ownBlock ≠ some k := fun k hk hn => by
    rcases hf' with q | ⟨k', q1, q2⟩
    · rw [q]; exact hn
    · rw [q1]; intro e; cases e; omega
  have lg := hlt g (.inl rfl)
  have lk := hlt kb (.inr (.inl rfl))
  have lp := hlt pb (.inr (.inr (.inl rfl)))
  have ng := ne g lg h.vg
  refine ⟨⟨?_, ?_, ?_, ?_, h.gk, h.gp, h.kp, ng, ne kb lk h.vk, ne pb lp h.vp, h.hn, hm⟩, ?_, hf'⟩
  · have := heap_setCell_at (o := 0) ((b1 g lg h.vg).trans h.blk) v'
    simpa using this
  · rw [Below.heap_setCell _ _ _ _ (fun e => h.gk e.symm)]; exact (b1 kb lk h.vk).trans h.keys
  · rw [Below.heap_setCell _ _ _ _ (fun e => h.gp e.symm)]; exact (b1 pb lp h.vp).trans h.plc
  · rw [← rowI_push]
    refine owns_keep hown (fun k hk => ?_)
    rw [Below.heap_setCell _ _ _ _ (fun e => ng (by rw [hk, e]))]
  · exact Turn.setCell (Turn.grown ((Turn.refl _ w).alloc _) hg (fun k hk => .inl (.inr (.inr (.inr hk))))) (.inl (.inl rfl)) _

theorem assert_int (w : World) (z : Int) : (Instr.typeAssert (.iface 3 (.int .i64 z)) 20 3 false).run Try.prog w = .ok (.int .i64 z) w := by kernel_rfl

set_option maxRecDepth 1000000 in
set_option maxHeartbeats 2000000 in
theorem opush_any {w : World} {g kb pb n m : Nat} {v : Value} {f P : Nat → Nat} {K : Nat → Int} (h : HM w g kb pb n v m f K P) (hm1 : m + 1 ≤ n) {x : Nat} (hx : x < n) :
    Calls Try.prog 58 #[ptr g, .iface 3 (.int .i64 x)] w fun e w' => e = .returned (.tuple #[]) ∧ ∃ v', HM w' g kb pb n v' (m + 1) (up1 f m x) K (up1 P x (m + 1)) ∧ Turn (Foot g kb pb v) w w' ∧ Fresh w v v' := by
  obtain ⟨i0, hi, hz0, hz1, hz2⟩ := info_parts info3
  have H := hide_it h
  have q0 := h.c0
  obtain ⟨ao, cap, hv, hc1, hc2⟩ := h.form0
  have hn := h.hn
  clear h
  subst hv
  have ta := assert_int
  go_enter Try.func58, Try.ntmps58
  go_wp2_with (at_builtin; refine wpList_append_tell _ rfl (.tmp 11) (.tmp 13) 35 rfl 0 3 i0 _ 1 8 Try.underlying35 hi hz0 hz1 hz2 rfl (by decide) _ m (rowI f m) rfl (H.out.own.alloc _) ⟨_, 0, none⟩ 1 1 [.int .i64 x] rfl rfl (World.news_of_block (heap_alloc_new _ _)) (by simp [Value.oneCell']) (by unfold maxLen; omega) (by omega) (by simp) ?_; intro v' w2 hown' hgrow hfr; obtain ⟨gr, cr, hv', _, _⟩ := hown'.form (by omega); subst hv'; have gB : w2.heap[g]? = some (.cells #[.slice ao m cap, .slice (some ⟨kb, 0, none⟩) n n, .slice (some ⟨pb, 0, none⟩) n n] 63) := (by rw [hgrow.block g (by have := H.out.lt g (.inl rfl); simp; omega) (fun e => H.out.vg e.symm), Below.heap_alloc _ _ _ (H.out.lt g (.inl rfl))]; exact H.out.blk); have f0 : w2.frozen? ⟨g, 0, none⟩ = false := (by simp [World.frozen?, gB]); have r0 : w2.cell? ⟨g, 0, none⟩ = some (.slice ao m cap) := (by rw [cell_of_row w2 g 0 _ _ _ gB]; rfl); clear gB; have HG := hide_it (hm_push H.out hm1 hown' hgrow hfr); clear hown' hgrow hfr)
  clear ta f0 r0 q0 hi hz0 hz1 hz2
  obtain ⟨w3, hw3⟩ : ∃ w3, w2.setCell ⟨g, 0, none⟩ (.slice (some ⟨gr, 0, none⟩) (m + 1) cr) = w3 := ⟨_, rfl⟩
  rw [hw3] at HG
  rw [hw3]
  clear hw3
  have r0 := HG.out.1.c0
  have r2 := HG.out.1.c2
  have rx := HG.out.1.cp x hx
  have rf := HG.out.1.fp x
  generalize P x = px at rx
  have ngp := HG.out.1.gp
  go_region
  go_wp2
  go_end0
  obtain ⟨h1, h2, h3⟩ := HG.out
  exact ⟨rfl, _, ((h1.setP x (m + 1)).drew).congr (fun _ _ => rfl) (fun _ _ => rfl) (fun _ _ => rfl), (h2.setCell (.inl (.inr (.inr (.inl rfl)))) _).drew, h3⟩

theorem hm_cut {w : World} {g kb pb n m ib cap : Nat} {f P : Nat → Nat} {K : Nat → Int} (h : HM w g kb pb n (.slice (some ⟨ib, 0, none⟩) (m + 1) cap) (m + 1) f K P) :
    HM (w.setCell ⟨g, 0, none⟩ (.slice (some ⟨ib, 0, none⟩) m cap)) g kb pb n (.slice (some ⟨ib, 0, none⟩) m cap) m f K P := by
  have hg : ib ≠ g := fun e => h.vg (by rw [e]; rfl)
  refine ⟨?_, ?_, ?_, ?_, h.gk, h.gp, h.kp, h.vg, h.vk, h.vp, h.hn, by have := h.hm; omega⟩
  · have := heap_setCell_at (o := 0) h.blk (.slice (some ⟨ib, 0, none⟩) m cap)
    simpa using this
  · rw [Below.heap_setCell _ _ _ _ (fun e => h.gk e.symm)]; exact h.keys
  · rw [Below.heap_setCell _ _ _ _ (fun e => h.gp e.symm)]; exact h.plc
  · rcases h.own.2 with ⟨q, _⟩ | ⟨ib', cap', cur, he, hb, hgg, hnc, hcm, hcs, htake⟩
    · cases q
    · cases he
      refine ⟨by simp [rowI_len], .inr ⟨ib, cap, cur, rfl, hb, ?_, by omega, hcm, hcs, ?_⟩⟩
      · rw [Below.heap_setCell _ _ _ _ hg]; exact hgg
      · rw [← rowI_take, ← htake, List.take_take]
        congr 1
        omega

set_option maxRecDepth 1000000 in
set_option maxHeartbeats 2000000 in
theorem opop_any {w : World} {g kb pb n m : Nat} {v : Value} {f P : Nat → Nat} {K : Nat → Int} (h : HM w g kb pb n v (m + 1) f K P) {x : Nat} (hfx : f m = x) (hx : x < n) :
    Calls Try.prog 57 #[ptr g] w fun e w' => e = .returned (.iface 3 (.int .i64 x)) ∧ ∃ v', HM w' g kb pb n v' m f (fun i => if i = x then 0 else K i) (up1 P x 0) ∧ Turn (Foot g kb pb v) w w' ∧ Fresh w v v' := by
  have q0 := h.c0
  obtain ⟨ib, cap, hv, hc1, hc2, hc, hf⟩ := h.form (by omega)
  subst hv
  have cm := hc m (by omega)
  rw [hfx] at cm
  have fg := h.fg 0
  have hn := h.hn
  have hm := h.hm
  have HG := hide_it (hm_cut h)
  have T1 := hide_it ((Turn.refl (Foot g kb pb (.slice (some ⟨ib, 0, none⟩) (m + 1) cap)) w).setCell (p := ⟨g, 0, none⟩) (.inl (.inl rfl)) (.slice (some ⟨ib, 0, none⟩) m cap))
  clear h hc hf hfx
  go_enter Try.func57, Try.ntmps57
  go_wp2_with (fail)
  clear q0 cm fg
  generalize w.setCell ⟨g, 0, none⟩ (.slice (some ⟨ib, 0, none⟩) m cap) = w1 at *
  have q1 := HG.out.c1
  have q2 := HG.out.c2
  have ck := HG.out.ck x hx
  have fk := HG.out.fk x
  have cp := (HG.out.setK x 0).cp x hx
  have fp := (HG.out.setK x 0).fp x
  have ngk : ¬ g = kb := HG.out.gk
  have ngp : ¬ g = pb := HG.out.gp
  have H3 := hide_it ((HG.out.setK x 0).setP x 0)
  have T3 := hide_it ((T1.out.setCell (p := ⟨kb, x, none⟩) (.inl (.inr (.inl rfl))) (.int .i64 0)).setCell (p := ⟨pb, x, none⟩) (.inl (.inr (.inr (.inl rfl)))) (.int .i64 0))
  clear T1
  generalize P x = px at cp
  generalize K x = kx at ck
  go_region
  go_wp2
  go_ret
  exact ⟨rfl, _, (H3.out.drew).congr (fun _ _ => rfl) (fun _ _ => rfl) (fun _ _ => rfl), T3.out.drew, .inl rfl⟩
end Go.Proofs.Ytlpbjafdmhcmgaa
