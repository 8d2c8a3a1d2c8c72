/-
  What the document's own take and Parse answer: of every text of at most 4000 bytes what the program's does.
-/
import Derived.Test.YtgjfhfjmdkhllaaDoorTakA
import Derived.Test.YtgjfhfjmdkhllaaDoorTkD
import Derived.Test.YtgjfhfjmdkhllaaDoorTkE
import Derived.Test.YtgjfhfjmdkhllaaDoorRefQ
import Derived.Test.YtgjfhfjmdkhllaaDoorReaF
import Derived.Test.YtgjfhfjmdkhllaaDoorRefC
import Derived.Test.YtgjfhfjmdkhllaaDoorPars
namespace Go.Proofs.YtgjfhfjmdkhllaaDoor
open Go.RowKit
open M
set_option linter.unusedVariables false
set_option linter.unusedSimpArgs false

set_option maxRecDepth 1000000 in
set_option maxHeartbeats 4000000 in
theorem take_config_late (g b o n cap nt no tc oc : Nat) (ta oa : Option Addr) (ahead : Int) (F : List UInt8) (w : World) (hn0 : 0 < n) (hn1 : n ≤ cap) (hn2 : cap ≤ maxLen) (ht1 : nt ≤ 64) (ho1 : no ≤ 4096) (c0 : w.cell? ⟨b, o, none⟩ = some (.int .i64 1)) (c1 : w.cell? ⟨b, o + 1, none⟩ = some (strV wConfig)) (h3 : H3 w b o n F)
    (m10 : w.cell? ⟨g, 10, none⟩ = some (.slice ta nt tc)) (m11 : w.cell? ⟨g, 11, none⟩ = some (.slice oa no oc)) (m : Fm) (hm : refFm wConfig F = m) (hws : 0 < (words m).length) (hz : (ahead == 0) = false) :
    Calls Tryd.prog 21 #[ptr g 0, .slice (some ⟨b, o, none⟩) n cap, .int .i64 ahead] w fun e w' => e = .returned (.int .i64 2) ∧ Below w.heap.size w w' := by
  unfold maxLen at hn2
  have kF := form_some wConfig F w m hm hws
  obtain ⟨ws, hwsE⟩ : ∃ ws, words m = ws := ⟨_, rfl⟩
  rw [hwsE] at kF hws
  clear hm hwsE
  have hK : ((ws.length : Int) == 0) = false := by simp; intro h; simp [h] at hws
  generalize ws.length = kk at *
  unfold wConfig at *
  rcases h3 with ⟨h3, rfl⟩ | ⟨h3, k3, t3, c9, c10, ⟨rfl, rfl⟩ | ⟨d3, rfl⟩⟩
  all_goals
    go_enter Tryd.func21, Tryd.ntmps21
    go_wp2_with (go_at_call 33; refine kF.mono ?_; rintro e w1 ⟨gx, cx, rfl, hf⟩; have q0 : w1.cell? ⟨b, o, none⟩ = some (.int .i64 1) := (by rw [hf.out.bel.cell (p := ⟨b, o, none⟩) (World.block_lt_of_cell? w _ c0)]; exact c0); have q10 : w1.cell? ⟨g, 10, none⟩ = some (.slice ta nt tc) := (by rw [hf.out.bel.cell (p := ⟨g, 10, none⟩) (World.block_lt_of_cell? w _ m10)]; exact m10); have q11 : w1.cell? ⟨g, 11, none⟩ = some (.slice oa no oc) := (by rw [hf.out.bel.cell (p := ⟨g, 11, none⟩) (World.block_lt_of_cell? w _ m11)]; exact m11))
    go_ret
    exact ⟨rfl, hf.out.bel⟩

set_option maxRecDepth 1000000 in
set_option maxHeartbeats 4000000 in
theorem take_task_first (g b o n cap nt no tc oc : Nat) (ta oa : Option Addr) (F : List UInt8) (w : World) (hn0 : 0 < n) (hn1 : n ≤ cap) (hn2 : cap ≤ maxLen) (ht1 : nt ≤ 64) (ho1 : no ≤ 4096) (c0 : w.cell? ⟨b, o, none⟩ = some (.int .i64 1)) (c1 : w.cell? ⟨b, o + 1, none⟩ = some (strV wTask)) (h3 : H3 w b o n F)
    (m10 : w.cell? ⟨g, 10, none⟩ = some (.slice ta nt tc)) (m11 : w.cell? ⟨g, 11, none⟩ = some (.slice oa no oc)) (m : Fm) (hm : refFm wTask F = m) (hws : 0 < (words m).length) :
    Calls Tryd.prog 21 #[ptr g 0, .slice (some ⟨b, o, none⟩) n cap, .int .i64 0] w fun e w' => e = .returned (.int .i64 2) ∧ Below w.heap.size w w' := by
  unfold maxLen at hn2
  have kF := form_some wTask F w m hm hws
  obtain ⟨ws, hwsE⟩ : ∃ ws, words m = ws := ⟨_, rfl⟩
  rw [hwsE] at kF hws
  clear hm hwsE
  have hK : ((ws.length : Int) == 0) = false := by simp; intro h; simp [h] at hws
  generalize ws.length = kk at *
  unfold wTask at *
  rcases h3 with ⟨h3, rfl⟩ | ⟨h3, k3, t3, c9, c10, ⟨rfl, rfl⟩ | ⟨d3, rfl⟩⟩
  all_goals
    go_enter Tryd.func21, Tryd.ntmps21
    go_wp2_with (go_at_call 33; refine kF.mono ?_; rintro e w1 ⟨gx, cx, rfl, hf⟩; have q0 : w1.cell? ⟨b, o, none⟩ = some (.int .i64 1) := (by rw [hf.out.bel.cell (p := ⟨b, o, none⟩) (World.block_lt_of_cell? w _ c0)]; exact c0); have q10 : w1.cell? ⟨g, 10, none⟩ = some (.slice ta nt tc) := (by rw [hf.out.bel.cell (p := ⟨g, 10, none⟩) (World.block_lt_of_cell? w _ m10)]; exact m10); have q11 : w1.cell? ⟨g, 11, none⟩ = some (.slice oa no oc) := (by rw [hf.out.bel.cell (p := ⟨g, 11, none⟩) (World.block_lt_of_cell? w _ m11)]; exact m11))
    go_ret
    exact ⟨rfl, hf.out.bel⟩

set_option maxRecDepth 1000000 in
set_option maxHeartbeats 4000000 in
theorem take_task_late (g b o n cap nt no tc oc : Nat) (ta oa : Option Addr) (ahead : Int) (F : List UInt8) (w : World) (hn0 : 0 < n) (hn1 : n ≤ cap) (hn2 : cap ≤ maxLen) (ht1 : nt ≤ 64) (ho1 : no ≤ 4096) (c0 : w.cell? ⟨b, o, none⟩ = some (.int .i64 1)) (c1 : w.cell? ⟨b, o + 1, none⟩ = some (strV wTask)) (h3 : H3 w b o n F)
    (m10 : w.cell? ⟨g, 10, none⟩ = some (.slice ta nt tc)) (m11 : w.cell? ⟨g, 11, none⟩ = some (.slice oa no oc)) (m : Fm) (hm : refFm wTask F = m) (hws : 0 < (words m).length) (hz : (ahead == 0) = false) (hno : 0 < no) :
    Calls Tryd.prog 21 #[ptr g 0, .slice (some ⟨b, o, none⟩) n cap, .int .i64 ahead] w fun e w' => e = .returned (.int .i64 2) ∧ Below w.heap.size w w' := by
  unfold maxLen at hn2
  have kF := form_some wTask F w m hm hws
  obtain ⟨ws, hwsE⟩ : ∃ ws, words m = ws := ⟨_, rfl⟩
  rw [hwsE] at kF hws
  clear hm hwsE
  have hK : ((ws.length : Int) == 0) = false := by simp; intro h; simp [h] at hws
  generalize ws.length = kk at *
  have hno2 : (0 : Int) < (no : Int) := by omega
  unfold wTask at *
  rcases h3 with ⟨h3, rfl⟩ | ⟨h3, k3, t3, c9, c10, ⟨rfl, rfl⟩ | ⟨d3, rfl⟩⟩
  all_goals
    go_enter Tryd.func21, Tryd.ntmps21
    go_wp2_with (go_at_call 33; refine kF.mono ?_; rintro e w1 ⟨gx, cx, rfl, hf⟩; have q0 : w1.cell? ⟨b, o, none⟩ = some (.int .i64 1) := (by rw [hf.out.bel.cell (p := ⟨b, o, none⟩) (World.block_lt_of_cell? w _ c0)]; exact c0); have q10 : w1.cell? ⟨g, 10, none⟩ = some (.slice ta nt tc) := (by rw [hf.out.bel.cell (p := ⟨g, 10, none⟩) (World.block_lt_of_cell? w _ m10)]; exact m10); have q11 : w1.cell? ⟨g, 11, none⟩ = some (.slice oa no oc) := (by rw [hf.out.bel.cell (p := ⟨g, 11, none⟩) (World.block_lt_of_cell? w _ m11)]; exact m11))
    go_ret
    exact ⟨rfl, hf.out.bel⟩

set_option maxRecDepth 1000000 in
set_option maxHeartbeats 4000000 in
theorem take_op_first (g b o n cap nt no tc oc : Nat) (ta oa : Option Addr) (X : List UInt8) (F : List UInt8) (w : World) (hn0 : 0 < n) (hn1 : n ≤ cap) (hn2 : cap ≤ maxLen) (ht1 : nt ≤ 64) (ho1 : no ≤ 4096) (c0 : w.cell? ⟨b, o, none⟩ = some (.int .i64 1)) (c1 : w.cell? ⟨b, o + 1, none⟩ = some (strV X)) (h3 : H3 w b o n F)
    (m10 : w.cell? ⟨g, 10, none⟩ = some (.slice ta nt tc)) (m11 : w.cell? ⟨g, 11, none⟩ = some (.slice oa no oc)) (m : Fm) (hm : refFm X F = m) (hws : 0 < (words m).length) (d1 : (X == [99, 111, 110, 102, 105, 103]) = false) (d2 : (X == [116, 97, 115, 107]) = false) :
    Calls Tryd.prog 21 #[ptr g 0, .slice (some ⟨b, o, none⟩) n cap, .int .i64 0] w fun e w' => e = .returned (.int .i64 2) ∧ Below w.heap.size w w' := by
  unfold maxLen at hn2
  have kF := form_some X F w m hm hws
  obtain ⟨ws, hwsE⟩ : ∃ ws, words m = ws := ⟨_, rfl⟩
  rw [hwsE] at kF hws
  clear hm hwsE
  have hK : ((ws.length : Int) == 0) = false := by simp; intro h; simp [h] at hws
  generalize ws.length = kk at *
  rcases h3 with ⟨h3, rfl⟩ | ⟨h3, k3, t3, c9, c10, ⟨rfl, rfl⟩ | ⟨d3, rfl⟩⟩
  all_goals
    go_enter Tryd.func21, Tryd.ntmps21
    go_wp2_with (go_at_call 33; refine kF.mono ?_; rintro e w1 ⟨gx, cx, rfl, hf⟩; have q0 : w1.cell? ⟨b, o, none⟩ = some (.int .i64 1) := (by rw [hf.out.bel.cell (p := ⟨b, o, none⟩) (World.block_lt_of_cell? w _ c0)]; exact c0); have q10 : w1.cell? ⟨g, 10, none⟩ = some (.slice ta nt tc) := (by rw [hf.out.bel.cell (p := ⟨g, 10, none⟩) (World.block_lt_of_cell? w _ m10)]; exact m10); have q11 : w1.cell? ⟨g, 11, none⟩ = some (.slice oa no oc) := (by rw [hf.out.bel.cell (p := ⟨g, 11, none⟩) (World.block_lt_of_cell? w _ m11)]; exact m11))
    go_ret
    exact ⟨rfl, hf.out.bel⟩

set_option maxRecDepth 1000000 in
set_option maxHeartbeats 4000000 in
theorem take_task_full (g b o n cap nt no tc oc : Nat) (ta oa : Option Addr) (ahead : Int) (F : List UInt8) (w : World) (hn0 : 0 < n) (hn1 : n ≤ cap) (hn2 : cap ≤ maxLen) (ht1 : nt ≤ 64) (ho1 : no ≤ 4096) (c0 : w.cell? ⟨b, o, none⟩ = some (.int .i64 1)) (c1 : w.cell? ⟨b, o + 1, none⟩ = some (strV wTask)) (h3 : H3 w b o n F)
    (m10 : w.cell? ⟨g, 10, none⟩ = some (.slice ta nt tc)) (m11 : w.cell? ⟨g, 11, none⟩ = some (.slice oa no oc)) (m : Fm) (hm : refFm wTask F = m) (hws : 0 < (words m).length) (hz : (ahead == 0) = false) (hno : no = 0) (hnt : nt = 64) :
    Calls Tryd.prog 21 #[ptr g 0, .slice (some ⟨b, o, none⟩) n cap, .int .i64 ahead] w fun e w' => e = .returned (.int .i64 4) ∧ Below w.heap.size w w' := by
  unfold maxLen at hn2
  have kF := form_some wTask F w m hm hws
  obtain ⟨ws, hwsE⟩ : ∃ ws, words m = ws := ⟨_, rfl⟩
  rw [hwsE] at kF hws
  clear hm hwsE
  have hK : ((ws.length : Int) == 0) = false := by simp; intro h; simp [h] at hws
  generalize ws.length = kk at *
  have hno2 : ¬ (0 : Int) < (no : Int) := by omega
  have hno3 : decide ((0 : Int) < (no : Int)) = false := by simp; omega
  have hnt2 : (64 : Int) ≤ (nt : Int) := by omega
  unfold wTask at *
  rcases h3 with ⟨h3, rfl⟩ | ⟨h3, k3, t3, c9, c10, ⟨rfl, rfl⟩ | ⟨d3, rfl⟩⟩
  all_goals
    go_enter Tryd.func21, Tryd.ntmps21
    go_wp2_with (go_at_call 33; refine kF.mono ?_; rintro e w1 ⟨gx, cx, rfl, hf⟩; have q0 : w1.cell? ⟨b, o, none⟩ = some (.int .i64 1) := (by rw [hf.out.bel.cell (p := ⟨b, o, none⟩) (World.block_lt_of_cell? w _ c0)]; exact c0); have q10 : w1.cell? ⟨g, 10, none⟩ = some (.slice ta nt tc) := (by rw [hf.out.bel.cell (p := ⟨g, 10, none⟩) (World.block_lt_of_cell? w _ m10)]; exact m10); have q11 : w1.cell? ⟨g, 11, none⟩ = some (.slice oa no oc) := (by rw [hf.out.bel.cell (p := ⟨g, 11, none⟩) (World.block_lt_of_cell? w _ m11)]; exact m11))
    go_ret
    exact ⟨rfl, hf.out.bel⟩

set_option maxRecDepth 1000000 in
set_option maxHeartbeats 4000000 in
theorem take_op_full (g b o n cap nt no tc oc : Nat) (ta oa : Option Addr) (ahead : Int) (X : List UInt8) (F : List UInt8) (w : World) (hn0 : 0 < n) (hn1 : n ≤ cap) (hn2 : cap ≤ maxLen) (ht1 : nt ≤ 64) (ho1 : no ≤ 4096) (c0 : w.cell? ⟨b, o, none⟩ = some (.int .i64 1)) (c1 : w.cell? ⟨b, o + 1, none⟩ = some (strV X)) (h3 : H3 w b o n F)
    (m10 : w.cell? ⟨g, 10, none⟩ = some (.slice ta nt tc)) (m11 : w.cell? ⟨g, 11, none⟩ = some (.slice oa no oc)) (m : Fm) (hm : refFm X F = m) (hws : 0 < (words m).length) (d1 : (X == [99, 111, 110, 102, 105, 103]) = false) (d2 : (X == [116, 97, 115, 107]) = false) (hz : (ahead == 0) = false) (hno : no = 4096) :
    Calls Tryd.prog 21 #[ptr g 0, .slice (some ⟨b, o, none⟩) n cap, .int .i64 ahead] w fun e w' => e = .returned (.int .i64 4) ∧ Below w.heap.size w w' := by
  unfold maxLen at hn2
  have kF := form_some X F w m hm hws
  obtain ⟨ws, hwsE⟩ : ∃ ws, words m = ws := ⟨_, rfl⟩
  rw [hwsE] at kF hws
  clear hm hwsE
  have hK : ((ws.length : Int) == 0) = false := by simp; intro h; simp [h] at hws
  generalize ws.length = kk at *
  have hno2 : (4096 : Int) ≤ (no : Int) := by omega
  rcases h3 with ⟨h3, rfl⟩ | ⟨h3, k3, t3, c9, c10, ⟨rfl, rfl⟩ | ⟨d3, rfl⟩⟩
  all_goals
    go_enter Tryd.func21, Tryd.ntmps21
    go_wp2_with (go_at_call 33; refine kF.mono ?_; rintro e w1 ⟨gx, cx, rfl, hf⟩; have q0 : w1.cell? ⟨b, o, none⟩ = some (.int .i64 1) := (by rw [hf.out.bel.cell (p := ⟨b, o, none⟩) (World.block_lt_of_cell? w _ c0)]; exact c0); have q10 : w1.cell? ⟨g, 10, none⟩ = some (.slice ta nt tc) := (by rw [hf.out.bel.cell (p := ⟨g, 10, none⟩) (World.block_lt_of_cell? w _ m10)]; exact m10); have q11 : w1.cell? ⟨g, 11, none⟩ = some (.slice oa no oc) := (by rw [hf.out.bel.cell (p := ⟨g, 11, none⟩) (World.block_lt_of_cell? w _ m11)]; exact m11))
    go_ret
    exact ⟨rfl, hf.out.bel⟩
end Go.Proofs.YtgjfhfjmdkhllaaDoor
namespace Go.Proofs.YtgjfhfjmdkhllaaDoor
open Go.RowKit
open M
set_option linter.unusedVariables false
set_option linter.unusedSimpArgs false

set_option maxRecDepth 1000000 in
set_option maxHeartbeats 4000000 in
theorem take_config_num (g b o n cap nt no tc oc : Nat) (ta oa : Option Addr) (F : List UInt8) (w : World) (hn0 : 0 < n) (hn1 : n ≤ cap) (hn2 : cap ≤ maxLen) (ht1 : nt ≤ 64) (ho1 : no ≤ 4096) (c0 : w.cell? ⟨b, o, none⟩ = some (.int .i64 1)) (c1 : w.cell? ⟨b, o + 1, none⟩ = some (strV wConfig)) (h3 : H3 w b o n F)
    (m10 : w.cell? ⟨g, 10, none⟩ = some (.slice ta nt tc)) (m11 : w.cell? ⟨g, 11, none⟩ = some (.slice oa no oc)) (m : Fm) (hm : refFm wConfig F = m) (hws : 0 < (words m).length) (hno : no < 4096) (l : List Tok) (hl : l.length = n) (hn : n ≤ 1000000) (ht : TAt w b o l) (hwl : (words m).length ≤ 100) (htx : ∀ t ∈ l, t.text.length ≤ 65536) (E : Int) (ns : List Int) (hR : numF (words m) l [] = (ns, E)) (hE : E ≠ 0) :
    Calls Tryd.prog 21 #[ptr g 0, .slice (some ⟨b, o, none⟩) n cap, .int .i64 0] w fun e w' => e = .returned (.int .i64 E) ∧ Below w.heap.size w w' := by
  unfold maxLen at hn2
  have kF := form_some wConfig F w m hm hws
  obtain ⟨ws, hwsE⟩ : ∃ ws, words m = ws := ⟨_, rfl⟩
  rw [hwsE] at kF hws
  have kN : ∀ w1 gx cx, FormOk w w1 gx cx ws → Calls Tryd.prog 34 #[.slice (some ⟨b, o, none⟩) n cap, .slice (some ⟨gx, 0, none⟩) ws.length cx] w1 fun e w2 => ∃ v, e = .returned (.tuple #[v, .int .i64 E]) ∧ Hid (Below w.heap.size w w2) := fun w1 gx cx hf => by
    subst hwsE
    have hbw : b < w.heap.size := World.block_lt_of_cell? w _ c0
    have := numbers_any b o cap w.heap.size gx cx l (words m) w1 (by omega) (by omega) (ht.below hf.bel hbw) (Nat.lt_of_lt_of_le hbw hf.bel.size) hf.own hf.lt hwl htx _ hR
    rw [hl] at this
    refine this.mono ?_
    rintro e w2 ⟨v, rfl, _, hb⟩
    exact ⟨v, rfl, hf.bel.trans (hb.mono hf.bel.size)⟩
  clear hm hwsE hR ht hl htx hwl
  have hE2 : (E != 0) = true := by simp [hE]
  have hE3 : (E == 0) = false := by simp [hE]
  have hK : ((ws.length : Int) == 0) = false := by simp; intro h; simp [h] at hws
  have HW : ∃ kk, ws.length = kk := ⟨_, rfl⟩
  obtain ⟨kk, hkk⟩ := HW
  rw [hkk] at kN kF hK hws
  have hno4 : ¬ (4096 : Int) ≤ (no : Int) := by omega
  have hno5 : decide ((4096 : Int) ≤ (no : Int)) = false := by simp; omega
  unfold wConfig at *
  clear hkk
  rcases h3 with ⟨h3, rfl⟩ | ⟨h3, k3, t3, c9, c10, ⟨rfl, rfl⟩ | ⟨d3, rfl⟩⟩
  all_goals
    go_enter Tryd.func21, Tryd.ntmps21
    go_wp2_with (first | (go_at_call 33; refine kF.mono ?_; rintro e w1 ⟨gx, cx, rfl, hf⟩; have q0 : w1.cell? ⟨b, o, none⟩ = some (.int .i64 1) := (by rw [hf.out.bel.cell (p := ⟨b, o, none⟩) (World.block_lt_of_cell? w _ c0)]; exact c0); have q10 : w1.cell? ⟨g, 10, none⟩ = some (.slice ta nt tc) := (by rw [hf.out.bel.cell (p := ⟨g, 10, none⟩) (World.block_lt_of_cell? w _ m10)]; exact m10); have q11 : w1.cell? ⟨g, 11, none⟩ = some (.slice oa no oc) := (by rw [hf.out.bel.cell (p := ⟨g, 11, none⟩) (World.block_lt_of_cell? w _ m11)]; exact m11)) | (go_at_call 34; refine (kN _ _ _ hf.out).mono ?_; rintro e w2 ⟨v, rfl, hb⟩))
    go_ret
    exact ⟨rfl, hb.out⟩

set_option maxRecDepth 1000000 in
set_option maxHeartbeats 4000000 in
theorem take_task_num (g b o n cap nt no tc oc : Nat) (ta oa : Option Addr) (ahead : Int) (F : List UInt8) (w : World) (hn0 : 0 < n) (hn1 : n ≤ cap) (hn2 : cap ≤ maxLen) (ht1 : nt ≤ 64) (ho1 : no ≤ 4096) (c0 : w.cell? ⟨b, o, none⟩ = some (.int .i64 1)) (c1 : w.cell? ⟨b, o + 1, none⟩ = some (strV wTask)) (h3 : H3 w b o n F)
    (m10 : w.cell? ⟨g, 10, none⟩ = some (.slice ta nt tc)) (m11 : w.cell? ⟨g, 11, none⟩ = some (.slice oa no oc)) (m : Fm) (hm : refFm wTask F = m) (hws : 0 < (words m).length) (hz : (ahead == 0) = false) (hno : no = 0) (hnt : nt < 64) (l : List Tok) (hl : l.length = n) (hn : n ≤ 1000000) (ht : TAt w b o l) (hwl : (words m).length ≤ 100) (htx : ∀ t ∈ l, t.text.length ≤ 65536) (E : Int) (ns : List Int) (hR : numF (words m) l [] = (ns, E)) (hE : E ≠ 0) :
    Calls Tryd.prog 21 #[ptr g 0, .slice (some ⟨b, o, none⟩) n cap, .int .i64 ahead] w fun e w' => e = .returned (.int .i64 E) ∧ Below w.heap.size w w' := by
  unfold maxLen at hn2
  have kF := form_some wTask F w m hm hws
  obtain ⟨ws, hwsE⟩ : ∃ ws, words m = ws := ⟨_, rfl⟩
  rw [hwsE] at kF hws
  have kN : ∀ w1 gx cx, FormOk w w1 gx cx ws → Calls Tryd.prog 34 #[.slice (some ⟨b, o, none⟩) n cap, .slice (some ⟨gx, 0, none⟩) ws.length cx] w1 fun e w2 => ∃ v, e = .returned (.tuple #[v, .int .i64 E]) ∧ Hid (Below w.heap.size w w2) := fun w1 gx cx hf => by
    subst hwsE
    have hbw : b < w.heap.size := World.block_lt_of_cell? w _ c0
    have := numbers_any b o cap w.heap.size gx cx l (words m) w1 (by omega) (by omega) (ht.below hf.bel hbw) (Nat.lt_of_lt_of_le hbw hf.bel.size) hf.own hf.lt hwl htx _ hR
    rw [hl] at this
    refine this.mono ?_
    rintro e w2 ⟨v, rfl, _, hb⟩
    exact ⟨v, rfl, hf.bel.trans (hb.mono hf.bel.size)⟩
  clear hm hwsE hR ht hl htx hwl
  have hE2 : (E != 0) = true := by simp [hE]
  have hE3 : (E == 0) = false := by simp [hE]
  have hK : ((ws.length : Int) == 0) = false := by simp; intro h; simp [h] at hws
  have HW : ∃ kk, ws.length = kk := ⟨_, rfl⟩
  obtain ⟨kk, hkk⟩ := HW
  rw [hkk] at kN kF hK hws
  have hno2 : ¬ (0 : Int) < (no : Int) := by omega
  have hno3 : decide ((0 : Int) < (no : Int)) = false := by simp; omega
  have hnt2 : ¬ (64 : Int) ≤ (nt : Int) := by omega
  have hnt3 : decide ((64 : Int) ≤ (nt : Int)) = false := by simp; omega
  unfold wTask at *
  clear hkk
  rcases h3 with ⟨h3, rfl⟩ | ⟨h3, k3, t3, c9, c10, ⟨rfl, rfl⟩ | ⟨d3, rfl⟩⟩
  all_goals
    go_enter Tryd.func21, Tryd.ntmps21
    go_wp2_with (first | (go_at_call 33; refine kF.mono ?_; rintro e w1 ⟨gx, cx, rfl, hf⟩; have q0 : w1.cell? ⟨b, o, none⟩ = some (.int .i64 1) := (by rw [hf.out.bel.cell (p := ⟨b, o, none⟩) (World.block_lt_of_cell? w _ c0)]; exact c0); have q10 : w1.cell? ⟨g, 10, none⟩ = some (.slice ta nt tc) := (by rw [hf.out.bel.cell (p := ⟨g, 10, none⟩) (World.block_lt_of_cell? w _ m10)]; exact m10); have q11 : w1.cell? ⟨g, 11, none⟩ = some (.slice oa no oc) := (by rw [hf.out.bel.cell (p := ⟨g, 11, none⟩) (World.block_lt_of_cell? w _ m11)]; exact m11)) | (go_at_call 34; refine (kN _ _ _ hf.out).mono ?_; rintro e w2 ⟨v, rfl, hb⟩))
    go_ret
    exact ⟨rfl, hb.out⟩

set_option maxRecDepth 1000000 in
set_option maxHeartbeats 4000000 in
theorem take_op_num (g b o n cap nt no tc oc : Nat) (ta oa : Option Addr) (ahead : Int) (X : List UInt8) (F : List UInt8) (w : World) (hn0 : 0 < n) (hn1 : n ≤ cap) (hn2 : cap ≤ maxLen) (ht1 : nt ≤ 64) (ho1 : no ≤ 4096) (c0 : w.cell? ⟨b, o, none⟩ = some (.int .i64 1)) (c1 : w.cell? ⟨b, o + 1, none⟩ = some (strV X)) (h3 : H3 w b o n F)
    (m10 : w.cell? ⟨g, 10, none⟩ = some (.slice ta nt tc)) (m11 : w.cell? ⟨g, 11, none⟩ = some (.slice oa no oc)) (m : Fm) (hm : refFm X F = m) (hws : 0 < (words m).length) (d1 : (X == [99, 111, 110, 102, 105, 103]) = false) (d2 : (X == [116, 97, 115, 107]) = false) (hz : (ahead == 0) = false) (hno : no < 4096) (l : List Tok) (hl : l.length = n) (hn : n ≤ 1000000) (ht : TAt w b o l) (hwl : (words m).length ≤ 100) (htx : ∀ t ∈ l, t.text.length ≤ 65536) (E : Int) (ns : List Int) (hR : numF (words m) l [] = (ns, E)) (hE : E ≠ 0) :
    Calls Tryd.prog 21 #[ptr g 0, .slice (some ⟨b, o, none⟩) n cap, .int .i64 ahead] w fun e w' => e = .returned (.int .i64 E) ∧ Below w.heap.size w w' := by
  unfold maxLen at hn2
  have kF := form_some X F w m hm hws
  obtain ⟨ws, hwsE⟩ : ∃ ws, words m = ws := ⟨_, rfl⟩
  rw [hwsE] at kF hws
  have kN : ∀ w1 gx cx, FormOk w w1 gx cx ws → Calls Tryd.prog 34 #[.slice (some ⟨b, o, none⟩) n cap, .slice (some ⟨gx, 0, none⟩) ws.length cx] w1 fun e w2 => ∃ v, e = .returned (.tuple #[v, .int .i64 E]) ∧ Hid (Below w.heap.size w w2) := fun w1 gx cx hf => by
    subst hwsE
    have hbw : b < w.heap.size := World.block_lt_of_cell? w _ c0
    have := numbers_any b o cap w.heap.size gx cx l (words m) w1 (by omega) (by omega) (ht.below hf.bel hbw) (Nat.lt_of_lt_of_le hbw hf.bel.size) hf.own hf.lt hwl htx _ hR
    rw [hl] at this
    refine this.mono ?_
    rintro e w2 ⟨v, rfl, _, hb⟩
    exact ⟨v, rfl, hf.bel.trans (hb.mono hf.bel.size)⟩
  clear hm hwsE hR ht hl htx hwl
  have hE2 : (E != 0) = true := by simp [hE]
  have hE3 : (E == 0) = false := by simp [hE]
  have hK : ((ws.length : Int) == 0) = false := by simp; intro h; simp [h] at hws
  have HW : ∃ kk, ws.length = kk := ⟨_, rfl⟩
  obtain ⟨kk, hkk⟩ := HW
  rw [hkk] at kN kF hK hws
  have hno4 : ¬ (4096 : Int) ≤ (no : Int) := by omega
  have hno5 : decide ((4096 : Int) ≤ (no : Int)) = false := by simp; omega
  clear hkk
  rcases h3 with ⟨h3, rfl⟩ | ⟨h3, k3, t3, c9, c10, ⟨rfl, rfl⟩ | ⟨d3, rfl⟩⟩
  all_goals
    go_enter Tryd.func21, Tryd.ntmps21
    go_wp2_with (first | (go_at_call 33; refine kF.mono ?_; rintro e w1 ⟨gx, cx, rfl, hf⟩; have q0 : w1.cell? ⟨b, o, none⟩ = some (.int .i64 1) := (by rw [hf.out.bel.cell (p := ⟨b, o, none⟩) (World.block_lt_of_cell? w _ c0)]; exact c0); have q10 : w1.cell? ⟨g, 10, none⟩ = some (.slice ta nt tc) := (by rw [hf.out.bel.cell (p := ⟨g, 10, none⟩) (World.block_lt_of_cell? w _ m10)]; exact m10); have q11 : w1.cell? ⟨g, 11, none⟩ = some (.slice oa no oc) := (by rw [hf.out.bel.cell (p := ⟨g, 11, none⟩) (World.block_lt_of_cell? w _ m11)]; exact m11)) | (go_at_call 34; refine (kN _ _ _ hf.out).mono ?_; rintro e w2 ⟨v, rfl, hb⟩))
    go_ret
    exact ⟨rfl, hb.out⟩
end Go.Proofs.YtgjfhfjmdkhllaaDoor
namespace Go.Proofs.YtgjfhfjmdkhllaaDoor
open Go.RowKit
open M
set_option linter.unusedVariables false
set_option linter.unusedSimpArgs false

theorem forms_ok : ∀ m ∈ forms, (m.part = 1 ∨ m.part = 2 ∨ m.part = 3) ∧ 0 < (words m).length ∧ (words m).length ≤ 100 ∧ (m.part = 1 → ((words m).filter (· == [78])).length = 10) ∧ (m.part = 2 → ((words m).filter (· == [78])).length = 2) := by
  have h : (forms.all fun m => (m.part == 1 || m.part == 2 || m.part == 3) && decide (0 < (words m).length) && decide ((words m).length ≤ 100) && (m.part != 1 || ((words m).filter (· == [78])).length == 10) && (m.part != 2 || ((words m).filter (· == [78])).length == 2)) = true := by decide +kernel
  intro m hm
  have := List.all_eq_true.1 h m hm
  simp only [Bool.and_eq_true, Bool.or_eq_true, beq_iff_eq, bne_iff_ne, decide_eq_true_eq] at this
  obtain ⟨⟨⟨⟨h1, h2⟩, h3⟩, h4⟩, h5⟩ := this
  exact ⟨by rcases h1 with (h | h) | h <;> simp [h], h2, h3, fun e => by rcases h4 with h | h; exact absurd e h; exact h, fun e => by rcases h5 with h | h; exact absurd e h; exact h⟩
theorem part_one {a b : List UInt8} (h : (refFm a b).part = 1) : a = wConfig := by
  unfold refFm at h
  by_cases h0 : a = wConfig
  · exact h0
  · rw [if_neg h0] at h
    repeat' split at h
    all_goals cases h
theorem part_two {a b : List UInt8} (h : (refFm a b).part = 2) : a = wTask := by
  unfold refFm at h
  by_cases h0 : a = wConfig
  · rw [if_pos h0] at h; cases h
  · rw [if_neg h0] at h
    by_cases h1 : a = wTask
    · exact h1
    · rw [if_neg h1] at h
      repeat' split at h
      all_goals cases h
theorem part_three {a b : List UInt8} (h : (refFm a b).part = 3) : a ≠ wConfig ∧ a ≠ wTask := by
  constructor
  · rintro rfl; cases h
  · rintro rfl; cases h
theorem len_10 {l : List Int} (h : l.length = 10) : ∃ x0 x1 x2 x3 x4 x5 x6 x7 x8 x9, l = [x0, x1, x2, x3, x4, x5, x6, x7, x8, x9] := by
  match l, h with
  | [x0, x1, x2, x3, x4, x5, x6, x7, x8, x9], _ => exact ⟨x0, x1, x2, x3, x4, x5, x6, x7, x8, x9, rfl⟩

set_option maxHeartbeats 4000000 in
theorem take_any (g B b o cap ahead : Nat) (f : Fl) (vt vo : Value) (l : List Tok) (w : World) (hf : FileR w g B f vt vo) (hgB : g < B) (hBw : B ≤ w.heap.size) (hcap : l.length ≤ cap) (hcm : cap ≤ maxLen) (hn : l.length ≤ 1000000) (ht : TAt w b o l) (hl0 : 0 < l.length)
    (htok : ∀ t ∈ l, TokOkL t ∧ t.kind ≠ 3) (htx : ∀ t ∈ l, t.text.length ≤ 65536) (htl : f.tasks.length ≤ 64) (hol : f.ops.length ≤ 4096) (hah : ahead = 0 → f.ops = []) :
    Calls Tryd.prog 21 #[ptr g 0, .slice (some ⟨b, o, none⟩) l.length cap, .int .i64 (ahead : Int)] w fun e w' => e = .returned (.int .i64 (takeE f l (ahead == 0))) ∧ But g B w w' ∧ (takeE f l (ahead == 0) = 0 → ∃ vt' vo', FileR w' g B (takeA f l) vt' vo') := by
  obtain ⟨ta, tc, rfl⟩ := own_slice hf.ts
  obtain ⟨oa, oc, rfl⟩ := own_slice hf.os
  have h3 := h3_of ht
  match l, hl0, hcap, hn, ht, htok, htx, h3 with
  | t :: ts, hl0, hcap, hn, ht, htok, htx, h3 =>
    obtain ⟨e0, e1, _⟩ := ht 0 (by simp)
    have c0 : w.cell? ⟨b, o, none⟩ = some (.int .i64 (t.kind : Int)) := by simpa using e0
    have c1 : w.cell? ⟨b, o + 1, none⟩ = some (strV t.text) := by simpa using e1
    have m10 : w.cell? ⟨g, 10, none⟩ = some (.slice ta f.tasks.length tc) := by rw [Lib.cell_of_heap hf.blk]; exact (fileA_at hf.cfg _ _).1
    have m11 : w.cell? ⟨g, 11, none⟩ = some (.slice oa f.ops.length oc) := by rw [Lib.cell_of_heap hf.blk]; exact (fileA_at hf.cfg _ _).2.1
    obtain ⟨F, hF⟩ : ∃ F, fourthF (t :: ts) = F := ⟨_, rfl⟩
    obtain ⟨m, hm⟩ : ∃ m, refFm t.text F = m := ⟨_, rfl⟩
    have hE : takeE f (t :: ts) (ahead == 0) = if mayStand f m.part (ahead == 0) = false then 2 else if isFull f m.part = true then 4 else (numF (words m) (t :: ts) []).2 := by
      simp only [takeE, hF, hm]
    have hA : takeA f (t :: ts) = if m.part = 1 then { f with cfg := (numF (words m) (t :: ts) []).1 } else if m.part = 2 then { f with tasks := f.tasks ++ [((numF (words m) (t :: ts) []).1.getD 0 0, (numF (words m) (t :: ts) []).1.getD 1 0)] } else { f with ops := f.ops ++ [opOf m (numF (words m) (t :: ts) []).1] } := by
      simp only [takeA, hF, hm]
    rw [hE, hA]
    rw [hF] at h3
    have hbelow : ∀ w', Below w.heap.size w w' → But g B w w' := fun w' h => But.of (h.mono hBw)
    by_cases hp0 : m.part = 0
    · have hms : mayStand f m.part (ahead == 0) = false := by rw [hp0]; rfl
      rw [if_pos hms]
      refine (take_none g b o (t :: ts).length cap ahead t.kind t.text F w hl0 hcap hcm c0 c1 h3 (by rw [hm]; exact hp0)).mono ?_
      rintro e w' ⟨rfl, hb⟩
      exact ⟨rfl, hbelow _ hb, fun h => by cases h⟩
    · have hmem : m ∈ forms := by rw [← hm]; exact (refFm_mem (by rw [hm]; exact hp0)).1
      obtain ⟨hpc, hw0, hw1, hl1, hl2⟩ := forms_ok m hmem
      have hk1 : t.kind = 1 := ref_kind (ts := ts) (htok t (by simp)).1 (by rw [hF, hm]; exact hp0)
      have c0' : w.cell? ⟨b, o, none⟩ = some (.int .i64 1) := by rw [c0, hk1]; rfl
      obtain ⟨ns, E, hR⟩ : ∃ ns E, numF (words m) (t :: ts) [] = (ns, E) := ⟨_, _, rfl⟩
      rw [hR]
      have hnl : E = 0 → ns.length = ((words m).filter (· == [78])).length := fun h => by
        rw [h] at hR
        have := numF_len _ _ _ _ hR
        simpa using this
      rcases hpc with hp | hp | hp
      · have hx : t.text = wConfig := part_one (b := F) (by rw [hm]; exact hp)
        rw [hx] at c1 hm
        have hnf : isFull f m.part = false := by rw [hp]; rfl
        by_cases ha : ahead = 0
        · subst ha
          have hms : mayStand f m.part (0 == 0) = true := by rw [hp]; rfl
          have hops : f.ops = [] := hah rfl
          have hno : f.ops.length < 4096 := by rw [hops]; simp
          rw [if_neg (by rw [hms]; simp), if_neg (by rw [hnf]; simp)]
          by_cases hE0 : E = 0
          · subst hE0
            obtain ⟨x0, x1, x2, x3, x4, x5, x6, x7, x8, x9, rfl⟩ := len_10 ((hnl rfl).trans (hl1 hp))
            obtain ⟨z0, z1, z2, z3, z4, z5, z6, z7, z8, z9, hz⟩ := len_10 hf.cfg
            have hblk : w.heap[g]? = some (.cells #[intV z0, intV z1, intV z2, intV z3, intV z4, intV z5, intV z6, intV z7, intV z8, intV z9, .slice ta f.tasks.length tc, .slice oa f.ops.length oc] 33 (0, 0)) := by
              rw [hf.blk]
              unfold fileA
              rw [hz]
              rfl
            refine (take_config g b o (t :: ts).length cap f.tasks.length f.ops.length tc oc ta oa F w hl0 hcap hcm htl hno c0' c1 h3 (intV z0) (intV z1) (intV z2) (intV z3) (intV z4) (intV z5) (intV z6) (intV z7) (intV z8) (intV z9) hblk m hm hw0 (t :: ts) rfl hn ht hw1 htx x0 x1 x2 x3 x4 x5 x6 x7 x8 x9 hR).mono ?_
            rintro e w' ⟨rfl, w2, hb, rfl⟩
            have hbd : Below w.heap.size w w2.drew := hb.drew
            have hf2 := hf.below hbd
            have hblk2 : w2.drew.heap[g]? = some (.cells #[intV z0, intV z1, intV z2, intV z3, intV z4, intV z5, intV z6, intV z7, intV z8, intV z9, .slice ta f.tasks.length tc, .slice oa f.ops.length oc] 33 (0, 0)) := by rw [hbd.block g (block_lt hblk)]; exact hblk
            have hon := put10_only w2.drew g x0 x1 x2 x3 x4 x5 x6 x7 x8 x9
            refine ⟨rfl, (hbelow _ hbd).trans (But.only hon), fun _ => ⟨.slice ta f.tasks.length tc, .slice oa f.ops.length oc, ?_⟩⟩
            rw [if_pos hp]
            refine ⟨put10_block hblk2 x0 x1 x2 x3 x4 x5 x6 x7 x8 x9, ?_, ?_, rfl⟩
            · exact hf2.ts.kept (row := some g) hon.grown (.inr (own_ne hf2.ts hblk2 (by decide)))
            · exact hf2.os.kept (row := some g) hon.grown (.inr (own_ne hf2.os hblk2 (by decide)))
          · refine (take_config_num g b o (t :: ts).length cap f.tasks.length f.ops.length tc oc ta oa F w hl0 hcap hcm htl hol c0' c1 h3 m10 m11 m hm hw0 hno (t :: ts) rfl hn ht hw1 htx E ns hR hE0).mono ?_
            rintro e w' ⟨rfl, hb⟩
            exact ⟨rfl, hbelow _ hb, fun h => absurd h hE0⟩
        · have hz : ((ahead : Int) == 0) = false := by simp; omega
          have hz' : (ahead == 0) = false := by simp [ha]
          have hms : mayStand f m.part (ahead == 0) = false := by rw [hp, hz']; rfl
          rw [if_pos hms]
          refine (take_config_late g b o (t :: ts).length cap f.tasks.length f.ops.length tc oc ta oa ahead F w hl0 hcap hcm htl hol c0' c1 h3 m10 m11 m hm hw0 hz).mono ?_
          rintro e w' ⟨rfl, hb⟩
          exact ⟨rfl, hbelow _ hb, fun h => by cases h⟩
      · have hx : t.text = wTask := part_two (b := F) (by rw [hm]; exact hp)
        rw [hx] at c1 hm
        by_cases ha : ahead = 0
        · subst ha
          have hms : mayStand f m.part (0 == 0) = false := by rw [hp]; rfl
          rw [if_pos hms]
          refine (take_task_first g b o (t :: ts).length cap f.tasks.length f.ops.length tc oc ta oa F w hl0 hcap hcm htl hol c0' c1 h3 m10 m11 m hm hw0).mono ?_
          rintro e w' ⟨rfl, hb⟩
          exact ⟨rfl, hbelow _ hb, fun h => by cases h⟩
        · have hz : ((ahead : Int) == 0) = false := by simp; omega
          have hz' : (ahead == 0) = false := by simp [ha]
          by_cases hops : f.ops = []
          · have hms : mayStand f m.part (ahead == 0) = true := by rw [hp, hz', mayStand]; simp [hops]
            have hno : f.ops.length = 0 := by rw [hops]; rfl
            rw [if_neg (by rw [hms]; simp)]
            by_cases hfull : f.tasks.length = 64
            · rw [if_pos (by rw [hp, isFull]; simp [hfull])]
              refine (take_task_full g b o (t :: ts).length cap f.tasks.length f.ops.length tc oc ta oa ahead F w hl0 hcap hcm htl hol c0' c1 h3 m10 m11 m hm hw0 hz hno hfull).mono ?_
              rintro e w' ⟨rfl, hb⟩
              exact ⟨rfl, hbelow _ hb, fun h => by cases h⟩
            · rw [if_neg (by rw [hp, isFull]; simp [hfull])]
              by_cases hE0 : E = 0
              · subst hE0
                obtain ⟨x0, x1, rfl⟩ := len_2 ((hnl rfl).trans (hl2 hp))
                refine (take_task g B b o (t :: ts).length cap f.tasks.length f.ops.length tc oc ta oa ahead F f w hgB hBw hl0 hcap hcm c0' c1 h3 hf rfl rfl m hm hw0 hz hno (by omega) (t :: ts) rfl hn ht hw1 htx x0 x1 hR).mono ?_
                rintro e w' ⟨rfl, ⟨vt', hf'⟩, hbut⟩
                refine ⟨rfl, hbut, fun _ => ⟨vt', .slice oa f.ops.length oc, ?_⟩⟩
                rw [if_neg (by rw [hp]; decide), if_pos hp]
                exact hf'
              · refine (take_task_num g b o (t :: ts).length cap f.tasks.length f.ops.length tc oc ta oa ahead F w hl0 hcap hcm htl hol c0' c1 h3 m10 m11 m hm hw0 hz hno (by omega) (t :: ts) rfl hn ht hw1 htx E ns hR hE0).mono ?_
                rintro e w' ⟨rfl, hb⟩
                exact ⟨rfl, hbelow _ hb, fun h => absurd h hE0⟩
          · have hne : 0 < f.ops.length := List.length_pos_iff.2 hops
            have hms : mayStand f m.part (ahead == 0) = false := by rw [hp, hz', mayStand]; simp [hops]
            rw [if_pos hms]
            refine (take_task_late g b o (t :: ts).length cap f.tasks.length f.ops.length tc oc ta oa ahead F w hl0 hcap hcm htl hol c0' c1 h3 m10 m11 m hm hw0 hz hne).mono ?_
            rintro e w' ⟨rfl, hb⟩
            exact ⟨rfl, hbelow _ hb, fun h => by cases h⟩
      · obtain ⟨x1, x2⟩ := part_three (a := t.text) (b := F) (by rw [hm]; exact hp)
        have d1 : (t.text == [99, 111, 110, 102, 105, 103]) = false := beq_eq_false_iff_ne.2 x1
        have d2 : (t.text == [116, 97, 115, 107]) = false := beq_eq_false_iff_ne.2 x2
        by_cases ha : ahead = 0
        · subst ha
          have hms : mayStand f m.part (0 == 0) = false := by rw [hp]; rfl
          rw [if_pos hms]
          refine (take_op_first g b o (t :: ts).length cap f.tasks.length f.ops.length tc oc ta oa t.text F w hl0 hcap hcm htl hol c0' c1 h3 m10 m11 m hm hw0 d1 d2).mono ?_
          rintro e w' ⟨rfl, hb⟩
          exact ⟨rfl, hbelow _ hb, fun h => by cases h⟩
        · have hz : ((ahead : Int) == 0) = false := by simp; omega
          have hz' : (ahead == 0) = false := by simp [ha]
          have hms : mayStand f m.part (ahead == 0) = true := by rw [hp, hz']; rfl
          rw [if_neg (by rw [hms]; simp)]
          by_cases hfull : f.ops.length = 4096
          · rw [if_pos (by rw [hp, isFull]; simp [hfull])]
            refine (take_op_full g b o (t :: ts).length cap f.tasks.length f.ops.length tc oc ta oa ahead t.text F w hl0 hcap hcm htl hol c0' c1 h3 m10 m11 m hm hw0 d1 d2 hz hfull).mono ?_
            rintro e w' ⟨rfl, hb⟩
            exact ⟨rfl, hbelow _ hb, fun h => by cases h⟩
          · rw [if_neg (by rw [hp, isFull]; simp [hfull])]
            by_cases hE0 : E = 0
            · subst hE0
              refine (take_op g B b o (t :: ts).length cap f.tasks.length f.ops.length tc oc ta oa ahead t.text F f w hgB hBw hl0 hcap hcm c0' c1 h3 hf rfl rfl m hm hp hw0 d1 d2 hz (by omega) (t :: ts) rfl hn ht hw1 htx ns hR).mono ?_
              rintro e w' ⟨rfl, ⟨vo', hf'⟩, hbut⟩
              refine ⟨rfl, hbut, fun _ => ⟨.slice ta f.tasks.length tc, vo', ?_⟩⟩
              rw [if_neg (by rw [hp]; decide), if_neg (by rw [hp]; decide)]
              exact hf'
            · refine (take_op_num g b o (t :: ts).length cap f.tasks.length f.ops.length tc oc ta oa ahead t.text F w hl0 hcap hcm htl hol c0' c1 h3 m10 m11 m hm hw0 d1 d2 hz (by omega) (t :: ts) rfl hn ht hw1 htx E ns hR hE0).mono ?_
              rintro e w' ⟨rfl, hb⟩
              exact ⟨rfl, hbelow _ hb, fun h => absurd h hE0⟩
end Go.Proofs.YtgjfhfjmdkhllaaDoor
namespace Go.Proofs.YtgjfhfjmdkhllaaDoor.M
set_option linter.unusedVariables false
set_option linter.unusedSimpArgs false
open Go.Proofs.YtgjfhfjmdkhllaaDoor

/-- The tokens of a line stand in one line. -/
def LineEq : List Tok → Prop
  | [] => True
  | t :: ts => (t.kind ≠ 3 → ∀ u, ts.head? = some u → u.line = t.line) ∧ LineEq ts
def LastIn (ts : List Tok) (l : Nat) : Prop := ∀ t, ts.getLast? = some t → t.kind ≠ 3 → t.line = l
theorem lineEq_snoc (t : Tok) : ∀ ts : List Tok, LineEq ts → LastIn ts t.line → LineEq (ts ++ [t]) := by
  intro ts
  induction ts with
  | nil => intro _ _; exact ⟨fun _ u h => by simp at h, trivial⟩
  | cons x ts ih =>
    intro h1 h2
    refine ⟨fun hk u hu => ?_, ih h1.2 (fun y hy hk => h2 y ?_ hk)⟩
    · cases ts with
      | nil =>
        have : t = u := by simpa using hu
        subst this
        exact (h2 x (by simp) hk).symm
      | cons y ts => exact h1.1 hk u (by simpa using hu)
    · cases ts with
      | nil => simp at hy
      | cons z ts => rw [List.getLast?_cons_cons]; exact hy
theorem last_snoc (ts : List Tok) (t : Tok) : LastIn (ts ++ [t]) t.line := by
  intro u hu _
  have : t = u := by simpa using hu
  rw [this]
def LI (_ : Nat) (_ : List UInt8) (ts : List Tok) (l _ : Nat) : Prop := LineEq ts ∧ LastIn ts l
theorem li_flush {m : Nat} {cur : List UInt8} {ts : List Tok} {l : Nat} (h : LineEq ts ∧ LastIn ts l) : LineEq (flush m cur ts l) ∧ LastIn (flush m cur ts l) l := by
  unfold flush
  split
  · exact ⟨lineEq_snoc ⟨m, cur, l⟩ ts h.1 h.2, last_snoc ts ⟨m, cur, l⟩⟩
  · exact h
theorem li_end {ts : List Tok} {l : Nat} (h : LineEq ts ∧ LastIn ts l) : LineEq (endLine ts l) ∧ ∀ l', LastIn (endLine ts l) l' := by
  unfold endLine
  split
  · rename_i hc
    refine ⟨h.1, fun l' t ht hk => ?_⟩
    unfold closed at hc
    rw [ht] at hc
    exact absurd (by simpa using hc) hk
  · refine ⟨lineEq_snoc ⟨3, [], l⟩ ts h.1 h.2, fun l' t ht hk => ?_⟩
    have : (⟨3, [], l⟩ : Tok) = t := by simpa using ht
    subst this
    exact absurd rfl hk
theorem li_step (m : Nat) (cur : List UInt8) (ts : List Tok) (l n : Nat) (c : UInt8) (m' : Nat) (cur' : List UInt8) (ts' : List Tok) (l' : Nat) (g : LI m cur ts l n) (h : step (.ok m cur ts l) c = .ok m' cur' ts' l') : LI m' cur' ts' l' (n + 1) := by
  have hfl := li_flush (m := m) (cur := cur) g
  rcases step_cases m cur ts l c with ⟨_, e⟩ | ⟨_, _, e⟩ | ⟨_, h2, h1, e⟩ | ⟨_, h2, h1, e⟩ | ⟨_, _, e⟩ | ⟨_, _, e⟩ | e
  all_goals rw [e] at h
  · cases h
    exact ⟨(li_end hfl).1, (li_end hfl).2 _⟩
  · cases h; exact g
  · cases h; exact g
  · cases h; exact g
  · cases h; exact hfl
  · cases h; exact hfl
  · cases h
theorem lex_lines {bs : List UInt8} {ts : List Tok} {n : Nat} (h : lexF bs = (ts, n, 0)) : LineEq ts := by
  unfold lexF at h
  split at h
  · simp at h
  · cases hr : run init bs with
    | error l => rw [hr] at h; simp [fin] at h
    | ok s =>
      obtain ⟨m, cur, ts', l⟩ := s
      rw [hr] at h
      have e : ts = endLine (flush m cur ts' l) l := by simp only [fin, Prod.mk.injEq] at h; exact h.1.symm
      have g := run_ind LI li_step bs 0 [] [] 1 0 m cur ts' l ⟨trivial, fun t ht => by simp at ht⟩ hr
      rw [e]
      exact (li_end (li_flush g)).1
theorem line_same : ∀ (ts : List Tok) (k : Nat) (hk : k < ts.length), LineEq ts → (∀ j (h : j < ts.length), j < k → ts[j].kind ≠ 3) → ts[k].line = (ts.headD ⟨0, [], 0⟩).line := by
  intro ts
  induction ts with
  | nil => intro k hk; simp at hk
  | cons t ts ih =>
    intro k hk h1 h2
    cases k with
    | zero => rfl
    | succ k =>
      have hk' : k < ts.length := by simpa using hk
      have := ih k hk' h1.2 (fun j h hj => h2 (j + 1) (by simpa using h) (by omega))
      have ht : t.kind ≠ 3 := h2 0 (by simp) (by omega)
      cases ts with
      | nil => simp at hk'
      | cons u ts =>
        have hu : u.line = t.line := h1.1 ht u rfl
        simp only [List.getElem_cons_succ]
        rw [this]
        simpa using hu
theorem lineEq_drop : ∀ (ts : List Tok) (k : Nat), LineEq ts → LineEq (ts.drop k) := by
  intro ts
  induction ts with
  | nil => intro k h; simpa using h
  | cons t ts ih =>
    intro k h
    cases k with
    | zero => exact h
    | succ k => exact ih k h.2
theorem ends_at : ∀ (ts : List Tok) (b : Bool) (k : Nat) (hk : k < ts.length), EndsOk ts b → ts[k].kind = 3 → (k = 0 ∧ b = false) ∨ ∃ h : 0 < k, ts[k - 1].kind ≠ 3 := by
  intro ts
  induction ts with
  | nil => intro b k hk; simp at hk
  | cons t ts ih =>
    intro b k hk h h3
    cases k with
    | zero => exact Or.inl ⟨rfl, h.1 h3⟩
    | succ k =>
      right
      refine ⟨by omega, ?_⟩
      have hk' : k < ts.length := by simpa using hk
      rcases ih _ k hk' h.2 (by simpa using h3) with ⟨rfl, hb⟩ | ⟨h0, hn⟩
      · simpa using hb
      · obtain ⟨j, rfl⟩ : ∃ j, k = j + 1 := ⟨k - 1, by omega⟩
        simpa using hn

/-- Where the loop stands. -/
structure PI (T : List Tok) (R : Rd) (i s n : Nat) (f : Fl) : Prop where
  le : s ≤ i ∧ i ≤ T.length
  no3 : ∀ j (h : j < T.length), s ≤ j → j < i → T[j].kind ≠ 3
  at3 : ∀ (h : 0 < s) (h2 : s - 1 < T.length), T[s - 1].kind = 3
  go : ∃ k, (T.drop s).length ≤ k ∧ R = readOf (fileGo k f (n == 0) (T.drop s))
  len : f.tasks.length ≤ 64 ∧ f.ops.length ≤ 4096
  first : n = 0 → f.ops = []
  few : n ≤ s ∧ (n = 0 → s = 0)

theorem takeA_len {f : Fl} {l : List Tok} {b : Bool} (hl : f.tasks.length ≤ 64 ∧ f.ops.length ≤ 4096) (h : takeE f l b = 0) : (takeA f l).tasks.length ≤ 64 ∧ (takeA f l).ops.length ≤ 4096 := by
  cases l with
  | nil => exact hl
  | cons t ts =>
    unfold takeE at h
    unfold takeA
    simp only at h ⊢
    generalize refFm t.text (fourthF (t :: ts)) = m at *
    by_cases h1 : mayStand f m.part b = false
    · rw [if_pos h1] at h; cases h
    rw [if_neg h1] at h
    by_cases h2 : isFull f m.part = true
    · rw [if_pos h2] at h; cases h
    have h2' : isFull f m.part = false := by simpa using h2
    unfold isFull at h2'
    unfold mayStand at h1
    by_cases p1 : m.part = 1
    · rw [if_pos p1]; exact hl
    rw [if_neg p1]
    by_cases p2 : m.part = 2
    · rw [if_pos p2]
      refine ⟨?_, hl.2⟩
      have : f.tasks.length ≠ 64 := by intro e; simp [p2, e] at h2'
      simp
      omega
    · rw [if_neg p2]
      refine ⟨hl.1, ?_⟩
      have p3 : m.part = 3 := by
        rw [if_neg p1, if_neg p2] at h1
        by_cases p3 : m.part = 3
        · exact p3
        · rw [if_neg p3] at h1; exact absurd rfl h1
      have : f.ops.length ≠ 4096 := by intro e; simp [p3, e] at h2'
      simp
      omega

/-- An End: the line ahead of it. -/
theorem pi_end {T : List Tok} {R : Rd} {i s n : Nat} {f : Fl} (h : PI T R i s n f) (hT : ∀ t ∈ T, TokOkL t) (hE : EndsOk T true) (hL : LineEq T) (hi : i < T.length) (h3 : T[i].kind = 3) :
    s < i ∧ (∀ t ∈ (T.drop s).take (i - s), TokOkL t ∧ t.kind ≠ 3) ∧ (takeE f ((T.drop s).take (i - s)) (n == 0) ≠ 0 → R = ⟨noFile, T[i].line, takeE f ((T.drop s).take (i - s)) (n == 0)⟩) ∧
    (takeE f ((T.drop s).take (i - s)) (n == 0) = 0 → PI T R (i + 1) (i + 1) (n + 1) (takeA f ((T.drop s).take (i - s)))) := by
  have hle := h.le
  have hsi : s < i := by
    rcases Nat.lt_or_ge s i with h' | h'
    · exact h'
    · exfalso
      have : s = i := by omega
      subst this
      rcases ends_at T true s hi hE h3 with ⟨_, hb⟩ | ⟨h0, hn⟩
      · cases hb
      · exact hn (h.at3 h0 (by omega))
  have hdl : (T.drop s).length = T.length - s := by simp
  have hgd : ∀ j (hj : j < (T.drop s).length), (T.drop s)[j] = T[s + j]'(by rw [hdl] at hj; omega) := fun j hj => by simp
  have hend : endAt (T.drop s) = i - s := by
    refine endAt_is (by rw [hdl]; omega) ?_ ?_
    · rw [hgd (i - s) (by rw [hdl]; omega)]
      simpa [show s + (i - s) = i by omega] using h3
    · intro j hj
      rw [hgd j (by rw [hdl]; omega)]
      exact h.no3 (s + j) (by omega) (by omega) (by omega)
  have htok : ∀ t ∈ (T.drop s).take (i - s), TokOkL t ∧ t.kind ≠ 3 := by
    intro t ht
    obtain ⟨j, hj, rfl⟩ := List.getElem_of_mem ht
    have hj' : j < i - s := by simp at hj; omega
    rw [List.getElem_take]
    refine ⟨hT _ (List.mem_of_mem_drop (List.getElem_mem _)), ?_⟩
    rw [hgd j (by rw [hdl]; omega)]
    exact h.no3 (s + j) (by omega) (by omega) (by omega)
  have hline : (T.drop s).take (endAt (T.drop s) + 1) = (T.drop s).take (i - s) ++ [T[i]] := by
    rw [hend, List.take_succ_eq_append_getElem (by rw [hdl]; omega), hgd (i - s) (by rw [hdl]; omega)]
    simp [show s + (i - s) = i by omega]
  have hne : T.drop s ≠ [] := by intro e; have := congrArg List.length e; rw [hdl] at this; simp at this; omega
  have hEt : T[i].text = [] := by
    rcases hT T[i] (List.getElem_mem _) with ⟨hk, _⟩ | ⟨hk, _⟩ | ⟨_, ht⟩
    · rw [h3] at hk; cases hk
    · rw [h3] at hk; cases hk
    · exact ht
  obtain ⟨t, ts, hl⟩ : ∃ t ts, (T.drop s).take (i - s) = t :: ts := by
    cases hc : (T.drop s).take (i - s) with
    | nil =>
      have := congrArg List.length hc
      rw [List.length_take, hdl] at this
      simp at this
      omega
    | cons t ts => exact ⟨t, ts, rfl⟩
  have hti := take_is f (t := t) (ts := ts) (E := T[i]) (n == 0) (htok t (by rw [hl]; simp)) (fun x hx => htok x (by rw [hl]; simp [hx])) hEt
  rw [hl] at hline htok ⊢
  obtain ⟨k, hk, hR⟩ := h.go
  refine ⟨hsi, htok, fun hE0 => ?_, fun hE0 => ?_⟩
  · have hbad := fileGo_bad (n := k) (f := f) (b := (n == 0)) hne hk (by rw [hline]; show lineErr f (t :: (ts ++ [T[i]])) _ ≠ 0; rw [hti.1]; exact hE0)
    rw [hR, hbad, hline]
    show (⟨noFile, ((T.drop s).headD ⟨0, [], 0⟩).line, lineErr f (t :: (ts ++ [T[i]])) (n == 0)⟩ : Rd) = _
    rw [hti.1]
    have hls := line_same (T.drop s) (i - s) (by rw [hdl]; omega) (lineEq_drop T s hL) (fun j hj hlt => by
      rw [hgd j hj]
      exact h.no3 (s + j) (by rw [hdl] at hj; omega) (by omega) (by omega))
    rw [← hls, hgd (i - s) (by rw [hdl]; omega)]
    simp [show s + (i - s) = i by omega]
  · have hgood := fileGo_good (n := k) (f := f) (b := (n == 0)) hne hk (by rw [hline]; show lineErr f (t :: (ts ++ [T[i]])) _ = 0; rw [hti.1]; exact hE0)
    have hadd := hti.2 hE0
    rw [hline] at hgood
    have hadd' : lineAdd f (t :: ts ++ [T[i]]) = takeA f (t :: ts) := hadd
    rw [hadd', hend, List.drop_drop, show s + (i - s + 1) = i + 1 by omega] at hgood
    refine ⟨⟨Nat.le_refl _, by omega⟩, fun j _ h1 h2 => by omega, fun _ _ => by simpa using h3, ⟨k - 1, ?_, ?_⟩, takeA_len h.len hE0, fun h => by omega, by have := h.few; omega, fun h => by omega⟩
    · have : 0 < (T.drop s).length := List.length_pos_iff.2 hne
      simp only [List.length_drop] at hk this ⊢
      omega
    · rw [hR, hgood]
      rfl
theorem pi_next {T : List Tok} {R : Rd} {i s n : Nat} {f : Fl} (h : PI T R i s n f) (hi : i < T.length) (h3 : T[i].kind ≠ 3) : PI T R (i + 1) s n f :=
  ⟨⟨by have := h.le; omega, by omega⟩, fun j hj h1 h2 => by
    by_cases e : j = i
    · subst e; exact h3
    · exact h.no3 j hj h1 (by omega), h.at3, h.go, h.len, h.first, h.few⟩
theorem pi_done {T : List Tok} {R : Rd} {s n : Nat} {f : Fl} (h : PI T R T.length s n f) (hT : T ≠ []) (hc : closed T = true) : n ≠ 0 ∧ R = ⟨f, 0, 0⟩ := by
  have hlen : 0 < T.length := List.length_pos_iff.2 hT
  have hlast : T[T.length - 1].kind = 3 := by
    unfold closed at hc
    rw [List.getLast?_eq_getElem?, List.getElem?_eq_getElem (by omega)] at hc
    simpa using hc
  have hs : s = T.length := by
    rcases Nat.lt_or_ge s T.length with h' | h'
    · exact absurd hlast (h.no3 (T.length - 1) (by omega) (by omega) (by omega))
    · have := h.le; omega
  have hf := h.few
  refine ⟨fun hn => by have := hf.2 hn; omega, ?_⟩
  obtain ⟨k, _, hR⟩ := h.go
  rw [hR, hs, List.drop_length, fileGo_nil]
  rfl
theorem pi_start {T : List Tok} : PI T (readOf (fileGo T.length noFile true T)) 0 0 0 noFile :=
  ⟨⟨Nat.le_refl _, Nat.zero_le _⟩, fun j _ _ h => by omega, fun h => by omega, ⟨T.length, by simp, rfl⟩, ⟨by decide, by decide⟩, fun _ => rfl, Nat.le_refl _, fun _ => rfl⟩
end Go.Proofs.YtgjfhfjmdkhllaaDoor.M
namespace Go.Proofs.YtgjfhfjmdkhllaaDoor
open Go.RowKit
open M
set_option linter.unusedVariables false
set_option linter.unusedSimpArgs false

theorem own_mono {w : World} {B B' e size n : Nat} {v : Value} {xs : List Value} (h : w.ownsRow B e size v n xs) (hB : B' ≤ B) : w.ownsRow B' e size v n xs := by
  refine ⟨h.1, ?_⟩
  rcases h.2 with h2 | ⟨g, c, cur, e1, e2, e3⟩
  · exact Or.inl h2
  · exact Or.inr ⟨g, c, cur, e1, Nat.le_trans hB e2, e3⟩
/-- The end of a walk: what lies in the result's block is handed back. -/
theorem ret_file {Q : Ending → World → Prop} {tm : Array Value} {W : World} {r : Nat} {c0 c1 c2 c3 c4 c5 c6 c7 c8 c9 c10 c11 : Value} {L E : Int} (h : W.heap[r]? = some (.cells #[c0, c1, c2, c3, c4, c5, c6, c7, c8, c9, c10, c11] 33 (0, 0)))
    (hv : ∀ x ∈ [c0, c1, c2, c3, c4, c5, c6, c7, c8, c9, c10, c11], x.oneCell' = true) (h2 : tm.getD 2 undef = ptr r 0) (h3 : tm.getD 3 undef = .int .i64 L) (h4 : tm.getD 4 undef = .int .i64 E) (hq : Q (.returned (.tuple #[.agg #[c0, c1, c2, c3, c4, c5, c6, c7, c8, c9, c10, c11], .int .i64 L, .int .i64 E])) W) :
    bodyPost Tryd.prog Tryd.f11 Q Exit.ret { tmps := tm, defers := [] } W := by
  obtain ⟨z0, z1, z2, z3, z4, z5, z6, z7, z8, z9, z10, z11, _⟩ := cells12 h
  refine bodyPost_ret (v := .tuple #[.agg #[c0, c1, c2, c3, c4, c5, c6, c7, c8, c9, c10, c11], .int .i64 L, .int .i64 E]) ?_ rfl hq
  have k2 := h2
  have k3 := h3
  have k4 := h4
  rw [Array.getD_eq_getD_getElem?] at k2 k3 k4
  simp [results, Tryd.results11, go_sem, z0, z1, z2, z3, z4, z5, z6, z7, z8, z9, z10, z11, h2, h3, h4, k2, k3, k4]

set_option maxRecDepth 1000000 in
set_option maxHeartbeats 4000000 in
theorem refParse_bad (s : ByteArray) (bs : List UInt8) (hs : s.data.toList = bs) (hl : bs.length ≤ 4000) (w : World) (T : List Tok) (ln er : Nat) (hlx : lexF bs = (T, ln, er)) (he : er ≠ 0) :
    Calls Tryd.prog 11 #[.string s] w fun e w' => e = .returned (.tuple #[.agg #[.int .i64 0, .int .i64 0, .int .i64 0, .int .i64 0, .int .i64 0, .int .i64 0, .int .i64 0, .int .i64 0, .int .i64 0, .int .i64 0, .slice none 0 0, .slice none 0 0], .int .i64 ln, .int .i64 er]) ∧ Below w.heap.size w w' := by
  have kL0 := refLex_any s bs hs hl (w.alloc (.cells #[.int .i64 0, .int .i64 0, .int .i64 0, .int .i64 0, .int .i64 0, .int .i64 0, .int .i64 0, .int .i64 0, .int .i64 0, .int .i64 0, .slice none 0 0, .slice none 0 0] 33))
  have hfin : fin (run init bs) = (T, ln, er) := by rw [← hlx, lexF, if_neg (by omega)]
  rw [hfin] at kL0
  have hb0 : Below w.heap.size w (w.alloc (.cells #[.int .i64 0, .int .i64 0, .int .i64 0, .int .i64 0, .int .i64 0, .int .i64 0, .int .i64 0, .int .i64 0, .int .i64 0, .int .i64 0, .slice none 0 0, .slice none 0 0] 33)) := (Below.refl _ _).alloc (Nat.le_refl _) _
  have kL : Calls Tryd.prog 20 #[.string s] (w.alloc (.cells #[.int .i64 0, .int .i64 0, .int .i64 0, .int .i64 0, .int .i64 0, .int .i64 0, .int .i64 0, .int .i64 0, .int .i64 0, .int .i64 0, .slice none 0 0, .slice none 0 0] 33)) fun e w1 => ∃ v, e = .returned (.tuple #[v, .int .i64 ln, .int .i64 er]) ∧ Hid (Below w.heap.size w w1) ∧ Hid (w1.heap[w.heap.size]? = some (.cells #[.int .i64 0, .int .i64 0, .int .i64 0, .int .i64 0, .int .i64 0, .int .i64 0, .int .i64 0, .int .i64 0, .int .i64 0, .int .i64 0, .slice none 0 0, .slice none 0 0] 33 (0, 0))) := by
    refine kL0.mono ?_
    rintro e w1 ⟨v, rfl, _, hb⟩
    exact ⟨v, rfl, hb0.trans (hb.mono hb0.size), by show _ = _; rw [hb.block _ (by simp)]; exact heap_alloc_new w _⟩
  have he1 : ((er : Int) != 0) = true := by simp; omega
  have he2 : ((er : Int) == 0) = false := by simp; omega
  clear kL0 hlx hs hl hb0 hfin
  go_enter Tryd.func11, Tryd.ntmps11
  go_wp2_with (go_at_call 20; refine kL.mono ?_; rintro e w1 ⟨v, rfl, hb1, hg1⟩; obtain ⟨a0, a1, a2, a3, a4, a5, a6, a7, a8, a9, a10, a11, fz⟩ := cells12 hg1.out)
  change bodyPost _ _ _ _ _ (put12 w1 w.heap.size (.int .i64 0) (.int .i64 0) (.int .i64 0) (.int .i64 0) (.int .i64 0) (.int .i64 0) (.int .i64 0) (.int .i64 0) (.int .i64 0) (.int .i64 0) (.slice none 0 0) (.slice none 0 0))
  exact ret_file (put12_block hg1.out (.int .i64 0) (.int .i64 0) (.int .i64 0) (.int .i64 0) (.int .i64 0) (.int .i64 0) (.int .i64 0) (.int .i64 0) (.int .i64 0) (.int .i64 0) (.slice none 0 0) (.slice none 0 0)) (by simp [Value.oneCell']) rfl rfl rfl ⟨rfl, (put12_only w1 w.heap.size (.int .i64 0) (.int .i64 0) (.int .i64 0) (.int .i64 0) (.int .i64 0) (.int .i64 0) (.int .i64 0) (.int .i64 0) (.int .i64 0) (.int .i64 0) (.slice none 0 0) (.slice none 0 0)).below hb1.out (Nat.le_refl _)⟩

set_option maxRecDepth 1000000 in
set_option maxHeartbeats 4000000 in
theorem refParse_nil (s : ByteArray) (bs : List UInt8) (hs : s.data.toList = bs) (hl : bs.length ≤ 4000) (w : World) (T : List Tok) (ln er : Nat) (hlx : lexF bs = (T, ln, er)) (he : er = 0) (hT : T = []) :
    Calls Tryd.prog 11 #[.string s] w fun e w' => e = .returned (.tuple #[.agg #[.int .i64 0, .int .i64 0, .int .i64 0, .int .i64 0, .int .i64 0, .int .i64 0, .int .i64 0, .int .i64 0, .int .i64 0, .int .i64 0, .slice none 0 0, .slice none 0 0], .int .i64 0, .int .i64 2]) ∧ Below w.heap.size w w' := by
  have kL0 := refLex_any s bs hs hl (w.alloc (.cells #[.int .i64 0, .int .i64 0, .int .i64 0, .int .i64 0, .int .i64 0, .int .i64 0, .int .i64 0, .int .i64 0, .int .i64 0, .int .i64 0, .slice none 0 0, .slice none 0 0] 33))
  have hfin : fin (run init bs) = (T, ln, er) := by rw [← hlx, lexF, if_neg (by omega)]
  rw [hfin] at kL0
  subst he hT
  have hb0 : Below w.heap.size w (w.alloc (.cells #[.int .i64 0, .int .i64 0, .int .i64 0, .int .i64 0, .int .i64 0, .int .i64 0, .int .i64 0, .int .i64 0, .int .i64 0, .int .i64 0, .slice none 0 0, .slice none 0 0] 33)) := (Below.refl _ _).alloc (Nat.le_refl _) _
  have kL : Calls Tryd.prog 20 #[.string s] (w.alloc (.cells #[.int .i64 0, .int .i64 0, .int .i64 0, .int .i64 0, .int .i64 0, .int .i64 0, .int .i64 0, .int .i64 0, .int .i64 0, .int .i64 0, .slice none 0 0, .slice none 0 0] 33)) fun e w1 => ∃ a c, e = .returned (.tuple #[.slice a 0 c, .int .i64 ln, .int .i64 0]) ∧ Hid (Below w.heap.size w w1) ∧ Hid (w1.heap[w.heap.size]? = some (.cells #[.int .i64 0, .int .i64 0, .int .i64 0, .int .i64 0, .int .i64 0, .int .i64 0, .int .i64 0, .int .i64 0, .int .i64 0, .int .i64 0, .slice none 0 0, .slice none 0 0] 33 (0, 0))) := by
    refine kL0.mono ?_
    rintro e w1 ⟨v, rfl, ho, hb⟩
    obtain ⟨a, c, rfl⟩ := own_slice ho
    exact ⟨a, c, rfl, hb0.trans (hb.mono hb0.size), by show _ = _; rw [hb.block _ (by simp)]; exact heap_alloc_new w _⟩
  clear kL0 hlx hs hl hb0 hfin
  go_enter Tryd.func11, Tryd.ntmps11
  go_wp2_with (go_at_call 20; refine kL.mono ?_; rintro e w1 ⟨a, c, rfl, hb1, hg1⟩)
  clear kL
  go_loopw [10, 11] (fun ln i W => ln = .int .i64 0 ∧ i = .int .i64 0 ∧ Hid (Below w1.heap.size w1 W)) (fun _ _ _ => 0)
  case atStart => exact ⟨rfl, rfl, (Below.refl _ _).alloc (Nat.le_refl _) _⟩
  case round =>
    obtain ⟨rfl, rfl, hBr⟩ := hrel
    have hgr : wr.heap[w.heap.size]? = some (.cells #[.int .i64 0, .int .i64 0, .int .i64 0, .int .i64 0, .int .i64 0, .int .i64 0, .int .i64 0, .int .i64 0, .int .i64 0, .int .i64 0, .slice none 0 0, .slice none 0 0] 33 (0, 0)) := by rw [hBr.out.block _ (block_lt hg1.out)]; exact hg1.out
    have HG := hide_it hgr
    obtain ⟨a0, a1, a2, a3, a4, a5, a6, a7, a8, a9, a10, a11, fz⟩ := cells12 hgr
    clear hgr
    go_wp2
    change bodyPost _ _ _ _ _ (put12 wr w.heap.size (.int .i64 0) (.int .i64 0) (.int .i64 0) (.int .i64 0) (.int .i64 0) (.int .i64 0) (.int .i64 0) (.int .i64 0) (.int .i64 0) (.int .i64 0) (.slice none 0 0) (.slice none 0 0))
    exact ret_file (put12_block HG.out (.int .i64 0) (.int .i64 0) (.int .i64 0) (.int .i64 0) (.int .i64 0) (.int .i64 0) (.int .i64 0) (.int .i64 0) (.int .i64 0) (.int .i64 0) (.slice none 0 0) (.slice none 0 0)) (by simp [Value.oneCell']) rfl rfl rfl ⟨rfl, (put12_only wr w.heap.size (.int .i64 0) (.int .i64 0) (.int .i64 0) (.int .i64 0) (.int .i64 0) (.int .i64 0) (.int .i64 0) (.int .i64 0) (.int .i64 0) (.int .i64 0) (.slice none 0 0) (.slice none 0 0)).below (hb1.out.trans (hBr.out.mono hb1.out.size)) (Nat.le_refl _)⟩
end Go.Proofs.YtgjfhfjmdkhllaaDoor
namespace Go.Proofs.YtgjfhfjmdkhllaaDoor
open Go.RowKit
open M
set_option linter.unusedVariables false
set_option linter.unusedSimpArgs false

/-- Where the loop stands, in memory. -/
structure LP (w2 : World) (g : Nat) (T : List Tok) (R : Rd) (i s n : Nat) (f : Fl) (W : World) : Prop where
  pi : PI T R i s n f
  file : ∃ vt vo, FileR W g (g + 1) f vt vo
  but : But g (g + 1) w2 W
theorem drew_block {W : World} {r : Nat} {x : Option Obj} (h : W.heap[r]? = x) : W.drew.heap[r]? = x := h
theorem But.tat {g B : Nat} {w w' : World} {b o : Nat} {ts : List Tok} (h : But g B w w') (ht : TAt w b o ts) (hb : b < B) (hg : b ≠ g) : TAt w' b o ts := by
  intro i hi
  obtain ⟨h0, h1, h2⟩ := ht i hi
  exact ⟨by rw [h.cell (p := ⟨b, _, none⟩) hb hg]; exact h0, by rw [h.cell (p := ⟨b, _, none⟩) hb hg]; exact h1, by rw [h.cell (p := ⟨b, _, none⟩) hb hg]; exact h2⟩

set_option maxRecDepth 1000000 in
set_option maxHeartbeats 8000000 in
theorem refParse_some (s : ByteArray) (bs : List UInt8) (hs : s.data.toList = bs) (hl : bs.length ≤ 4000) (w : World) (T : List Tok) (ln er : Nat) (hlx : lexF bs = (T, ln, er)) (he : er = 0) (hT : T ≠ []) (R : Rd) (hR : R = readOf (fileGo T.length noFile true T)) :
    Calls Tryd.prog 11 #[.string s] w fun e w' => ∃ x0 x1 x2 x3 x4 x5 x6 x7 x8 x9 vt vo, R.file.cfg = [x0, x1, x2, x3, x4, x5, x6, x7, x8, x9] ∧ e = .returned (.tuple #[.agg #[.int .i64 x0, .int .i64 x1, .int .i64 x2, .int .i64 x3, .int .i64 x4, .int .i64 x5, .int .i64 x6, .int .i64 x7, .int .i64 x8, .int .i64 x9, vt, vo], .int .i64 R.line, .int .i64 R.err]) ∧ Back w w' R.file vt vo := by
  have kL0 := refLex_any s bs hs hl (w.alloc (.cells #[.int .i64 0, .int .i64 0, .int .i64 0, .int .i64 0, .int .i64 0, .int .i64 0, .int .i64 0, .int .i64 0, .int .i64 0, .int .i64 0, .slice none 0 0, .slice none 0 0] 33))
  have hfin : fin (run init bs) = (T, ln, er) := by rw [← hlx, lexF, if_neg (by omega)]
  rw [hfin] at kL0
  subst he
  obtain ⟨tk1, _, tk3, tk4, _⟩ := lex_good hlx
  have tk5 := lex_lines hlx
  obtain ⟨hk1, _, hk3⟩ := lexF_toks bs
  rw [hlx] at hk1 hk3
  have htx : ∀ t ∈ T, t.text.length ≤ 65536 := fun t ht => (hk1 t ht).2
  have hpos : 0 < T.length := List.length_pos_iff.2 hT
  have hn0 : T.length ≤ 65537 := hk3
  have hb0 : Below w.heap.size w (w.alloc (.cells #[.int .i64 0, .int .i64 0, .int .i64 0, .int .i64 0, .int .i64 0, .int .i64 0, .int .i64 0, .int .i64 0, .int .i64 0, .int .i64 0, .slice none 0 0, .slice none 0 0] 33)) := (Below.refl _ _).alloc (Nat.le_refl _) _
  have kL : Calls Tryd.prog 20 #[.string s] (w.alloc (.cells #[.int .i64 0, .int .i64 0, .int .i64 0, .int .i64 0, .int .i64 0, .int .i64 0, .int .i64 0, .int .i64 0, .int .i64 0, .int .i64 0, .slice none 0 0, .slice none 0 0] 33)) fun e w1 => ∃ vg vc, e = .returned (.tuple #[.slice (some ⟨vg, 0, none⟩) T.length vc, .int .i64 ln, .int .i64 0]) ∧ Hid (TAt w1 vg 0 T) ∧ vg < w1.heap.size ∧ T.length ≤ vc ∧ vc ≤ 9223372036854775807 ∧ Hid (Below w.heap.size w w1) ∧ Hid (w1.heap[w.heap.size]? = some (.cells #[.int .i64 0, .int .i64 0, .int .i64 0, .int .i64 0, .int .i64 0, .int .i64 0, .int .i64 0, .int .i64 0, .int .i64 0, .int .i64 0, .slice none 0 0, .slice none 0 0] 33 (0, 0))) ∧ w.heap.size < w1.heap.size ∧ w.heap.size < vg := by
    refine kL0.mono ?_
    rintro e w1 ⟨v, rfl, ho, hb⟩
    obtain ⟨vg, vc, rfl, h1, h2⟩ := ho.form hpos
    simp at h1
    have hvc : T.length ≤ vc ∧ vc ≤ maxLen := by
      rcases ho.2 with ⟨hv, _⟩ | ⟨g', c', cur, hv, _, h3, h4, h5, _⟩
      · cases hv
      · cases hv; exact ⟨h4, h5⟩
    have hsz := hb.size
    simp at hsz
    refine ⟨vg, vc, rfl, ?_, h2, hvc.1, hvc.2, hb0.trans (hb.mono hb0.size), by show _ = _; rw [hb.block _ (by simp)]; exact heap_alloc_new w _, by omega, by omega⟩
    intro i hi
    obtain ⟨q1, q2, q3⟩ := cells_at T i hi
    have r1 := ho.cells (g := vg) rfl _ _ q1
    have r2 := ho.cells (g := vg) rfl _ _ q2
    have r3 := ho.cells (g := vg) rfl _ _ q3
    rw [Addr.add_lit] at r1 r2 r3
    exact ⟨r1, by rw [Nat.add_assoc]; exact r2, by rw [Nat.add_assoc]; exact r3⟩
  have HT1 := hide_it tk1
  have HT3 := hide_it tk3
  have HT4 := hide_it tk4
  have HT5 := hide_it tk5
  have HTX := hide_it htx
  have HR := hide_it hR
  have HNE := hide_it hT
  obtain ⟨NN, hNN⟩ : ∃ n, T.length = n := ⟨_, rfl⟩
  have HN := hide_it hNN
  rw [hNN] at kL hpos hn0
  clear kL0 hlx hs hl hb0 hfin tk1 tk3 tk4 tk5 htx hR hT hNN hk1 hk3
  go_enter Tryd.func11, Tryd.ntmps11
  go_wp2_with (go_at_call 20; refine kL.mono ?_; rintro e w1 ⟨vg, vc, rfl, hTA, hvg, hc1, hc2, hb1, hg1, hsz1, hvr⟩)
  clear kL
  have hvr1 : ¬ vg = w.heap.size := by omega
  have hvr2 : ¬ w.heap.size = vg := by omega
  obtain ⟨w2, hw2⟩ : ∃ W, W = w1.alloc (.cells #[.int .i64 0, .int .i64 0, .int .i64 0, .int .i64 0, .int .i64 0, .int .i64 0, .int .i64 0, .int .i64 0, .int .i64 0, .int .i64 0, .slice none 0 0, .slice none 0 0] 33) := ⟨_, rfl⟩
  rw [← hw2]
  have hb12 : Hid (Below w1.heap.size w1 w2) := by rw [hw2]; exact (Below.refl _ _).alloc (Nat.le_refl _) _
  have HS2 : Hid (w2.heap.size = w1.heap.size + 1) := by rw [hw2]; show _ = _; simp
  have HF2 : Hid (∃ vt vo, FileR w2 w1.heap.size (w1.heap.size + 1) noFile vt vo) := by
    rw [hw2]
    exact ⟨.slice none 0 0, .slice none 0 0, heap_alloc_new w1 _, World.ownsRow_nil _ _ _ _, World.ownsRow_nil _ _ _ _, rfl⟩
  clear hw2
  generalize hgg : w1.heap.size = g at *
  go_loopw [9, 10, 11] (fun fr lq i W => ∃ kf kn ki f, fr = .int .i64 ((kf : Nat) : Int) ∧ lq = .int .i64 ((kn : Nat) : Int) ∧ i = .int .i64 ((ki : Nat) : Int) ∧ ki ≤ NN ∧ kf ≤ ki ∧ kn ≤ kf ∧ Hid (LP w2 g T R ki kf kn f W)) (fun _ _ i _ => NN - (intOf i).toNat)
  case atStart => exact ⟨0, 0, 0, noFile, rfl, rfl, rfl, Nat.zero_le _, Nat.le_refl _, Nat.le_refl _, ⟨by rw [HR.out]; exact pi_start, HF2.out, But.refl _ _ _⟩⟩
  case round =>
    obtain ⟨kf, kn, ki, f, rfl, rfl, rfl, hki, hkf, hkn, hLP⟩ := hrel
    have hTA2 : TAt wr vg 0 T := hLP.out.but.tat (hTA.out.below hb12.out (by omega)) (by omega) (by omega)
    have hblr : wr.heap[w.heap.size]? = some (.cells #[.int .i64 0, .int .i64 0, .int .i64 0, .int .i64 0, .int .i64 0, .int .i64 0, .int .i64 0, .int .i64 0, .int .i64 0, .int .i64 0, .slice none 0 0, .slice none 0 0] 33 (0, 0)) := by
      rw [hLP.out.but.block _ (by omega) (by omega), hb12.out.block _ (by omega)]; exact hg1.out
    have HBLR := hide_it hblr
    have hbwr : Hid (Below w.heap.size w wr) := hb1.out.trans ((hb12.out.mono (by omega)).trans (hLP.out.but.below (by omega) (by omega)))
    by_cases hlt : ki < NN
    · have hlx : ki < T.length := by rw [HN.out]; exact hlt
      obtain ⟨c0, c1, c2⟩ := hTA2 ki hlx
      rw [Nat.zero_add] at c0 c1 c2
      have hkp : (0 : Int) ≤ (ki : Int) := by omega
      by_cases hk3 : T[ki].kind = 3
      · obtain ⟨hsi, htok, hbad, hgood⟩ := pi_end hLP.out.pi HT1.out HT3.out HT5.out hlx hk3
        obtain ⟨vt0, vo0, hf0⟩ := hLP.out.file
        obtain ⟨l, hl⟩ : ∃ l, (T.drop kf).take (ki - kf) = l := ⟨_, rfl⟩
        rw [hl] at htok hbad hgood
        have hll : l.length = ki - kf := by rw [← hl, List.length_take, List.length_drop]; omega
        have hTl : TAt wr vg (kf * 3) l := by
          have := (hTA2.drop kf).take (ki - kf)
          rw [hl, Nat.zero_add] at this
          exact this
        have hltx : ∀ t ∈ l, t.text.length ≤ 65536 := fun t ht => HTX.out t (by rw [← hl] at ht; exact List.mem_of_mem_drop (List.mem_of_mem_take ht))
        obtain ⟨E, hE⟩ : ∃ E, takeE f l (kn == 0) = E := ⟨_, rfl⟩
        have kT : ∀ (o' n' c' : Nat), o' = kf * 3 → n' = ki - kf → c' = vc - kf → Calls Tryd.prog 21 #[ptr g 0, .slice (some ⟨vg, o', none⟩) n' c', .int .i64 (kn : Int)] wr fun e w' => e = .returned (.int .i64 E) ∧ Hid (But g (g + 1) wr w' ∧ (E = 0 → ∃ vt' vo', FileR w' g (g + 1) (takeA f l) vt' vo')) := by
          rintro o' n' c' rfl rfl rfl
          have hB2 : g + 1 ≤ wr.heap.size := by have := hLP.out.but.size; rw [HS2.out] at this; exact this
          have := take_any g (g + 1) vg (kf * 3) (vc - kf) kn f vt0 vo0 l wr hf0 (by omega) hB2 (by omega) (by unfold maxLen; omega) (by omega) hTl (by omega) htok hltx hLP.out.pi.len.1 hLP.out.pi.len.2 hLP.out.pi.first
          rw [hll, hE] at this
          exact this.mono (fun e w' h => ⟨h.1, h.2⟩)
        rw [hE] at hbad hgood
        have HBAD := hide_it hbad
        have HGOOD := hide_it hgood
        rw [hk3] at c0
        have hcc : (kf : Int) ≤ (ki : Int) := by omega
        have hcv : (ki : Int) ≤ (vc : Int) := by omega
        clear hbad hgood hE htok hl hll hTl hltx hf0 hTA2 hblr
        generalize T[ki].line = LN at *
        by_cases hE0 : E = 0
        · subst hE0
          have kT' : ∀ (o' n' c' : Nat), o' = kf * 3 → n' = ki - kf → c' = vc - kf → Calls Tryd.prog 21 #[ptr g 0, .slice (some ⟨vg, o', none⟩) n' c', .int .i64 (kn : Int)] wr fun e w' => e = .returned (.int .i64 0) ∧ _ := kT
          go_wp2_with (go_at_call 21; refine (kT _ _ _ (by omega) (by omega) (by omega)).mono ?_; rintro e w3 ⟨rfl, h21⟩)
          go_roundw
          case rel => exact ⟨ki + 1, kn + 1, ki + 1, takeA f l, by go_num, by go_num, by go_num, by omega, by omega, by omega, ⟨(by first | exact HGOOD.out rfl | exact HGOOD.out trivial), (by first | exact h21.out.2 rfl | exact h21.out.2 trivial), hLP.out.but.trans h21.out.1⟩⟩
          case measure => simp [intOf]; omega
        · have hE1 : (E != 0) = true := by simp [hE0]
          have hE2 : (E == 0) = false := by simp [hE0]
          go_wp2_with (go_at_call 21; refine (kT _ _ _ (by omega) (by omega) (by omega)).mono ?_; rintro e w3 ⟨rfl, h21⟩)
          have hb3 : Hid (Below w.heap.size w w3) := hbwr.out.trans (h21.out.1.below (by omega) (by omega))
          have hbl3 : w3.heap[w.heap.size]? = some (.cells #[.int .i64 0, .int .i64 0, .int .i64 0, .int .i64 0, .int .i64 0, .int .i64 0, .int .i64 0, .int .i64 0, .int .i64 0, .int .i64 0, .slice none 0 0, .slice none 0 0] 33 (0, 0)) := by rw [h21.out.1.block _ (by omega) (by omega)]; exact HBLR.out
          have HB3 := hide_it hbl3
          obtain ⟨a0, a1, a2, a3, a4, a5, a6, a7, a8, a9, a10, a11, fz⟩ := cells12 hbl3
          have d2 : w3.cell? ⟨vg, ki * 3 + 2, none⟩ = some (.int .i64 (LN : Int)) := by rw [h21.out.1.cell (p := ⟨vg, _, none⟩) (by show vg < g + 1; omega) (by show vg ≠ g; omega)]; exact c2
          clear hbl3 kT c0 c1 c2
          go_region_held3 (fun W => W.cell? ⟨vg, ki * 3 + 2, none⟩ = some (.int .i64 (LN : Int))) (go_keep) (fail)
          all_goals go_wp2
          all_goals (
            change bodyPost _ _ _ _ _ (put12 w3 w.heap.size (.int .i64 0) (.int .i64 0) (.int .i64 0) (.int .i64 0) (.int .i64 0) (.int .i64 0) (.int .i64 0) (.int .i64 0) (.int .i64 0) (.int .i64 0) (.slice none 0 0) (.slice none 0 0)).drew
            have hbp : Below w.heap.size w (put12 w3 w.heap.size (.int .i64 0) (.int .i64 0) (.int .i64 0) (.int .i64 0) (.int .i64 0) (.int .i64 0) (.int .i64 0) (.int .i64 0) (.int .i64 0) (.int .i64 0) (.slice none 0 0) (.slice none 0 0)).drew := ((put12_only w3 w.heap.size (.int .i64 0) (.int .i64 0) (.int .i64 0) (.int .i64 0) (.int .i64 0) (.int .i64 0) (.int .i64 0) (.int .i64 0) (.int .i64 0) (.int .i64 0) (.slice none 0 0) (.slice none 0 0)).below hb3.out (Nat.le_refl _)).drew
            have hpb : (put12 w3 w.heap.size (.int .i64 0) (.int .i64 0) (.int .i64 0) (.int .i64 0) (.int .i64 0) (.int .i64 0) (.int .i64 0) (.int .i64 0) (.int .i64 0) (.int .i64 0) (.slice none 0 0) (.slice none 0 0)).drew.heap[w.heap.size]? = some (.cells #[.int .i64 0, .int .i64 0, .int .i64 0, .int .i64 0, .int .i64 0, .int .i64 0, .int .i64 0, .int .i64 0, .int .i64 0, .int .i64 0, .slice none 0 0, .slice none 0 0] 33 (0, 0)) := drew_block (put12_block HB3.out (.int .i64 0) (.int .i64 0) (.int .i64 0) (.int .i64 0) (.int .i64 0) (.int .i64 0) (.int .i64 0) (.int .i64 0) (.int .i64 0) (.int .i64 0) (.slice none 0 0) (.slice none 0 0))
            generalize (put12 w3 w.heap.size (.int .i64 0) (.int .i64 0) (.int .i64 0) (.int .i64 0) (.int .i64 0) (.int .i64 0) (.int .i64 0) (.int .i64 0) (.int .i64 0) (.int .i64 0) (.slice none 0 0) (.slice none 0 0)).drew = W9 at *
            have hRb := HBAD.out hE0
            refine ret_file hpb (by simp [Value.oneCell']) rfl rfl rfl ⟨0, 0, 0, 0, 0, 0, 0, 0, 0, 0, .slice none 0 0, .slice none 0 0, ?_, ?_, ?_⟩
            · rw [hRb]; rfl
            · rw [hRb]
            · rw [hRb]
              exact ⟨World.ownsRow_nil _ _ _ _, World.ownsRow_nil _ _ _ _, rfl, hbp⟩)
      · have hk4 : ((T[ki].kind : Int) != 3) = true := by simp; omega
        have hk5 : ((T[ki].kind : Int) == 3) = false := by simp; omega
        have HPI := hide_it (pi_next hLP.out.pi hlx hk3)
        clear hTA2 hblr
        generalize T[ki].kind = KK at *
        go_wp2
        go_roundw
        case rel => exact ⟨kf, kn, ki + 1, f, rfl, rfl, by go_num, by omega, by omega, by omega, ⟨HPI.out, hLP.out.file, hLP.out.but⟩⟩
        case measure => simp [intOf]; omega
    · have hki2 : ki = T.length := by rw [HN.out]; omega
      have hdone := pi_done (hki2 ▸ hLP.out.pi) HNE.out HT4.out
      obtain ⟨hn, hRR⟩ := hdone
      have hz1 : ((kn : Int) == 0) = false := by simp; omega
      obtain ⟨vt, vo, hf0⟩ := hLP.out.file
      obtain ⟨x0, x1, x2, x3, x4, x5, x6, x7, x8, x9, hx⟩ := len_10 hf0.cfg
      obtain ⟨ta, tc, rfl⟩ := own_slice hf0.ts
      obtain ⟨oa, oc, rfl⟩ := own_slice hf0.os
      have hblg : wr.heap[g]? = some (.cells #[.int .i64 x0, .int .i64 x1, .int .i64 x2, .int .i64 x3, .int .i64 x4, .int .i64 x5, .int .i64 x6, .int .i64 x7, .int .i64 x8, .int .i64 x9, .slice ta f.tasks.length tc, .slice oa f.ops.length oc] 33 (0, 0)) := by
        rw [hf0.blk]
        unfold fileA
        rw [hx]
        rfl
      obtain ⟨a0, a1, a2, a3, a4, a5, a6, a7, a8, a9, a10, a11, fz⟩ := cells12 hblr
      obtain ⟨b0, b1, b2, b3, b4, b5, b6, b7, b8, b9, b10, b11, fg⟩ := cells12 hblg
      have HF0 := hide_it hf0
      have HX := hide_it hx
      have HRR := hide_it hRR
      clear hf0 hx hRR hblg hblr hTA2 hki2
      generalize f.tasks.length = nt at *
      generalize f.ops.length = no at *
      go_wp2
      change bodyPost _ _ _ _ _ (put12 wr w.heap.size (.int .i64 x0) (.int .i64 x1) (.int .i64 x2) (.int .i64 x3) (.int .i64 x4) (.int .i64 x5) (.int .i64 x6) (.int .i64 x7) (.int .i64 x8) (.int .i64 x9) (.slice ta nt tc) (.slice oa no oc))
      have hon := put12_only wr w.heap.size (.int .i64 x0) (.int .i64 x1) (.int .i64 x2) (.int .i64 x3) (.int .i64 x4) (.int .i64 x5) (.int .i64 x6) (.int .i64 x7) (.int .i64 x8) (.int .i64 x9) (.slice ta nt tc) (.slice oa no oc)
      refine ret_file (put12_block HBLR.out (.int .i64 x0) (.int .i64 x1) (.int .i64 x2) (.int .i64 x3) (.int .i64 x4) (.int .i64 x5) (.int .i64 x6) (.int .i64 x7) (.int .i64 x8) (.int .i64 x9) (.slice ta nt tc) (.slice oa no oc)) (by simp [Value.oneCell']) rfl rfl rfl ⟨x0, x1, x2, x3, x4, x5, x6, x7, x8, x9, .slice ta nt tc, .slice oa no oc, ?_, ?_, ?_⟩
      · rw [HRR.out]; exact HX.out
      · rw [HRR.out]; rfl
      · rw [HRR.out]
        exact ⟨own_mono (HF0.out.ts.kept (row := some w.heap.size) hon.grown (.inr (own_ne HF0.out.ts HBLR.out (by decide)))) (by omega), own_mono (HF0.out.os.kept (row := some w.heap.size) hon.grown (.inr (own_ne HF0.out.os HBLR.out (by decide)))) (by omega), HF0.out.cfg, hon.below hbwr.out (Nat.le_refl _)⟩
end Go.Proofs.YtgjfhfjmdkhllaaDoor
