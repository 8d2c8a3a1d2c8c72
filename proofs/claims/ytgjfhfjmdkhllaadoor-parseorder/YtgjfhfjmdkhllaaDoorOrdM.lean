/- Lines that may not stand where they do, behind or ahead of a file's text. Plain mathematics. -/
import Derived.Test.YtgjfhfjmdkhllaaDoorBacM
namespace Go.Proofs.YtgjfhfjmdkhllaaDoor.M
set_option linter.unusedSimpArgs false
set_option linter.unusedVariables false
open Go.Proofs.YtgjfhfjmdkhllaaDoor

def tickL : List UInt8 := [116, 105, 99, 107, 10]
def taskL : List UInt8 := [116, 105, 99, 107, 10, 116, 97, 115, 107, 32, 49, 32, 49, 10]
def whatL : List UInt8 := [10, 10, 119, 104, 97, 116, 10]
def tickR : List Tok := [⟨1, [116, 105, 99, 107], 1⟩, ⟨3, [], 1⟩]
def taskR : List Tok := [⟨1, [116, 97, 115, 107], 2⟩, ⟨2, [49], 2⟩, ⟨2, [49], 2⟩, ⟨3, [], 2⟩]
def whatR : List Tok := [⟨1, [119, 104, 97, 116], 3⟩, ⟨3, [], 3⟩]

theorem order_tick {f : Fl} (h : Gd f) (hl : (tickL ++ fileB f).length ≤ 65536) : parseF (tickL ++ fileB f) = ⟨noFile, 1, 2⟩ := by
  have h1 : run init (tickL ++ fileB f) = .ok 0 [] (tickR ++ (fileT f).map (shift 1)) (2 + f.tasks.length + f.ops.length + 1) := by
    rw [run_app]
    have e : run init tickL = lift tickR 1 init := by rfl
    rw [e, run_lift rfl, run_file h]
    rfl
  have h2 : lexF (tickL ++ fileB f) = (tickR ++ (fileT f).map (shift 1), 0, 0) := by
    unfold lexF
    rw [if_neg (by omega), h1]
    show (endLine (flush 0 [] _ _) _, 0, 0) = _
    have : flush 0 [] (tickR ++ (fileT f).map (shift 1)) (2 + f.tasks.length + f.ops.length + 1) = tickR ++ (fileT f).map (shift 1) := by unfold flush; rw [if_neg (by omega)]
    rw [this]
    unfold endLine
    rw [closed_app rfl, if_pos (closed_file f)]
  have hE : endAt (tickR ++ (fileT f).map (shift 1)) = 1 := endAt_app [⟨1, [116, 105, 99, 107], 1⟩] ⟨3, [], 1⟩ _ (by simp) rfl
  unfold parseF
  rw [h2, if_pos rfl, if_neg (by simp [tickR]), fileGo_bad (by simp [tickR]) (Nat.le_refl _)]
  · rw [hE]
    rfl
  · rw [hE]
    show lineErr noFile tickR true ≠ 0
    decide +kernel

theorem order_head {f : Fl} (h : Gd f) (ht : f.tasks.length ≤ 64) (ho : f.ops.length ≤ 4096) (hl : (fileB f ++ headL).length ≤ 65536) : parseF (fileB f ++ headL) = ⟨noFile, 1 + (1 + f.tasks.length + f.ops.length), 2⟩ := by
  generalize hd : 1 + f.tasks.length + f.ops.length = d
  refine (parse_tail h ht ho headL hl cfgToks 2 (by kernel_rfl) (by kernel_rfl) (.error (1 + d, 2)) ?_).trans rfl
  rw [hd]
  intro n hn
  have hE : endAt (cfgToks.map (shift d)) = 21 := by rfl
  have htk : (cfgToks.map (shift d)).take (21 + 1) = cfgToks.map (shift d) := by rfl
  have hp : (near (cfgToks.map (shift d))).m.part = 1 := by rfl
  have he : lineErr f (cfgToks.map (shift d)) false = 2 := by
    unfold lineErr
    rw [hp]
    rfl
  rw [fileGo_bad (by simp [cfgToks]) hn (by rw [hE, htk, he]; decide), hE, htk, he]
  rfl
theorem order_task {f : Fl} (h : Gd f) (ht : f.tasks.length ≤ 64) (ho : f.ops.length < 4096) (hl : (fileB f ++ taskL).length ≤ 65536) : parseF (fileB f ++ taskL) = ⟨noFile, 2 + (1 + f.tasks.length + f.ops.length), 2⟩ := by
  generalize hd : 1 + f.tasks.length + f.ops.length = d
  refine (parse_tail h ht (by omega) taskL hl (tickR ++ taskR) 3 (by kernel_rfl) (by kernel_rfl) (.error (2 + d, 2)) ?_).trans rfl
  rw [hd]
  intro n hn
  have hE : endAt ((tickR ++ taskR).map (shift d)) = 1 := by rfl
  have htk : ((tickR ++ taskR).map (shift d)).take (1 + 1) = tickR.map (shift d) := by rfl
  have hdr : ((tickR ++ taskR).map (shift d)).drop (1 + 1) = taskR.map (shift d) := by rfl
  have hp : (near (tickR.map (shift d))).m.part = 3 := by rfl
  have hq : (near (tickR.map (shift d))).err = 0 := by rfl
  have he : lineErr f (tickR.map (shift d)) false = 0 := by
    unfold lineErr mayStand isFull
    rw [hp, hq]
    simp
    omega
  have hlen : ((tickR ++ taskR).map (shift d)).length = 6 := by rfl
  rw [hlen] at hn
  rw [fileGo_good (by simp [tickR]) (by rw [hlen]; omega) (by rw [hE, htk]; exact he), hE, htk, hdr]
  have ha : ∃ g : Fl, lineAdd f (tickR.map (shift d)) = g ∧ g.ops.isEmpty = false := by
    refine ⟨_, rfl, ?_⟩
    unfold lineAdd
    rw [hp, if_neg (by decide), if_neg (by decide)]
    simp
  obtain ⟨g, hg, hgo⟩ := ha
  rw [hg]
  have hE2 : endAt (taskR.map (shift d)) = 3 := by rfl
  have htk2 : (taskR.map (shift d)).take (3 + 1) = taskR.map (shift d) := by rfl
  have hp2 : (near (taskR.map (shift d))).m.part = 2 := by rfl
  have he2 : lineErr g (taskR.map (shift d)) false = 2 := by
    unfold lineErr mayStand
    rw [hp2, hgo]
    rfl
  rw [fileGo_bad (by simp [taskR]) (by simp [taskR]; omega) (by rw [hE2, htk2, he2]; decide), hE2, htk2, he2]
  rfl
theorem order_what {f : Fl} (h : Gd f) (ht : f.tasks.length ≤ 64) (ho : f.ops.length ≤ 4096) (hl : (fileB f ++ whatL).length ≤ 65536) : parseF (fileB f ++ whatL) = ⟨noFile, 3 + (1 + f.tasks.length + f.ops.length), 2⟩ := by
  generalize hd : 1 + f.tasks.length + f.ops.length = d
  refine (parse_tail h ht ho whatL hl whatR 4 (by kernel_rfl) (by kernel_rfl) (.error (3 + d, 2)) ?_).trans rfl
  rw [hd]
  intro n hn
  have hE : endAt (whatR.map (shift d)) = 1 := by rfl
  have htk : (whatR.map (shift d)).take (1 + 1) = whatR.map (shift d) := by rfl
  have hp : (near (whatR.map (shift d))).m.part = 0 := by rfl
  have he : lineErr f (whatR.map (shift d)) false = 2 := by
    unfold lineErr
    rw [hp]
    rfl
  rw [fileGo_bad (by simp [whatR]) hn (by rw [hE, htk, he]; decide), hE, htk, he]
  rfl

end Go.Proofs.YtgjfhfjmdkhllaaDoor.M
