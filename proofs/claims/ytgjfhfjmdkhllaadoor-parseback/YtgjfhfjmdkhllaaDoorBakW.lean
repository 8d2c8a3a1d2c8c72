/- ParseBack: the walk. -/
import Derived.Test.YtgjfhfjmdkhllaaDoorBakNB
import Derived.Test.YtgjfhfjmdkhllaaDoorBakNO
import Derived.Test.YtgjfhfjmdkhllaaDoorBakSB
import Derived.Test.YtgjfhfjmdkhllaaDoorBakSO
namespace Go.Proofs.YtgjfhfjmdkhllaaDoor
open Go.RowKit
open M
set_option linter.unusedVariables false
set_option linter.unusedSimpArgs false

theorem back_walk (x0 x1 x2 x3 x4 x5 x6 x7 x8 x9 : Int) (f : Fl) (ta oa : Option Addr) (tc oc : Nat) (w : World) (v : Value) (hT : Tabs w) (hI : InF w v f x0 x1 x2 x3 x4 x5 x6 x7 x8 x9 ta oa tc oc) (ba : Option Addr) (bs : List UInt8) (bc : Nat) (hbl0 : bs.length ≤ bc) (hbc : bc ≤ maxLen) (hby0 : Bytes w ba bs) :
    Calls Tryd.prog 5 #[v, .slice ba bs.length bc] w fun e w' => e = .returned (.bool true) ∧ Below w.heap.size w w' := by
  rcases parse_cases (bs.take 4000) with ⟨ln, E, hPE, hE0⟩ | ⟨x, hPE, hxg, hxo, hxn⟩
  · cases hR : textF (fewF f) with
    | none => exact back_none_bad x0 x1 x2 x3 x4 x5 x6 x7 x8 x9 f ta oa tc oc w v hT hI ba bs bc hbl0 hbc hby0 ln E hE0 hPE hR
    | some r => exact back_some_bad x0 x1 x2 x3 x4 x5 x6 x7 x8 x9 f ta oa tc oc w v hT hI ba bs bc hbl0 hbc hby0 ln E hE0 hPE r hR
  · have hl4 : (bs.take 4000).length ≤ 4000 := by simp; omega
    have hlen := fileB_len hxg
    obtain ⟨h64, h4096⟩ := hxo
    have hlen2 : (fileB x).length ≤ 65536 := by omega
    have hxt : textF x = some (fileB x) := by
      unfold textF
      rw [if_neg (by omega)]
      exact fileOut_is hxg
    have hxb := parse_back hxg h64 h4096 hlen2
    obtain ⟨z0, z1, z2, z3, z4, z5, z6, z7, z8, z9, hxc⟩ := list10 hxg.len
    cases hR : textF (fewF f) with
    | none => exact back_none_ok x0 x1 x2 x3 x4 x5 x6 x7 x8 x9 f ta oa tc oc w v hT hI ba bs bc hbl0 hbc hby0 x z0 z1 z2 z3 z4 z5 z6 z7 z8 z9 hxc ⟨h64, h4096⟩ hxt hPE hlen2 hxb hR
    | some r => exact back_some_ok x0 x1 x2 x3 x4 x5 x6 x7 x8 x9 f ta oa tc oc w v hT hI ba bs bc hbl0 hbc hby0 x z0 z1 z2 z3 z4 z5 z6 z7 z8 z9 hxc ⟨h64, h4096⟩ hxt hPE hlen2 hxb r hR

end Go.Proofs.YtgjfhfjmdkhllaaDoor
