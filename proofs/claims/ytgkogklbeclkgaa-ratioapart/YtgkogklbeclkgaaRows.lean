/-
  No cell of these rows narrows 'for every input' (looked for: loops, veiled, ifaces, maps, wideKeys, modest, calm, conditions, laid).
  DERIVED. THE GIVEN ROWS OF THIS SEAT. 6 by the template 'for every input the law returns true; each argument reads behind the call as it read before'; 0 by the template 'total and deterministic' (their statements: YtgkogklbeclkgaaTotals.lean).
  GIVEN WITH THE SEED: the statements are not yours to turn. If you find one false, say at which input.
  Laid BY PROGRAM, IN A SANDBOX (cutbox-rows.mjs): the forced cells as the released guide's own fill.sh prints them over the translation 880af79ca0a2f09e… (all of the seat's roots in one cut). By AI agents, Wed Nov 11 2026. No macro, syntax, notation, axiom, sorry.
-/
import Derived.Test.YtgkogklbeclkgaaChecked
import GoSem.Claim
import GoSem.ClaimJoined
import GoSem.ClaimMapViews
import Derived.JoinedTies
import Derived.KernelRfl
namespace Go.Proofs.Ytgkogklbeclkgaa
/- THE CELL 'sum', in the pinned program and in every row, IS THE sha256 OF THE DUMP (.gsa) THAT YtgkogklbeclkgaaProg.lean LOADS. Nothing in Lean hashes anything: it is a label: what it is worth is what the hold of that sum in a sandbox is worth. -/
noncomputable def Try.pinned : Pinned := { name := "ytgkogklbeclkgaa", sum := "880af79ca0a2f09e63523120e149d4fd77ac8528f8121e709bd22927975cfa68", checked := Try.checked }
namespace Rows
def none {H : Type} : Left H := { results := [], args := [] }

/-- 'millwrightlaw13.RatioTells': WHATEVER THE INPUT: true; the input reads as it did. -/
def ratioTellsSpec : ChangeSpec := { name := "ratioTells", fn := fun _ => fun
  | [d1, d2] => { results := [.lit (.bool true)], args := [d1, d2] }
  | _ => none }
def ratioTellsRow : OpenClaim := { program := "ytgkogklbeclkgaa", sum := "880af79ca0a2f09e63523120e149d4fd77ac8528f8121e709bd22927975cfa68", func := "millwright/millwrightlaw13.RatioTells", spec := "ratioTells", apart := false }
def RatioTellsSaid : Prop := ratioTellsRow.holds Try.pinned (OpenSpec.ofChange ratioTellsSpec)

/-- ITS FALSE NEIGHBOUR: 'it returns false'. Refute it at one input. -/
def ratioTellsWrong : ChangeSpec := { name := "ratioTells", fn := fun _ => fun
  | [d1, d2] => { results := [.lit (.bool false)], args := [d1, d2] }
  | _ => none }
def RatioTellsWrongFalsely : Prop := ratioTellsRow.holds Try.pinned (OpenSpec.ofChange ratioTellsWrong)

/-- 'millwrightlaw13.RatioOrder': WHATEVER THE INPUT: true; the input reads as it did. -/
def ratioOrderSpec : ChangeSpec := { name := "ratioOrder", fn := fun _ => fun
  | [d1, d2, d3] => { results := [.lit (.bool true)], args := [d1, d2, d3] }
  | _ => none }
def ratioOrderRow : OpenClaim := { program := "ytgkogklbeclkgaa", sum := "880af79ca0a2f09e63523120e149d4fd77ac8528f8121e709bd22927975cfa68", func := "millwright/millwrightlaw13.RatioOrder", spec := "ratioOrder", apart := false }
def RatioOrderSaid : Prop := ratioOrderRow.holds Try.pinned (OpenSpec.ofChange ratioOrderSpec)

/-- ITS FALSE NEIGHBOUR: 'it returns false'. Refute it at one input. -/
def ratioOrderWrong : ChangeSpec := { name := "ratioOrder", fn := fun _ => fun
  | [d1, d2, d3] => { results := [.lit (.bool false)], args := [d1, d2, d3] }
  | _ => none }
def RatioOrderWrongFalsely : Prop := ratioOrderRow.holds Try.pinned (OpenSpec.ofChange ratioOrderWrong)

/-- 'millwrightlaw13.RatioSum': WHATEVER THE INPUT: true; the input reads as it did. -/
def ratioSumSpec : ChangeSpec := { name := "ratioSum", fn := fun _ => fun
  | [d1, d2] => { results := [.lit (.bool true)], args := [d1, d2] }
  | _ => none }
def ratioSumRow : OpenClaim := { program := "ytgkogklbeclkgaa", sum := "880af79ca0a2f09e63523120e149d4fd77ac8528f8121e709bd22927975cfa68", func := "millwright/millwrightlaw13.RatioSum", spec := "ratioSum", apart := false }
def RatioSumSaid : Prop := ratioSumRow.holds Try.pinned (OpenSpec.ofChange ratioSumSpec)

/-- ITS FALSE NEIGHBOUR: 'it returns false'. Refute it at one input. -/
def ratioSumWrong : ChangeSpec := { name := "ratioSum", fn := fun _ => fun
  | [d1, d2] => { results := [.lit (.bool false)], args := [d1, d2] }
  | _ => none }
def RatioSumWrongFalsely : Prop := ratioSumRow.holds Try.pinned (OpenSpec.ofChange ratioSumWrong)

/-- 'millwrightlaw13.RatioScales': WHATEVER THE INPUT: true; the input reads as it did. -/
def ratioScalesSpec : ChangeSpec := { name := "ratioScales", fn := fun _ => fun
  | [d1, d2, d3] => { results := [.lit (.bool true)], args := [d1, d2, d3] }
  | _ => none }
def ratioScalesRow : OpenClaim := { program := "ytgkogklbeclkgaa", sum := "880af79ca0a2f09e63523120e149d4fd77ac8528f8121e709bd22927975cfa68", func := "millwright/millwrightlaw13.RatioScales", spec := "ratioScales", apart := false }
def RatioScalesSaid : Prop := ratioScalesRow.holds Try.pinned (OpenSpec.ofChange ratioScalesSpec)

/-- ITS FALSE NEIGHBOUR: 'it returns false'. Refute it at one input. -/
def ratioScalesWrong : ChangeSpec := { name := "ratioScales", fn := fun _ => fun
  | [d1, d2, d3] => { results := [.lit (.bool false)], args := [d1, d2, d3] }
  | _ => none }
def RatioScalesWrongFalsely : Prop := ratioScalesRow.holds Try.pinned (OpenSpec.ofChange ratioScalesWrong)

/-- 'millwrightlaw13.RatioApart': WHATEVER THE INPUT: true; the input reads as it did. -/
def ratioApartSpec : ChangeSpec := { name := "ratioApart", fn := fun _ => fun
  | [d] => { results := [.lit (.bool true)], args := [d] }
  | _ => none }
def ratioApartRow : OpenClaim := { program := "ytgkogklbeclkgaa", sum := "880af79ca0a2f09e63523120e149d4fd77ac8528f8121e709bd22927975cfa68", func := "millwright/millwrightlaw13.RatioApart", spec := "ratioApart", unfollowed := true, recurses := true, apart := false }
def RatioApartSaid : Prop := ratioApartRow.holds Try.pinned (OpenSpec.ofChange ratioApartSpec)

/-- ITS FALSE NEIGHBOUR: 'it returns false'. Refute it at one input. -/
def ratioApartWrong : ChangeSpec := { name := "ratioApart", fn := fun _ => fun
  | [d] => { results := [.lit (.bool false)], args := [d] }
  | _ => none }
def RatioApartWrongFalsely : Prop := ratioApartRow.holds Try.pinned (OpenSpec.ofChange ratioApartWrong)

/-- 'millwrightlaw13.RatioWild': WHATEVER THE INPUT: true; the input reads as it did. -/
def ratioWildSpec : ChangeSpec := { name := "ratioWild", fn := fun _ => fun
  | [d1, d2, d3, d4] => { results := [.lit (.bool true)], args := [d1, d2, d3, d4] }
  | _ => none }
def ratioWildRow : OpenClaim := { program := "ytgkogklbeclkgaa", sum := "880af79ca0a2f09e63523120e149d4fd77ac8528f8121e709bd22927975cfa68", func := "millwright/millwrightlaw13.RatioWild", spec := "ratioWild", unfollowed := true, recurses := true, apart := false }
def RatioWildSaid : Prop := ratioWildRow.holds Try.pinned (OpenSpec.ofChange ratioWildSpec)

/-- ITS FALSE NEIGHBOUR: 'it returns false'. Refute it at one input. -/
def ratioWildWrong : ChangeSpec := { name := "ratioWild", fn := fun _ => fun
  | [d1, d2, d3, d4] => { results := [.lit (.bool false)], args := [d1, d2, d3, d4] }
  | _ => none }
def RatioWildWrongFalsely : Prop := ratioWildRow.holds Try.pinned (OpenSpec.ofChange ratioWildWrong)

/- THE SECOND FORM. 'bulk': how many values and letters a reading holds, each counted each time it is reached (what is shared counts as often as it is met; a slice's spare places count too). A statement '..UptoSaid' is the law's where the arguments, and the package variables that the reading takes, are together of bulk at most 1048576: NARROWER than '..Said'. Prove '..Said' where nothing that the law and all that it calls make is longer than what came in: it says more and counts as full. Else prove '..UptoSaid'. A law counts once. -/
mutual
def uptoBulk {H : Type} : DataW H → Nat
  | .lit (.string bytes) => bytes.length + 1
  | .lit _ => 1
  | .nil => 1
  | .ptr d => uptoBulk d + 1
  | .slice elems spare => uptoBulkAll elems + uptoBulkAll spare + 1
  | .agg parts => uptoBulkAll parts + 1
  | .iface _ d => uptoBulk d + 1
  | .map entries => uptoBulkEntries entries + 1
  | .held _ => 1
def uptoBulkAll {H : Type} : List (DataW H) → Nat
  | [] => 0
  | d :: r => uptoBulk d + uptoBulkAll r
def uptoBulkEntries {H : Type} : List (Lit × DataW H) → Nat
  | [] => 0
  | x :: r => uptoBulkEntry x + uptoBulkEntries r
def uptoBulkEntry {H : Type} : Lit × DataW H → Nat
  | (.string bytes, d) => bytes.length + uptoBulk d + 1
  | (_, d) => uptoBulk d + 1
 end
def uptoSmall : (H : Type) → List (DataW H) → Bool := fun _ ds => decide (uptoBulkAll ds ≤ 1048576)
def OpenSpec.upto (s : _root_.Go.ChangeSpec) : _root_.Go.OpenSpec := { _root_.Go.OpenSpec.ofChange s with cond := some uptoSmall }

/-- 'millwrightlaw13.RatioTells', WHERE WHAT IT READS IS OF BULK AT MOST 1048576: true; the input reads as it did. -/
def ratioTellsUptoRow : OpenClaim := { program := "ytgkogklbeclkgaa", sum := "880af79ca0a2f09e63523120e149d4fd77ac8528f8121e709bd22927975cfa68", func := "millwright/millwrightlaw13.RatioTells", spec := "ratioTells", apart := false, narrowed := true }
def RatioTellsUptoSaid : Prop := ratioTellsUptoRow.holds Try.pinned (OpenSpec.upto ratioTellsSpec)

/-- 'millwrightlaw13.RatioOrder', WHERE WHAT IT READS IS OF BULK AT MOST 1048576: true; the input reads as it did. -/
def ratioOrderUptoRow : OpenClaim := { program := "ytgkogklbeclkgaa", sum := "880af79ca0a2f09e63523120e149d4fd77ac8528f8121e709bd22927975cfa68", func := "millwright/millwrightlaw13.RatioOrder", spec := "ratioOrder", apart := false, narrowed := true }
def RatioOrderUptoSaid : Prop := ratioOrderUptoRow.holds Try.pinned (OpenSpec.upto ratioOrderSpec)

/-- 'millwrightlaw13.RatioSum', WHERE WHAT IT READS IS OF BULK AT MOST 1048576: true; the input reads as it did. -/
def ratioSumUptoRow : OpenClaim := { program := "ytgkogklbeclkgaa", sum := "880af79ca0a2f09e63523120e149d4fd77ac8528f8121e709bd22927975cfa68", func := "millwright/millwrightlaw13.RatioSum", spec := "ratioSum", apart := false, narrowed := true }
def RatioSumUptoSaid : Prop := ratioSumUptoRow.holds Try.pinned (OpenSpec.upto ratioSumSpec)

/-- 'millwrightlaw13.RatioScales', WHERE WHAT IT READS IS OF BULK AT MOST 1048576: true; the input reads as it did. -/
def ratioScalesUptoRow : OpenClaim := { program := "ytgkogklbeclkgaa", sum := "880af79ca0a2f09e63523120e149d4fd77ac8528f8121e709bd22927975cfa68", func := "millwright/millwrightlaw13.RatioScales", spec := "ratioScales", apart := false, narrowed := true }
def RatioScalesUptoSaid : Prop := ratioScalesUptoRow.holds Try.pinned (OpenSpec.upto ratioScalesSpec)

/-- 'millwrightlaw13.RatioApart', WHERE WHAT IT READS IS OF BULK AT MOST 1048576: true; the input reads as it did. -/
def ratioApartUptoRow : OpenClaim := { program := "ytgkogklbeclkgaa", sum := "880af79ca0a2f09e63523120e149d4fd77ac8528f8121e709bd22927975cfa68", func := "millwright/millwrightlaw13.RatioApart", spec := "ratioApart", unfollowed := true, recurses := true, apart := false, narrowed := true }
def RatioApartUptoSaid : Prop := ratioApartUptoRow.holds Try.pinned (OpenSpec.upto ratioApartSpec)

/-- 'millwrightlaw13.RatioWild', WHERE WHAT IT READS IS OF BULK AT MOST 1048576: true; the input reads as it did. -/
def ratioWildUptoRow : OpenClaim := { program := "ytgkogklbeclkgaa", sum := "880af79ca0a2f09e63523120e149d4fd77ac8528f8121e709bd22927975cfa68", func := "millwright/millwrightlaw13.RatioWild", spec := "ratioWild", unfollowed := true, recurses := true, apart := false, narrowed := true }
def RatioWildUptoSaid : Prop := ratioWildUptoRow.holds Try.pinned (OpenSpec.upto ratioWildSpec)

end Rows
end Go.Proofs.Ytgkogklbeclkgaa
