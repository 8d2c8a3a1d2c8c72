/- What the bytes of the statements' own look are, read and written: reckoned. -/
import Derived.Test.YtgjfhfjmdkhllaaDoorTexG
namespace Go.Proofs.YtgjfhfjmdkhllaaDoor.M
set_option linter.unusedSimpArgs false
set_option linter.unusedVariables false
open Go.Proofs.YtgjfhfjmdkhllaaDoor

def headL : List UInt8 := [99, 111, 110, 102, 105, 103, 32, 98, 117, 100, 103, 101, 116, 32, 49, 48, 32, 115, 108, 111, 116, 115, 32, 50, 32, 97, 99, 116, 105, 118, 101, 32, 51, 32, 113, 117, 101, 117, 101, 32, 52, 32, 116, 114, 105, 101, 115, 32, 50, 32, 112, 114, 101, 101, 109, 112, 116, 115, 32, 49, 32, 116, 105, 109, 101, 111, 117, 116, 32, 53, 32, 98, 97, 99, 107, 111, 102, 102, 32, 50, 32, 109, 111, 115, 116, 32, 56, 32, 113, 117, 97, 110, 116, 117, 109, 32, 55, 10]
def tail1 : List UInt8 := [116, 97, 115, 107, 32, 49, 32, 50, 10, 115, 117, 98, 109, 105, 116, 32, 48, 32, 49, 32, 51, 10, 97, 110, 115, 119, 101, 114, 32, 48, 32, 49, 32, 110, 101, 101, 100, 32, 52, 10]
def tail2 : List UInt8 := [10, 99, 97, 110, 99, 101, 108, 32, 48, 32, 48]
def file1 : Fl := ⟨[10, 2, 3, 4, 2, 1, 5, 2, 8, 7], [(1, 2)], [⟨1, 0, 1, 3, 0⟩, ⟨5, 0, 1, 3, 4⟩]⟩
theorem parse_1 : parseF (headL ++ tail1) = ⟨file1, 0, 0⟩ := by kernel_rfl
theorem parse_2 : parseF (headL ++ tail2) = ⟨noFile, 3, 2⟩ := by kernel_rfl
theorem parse_3 : parseF [] = ⟨noFile, 0, 2⟩ := by kernel_rfl
theorem text_1 : fileOut file1 = some (headL ++ tail1) := by
  rw [fileOut_eq]
  kernel_rfl

end Go.Proofs.YtgjfhfjmdkhllaaDoor.M
