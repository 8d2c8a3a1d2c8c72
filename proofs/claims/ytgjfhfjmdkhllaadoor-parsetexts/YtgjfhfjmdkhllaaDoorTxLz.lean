/- What line of the document's own Text answers. -/
import Derived.Test.YtgjfhfjmdkhllaaDoorTxLa
import Derived.Test.YtgjfhfjmdkhllaaDoorTxLb
import Derived.Test.YtgjfhfjmdkhllaaDoorTxLc
import Derived.Test.YtgjfhfjmdkhllaaDoorTxLd
import Derived.Test.YtgjfhfjmdkhllaaDoorTxLe
import Derived.Test.YtgjfhfjmdkhllaaDoorTxLf
import Derived.Test.YtgjfhfjmdkhllaaDoorTxLg
namespace Go.Proofs.YtgjfhfjmdkhllaaDoor
open Go.RowKit
open M
set_option linter.unusedVariables false
set_option linter.unusedSimpArgs false

theorem line_any (o : Oz) (w : World) : Calls Tryd.prog 25 #[.agg #[.int .i64 o.kind, .int .i64 o.a, .int .i64 o.b, .int .i64 o.c, .int .i64 o.d]] w fun e w' => ∃ S b, e = .returned (.tuple #[.string S, .bool b]) ∧ LineIs o S.data.toList b ∧ Below w.heap.size w w' := by
  by_cases h : okN o.a = true ∧ okN o.b = true ∧ okN o.c = true ∧ okN o.d = true
  · by_cases h1 : o.kind = 1
    · exact line_k1 o h1 h w
    by_cases h2 : o.kind = 2
    · exact line_k2 o h2 h w
    by_cases h3 : o.kind = 3
    · exact line_k3 o h3 h w
    by_cases h4 : o.kind = 4
    · exact line_k4 o h4 h w
    by_cases h6 : o.kind = 6
    · exact line_k6 o h6 h w
    by_cases h5 : o.kind = 5
    · by_cases c1 : o.c = 1
      · exact line_k51 o h5 c1 h w
      by_cases c2 : o.c = 2
      · exact line_k52 o h5 c2 h w
      exact line_k53 o h5 c1 c2 h w
    exact line_k0 o h1 h2 h3 h4 h5 h6 h w
  · refine (line_out o h w).mono ?_
    rintro e w' ⟨rfl, hb⟩
    exact ⟨_, _, rfl, lineIs_bad h, hb⟩

end Go.Proofs.YtgjfhfjmdkhllaaDoor
