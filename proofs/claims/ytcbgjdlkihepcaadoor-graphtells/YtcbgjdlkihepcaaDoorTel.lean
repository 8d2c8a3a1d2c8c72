/- Edges, and what is reached, are what the document says: the three cases together. -/
import Derived.Test.YtcbgjdlkihepcaaDoorTelI
import Derived.Test.YtcbgjdlkihepcaaDoorTelG
import Derived.Test.YtcbgjdlkihepcaaDoorTelM
namespace Go.Proofs.YtcbgjdlkihepcaaDoor
open Go.RowKit
open M
set_option linter.unusedVariables false
set_option linter.unusedSimpArgs false

theorem tells_core (n a b : Int) (ls : List (Int × Int)) (la : Option Addr) (lc : Nat) (w : World) (hT : Tab w) (h0 : 0 < w.heap.size) (hl : LIn w la ls) (hm : ls.length ≤ maxLen) :
    Calls Tryd.prog 3 #[.int .i64 n, .slice la ls.length lc, .int .i64 a, .int .i64 b] w fun e w' => e = .returned (.bool true) ∧ Below w.heap.size w w' := by
  cases ho : offB (sz n) b with
  | false => exact tells_I n a b ls la lc w hT h0 hl hm ho
  | true =>
    by_cases hneg : b < 0
    · exact tells_N n a b ls la lc w hT h0 hl hm hneg ho
    · exact tells_G n a b ls la lc w hT h0 hl hm (by omega) ho
end Go.Proofs.YtcbgjdlkihepcaaDoor
