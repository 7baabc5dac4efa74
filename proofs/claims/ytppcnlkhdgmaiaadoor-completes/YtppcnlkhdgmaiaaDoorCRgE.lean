/- What the document's own reading of a table does: Table answers the steps, or the place at which the text ceases to be a table. -/
import Derived.Test.YtppcnlkhdgmaiaaDoorCRfP
namespace Go.Proofs.YtppcnlkhdgmaiaaDoor
open Go.RowKit


/-- A step of a table: ten cells. -/
def tsCells (y : Hx.TStp) : List Value := [.int .i64 (y.pl : Int), .int .i64 (y.no : Int), .int .i64 (y.lo : Int), .int .i64 (y.hi : Int), .bool y.rest, .int .i64 (y.mn : Int), .int .i64 (y.mx : Int), .int .i64 (y.t : Int), .int .i64 y.out, .int .i64 y.inn]
def tssCells (l : List Hx.TStp) : List Value := l.flatMap tsCells
theorem tssCells_snoc (l : List Hx.TStp) (y : Hx.TStp) : tssCells (l ++ [y]) = tssCells l ++ tsCells y := by simp [tssCells]
theorem tsCells_one (y : Hx.TStp) : ∀ u ∈ tsCells y, u.oneCell' = true := by
  intro u hu
  simp [tsCells] at hu
  rcases hu with rfl | rfl | rfl | rfl | rfl | rfl | rfl | rfl | rfl | rfl <;> rfl

end Go.Proofs.YtppcnlkhdgmaiaaDoor
