/- What the document's own reader of numbers does: number. -/
import Derived.Test.YtppcnlkhdgmaiaaDoorCRfA
import Derived.Deep.LoopGhost
namespace Go.Proofs.YtppcnlkhdgmaiaaDoor
open Go.RowKit


end Go.Proofs.YtppcnlkhdgmaiaaDoor
