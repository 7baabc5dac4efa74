/- What the document's own reader does: next, must, one, number. -/
import Derived.Test.YtppcnlkhdgmaiaaDoorCRdD
import Derived.Test.YtppcnlkhdgmaiaaDoorCPf
namespace Go.Proofs.YtppcnlkhdgmaiaaDoor
open Go.RowKit


end Go.Proofs.YtppcnlkhdgmaiaaDoor
