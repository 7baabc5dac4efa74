/- What the document's own reading of a protocol does: Protocol answers the plan, or the place at which the text ceases to be one. -/
import Derived.Test.YtppcnlkhdgmaiaaDoorCRfP
namespace Go.Proofs.YtppcnlkhdgmaiaaDoor
open Go.RowKit

end Go.Proofs.YtppcnlkhdgmaiaaDoor
