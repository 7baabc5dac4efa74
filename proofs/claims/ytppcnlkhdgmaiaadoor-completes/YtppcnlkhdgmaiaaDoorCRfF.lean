/- What the document's own Check does: its error and its place are those of the plain reading. -/
import Derived.Test.YtppcnlkhdgmaiaaDoorCRfE
import Derived.Test.YtppcnlkhdgmaiaaDoorCRfP
namespace Go.Proofs.YtppcnlkhdgmaiaaDoor
open Go.RowKit

end Go.Proofs.YtppcnlkhdgmaiaaDoor
