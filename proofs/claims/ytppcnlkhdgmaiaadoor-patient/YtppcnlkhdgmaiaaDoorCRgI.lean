/- What the document's Look answers. -/
import Derived.Test.YtppcnlkhdgmaiaaDoorCPlU
import Derived.Deep.Onto
namespace Go.Proofs.YtppcnlkhdgmaiaaDoor
open Go.RowKit

end Go.Proofs.YtppcnlkhdgmaiaaDoor
