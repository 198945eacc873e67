/- Put, by the document. -/
import Derived.Test.YthhgnflkplpklabRBodyR
namespace Go.Proofs.Ythhgnflkplpklab.Frm
set_option maxRecDepth 20000
open Go.ChangeShapes Go.WideShapes Go.ChangeAt Go.RowKit

end Go.Proofs.Ythhgnflkplpklab.Frm
