/- Layer 3: the last error of the document's check. -/
import Derived.Test.YtkciejealeinoaaL3Ref
namespace Go.Proofs.Ytkciejealeinoaa
open Go.ChangeShapes Go.WideShapes Go.ChangeAt Go.RowKit
set_option maxRecDepth 100000

end Go.Proofs.Ytkciejealeinoaa
