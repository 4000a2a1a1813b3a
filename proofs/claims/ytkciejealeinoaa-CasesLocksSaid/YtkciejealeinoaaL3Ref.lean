/- Layer 3: what the document's answers for chapter 3 return. -/
import Derived.Test.YtkciejealeinoaaOpP
import Derived.Deep.QuietTactic
import Derived.BigQuiet
namespace Go.Proofs.Ytkciejealeinoaa
open Go.ChangeShapes Go.WideShapes Go.ChangeAt Go.RowKit
set_option maxRecDepth 100000

end Go.Proofs.Ytkciejealeinoaa
