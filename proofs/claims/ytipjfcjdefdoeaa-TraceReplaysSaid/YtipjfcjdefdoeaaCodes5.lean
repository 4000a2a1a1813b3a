/- The reader of choices: numbers at limits, operations. -/
import Derived.Test.YtipjfcjdefdoeaaCodes4
namespace Go.Proofs.Ytipjfcjdefdoeaa
open Go.ChangeShapes Go.WideShapes Go.ChangeAt Go.RowKit
set_option maxRecDepth 100000

end Go.Proofs.Ytipjfcjdefdoeaa
