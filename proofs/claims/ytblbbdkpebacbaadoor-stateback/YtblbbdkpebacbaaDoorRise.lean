/- Contract: the document's Rise. -/
import Derived.Test.YtblbbdkpebacbaaDoorRMath
import Derived.Test.YtblbbdkpebacbaaDoorLHead
namespace Go.Proofs.YtblbbdkpebacbaaDoor
open Go.RowKit Fl
set_option maxRecDepth 100000

end Go.Proofs.YtblbbdkpebacbaaDoor
