/- Contracts of own: owner, together, isClear, alone, find, isIn. -/
import Derived.Test.YtblbbdkpebacbaaDoorO1
namespace Go.Proofs.YtblbbdkpebacbaaDoor
open Go.RowKit Fl
set_option maxRecDepth 100000

end Go.Proofs.YtblbbdkpebacbaaDoor
