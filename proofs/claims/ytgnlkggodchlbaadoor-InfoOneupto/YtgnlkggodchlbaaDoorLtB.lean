/- What the document's own bits answers. -/
import Derived.Test.YtgnlkggodchlbaaDoorLtA
namespace Go.Proofs.YtgnlkggodchlbaaDoor
open Go.RowKit

end Go.Proofs.YtgnlkggodchlbaaDoor
