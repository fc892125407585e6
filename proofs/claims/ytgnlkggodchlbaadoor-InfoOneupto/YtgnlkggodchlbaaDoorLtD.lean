/- What the document's own Base32 answers: as the program's. -/
import Derived.Test.YtgnlkggodchlbaaDoorLtC
namespace Go.Proofs.YtgnlkggodchlbaaDoor
open Go.RowKit

end Go.Proofs.YtgnlkggodchlbaaDoor
