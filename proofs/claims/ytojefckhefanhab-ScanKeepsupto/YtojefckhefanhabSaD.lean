/- depotref14's Wanted, walked (own text of the verifier). -/
import Derived.Test.YtojefckhefanhabSaC
namespace Go.Proofs.Ytojefckhefanhab
open Go.RowKit
namespace Sc

end Sc
end Go.Proofs.Ytojefckhefanhab
