/- depotref14's At and Within, walked (own text of the verifier). -/
import Derived.Test.YtojefckhefanhabSaB
namespace Go.Proofs.Ytojefckhefanhab
open Go.RowKit
namespace Sc

theorem ext_win (x : ByteArray) (k : Nat) : (x.extract k (k + 32)).toList = win x.data.toList k := by
  rw [ByteArray.toList_eq, ByteArray.data_extract, Array.toList_extract]
  unfold win
  simp [List.extract]
theorem size_list (x : ByteArray) : x.data.toList.length = x.size := by rw [Array.length_toList]; rfl

end Sc
end Go.Proofs.Ytojefckhefanhab
