/- WholeArchive: its list of numbers, opened (own text of the verifier). -/
import Derived.Test.YtcmdeiohnkbjlaaDoorWaWx
import Derived.Test.YtcmdeiohnkbjlaaDoorTvOx
namespace Go.Proofs.YtcmdeiohnkbjlaaDoor
open Go.RowKit

open Go.ChangeShapes in
theorem bulk_lits {H : Type} (k : IntKind) (zs : List Int) : Rows.uptoBulkAll (H := H) (lits k zs) = zs.length := by
  induction zs with
  | nil => rfl
  | cons z zs ih =>
    show Rows.uptoBulk (DataW.lit (.int k z)) + Rows.uptoBulkAll (lits k zs) = _
    rw [ih, List.length_cons]
    show 1 + zs.length = _
    omega

open Go.ChangeShapes in
theorem open_isl {H : Type} {enc : TypeId × Value → H} {w : World} {held : Bool} (fuel : Nat) (z : Option Addr) (n c : Nat) (x : DataW H × List MemPlace) (h : DataW.trod enc Tryd.prog w 0 (fun _ => true) held fuel 26 [.slice z n c] = some x) (hb : Rows.uptoBulk x.1 ≤ 1048576) :
    ∃ f : Nat → Int, ISr w z n f ∧ n ≤ 1048576 := by
  rcases open_ints Tryd.underlying26 Tryd.underlying3 (by kernel_rfl) h with ⟨hcs, _⟩ | ⟨a, l, cp, zs, hcs, _, hl, hm, hz, hx, hcell, hwz⟩
  · simp at hcs
    obtain ⟨rfl, rfl, rfl⟩ := hcs
    exact ⟨fun _ => 0, fun k hk => absurd hk (by omega), Nat.zero_le _⟩
  · simp at hcs
    obtain ⟨rfl, rfl, rfl⟩ := hcs
    have hz' : zs.length = c := by simpa using hz
    subst hx
    refine ⟨fun k => zs.getD k 0, fun k hk => ⟨_, rfl, hcell k (by omega)⟩, ?_⟩
    have e1 : Rows.uptoBulk (H := H) (.slice (lits .i64 (zs.take n)) (lits .i64 (zs.drop n))) = Rows.uptoBulkAll (H := H) (lits .i64 (zs.take n)) + Rows.uptoBulkAll (H := H) (lits .i64 (zs.drop n)) + 1 := by simp only [Rows.uptoBulk]
    have hb' : Rows.uptoBulk (H := H) (.slice (lits .i64 (zs.take n)) (lits .i64 (zs.drop n))) ≤ 1048576 := hb
    rw [e1, bulk_lits, bulk_lits, List.length_take, List.length_drop] at hb'
    omega

end Go.Proofs.YtcmdeiohnkbjlaaDoor
