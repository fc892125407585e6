/- strings.IndexRune and strings.ContainsRune over a text of ASCII bytes; spath.inLabel. -/
import Derived.Test.YtojefckhefanhabRows
import Derived.Test.YtojefckhefanhabMem
import Derived.Below
import Derived.Lib.Strings
import Derived.Lib.Bytealg
import Derived.WalkMore
import Derived.Deep.RegionWith
import Derived.Laws.RangeString
import Derived.Laws.RangeAny
import Derived.Laws.Runes
namespace Go.Proofs.Ytojefckhefanhab
open Go.RowKit

set_option maxHeartbeats 400000 in
theorem ib_any (s : ByteArray) (c : Int) (w : World) :
    Calls Try.prog 33 #[.string s, .int .u8 c] w fun e w' => e = .returned (.int .i64 (Lib.indexByte s.data.toList c.toNat.toUInt8)) ∧ w' = w := by
  have h : ∀ w, (callFunc 53 #[.string s, .int .u8 c]).run Try.prog w = .ok (.value (.int .i64 (Lib.indexByte s.data.toList c.toNat.toUInt8))) w := fun w => by
    rw [run_callFunc_extern Try.func53 (by kernel_rfl) (by kernel_rfl) (by kernel_rfl) (e := Extern.BytealgIndexByte.indexByte) (by kernel_rfl), Lib.run_indexByteString]
    rfl
  go_enter Try.func33, Try.ntmps33
  go_wp2
  go_ret
  exact ⟨rfl, rfl⟩

theorem iter_bel (w : World) (s : ByteArray) (pos : Nat) : Below w.heap.size w (w.iter s pos) := (Below.refl _ _).alloc (Nat.le_refl _) _

theorem indexByte_none (l : List UInt8) (c : UInt8) (h : ∀ b ∈ l, b ≠ c) : Lib.indexByte l c = -1 := by
  induction l with
  | nil => rfl
  | cons b l ih =>
    have h1 := ih (fun x hx => h x (List.mem_cons_of_mem _ hx))
    have h2 := h b (List.mem_cons_self ..)
    unfold Lib.indexByte
    rw [if_neg (by simpa using h2), h1]
    rfl

theorem mem_bt (s : ByteArray) (ha : ∀ k, bt s k < 128) : ∀ b ∈ s.data.toList, b.toNat < 128 := by
  intro b hb
  obtain ⟨k, hk, e⟩ := List.mem_iff_getElem.1 hb
  have h1 := ha k
  rw [← Lib.size_eq] at hk
  rw [← get_bt s k hk] at h1
  have : (s[k]'hk) = b := e
  rw [this] at h1
  omega

/-- The signs that a label may have. -/
def sg : ByteArray := ⟨#[43, 45, 46, 95, 63, 61]⟩
theorem sg_nat : ∀ k : Nat, k < 6 → bt sg k < 128 := by decide +kernel
theorem sg_ascii (k : Nat) : bt sg k < 128 := by
  by_cases h : k < 6
  · exact sg_nat k h
  · unfold bt; rw [dif_neg (show ¬ k < sg.size from h)]; decide

/-- Is it one of the signs? -/
def sgHas (r : Int) : Bool := decide (0 ≤ Lib.indexByte sg.data.toList r.toNat.toUInt8)

/-- May a label have this byte? -/
def labC (r : Int) : Bool := decide ((65 ≤ r ∧ r ≤ 90) ∨ (97 ≤ r ∧ r ≤ 122) ∨ (48 ≤ r ∧ r ≤ 57)) || sgHas r

end Go.Proofs.Ytojefckhefanhab
