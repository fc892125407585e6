/- The packer's writeBack and writePlain. -/
import Derived.Test.YthjpmiidbgaiaaaPkE
import Derived.Test.YthjpmiidbgaiaaaPkA
namespace Go.Proofs.Ythjpmiidbgaiaaa
open Go.RowKit Go.Maps Go.WideMaps

theorem u8wrap (z : Int) (n : Nat) (h : z = (n : Int)) : IntKind.u8.wrap z = ((UInt8.ofNat n).toNat : Int) := by
  subst h
  show (n : Int) % 256 = _
  rw [UInt8.toNat_ofNat']
  omega

set_option maxHeartbeats 2000000 in
set_option maxRecDepth 10000 in
theorem writeBack_any (g m : Nat) (v : Value) (s out : List UInt8) (pl n : Nat) (D : DataW Unit) (far k : Nat) (w : World) (h : Pk w g m v s out pl n D) (hlen : out.length ≤ 1073741821) (hf0 : 1 ≤ far) (hf : far ≤ 65536) (hk : k ≤ 131) (hk4 : 4 ≤ k) :
    Calls Try.prog 25 #[.pointer (some ⟨g, 0, none⟩), .int .i64 (far : Int), .int .i64 (k : Int)] w fun e w' => e = .returned (.tuple #[]) ∧ (∃ v', Pk w' g m v' s (out ++ bkT far k) pl n D) ∧ Below g w w' := by
  have HP : Hid (Pk w g m v s out pl n D) := h
  clear h
  have e1 : IntKind.u8.wrap (128 + (k : Int) - 4) = ((UInt8.ofNat (124 + k)).toNat : Int) := u8wrap _ _ (by omega)
  have e2 : IntKind.u8.wrap ((far : Int) - 1) = ((UInt8.ofNat ((far - 1) % 256)).toNat : Int) := by
    rw [u8wrap _ (far - 1) (by omega)]
    congr 1
    rw [UInt8.toNat_ofNat', UInt8.toNat_ofNat']
    omega
  have e3 : IntKind.u8.wrap (((far : Int) - 1) / 256) = ((UInt8.ofNat ((far - 1) / 256)).toNat : Int) := u8wrap _ _ (by omega)
  have hB : Hid (bkT far k = [UInt8.ofNat (124 + k), UInt8.ofNat ((far - 1) % 256), UInt8.ofNat ((far - 1) / 256)]) := rfl
  generalize UInt8.ofNat (124 + k) = x1 at e1 hB
  generalize UInt8.ofNat ((far - 1) % 256) = x2 at e2 hB
  generalize UInt8.ofNat ((far - 1) / 256) = x3 at e3 hB
  go_enter Try.func25, Try.ntmps25
  go_wp2_with fail
  refine (wbyte_any g m v s out pl n D x1 w HP.out (by omega)).mono ?_
  rintro e w1 ⟨rfl, ⟨v1, P1⟩, B1⟩
  have HP1 : Hid (Pk w1 g m v1 s (out ++ [x1]) pl n D) := P1
  have HB1 : Hid (Below g w w1) := B1
  clear P1 B1
  go_wp2_with fail
  refine (wbyte_any g m v1 s (out ++ [x1]) pl n D x2 w1 HP1.out (by simp; omega)).mono ?_
  rintro e w2 ⟨rfl, ⟨v2, P2⟩, B2⟩
  have HP2 : Hid (Pk w2 g m v2 s (out ++ [x1] ++ [x2]) pl n D) := P2
  have HB2 : Hid (Below g w w2) := HB1.out.trans B2
  clear P2 B2
  go_wp2_with fail
  refine (wbyte_any g m v2 s (out ++ [x1] ++ [x2]) pl n D x3 w2 HP2.out (by simp; omega)).mono ?_
  rintro e w3 ⟨rfl, ⟨v3, P3⟩, B3⟩
  have HP3 : Hid (Pk w3 g m v3 s (out ++ bkT far k) pl n D) := by unfold Hid; rw [hB.out]; simpa using P3
  have HB3 : Hid (Below g w w3) := HB2.out.trans B3
  clear P3 B3
  go_wp2
  go_end0
  exact ⟨rfl, ⟨v3, HP3.out⟩, HB3.out⟩

end Go.Proofs.Ythjpmiidbgaiaaa
