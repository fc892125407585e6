/- A key of four bytes. -/
import Derived.Test.YthjpmiidbgaiaaaUpM
import Derived.Maps.Own
import Derived.Maps.OwnOps
import Derived.Maps.OwnSet
import Derived.DeepKeys4
namespace Go.Proofs.Ythjpmiidbgaiaaa
open Go.RowKit Go.Maps Go.WideMaps

theorem laidOutP : laidOutB Try.prog = true := by kernel_rfl
theorem row84 : (84 : TypeId) < Try.prog.types.size := of_decide_eq_true (by kernel_rfl)
theorem und84 : Try.prog.underlying 84 = some (.array 4 5) := by kernel_rfl
theorem wide84 : (match Try.prog.underlying 84 with | some (.array _ _) | some (.struct _) => true | _ => false) = true := by rw [und84]
theorem law84 : Keyed Try.prog 84 := Keyed.of_law (deep_law_laid laidOutP (m := 2) (by omega) row84 (by kernel_rfl) wide84)
theorem cells84 : Try.prog.cellsOf 84 = 4 := by kernel_rfl
theorem kt84 : Try.prog.keyType 84 = true := by kernel_rfl
theorem sz84 : Try.prog.types.size + 1 = (Try.prog.types.size - 1) + 2 := by decide +kernel
/-- Four bytes, as a value. -/
def kv (a b c d : UInt8) : Value := .agg #[.int .u8 (a.toNat : Int), .int .u8 (b.toNat : Int), .int .u8 (c.toNat : Int), .int .u8 (d.toNat : Int)]
theorem keyB (a : UInt8) : Lit.keyBytes (.int .u8 (a.toNat : Int)) = [a] := by
  have := a.toNat_lt
  have h : ((a.toNat : Int) % 256).toNat % 256 = a.toNat := by omega
  show [UInt8.ofNat (((a.toNat : Int) % 256).toNat % 256)] = [a]
  rw [h]
  simp
theorem wf8 (a : UInt8) : (Lit.int .u8 (a.toNat : Int)).wf = true := by
  have := a.toNat_lt
  exact WalkArith.wf_u8 (by omega)
theorem lits5 (n : Nat) (a : UInt8) : Try.prog.keyLits (n + 1) 5 [.int .u8 (a.toNat : Int)] = some [.int .u8 (a.toNat : Int)] := by
  unfold Program.keyLits
  rw [Try.underlying5]
  dsimp only
  rw [if_pos ⟨rfl, wf8 a⟩]
theorem cells5 : Try.prog.cellsOf 5 = 1 := by kernel_rfl
theorem lits84 (n : Nat) (a b c d : UInt8) : Try.prog.keyLits (n + 2) 84 [.int .u8 (a.toNat : Int), .int .u8 (b.toNat : Int), .int .u8 (c.toNat : Int), .int .u8 (d.toNat : Int)] = some [.int .u8 (a.toNat : Int), .int .u8 (b.toNat : Int), .int .u8 (c.toNat : Int), .int .u8 (d.toNat : Int)] := by
  unfold Program.keyLits
  rw [und84]
  dsimp only
  rw [if_pos (by rw [cells84]; rfl), cells5]
  rw [show List.range 4 = [0, 1, 2, 3] from rfl]
  simp [lits5]
theorem key4 (a b c d : UInt8) : keyOf Try.prog 84 (kv a b c d) = some (.string [a, b, c, d]) := by
  unfold keyOf
  rw [und84]
  dsimp only
  rw [kt84, show (kv a b c d).formed Try.prog 84 = true by simp [kv, Value.formed, cells84], sz84]
  rw [show (kv a b c d).cells.toList = [.int .u8 (a.toNat : Int), .int .u8 (b.toNat : Int), .int .u8 (c.toNat : Int), .int .u8 (d.toNat : Int)] from rfl, lits84]
  simp [keyBytes, keyB]

end Go.Proofs.Ythjpmiidbgaiaaa
