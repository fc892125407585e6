/- The law InfoChecks walked. -/
import Derived.Test.YtjhbfkckkinfjaaDoorInU
import Derived.Test.YtjhbfkckkinfjaaDoorInO
import Derived.Test.YtjhbfkckkinfjaaDoorShaE
namespace Go.Proofs.YtjhbfkckkinfjaaDoor
open Go.RowKit Go.Shelf

/-- What the law's last region keeps. -/
structure CkW (w : World) (P : ByteArray) (D : Nat → Int) (z : Int) (F : ByteArray) (vr vs : Value) (g a b : Nat) (E : Nat → Int) (W : World) : Prop where
  inf : Inf W g P D z vr F vs
  d1 : Row .u8 W a 32 E
  d2 : Row .u8 W b 32 E
  bel : Below w.heap.size w W
theorem CkW.next {w : World} {P : ByteArray} {D : Nat → Int} {z : Int} {F : ByteArray} {vr vs : Value} {g a b : Nat} {E : Nat → Int} {W W' : World} (h : CkW w P D z F vr vs g a b E W) (c : Below W.heap.size W W') : CkW w P D z F vr vs g a b E W' :=
  ⟨h.inf.below c h.inf.lt, h.d1.below c (World.block_lt_of_cell? _ _ (h.d1.cell 0 (by omega))), h.d2.below c (World.block_lt_of_cell? _ _ (h.d2.cell 0 (by omega))), h.bel.trans (c.mono h.bel.size)⟩
theorem yieldsIf_inf {ops : Array Oper} {S : World → Prop} {op : Oper} {a : Act} {g : Nat} {P : ByteArray} {D : Nat → Int} {z : Int} {vr : Value} {F : ByteArray} {vs : Value} (hw : Region.wanted op (yielded ops a.tmps) = true) (x : Operand) (ho : op.op = .load 26 x)
    (hx : a.eval x = .pointer (some ⟨g, 0, none⟩)) (hS : ∀ w, S w → Inf w g P D z vr F vs) : YieldsIf Tryd.prog ops S op (.agg (infC P D z vr F vs)) a :=
  yieldsIf_load_mid hw 26 x ho g 0 hx (infL P D z vr F vs) _ (fun w hs => (hS w hs).range) Tryd.underlying26 rfl (by rw [szINF]; exact congrArg some (infL_len P D z vr F vs).symm)

end Go.Proofs.YtjhbfkckkinfjaaDoor
