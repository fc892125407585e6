/- Blend, on both sides; what they share. -/
import Derived.Test.YtjlbbnjcdickgacDoorPPb
import Derived.Test.YtjlbbnjcdickgacDoorGS
namespace Go.Proofs.YtjlbbnjcdickgacDoor
open Go.RowKit

theorem nan_word (a b : Nat) (ha : a < 2) (hb : b < 4503599627370495) : nn (a * 9223372036854775808 + 9218868437227405312 + 1 + b) = true := by
  have h := read_nan ((a * 9223372036854775808 + 9218868437227405312 + 1 + b : Nat) : Int) (by omega) (by omega) (by
    unfold exF
    rcases (show a = 0 ∨ a = 1 by omega) with rfl | rfl <;> omega) (by unfold frF; omega)
  rw [Int.toNat_natCast] at h
  exact h
theorem nan_cut (t : Nat) : nn (t % 2 * 2 ^ 63 + 9218868437227405312 + 1 + t / 2 % (2 ^ 52 - 1)) = true :=
  nan_word (t % 2) (t / 2 % (2 ^ 52 - 1)) (by omega) (by omega)

/-- What an operation may leave: its number, or any that is none. -/
def Ar (o : Option Nat) (r : Nat) : Prop := (∀ v, o = some v → r = v) ∧ (o = none → nn r = true)
theorem sub_run (X Y : Nat) (w : World) : ∃ r n, (binOp .sub 24 (.float .f64 X) (.float .f64 Y)).run Tryd.prog w = .ok (.float .f64 r) (w.drewN n) ∧ Ar (Ieee.double.sub X Y) r := by
  cases h : Ieee.double.sub X Y with
  | some v =>
    have h2 : FloatKind.f64.format.sub X Y = some v := h
    exact ⟨v, 0, by simp [binOp, Op.floatArith, h2]; rfl, fun u hu => by cases hu; rfl, fun hu => by cases hu⟩
  | none =>
    have h2 : FloatKind.f64.format.sub X Y = none := h
    refine ⟨(Question.nanBits .f64 X Y).cut (w.tape w.drawn (.nanBits .f64 X Y)), 1, ?_, (fun u hu => by cases hu), fun _ => nan_cut _⟩
    simp [binOp, Op.floatArith, h2, Question.forced]
    rfl
theorem add_run (X Y : Nat) (w : World) : ∃ r n, (binOp .add 24 (.float .f64 X) (.float .f64 Y)).run Tryd.prog w = .ok (.float .f64 r) (w.drewN n) ∧ Ar (Ieee.double.add X Y) r := by
  cases h : Ieee.double.add X Y with
  | some v =>
    have h2 : FloatKind.f64.format.add X Y = some v := h
    exact ⟨v, 0, by simp [binOp, Op.floatArith, h2]; rfl, fun u hu => by cases hu; rfl, fun hu => by cases hu⟩
  | none =>
    have h2 : FloatKind.f64.format.add X Y = none := h
    refine ⟨(Question.nanBits .f64 X Y).cut (w.tape w.drawn (.nanBits .f64 X Y)), 1, ?_, (fun u hu => by cases hu), fun _ => nan_cut _⟩
    simp [binOp, Op.floatArith, h2, Question.forced]
    rfl
theorem quo_run (X Y : Nat) (w : World) : ∃ r n, (binOp .quo 24 (.float .f64 X) (.float .f64 Y)).run Tryd.prog w = .ok (.float .f64 r) (w.drewN n) ∧ Ar (Ieee.double.div X Y) r := by
  cases h : Ieee.double.div X Y with
  | some v =>
    have h2 : FloatKind.f64.format.div X Y = some v := h
    exact ⟨v, 0, by simp [binOp, Op.floatArith, h2]; rfl, fun u hu => by cases hu; rfl, fun hu => by cases hu⟩
  | none =>
    have h2 : FloatKind.f64.format.div X Y = none := h
    refine ⟨(Question.nanBits .f64 X Y).cut (w.tape w.drawn (.nanBits .f64 X Y)), 1, ?_, (fun u hu => by cases hu), fun _ => nan_cut _⟩
    simp [binOp, Op.floatArith, h2, Question.forced]
    rfl

/-- Four. -/
def b4 : Nat := 4616189618054758400
/-- What Blend may leave. -/
def Bl (X F r : Nat) : Prop := ∃ d q, Ar (Ieee.double.sub F X) d ∧ Ar (Ieee.double.div d b4) q ∧ Ar (Ieee.double.add X q) r
def BlR (X F r : Nat) : Prop := ∃ d q, Ar (Ieee.double.sub F X) d ∧ Ar (Ieee.double.div d b4) q ∧ Ar (Ieee.double.add q X) r
/-- The same word, or two that are no numbers. -/
def Lk (X Y : Nat) : Prop := X = Y ∨ (nn X = true ∧ nn Y = true)

theorem sum_comm (a b : Ieee.Datum) : a.sum b = b.sum a := by
  cases a <;> cases b <;> try rfl
  · rename_i s m i t n j
    show some (Ieee.Datum.number _ _ _) = some (Ieee.Datum.number _ _ _)
    have hm : min i j = min j i := by omega
    rw [hm, Int.add_comm, Bool.and_comm]
  · rename_i s t
    show (if s = t then some (Ieee.Datum.infinity s) else none) = (if t = s then some (Ieee.Datum.infinity t) else none)
    by_cases h : s = t
    · rw [if_pos h, if_pos h.symm, h]
    · rw [if_neg h, if_neg (fun e => h e.symm)]
theorem add_comm (X Y : Nat) : Ieee.double.add X Y = Ieee.double.add Y X := by
  unfold Ieee.Format.add
  rw [sum_comm]
theorem nan_form (X : Nat) (h : nn X = true) : ∃ s t, Ieee.double.read X = .nan s t := by
  have h2 : (Ieee.double.read X).isNaN = true := h
  cases hr : Ieee.double.read X with
  | number => rw [hr] at h2; cases h2
  | infinity => rw [hr] at h2; cases h2
  | nan s t => exact ⟨s, t, rfl⟩
theorem sum_nan_r (a : Ieee.Datum) (s : Bool) (t : Nat) : a.sum (.nan s t) = none := by cases a <;> rfl
theorem add_nan_r (X Y : Nat) (h : nn Y = true) : Ieee.double.add X Y = none := by
  obtain ⟨s, t, hr⟩ := nan_form Y h
  unfold Ieee.Format.add
  rw [hr, sum_nan_r]
  rfl
theorem sub_nan_r (X Y : Nat) (h : nn Y = true) : Ieee.double.sub X Y = none := by
  obtain ⟨s, t, hr⟩ := nan_form Y h
  unfold Ieee.Format.sub
  rw [hr]
  show ((Ieee.double.read X).sum (.nan (!s) t)).map _ = none
  rw [sum_nan_r]
  rfl
theorem div_nan_l (X Y : Nat) (h : nn X = true) : Ieee.double.div X Y = none := by
  obtain ⟨s, t, hr⟩ := nan_form X h
  unfold Ieee.Format.div
  rw [hr]
  cases Ieee.double.read Y <;> rfl
theorem Ar.lk {o : Option Nat} {r r' : Nat} (h : Ar o r) (h' : Ar o r') : Lk r r' := by
  cases o with
  | none => exact .inr ⟨h.2 rfl, h'.2 rfl⟩
  | some v => exact .inl ((h.1 v rfl).trans (h'.1 v rfl).symm)
theorem Bl.lk {X Y F r r' : Nat} (hXY : Lk X Y) (h : Bl X F r) (h' : BlR Y F r') : Lk r r' := by
  obtain ⟨d, q, a1, a2, a3⟩ := h
  obtain ⟨d', q', c1, c2, c3⟩ := h'
  have hd : Lk d d' := by
    rcases hXY with rfl | ⟨hx, hy⟩
    · exact a1.lk c1
    · rw [sub_nan_r _ _ hx] at a1
      rw [sub_nan_r _ _ hy] at c1
      exact a1.lk c1
  have hq : Lk q q' := by
    rcases hd with rfl | ⟨hx, hy⟩
    · exact a2.lk c2
    · rw [div_nan_l _ _ hx] at a2
      rw [div_nan_l _ _ hy] at c2
      exact a2.lk c2
  rw [add_comm] at c3
  rcases hq with rfl | ⟨hx, hy⟩
  · rcases hXY with rfl | ⟨hx, hy⟩
    · exact a3.lk c3
    · rw [add_comm, add_nan_r _ _ hx] at a3
      rw [add_comm, add_nan_r _ _ hy] at c3
      exact a3.lk c3
  · rw [add_nan_r _ _ hx] at a3
    rw [add_nan_r _ _ hy] at c3
    exact a3.lk c3

set_option maxHeartbeats 400000 in
theorem blend_any (X F : Nat) (w : World) : Calls Tryd.prog 7 #[.float .f64 X, .float .f64 F] w fun e w' => ∃ r n, e = .returned (.float .f64 r) ∧ w' = w.drewN n ∧ Bl X F r := by
  obtain ⟨d, n1, h1, a1⟩ := sub_run F X w
  obtain ⟨q, n2, h2, a2⟩ := quo_run d b4 (w.drewN n1)
  obtain ⟨r, n3, h3, a3⟩ := add_run X q (w.drewN (n1 + n2))
  have HB : Hid (Bl X F r) := ⟨d, q, a1, a2, a3⟩
  clear a1 a2 a3
  unfold b4 at h2
  go_enter Tryd.func7, Tryd.ntmps7
  go_wp2
  go_ret
  exact ⟨r, n1 + n2 + n3, rfl, rfl, HB.out⟩

set_option maxHeartbeats 400000 in
theorem rblend_any (X F : Nat) (w : World) : Calls Tryd.prog 13 #[.float .f64 X, .float .f64 F] w fun e w' => ∃ r n, e = .returned (.float .f64 r) ∧ w' = w.drewN n ∧ BlR X F r := by
  obtain ⟨d, n1, h1, a1⟩ := sub_run F X w
  obtain ⟨q, n2, h2, a2⟩ := quo_run d b4 (w.drewN n1)
  obtain ⟨r, n3, h3, a3⟩ := add_run q X (w.drewN (n1 + n2))
  have HB : Hid (BlR X F r) := ⟨d, q, a1, a2, a3⟩
  clear a1 a2 a3
  unfold b4 at h2
  go_enter Tryd.func13, Tryd.ntmps13
  go_wp2
  go_ret
  exact ⟨r, n1 + n2 + n3, rfl, rfl, HB.out⟩

/-- same, of words that are alike. -/
theorem same_lk (X Y : Nat) (h : Lk X Y) (w : World) : Calls Tryd.prog 11 #[.float .f64 X, .int .u64 Y] w fun e w' => e = .returned (.bool true) ∧ w' = w := by
  rcases h with rfl | ⟨hx, hy⟩
  · exact same_self X w
  · have f1 := from_run (Y : Int)
    have b1 := bits_run X
    rw [Int.toNat_natCast] at f1
    have n1 := self_ne X
    have n2 := self_ne Y
    rw [hx] at n1
    rw [hy] at n2
    clear hx hy
    go_enter Tryd.func11, Tryd.ntmps11
    go_wp2
    go_ret
    exact ⟨rfl, rfl⟩

end Go.Proofs.YtjlbbnjcdickgacDoor
