/- info.Print; walked. -/
import Derived.Test.YtjhbfkckkinfjaaDoorInH
import Derived.Lib.ItoaLen
namespace Go.Proofs.YtjhbfkckkinfjaaDoor
open Go.RowKit Go.Shelf

theorem szINF : (Tryd.prog.info? 26).map (·.size) = some 37 := by kernel_rfl
theorem Inf.range {w : World} {g : Nat} {P : ByteArray} {D : Nat → Int} {z : Int} {vr : Value} {F : ByteArray} {vs : Value} (h : Inf w g P D z vr F vs) : w.rangeAt g 0 (infL P D z vr F vs) := fun j v hv => by
  have hj : j < 37 := by
    have := (List.getElem?_eq_some_iff.1 hv).1
    rw [infL_len] at this; exact this
  rw [Nat.zero_add]
  by_cases h0 : j = 0
  · subst h0; rw [h.path, ← hv]; rfl
  · by_cases h1 : j < 33
    · obtain ⟨i, rfl⟩ : ∃ i, j = 1 + i := ⟨j - 1, by omega⟩
      rw [h.dig i (by omega), ← hv, infL_dig _ _ _ _ _ _ i (by omega)]
    · obtain ⟨i, rfl⟩ : ∃ i, j = 33 + i := ⟨j - 33, by omega⟩
      rw [infL_tail] at hv
      rcases (show i = 0 ∨ i = 1 ∨ i = 2 ∨ i = 3 from by omega) with rfl | rfl | rfl | rfl
      · rw [h.size, ← hv]; rfl
      · rw [h.refs, ← hv]; rfl
      · rw [h.from_, ← hv]; rfl
      · rw [h.signs, ← hv]; rfl
/-- The whole info read. -/
theorem wpList_load_inf {ops : Array Oper} {rest : List Oper} {o : Oper} {a : Act} {w : World} {Q : Exit → Act → World → Prop} {g : Nat} {P : ByteArray} {D : Nat → Int} {z : Int} {vr : Value} {F : ByteArray} {vs : Value} (hgd : o.guard = none) (x : Operand) (ho : o.op = .load 26 x)
    (hx : a.eval x = .pointer (some ⟨g, 0, none⟩)) (h : Inf w g P D z vr F vs) (hK : wpList Tryd.prog ops Q rest (a.put o.dst (.agg (infC P D z vr F vs))) w) : wpList Tryd.prog ops Q (o :: rest) a w :=
  wpList_load_mid hgd 26 x ho g 0 hx (infL P D z vr F vs) _ h.range Tryd.underlying26 rfl (by rw [szINF]; exact congrArg some (infC_size P D z vr F vs).symm) hK

def hdP : ByteArray := ⟨#[80, 97, 116, 104, 58, 32]⟩
def hdH : ByteArray := ⟨#[72, 97, 115, 104, 58, 32, 115, 104, 97, 50, 53, 54, 58]⟩
def hdZ : ByteArray := ⟨#[83, 105, 122, 101, 58, 32]⟩
def hdR : ByteArray := ⟨#[82, 101, 102, 115, 58]⟩
def hdF : ByteArray := ⟨#[70, 114, 111, 109, 58, 32]⟩
def hdS : ByteArray := ⟨#[83, 105, 103, 110, 58, 32]⟩
def itB (z : Int) : ByteArray := ⟨(Lib.itoa z).toArray⟩
def emp : ByteArray := ⟨#[]⟩
/-- The first lines. -/
def pt1 (P : ByteArray) : ByteArray := emp ++ hdP ++ P ++ nl
def pt2 (P : ByteArray) (D : Nat → Int) : ByteArray := pt1 P ++ hdH ++ b32Str (strFn 32 D) ++ nl
def pt3 (P : ByteArray) (D : Nat → Int) (z : Int) : ByteArray := pt2 P D ++ hdZ ++ itB z ++ nl
def pt4 (P : ByteArray) (D : Nat → Int) (z : Int) (fr : Nat → ByteArray) (nr : Nat) : ByteArray := pt3 P D z ++ hdR ++ bsS fr nr ++ nl
def ptF (t F : ByteArray) : ByteArray := if F.size = 0 then t else t ++ hdF ++ F ++ nl
theorem ptF_z {t F : ByteArray} (h : F.size = 0) : ptF t F = t := if_pos h
theorem ptF_n {t F : ByteArray} (h : F.size ≠ 0) : ptF t F = t ++ hdF ++ F ++ nl := if_neg h
def ptS (t : ByteArray) (fs : Nat → ByteArray) : Nat → ByteArray
  | 0 => t
  | n + 1 => ptS t fs n ++ hdS ++ fs n ++ nl
def prT (P : ByteArray) (D : Nat → Int) (z : Int) (fr : Nat → ByteArray) (nr : Nat) (F : ByteArray) (fs : Nat → ByteArray) (ns : Nat) : ByteArray := ptS (ptF (pt4 P D z fr nr) F) fs ns

theorem snOk_max {s : ByteArray} (h : snOk s) : s.size ≤ 85 := by
  obtain ⟨h1, h2, h3⟩ := h
  have a := h2.2.1
  have b := h3.1
  unfold snA at a
  unfold snB at b
  rw [ByteArray.size_extract] at a b
  omega
theorem itoa_le (z : Int) (h0 : 0 ≤ z) (h1 : z ≤ 1048576) : (itB z).size ≤ 21 := Lib.itoa_length_le z (by omega) (by omega)
theorem b32_size (D : Nat → Int) : (b32Str (strFn 32 D)).size = 52 := by
  unfold b32Str
  rw [strFn_size, strFn_size]
  rfl
theorem ptS_size (t : ByteArray) (fs : Nat → ByteArray) (n : Nat) (h : ∀ i, i < n → (fs i).size ≤ 85) : (ptS t fs n).size ≤ t.size + 92 * n := by
  induction n with
  | zero => exact Nat.le_refl _
  | succ n ih =>
    have h1 := ih (fun i hi => h i (by omega))
    have h2 := h n (by omega)
    show (ptS t fs n ++ hdS ++ fs n ++ nl).size ≤ _
    rw [app_size, app_size, app_size]
    show _ + 6 + _ + 1 ≤ _
    omega

end Go.Proofs.YtjhbfkckkinfjaaDoor
