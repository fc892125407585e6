/- gauge.Less and the law GaugeOrders, walked. -/
import Derived.Test.YtjlbbnjcdickgacGW
import Derived.Laws.Externs
namespace Go.Proofs.Ytjlbbnjcdickgac
open Go.RowKit

theorem from_run (a : Int) (w : World) : (callFunc 12 #[.int .u64 a]).run Try.prog w = .ok (.value (.float .f64 a.toNat)) w := by
  rw [run_callFunc_extern Try.func12 (by kernel_rfl) (by kernel_rfl) (by kernel_rfl) (e := Extern.MathFloatBits.float64frombits) (by kernel_rfl)]
  rfl

/-- no number? -/
def nn (a : Nat) : Bool := fnan Ieee.double a
/-- below? -/
def lo (a b : Nat) : Bool := FloatKind.f64.format.order a b == some .lt
/-- gauge.Less. -/
def ls (a b : Nat) : Bool := if nn b = true then !nn a else lo a b

theorem self_eq (a : Nat) : (FloatKind.f64.format.order a a == some .eq) = !nn a := by
  rw [show FloatKind.f64.format = Ieee.double from rfl, Bool.eq_iff_iff, feq_iff]
  unfold nn
  cases fnan Ieee.double a <;> simp

theorem self_ne (a : Nat) : (FloatKind.f64.format.order a a != some .eq) = nn a := by
  have := self_eq a
  rw [bne, this]; simp

set_option maxHeartbeats 400000 in
theorem isnan_any (a : Nat) (w : World) :
    Calls Try.prog 18 #[.float .f64 a] w fun e w' => e = .returned (.bool (nn a)) ∧ w' = w := by
  have h := self_ne a
  go_enter Try.func18, Try.ntmps18
  go_wp2
  go_ret
  exact ⟨rfl, rfl⟩

set_option maxHeartbeats 400000 in
theorem less_any (a b : Nat) (w : World) :
    Calls Try.prog 13 #[.float .f64 a, .float .f64 b] w fun e w' => e = .returned (.bool (ls a b)) ∧ w' = w := by
  unfold ls
  have hl : (FloatKind.f64.format.order a b == some .lt) = lo a b := rfl
  generalize hA : nn a = A at *
  have HA : Hid (nn a = A) := hA
  generalize hB : nn b = B at *
  have HB : Hid (nn b = B) := hB
  clear hA hB
  cases B
  all_goals
    go_enter Try.func13, Try.ntmps13
    go_wp2_with fail
    refine (isnan_any b _).mono ?_
    rintro e w1 ⟨rfl, rfl⟩
    rw [HB.out]
    go_wp2_with fail
  · go_ret
    exact ⟨rfl, rfl⟩
  · refine (isnan_any a _).mono ?_
    rintro e w1 ⟨rfl, rfl⟩
    rw [HA.out]
    go_wp2_with fail
    go_ret
    exact ⟨rfl, rfl⟩

theorem lo_iff (a b : Nat) : lo a b = true ↔ nn a = false ∧ nn b = false ∧ (fside Ieee.double a < fside Ieee.double b ∨ fside Ieee.double a = fside Ieee.double b ∧ fsize Ieee.double a < fsize Ieee.double b) := flt_iff Ieee.double a b

theorem ls_facts (f g h : Nat) : ls f f = false ∧ (ls f g = true → ls g f = false) ∧ (ls f g = true → ls g h = true → ls f h = true) ∧ (ls f g = false → ls g h = false → ls f h = false)
    ∧ (nn f = true → ls f g = false ∧ ls g f = !nn g) ∧ (nn f = false → nn g = true → ls f g = true) ∧ (nn f = false → nn g = false → ls f g = lo f g) := by
  have a1 := lo_iff f f
  have a2 := lo_iff f g
  have a3 := lo_iff g f
  have a4 := lo_iff g h
  have a5 := lo_iff f h
  unfold ls
  generalize fside Ieee.double f = sf at *
  generalize fside Ieee.double g = sg at *
  generalize fside Ieee.double h = sh at *
  generalize fsize Ieee.double f = zf at *
  generalize fsize Ieee.double g = zg at *
  generalize fsize Ieee.double h = zh at *
  cases nf : nn f <;> cases ng : nn g <;> cases nh : nn h <;> simp [nf, ng, nh] at a1 a2 a3 a4 a5 ⊢
  all_goals
    cases x1 : lo f f <;> cases x2 : lo f g <;> cases x3 : lo g f <;> cases x4 : lo g h <;> cases x5 : lo f h <;> simp [x1, x2, x3, x4, x5] at a1 a2 a3 a4 a5 ⊢ <;> omega
set_option maxHeartbeats 4000000 in
theorem orders_walk (a b c : Int) (w : World) (_ : 0 ≤ a) (_ : a ≤ 18446744073709551615) (_ : 0 ≤ b) (_ : b ≤ 18446744073709551615) (_ : 0 ≤ c) (_ : c ≤ 18446744073709551615) :
    Calls Try.prog 4 #[.int .u64 a, .int .u64 b, .int .u64 c] w fun e w' => e = .returned (.bool true) ∧ Below w.heap.size w w' := by
  have ff := from_run a
  have fg := from_run b
  have fh := from_run c
  have l12 : Hid (ls 4607182418800017408 4611686018427387904 = true) := by show _ = _; decide +kernel
  have l21 : Hid (ls 4611686018427387904 4607182418800017408 = false) := by show _ = _; decide +kernel
  generalize a.toNat = f at *
  generalize b.toNat = g at *
  generalize c.toNat = h at *
  have F := ls_facts f g h
  have nf := self_ne f
  have ef := self_eq f
  have ng := self_ne g
  have eg := self_eq g
  have ol : (FloatKind.f64.format.order f g == some .lt) = lo f g := rfl
  generalize h1 : ls f f = A1 at *
  generalize h2 : ls f g = A2 at *
  generalize h3 : ls g f = A3 at *
  generalize h4 : ls g h = A4 at *
  generalize h5 : ls f h = A5 at *
  generalize nn f = NF at *
  generalize nn g = NG at *
  generalize lo f g = LO at *
  have H1 : Hid (ls f f = A1) := h1
  have H2 : Hid (ls f g = A2) := h2
  have H3 : Hid (ls g f = A3) := h3
  have H4 : Hid (ls g h = A4) := h4
  have H5 : Hid (ls f h = A5) := h5
  clear h1 h2 h3 h4 h5
  cases NF <;> cases NG <;> cases LO <;> cases A1 <;> cases A2 <;> cases A3 <;> cases A4 <;> cases A5 <;> simp at F
  all_goals clear F
  all_goals simp only [Bool.not_false, Bool.not_true] at ef eg
  all_goals
    go_enter Try.func4, Try.ntmps4
    go_wp2_with fail
  all_goals
    iterate 14
      try
        refine (less_any _ _ _).mono ?_
        rintro e w1 ⟨rfl, rfl⟩
        first | rw [H1.out] | rw [H2.out] | rw [H3.out] | rw [H4.out] | rw [H5.out] | rw [l12.out] | rw [l21.out]
        go_wp2_with fail
  all_goals
    go_ret
    exact ⟨rfl, Below.refl _ _⟩

end Go.Proofs.Ytjlbbnjcdickgac
