/- The walk's refuse and count. -/
import Derived.Test.YtljcbibcdajhiaaTcD
import Derived.WalkLawsBesides
namespace Go.Proofs.Ytljcbibcdajhiaa
open Go.RowKit

/-- The texts with slashes between them. -/
def joinB : List ByteArray → ByteArray
  | [] => ⟨#[]⟩
  | [s] => s
  | s :: t :: r => s ++ ⟨#[47]⟩ ++ joinB (t :: r)
theorem joinB_snoc (ns : List ByteArray) (s : ByteArray) (h : ns ≠ []) : joinB (ns ++ [s]) = joinB ns ++ ⟨#[47]⟩ ++ s := by
  induction ns with
  | nil => exact absurd rfl h
  | cons a ns ih =>
    cases ns with
    | nil => rfl
    | cons b ns =>
      show a ++ ⟨#[47]⟩ ++ joinB (b :: ns ++ [s]) = a ++ ⟨#[47]⟩ ++ joinB (b :: ns) ++ ⟨#[47]⟩ ++ s
      rw [ih (by simp)]
      simp [ByteArray.append_assoc]
/-- What strings.Join is wanted for. -/
def JoinC : Prop := ∀ (x : Option Addr) (c : Nat) (xs : List ByteArray) (w : World), StrL w x xs → xs.length ≤ c → xs.length ≤ 64 → (∀ s ∈ xs, s.size ≤ 1048576) →
  Calls Try.prog 55 #[.slice x xs.length c, .string ⟨#[47]⟩] w fun e w' => e = .returned (.string (joinB xs)) ∧ Below w.heap.size w w'

/-- Block g is a walk: the names on the way, the bytes so far. -/
structure Wk (w : World) (g : Nat) (x : Option Addr) (c : Nat) (ns : List ByteArray) (b : Int) : Prop where
  c0 : w.cell? ⟨g, 0, none⟩ = some (.slice x ns.length c)
  c1 : w.cell? ⟨g, 1, none⟩ = some (.int .i64 b)
  f0 : w.frozen? ⟨g, 0, none⟩ = false
  f1 : w.frozen? ⟨g, 1, none⟩ = false
  row : StrL w x ns
  len : ns.length ≤ c
/-- What a walk gives up with. -/
def offV (p : ByteArray) (code : Int) : Value := .iface 85 (.agg #[.string p, .int .i64 code])

set_option maxHeartbeats 800000 in
theorem refuse_ok (g : Nat) (w : World) :
    Calls Try.prog 47 #[.pointer (some ⟨g, 0, none⟩), .int .i64 0] w fun e w' => e = .returned (.tuple #[]) ∧ w' = w := by
  go_enter Try.func47, Try.ntmps47
  go_wp2
  go_end0
  exact ⟨rfl, rfl⟩

set_option maxHeartbeats 800000 in
theorem refuse_bad (JC : JoinC) (g : Nat) (x : Option Addr) (c : Nat) (ns : List ByteArray) (b code : Int) (w : World) (W : Wk w g x c ns b) (hc : code ≠ 0) (hl : ns.length ≤ 64) (hj : ∀ s ∈ ns, s.size ≤ 1048576) :
    Calls Try.prog 47 #[.pointer (some ⟨g, 0, none⟩), .int .i64 code] w fun e w' => e = .panicked [{ v := offV (joinB ns) code, recovered := false }] ∧ Below w.heap.size w w' := by
  have c0 := W.c0
  have J := JC x c ns w W.row W.len hl hj
  have hb : (code == 0) = false := by simpa using hc
  have hb2 : (code != 0) = true := by simpa using hc
  generalize joinB ns = P at *
  go_enter Try.func47, Try.ntmps47
  go_wp2_with fail
  refine J.mono ?_
  rintro e w1 ⟨rfl, b1⟩
  clear J
  go_wp2
  exact ⟨rfl, rfl, b1⟩

/-- Behind count: the bytes, or too many of them. -/
theorem Wk.put {w : World} {g : Nat} {x : Option Addr} {c : Nat} {ns : List ByteArray} {b : Int} (W : Wk w g x c ns b) (b' : Int) (hx : ∀ q o, x = some ⟨q, o, none⟩ → q ≠ g) : Wk (w.setCell ⟨g, 1, none⟩ (.int .i64 b')) g x c ns b' := by
  refine ⟨?_, World.cell?_setCell_same _ _ _ W.c1, ?_, ?_, fun k hk => ?_, W.len⟩
  · rw [World.cell?_setCell_other _ _ _ _ (fun e => by cases e)]; exact W.c0
  · rw [World.frozen?_setCell]; exact W.f0
  · rw [World.frozen?_setCell]; exact W.f1
  · obtain ⟨q, o, h1, h2, h3⟩ := W.row k hk
    refine ⟨q, o, h1, by simpa using h2, ?_⟩
    rw [World.cell?_setCell_other _ _ _ _ (fun e => hx q o h1 (by have h := congrArg Addr.block e; first | exact h | exact h.symm))]
    exact h3

set_option maxHeartbeats 800000 in
theorem count_ok (g : Nat) (x : Option Addr) (c : Nat) (ns : List ByteArray) (b n : Int) (w : World) (W : Wk w g x c ns b) (h0 : 0 ≤ b + n) (h1 : b + n ≤ 1048576) :
    Calls Try.prog 49 #[.pointer (some ⟨g, 0, none⟩), .int .i64 n] w fun e w' => e = .returned (.tuple #[]) ∧ w' = w.setCell ⟨g, 1, none⟩ (.int .i64 (b + n)) := by
  have c1 := W.c1
  have f1 := W.f1
  have s1 : (w.setCell ⟨g, 1, none⟩ (.int .i64 (b + n))).cell? ⟨g, 1, none⟩ = some (.int .i64 (b + n)) := World.cell?_setCell_same _ _ _ W.c1
  go_enter Try.func49, Try.ntmps49
  go_wp2
  go_end0
  exact ⟨rfl, rfl⟩

set_option maxHeartbeats 800000 in
theorem count_bad (JC : JoinC) (g : Nat) (x : Option Addr) (c : Nat) (ns : List ByteArray) (b n : Int) (w : World) (W : Wk w g x c ns b) (hx : ∀ q o, x = some ⟨q, o, none⟩ → q ≠ g) (h0 : 1048576 < b + n) (h1 : b + n ≤ 9223372036854775807) (hl : ns.length ≤ 64) (hj : ∀ s ∈ ns, s.size ≤ 1048576) (B : Nat) (hB : B ≤ g) (hBw : B ≤ w.heap.size) :
    Calls Try.prog 49 #[.pointer (some ⟨g, 0, none⟩), .int .i64 n] w fun e w' => e = .panicked [{ v := offV (joinB ns) 2, recovered := false }] ∧ Below B w w' := by
  have c1 := W.c1
  have f1 := W.f1
  have s1 : (w.setCell ⟨g, 1, none⟩ (.int .i64 (b + n))).cell? ⟨g, 1, none⟩ = some (.int .i64 (b + n)) := World.cell?_setCell_same _ _ _ W.c1
  have R := refuse_bad JC g x c ns (b + n) 2 (w.setCell ⟨g, 1, none⟩ (.int .i64 (b + n))) (W.put (b + n) hx) (by decide) hl hj
  generalize joinB ns = P at *
  go_enter Try.func49, Try.ntmps49
  go_wp2_with fail
  refine R.mono ?_
  rintro e w1 ⟨rfl, b1⟩
  clear R
  go_wp2
  exact ⟨rfl, rfl, ((Below.refl B w).setCell hB _).trans (b1.mono (by simpa using hBw))⟩

end Go.Proofs.Ytljcbibcdajhiaa
