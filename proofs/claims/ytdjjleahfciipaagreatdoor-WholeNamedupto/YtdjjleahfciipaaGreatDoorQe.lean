/- Gathered: TcD TcE. -/
import Derived.Deep.RegionWith
import Derived.WalkLawsBesides
import Derived.Test.YtdjjleahfciipaaGreatDoorQd
/- The bytes of a node and of all below it. -/
namespace Go.Proofs.YtdjjleahfciipaaGreatDoor
open Go.RowKit

mutual
def tbT : Tr → Int
  | .mk k e t ns ks => nbP k e t + tbL ns ks
def tbL : List ByteArray → List Tr → Int
  | s :: ns, T :: ks => ebP s + tbT T + tbL ns ks
  | _, _ => 0
end
mutual
def szT : Tr → Prop
  | .mk _ _ t ns ks => t.size ≤ 140737488351232 ∧ szL ns ks
def szL : List ByteArray → List Tr → Prop
  | s :: ns, T :: ks => s.size ≤ 140737488351232 ∧ szT T ∧ szL ns ks
  | _, _ => True
end
theorem nbP_bd (k : Int) (e : Bool) (t : ByteArray) : 0 ≤ nbP k e t ∧ nbP k e t ≤ 1099511628000 := by
  have := fr_bd t.size
  unfold nbP
  split
  · cases e <;> simp <;> omega
  · split
    · omega
    · split <;> omega
theorem ebP_bd (s : ByteArray) : 0 ≤ ebP s ∧ ebP s ≤ 1099511628000 := by
  have := fr_bd s.size
  unfold ebP
  omega
theorem tbL_take (ns : List ByteArray) : ∀ (ks : List Tr) (i : Nat) (s : ByteArray) (T : Tr), ns[i]? = some s → ks[i]? = some T → tbL (ns.take (i + 1)) (ks.take (i + 1)) = tbL (ns.take i) (ks.take i) + (ebP s + tbT T) := by
  induction ns with
  | nil => intro ks i s T h; simp at h
  | cons a ns ih =>
    intro ks i s T h1 h2
    cases ks with
    | nil => simp at h2
    | cons K ks =>
      cases i with
      | zero =>
        simp at h1 h2
        subst h1 h2
        simp [tbL]
      | succ i =>
        have := ih ks i s T (by simpa using h1) (by simpa using h2)
        rw [List.take_succ_cons, List.take_succ_cons, List.take_succ_cons, List.take_succ_cons, tbL, tbL, this]
        omega
theorem szL_at (ns : List ByteArray) : ∀ (ks : List Tr) (i : Nat) (s : ByteArray) (T : Tr), szL ns ks → ns[i]? = some s → ks[i]? = some T → s.size ≤ 140737488351232 ∧ szT T := by
  induction ns with
  | nil => intro ks i s T _ h; simp at h
  | cons a ns ih =>
    intro ks i s T h0 h1 h2
    cases ks with
    | nil => simp at h2
    | cons K ks =>
      rw [szL] at h0
      cases i with
      | zero =>
        simp at h1 h2
        subst h1 h2
        exact ⟨h0.1, h0.2.1⟩
      | succ i => exact ih ks i s T h0.2.2 (by simpa using h1) (by simpa using h2)
theorem tb_nonneg (f : Nat) : ∀ (w : World) (v : Value) (T : Tr), At w f v T → 0 ≤ tbT T := by
  induction f with
  | zero => intro w v T h; exact h.elim
  | succ f ih =>
    rintro w v ⟨k, e, t, ns, ks⟩ ⟨x, n, c, rfl, l1, l2, l3, l4, hx⟩
    have EX : Ents w f x n ns ks := At.ents hx
    have key : ∀ i, i ≤ n → 0 ≤ tbL (ns.take i) (ks.take i) := by
      intro i
      induction i with
      | zero => intro _; simp [tbL]
      | succ i ih2 =>
        intro hi
        obtain ⟨s, hs⟩ : ∃ s, ns[i]? = some s := ⟨_, List.getElem?_eq_getElem (by omega)⟩
        obtain ⟨S, hS⟩ : ∃ s, ks[i]? = some s := ⟨_, List.getElem?_eq_getElem (by omega)⟩
        rw [tbL_take ns ks i s S hs hS]
        obtain ⟨g, o, a, b, d, f', p, q, _, _, _, _, _, _, _, hA⟩ := EX i s S (by omega) hs hS
        have := ih w _ S hA
        have := ebP_bd s
        have := ih2 (by omega)
        omega
    have := key n (Nat.le_refl _)
    rw [List.take_of_length_le (by omega), List.take_of_length_le (by omega)] at this
    have := nbP_bd k e t
    rw [tbT]
    omega

theorem tbL_mono (ns : List ByteArray) (ks : List Tr) (n : Nat) (l1 : ns.length = n) (l2 : ks.length = n) (HP : ∀ (j : Nat) (T : Tr), j < n → ks[j]? = some T → 0 ≤ tbT T) : ∀ d i, i + d = n → tbL (ns.take i) (ks.take i) ≤ tbL ns ks := by
  intro d
  induction d with
  | zero =>
    intro i hi
    rw [List.take_of_length_le (by omega), List.take_of_length_le (by omega)]
    exact Int.le_refl _
  | succ d ih =>
    intro i hi
    obtain ⟨s, hs⟩ : ∃ s, ns[i]? = some s := ⟨_, List.getElem?_eq_getElem (by omega)⟩
    obtain ⟨S, hS⟩ : ∃ s, ks[i]? = some s := ⟨_, List.getElem?_eq_getElem (by omega)⟩
    have h1 := tbL_take ns ks i s S hs hS
    have h2 := ih (i + 1) (by omega)
    have := HP i S (by omega) hS
    have := ebP_bd s
    omega
theorem tbL_nonneg (ns : List ByteArray) (ks : List Tr) (n : Nat) (l1 : ns.length = n) (l2 : ks.length = n) (HP : ∀ (j : Nat) (T : Tr), j < n → ks[j]? = some T → 0 ≤ tbT T) : ∀ i, i ≤ n → 0 ≤ tbL (ns.take i) (ks.take i) := by
  intro i
  induction i with
  | zero => intro _; simp [tbL]
  | succ i ih =>
    intro hi
    obtain ⟨s, hs⟩ : ∃ s, ns[i]? = some s := ⟨_, List.getElem?_eq_getElem (by omega)⟩
    obtain ⟨S, hS⟩ : ∃ s, ks[i]? = some s := ⟨_, List.getElem?_eq_getElem (by omega)⟩
    rw [tbL_take ns ks i s S hs hS]
    have := HP i S (by omega) hS
    have := ebP_bd s
    have := ih (by omega)
    omega
/-- A kid's block, behind what made memory above it. -/
theorem afterK {w w5 : World} {C : Array Value} {T1 : TypeId} (b : Below (w.alloc (.cells C T1)).heap.size (w.alloc (.cells C T1)) w5) : ∀ j, w5.cell? ⟨w.heap.size, j, none⟩ = C[j]? := fun j =>
  (b.cell (p := ⟨w.heap.size, j, none⟩) (by rw [World.size_alloc]; show w.heap.size < _; omega)).trans (World.cell?_alloc_new w _ _ j)

end Go.Proofs.YtdjjleahfciipaaGreatDoor
/- The walk's refuse and count. -/
namespace Go.Proofs.YtdjjleahfciipaaGreatDoor
open Go.RowKit

/-- The texts with slashes between them. -/
def joinB : List ByteArray → ByteArray
  | [] => ⟨#[]⟩
  | [s] => s
  | s :: t :: r => s ++ ⟨#[47]⟩ ++ joinB (t :: r)
theorem joinB_snoc (ns : List ByteArray) (s : ByteArray) (h : ns ≠ []) : joinB (ns ++ [s]) = joinB ns ++ ⟨#[47]⟩ ++ s := by
  induction ns with
  | nil => exact absurd rfl h
  | cons a ns ih =>
    cases ns with
    | nil => rfl
    | cons b ns =>
      show a ++ ⟨#[47]⟩ ++ joinB (b :: ns ++ [s]) = a ++ ⟨#[47]⟩ ++ joinB (b :: ns) ++ ⟨#[47]⟩ ++ s
      rw [ih (by simp)]
      simp [ByteArray.append_assoc]
/-- What strings.Join is wanted for. -/
def JoinC : Prop := ∀ (x : Option Addr) (c : Nat) (xs : List ByteArray) (w : World), StrL w x xs → xs.length ≤ c → xs.length ≤ 64 → (∀ s ∈ xs, s.size ≤ 1048576) →
  Calls Tryz.prog 94 #[.slice x xs.length c, .string ⟨#[47]⟩] w fun e w' => e = .returned (.string (joinB xs)) ∧ Below w.heap.size w w'

/-- Block g is a walk: the names on the way, the bytes so far. -/
structure Wk (w : World) (g : Nat) (x : Option Addr) (c : Nat) (ns : List ByteArray) (b : Int) : Prop where
  c0 : w.cell? ⟨g, 0, none⟩ = some (.slice x ns.length c)
  c1 : w.cell? ⟨g, 1, none⟩ = some (.int .i64 b)
  f0 : w.frozen? ⟨g, 0, none⟩ = false
  f1 : w.frozen? ⟨g, 1, none⟩ = false
  row : StrL w x ns
  len : ns.length ≤ c
/-- What a walk gives up with. -/
def offV (p : ByteArray) (code : Int) : Value := .iface 92 (.agg #[.string p, .int .i64 code])

set_option maxHeartbeats 800000 in
theorem refuse_ok (g : Nat) (w : World) :
    Calls Tryz.prog 67 #[.pointer (some ⟨g, 0, none⟩), .int .i64 0] w fun e w' => e = .returned (.tuple #[]) ∧ w' = w := by
  go_enter Tryz.func67, Tryz.ntmps67
  go_wp2
  go_end0
  exact ⟨rfl, rfl⟩

set_option maxHeartbeats 800000 in
theorem refuse_bad (JC : JoinC) (g : Nat) (x : Option Addr) (c : Nat) (ns : List ByteArray) (b code : Int) (w : World) (W : Wk w g x c ns b) (hc : code ≠ 0) (hl : ns.length ≤ 64) (hj : ∀ s ∈ ns, s.size ≤ 1048576) :
    Calls Tryz.prog 67 #[.pointer (some ⟨g, 0, none⟩), .int .i64 code] w fun e w' => e = .panicked [{ v := offV (joinB ns) code, recovered := false }] ∧ Below w.heap.size w w' := by
  have c0 := W.c0
  have J := JC x c ns w W.row W.len hl hj
  have hb : (code == 0) = false := by simpa using hc
  have hb2 : (code != 0) = true := by simpa using hc
  generalize joinB ns = P at *
  go_enter Tryz.func67, Tryz.ntmps67
  go_wp2_with fail
  refine J.mono ?_
  rintro e w1 ⟨rfl, b1⟩
  clear J
  go_wp2
  exact ⟨rfl, rfl, b1⟩

/-- Behind count: the bytes, or too many of them. -/
theorem Wk.put {w : World} {g : Nat} {x : Option Addr} {c : Nat} {ns : List ByteArray} {b : Int} (W : Wk w g x c ns b) (b' : Int) (hx : ∀ q o, x = some ⟨q, o, none⟩ → q ≠ g) : Wk (w.setCell ⟨g, 1, none⟩ (.int .i64 b')) g x c ns b' := by
  refine ⟨?_, World.cell?_setCell_same _ _ _ W.c1, ?_, ?_, fun k hk => ?_, W.len⟩
  · rw [World.cell?_setCell_other _ _ _ _ (fun e => by cases e)]; exact W.c0
  · rw [World.frozen?_setCell]; exact W.f0
  · rw [World.frozen?_setCell]; exact W.f1
  · obtain ⟨q, o, h1, h2, h3⟩ := W.row k hk
    refine ⟨q, o, h1, by simpa using h2, ?_⟩
    rw [World.cell?_setCell_other _ _ _ _ (fun e => hx q o h1 (by have h := congrArg Addr.block e; first | exact h | exact h.symm))]
    exact h3

set_option maxHeartbeats 800000 in
theorem count_ok (g : Nat) (x : Option Addr) (c : Nat) (ns : List ByteArray) (b n : Int) (w : World) (W : Wk w g x c ns b) (h0 : 0 ≤ b + n) (h1 : b + n ≤ 1048576) :
    Calls Tryz.prog 69 #[.pointer (some ⟨g, 0, none⟩), .int .i64 n] w fun e w' => e = .returned (.tuple #[]) ∧ w' = w.setCell ⟨g, 1, none⟩ (.int .i64 (b + n)) := by
  have c1 := W.c1
  have f1 := W.f1
  have s1 : (w.setCell ⟨g, 1, none⟩ (.int .i64 (b + n))).cell? ⟨g, 1, none⟩ = some (.int .i64 (b + n)) := World.cell?_setCell_same _ _ _ W.c1
  go_enter Tryz.func69, Tryz.ntmps69
  go_wp2
  go_end0
  exact ⟨rfl, rfl⟩

set_option maxHeartbeats 800000 in
theorem count_bad (JC : JoinC) (g : Nat) (x : Option Addr) (c : Nat) (ns : List ByteArray) (b n : Int) (w : World) (W : Wk w g x c ns b) (hx : ∀ q o, x = some ⟨q, o, none⟩ → q ≠ g) (h0 : 1048576 < b + n) (h1 : b + n ≤ 9223372036854775807) (hl : ns.length ≤ 64) (hj : ∀ s ∈ ns, s.size ≤ 1048576) (B : Nat) (hB : B ≤ g) (hBw : B ≤ w.heap.size) :
    Calls Tryz.prog 69 #[.pointer (some ⟨g, 0, none⟩), .int .i64 n] w fun e w' => e = .panicked [{ v := offV (joinB ns) 2, recovered := false }] ∧ Below B w w' := by
  have c1 := W.c1
  have f1 := W.f1
  have s1 : (w.setCell ⟨g, 1, none⟩ (.int .i64 (b + n))).cell? ⟨g, 1, none⟩ = some (.int .i64 (b + n)) := World.cell?_setCell_same _ _ _ W.c1
  have R := refuse_bad JC g x c ns (b + n) 2 (w.setCell ⟨g, 1, none⟩ (.int .i64 (b + n))) (W.put (b + n) hx) (by decide) hl hj
  generalize joinB ns = P at *
  go_enter Tryz.func69, Tryz.ntmps69
  go_wp2_with fail
  refine R.mono ?_
  rintro e w1 ⟨rfl, b1⟩
  clear R
  go_wp2
  exact ⟨rfl, rfl, ((Below.refl B w).setCell hB _).trans (b1.mono (by simpa using hBw))⟩

end Go.Proofs.YtdjjleahfciipaaGreatDoor
