/- The bytes of a node and of all below it. -/
import Derived.Test.YtpbgmknebhnonabTcC
import Derived.Test.YtpbgmknebhnonabTqA
import Derived.Deep.RegionWith
namespace Go.Proofs.Ytpbgmknebhnonab
open Go.RowKit

mutual
def tbT : Tr → Int
  | .mk k e t ns ks => nbP k e t + tbL ns ks
def tbL : List ByteArray → List Tr → Int
  | s :: ns, T :: ks => ebP s + tbT T + tbL ns ks
  | _, _ => 0
end
mutual
def szT : Tr → Prop
  | .mk _ _ t ns ks => t.size ≤ 140737488351232 ∧ szL ns ks
def szL : List ByteArray → List Tr → Prop
  | s :: ns, T :: ks => s.size ≤ 140737488351232 ∧ szT T ∧ szL ns ks
  | _, _ => True
end
theorem nbP_bd (k : Int) (e : Bool) (t : ByteArray) : 0 ≤ nbP k e t ∧ nbP k e t ≤ 1099511628000 := by
  have := fr_bd t.size
  unfold nbP
  split
  · cases e <;> simp <;> omega
  · split
    · omega
    · split <;> omega
theorem ebP_bd (s : ByteArray) : 0 ≤ ebP s ∧ ebP s ≤ 1099511628000 := by
  have := fr_bd s.size
  unfold ebP
  omega
theorem tbL_take (ns : List ByteArray) : ∀ (ks : List Tr) (i : Nat) (s : ByteArray) (T : Tr), ns[i]? = some s → ks[i]? = some T → tbL (ns.take (i + 1)) (ks.take (i + 1)) = tbL (ns.take i) (ks.take i) + (ebP s + tbT T) := by
  induction ns with
  | nil => intro ks i s T h; simp at h
  | cons a ns ih =>
    intro ks i s T h1 h2
    cases ks with
    | nil => simp at h2
    | cons K ks =>
      cases i with
      | zero =>
        simp at h1 h2
        subst h1 h2
        simp [tbL]
      | succ i =>
        have := ih ks i s T (by simpa using h1) (by simpa using h2)
        rw [List.take_succ_cons, List.take_succ_cons, List.take_succ_cons, List.take_succ_cons, tbL, tbL, this]
        omega
theorem szL_at (ns : List ByteArray) : ∀ (ks : List Tr) (i : Nat) (s : ByteArray) (T : Tr), szL ns ks → ns[i]? = some s → ks[i]? = some T → s.size ≤ 140737488351232 ∧ szT T := by
  induction ns with
  | nil => intro ks i s T _ h; simp at h
  | cons a ns ih =>
    intro ks i s T h0 h1 h2
    cases ks with
    | nil => simp at h2
    | cons K ks =>
      rw [szL] at h0
      cases i with
      | zero =>
        simp at h1 h2
        subst h1 h2
        exact ⟨h0.1, h0.2.1⟩
      | succ i => exact ih ks i s T h0.2.2 (by simpa using h1) (by simpa using h2)
theorem tb_nonneg (f : Nat) : ∀ (w : World) (v : Value) (T : Tr), At w f v T → 0 ≤ tbT T := by
  induction f with
  | zero => intro w v T h; exact h.elim
  | succ f ih =>
    rintro w v ⟨k, e, t, ns, ks⟩ ⟨x, n, c, rfl, l1, l2, l3, l4, hx⟩
    have EX : Ents w f x n ns ks := At.ents hx
    have key : ∀ i, i ≤ n → 0 ≤ tbL (ns.take i) (ks.take i) := by
      intro i
      induction i with
      | zero => intro _; simp [tbL]
      | succ i ih2 =>
        intro hi
        obtain ⟨s, hs⟩ : ∃ s, ns[i]? = some s := ⟨_, List.getElem?_eq_getElem (by omega)⟩
        obtain ⟨S, hS⟩ : ∃ s, ks[i]? = some s := ⟨_, List.getElem?_eq_getElem (by omega)⟩
        rw [tbL_take ns ks i s S hs hS]
        obtain ⟨g, o, a, b, d, f', p, q, _, _, _, _, _, _, _, hA⟩ := EX i s S (by omega) hs hS
        have := ih w _ S hA
        have := ebP_bd s
        have := ih2 (by omega)
        omega
    have := key n (Nat.le_refl _)
    rw [List.take_of_length_le (by omega), List.take_of_length_le (by omega)] at this
    have := nbP_bd k e t
    rw [tbT]
    omega

theorem tbL_mono (ns : List ByteArray) (ks : List Tr) (n : Nat) (l1 : ns.length = n) (l2 : ks.length = n) (HP : ∀ (j : Nat) (T : Tr), j < n → ks[j]? = some T → 0 ≤ tbT T) : ∀ d i, i + d = n → tbL (ns.take i) (ks.take i) ≤ tbL ns ks := by
  intro d
  induction d with
  | zero =>
    intro i hi
    rw [List.take_of_length_le (by omega), List.take_of_length_le (by omega)]
    exact Int.le_refl _
  | succ d ih =>
    intro i hi
    obtain ⟨s, hs⟩ : ∃ s, ns[i]? = some s := ⟨_, List.getElem?_eq_getElem (by omega)⟩
    obtain ⟨S, hS⟩ : ∃ s, ks[i]? = some s := ⟨_, List.getElem?_eq_getElem (by omega)⟩
    have h1 := tbL_take ns ks i s S hs hS
    have h2 := ih (i + 1) (by omega)
    have := HP i S (by omega) hS
    have := ebP_bd s
    omega
theorem tbL_nonneg (ns : List ByteArray) (ks : List Tr) (n : Nat) (l1 : ns.length = n) (l2 : ks.length = n) (HP : ∀ (j : Nat) (T : Tr), j < n → ks[j]? = some T → 0 ≤ tbT T) : ∀ i, i ≤ n → 0 ≤ tbL (ns.take i) (ks.take i) := by
  intro i
  induction i with
  | zero => intro _; simp [tbL]
  | succ i ih =>
    intro hi
    obtain ⟨s, hs⟩ : ∃ s, ns[i]? = some s := ⟨_, List.getElem?_eq_getElem (by omega)⟩
    obtain ⟨S, hS⟩ : ∃ s, ks[i]? = some s := ⟨_, List.getElem?_eq_getElem (by omega)⟩
    rw [tbL_take ns ks i s S hs hS]
    have := HP i S (by omega) hS
    have := ebP_bd s
    have := ih (by omega)
    omega
/-- A kid's block, behind what made memory above it. -/
theorem afterK {w w5 : World} {C : Array Value} {T1 : TypeId} (b : Below (w.alloc (.cells C T1)).heap.size (w.alloc (.cells C T1)) w5) : ∀ j, w5.cell? ⟨w.heap.size, j, none⟩ = C[j]? := fun j =>
  (b.cell (p := ⟨w.heap.size, j, none⟩) (by rw [World.size_alloc]; show w.heap.size < _; omega)).trans (World.cell?_alloc_new w _ _ j)

/-- The contract of treeBytes, at depth f. -/
def TbAt (f : Nat) : Prop := ∀ (v : Value) (T : Tr) (w : World), At w f v T → szT T → tbT T ≤ 4611686018427387904 → Calls Try.prog 30 #[v] w fun e w' => e = .returned (.int .i64 (tbT T)) ∧ Below w.heap.size w w'

set_option maxHeartbeats 8000000 in
theorem treeBytes_any (f : Nat) : TbAt f := by
  induction f with
  | zero => intro v T w h; exact h.elim
  | succ f IH =>
    rintro v ⟨k, e, t, ns, ks⟩ w ⟨x, n, c, rfl, l1, l2, l3, l4, hx⟩ hsz hbd
    have EX : Hid (Ents w f x n ns ks) := At.ents hx
    have LL : Hid (ns.length = n ∧ ks.length = n) := ⟨l1, l2⟩
    have HSZ : Hid (szT (.mk k e t ns ks)) := hsz
    have htz : t.size ≤ 140737488351232 := by rw [szT] at hsz; exact hsz.1
    have NB := fun w => nodeBytes_any k e t x n c w htz
    unfold ndV at NB
    clear hx
    go_enter Try.func30, Try.ntmps30
    go_wp2_with fail
    refine (NB _).mono ?_
    rintro r w2 ⟨rfl, b2⟩
    have N1 : Nd4 (w.alloc (.cells #[.int .i64 k, .bool e, .string t, .slice x n c] 25)) w.heap.size k e t x n c := Nd4.new w k e t x n c 25
    have B1 : Below w.heap.size w (w.alloc (.cells #[.int .i64 k, .bool e, .string t, .slice x n c] 25)) := (Below.refl _ _).alloc (Nat.le_refl _) _
    have N2 : Hid (Nd4 w2 w.heap.size k e t x n c) := N1.below b2
    have B2 : Hid (Below w.heap.size w w2) := B1.trans (b2.mono B1.size)
    have HP : Hid (∀ (j : Nat) (T : Tr), j < n → ks[j]? = some T → 0 ≤ tbT T) := fun j T hj hT => by
      obtain ⟨s, hs⟩ : ∃ s, ns[j]? = some s := ⟨_, List.getElem?_eq_getElem (by omega)⟩
      obtain ⟨g, o, a, b, d, f', p, q, _, _, _, _, _, _, _, hA⟩ := EX.out j s T hj hs hT
      exact tb_nonneg f w _ T hA
    have HMN : Hid (∀ i, i ≤ n → tbL (ns.take i) (ks.take i) ≤ tbL ns ks) := fun i hi => tbL_mono ns ks n l1 l2 HP.out (n - i) i (by omega)
    have HTT : Hid (tbT (.mk k e t ns ks) = nbP k e t + tbL ns ks) := by unfold Hid; rw [tbT]
    have hnb := nbP_bd k e t
    have hbd2 : nbP k e t + tbL ns ks ≤ 4611686018427387904 := by rw [← HTT.out]; exact hbd
    have HSL : Hid (szL ns ks) := by unfold Hid; rw [szT] at hsz; exact hsz.2
    have c3 := N2.out.c3
    generalize nbP k e t = NBV at *
    clear NB N1 B1 b2 hsz hbd HSZ
    go_wp2
    clear c3
    go_loopw [3, 11] (fun v3 ix wr => ∃ i : Nat, i ≤ n ∧ ix = .int .i64 i ∧ v3 = .int .i64 (NBV + tbL (ns.take i) (ks.take i)) ∧ Hid (Below w.heap.size w wr)) (fun _ i _ => n - (intOf i).toNat)
    case atStart => exact ⟨0, Nat.zero_le _, rfl, by simp [tbL], B2⟩
    case round =>
      obtain ⟨i, hi, rfl, rfl, hB⟩ := hrel
      by_cases hlt : i < n
      · obtain ⟨l1, l2⟩ := LL.out
        obtain ⟨s, hs⟩ : ∃ s, ns[i]? = some s := ⟨_, List.getElem?_eq_getElem (by omega)⟩
        obtain ⟨S, hS⟩ : ∃ s, ks[i]? = some s := ⟨_, List.getElem?_eq_getElem (by omega)⟩
        obtain ⟨g, o, a, b, d, fx, p, q, rfl, hg, c0, c1, c2, c3, c4, hA⟩ := EX.out.below hB.out i s S hlt hs hS
        obtain ⟨hsz, hST⟩ := szL_at ns ks i s S HSL.out hs hS
        have HTK : Hid (tbL (ns.take (i + 1)) (ks.take (i + 1)) = tbL (ns.take i) (ks.take i) + (ebP s + tbT S)) := tbL_take ns ks i s S hs hS
        have hm1 := HMN.out (i + 1) (by omega)
        rw [HTK.out] at hm1
        have hm0 : 0 ≤ tbT S := HP.out i S hlt hS
        have heb := ebP_bd s
        have hsum0 : 0 ≤ tbL (ns.take i) (ks.take i) := tbL_nonneg ns ks n l1 l2 HP.out i (by omega)
        have TB : Hid (∀ w', Below wr.heap.size wr w' → Calls Try.prog 30 #[.agg #[.int .i64 a, .bool b, .string d, .slice fx p q]] w' fun e w'' => e = .returned (.int .i64 (tbT S)) ∧ Below w'.heap.size w' w'') := fun w' bb => IH _ S w' (hA.below bb) hST (by omega)
        have EBC : Hid (∀ w', Calls Try.prog 41 #[.string s] w' fun e w'' => e = .returned (.int .i64 (ebP s)) ∧ Below w'.heap.size w' w'') := fun w' => entryBytes_any s w' hsz
        clear hA hs hS l1 l2
        generalize ebP s = EB at *
        generalize tbT S = TS at *
        generalize tbL (ns.take i) (ks.take i) = SUM at *
        have BV : Hid (Below wr.heap.size wr (wr.alloc (.cells #[.string s, .int .i64 a, .bool b, .string d, .slice fx p q] 59))) := (Below.refl _ _).alloc (Nat.le_refl _) _
        have hc : ∀ j, (wr.alloc (.cells #[.string s, .int .i64 a, .bool b, .string d, .slice fx p q] 59)).cell? ⟨wr.heap.size, j, none⟩ = #[Value.string s, .int .i64 a, .bool b, .string d, .slice fx p q][j]? := fun j => World.cell?_alloc_new wr _ _ j
        have d0 := (hc 0).trans rfl
        have d1 := (hc 1).trans rfl
        have d2 := (hc 2).trans rfl
        have d3 := (hc 3).trans rfl
        have d4 := (hc 4).trans rfl
        have hKl : wr.heap.size < (wr.alloc (.cells #[.string s, .int .i64 a, .bool b, .string d, .slice fx p q] 59)).heap.size := by rw [World.size_alloc]; omega
        have w1 : IntKind.i64.wrap (EB + TS) = EB + TS := by rw [IntKind.wrap_i64]; omega
        have w2' : IntKind.i64.wrap (NBV + SUM + (EB + TS)) = NBV + SUM + (EB + TS) := by rw [IntKind.wrap_i64]; omega
        clear hc
        go_wp2
        generalize wr.alloc (.cells #[.string s, .int .i64 a, .bool b, .string d, .slice fx p q] 59) = wv at *
        go_region_with (first
          | (go_at_call 41; refine (EBC.out _).mono ?_; rintro e5 w5 ⟨rfl, b5⟩
             have m1 : w5.cell? ⟨wr.heap.size, 1, none⟩ = some (.int .i64 a) := (b5.cell (p := ⟨wr.heap.size, 1, none⟩) hKl).trans d1
             have m2 : w5.cell? ⟨wr.heap.size, 2, none⟩ = some (.bool b) := (b5.cell (p := ⟨wr.heap.size, 2, none⟩) hKl).trans d2
             have m3 : w5.cell? ⟨wr.heap.size, 3, none⟩ = some (.string d) := (b5.cell (p := ⟨wr.heap.size, 3, none⟩) hKl).trans d3
             have m4 : w5.cell? ⟨wr.heap.size, 4, none⟩ = some (.slice fx p q) := (b5.cell (p := ⟨wr.heap.size, 4, none⟩) hKl).trans d4
             have B5 : Hid (Below wr.heap.size wr w5) := BV.out.drew.trans (b5.mono (Nat.le_of_lt hKl)))
          | (go_at_call 30; refine (TB.out _ B5.out).mono ?_; rintro e6 w6 ⟨rfl, b6⟩))
        all_goals have B6 : Hid (Below w.heap.size w w6) := hB.out.trans ((B5.out.trans (b6.mono B5.out.size)).mono hB.out.size)
        all_goals clear b6
        all_goals go_wp2
        all_goals exact ⟨⟨i + 1, by omega, by go_num, by rw [HTK.out]; congr 1; omega, B6⟩, by simp [intOf]; omega⟩
      · obtain rfl : i = n := by omega
        obtain ⟨l1, l2⟩ := LL.out
        rw [List.take_of_length_le (by omega), List.take_of_length_le (by omega), ← HTT.out]
        go_wp2
        go_ret
        exact ⟨rfl, hB.out⟩

end Go.Proofs.Ytpbgmknebhnonab
