/- tree.Equal, walked. -/
import Derived.Test.YtpbgmknebhnonabTqP
import Derived.Lib.Strings
namespace Go.Proofs.Ytpbgmknebhnonab
open Go.RowKit

set_option maxHeartbeats 1000000 in
theorem closure_any (m : Nat) (IH : EqAt 11 m) (s t : ByteArray) (a a' : Int) (b b' : Bool) (d d' : ByteArray) (f f' : Option Addr) (p q p' q' : Nat) (S T : Tr) (w : World) (h1 : At w m (.agg #[.int .i64 a, .bool b, .string d, .slice f p q]) S) (h2 : At w m (.agg #[.int .i64 a', .bool b', .string d', .slice f' p' q']) T) :
    Calls Try.prog 32 #[.agg #[.string s, .int .i64 a, .bool b, .string d, .slice f p q], .agg #[.string t, .int .i64 a', .bool b', .string d', .slice f' p' q']] w fun e w' => (∃ r, e = .returned (.bool r) ∧ (r = true ↔ s = t ∧ S = T)) ∧ Below w.heap.size w w' := by
  have H1 : Hid (At w m (.agg #[.int .i64 a, .bool b, .string d, .slice f p q]) S) := h1
  have H2 : Hid (At w m (.agg #[.int .i64 a', .bool b', .string d', .slice f' p' q']) T) := h2
  clear h1 h2
  have BW : ∀ o1 o2, Below w.heap.size w ((w.alloc o1).alloc o2) := fun o1 o2 => ((Below.refl _ _).alloc (Nat.le_refl _) o1).alloc (by rw [World.size_alloc]; omega) o2
  cases hst : (s.toList == t.toList)
  · have hne : Hid (¬ s = t) := fun e => by rw [e] at hst; simp at hst
    go_enter Try.func32, Try.ntmps32
    go_wp2
    go_ret
    exact ⟨⟨_, rfl, (fun h => by cases h), fun h => absurd h.1 hne.out⟩, BW _ _⟩
  · have heq : Hid (s = t) := by
      rw [beq_iff_eq, Lib.toList_data, Lib.toList_data] at hst
      apply ByteArray.ext; exact Array.toList_inj.1 hst
    go_enter Try.func32, Try.ntmps32
    go_wp2_with fail
    refine (IH _ _ S T _ (H1.out.below (BW _ _)) (H2.out.below (BW _ _))).mono ?_
    rintro e w2 ⟨⟨r, rfl, hr⟩, b2⟩
    have B2 : Below w.heap.size w w2 := (BW _ _).trans (b2.mono (BW _ _).size)
    have HR : Hid (r = true ↔ S = T) := hr
    clear hr b2
    go_wp2
    go_ret
    exact ⟨⟨_, rfl, fun h => ⟨heq.out, HR.out.1 h⟩, fun h => HR.out.2 h.2⟩, B2⟩

/-- A slice of entries. -/
def Ents (w : World) (m : Nat) (x : Option Addr) (n : Nat) (ns : List ByteArray) (ks : List Tr) : Prop := ∀ j s T, j < n → ns[j]? = some s → ks[j]? = some T → ∃ (g o : Nat) (a : Int) (b : Bool) (d : ByteArray) (f : Option Addr) (p q : Nat), x = some ⟨g, o, none⟩ ∧ g < w.heap.size ∧ w.cell? ⟨g, o + j * 5, none⟩ = some (.string s) ∧ w.cell? ⟨g, o + j * 5 + 1, none⟩ = some (.int .i64 a) ∧ w.cell? ⟨g, o + j * 5 + 2, none⟩ = some (.bool b) ∧ w.cell? ⟨g, o + j * 5 + 3, none⟩ = some (.string d) ∧ w.cell? ⟨g, o + j * 5 + 4, none⟩ = some (.slice f p q) ∧ At w m (.agg #[.int .i64 a, .bool b, .string d, .slice f p q]) T
theorem Ents.below {w w' : World} {m : Nat} {x : Option Addr} {n : Nat} {ns : List ByteArray} {ks : List Tr} (h : Ents w m x n ns ks) (b : Below w.heap.size w w') : Ents w' m x n ns ks := fun j s T hj hs hT => by
  obtain ⟨g, o, a, b', d, f, p, q, h7, h8, c0, c1, c2, c3, c4, hA⟩ := h j s T hj hs hT
  refine ⟨g, o, a, b', d, f, p, q, h7, Nat.lt_of_lt_of_le h8 b.size, ?_, ?_, ?_, ?_, ?_, hA.below b⟩
  · rw [b.cell (p := ⟨g, o + j * 5, none⟩) h8]; exact c0
  · rw [b.cell (p := ⟨g, o + j * 5 + 1, none⟩) h8]; exact c1
  · rw [b.cell (p := ⟨g, o + j * 5 + 2, none⟩) h8]; exact c2
  · rw [b.cell (p := ⟨g, o + j * 5 + 3, none⟩) h8]; exact c3
  · rw [b.cell (p := ⟨g, o + j * 5 + 4, none⟩) h8]; exact c4

set_option maxHeartbeats 2000000 in
theorem eqfunc_any (m : Nat) (IH : EqAt 11 m) (x y : Option Addr) (n n' c c' : Nat) (ns ns' : List ByteArray) (ks ks' : List Tr) (w : World) (hn : n ≤ 1954687338211) (hn' : n' ≤ 1954687338211) (l1 : ns.length = n) (l2 : ks.length = n) (l3 : ns'.length = n') (l4 : ks'.length = n')
    (hx : Ents w m x n ns ks) (hy : Ents w m y n' ns' ks') :
    Calls Try.prog 31 #[.slice x n c, .slice y n' c', .func (.func 32) #[] #[]] w fun e w' => (∃ r, e = .returned (.bool r) ∧ (r = true ↔ ns = ns' ∧ ks = ks')) ∧ Below w.heap.size w w' := by
  have HX : Hid (Ents w m x n ns ks) := hx
  have HY : Hid (Ents w m y n' ns' ks') := hy
  have L1 : Hid (ns.length = n ∧ ks.length = n ∧ ns'.length = n' ∧ ks'.length = n') := ⟨l1, l2, l3, l4⟩
  clear hx hy l1 l2 l3 l4
  by_cases hnn : n = n'
  · subst hnn
    have hb : ((n : Int) != (n : Int)) = false := by simp
    go_enter Try.func31, Try.ntmps31
    go_wp2
    go_loopw [17] (fun xi wr => ∃ k : Nat, k ≤ n ∧ xi = .int .i64 k ∧ Hid (∀ j, j < k → ns[j]? = ns'[j]? ∧ ks[j]? = ks'[j]?) ∧ Hid (Below w.heap.size w wr)) (fun i _ => n - (intOf i).toNat)
    case atStart => exact ⟨0, Nat.zero_le _, rfl, fun j hj => absurd hj (by omega), Below.refl _ _⟩
    case round =>
      obtain ⟨k, hk, rfl, hl, hB⟩ := hrel
      by_cases hlt : k < n
      · obtain ⟨l1, l2, l3, l4⟩ := L1.out
        obtain ⟨s, hs⟩ : ∃ s, ns[k]? = some s := ⟨_, List.getElem?_eq_getElem (by omega)⟩
        obtain ⟨s', hs'⟩ : ∃ s, ns'[k]? = some s := ⟨_, List.getElem?_eq_getElem (by omega)⟩
        obtain ⟨S, hS⟩ : ∃ s, ks[k]? = some s := ⟨_, List.getElem?_eq_getElem (by omega)⟩
        obtain ⟨T, hT⟩ : ∃ s, ks'[k]? = some s := ⟨_, List.getElem?_eq_getElem (by omega)⟩
        obtain ⟨g, o, a, b, d, f, p, q, rfl, hg, c0, c1, c2, c3, c4, hA⟩ := HX.out.below hB.out k s S hlt hs hS
        obtain ⟨g', o', a', b', d', f', p', q', rfl, hg', c0', c1', c2', c3', c4', hA'⟩ := HY.out.below hB.out k s' T hlt hs' hT
        have HA : Hid (At wr m (.agg #[.int .i64 a, .bool b, .string d, .slice f p q]) S) := hA
        have HA' : Hid (At wr m (.agg #[.int .i64 a', .bool b', .string d', .slice f' p' q']) T) := hA'
        have HE : Hid (ns[k]? = some s ∧ ns'[k]? = some s' ∧ ks[k]? = some S ∧ ks'[k]? = some T) := ⟨hs, hs', hS, hT⟩
        clear hA hA' hs hs' hS hT l1 l2 l3 l4
        go_wp2_with fail
        have BW : ∀ o1 o2, Below wr.heap.size wr ((wr.alloc o1).alloc o2) := fun o1 o2 => ((Below.refl _ _).alloc (Nat.le_refl _) o1).alloc (by rw [World.size_alloc]; omega) o2
        refine (closure_any m IH s s' a a' b b' d d' f f' p q p' q' S T _ (HA.out.below (BW _ _)) (HA'.out.below (BW _ _))).mono ?_
        rintro e w2 ⟨⟨r, rfl, hr⟩, b2⟩
        have B2 : Hid (Below w.heap.size w w2) := hB.out.trans (((BW _ _).trans (b2.mono (BW _ _).size)).mono hB.out.size)
        have HR : Hid (r = true ↔ s = s' ∧ S = T) := hr
        clear hr b2 BW c0 c1 c2 c3 c4 c0' c1' c2' c3' c4' hg hg' HA HA'
        cases r
        · have HR1 : Hid (¬ (s = s' ∧ S = T)) := fun h => by have := HR.out.2 h; cases this
          clear HR
          go_wp2
          go_ret
          refine ⟨⟨_, rfl, (fun h => by cases h), fun h => ?_⟩, B2.out⟩
          obtain ⟨e1, e2, e3, e4⟩ := HE.out
          rw [h.1, e2] at e1
          rw [h.2, e4] at e3
          exact absurd ⟨(Option.some.inj e1).symm, (Option.some.inj e3).symm⟩ HR1.out
        · have HR1 : Hid (s = s' ∧ S = T) := HR.out.1 rfl
          clear HR
          go_wp2
          go_roundw
          case rel => exact ⟨k + 1, by omega, by go_num, fun j hj => by
            by_cases e : j = k
            · obtain ⟨e1, e2, e3, e4⟩ := HE.out
              obtain ⟨r1, r2⟩ := HR1.out
              rw [e, e1, e2, e3, e4, r1, r2]; exact ⟨rfl, rfl⟩
            · exact hl.out j (by omega), B2⟩
          case measure => simp [intOf]; omega
      · obtain rfl : k = n := by omega
        go_wp2
        go_ret
        refine ⟨⟨_, rfl, (fun _ => ?_), fun _ => rfl⟩, hB.out⟩
        obtain ⟨l1, l2, l3, l4⟩ := L1.out
        refine ⟨List.ext_getElem? (fun j => ?_), List.ext_getElem? (fun j => ?_)⟩
        · by_cases e : j < k
          · exact (hl.out j e).1
          · rw [List.getElem?_eq_none (by omega), List.getElem?_eq_none (by omega)]
        · by_cases e : j < k
          · exact (hl.out j e).2
          · rw [List.getElem?_eq_none (by omega), List.getElem?_eq_none (by omega)]
  · have hb : ((n : Int) != (n' : Int)) = true := by rw [bne_iff_ne]; omega
    have hne : Hid (¬ ns = ns') := fun e => by
      obtain ⟨l1, _, l3, _⟩ := L1.out
      rw [e] at l1; omega
    clear hnn
    go_enter Try.func31, Try.ntmps31
    go_wp2
    go_ret
    exact ⟨⟨_, rfl, (fun h => by cases h), fun h => absurd h.1 hne.out⟩, Below.refl _ _⟩

theorem At.ents {w : World} {m n : Nat} {x : Option Addr} {ns : List ByteArray} {ks : List Tr} (h : n = 0 ∨ ∃ g o, x = some ⟨g, o, none⟩ ∧ g < w.heap.size ∧ ∀ j s T, ns[j]? = some s → ks[j]? = some T → ∃ (a : Int) (b : Bool) (d : ByteArray) (f : Option Addr) (p q : Nat), w.cell? ⟨g, o + j * 5, none⟩ = some (.string s) ∧ w.cell? ⟨g, o + j * 5 + 1, none⟩ = some (.int .i64 a) ∧ w.cell? ⟨g, o + j * 5 + 2, none⟩ = some (.bool b) ∧ w.cell? ⟨g, o + j * 5 + 3, none⟩ = some (.string d) ∧ w.cell? ⟨g, o + j * 5 + 4, none⟩ = some (.slice f p q) ∧ At w m (.agg #[.int .i64 a, .bool b, .string d, .slice f p q]) T) : Ents w m x n ns ks := fun j s T hj hs hT => by
  rcases h with h | ⟨g, o, h7, h8, h9⟩
  · omega
  · obtain ⟨a, b, d, f, p, q, h⟩ := h9 j s T hs hT
    exact ⟨g, o, a, b, d, f, p, q, h7, h8, h⟩

set_option maxHeartbeats 2000000 in
theorem tequal_any (m : Nat) : EqAt 11 m := by
  induction m with
  | zero => intro u v S T w h; exact h.elim
  | succ m IH =>
    rintro u v ⟨k, e, t, ns, ks⟩ ⟨k', e', t', ns', ks'⟩ w ⟨x, n, c, rfl, l1, l2, l3, l4, hx⟩ ⟨y, n', c', rfl, l1', l2', l3', l4', hy⟩
    have BW : ∀ o1 o2, Below w.heap.size w ((w.alloc o1).alloc o2) := fun o1 o2 => ((Below.refl _ _).alloc (Nat.le_refl _) o1).alloc (by rw [World.size_alloc]; omega) o2
    have EF := fun (W : World) (b : Below w.heap.size w W) => eqfunc_any m IH x y n n' c c' ns ns' ks ks' W l4 l4' l1 l2 l1' l2' ((At.ents hx).below b) ((At.ents hy).below b)
    have HQ : Hid (Tr.mk k e t ns ks = Tr.mk k' e' t' ns' ks' ↔ k = k' ∧ e = e' ∧ t = t' ∧ ns = ns' ∧ ks = ks') := by unfold Hid; simp
    clear hx hy IH
    by_cases h1 : k = k' ∧ e = e' ∧ t = t'
    · obtain ⟨rfl, rfl, rfl⟩ := h1
      have HQ1 : Hid (Tr.mk k e t ns ks = Tr.mk k e t ns' ks' ↔ ns = ns' ∧ ks = ks') := HQ.out.trans ⟨fun h => h.2.2.2, fun h => ⟨rfl, rfl, rfl, h⟩⟩
      clear HQ
      have q1 : (k != k) = false := by simp
      have q2 : (e != e) = false := by simp
      have q3 : (t.toList == t.toList) = true := by simp
      go_enter Try.func11, Try.ntmps11
      go_wp2_with fail
      refine (EF _ (BW _ _)).mono ?_
      rintro e2 w2 ⟨⟨r, rfl, hr⟩, b2⟩
      have B2 : Below w.heap.size w w2 := (BW _ _).trans (b2.mono (BW _ _).size)
      have HR : Hid (r = true ↔ ns = ns' ∧ ks = ks') := hr
      clear hr b2 EF
      go_wp2
      go_ret
      exact ⟨⟨_, rfl, fun h => HQ1.out.2 (HR.out.1 h), fun h => HR.out.2 (HQ1.out.1 h)⟩, B2⟩
    · have hne : Hid (¬ Tr.mk k e t ns ks = Tr.mk k' e' t' ns' ks') := fun h => h1 (by obtain ⟨a, b, c, _⟩ := HQ.out.1 h; exact ⟨a, b, c⟩)
      have H1 : Hid (¬ (k = k' ∧ e = e' ∧ t = t')) := h1
      clear h1 EF
      clear HQ
      by_cases hk : k = k'
      · subst hk
        have q1 : (k != k) = false := by simp
        by_cases he : e = e'
        · subst he
          have q2 : (e != e) = false := by simp
          have h4 : (t.toList == t'.toList) = false := by
            rw [beq_eq_false_iff_ne]; intro ht
            rw [Lib.toList_data, Lib.toList_data] at ht
            exact H1.out ⟨rfl, rfl, by apply ByteArray.ext; exact Array.toList_inj.1 ht⟩
          clear H1
          go_enter Try.func11, Try.ntmps11
          go_wp2
          go_ret
          exact ⟨⟨_, rfl, (fun h => by cases h), fun h => absurd h hne.out⟩, BW _ _⟩
        · clear H1
          cases e <;> cases e'
          · exact absurd rfl he
          · clear he
            go_enter Try.func11, Try.ntmps11
            go_wp2
            go_ret
            exact ⟨⟨_, rfl, (fun h => by cases h), fun h => absurd h hne.out⟩, BW _ _⟩
          · clear he
            go_enter Try.func11, Try.ntmps11
            go_wp2
            go_ret
            exact ⟨⟨_, rfl, (fun h => by cases h), fun h => absurd h hne.out⟩, BW _ _⟩
          · exact absurd rfl he
      · have h2 : (k != k') = true := by rw [bne_iff_ne]; exact hk
        clear H1 hk
        go_enter Try.func11, Try.ntmps11
        go_wp2
        go_ret
        exact ⟨⟨_, rfl, (fun h => by cases h), fun h => absurd h hne.out⟩, BW _ _⟩

end Go.Proofs.Ytpbgmknebhnonab
