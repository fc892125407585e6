/- find, walked (own text of the verifier). -/
import Derived.Test.YtnggbemnblcnaaaDoorTqA
import Derived.Test.YtnggbemnblcnaaaDoorCmA
import Derived.Deep.LoopGhost
namespace Go.Proofs.YtnggbemnblcnaaaDoor
open Go.RowKit

/-- The names of a row of entries. -/
def Nms (w : World) (x : Option Addr) (ns : List ByteArray) : Prop := ∀ j s, ns[j]? = some s → ∃ (g o : Nat) (a : Int) (b : Bool) (d : ByteArray) (f : Option Addr) (p q : Nat), x = some ⟨g, o, none⟩ ∧ g < w.heap.size ∧ w.cell? ⟨g, o + j * 5, none⟩ = some (.string s) ∧ w.cell? ⟨g, o + j * 5 + 1, none⟩ = some (.int .i64 a) ∧ w.cell? ⟨g, o + j * 5 + 2, none⟩ = some (.bool b) ∧ w.cell? ⟨g, o + j * 5 + 3, none⟩ = some (.string d) ∧ w.cell? ⟨g, o + j * 5 + 4, none⟩ = some (.slice f p q)

theorem Nms.below {w w' : World} {x : Option Addr} {ns : List ByteArray} (h : Nms w x ns) (b : Below w.heap.size w w') : Nms w' x ns := fun j s hs => by
  obtain ⟨g, o, a, b', d, f, p, q, hx, hg, c0, c1, c2, c3, c4⟩ := h j s hs
  refine ⟨g, o, a, b', d, f, p, q, hx, Nat.lt_of_lt_of_le hg b.size, ?_, ?_, ?_, ?_, ?_⟩
  · rw [b.cell (p := ⟨g, o + j * 5, none⟩) hg]; exact c0
  · rw [b.cell (p := ⟨g, o + j * 5 + 1, none⟩) hg]; exact c1
  · rw [b.cell (p := ⟨g, o + j * 5 + 2, none⟩) hg]; exact c2
  · rw [b.cell (p := ⟨g, o + j * 5 + 3, none⟩) hg]; exact c3
  · rw [b.cell (p := ⟨g, o + j * 5 + 4, none⟩) hg]; exact c4

/-- The name at a place. -/
def nmA (ns : List ByteArray) (j : Nat) : ByteArray := (ns[j]?).getD ByteArray.empty
theorem nmA_of {ns : List ByteArray} {j : Nat} {s : ByteArray} (h : ns[j]? = some s) : nmA ns j = s := by unfold nmA; rw [h]; rfl

/-- The place at which a name stands, or would stand. -/
structure BS (ns : List ByteArray) (s : ByteArray) (i : Nat) : Prop where
  le : i ≤ ns.length
  lo : ∀ j, j < i → cmpB (nmA ns j) s < 0
  hi : ∀ j, i ≤ j → j < ns.length → 0 ≤ cmpB (nmA ns j) s

def Mono (ns : List ByteArray) (s : ByteArray) : Prop := ∀ a b, a ≤ b → b < ns.length → cmpB (nmA ns b) s < 0 → cmpB (nmA ns a) s < 0

/-- Between two rounds of the search. -/
structure BI (ns : List ByteArray) (s : ByteArray) (i j : Nat) : Prop where
  ij : i ≤ j
  jn : j ≤ ns.length
  lo : ∀ a, a < i → cmpB (nmA ns a) s < 0
  hi : ∀ a, j ≤ a → a < ns.length → 0 ≤ cmpB (nmA ns a) s

theorem BI.start (ns : List ByteArray) (s : ByteArray) : BI ns s 0 ns.length := ⟨Nat.zero_le _, Nat.le_refl _, fun a h => absurd h (by omega), fun a h h' => absurd h' (by omega)⟩
theorem BI.left {ns : List ByteArray} {s : ByteArray} {i j h : Nat} (B : BI ns s i j) (M : Mono ns s) (h2 : h < j) (hc : cmpB (nmA ns h) s < 0) : BI ns s (h + 1) j :=
  ⟨h2, B.jn, fun a ha => M a h (by omega) (Nat.lt_of_lt_of_le h2 B.jn) hc, B.hi⟩
theorem BI.right {ns : List ByteArray} {s : ByteArray} {i j h : Nat} (B : BI ns s i j) (M : Mono ns s) (h1 : i ≤ h) (h2 : h < j) (hc : ¬ cmpB (nmA ns h) s < 0) : BI ns s i h :=
  ⟨h1, Nat.le_trans (Nat.le_of_lt h2) B.jn, B.lo, fun a ha hl => by
    by_cases c : cmpB (nmA ns a) s < 0
    · exact absurd (M h a ha hl c) hc
    · omega⟩
theorem BI.done {ns : List ByteArray} {s : ByteArray} {i : Nat} (B : BI ns s i i) : BS ns s i := ⟨B.jn, B.lo, B.hi⟩

set_option maxHeartbeats 1000000 in
theorem findC_any (s t : ByteArray) (a : Int) (b : Bool) (d : ByteArray) (f : Option Addr) (p q : Nat) (w : World) :
    Calls Tryd.prog 58 #[.agg #[.string s, .int .i64 a, .bool b, .string d, .slice f p q], .string t] w fun e w' => e = .returned (.int .i64 (cmpB s t)) ∧ Below w.heap.size w w' := by
  have BW : ∀ o1, Below w.heap.size w (w.alloc o1) := fun o1 => ((Below.refl _ _).alloc (Nat.le_refl _) o1)
  go_enter Tryd.func58, Tryd.ntmps58
  go_wp2_with fail
  refine (compare_any s t _).mono ?_
  rintro e w2 ⟨rfl, rfl⟩
  go_wp2
  go_ret
  exact ⟨rfl, BW _⟩

set_option maxHeartbeats 4000000 in
theorem bsf_any (x : Option Addr) (n c : Nat) (ns : List ByteArray) (s : ByteArray) (w : World) (hl : ns.length = n) (hn : n ≤ 1954687338211) (H : Nms w x ns) (M : Mono ns s) :
    Calls Tryd.prog 57 #[.slice x n c, .string s, .func (.func 58) #[] #[]] w fun e w' => (∃ (i : Nat) (r : Bool), e = .returned (.tuple #[.int .i64 (i : Int), .bool r]) ∧ BS ns s i ∧ (r = true ↔ i < n ∧ cmpB (nmA ns i) s = 0)) ∧ Below w.heap.size w w' := by
  have HN : Hid (Nms w x ns) := H
  have HM : Hid (Mono ns s) := M
  have HL : Hid (ns.length = n) := hl
  clear H M hl
  go_enter Tryd.func57, Tryd.ntmps57
  go_wp2
  go_loopw [9, 10] (fun xi xj wr => ∃ i j : Nat, xi = .int .i64 i ∧ xj = .int .i64 j ∧ i ≤ j ∧ j ≤ n ∧ Hid (BI ns s i j) ∧ Hid (Below w.heap.size w wr)) (fun i j _ => (intOf j).toNat - (intOf i).toNat)
  case atStart => exact ⟨0, n, rfl, rfl, Nat.zero_le _, Nat.le_refl _, by have := BI.start ns s; rw [HL.out] at this; exact this, Below.refl _ _⟩
  case round =>
    obtain ⟨i, j, rfl, rfl, hij, hj, hI, hB⟩ := hrel
    by_cases hlt : i < j
    · obtain ⟨h, hh⟩ : ∃ h, h = (i + j) / 2 := ⟨_, rfl⟩
      have h1 : i ≤ h := by omega
      have h2 : h < j := by omega
      obtain ⟨t, ht⟩ : ∃ s, ns[h]? = some s := ⟨_, List.getElem?_eq_getElem (by rw [HL.out]; omega)⟩
      obtain ⟨g, o, a, b, d, f, p, q, rfl, hg, c0, c1, c2, c3, c4⟩ := HN.out.below hB.out h t ht
      have HT : Hid (nmA ns h = t) := nmA_of ht
      clear ht
      subst hh
      go_wp2_with fail
      refine (findC_any t s a b d f p q _).mono ?_
      rintro e w2 ⟨rfl, b2⟩
      have B2 : Hid (Below w.heap.size w w2) := hB.out.trans (b2.mono hB.out.size)
      clear b2 c0 c1 c2 c3 c4 hg
      have hbd := cmpB_bd t s
      by_cases hc : cmpB t s < 0
      · have HC : Hid (cmpB t s < 0) := hc
        generalize cmpB t s = cv at hc hbd
        go_wp2
        go_roundw
        case rel => exact ⟨(i + j) / 2 + 1, j, by go_num, rfl, by omega, hj, hI.out.left HM.out h2 (by rw [HT.out]; exact HC.out), B2⟩
        case measure => simp [intOf]; omega
      · have HC : Hid (¬ cmpB t s < 0) := hc
        generalize cmpB t s = cv at hc hbd
        go_wp2
        go_roundw
        case rel => exact ⟨i, (i + j) / 2, rfl, by go_num, h1, by omega, hI.out.right HM.out h1 h2 (by rw [HT.out]; have := HC.out; omega), B2⟩
        case measure => simp [intOf]; omega
    · obtain rfl : i = j := by omega
      have HD : Hid (BS ns s i) := hI.out.done
      clear hI
      by_cases hlt2 : i < n
      · obtain ⟨t, ht⟩ : ∃ s, ns[i]? = some s := ⟨_, List.getElem?_eq_getElem (by rw [HL.out]; omega)⟩
        obtain ⟨g, o, a, b, d, f, p, q, rfl, hg, c0, c1, c2, c3, c4⟩ := HN.out.below hB.out i t ht
        have HT : Hid (nmA ns i = t) := nmA_of ht
        clear ht
        go_wp2_with fail
        refine (findC_any t s a b d f p q _).mono ?_
        rintro e w2 ⟨rfl, b2⟩
        have B2 : Hid (Below w.heap.size w w2) := hB.out.trans (b2.mono hB.out.size)
        clear b2 c0 c1 c2 c3 c4 hg
        have hbd := cmpB_bd t s
        have HE : Hid (i < n ∧ cmpB (nmA ns i) s = cmpB t s) := ⟨hlt2, by rw [HT.out]⟩
        generalize cmpB t s = cv at HE hbd
        obtain ⟨r, hr⟩ : ∃ r : Bool, (cv == 0) = r := ⟨_, rfl⟩
        have HR : Hid ((cv == 0) = r) := hr
        go_wp2
        go_ret2
        refine ⟨⟨i, r, rfl, HD.out, ?_⟩, B2.out⟩
        rw [← HR.out, HE.out.2, beq_iff_eq]
        exact ⟨fun h => ⟨HE.out.1, h⟩, fun h => h.2⟩
      · go_wp2_with fail
        go_ret2
        exact ⟨⟨i, false, rfl, HD.out, (fun h => by cases h), fun h => absurd h.1 hlt2⟩, hB.out⟩

set_option maxHeartbeats 1000000 in
theorem find_any (x : Option Addr) (n c : Nat) (ns : List ByteArray) (s : ByteArray) (w : World) (hl : ns.length = n) (hn : n ≤ 1954687338211) (H : Nms w x ns) (M : Mono ns s) :
    Calls Tryd.prog 35 #[.slice x n c, .string s] w fun e w' => (∃ (i : Nat) (r : Bool), e = .returned (.tuple #[.int .i64 (i : Int), .bool r]) ∧ BS ns s i ∧ (r = true ↔ i < n ∧ cmpB (nmA ns i) s = 0)) ∧ Below w.heap.size w w' := by
  go_enter Tryd.func35, Tryd.ntmps35
  go_wp2_with fail
  refine (bsf_any x n c ns s w hl hn H M).mono ?_
  rintro e w2 ⟨⟨i, r, rfl, h1, h2⟩, b2⟩
  have H1 : Hid (BS ns s i ∧ (r = true ↔ i < n ∧ cmpB (nmA ns i) s = 0)) := ⟨h1, h2⟩
  clear h1 h2
  go_wp2
  go_ret2
  exact ⟨⟨i, r, rfl, H1.out.1, H1.out.2⟩, b2⟩
end Go.Proofs.YtnggbemnblcnaaaDoor
