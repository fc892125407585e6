/- A node by itself: its fields, its bytes; on both sides. -/
import Derived.Test.YtljcbibcdajhiaaTcA
import Derived.Test.YtljcbibcdajhiaaCkB
namespace Go.Proofs.Ytljcbibcdajhiaa
open Go.RowKit

/-- Of a link's target. -/
def tgt (t : ByteArray) : Int := if t.size = 0 ∨ hasB t 0 = true then 63 else 0
/-- Of a node's own fields: n kids. -/
def cfP (k : Int) (e : Bool) (t : ByteArray) (n : Nat) : Int :=
  if k = 1 then (if 0 < n then 62 else 0)
  else if k = 2 then (if e = true ∨ 0 < n then 62 else tgt t)
  else if k = 3 then (if e = true ∨ t.size ≠ 0 then 62 else 0)
  else 60
/-- A node's bytes, its entries left out. -/
def nbP (k : Int) (e : Bool) (t : ByteArray) : Int :=
  if k = 1 then 80 + fr t.size + (if e then 32 else 0) else if k = 2 then 80 + fr t.size else if k = 3 then 72 else 48
/-- An entry's bytes, its node left out. -/
def ebP (s : ByteArray) : Int := 80 + fr s.size

theorem empty_iff (t : ByteArray) : t.toList.isEmpty = decide (t.size = 0) := by
  by_cases h0 : t.size = 0
  · cases h : t.toList.isEmpty
    · exact absurd h0 (empty_size t h)
    · exact (decide_eq_true h0).symm
  · rw [size_empty t h0]
    exact (decide_eq_false h0).symm

set_option maxHeartbeats 400000 in
theorem target_any (t : ByteArray) (w : World) : Calls Try.prog 56 #[.string t] w fun e w' => e = .returned (.int .i64 (tgt t)) ∧ w' = w := by
  have CC := fun w => contains_one t 0 w
  have hE := empty_iff t
  by_cases h0 : t.size = 0
  · have e1 : t.toList.isEmpty = true := by rw [hE]; simpa using h0
    have HT : Hid (tgt t = 63) := if_pos (.inl h0)
    rw [HT.out]
    clear hE CC HT
    go_enter Try.func56, Try.ntmps56
    go_wp2
    go_ret
    exact ⟨rfl, rfl⟩
  · have e1 : t.toList.isEmpty = false := by rw [hE]; simpa using h0
    cases hb : hasB t 0
    · have HT : Hid (tgt t = 0) := if_neg (by simp [h0, hb])
      rw [HT.out]
      rw [hb] at CC
      clear hE HT
      go_enter Try.func56, Try.ntmps56
      go_wp2_with fail
      refine (CC _).mono ?_
      rintro e w1 ⟨rfl, rfl⟩
      clear CC
      go_wp2
      go_ret
      exact ⟨rfl, rfl⟩
    · have HT : Hid (tgt t = 63) := if_pos (.inr hb)
      rw [HT.out]
      rw [hb] at CC
      clear hE HT
      go_enter Try.func56, Try.ntmps56
      go_wp2_with fail
      refine (CC _).mono ?_
      rintro e w1 ⟨rfl, rfl⟩
      clear CC
      go_wp2
      go_ret
      exact ⟨rfl, rfl⟩

/-- A node as a value. -/
def ndV (k : Int) (e : Bool) (t : ByteArray) (x : Option Addr) (n c : Nat) : Value := .agg #[.int .i64 k, .bool e, .string t, .slice x n c]

set_option maxHeartbeats 1600000 in
theorem checkFields_any (k : Int) (e : Bool) (t : ByteArray) (x : Option Addr) (n c : Nat) (w : World) :
    Calls Try.prog 48 #[ndV k e t x n c] w fun r w' => r = .returned (.int .i64 (cfP k e t n)) ∧ Below w.heap.size w w' := by
  have TC := fun w => target_any t w
  have hE := empty_iff t
  unfold ndV
  have HB : Hid (Below w.heap.size w (w.alloc (.cells #[.int .i64 k, .bool e, .string t, .slice x n c] 25))) := (Below.refl _ _).alloc (Nat.le_refl _) _
  by_cases k1 : k = 1
  · subst k1
    clear TC hE
    by_cases hn : 0 < n
    · have HC : Hid (cfP 1 e t n = 62) := by unfold Hid cfP; rw [if_pos rfl, if_pos hn]
      rw [HC.out]
      go_enter Try.func48, Try.ntmps48
      go_wp2
      go_ret
      exact ⟨rfl, HB.out⟩
    · obtain rfl : n = 0 := by omega
      have HC : Hid (cfP 1 e t 0 = 0) := by unfold Hid cfP; rw [if_pos rfl, if_neg hn]
      rw [HC.out]
      go_enter Try.func48, Try.ntmps48
      go_wp2
      go_ret
      exact ⟨rfl, HB.out⟩
  by_cases k2 : k = 2
  · subst k2
    clear hE
    by_cases hn : e = true ∨ 0 < n
    · have HC : Hid (cfP 2 e t n = 62) := by unfold Hid cfP; rw [if_neg (by decide), if_pos rfl, if_pos hn]
      rw [HC.out]
      clear TC
      cases e
      · have hn2 : 0 < n := by simpa using hn
        go_enter Try.func48, Try.ntmps48
        go_wp2
        go_ret
        exact ⟨rfl, HB.out⟩
      · go_enter Try.func48, Try.ntmps48
        go_wp2
        go_ret
        exact ⟨rfl, HB.out⟩
    · obtain rfl : n = 0 := by omega
      obtain rfl : e = false := by cases e; rfl; exact absurd (.inl rfl) hn
      have HC : Hid (cfP 2 false t 0 = tgt t) := by unfold Hid cfP; rw [if_neg (by decide), if_pos rfl, if_neg hn]
      rw [HC.out]
      generalize tgt t = T at *
      go_enter Try.func48, Try.ntmps48
      go_wp2_with fail
      refine (TC _).mono ?_
      rintro r w1 ⟨rfl, rfl⟩
      clear TC
      go_wp2
      go_ret
      exact ⟨rfl, HB.out⟩
  by_cases k3 : k = 3
  · subst k3
    clear TC
    by_cases hn : e = true ∨ t.size ≠ 0
    · have HC : Hid (cfP 3 e t n = 62) := by unfold Hid cfP; rw [if_neg (by decide), if_neg (by decide), if_pos rfl, if_pos hn]
      rw [HC.out]
      cases e
      · have hn2 : t.size ≠ 0 := by simpa using hn
        have e1 : t.toList.isEmpty = false := by rw [hE]; simpa using hn2
        clear hE
        go_enter Try.func48, Try.ntmps48
        go_wp2
        go_ret
        exact ⟨rfl, HB.out⟩
      · clear hE
        go_enter Try.func48, Try.ntmps48
        go_wp2
        go_ret
        exact ⟨rfl, HB.out⟩
    · have hn2 : t.size = 0 := by omega
      obtain rfl : e = false := by cases e; rfl; exact absurd (.inl rfl) hn
      have e1 : t.toList.isEmpty = true := by rw [hE]; simpa using hn2
      have HC : Hid (cfP 3 false t n = 0) := by unfold Hid cfP; rw [if_neg (by decide), if_neg (by decide), if_pos rfl, if_neg hn]
      rw [HC.out]
      clear hE hn hn2
      go_enter Try.func48, Try.ntmps48
      go_wp2
      go_ret
      exact ⟨rfl, HB.out⟩
  · have HC : Hid (cfP k e t n = 60) := by unfold Hid cfP; rw [if_neg k1, if_neg k2, if_neg k3]
    rw [HC.out]
    clear TC hE
    have b1 : (k == 1) = false := by simpa using k1
    have b2 : (k == 2) = false := by simpa using k2
    have b3 : (k == 3) = false := by simpa using k3
    have b4 : (k != 1) = true := by simpa using k1
    have b5 : (k != 3) = true := by simpa using k3
    go_enter Try.func48, Try.ntmps48
    go_wp2
    go_ret
    exact ⟨rfl, HB.out⟩

theorem frw1 : frS [⟨#[40]⟩, ⟨#[116, 121, 112, 101]⟩, ⟨#[41]⟩] = 48 := by decide +kernel
theorem frw2 : frS [⟨#[101, 120, 101, 99, 117, 116, 97, 98, 108, 101]⟩, ⟨#[]⟩] = 32 := by decide +kernel
theorem frw3 : frS [⟨#[100, 105, 114, 101, 99, 116, 111, 114, 121]⟩] = 24 := by decide +kernel
theorem fr_1 : fr ((⟨#[40]⟩ : ByteArray).size : Int) = 16 ∧ fr ((⟨#[41]⟩ : ByteArray).size : Int) = 16 ∧ fr ((⟨#[116, 121, 112, 101]⟩ : ByteArray).size : Int) = 16 ∧ fr ((⟨#[110, 97, 109, 101]⟩ : ByteArray).size : Int) = 16 ∧ fr ((⟨#[110, 111, 100, 101]⟩ : ByteArray).size : Int) = 16 := by decide +kernel
theorem fr_2 : fr ((⟨#[114, 101, 103, 117, 108, 97, 114]⟩ : ByteArray).size : Int) = 16 ∧ fr ((⟨#[99, 111, 110, 116, 101, 110, 116, 115]⟩ : ByteArray).size : Int) = 16 ∧ fr ((⟨#[115, 121, 109, 108, 105, 110, 107]⟩ : ByteArray).size : Int) = 16 ∧ fr ((⟨#[116, 97, 114, 103, 101, 116]⟩ : ByteArray).size : Int) = 16 ∧ fr ((⟨#[101, 110, 116, 114, 121]⟩ : ByteArray).size : Int) = 16 ∧ fr ((⟨#[100, 105, 114, 101, 99, 116, 111, 114, 121]⟩ : ByteArray).size : Int) = 24 := by decide +kernel
theorem frw4 (t : ByteArray) : frS [⟨#[114, 101, 103, 117, 108, 97, 114]⟩, ⟨#[99, 111, 110, 116, 101, 110, 116, 115]⟩, t] = 32 + fr t.size := by
  unfold frS frS frS frS
  rw [fr_2.1, fr_2.2.1]
  omega
theorem frw5 (t : ByteArray) : frS [⟨#[115, 121, 109, 108, 105, 110, 107]⟩, ⟨#[116, 97, 114, 103, 101, 116]⟩, t] = 32 + fr t.size := by
  unfold frS frS frS frS
  rw [fr_2.2.2.1, fr_2.2.2.2.1]
  omega
/-- A literal list of words, framed. -/
theorem tframed_lit (C : Array Value) (T : TypeId) (l : List ByteArray) (n : Nat) (w : World) (h : C.toList = l.map Value.string) (hn : l.length = n) (hl : l.length ≤ 8) (hs : ∀ s ∈ l, s.size ≤ 140737488351232) :
    Calls Try.prog 33 #[.slice (some ⟨w.heap.size, 0, none⟩) n n] (w.alloc (.cells C T)) fun e w' => e = .returned (.int .i64 (frS l)) ∧ w' = w.alloc (.cells C T) := by
  subst hn
  exact tframed_any _ _ l _ (StrL.lit w C T l h) hl hs

theorem sz_ok (t : ByteArray) (ht : t.size ≤ 140737488351232) (l : List ByteArray) (h : ∀ s ∈ l, s = t ∨ s.size ≤ 64) : ∀ s ∈ l, s.size ≤ 140737488351232 := fun s hs => by
  rcases h s hs with rfl | h
  · exact ht
  · omega

/-- A node in block B. -/
structure Nd4 (w : World) (B : Nat) (k : Int) (e : Bool) (t : ByteArray) (x : Option Addr) (n c : Nat) : Prop where
  c0 : w.cell? ⟨B, 0, none⟩ = some (.int .i64 k)
  c1 : w.cell? ⟨B, 1, none⟩ = some (.bool e)
  c2 : w.cell? ⟨B, 2, none⟩ = some (.string t)
  c3 : w.cell? ⟨B, 3, none⟩ = some (.slice x n c)
  lt : B < w.heap.size
theorem Nd4.new (w : World) (k : Int) (e : Bool) (t : ByteArray) (x : Option Addr) (n c : Nat) (T : TypeId) : Nd4 (w.alloc (.cells #[.int .i64 k, .bool e, .string t, .slice x n c] T)) w.heap.size k e t x n c :=
  ⟨(World.cell?_alloc_new w _ _ 0).trans rfl, (World.cell?_alloc_new w _ _ 1).trans rfl, (World.cell?_alloc_new w _ _ 2).trans rfl, (World.cell?_alloc_new w _ _ 3).trans rfl, by rw [World.size_alloc]; omega⟩
theorem Nd4.below {w w' : World} {B : Nat} {k : Int} {e : Bool} {t : ByteArray} {x : Option Addr} {n c : Nat} (h : Nd4 w B k e t x n c) (b : Below w.heap.size w w') : Nd4 w' B k e t x n c :=
  ⟨(b.cell (p := ⟨B, 0, none⟩) h.lt).trans h.c0, (b.cell (p := ⟨B, 1, none⟩) h.lt).trans h.c1, (b.cell (p := ⟨B, 2, none⟩) h.lt).trans h.c2, (b.cell (p := ⟨B, 3, none⟩) h.lt).trans h.c3, Nat.lt_of_lt_of_le h.lt b.size⟩
theorem Nd4.alloc {w : World} {B : Nat} {k : Int} {e : Bool} {t : ByteArray} {x : Option Addr} {n c : Nat} (h : Nd4 w B k e t x n c) (o : Obj) : Nd4 (w.alloc o) B k e t x n c := h.below ((Below.refl _ _).alloc (Nat.le_refl _) o)

set_option maxHeartbeats 1600000 in
theorem nodeBytes_any (k : Int) (e : Bool) (t : ByteArray) (x : Option Addr) (n c : Nat) (w : World) (ht : t.size ≤ 140737488351232) :
    Calls Try.prog 50 #[ndV k e t x n c] w fun r w' => r = .returned (.int .i64 (nbP k e t)) ∧ Below w.heap.size w w' := by
  have hfb := fr_bd t.size
  unfold ndV
  have N1 : Hid (Nd4 (w.alloc (.cells #[.int .i64 k, .bool e, .string t, .slice x n c] 25)) w.heap.size k e t x n c) := Nd4.new w k e t x n c 25
  have HB1 : Hid (Below w.heap.size w (w.alloc (.cells #[.int .i64 k, .bool e, .string t, .slice x n c] 25))) := (Below.refl _ _).alloc (Nat.le_refl _) _
  have hz1 : (w.alloc (.cells #[.int .i64 k, .bool e, .string t, .slice x n c] 25)).heap.size = w.heap.size + 1 := World.size_alloc _ _
  go_enter Try.func50, Try.ntmps50
  go_wp2_with fail
  rw [← hz1]
  clear hz1
  generalize w.alloc (.cells #[.int .i64 k, .bool e, .string t, .slice x n c] 25) = w1 at *
  refine (tframed_lit #[.string ⟨#[40]⟩, .string ⟨#[116, 121, 112, 101]⟩, .string ⟨#[41]⟩] 9 [⟨#[40]⟩, ⟨#[116, 121, 112, 101]⟩, ⟨#[41]⟩] 3 w1 rfl rfl (Nat.le_of_ble_eq_true rfl) (sz_ok t ht _ (by intro s hs; simp only [List.mem_cons, List.not_mem_nil, or_false] at hs; rcases hs with rfl | rfl | rfl <;> first | exact .inl rfl | exact .inr (by decide)))).mono ?_
  rintro r wX ⟨rfl, rfl⟩
  rw [frw1]
  have N2 : Hid (Nd4 (w1.alloc (.cells #[.string ⟨#[40]⟩, .string ⟨#[116, 121, 112, 101]⟩, .string ⟨#[41]⟩] 9)) w.heap.size k e t x n c) := N1.out.alloc _
  have HB2 : Hid (Below w.heap.size w (w1.alloc (.cells #[.string ⟨#[40]⟩, .string ⟨#[116, 121, 112, 101]⟩, .string ⟨#[41]⟩] 9))) := HB1.out.alloc HB1.out.size _
  have a0 := N2.out.c0
  have a1 := N2.out.c1
  have a2 := N2.out.c2
  have a3 := N2.out.c3
  generalize w1.alloc (.cells #[.string ⟨#[40]⟩, .string ⟨#[116, 121, 112, 101]⟩, .string ⟨#[41]⟩] 9) = w2 at *
  by_cases k1 : k = 1
  · subst k1
    go_wp2_with fail
    refine (tframed_lit #[.string ⟨#[114, 101, 103, 117, 108, 97, 114]⟩, .string ⟨#[99, 111, 110, 116, 101, 110, 116, 115]⟩, .string t] 9 [⟨#[114, 101, 103, 117, 108, 97, 114]⟩, ⟨#[99, 111, 110, 116, 101, 110, 116, 115]⟩, t] 3 w2 rfl rfl (Nat.le_of_ble_eq_true rfl) (sz_ok t ht _ (by intro s hs; simp only [List.mem_cons, List.not_mem_nil, or_false] at hs; rcases hs with rfl | rfl | rfl <;> first | exact .inl rfl | exact .inr (by decide)))).mono ?_
    rintro r wX ⟨rfl, rfl⟩
    rw [frw4]
    have N3 : Hid (Nd4 (w2.alloc (.cells #[.string ⟨#[114, 101, 103, 117, 108, 97, 114]⟩, .string ⟨#[99, 111, 110, 116, 101, 110, 116, 115]⟩, .string t] 9)) w.heap.size 1 e t x n c) := N2.out.alloc _
    have HB3 : Hid (Below w.heap.size w (w2.alloc (.cells #[.string ⟨#[114, 101, 103, 117, 108, 97, 114]⟩, .string ⟨#[99, 111, 110, 116, 101, 110, 116, 115]⟩, .string t] 9))) := HB2.out.alloc HB2.out.size _
    have a0 := N3.out.c0
    have a1 := N3.out.c1
    have a2 := N3.out.c2
    have a3 := N3.out.c3
    generalize w2.alloc (.cells #[.string ⟨#[114, 101, 103, 117, 108, 97, 114]⟩, .string ⟨#[99, 111, 110, 116, 101, 110, 116, 115]⟩, .string t] 9) = w3 at *
    generalize hF : fr (t.size : Int) = F at *
    cases e
    · have HC : Hid (nbP 1 false t = 80 + F) := by unfold Hid nbP; rw [if_pos rfl, hF]; simp
      have hs : 48 + (32 + F) = 80 + F := by omega
      clear hF
      go_wp2
      go_ret
      refine ⟨?_, HB3.out⟩; rw [HC.out]; first | rfl | (congr 2; omega)
    · have HC : Hid (nbP 1 true t = 80 + F + 32) := by unfold Hid nbP; rw [if_pos rfl, hF]; simp
      have hs : 48 + (32 + F) = 80 + F := by omega
      clear hF
      go_wp2_with fail
      refine (tframed_lit #[.string ⟨#[101, 120, 101, 99, 117, 116, 97, 98, 108, 101]⟩, .string ⟨#[]⟩] 9 [⟨#[101, 120, 101, 99, 117, 116, 97, 98, 108, 101]⟩, ⟨#[]⟩] 2 w3 rfl rfl (Nat.le_of_ble_eq_true rfl) (sz_ok t ht _ (by intro s hs; simp only [List.mem_cons, List.not_mem_nil, or_false] at hs; rcases hs with rfl | rfl <;> first | exact .inl rfl | exact .inr (by decide)))).mono ?_
      rintro r wX ⟨rfl, rfl⟩
      rw [frw2]
      have N4 : Hid (Nd4 (w3.alloc (.cells #[.string ⟨#[101, 120, 101, 99, 117, 116, 97, 98, 108, 101]⟩, .string ⟨#[]⟩] 9)) w.heap.size 1 true t x n c) := N3.out.alloc _
      have HB4 : Hid (Below w.heap.size w (w3.alloc (.cells #[.string ⟨#[101, 120, 101, 99, 117, 116, 97, 98, 108, 101]⟩, .string ⟨#[]⟩] 9))) := HB3.out.alloc HB3.out.size _
      have a0 := N4.out.c0
      have a1 := N4.out.c1
      have a2 := N4.out.c2
      have a3 := N4.out.c3
      generalize w3.alloc (.cells #[.string ⟨#[101, 120, 101, 99, 117, 116, 97, 98, 108, 101]⟩, .string ⟨#[]⟩] 9) = w4 at *
      go_wp2
      go_ret
      refine ⟨?_, HB4.out⟩; rw [HC.out]; first | rfl | (congr 2; omega)
  have b1 : (k == 1) = false := by simpa using k1
  by_cases k2 : k = 2
  · subst k2
    go_wp2_with fail
    refine (tframed_lit #[.string ⟨#[115, 121, 109, 108, 105, 110, 107]⟩, .string ⟨#[116, 97, 114, 103, 101, 116]⟩, .string t] 9 [⟨#[115, 121, 109, 108, 105, 110, 107]⟩, ⟨#[116, 97, 114, 103, 101, 116]⟩, t] 3 w2 rfl rfl (Nat.le_of_ble_eq_true rfl) (sz_ok t ht _ (by intro s hs; simp only [List.mem_cons, List.not_mem_nil, or_false] at hs; rcases hs with rfl | rfl | rfl <;> first | exact .inl rfl | exact .inr (by decide)))).mono ?_
    rintro r wX ⟨rfl, rfl⟩
    rw [frw5]
    have N3 : Hid (Nd4 (w2.alloc (.cells #[.string ⟨#[115, 121, 109, 108, 105, 110, 107]⟩, .string ⟨#[116, 97, 114, 103, 101, 116]⟩, .string t] 9)) w.heap.size 2 e t x n c) := N2.out.alloc _
    have HB3 : Hid (Below w.heap.size w (w2.alloc (.cells #[.string ⟨#[115, 121, 109, 108, 105, 110, 107]⟩, .string ⟨#[116, 97, 114, 103, 101, 116]⟩, .string t] 9))) := HB2.out.alloc HB2.out.size _
    have a0 := N3.out.c0
    have a1 := N3.out.c1
    have a2 := N3.out.c2
    have a3 := N3.out.c3
    generalize w2.alloc (.cells #[.string ⟨#[115, 121, 109, 108, 105, 110, 107]⟩, .string ⟨#[116, 97, 114, 103, 101, 116]⟩, .string t] 9) = w3 at *
    generalize hF : fr (t.size : Int) = F at *
    have HC : Hid (nbP 2 e t = 80 + F) := by unfold Hid nbP; rw [if_neg (by decide), if_pos rfl, hF]
    have hs : 48 + (32 + F) = 80 + F := by omega
    clear hF
    go_wp2
    go_ret
    refine ⟨?_, HB3.out⟩; rw [HC.out]; first | rfl | (congr 2; omega)
  have b2 : (k == 2) = false := by simpa using k2
  by_cases k3 : k = 3
  · subst k3
    have HC : Hid (nbP 3 e t = 72) := by unfold Hid nbP; rw [if_neg (by decide), if_neg (by decide), if_pos rfl]
    go_wp2_with fail
    refine (tframed_lit #[.string ⟨#[100, 105, 114, 101, 99, 116, 111, 114, 121]⟩] 9 [⟨#[100, 105, 114, 101, 99, 116, 111, 114, 121]⟩] 1 w2 rfl rfl (Nat.le_of_ble_eq_true rfl) (sz_ok t ht _ (by intro s hs; simp only [List.mem_cons, List.not_mem_nil, or_false] at hs; rcases hs with rfl <;> first | exact .inl rfl | exact .inr (by decide)))).mono ?_
    rintro r wX ⟨rfl, rfl⟩
    rw [frw3]
    have N3 : Hid (Nd4 (w2.alloc (.cells #[.string ⟨#[100, 105, 114, 101, 99, 116, 111, 114, 121]⟩] 9)) w.heap.size 3 e t x n c) := N2.out.alloc _
    have HB3 : Hid (Below w.heap.size w (w2.alloc (.cells #[.string ⟨#[100, 105, 114, 101, 99, 116, 111, 114, 121]⟩] 9))) := HB2.out.alloc HB2.out.size _
    have a0 := N3.out.c0
    have a1 := N3.out.c1
    have a2 := N3.out.c2
    have a3 := N3.out.c3
    generalize w2.alloc (.cells #[.string ⟨#[100, 105, 114, 101, 99, 116, 111, 114, 121]⟩] 9) = w3 at *
    go_wp2
    go_ret
    refine ⟨?_, HB3.out⟩; rw [HC.out]; first | rfl | (congr 2; omega)
  · have b3 : (k == 3) = false := by simpa using k3
    have HC : Hid (nbP k e t = 48) := by unfold Hid nbP; rw [if_neg k1, if_neg k2, if_neg k3]
    go_wp2
    go_ret
    refine ⟨?_, HB2.out⟩; rw [HC.out]; first | rfl | (congr 2; omega)

end Go.Proofs.Ytljcbibcdajhiaa
