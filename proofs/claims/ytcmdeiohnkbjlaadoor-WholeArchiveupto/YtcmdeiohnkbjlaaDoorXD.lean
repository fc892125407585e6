/- TcA TcB TcC TcD TcE, gathered (own text of the verifier). -/
import Derived.Test.YtcmdeiohnkbjlaaDoorWwA
import Derived.Test.YtcmdeiohnkbjlaaDoorCkA
import Derived.Test.YtcmdeiohnkbjlaaDoorCkB
import Derived.Test.YtcmdeiohnkbjlaaDoorTqA
import Derived.Deep.RegionWith
import Derived.WalkLawsBesides
namespace Go.Proofs.YtcmdeiohnkbjlaaDoor
open Go.RowKit

theorem fr_bd (n : Nat) : 0 ≤ fr n ∧ fr n ≤ 1099511627792 := by
  unfold fr
  split
  · omega
  · have : padN (n : Int).toNat < 8 := by unfold padN; omega
    omega
/-- The bytes of words that are framed one behind the other. -/
def frS : List ByteArray → Int
  | [] => 0
  | s :: l => fr s.size + frS l
theorem frS_bd (l : List ByteArray) : 0 ≤ frS l ∧ frS l ≤ 1099511627792 * l.length := by
  induction l with
  | nil => exact ⟨Int.le_refl _, Int.le_refl _⟩
  | cons s l ih =>
    have := fr_bd s.size
    rw [frS, List.length_cons]
    push_cast
    omega
theorem frS_snoc (l : List ByteArray) (s : ByteArray) : frS (l ++ [s]) = frS l + fr s.size := by
  induction l with
  | nil => show fr s.size + 0 = 0 + fr s.size; omega
  | cons a l ih => rw [List.cons_append, frS, frS, ih]; omega
/-- Texts in a row. -/
def StrL (w : World) (x : Option Addr) (l : List ByteArray) : Prop := ∀ k (h : k < l.length), ∃ g o, x = some ⟨g, o, none⟩ ∧ g < w.heap.size ∧ w.cell? ⟨g, o + k, none⟩ = some (.string l[k])
theorem StrL.lit (w : World) (C : Array Value) (T : TypeId) (l : List ByteArray) (h : C.toList = l.map Value.string) : StrL (w.alloc (.cells C T)) (some ⟨w.heap.size, 0, none⟩) l := fun k hk => by
  refine ⟨w.heap.size, 0, rfl, by rw [World.size_alloc]; omega, ?_⟩
  rw [Nat.zero_add, World.cell?_alloc_new, ← Array.getElem?_toList, h, List.getElem?_map, List.getElem?_eq_getElem hk]
  rfl

set_option maxHeartbeats 800000 in
theorem tframed_any (x : Option Addr) (c : Nat) (l : List ByteArray) (w : World) (hX : StrL w x l) (hl : l.length ≤ 8) (hs : ∀ s ∈ l, s.size ≤ 140737488351232) :
    Calls Tryd.prog 24 #[.slice x l.length c] w fun e w' => e = .returned (.int .i64 (frS l)) ∧ w' = w := by
  have HX : Hid (StrL w x l) := hX
  have HS : Hid (∀ s ∈ l, s.size ≤ 140737488351232) := hs
  clear hX hs
  go_enter Tryd.func24, Tryd.ntmps24
  go_wp2
  go_loopw [3, 5, 8] (fun v3 _ ix wr => ∃ k : Nat, k ≤ l.length ∧ ix = .int .i64 k ∧ v3 = .int .i64 (frS (l.take k)) ∧ wr = w) (fun _ _ i _ => l.length - (intOf i).toNat)
  case atStart => exact ⟨0, Nat.zero_le _, rfl, rfl, rfl⟩
  case round =>
    obtain ⟨k, hk, rfl, rfl, rfl⟩ := hrel
    by_cases hlt : k < l.length
    · obtain ⟨g, o, rfl, hg, c0⟩ := HX.out k hlt
      have hsz := HS.out _ (List.getElem_mem hlt)
      have HT : Hid (frS (l.take (k + 1)) = frS (l.take k) + fr (l[k]).size) := by unfold Hid; rw [List.take_succ_eq_append_getElem hlt, frS_snoc]
      have hb := frS_bd (l.take k)
      rw [List.length_take] at hb
      have hb2 := fr_bd (l[k]).size
      generalize frS (l.take k) = S at *
      generalize l[k] = s at *
      have FC := fun w => framed_any (s.size : Int) w (by omega) (by omega)
      generalize fr (s.size : Int) = F at *
      go_wp2_with fail
      refine (FC _).mono ?_
      rintro e w1 ⟨rfl, rfl⟩
      clear FC
      have hSF : S + F ≤ 9223372036854775807 := by omega
      go_wp2
      go_roundw
      case rel => exact ⟨k + 1, by omega, by go_num, by rw [HT.out], by first | rfl | trivial⟩
      case measure => simp [intOf]; omega
    · obtain rfl : k = l.length := by omega
      rw [List.take_length]
      go_wp2
      go_ret
      exact ⟨rfl, rfl⟩

end Go.Proofs.YtcmdeiohnkbjlaaDoor
namespace Go.Proofs.YtcmdeiohnkbjlaaDoor
open Go.RowKit

/-- Of a link's target. -/
def tgt (t : ByteArray) : Int := if t.size = 0 ∨ hasB t 0 = true then 63 else 0
/-- Of a node's own fields: n kids. -/
def cfP (k : Int) (e : Bool) (t : ByteArray) (n : Nat) : Int :=
  if k = 1 then (if 0 < n then 62 else 0)
  else if k = 2 then (if e = true ∨ 0 < n then 62 else tgt t)
  else if k = 3 then (if e = true ∨ t.size ≠ 0 then 62 else 0)
  else 60
/-- A node's bytes, its entries left out. -/
def nbP (k : Int) (e : Bool) (t : ByteArray) : Int :=
  if k = 1 then 80 + fr t.size + (if e then 32 else 0) else if k = 2 then 80 + fr t.size else if k = 3 then 72 else 48
/-- An entry's bytes, its node left out. -/
def ebP (s : ByteArray) : Int := 80 + fr s.size

theorem empty_iff (t : ByteArray) : t.toList.isEmpty = decide (t.size = 0) := by
  by_cases h0 : t.size = 0
  · cases h : t.toList.isEmpty
    · exact absurd h0 (empty_size t h)
    · exact (decide_eq_true h0).symm
  · rw [size_empty t h0]
    exact (decide_eq_false h0).symm

set_option maxHeartbeats 400000 in
theorem target_any (t : ByteArray) (w : World) : Calls Tryd.prog 47 #[.string t] w fun e w' => e = .returned (.int .i64 (tgt t)) ∧ w' = w := by
  have CC := fun w => contains_one t 0 w
  have hE := empty_iff t
  by_cases h0 : t.size = 0
  · have e1 : t.toList.isEmpty = true := by rw [hE]; simpa using h0
    have HT : Hid (tgt t = 63) := if_pos (.inl h0)
    rw [HT.out]
    clear hE CC HT
    go_enter Tryd.func47, Tryd.ntmps47
    go_wp2
    go_ret
    exact ⟨rfl, rfl⟩
  · have e1 : t.toList.isEmpty = false := by rw [hE]; simpa using h0
    cases hb : hasB t 0
    · have HT : Hid (tgt t = 0) := if_neg (by simp [h0, hb])
      rw [HT.out]
      rw [hb] at CC
      clear hE HT
      go_enter Tryd.func47, Tryd.ntmps47
      go_wp2_with fail
      refine (CC _).mono ?_
      rintro e w1 ⟨rfl, rfl⟩
      clear CC
      go_wp2
      go_ret
      exact ⟨rfl, rfl⟩
    · have HT : Hid (tgt t = 63) := if_pos (.inr hb)
      rw [HT.out]
      rw [hb] at CC
      clear hE HT
      go_enter Tryd.func47, Tryd.ntmps47
      go_wp2_with fail
      refine (CC _).mono ?_
      rintro e w1 ⟨rfl, rfl⟩
      clear CC
      go_wp2
      go_ret
      exact ⟨rfl, rfl⟩

/-- A node as a value. -/
def ndV (k : Int) (e : Bool) (t : ByteArray) (x : Option Addr) (n c : Nat) : Value := .agg #[.int .i64 k, .bool e, .string t, .slice x n c]

set_option maxHeartbeats 1600000 in
theorem checkFields_any (k : Int) (e : Bool) (t : ByteArray) (x : Option Addr) (n c : Nat) (w : World) :
    Calls Tryd.prog 37 #[ndV k e t x n c] w fun r w' => r = .returned (.int .i64 (cfP k e t n)) ∧ Below w.heap.size w w' := by
  have TC := fun w => target_any t w
  have hE := empty_iff t
  unfold ndV
  have HB : Hid (Below w.heap.size w (w.alloc (.cells #[.int .i64 k, .bool e, .string t, .slice x n c] 25))) := (Below.refl _ _).alloc (Nat.le_refl _) _
  by_cases k1 : k = 1
  · subst k1
    clear TC hE
    by_cases hn : 0 < n
    · have HC : Hid (cfP 1 e t n = 62) := by unfold Hid cfP; rw [if_pos rfl, if_pos hn]
      rw [HC.out]
      go_enter Tryd.func37, Tryd.ntmps37
      go_wp2
      go_ret
      exact ⟨rfl, HB.out⟩
    · obtain rfl : n = 0 := by omega
      have HC : Hid (cfP 1 e t 0 = 0) := by unfold Hid cfP; rw [if_pos rfl, if_neg hn]
      rw [HC.out]
      go_enter Tryd.func37, Tryd.ntmps37
      go_wp2
      go_ret
      exact ⟨rfl, HB.out⟩
  by_cases k2 : k = 2
  · subst k2
    clear hE
    by_cases hn : e = true ∨ 0 < n
    · have HC : Hid (cfP 2 e t n = 62) := by unfold Hid cfP; rw [if_neg (by decide), if_pos rfl, if_pos hn]
      rw [HC.out]
      clear TC
      cases e
      · have hn2 : 0 < n := by simpa using hn
        go_enter Tryd.func37, Tryd.ntmps37
        go_wp2
        go_ret
        exact ⟨rfl, HB.out⟩
      · go_enter Tryd.func37, Tryd.ntmps37
        go_wp2
        go_ret
        exact ⟨rfl, HB.out⟩
    · obtain rfl : n = 0 := by omega
      obtain rfl : e = false := by cases e; rfl; exact absurd (.inl rfl) hn
      have HC : Hid (cfP 2 false t 0 = tgt t) := by unfold Hid cfP; rw [if_neg (by decide), if_pos rfl, if_neg hn]
      rw [HC.out]
      generalize tgt t = T at *
      go_enter Tryd.func37, Tryd.ntmps37
      go_wp2_with fail
      refine (TC _).mono ?_
      rintro r w1 ⟨rfl, rfl⟩
      clear TC
      go_wp2
      go_ret
      exact ⟨rfl, HB.out⟩
  by_cases k3 : k = 3
  · subst k3
    clear TC
    by_cases hn : e = true ∨ t.size ≠ 0
    · have HC : Hid (cfP 3 e t n = 62) := by unfold Hid cfP; rw [if_neg (by decide), if_neg (by decide), if_pos rfl, if_pos hn]
      rw [HC.out]
      cases e
      · have hn2 : t.size ≠ 0 := by simpa using hn
        have e1 : t.toList.isEmpty = false := by rw [hE]; simpa using hn2
        clear hE
        go_enter Tryd.func37, Tryd.ntmps37
        go_wp2
        go_ret
        exact ⟨rfl, HB.out⟩
      · clear hE
        go_enter Tryd.func37, Tryd.ntmps37
        go_wp2
        go_ret
        exact ⟨rfl, HB.out⟩
    · have hn2 : t.size = 0 := by omega
      obtain rfl : e = false := by cases e; rfl; exact absurd (.inl rfl) hn
      have e1 : t.toList.isEmpty = true := by rw [hE]; simpa using hn2
      have HC : Hid (cfP 3 false t n = 0) := by unfold Hid cfP; rw [if_neg (by decide), if_neg (by decide), if_pos rfl, if_neg hn]
      rw [HC.out]
      clear hE hn hn2
      go_enter Tryd.func37, Tryd.ntmps37
      go_wp2
      go_ret
      exact ⟨rfl, HB.out⟩
  · have HC : Hid (cfP k e t n = 60) := by unfold Hid cfP; rw [if_neg k1, if_neg k2, if_neg k3]
    rw [HC.out]
    clear TC hE
    have b1 : (k == 1) = false := by simpa using k1
    have b2 : (k == 2) = false := by simpa using k2
    have b3 : (k == 3) = false := by simpa using k3
    have b4 : (k != 1) = true := by simpa using k1
    have b5 : (k != 3) = true := by simpa using k3
    go_enter Tryd.func37, Tryd.ntmps37
    go_wp2
    go_ret
    exact ⟨rfl, HB.out⟩

theorem frw1 : frS [⟨#[40]⟩, ⟨#[116, 121, 112, 101]⟩, ⟨#[41]⟩] = 48 := by decide +kernel
theorem frw2 : frS [⟨#[101, 120, 101, 99, 117, 116, 97, 98, 108, 101]⟩, ⟨#[]⟩] = 32 := by decide +kernel
theorem frw3 : frS [⟨#[100, 105, 114, 101, 99, 116, 111, 114, 121]⟩] = 24 := by decide +kernel
theorem fr_1 : fr ((⟨#[40]⟩ : ByteArray).size : Int) = 16 ∧ fr ((⟨#[41]⟩ : ByteArray).size : Int) = 16 ∧ fr ((⟨#[116, 121, 112, 101]⟩ : ByteArray).size : Int) = 16 ∧ fr ((⟨#[110, 97, 109, 101]⟩ : ByteArray).size : Int) = 16 ∧ fr ((⟨#[110, 111, 100, 101]⟩ : ByteArray).size : Int) = 16 := by decide +kernel
theorem fr_2 : fr ((⟨#[114, 101, 103, 117, 108, 97, 114]⟩ : ByteArray).size : Int) = 16 ∧ fr ((⟨#[99, 111, 110, 116, 101, 110, 116, 115]⟩ : ByteArray).size : Int) = 16 ∧ fr ((⟨#[115, 121, 109, 108, 105, 110, 107]⟩ : ByteArray).size : Int) = 16 ∧ fr ((⟨#[116, 97, 114, 103, 101, 116]⟩ : ByteArray).size : Int) = 16 ∧ fr ((⟨#[101, 110, 116, 114, 121]⟩ : ByteArray).size : Int) = 16 ∧ fr ((⟨#[100, 105, 114, 101, 99, 116, 111, 114, 121]⟩ : ByteArray).size : Int) = 24 := by decide +kernel
theorem frw4 (t : ByteArray) : frS [⟨#[114, 101, 103, 117, 108, 97, 114]⟩, ⟨#[99, 111, 110, 116, 101, 110, 116, 115]⟩, t] = 32 + fr t.size := by
  unfold frS frS frS frS
  rw [fr_2.1, fr_2.2.1]
  omega
theorem frw5 (t : ByteArray) : frS [⟨#[115, 121, 109, 108, 105, 110, 107]⟩, ⟨#[116, 97, 114, 103, 101, 116]⟩, t] = 32 + fr t.size := by
  unfold frS frS frS frS
  rw [fr_2.2.2.1, fr_2.2.2.2.1]
  omega
/-- A literal list of words, framed. -/
theorem tframed_lit (C : Array Value) (T : TypeId) (l : List ByteArray) (n : Nat) (w : World) (h : C.toList = l.map Value.string) (hn : l.length = n) (hl : l.length ≤ 8) (hs : ∀ s ∈ l, s.size ≤ 140737488351232) :
    Calls Tryd.prog 24 #[.slice (some ⟨w.heap.size, 0, none⟩) n n] (w.alloc (.cells C T)) fun e w' => e = .returned (.int .i64 (frS l)) ∧ w' = w.alloc (.cells C T) := by
  subst hn
  exact tframed_any _ _ l _ (StrL.lit w C T l h) hl hs

theorem sz_ok (t : ByteArray) (ht : t.size ≤ 140737488351232) (l : List ByteArray) (h : ∀ s ∈ l, s = t ∨ s.size ≤ 64) : ∀ s ∈ l, s.size ≤ 140737488351232 := fun s hs => by
  rcases h s hs with rfl | h
  · exact ht
  · omega

/-- A node in block B. -/
structure Nd4 (w : World) (B : Nat) (k : Int) (e : Bool) (t : ByteArray) (x : Option Addr) (n c : Nat) : Prop where
  c0 : w.cell? ⟨B, 0, none⟩ = some (.int .i64 k)
  c1 : w.cell? ⟨B, 1, none⟩ = some (.bool e)
  c2 : w.cell? ⟨B, 2, none⟩ = some (.string t)
  c3 : w.cell? ⟨B, 3, none⟩ = some (.slice x n c)
  lt : B < w.heap.size
theorem Nd4.new (w : World) (k : Int) (e : Bool) (t : ByteArray) (x : Option Addr) (n c : Nat) (T : TypeId) : Nd4 (w.alloc (.cells #[.int .i64 k, .bool e, .string t, .slice x n c] T)) w.heap.size k e t x n c :=
  ⟨(World.cell?_alloc_new w _ _ 0).trans rfl, (World.cell?_alloc_new w _ _ 1).trans rfl, (World.cell?_alloc_new w _ _ 2).trans rfl, (World.cell?_alloc_new w _ _ 3).trans rfl, by rw [World.size_alloc]; omega⟩
theorem Nd4.below {w w' : World} {B : Nat} {k : Int} {e : Bool} {t : ByteArray} {x : Option Addr} {n c : Nat} (h : Nd4 w B k e t x n c) (b : Below w.heap.size w w') : Nd4 w' B k e t x n c :=
  ⟨(b.cell (p := ⟨B, 0, none⟩) h.lt).trans h.c0, (b.cell (p := ⟨B, 1, none⟩) h.lt).trans h.c1, (b.cell (p := ⟨B, 2, none⟩) h.lt).trans h.c2, (b.cell (p := ⟨B, 3, none⟩) h.lt).trans h.c3, Nat.lt_of_lt_of_le h.lt b.size⟩
theorem Nd4.alloc {w : World} {B : Nat} {k : Int} {e : Bool} {t : ByteArray} {x : Option Addr} {n c : Nat} (h : Nd4 w B k e t x n c) (o : Obj) : Nd4 (w.alloc o) B k e t x n c := h.below ((Below.refl _ _).alloc (Nat.le_refl _) o)

set_option maxHeartbeats 1600000 in
theorem nodeBytes_any (k : Int) (e : Bool) (t : ByteArray) (x : Option Addr) (n c : Nat) (w : World) (ht : t.size ≤ 140737488351232) :
    Calls Tryd.prog 39 #[ndV k e t x n c] w fun r w' => r = .returned (.int .i64 (nbP k e t)) ∧ Below w.heap.size w w' := by
  have hfb := fr_bd t.size
  unfold ndV
  have N1 : Hid (Nd4 (w.alloc (.cells #[.int .i64 k, .bool e, .string t, .slice x n c] 25)) w.heap.size k e t x n c) := Nd4.new w k e t x n c 25
  have HB1 : Hid (Below w.heap.size w (w.alloc (.cells #[.int .i64 k, .bool e, .string t, .slice x n c] 25))) := (Below.refl _ _).alloc (Nat.le_refl _) _
  have hz1 : (w.alloc (.cells #[.int .i64 k, .bool e, .string t, .slice x n c] 25)).heap.size = w.heap.size + 1 := World.size_alloc _ _
  go_enter Tryd.func39, Tryd.ntmps39
  go_wp2_with fail
  rw [← hz1]
  clear hz1
  generalize w.alloc (.cells #[.int .i64 k, .bool e, .string t, .slice x n c] 25) = w1 at *
  refine (tframed_lit #[.string ⟨#[40]⟩, .string ⟨#[116, 121, 112, 101]⟩, .string ⟨#[41]⟩] 9 [⟨#[40]⟩, ⟨#[116, 121, 112, 101]⟩, ⟨#[41]⟩] 3 w1 rfl rfl (Nat.le_of_ble_eq_true rfl) (sz_ok t ht _ (by intro s hs; simp only [List.mem_cons, List.not_mem_nil, or_false] at hs; rcases hs with rfl | rfl | rfl <;> first | exact .inl rfl | exact .inr (by decide)))).mono ?_
  rintro r wX ⟨rfl, rfl⟩
  rw [frw1]
  have N2 : Hid (Nd4 (w1.alloc (.cells #[.string ⟨#[40]⟩, .string ⟨#[116, 121, 112, 101]⟩, .string ⟨#[41]⟩] 9)) w.heap.size k e t x n c) := N1.out.alloc _
  have HB2 : Hid (Below w.heap.size w (w1.alloc (.cells #[.string ⟨#[40]⟩, .string ⟨#[116, 121, 112, 101]⟩, .string ⟨#[41]⟩] 9))) := HB1.out.alloc HB1.out.size _
  have a0 := N2.out.c0
  have a1 := N2.out.c1
  have a2 := N2.out.c2
  have a3 := N2.out.c3
  generalize w1.alloc (.cells #[.string ⟨#[40]⟩, .string ⟨#[116, 121, 112, 101]⟩, .string ⟨#[41]⟩] 9) = w2 at *
  by_cases k1 : k = 1
  · subst k1
    go_wp2_with fail
    refine (tframed_lit #[.string ⟨#[114, 101, 103, 117, 108, 97, 114]⟩, .string ⟨#[99, 111, 110, 116, 101, 110, 116, 115]⟩, .string t] 9 [⟨#[114, 101, 103, 117, 108, 97, 114]⟩, ⟨#[99, 111, 110, 116, 101, 110, 116, 115]⟩, t] 3 w2 rfl rfl (Nat.le_of_ble_eq_true rfl) (sz_ok t ht _ (by intro s hs; simp only [List.mem_cons, List.not_mem_nil, or_false] at hs; rcases hs with rfl | rfl | rfl <;> first | exact .inl rfl | exact .inr (by decide)))).mono ?_
    rintro r wX ⟨rfl, rfl⟩
    rw [frw4]
    have N3 : Hid (Nd4 (w2.alloc (.cells #[.string ⟨#[114, 101, 103, 117, 108, 97, 114]⟩, .string ⟨#[99, 111, 110, 116, 101, 110, 116, 115]⟩, .string t] 9)) w.heap.size 1 e t x n c) := N2.out.alloc _
    have HB3 : Hid (Below w.heap.size w (w2.alloc (.cells #[.string ⟨#[114, 101, 103, 117, 108, 97, 114]⟩, .string ⟨#[99, 111, 110, 116, 101, 110, 116, 115]⟩, .string t] 9))) := HB2.out.alloc HB2.out.size _
    have a0 := N3.out.c0
    have a1 := N3.out.c1
    have a2 := N3.out.c2
    have a3 := N3.out.c3
    generalize w2.alloc (.cells #[.string ⟨#[114, 101, 103, 117, 108, 97, 114]⟩, .string ⟨#[99, 111, 110, 116, 101, 110, 116, 115]⟩, .string t] 9) = w3 at *
    generalize hF : fr (t.size : Int) = F at *
    cases e
    · have HC : Hid (nbP 1 false t = 80 + F) := by unfold Hid nbP; rw [if_pos rfl, hF]; simp
      have hs : 48 + (32 + F) = 80 + F := by omega
      clear hF
      go_wp2
      go_ret
      refine ⟨?_, HB3.out⟩; rw [HC.out]; first | rfl | (congr 2; omega)
    · have HC : Hid (nbP 1 true t = 80 + F + 32) := by unfold Hid nbP; rw [if_pos rfl, hF]; simp
      have hs : 48 + (32 + F) = 80 + F := by omega
      clear hF
      go_wp2_with fail
      refine (tframed_lit #[.string ⟨#[101, 120, 101, 99, 117, 116, 97, 98, 108, 101]⟩, .string ⟨#[]⟩] 9 [⟨#[101, 120, 101, 99, 117, 116, 97, 98, 108, 101]⟩, ⟨#[]⟩] 2 w3 rfl rfl (Nat.le_of_ble_eq_true rfl) (sz_ok t ht _ (by intro s hs; simp only [List.mem_cons, List.not_mem_nil, or_false] at hs; rcases hs with rfl | rfl <;> first | exact .inl rfl | exact .inr (by decide)))).mono ?_
      rintro r wX ⟨rfl, rfl⟩
      rw [frw2]
      have N4 : Hid (Nd4 (w3.alloc (.cells #[.string ⟨#[101, 120, 101, 99, 117, 116, 97, 98, 108, 101]⟩, .string ⟨#[]⟩] 9)) w.heap.size 1 true t x n c) := N3.out.alloc _
      have HB4 : Hid (Below w.heap.size w (w3.alloc (.cells #[.string ⟨#[101, 120, 101, 99, 117, 116, 97, 98, 108, 101]⟩, .string ⟨#[]⟩] 9))) := HB3.out.alloc HB3.out.size _
      have a0 := N4.out.c0
      have a1 := N4.out.c1
      have a2 := N4.out.c2
      have a3 := N4.out.c3
      generalize w3.alloc (.cells #[.string ⟨#[101, 120, 101, 99, 117, 116, 97, 98, 108, 101]⟩, .string ⟨#[]⟩] 9) = w4 at *
      go_wp2
      go_ret
      refine ⟨?_, HB4.out⟩; rw [HC.out]; first | rfl | (congr 2; omega)
  have b1 : (k == 1) = false := by simpa using k1
  by_cases k2 : k = 2
  · subst k2
    go_wp2_with fail
    refine (tframed_lit #[.string ⟨#[115, 121, 109, 108, 105, 110, 107]⟩, .string ⟨#[116, 97, 114, 103, 101, 116]⟩, .string t] 9 [⟨#[115, 121, 109, 108, 105, 110, 107]⟩, ⟨#[116, 97, 114, 103, 101, 116]⟩, t] 3 w2 rfl rfl (Nat.le_of_ble_eq_true rfl) (sz_ok t ht _ (by intro s hs; simp only [List.mem_cons, List.not_mem_nil, or_false] at hs; rcases hs with rfl | rfl | rfl <;> first | exact .inl rfl | exact .inr (by decide)))).mono ?_
    rintro r wX ⟨rfl, rfl⟩
    rw [frw5]
    have N3 : Hid (Nd4 (w2.alloc (.cells #[.string ⟨#[115, 121, 109, 108, 105, 110, 107]⟩, .string ⟨#[116, 97, 114, 103, 101, 116]⟩, .string t] 9)) w.heap.size 2 e t x n c) := N2.out.alloc _
    have HB3 : Hid (Below w.heap.size w (w2.alloc (.cells #[.string ⟨#[115, 121, 109, 108, 105, 110, 107]⟩, .string ⟨#[116, 97, 114, 103, 101, 116]⟩, .string t] 9))) := HB2.out.alloc HB2.out.size _
    have a0 := N3.out.c0
    have a1 := N3.out.c1
    have a2 := N3.out.c2
    have a3 := N3.out.c3
    generalize w2.alloc (.cells #[.string ⟨#[115, 121, 109, 108, 105, 110, 107]⟩, .string ⟨#[116, 97, 114, 103, 101, 116]⟩, .string t] 9) = w3 at *
    generalize hF : fr (t.size : Int) = F at *
    have HC : Hid (nbP 2 e t = 80 + F) := by unfold Hid nbP; rw [if_neg (by decide), if_pos rfl, hF]
    have hs : 48 + (32 + F) = 80 + F := by omega
    clear hF
    go_wp2
    go_ret
    refine ⟨?_, HB3.out⟩; rw [HC.out]; first | rfl | (congr 2; omega)
  have b2 : (k == 2) = false := by simpa using k2
  by_cases k3 : k = 3
  · subst k3
    have HC : Hid (nbP 3 e t = 72) := by unfold Hid nbP; rw [if_neg (by decide), if_neg (by decide), if_pos rfl]
    go_wp2_with fail
    refine (tframed_lit #[.string ⟨#[100, 105, 114, 101, 99, 116, 111, 114, 121]⟩] 9 [⟨#[100, 105, 114, 101, 99, 116, 111, 114, 121]⟩] 1 w2 rfl rfl (Nat.le_of_ble_eq_true rfl) (sz_ok t ht _ (by intro s hs; simp only [List.mem_cons, List.not_mem_nil, or_false] at hs; rcases hs with rfl <;> first | exact .inl rfl | exact .inr (by decide)))).mono ?_
    rintro r wX ⟨rfl, rfl⟩
    rw [frw3]
    have N3 : Hid (Nd4 (w2.alloc (.cells #[.string ⟨#[100, 105, 114, 101, 99, 116, 111, 114, 121]⟩] 9)) w.heap.size 3 e t x n c) := N2.out.alloc _
    have HB3 : Hid (Below w.heap.size w (w2.alloc (.cells #[.string ⟨#[100, 105, 114, 101, 99, 116, 111, 114, 121]⟩] 9))) := HB2.out.alloc HB2.out.size _
    have a0 := N3.out.c0
    have a1 := N3.out.c1
    have a2 := N3.out.c2
    have a3 := N3.out.c3
    generalize w2.alloc (.cells #[.string ⟨#[100, 105, 114, 101, 99, 116, 111, 114, 121]⟩] 9) = w3 at *
    go_wp2
    go_ret
    refine ⟨?_, HB3.out⟩; rw [HC.out]; first | rfl | (congr 2; omega)
  · have b3 : (k == 3) = false := by simpa using k3
    have HC : Hid (nbP k e t = 48) := by unfold Hid nbP; rw [if_neg k1, if_neg k2, if_neg k3]
    go_wp2
    go_ret
    refine ⟨?_, HB2.out⟩; rw [HC.out]; first | rfl | (congr 2; omega)

end Go.Proofs.YtcmdeiohnkbjlaaDoor
namespace Go.Proofs.YtcmdeiohnkbjlaaDoor
open Go.RowKit

theorem frw6 (t : ByteArray) : frS [⟨#[101, 110, 116, 114, 121]⟩, ⟨#[40]⟩, ⟨#[110, 97, 109, 101]⟩, t, ⟨#[110, 111, 100, 101]⟩, ⟨#[41]⟩] = ebP t := by
  unfold ebP frS frS frS frS frS frS frS
  rw [fr_2.2.2.2.2.1, fr_1.1, fr_1.2.1, fr_1.2.2.2.1, fr_1.2.2.2.2]
  omega
theorem frw7 : frS [⟨#[100, 101, 112, 111, 116, 45, 97, 114, 99, 104, 105, 118, 101, 45, 49]⟩] = 24 := by decide +kernel
theorem frw8 (t : ByteArray) : frS [⟨#[40]⟩, ⟨#[116, 121, 112, 101]⟩, ⟨#[114, 101, 103, 117, 108, 97, 114]⟩, ⟨#[99, 111, 110, 116, 101, 110, 116, 115]⟩, t, ⟨#[41]⟩] = 80 + fr t.size := by
  unfold frS frS frS frS frS frS frS
  rw [fr_1.1, fr_1.2.1, fr_1.2.2.1, fr_2.1, fr_2.2.1]
  omega
theorem frw9 (t : ByteArray) : frS [⟨#[40]⟩, ⟨#[116, 121, 112, 101]⟩, ⟨#[115, 121, 109, 108, 105, 110, 107]⟩, ⟨#[116, 97, 114, 103, 101, 116]⟩, t, ⟨#[41]⟩] = 80 + fr t.size := by
  unfold frS frS frS frS frS frS frS
  rw [fr_1.1, fr_1.2.1, fr_1.2.2.1, fr_2.2.2.1, fr_2.2.2.2.1]
  omega
theorem frwA : frS [⟨#[40]⟩, ⟨#[116, 121, 112, 101]⟩, ⟨#[100, 105, 114, 101, 99, 116, 111, 114, 121]⟩, ⟨#[41]⟩] = 72 := by decide +kernel

set_option maxHeartbeats 400000 in
theorem entryBytes_any (t : ByteArray) (w : World) (ht : t.size ≤ 140737488351232) :
    Calls Tryd.prog 50 #[.string t] w fun r w' => r = .returned (.int .i64 (ebP t)) ∧ Below w.heap.size w w' := by
  go_enter Tryd.func50, Tryd.ntmps50
  go_wp2_with fail
  refine (tframed_lit #[.string ⟨#[101, 110, 116, 114, 121]⟩, .string ⟨#[40]⟩, .string ⟨#[110, 97, 109, 101]⟩, .string t, .string ⟨#[110, 111, 100, 101]⟩, .string ⟨#[41]⟩] 9 [⟨#[101, 110, 116, 114, 121]⟩, ⟨#[40]⟩, ⟨#[110, 97, 109, 101]⟩, t, ⟨#[110, 111, 100, 101]⟩, ⟨#[41]⟩] 6 w rfl rfl (Nat.le_of_ble_eq_true rfl) (sz_ok t ht _ (by intro s hs; simp only [List.mem_cons, List.not_mem_nil, or_false] at hs; rcases hs with rfl | rfl | rfl | rfl | rfl | rfl <;> first | exact .inl rfl | exact .inr (by decide)))).mono ?_
  rintro r wX ⟨rfl, rfl⟩
  rw [frw6]
  go_wp2
  go_ret
  exact ⟨rfl, (Below.refl _ _).alloc (Nat.le_refl _) _⟩

/-- The archive's first word. -/
theorem first_lit (w : World) : Calls Tryd.prog 24 #[.slice (some ⟨w.heap.size, 0, none⟩) 1 1] (w.alloc (.cells #[.string ⟨#[100, 101, 112, 111, 116, 45, 97, 114, 99, 104, 105, 118, 101, 45, 49]⟩] 9)) fun e w' => e = .returned (.int .i64 24) ∧ w' = w.alloc (.cells #[.string ⟨#[100, 101, 112, 111, 116, 45, 97, 114, 99, 104, 105, 118, 101, 45, 49]⟩] 9) := by
  have h := tframed_lit #[.string ⟨#[100, 101, 112, 111, 116, 45, 97, 114, 99, 104, 105, 118, 101, 45, 49]⟩] 9 [⟨#[100, 101, 112, 111, 116, 45, 97, 114, 99, 104, 105, 118, 101, 45, 49]⟩] 1 w rfl rfl (Nat.le_of_ble_eq_true rfl) (by intro s hs; simp only [List.mem_cons, List.not_mem_nil, or_false] at hs; subst hs; decide)
  rw [frw7] at h
  exact h

/-- No nought among the first i bytes of a text that has some. -/
def tgU (t : ByteArray) (i : Nat) : Bool := decide (0 < t.size ∧ ∀ j, j < i → bt t j ≠ 0)
theorem tgU_yes (t : ByteArray) (i : Nat) (h : bt t i = 0) : tgU t (i + 1) = false := decide_eq_false (fun c => c.2 i (by omega) h)
theorem tgU_no (t : ByteArray) (i : Nat) (h : bt t i ≠ 0) : tgU t (i + 1) = tgU t i := by
  unfold tgU
  congr 1
  apply propext
  refine ⟨fun c => ⟨c.1, fun j hj => c.2 j (by omega)⟩, fun c => ⟨c.1, fun j hj => ?_⟩⟩
  by_cases e : j = i
  · rw [e]; exact h
  · exact c.2 j (by omega)
theorem tgU_all (t : ByteArray) : tgU t t.size = decide (tgt t = 0) := by
  unfold tgU tgt
  have h := hasB_iff t 0
  by_cases h0 : t.size = 0
  · rw [if_pos (.inl h0)]
    simp [h0]
  · by_cases hb : hasB t 0 = true
    · rw [if_pos (.inr hb)]
      obtain ⟨j, hj, hj2⟩ := h.1 hb
      have : ¬ (0 < t.size ∧ ∀ j, j < t.size → bt t j ≠ 0) := fun c => c.2 j hj (by simpa using hj2)
      simp [this]
    · rw [if_neg (by simp [h0, hb])]
      have : 0 < t.size ∧ ∀ j, j < t.size → bt t j ≠ 0 := ⟨by omega, fun j hj c => hb (h.2 ⟨j, hj, by simpa using c⟩)⟩
      rw [decide_eq_true this]
      rfl

/-- The bytes that Own tells. -/
def ownB (k : Int) (e : Bool) (t : ByteArray) (n : Nat) : Int := if cfP k e t n = 0 then nbP k e t else 0

theorem own_bad {k : Int} {e : Bool} {t : ByteArray} {n : Nat} {v : Int} (h : cfP k e t n = v) (hv : v ≠ 0) : Ending.returned (.tuple #[.int .i64 v, .int .i64 0]) = .returned (.tuple #[.int .i64 (cfP k e t n), .int .i64 (ownB k e t n)]) := by
  unfold ownB
  rw [h, if_neg hv]

theorem own_good {k : Int} {e : Bool} {t : ByteArray} {n : Nat} {v : Int} (h : cfP k e t n = 0) (hv : nbP k e t = v) : Ending.returned (.tuple #[.int .i64 0, .int .i64 v]) = .returned (.tuple #[.int .i64 (cfP k e t n), .int .i64 (ownB k e t n)]) := by
  unfold ownB
  rw [h, if_pos rfl, hv]

end Go.Proofs.YtcmdeiohnkbjlaaDoor
namespace Go.Proofs.YtcmdeiohnkbjlaaDoor
open Go.RowKit

mutual
def tbT : Tr → Int
  | .mk k e t ns ks => nbP k e t + tbL ns ks
def tbL : List ByteArray → List Tr → Int
  | s :: ns, T :: ks => ebP s + tbT T + tbL ns ks
  | _, _ => 0
end
mutual
def szT : Tr → Prop
  | .mk _ _ t ns ks => t.size ≤ 140737488351232 ∧ szL ns ks
def szL : List ByteArray → List Tr → Prop
  | s :: ns, T :: ks => s.size ≤ 140737488351232 ∧ szT T ∧ szL ns ks
  | _, _ => True
end
theorem nbP_bd (k : Int) (e : Bool) (t : ByteArray) : 0 ≤ nbP k e t ∧ nbP k e t ≤ 1099511628000 := by
  have := fr_bd t.size
  unfold nbP
  split
  · cases e <;> simp <;> omega
  · split
    · omega
    · split <;> omega
theorem ebP_bd (s : ByteArray) : 0 ≤ ebP s ∧ ebP s ≤ 1099511628000 := by
  have := fr_bd s.size
  unfold ebP
  omega
theorem tbL_take (ns : List ByteArray) : ∀ (ks : List Tr) (i : Nat) (s : ByteArray) (T : Tr), ns[i]? = some s → ks[i]? = some T → tbL (ns.take (i + 1)) (ks.take (i + 1)) = tbL (ns.take i) (ks.take i) + (ebP s + tbT T) := by
  induction ns with
  | nil => intro ks i s T h; simp at h
  | cons a ns ih =>
    intro ks i s T h1 h2
    cases ks with
    | nil => simp at h2
    | cons K ks =>
      cases i with
      | zero =>
        simp at h1 h2
        subst h1 h2
        simp [tbL]
      | succ i =>
        have := ih ks i s T (by simpa using h1) (by simpa using h2)
        rw [List.take_succ_cons, List.take_succ_cons, List.take_succ_cons, List.take_succ_cons, tbL, tbL, this]
        omega
theorem szL_at (ns : List ByteArray) : ∀ (ks : List Tr) (i : Nat) (s : ByteArray) (T : Tr), szL ns ks → ns[i]? = some s → ks[i]? = some T → s.size ≤ 140737488351232 ∧ szT T := by
  induction ns with
  | nil => intro ks i s T _ h; simp at h
  | cons a ns ih =>
    intro ks i s T h0 h1 h2
    cases ks with
    | nil => simp at h2
    | cons K ks =>
      rw [szL] at h0
      cases i with
      | zero =>
        simp at h1 h2
        subst h1 h2
        exact ⟨h0.1, h0.2.1⟩
      | succ i => exact ih ks i s T h0.2.2 (by simpa using h1) (by simpa using h2)
theorem tb_nonneg (f : Nat) : ∀ (w : World) (v : Value) (T : Tr), At w f v T → 0 ≤ tbT T := by
  induction f with
  | zero => intro w v T h; exact h.elim
  | succ f ih =>
    rintro w v ⟨k, e, t, ns, ks⟩ ⟨x, n, c, rfl, l1, l2, l3, l4, hx⟩
    have EX : Ents w f x n ns ks := At.ents hx
    have key : ∀ i, i ≤ n → 0 ≤ tbL (ns.take i) (ks.take i) := by
      intro i
      induction i with
      | zero => intro _; simp [tbL]
      | succ i ih2 =>
        intro hi
        obtain ⟨s, hs⟩ : ∃ s, ns[i]? = some s := ⟨_, List.getElem?_eq_getElem (by omega)⟩
        obtain ⟨S, hS⟩ : ∃ s, ks[i]? = some s := ⟨_, List.getElem?_eq_getElem (by omega)⟩
        rw [tbL_take ns ks i s S hs hS]
        obtain ⟨g, o, a, b, d, f', p, q, _, _, _, _, _, _, _, hA⟩ := EX i s S (by omega) hs hS
        have := ih w _ S hA
        have := ebP_bd s
        have := ih2 (by omega)
        omega
    have := key n (Nat.le_refl _)
    rw [List.take_of_length_le (by omega), List.take_of_length_le (by omega)] at this
    have := nbP_bd k e t
    rw [tbT]
    omega

theorem tbL_mono (ns : List ByteArray) (ks : List Tr) (n : Nat) (l1 : ns.length = n) (l2 : ks.length = n) (HP : ∀ (j : Nat) (T : Tr), j < n → ks[j]? = some T → 0 ≤ tbT T) : ∀ d i, i + d = n → tbL (ns.take i) (ks.take i) ≤ tbL ns ks := by
  intro d
  induction d with
  | zero =>
    intro i hi
    rw [List.take_of_length_le (by omega), List.take_of_length_le (by omega)]
    exact Int.le_refl _
  | succ d ih =>
    intro i hi
    obtain ⟨s, hs⟩ : ∃ s, ns[i]? = some s := ⟨_, List.getElem?_eq_getElem (by omega)⟩
    obtain ⟨S, hS⟩ : ∃ s, ks[i]? = some s := ⟨_, List.getElem?_eq_getElem (by omega)⟩
    have h1 := tbL_take ns ks i s S hs hS
    have h2 := ih (i + 1) (by omega)
    have := HP i S (by omega) hS
    have := ebP_bd s
    omega
theorem tbL_nonneg (ns : List ByteArray) (ks : List Tr) (n : Nat) (l1 : ns.length = n) (l2 : ks.length = n) (HP : ∀ (j : Nat) (T : Tr), j < n → ks[j]? = some T → 0 ≤ tbT T) : ∀ i, i ≤ n → 0 ≤ tbL (ns.take i) (ks.take i) := by
  intro i
  induction i with
  | zero => intro _; simp [tbL]
  | succ i ih =>
    intro hi
    obtain ⟨s, hs⟩ : ∃ s, ns[i]? = some s := ⟨_, List.getElem?_eq_getElem (by omega)⟩
    obtain ⟨S, hS⟩ : ∃ s, ks[i]? = some s := ⟨_, List.getElem?_eq_getElem (by omega)⟩
    rw [tbL_take ns ks i s S hs hS]
    have := HP i S (by omega) hS
    have := ebP_bd s
    have := ih (by omega)
    omega
/-- A kid's block, behind what made memory above it. -/
theorem afterK {w w5 : World} {C : Array Value} {T1 : TypeId} (b : Below (w.alloc (.cells C T1)).heap.size (w.alloc (.cells C T1)) w5) : ∀ j, w5.cell? ⟨w.heap.size, j, none⟩ = C[j]? := fun j =>
  (b.cell (p := ⟨w.heap.size, j, none⟩) (by rw [World.size_alloc]; show w.heap.size < _; omega)).trans (World.cell?_alloc_new w _ _ j)

end Go.Proofs.YtcmdeiohnkbjlaaDoor
namespace Go.Proofs.YtcmdeiohnkbjlaaDoor
open Go.RowKit

/-- The texts with slashes between them. -/
def joinB : List ByteArray → ByteArray
  | [] => ⟨#[]⟩
  | [s] => s
  | s :: t :: r => s ++ ⟨#[47]⟩ ++ joinB (t :: r)
theorem joinB_snoc (ns : List ByteArray) (s : ByteArray) (h : ns ≠ []) : joinB (ns ++ [s]) = joinB ns ++ ⟨#[47]⟩ ++ s := by
  induction ns with
  | nil => exact absurd rfl h
  | cons a ns ih =>
    cases ns with
    | nil => rfl
    | cons b ns =>
      show a ++ ⟨#[47]⟩ ++ joinB (b :: ns ++ [s]) = a ++ ⟨#[47]⟩ ++ joinB (b :: ns) ++ ⟨#[47]⟩ ++ s
      rw [ih (by simp)]
      simp [ByteArray.append_assoc]
/-- What strings.Join is wanted for. -/
def JoinC : Prop := ∀ (x : Option Addr) (c : Nat) (xs : List ByteArray) (w : World), StrL w x xs → xs.length ≤ c → xs.length ≤ 64 → (∀ s ∈ xs, s.size ≤ 1048576) →
  Calls Tryd.prog 46 #[.slice x xs.length c, .string ⟨#[47]⟩] w fun e w' => e = .returned (.string (joinB xs)) ∧ Below w.heap.size w w'

/-- Block g is a walk: the names on the way, the bytes so far. -/
structure Wk (w : World) (g : Nat) (x : Option Addr) (c : Nat) (ns : List ByteArray) (b : Int) : Prop where
  c0 : w.cell? ⟨g, 0, none⟩ = some (.slice x ns.length c)
  c1 : w.cell? ⟨g, 1, none⟩ = some (.int .i64 b)
  f0 : w.frozen? ⟨g, 0, none⟩ = false
  f1 : w.frozen? ⟨g, 1, none⟩ = false
  row : StrL w x ns
  len : ns.length ≤ c
/-- What a walk gives up with. -/
def offV (p : ByteArray) (code : Int) : Value := .iface 69 (.agg #[.string p, .int .i64 code])

set_option maxHeartbeats 800000 in
theorem refuse_ok (g : Nat) (w : World) :
    Calls Tryd.prog 36 #[.pointer (some ⟨g, 0, none⟩), .int .i64 0] w fun e w' => e = .returned (.tuple #[]) ∧ w' = w := by
  go_enter Tryd.func36, Tryd.ntmps36
  go_wp2
  go_end0
  exact ⟨rfl, rfl⟩

set_option maxHeartbeats 800000 in
theorem refuse_bad (JC : JoinC) (g : Nat) (x : Option Addr) (c : Nat) (ns : List ByteArray) (b code : Int) (w : World) (W : Wk w g x c ns b) (hc : code ≠ 0) (hl : ns.length ≤ 64) (hj : ∀ s ∈ ns, s.size ≤ 1048576) :
    Calls Tryd.prog 36 #[.pointer (some ⟨g, 0, none⟩), .int .i64 code] w fun e w' => e = .panicked [{ v := offV (joinB ns) code, recovered := false }] ∧ Below w.heap.size w w' := by
  have c0 := W.c0
  have J := JC x c ns w W.row W.len hl hj
  have hb : (code == 0) = false := by simpa using hc
  have hb2 : (code != 0) = true := by simpa using hc
  generalize joinB ns = P at *
  go_enter Tryd.func36, Tryd.ntmps36
  go_wp2_with fail
  refine J.mono ?_
  rintro e w1 ⟨rfl, b1⟩
  clear J
  go_wp2
  exact ⟨rfl, rfl, b1⟩

/-- Behind count: the bytes, or too many of them. -/
theorem Wk.put {w : World} {g : Nat} {x : Option Addr} {c : Nat} {ns : List ByteArray} {b : Int} (W : Wk w g x c ns b) (b' : Int) (hx : ∀ q o, x = some ⟨q, o, none⟩ → q ≠ g) : Wk (w.setCell ⟨g, 1, none⟩ (.int .i64 b')) g x c ns b' := by
  refine ⟨?_, World.cell?_setCell_same _ _ _ W.c1, ?_, ?_, fun k hk => ?_, W.len⟩
  · rw [World.cell?_setCell_other _ _ _ _ (fun e => by cases e)]; exact W.c0
  · rw [World.frozen?_setCell]; exact W.f0
  · rw [World.frozen?_setCell]; exact W.f1
  · obtain ⟨q, o, h1, h2, h3⟩ := W.row k hk
    refine ⟨q, o, h1, by simpa using h2, ?_⟩
    rw [World.cell?_setCell_other _ _ _ _ (fun e => hx q o h1 (by have h := congrArg Addr.block e; first | exact h | exact h.symm))]
    exact h3

set_option maxHeartbeats 800000 in
theorem count_ok (g : Nat) (x : Option Addr) (c : Nat) (ns : List ByteArray) (b n : Int) (w : World) (W : Wk w g x c ns b) (h0 : 0 ≤ b + n) (h1 : b + n ≤ 1048576) :
    Calls Tryd.prog 38 #[.pointer (some ⟨g, 0, none⟩), .int .i64 n] w fun e w' => e = .returned (.tuple #[]) ∧ w' = w.setCell ⟨g, 1, none⟩ (.int .i64 (b + n)) := by
  have c1 := W.c1
  have f1 := W.f1
  have s1 : (w.setCell ⟨g, 1, none⟩ (.int .i64 (b + n))).cell? ⟨g, 1, none⟩ = some (.int .i64 (b + n)) := World.cell?_setCell_same _ _ _ W.c1
  go_enter Tryd.func38, Tryd.ntmps38
  go_wp2
  go_end0
  exact ⟨rfl, rfl⟩

set_option maxHeartbeats 800000 in
theorem count_bad (JC : JoinC) (g : Nat) (x : Option Addr) (c : Nat) (ns : List ByteArray) (b n : Int) (w : World) (W : Wk w g x c ns b) (hx : ∀ q o, x = some ⟨q, o, none⟩ → q ≠ g) (h0 : 1048576 < b + n) (h1 : b + n ≤ 9223372036854775807) (hl : ns.length ≤ 64) (hj : ∀ s ∈ ns, s.size ≤ 1048576) (B : Nat) (hB : B ≤ g) (hBw : B ≤ w.heap.size) :
    Calls Tryd.prog 38 #[.pointer (some ⟨g, 0, none⟩), .int .i64 n] w fun e w' => e = .panicked [{ v := offV (joinB ns) 2, recovered := false }] ∧ Below B w w' := by
  have c1 := W.c1
  have f1 := W.f1
  have s1 : (w.setCell ⟨g, 1, none⟩ (.int .i64 (b + n))).cell? ⟨g, 1, none⟩ = some (.int .i64 (b + n)) := World.cell?_setCell_same _ _ _ W.c1
  have R := refuse_bad JC g x c ns (b + n) 2 (w.setCell ⟨g, 1, none⟩ (.int .i64 (b + n))) (W.put (b + n) hx) (by decide) hl hj
  generalize joinB ns = P at *
  go_enter Tryd.func38, Tryd.ntmps38
  go_wp2_with fail
  refine R.mono ?_
  rintro e w1 ⟨rfl, b1⟩
  clear R
  go_wp2
  exact ⟨rfl, rfl, ((Below.refl B w).setCell hB _).trans (b1.mono (by simpa using hBw))⟩

end Go.Proofs.YtcmdeiohnkbjlaaDoor
