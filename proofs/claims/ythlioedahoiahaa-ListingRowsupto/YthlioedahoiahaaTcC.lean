/- An entry's bytes, an archive's beginning; a node's own fields by the document. -/
import Derived.Test.YthlioedahoiahaaTcB
namespace Go.Proofs.Ythlioedahoiahaa
open Go.RowKit

theorem frw6 (t : ByteArray) : frS [⟨#[101, 110, 116, 114, 121]⟩, ⟨#[40]⟩, ⟨#[110, 97, 109, 101]⟩, t, ⟨#[110, 111, 100, 101]⟩, ⟨#[41]⟩] = ebP t := by
  unfold ebP frS frS frS frS frS frS frS
  rw [fr_2.2.2.2.2.1, fr_1.1, fr_1.2.1, fr_1.2.2.2.1, fr_1.2.2.2.2]
  omega
theorem frw7 : frS [⟨#[100, 101, 112, 111, 116, 45, 97, 114, 99, 104, 105, 118, 101, 45, 49]⟩] = 24 := by decide +kernel
theorem frw8 (t : ByteArray) : frS [⟨#[40]⟩, ⟨#[116, 121, 112, 101]⟩, ⟨#[114, 101, 103, 117, 108, 97, 114]⟩, ⟨#[99, 111, 110, 116, 101, 110, 116, 115]⟩, t, ⟨#[41]⟩] = 80 + fr t.size := by
  unfold frS frS frS frS frS frS frS
  rw [fr_1.1, fr_1.2.1, fr_1.2.2.1, fr_2.1, fr_2.2.1]
  omega
theorem frw9 (t : ByteArray) : frS [⟨#[40]⟩, ⟨#[116, 121, 112, 101]⟩, ⟨#[115, 121, 109, 108, 105, 110, 107]⟩, ⟨#[116, 97, 114, 103, 101, 116]⟩, t, ⟨#[41]⟩] = 80 + fr t.size := by
  unfold frS frS frS frS frS frS frS
  rw [fr_1.1, fr_1.2.1, fr_1.2.2.1, fr_2.2.2.1, fr_2.2.2.2.1]
  omega
theorem frwA : frS [⟨#[40]⟩, ⟨#[116, 121, 112, 101]⟩, ⟨#[100, 105, 114, 101, 99, 116, 111, 114, 121]⟩, ⟨#[41]⟩] = 72 := by decide +kernel

set_option maxHeartbeats 400000 in
theorem entryBytes_any (t : ByteArray) (w : World) (ht : t.size ≤ 140737488351232) :
    Calls Try.prog 66 #[.string t] w fun r w' => r = .returned (.int .i64 (ebP t)) ∧ Below w.heap.size w w' := by
  go_enter Try.func66, Try.ntmps66
  go_wp2_with fail
  refine (tframed_lit #[.string ⟨#[101, 110, 116, 114, 121]⟩, .string ⟨#[40]⟩, .string ⟨#[110, 97, 109, 101]⟩, .string t, .string ⟨#[110, 111, 100, 101]⟩, .string ⟨#[41]⟩] 9 [⟨#[101, 110, 116, 114, 121]⟩, ⟨#[40]⟩, ⟨#[110, 97, 109, 101]⟩, t, ⟨#[110, 111, 100, 101]⟩, ⟨#[41]⟩] 6 w rfl rfl (Nat.le_of_ble_eq_true rfl) (sz_ok t ht _ (by intro s hs; simp only [List.mem_cons, List.not_mem_nil, or_false] at hs; rcases hs with rfl | rfl | rfl | rfl | rfl | rfl <;> first | exact .inl rfl | exact .inr (by decide)))).mono ?_
  rintro r wX ⟨rfl, rfl⟩
  rw [frw6]
  go_wp2
  go_ret
  exact ⟨rfl, (Below.refl _ _).alloc (Nat.le_refl _) _⟩

set_option maxHeartbeats 400000 in
theorem rentry_any (t : ByteArray) (w : World) (ht : t.size ≤ 140737488351232) :
    Calls Try.prog 47 #[.string t] w fun r w' => r = .returned (.int .i64 (ebP t)) ∧ Below w.heap.size w w' := by
  go_enter Try.func47, Try.ntmps47
  go_wp2_with fail
  refine (room_lit #[.string ⟨#[101, 110, 116, 114, 121]⟩, .string ⟨#[40]⟩, .string ⟨#[110, 97, 109, 101]⟩, .string t, .string ⟨#[110, 111, 100, 101]⟩, .string ⟨#[41]⟩] 9 [⟨#[101, 110, 116, 114, 121]⟩, ⟨#[40]⟩, ⟨#[110, 97, 109, 101]⟩, t, ⟨#[110, 111, 100, 101]⟩, ⟨#[41]⟩] 6 w rfl rfl (Nat.le_of_ble_eq_true rfl) (sz_ok t ht _ (by intro s hs; simp only [List.mem_cons, List.not_mem_nil, or_false] at hs; rcases hs with rfl | rfl | rfl | rfl | rfl | rfl <;> first | exact .inl rfl | exact .inr (by decide)))).mono ?_
  rintro r wX ⟨rfl, rfl⟩
  rw [frw6]
  go_wp2
  go_ret
  exact ⟨rfl, (Below.refl _ _).alloc (Nat.le_refl _) _⟩

set_option maxHeartbeats 400000 in
theorem magic_any (w : World) : Calls Try.prog 30 #[] w fun r w' => r = .returned (.int .i64 24) ∧ Below w.heap.size w w' := by
  go_enter Try.func30, Try.ntmps30
  go_wp2_with fail
  refine (room_lit #[.string ⟨#[100, 101, 112, 111, 116, 45, 97, 114, 99, 104, 105, 118, 101, 45, 49]⟩] 9 [⟨#[100, 101, 112, 111, 116, 45, 97, 114, 99, 104, 105, 118, 101, 45, 49]⟩] 1 w rfl rfl (Nat.le_of_ble_eq_true rfl) (by intro s hs; simp only [List.mem_cons, List.not_mem_nil, or_false] at hs; subst hs; decide)).mono ?_
  rintro r wX ⟨rfl, rfl⟩
  rw [frw7]
  go_wp2
  go_ret
  exact ⟨rfl, (Below.refl _ _).alloc (Nat.le_refl _) _⟩

/-- The archive's first word. -/
theorem first_lit (w : World) : Calls Try.prog 32 #[.slice (some ⟨w.heap.size, 0, none⟩) 1 1] (w.alloc (.cells #[.string ⟨#[100, 101, 112, 111, 116, 45, 97, 114, 99, 104, 105, 118, 101, 45, 49]⟩] 9)) fun e w' => e = .returned (.int .i64 24) ∧ w' = w.alloc (.cells #[.string ⟨#[100, 101, 112, 111, 116, 45, 97, 114, 99, 104, 105, 118, 101, 45, 49]⟩] 9) := by
  have h := tframed_lit #[.string ⟨#[100, 101, 112, 111, 116, 45, 97, 114, 99, 104, 105, 118, 101, 45, 49]⟩] 9 [⟨#[100, 101, 112, 111, 116, 45, 97, 114, 99, 104, 105, 118, 101, 45, 49]⟩] 1 w rfl rfl (Nat.le_of_ble_eq_true rfl) (by intro s hs; simp only [List.mem_cons, List.not_mem_nil, or_false] at hs; subst hs; decide)
  rw [frw7] at h
  exact h

/-- No nought among the first i bytes of a text that has some. -/
def tgU (t : ByteArray) (i : Nat) : Bool := decide (0 < t.size ∧ ∀ j, j < i → bt t j ≠ 0)
theorem tgU_yes (t : ByteArray) (i : Nat) (h : bt t i = 0) : tgU t (i + 1) = false := decide_eq_false (fun c => c.2 i (by omega) h)
theorem tgU_no (t : ByteArray) (i : Nat) (h : bt t i ≠ 0) : tgU t (i + 1) = tgU t i := by
  unfold tgU
  congr 1
  apply propext
  refine ⟨fun c => ⟨c.1, fun j hj => c.2 j (by omega)⟩, fun c => ⟨c.1, fun j hj => ?_⟩⟩
  by_cases e : j = i
  · rw [e]; exact h
  · exact c.2 j (by omega)
theorem tgU_all (t : ByteArray) : tgU t t.size = decide (tgt t = 0) := by
  unfold tgU tgt
  have h := hasB_iff t 0
  by_cases h0 : t.size = 0
  · rw [if_pos (.inl h0)]
    simp [h0]
  · by_cases hb : hasB t 0 = true
    · rw [if_pos (.inr hb)]
      obtain ⟨j, hj, hj2⟩ := h.1 hb
      have : ¬ (0 < t.size ∧ ∀ j, j < t.size → bt t j ≠ 0) := fun c => c.2 j hj (by simpa using hj2)
      simp [this]
    · rw [if_neg (by simp [h0, hb])]
      have : 0 < t.size ∧ ∀ j, j < t.size → bt t j ≠ 0 := ⟨by omega, fun j hj c => hb (h.2 ⟨j, hj, by simpa using c⟩)⟩
      rw [decide_eq_true this]
      rfl

/-- The bytes that Own tells. -/
def ownB (k : Int) (e : Bool) (t : ByteArray) (n : Nat) : Int := if cfP k e t n = 0 then nbP k e t else 0

theorem own_bad {k : Int} {e : Bool} {t : ByteArray} {n : Nat} {v : Int} (h : cfP k e t n = v) (hv : v ≠ 0) : Ending.returned (.tuple #[.int .i64 v, .int .i64 0]) = .returned (.tuple #[.int .i64 (cfP k e t n), .int .i64 (ownB k e t n)]) := by
  unfold ownB
  rw [h, if_neg hv]

theorem own_good {k : Int} {e : Bool} {t : ByteArray} {n : Nat} {v : Int} (h : cfP k e t n = 0) (hv : nbP k e t = v) : Ending.returned (.tuple #[.int .i64 0, .int .i64 v]) = .returned (.tuple #[.int .i64 (cfP k e t n), .int .i64 (ownB k e t n)]) := by
  unfold ownB
  rw [h, if_pos rfl, hv]

set_option maxHeartbeats 3200000 in
theorem own_any (k : Int) (e : Bool) (t : ByteArray) (x : Option Addr) (n c : Nat) (w : World) (ht : t.size ≤ 140737488351232) :
    Calls Try.prog 44 #[ndV k e t x n c] w fun r w' => r = .returned (.tuple #[.int .i64 (cfP k e t n), .int .i64 (ownB k e t n)]) ∧ Below w.heap.size w w' := by
  have hfb := fr_bd t.size
  unfold ndV
  have N1 : Hid (Nd4 (w.alloc (.cells #[.int .i64 k, .bool e, .string t, .slice x n c] 37)) w.heap.size k e t x n c) := Nd4.new w k e t x n c 37
  have HB1 : Hid (Below w.heap.size w (w.alloc (.cells #[.int .i64 k, .bool e, .string t, .slice x n c] 37))) := (Below.refl _ _).alloc (Nat.le_refl _) _
  have hgb := get_bt t
  go_enter Try.func44, Try.ntmps44
  have c2 := N1.out.c2
  go_wp2
  generalize w.alloc (.cells #[.int .i64 k, .bool e, .string t, .slice x n c] 37) = w1 at *
  go_loopw [4, 5] (fun v4 ix wr => ∃ i : Nat, i ≤ t.size ∧ ix = .int .i64 i ∧ v4 = .bool (tgU t i) ∧ wr = w1) (fun _ i _ => t.size - (intOf i).toNat)
  case atStart => exact ⟨0, Nat.zero_le _, rfl, by unfold tgU; first | rfl | simp, by first | rfl | trivial⟩
  case round =>
    obtain ⟨i, hi, rfl, rfl, rfl⟩ := hrel
    by_cases hlt : i < t.size
    · by_cases hz : bt t i = 0
      · have HU : Hid (tgU t (i + 1) = false) := tgU_yes t i hz
        have i1 : (i : Int) < (t.size : Int) := by omega
        go_wp2
        go_roundw
        case rel => exact ⟨i + 1, by omega, by go_num, by rw [HU.out], by first | rfl | trivial⟩
        case measure => simp [intOf]; omega
      · have HU : Hid (tgU t (i + 1) = tgU t i) := tgU_no t i hz
        have hzb : (bt t i == 0) = false := by simpa using hz
        have i1 : (i : Int) < (t.size : Int) := by omega
        go_wp2
        go_roundw
        case rel => exact ⟨i + 1, by omega, by go_num, by rw [HU.out], by first | rfl | trivial⟩
        case measure => simp [intOf]; omega
    · obtain rfl : i = t.size := by omega
      have HU : Hid (tgU t t.size = decide (tgt t = 0)) := tgU_all t
      generalize tgU t t.size = U at *
      have c0 := N1.out.c0
      have c1 := N1.out.c1
      have c3 := N1.out.c3
      have hE := empty_iff t
      clear hgb
      by_cases k1 : k = 1
      · subst k1
        by_cases hn : 0 < n
        · have HC : Hid (cfP 1 e t n = 62) := by unfold Hid cfP; rw [if_pos rfl, if_pos hn]
          have hn2 : ((n : Int) == 0) = false := by simp; omega
          have hn3 : (n : Int) ≠ 0 := by omega
          go_wp2
          go_ret2
          exact ⟨own_bad HC.out (by decide), HB1.out⟩
        · obtain rfl : n = 0 := by omega
          have HC : Hid (cfP 1 e t 0 = 0) := by unfold Hid cfP; rw [if_pos rfl, if_neg hn]
          go_wp2_with fail
          refine (room_lit #[.string ⟨#[40]⟩, .string ⟨#[116, 121, 112, 101]⟩, .string ⟨#[114, 101, 103, 117, 108, 97, 114]⟩, .string ⟨#[99, 111, 110, 116, 101, 110, 116, 115]⟩, .string t, .string ⟨#[41]⟩] 9 [⟨#[40]⟩, ⟨#[116, 121, 112, 101]⟩, ⟨#[114, 101, 103, 117, 108, 97, 114]⟩, ⟨#[99, 111, 110, 116, 101, 110, 116, 115]⟩, t, ⟨#[41]⟩] 6 wr rfl rfl (Nat.le_of_ble_eq_true rfl) (sz_ok t ht _ (by intro s hs; simp only [List.mem_cons, List.not_mem_nil, or_false] at hs; rcases hs with rfl | rfl | rfl | rfl | rfl | rfl <;> first | exact .inl rfl | exact .inr (by decide)))).mono ?_
          rintro r wX ⟨rfl, rfl⟩
          rw [frw8]
          have N2 : Hid (Nd4 (wr.alloc (.cells #[.string ⟨#[40]⟩, .string ⟨#[116, 121, 112, 101]⟩, .string ⟨#[114, 101, 103, 117, 108, 97, 114]⟩, .string ⟨#[99, 111, 110, 116, 101, 110, 116, 115]⟩, .string t, .string ⟨#[41]⟩] 9)) w.heap.size 1 e t x 0 c) := N1.out.alloc _
          have HB2 : Hid (Below w.heap.size w (wr.alloc (.cells #[.string ⟨#[40]⟩, .string ⟨#[116, 121, 112, 101]⟩, .string ⟨#[114, 101, 103, 117, 108, 97, 114]⟩, .string ⟨#[99, 111, 110, 116, 101, 110, 116, 115]⟩, .string t, .string ⟨#[41]⟩] 9))) := HB1.out.alloc HB1.out.size _
          have z1 := N2.out.c1
          generalize wr.alloc (.cells #[.string ⟨#[40]⟩, .string ⟨#[116, 121, 112, 101]⟩, .string ⟨#[114, 101, 103, 117, 108, 97, 114]⟩, .string ⟨#[99, 111, 110, 116, 101, 110, 116, 115]⟩, .string t, .string ⟨#[41]⟩] 9) = w2 at *
          generalize hF : fr (t.size : Int) = F at *
          cases e
          · have HN : Hid (nbP 1 false t = 80 + F) := by unfold Hid nbP; rw [if_pos rfl, hF]; simp
            clear hF hE
            go_wp2
            go_ret2
            exact ⟨own_good HC.out HN.out, HB2.out⟩
          · have HN : Hid (nbP 1 true t = 80 + F + 32) := by unfold Hid nbP; rw [if_pos rfl, hF]; simp
            clear hF hE
            go_wp2_with fail
            refine (room_lit #[.string ⟨#[101, 120, 101, 99, 117, 116, 97, 98, 108, 101]⟩, .string ⟨#[]⟩] 9 [⟨#[101, 120, 101, 99, 117, 116, 97, 98, 108, 101]⟩, ⟨#[]⟩] 2 w2 rfl rfl (Nat.le_of_ble_eq_true rfl) (sz_ok t ht _ (by intro s hs; simp only [List.mem_cons, List.not_mem_nil, or_false] at hs; rcases hs with rfl | rfl <;> first | exact .inl rfl | exact .inr (by decide)))).mono ?_
            rintro r wX ⟨rfl, rfl⟩
            rw [frw2]
            have N3 : Hid (Nd4 (w2.alloc (.cells #[.string ⟨#[101, 120, 101, 99, 117, 116, 97, 98, 108, 101]⟩, .string ⟨#[]⟩] 9)) w.heap.size 1 true t x 0 c) := N2.out.alloc _
            have HB3 : Hid (Below w.heap.size w (w2.alloc (.cells #[.string ⟨#[101, 120, 101, 99, 117, 116, 97, 98, 108, 101]⟩, .string ⟨#[]⟩] 9))) := HB2.out.alloc HB2.out.size _
            have z1 := N3.out.c1
            generalize w2.alloc (.cells #[.string ⟨#[101, 120, 101, 99, 117, 116, 97, 98, 108, 101]⟩, .string ⟨#[]⟩] 9) = w3 at *
            go_wp2
            go_ret2
            exact ⟨own_good HC.out HN.out, HB3.out⟩
      have b1 : (k == 1) = false := by simpa using k1
      by_cases k2 : k = 2
      · subst k2
        by_cases hn : e = true ∨ 0 < n
        · have HC : Hid (cfP 2 e t n = 62) := by unfold Hid cfP; rw [if_neg (by decide), if_pos rfl, if_pos hn]
          cases e
          · have hn2 : 0 < n := by simpa using hn
            have hn3 : ((n : Int) == 0) = false := by simp; omega
            have hn4 : (n : Int) ≠ 0 := by omega
            go_wp2
            go_ret2
            exact ⟨own_bad HC.out (by decide), HB1.out⟩
          · go_wp2
            go_ret2
            exact ⟨own_bad HC.out (by decide), HB1.out⟩
        · obtain rfl : n = 0 := by omega
          obtain rfl : e = false := by cases e; rfl; exact absurd (.inl rfl) hn
          have HC : Hid (cfP 2 false t 0 = tgt t) := by unfold Hid cfP; rw [if_neg (by decide), if_pos rfl, if_neg hn]
          by_cases hT : tgt t = 0
          · obtain rfl : U = true := HU.out.trans (decide_eq_true hT)
            have HN : Hid (nbP 2 false t = 80 + fr t.size) := by unfold Hid nbP; rw [if_neg (by decide), if_pos rfl]
            clear hE
            go_wp2_with fail
            refine (room_lit #[.string ⟨#[40]⟩, .string ⟨#[116, 121, 112, 101]⟩, .string ⟨#[115, 121, 109, 108, 105, 110, 107]⟩, .string ⟨#[116, 97, 114, 103, 101, 116]⟩, .string t, .string ⟨#[41]⟩] 9 [⟨#[40]⟩, ⟨#[116, 121, 112, 101]⟩, ⟨#[115, 121, 109, 108, 105, 110, 107]⟩, ⟨#[116, 97, 114, 103, 101, 116]⟩, t, ⟨#[41]⟩] 6 wr rfl rfl (Nat.le_of_ble_eq_true rfl) (sz_ok t ht _ (by intro s hs; simp only [List.mem_cons, List.not_mem_nil, or_false] at hs; rcases hs with rfl | rfl | rfl | rfl | rfl | rfl <;> first | exact .inl rfl | exact .inr (by decide)))).mono ?_
            rintro r wX ⟨rfl, rfl⟩
            rw [frw9]
            have N2 : Hid (Nd4 (wr.alloc (.cells #[.string ⟨#[40]⟩, .string ⟨#[116, 121, 112, 101]⟩, .string ⟨#[115, 121, 109, 108, 105, 110, 107]⟩, .string ⟨#[116, 97, 114, 103, 101, 116]⟩, .string t, .string ⟨#[41]⟩] 9)) w.heap.size 2 false t x 0 c) := N1.out.alloc _
            have HB2 : Hid (Below w.heap.size w (wr.alloc (.cells #[.string ⟨#[40]⟩, .string ⟨#[116, 121, 112, 101]⟩, .string ⟨#[115, 121, 109, 108, 105, 110, 107]⟩, .string ⟨#[116, 97, 114, 103, 101, 116]⟩, .string t, .string ⟨#[41]⟩] 9))) := HB1.out.alloc HB1.out.size _
            have z1 := N2.out.c1
            generalize wr.alloc (.cells #[.string ⟨#[40]⟩, .string ⟨#[116, 121, 112, 101]⟩, .string ⟨#[115, 121, 109, 108, 105, 110, 107]⟩, .string ⟨#[116, 97, 114, 103, 101, 116]⟩, .string t, .string ⟨#[41]⟩] 9) = w2 at *
            go_wp2
            go_ret2
            exact ⟨own_good (HC.out.trans hT) HN.out, HB2.out⟩
          · obtain rfl : U = false := HU.out.trans (decide_eq_false hT)
            have h63 : tgt t = 63 := by
              unfold tgt at hT ⊢
              split
              · rfl
              · rename_i h; rw [if_neg h] at hT; exact absurd rfl hT
            clear hE
            go_wp2
            go_ret2
            exact ⟨own_bad (HC.out.trans h63) (by decide), HB1.out⟩
      have b2 : (k == 2) = false := by simpa using k2
      by_cases k3 : k = 3
      · subst k3
        by_cases hn : e = true ∨ t.size ≠ 0
        · have HC : Hid (cfP 3 e t n = 62) := by unfold Hid cfP; rw [if_neg (by decide), if_neg (by decide), if_pos rfl, if_pos hn]
          cases e
          · have hn2 : t.size ≠ 0 := by simpa using hn
            have e1 : t.toList.isEmpty = false := by rw [hE]; simpa using hn2
            clear hE
            go_wp2
            go_ret2
            exact ⟨own_bad HC.out (by decide), HB1.out⟩
          · clear hE
            go_wp2
            go_ret2
            exact ⟨own_bad HC.out (by decide), HB1.out⟩
        · have hn2 : t.size = 0 := by omega
          obtain rfl : e = false := by cases e; rfl; exact absurd (.inl rfl) hn
          have e1 : t.toList.isEmpty = true := by rw [hE]; simpa using hn2
          have HC : Hid (cfP 3 false t n = 0) := by unfold Hid cfP; rw [if_neg (by decide), if_neg (by decide), if_pos rfl, if_neg hn]
          have HN : Hid (nbP 3 false t = 72) := by unfold Hid nbP; rw [if_neg (by decide), if_neg (by decide), if_pos rfl]
          clear hE hn hn2
          go_wp2_with fail
          refine (room_lit #[.string ⟨#[40]⟩, .string ⟨#[116, 121, 112, 101]⟩, .string ⟨#[100, 105, 114, 101, 99, 116, 111, 114, 121]⟩, .string ⟨#[41]⟩] 9 [⟨#[40]⟩, ⟨#[116, 121, 112, 101]⟩, ⟨#[100, 105, 114, 101, 99, 116, 111, 114, 121]⟩, ⟨#[41]⟩] 4 wr rfl rfl (Nat.le_of_ble_eq_true rfl) (sz_ok t ht _ (by intro s hs; simp only [List.mem_cons, List.not_mem_nil, or_false] at hs; rcases hs with rfl | rfl | rfl | rfl <;> first | exact .inl rfl | exact .inr (by decide)))).mono ?_
          rintro r wX ⟨rfl, rfl⟩
          rw [frwA]
          have N2 : Hid (Nd4 (wr.alloc (.cells #[.string ⟨#[40]⟩, .string ⟨#[116, 121, 112, 101]⟩, .string ⟨#[100, 105, 114, 101, 99, 116, 111, 114, 121]⟩, .string ⟨#[41]⟩] 9)) w.heap.size 3 false t x n c) := N1.out.alloc _
          have HB2 : Hid (Below w.heap.size w (wr.alloc (.cells #[.string ⟨#[40]⟩, .string ⟨#[116, 121, 112, 101]⟩, .string ⟨#[100, 105, 114, 101, 99, 116, 111, 114, 121]⟩, .string ⟨#[41]⟩] 9))) := HB1.out.alloc HB1.out.size _
          have z1 := N2.out.c1
          generalize wr.alloc (.cells #[.string ⟨#[40]⟩, .string ⟨#[116, 121, 112, 101]⟩, .string ⟨#[100, 105, 114, 101, 99, 116, 111, 114, 121]⟩, .string ⟨#[41]⟩] 9) = w2 at *
          go_wp2
          go_ret2
          exact ⟨own_good HC.out HN.out, HB2.out⟩
      · have b3 : (k == 3) = false := by simpa using k3
        have b4 : (k != 3) = true := by simpa using k3
        have HC : Hid (cfP k e t n = 60) := by unfold Hid cfP; rw [if_neg k1, if_neg k2, if_neg k3]
        clear hE
        go_wp2
        go_ret2
        exact ⟨own_bad HC.out (by decide), HB1.out⟩

end Go.Proofs.Ythlioedahoiahaa
