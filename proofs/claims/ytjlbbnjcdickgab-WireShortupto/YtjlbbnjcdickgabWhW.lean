/- The law WireShort, walked. -/
import Derived.Test.YtjlbbnjcdickgabWbA
import Derived.Test.YtjlbbnjcdickgabWpW
namespace Go.Proofs.Ytjlbbnjcdickgab
open Go.RowKit

theorem lng_ok (L : List It) (hb : ∀ i ∈ L, i.num < 18446744073709551616 ∧ i.text.length ≤ 1048576) : (∀ i ∈ L, okI (lngN L) i) ∧ lngN L ≤ 1048576 := by
  obtain ⟨-, h2, h3⟩ := lng_ge L 0
  refine ⟨fun i hi => ⟨(hb i hi).1, by have := (hb i hi).2; omega, h2 i hi⟩, ?_⟩
  rcases h3 with h3 | ⟨i, hi, -, e⟩
  · have : lngN L = 0 := h3
    omega
  · have : i.text.length = lngN L := e
    have := (hb i hi).2
    omega
theorem ba_snoc (l : List UInt8) (c : UInt8) : ba l ++ ⟨#[c]⟩ = ba (l ++ [c]) := by rw [ba_append]; rfl
theorem ba_take (l : List UInt8) (k : Nat) : (ba l).extract 0 k = ba (l.take k) := by
  rw [ext_list]
  show ba ((l.drop 0).take (k - 0)) = _
  rw [List.drop_zero, Nat.sub_zero]

set_option maxHeartbeats 4000000 in
theorem short_walk (r : Value) (L : List It) (cut : Int) (more : Int) (w : World) (O : ItRow w r L) (hn : L.length ≤ 1048576) (hb : ∀ i ∈ L, i.num < 18446744073709551616 ∧ i.text.length ≤ 1048576) (ht : (L.flatMap frI).length ≤ 33554432)
    (hc0 : -9223372036854775808 ≤ cut) (hc1 : cut ≤ 9223372036854775807) (hm0 : 0 ≤ more) (hm1 : more ≤ 255) :
    Calls Try.prog 3 #[r, .int .i64 cut, .int .u8 more] w fun e w' => e = .returned (.bool true) ∧ Below w.heap.size w w' := by
  obtain ⟨c, rfl⟩ : ∃ c : UInt8, more = (c.toNat : Int) := ⟨UInt8.ofNat more.toNat, by simp; omega⟩
  have HO0 : Hid (ItRow w r L) := O
  obtain ⟨ok, hm⟩ := lng_ok L hb
  have hpl : (L.map plI).length ≤ 1048576 := by rw [List.length_map]; exact hn
  have LC : Hid (∀ w, ItRow w r L → Calls Try.prog 8 #[r] w fun e w' => e = .returned (.int .i64 (lngN L : Int)) ∧ Below w.heap.size w w') := fun w o => longest_any r L w o (fun i hi => by have := (hb i hi).2; omega) (by omega)
  have FC : Hid (∀ w, ItRow w r L → Calls Try.prog 7 #[r] w fun e w' => e = .returned (.tuple #[.string (ba (L.flatMap frI)), .string (ba (L.map plI))]) ∧ Below w.heap.size w w') := fun w o => frm_row r L w o (fun i hi => by have := hb i hi; exact ⟨this.1, by omega⟩) (by omega) (by omega)
  have TC : Hid (∀ w, Calls Try.prog 9 #[.string (ba (L.flatMap frI) ++ ⟨#[c]⟩), .string (ba (L.map plI)), .int .i64 (lngN L : Int)] w fun e w' => e = .returned (.tuple #[.slice none 0 0, .agg #[.int .i64 5, .int .i64 ((L.flatMap frI).length : Int)]]) ∧ Below w.heap.size w w') := fun w => by
    obtain ⟨q1, q2⟩ := sp_trail (lngN L) L c ok
    rw [ba_snoc]
    refine (split_any (L.flatMap frI ++ [c]) (L.map plI) (lngN L : Int) w (by simp only [List.length_append, List.length_cons, List.length_nil]; omega) (by omega) (by omega)).mono ?_
    rintro e w' ⟨r, L2, rfl, O2, -, hN, b⟩
    rw [Int.toNat_natCast] at hN ⊢
    obtain ⟨-, rfl⟩ := hN (by rw [q1]; decide)
    rw [q1, q2]
    exact ⟨rfl, b⟩
  have SC : Hid (∀ k, k < (L.flatMap frI).length → ∀ w, Calls Try.prog 9 #[.string ((ba (L.flatMap frI)).extract 0 k), .string (ba (L.map plI)), .int .i64 (lngN L : Int)] w fun e w' => e = .returned (.tuple #[.slice none 0 0, .agg #[.int .i64 4, .int .i64 (k : Int)]]) ∧ Below w.heap.size w w') := fun k hk w => by
    obtain ⟨q1, q2⟩ := sp_short (lngN L) L k ok hk
    rw [ba_take]
    refine (split_any ((L.flatMap frI).take k) (L.map plI) (lngN L : Int) w (by rw [List.length_take]; omega) (by omega) (by omega)).mono ?_
    rintro e w' ⟨r, L2, rfl, O2, -, hN, b⟩
    rw [Int.toNat_natCast] at hN ⊢
    obtain ⟨-, rfl⟩ := hN (by rw [q1]; decide)
    rw [q1, q2]
    exact ⟨rfl, b⟩
  clear ok hb hpl hn O
  generalize lngN L = m at *
  generalize hTL : (L.flatMap frI).length = Z at *
  have hTs : (ba (L.flatMap frI)).size = Z := by rw [ba_size]; exact hTL
  generalize ba (L.flatMap frI) = T at *
  generalize ba (L.map plI) = pl at *
  clear hTL
  go_enter Try.func3, Try.ntmps3
  go_wp2_with fail
  refine (awake_any w).mono ?_
  rintro e w0 ⟨rfl, b0⟩
  have HO1 : Hid (ItRow w0 r L) := HO0.out.below b0 (Nat.le_refl _)
  go_wp2_with fail
  refine (FC.out _ HO1.out).mono ?_
  rintro e w1 ⟨rfl, b1⟩
  have HO2 : Hid (ItRow w1 r L) := HO1.out.below b1 (Nat.le_refl _)
  go_wp2_with fail
  refine (LC.out _ HO2.out).mono ?_
  rintro e w2 ⟨rfl, b2⟩
  have B2 : Hid (Below w.heap.size w w2) := (b0.trans (b1.mono b0.size)).trans (b2.mono (by have := b0.size; have := b1.size; omega))
  clear b0 b1 b2 HO0 HO1 HO2 FC LC
  have hone : strFn 1 (fun _ => (c.toNat : Int)) = ⟨#[c]⟩ := by
    show ByteArray.mk #[UInt8.ofNat ((c.toNat : Int)).toNat] = _
    rw [Int.toNat_natCast, UInt8.ofNat_toNat]
  have R1 : Row .u8 (w2.alloc (.cells #[.int .u8 (c.toNat : Int)] 5)) w2.heap.size 1 (fun _ => (c.toNat : Int)) := Row.lit1 _
  have hcv1 : (convert 32 9 (.slice (some ⟨w2.heap.size, 0, none⟩) 1 1)).run Try.prog (w2.alloc (.cells #[.int .u8 (c.toNat : Int)] 5)) = .ok (.string ⟨#[c]⟩) (w2.alloc (.cells #[.int .u8 (c.toNat : Int)] 5)) := by
    have h := run_string_row (P := Try.prog) (src := 32) (dst := 9) (c := 1) Try.underlying32 Try.underlying5 Try.underlying9 R1
    rw [h, hone]
  clear R1 hone
  go_wp2_with fail
  refine (TC.out _).mono ?_
  rintro e w5 ⟨rfl, b5⟩
  have hs2 : (w2.alloc (.cells #[.int .u8 (c.toNat : Int)] 5)).heap.size = w2.heap.size + 1 := World.size_alloc _ _
  have B5 : Hid (Below w.heap.size w w5) := (B2.out.alloc B2.out.size _).trans (b5.mono (by rw [hs2]; have := B2.out.size; omega))
  clear b5 hs2 hcv1
  by_cases h1 : cut < 0
  · go_wp2
    go_ret
    exact ⟨rfl, B5.out.alloc B5.out.size _⟩
  by_cases h2 : (Z : Int) ≤ cut
  · go_wp2
    go_ret
    exact ⟨rfl, B5.out.alloc B5.out.size _⟩
  obtain ⟨k, rfl⟩ : ∃ k : Nat, cut = (k : Int) := ⟨cut.toNat, by omega⟩
  have hkZ : k < Z := by omega
  have SC' : Hid _ := SC.out k hkZ
  clear SC
  go_wp2_with fail
  refine (SC'.out _).mono ?_
  rintro e w7 ⟨rfl, b7⟩
  have hs5 : (w5.alloc (.cells #[.int .i64 5, .int .i64 (Z : Int)] 29)).heap.size = w5.heap.size + 1 := World.size_alloc _ _
  have B7 : Hid (Below w.heap.size w w7) := (B5.out.alloc B5.out.size _).trans (b7.mono (by rw [hs5]; have := B5.out.size; omega))
  clear b7 hs5
  go_wp2
  go_ret
  exact ⟨rfl, B7.out.alloc B7.out.size _⟩

theorem short_walkF (r : Value) (L : List It) (cut more : Int) (w : World) (h : ItRow w r L ∧ L.length ≤ 1048576 ∧ (∀ i ∈ L, i.num < 18446744073709551616 ∧ i.text.length ≤ 1048576) ∧ (L.flatMap frI).length ≤ 33554432) (hc0 : -9223372036854775808 ≤ cut) (hc1 : cut ≤ 9223372036854775807) (hm0 : 0 ≤ more) (hm1 : more ≤ 255) :
    Calls Try.prog 3 #[r, .int .i64 cut, .int .u8 more] w fun e w' => e = .returned (.bool true) ∧ Below w.heap.size w w' := short_walk r L cut more w h.1 h.2.1 h.2.2.1 h.2.2.2 hc0 hc1 hm0 hm1

end Go.Proofs.Ytjlbbnjcdickgab
