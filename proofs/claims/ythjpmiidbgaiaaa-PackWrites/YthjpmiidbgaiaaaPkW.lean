/- awake and the law PackBack, walked. -/
import Derived.Test.YthjpmiidbgaiaaaPkR
namespace Go.Proofs.Ythjpmiidbgaiaaa
open Go.RowKit

theorem ba_mk (l : List UInt8) : (⟨l.toArray⟩ : ByteArray) = ba l := rfl
def a8 : List UInt8 := [97, 97, 97, 97, 97, 97, 97, 97]
def p13 : List UInt8 := [8, 0, 0, 0, 0, 0, 0, 0, 0, 97, 131, 0, 0]
theorem pk_a8 : pk a8 = p13 := by decide +kernel

set_option maxHeartbeats 1000000 in
set_option maxRecDepth 10000 in
theorem awake_any (w : World) : Calls Try.prog 9 #[] w fun e w' => e = .returned (.bool true) ∧ Below w.heap.size w w' := by
  have PC : ∀ w : World, Calls Try.prog 10 #[.string ⟨#[97, 97, 97, 97, 97, 97, 97, 97]⟩] w fun e w' => e = .returned (.tuple #[.string ⟨#[8, 0, 0, 0, 0, 0, 0, 0, 0, 97, 131, 0, 0]⟩, .int .i64 0]) ∧ Below w.heap.size w w' := fun w => by
    have h := pack_any a8 w (by decide)
    rw [pk_a8] at h
    exact h
  have UC : ∀ w : World, Calls Try.prog 12 #[.string ⟨#[8, 0, 0, 0, 0, 0, 0, 0, 0, 97, 131, 0, 0]⟩] w fun e w' => e = .returned (.tuple #[.string ⟨#[97, 97, 97, 97, 97, 97, 97, 97]⟩, .agg #[.int .i64 0, .int .i64 0]]) ∧ Below w.heap.size w w' := fun w => by
    have h := unpack_any p13 w (by decide)
    obtain ⟨h1, h2, h3⟩ := pk_unp a8 (by decide)
    rw [pk_a8] at h1 h2 h3
    rw [h1, h2, h3] at h
    exact h
  go_enter Try.func9, Try.ntmps9
  go_wp2_with fail
  refine (PC _).mono ?_
  rintro e w1 ⟨rfl, B1⟩
  go_wp2_with fail
  refine (UC _).mono ?_
  rintro e w2 ⟨rfl, B2⟩
  clear PC UC
  have HB : Hid (Below w.heap.size w (w2.alloc (.cells #[.int .i64 0, .int .i64 0] 30))) := (B1.trans ⟨B2.os, B2.tape, B2.output, B2.size, fun k hk => B2.block k (Nat.lt_of_lt_of_le hk B1.size)⟩).alloc (Nat.le_trans B1.size B2.size) _
  clear B1 B2
  go_wp2
  go_ret
  exact ⟨rfl, HB.out⟩

theorem bel_trans {w w1 w2 : World} (h1 : Below w.heap.size w w1) (h2 : Below w1.heap.size w1 w2) : Below w.heap.size w w2 := h1.trans ⟨h2.os, h2.tape, h2.output, h2.size, fun k hk => h2.block k (Nat.lt_of_lt_of_le hk h1.size)⟩

set_option maxHeartbeats 1000000 in
set_option maxRecDepth 10000 in
theorem back_walk (s : ByteArray) (w : World) (hs : s.size ≤ 9223372036854775807) : Calls Try.prog 7 #[.string s] w fun e w' => e = .returned (.bool true) ∧ Below w.heap.size w w' := by
  by_cases hb : 1048576 < s.size
  · go_enter Try.func7, Try.ntmps7
    go_wp2_with fail
    refine (awake_any _).mono ?_
    rintro e w1 ⟨rfl, B1⟩
    go_wp2_with fail
    refine (pk_big s w1 hb hs).mono ?_
    rintro e w2 ⟨rfl, rfl⟩
    have hb' : (1048576 : Int) < (s.size : Int) := by omega
    go_wp2
    go_ret
    exact ⟨rfl, B1⟩
  · obtain ⟨l, rfl⟩ : ∃ l, s = ba l := ⟨s.data.toList, (ba_list s).symm⟩
    rw [ba_size] at hb hs
    have PC := fun w => pack_any l w (by omega)
    have UC := fun w => unpack_any (pk l) w (by have := (pk_len l).2; omega)
    obtain ⟨h1, h2, h3⟩ := pk_unp l (by omega)
    rw [h1, h2, h3] at UC
    have hl := pk_len l
    have hsz := ba_size l
    have hpz := ba_size (pk l)
    generalize pk l = P at PC UC hl hpz
    obtain ⟨xd, hxd⟩ : ∃ xd : Nat, (l.length + 127) / 128 = xd := ⟨_, rfl⟩
    have hq : ((l.length : Int) + 127) / 128 = (xd : Int) := by omega
    have hle : (P.length : Int) ≤ 8 + (l.length : Int) + (xd : Int) := by omega
    have hle2 : decide ((P.length : Int) ≤ 8 + (l.length : Int) + (xd : Int)) = true := decide_eq_true hle
    clear hl hxd
    go_enter Try.func7, Try.ntmps7
    go_wp2_with fail
    refine (awake_any _).mono ?_
    rintro e w1 ⟨rfl, B1⟩
    go_wp2_with fail
    refine (PC _).mono ?_
    rintro e w2 ⟨rfl, B2⟩
    go_wp2_with fail
    refine (UC _).mono ?_
    rintro e w3 ⟨rfl, B3⟩
    have HB : Hid (Below w.heap.size w (w3.alloc (.cells #[.int .i64 0, .int .i64 0] 30))) := (bel_trans (bel_trans B1 B2) B3).alloc (bel_trans (bel_trans B1 B2) B3).size _
    clear PC UC B1 B2 B3
    go_wp2
    go_ret
    exact ⟨rfl, HB.out⟩

end Go.Proofs.Ythjpmiidbgaiaaa
