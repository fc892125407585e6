/- Unpack, walked. -/
import Derived.Test.YthjpmiidbgaiaaaUpH
namespace Go.Proofs.Ythjpmiidbgaiaaa
open Go.RowKit

/-- What Unpack comes to. -/
def unp (l : List UInt8) : US := (u0.run l).shut

theorem BSl.conv (w : World) (tl : List UInt8) (g : Nat) (v : Value) (hg : g < w.heap.size) (hv : ∀ k, v.ownBlock = some k → k < w.heap.size) : ∃ c w', (convert 9 45 (.string (ba tl))).run Try.prog w = .ok (.slice (some ⟨w.heap.size, 0, none⟩) tl.length c) w' ∧ BSl w' g v (some ⟨w.heap.size, 0, none⟩) tl ∧ Below w.heap.size w w' := by
  have h0 := run_bytes_of_string (P := Try.prog) w 9 45 5 (ba tl) Try.underlying9 Try.underlying45 Try.underlying5
  rw [ba_size] at h0
  refine ⟨_, _, h0, .inr ⟨_, 0, rfl, by omega, fun e => by have := hv _ e; omega, by rw [World.size_alloc]; show w.heap.size < w.heap.size + 1; omega, fun j hj => ?_⟩, ((Below.refl _ _).drew).alloc (Nat.le_refl _) _⟩
  rw [Nat.zero_add]
  have h1 := World.cell?_alloc_mark w.drew (bytesRow (ba tl) (grownCap w tl.length 0 5)) 5 ((bytesRow (ba tl) (grownCap w tl.length 0 5)).size, (bytesRow (ba tl) (grownCap w tl.length 0 5)).size + 1) j
  refine h1.trans ?_
  have hj' : j < (ba tl).size := by rw [ba_size]; exact hj
  rw [bytesRow_at (ba tl) _ j hj']
  rfl

set_option maxHeartbeats 1000000 in
theorem unpack_any (tl : List UInt8) (w : World) (ht : tl.length ≤ 1073741824) :
    Calls Try.prog 12 #[.string (ba tl)] w fun e w' => e = .returned (.tuple #[.string (ba (unp tl).tx), .agg #[.int .i64 ((unp tl).code : Int), .int .i64 ((unp tl).fat : Int)]]) ∧ Below w.heap.size w w' := by
  go_enter Try.func12, Try.ntmps12
  go_wp2_with fail
  refine (newU_any _).mono ?_
  rintro e w1 ⟨rfl, R1, b1⟩
  rw [World.size_alloc] at R1 b1 ⊢
  have q1 : Hid (St w1 w.heap.size [.int .i64 0, .int .i64 0]) := (St.new w #[.int .i64 0, .int .i64 0] 30).same (by rw [World.size_alloc]; have := b1.size; rw [World.size_alloc] at this; exact this) (b1.block _ (by omega))
  have B1 : Hid (Below w.heap.size w w1) := ((Below.refl _ _).alloc (Nat.le_refl _) _).trans ⟨b1.os, b1.tape, b1.output, b1.size, fun k hk => b1.block k (by omega)⟩
  have HR1 : Hid (Up w1 (w.heap.size + 1) (.slice none 0 0) u0) := R1
  obtain ⟨c, w2, hcv, hP, b2⟩ := BSl.conv w1 tl (w.heap.size + 1) (.slice none 0 0) R1.lt (fun k h => by cases h)
  clear R1 b1
  go_wp2_with fail
  refine (feed_any (w.heap.size + 1) (.slice none 0 0) u0 _ c tl w2 (HR1.out.below b2) UI.u0 hP (by show 0 + tl.length ≤ _; omega)).mono ?_
  rintro e w3 ⟨rfl, v3, R3, M3⟩
  have q3 : Hid (St w3 w.heap.size [.int .i64 0, .int .i64 0]) := (q1.out.same b2.size (b2.block _ q1.out.lt)).same M3.size (M3.block _ (Nat.lt_of_lt_of_le q1.out.lt b2.size) (by omega) (by simp [Value.ownBlock]))
  have B3 : Hid (Below w.heap.size w w3) := (B1.out.trans ⟨b2.os, b2.tape, b2.output, b2.size, fun k hk => b2.block k (Nat.lt_of_lt_of_le hk B1.out.size)⟩).trans (M3.keeps w.heap.size (Nat.le_trans B1.out.size b2.size) (by omega) (fun k h => by cases h))
  have N3 : Hid (v3.ownBlock ≠ some w.heap.size ∧ ∀ k, v3.ownBlock = some k → w.heap.size ≤ k) := by
    have h1 := q1.out.lt
    have h2 := b2.size
    refine ⟨fun e => ?_, fun k e => ?_⟩
    · rcases M3.new _ e with h | h
      · cases h
      · omega
    · rcases M3.new _ e with h | h
      · cases h
      · omega
  have HR3 : Hid (Up w3 (w.heap.size + 1) v3 (u0.run tl)) := R3
  clear R3 M3 b2 hcv hP B1 q1 HR1
  go_wp2_with fail
  refine (uclose_any (w.heap.size + 1) v3 _ w3 HR3.out (UI.u0.run tl)).mono ?_
  rintro e w4 ⟨rfl, v4, R4, M4⟩
  have q4 : Hid (St w4 w.heap.size [.int .i64 0, .int .i64 0]) := q3.out.same M4.size (M4.block _ q3.out.lt (by omega) N3.out.1)
  have B4 : Hid (Below w.heap.size w w4) := B3.out.trans (M4.keeps w.heap.size B3.out.size (by omega) N3.out.2)
  have z0 := q4.out.get 0 _ rfl
  have z1 := q4.out.get 1 _ rfl
  have y0 := q4.out.fr 0 (by show 0 < 2; decide)
  have y1 := q4.out.fr 1 (by show 1 < 2; decide)
  clear R4 M4
  have HU : Hid ((u0.run tl).shut = unp tl) := rfl
  rw [HU.out]
  go_wp2
  exact ret_tf rfl rfl rfl ((q4.out.set 0 _ (by show 0 < 2; decide)).set 1 _ (by show 1 < 2; decide)) ⟨rfl, (B4.out.setCell (Nat.le_refl _) _).setCell (Nat.le_refl _) _⟩

end Go.Proofs.Ythjpmiidbgaiaaa
