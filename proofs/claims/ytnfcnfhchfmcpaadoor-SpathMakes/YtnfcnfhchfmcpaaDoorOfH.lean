/- sha.Of, walked. -/
import Derived.Test.YtnfcnfhchfmcpaaDoorOfG
namespace Go.Proofs.YtnfcnfhchfmcpaaDoor
open Go.RowKit

theorem bt_left (a b : ByteArray) (i : Nat) (hi : i < a.size) : bt (a ++ b) i = bt a i := by
  rw [← get_bt a i hi, ← get_bt (a ++ b) i (by rw [ByteArray.size_append]; omega), ByteArray.getElem_append_left hi]
theorem bt_right (a b : ByteArray) (i : Nat) (hi : i < b.size) : bt (a ++ b) (a.size + i) = bt b i := by
  rw [← get_bt b i hi, ← get_bt (a ++ b) (a.size + i) (by rw [ByteArray.size_append]; omega), ByteArray.getElem_append_right (by omega)]
  simp

set_option maxRecDepth 100000 in
set_option maxHeartbeats 1000000 in
theorem of_any (s : ByteArray) (w : World) (hs : s.size ≤ 1152921504606846976) (hK : KT w) :
    Calls Tryd.prog 15 #[.string s] w fun e w' => e = .returned (.agg (cs .u8 32 (dg (hw (bt (msg s)) (nb s))))) ∧ Below w.heap.size w w' := by
  have HK : Hid (KT w) := hK
  have hw0 : 0 < w.heap.size := hK.lt
  clear hK
  have hm1 : Hid (∀ i, i < s.size → bt (msg s) (0 + i) = bt s i) := fun i hi => by rw [Nat.zero_add]; exact bt_left _ _ i hi
  have hm2 : Hid (∀ i, i < (padStr s.size).size → bt (msg s) (s.size + i) = bt (padStr s.size) i) := fun i hi => bt_right _ _ i hi
  have hn : Hid ((s.size + (padStr s.size).size) / 64 = nb s) := by
    unfold Hid
    have := msg_size s
    unfold msg at this
    rw [ByteArray.size_append] at this
    omega
  go_enter Tryd.func15, Tryd.ntmps15
  go_wp2_with fail
  refine (new_any _).mono ?_
  rintro e w1 ⟨g, rfl, hg1, hg2, S1, b1⟩
  have R1 : Row .u8 w1 w.heap.size 32 (fun _ => 0) := Row.below (Row.rep (by rfl)) b1 (by rw [World.size_alloc]; omega)
  have B1 : Below w.heap.size w w1 := ((Below.refl _ _).alloc (Nat.le_refl _) _).trans (b1.mono (by rw [World.size_alloc]; omega))
  have z1 : w.heap.size < g := by rw [World.size_alloc] at hg1; omega
  have K1 : KT w1 := HK.out.below B1
  clear b1 hg1 HK
  go_wp2_with fail
  refine (writeText_any g 0 s (bt (msg s)) (fun _ => 0) w1 S1 ⟨fun j => ⟨Int.le_refl 0, by show (0 : Int) < 256; decide⟩, fun j hj => absurd hj (by omega)⟩ hm1.out (by omega) K1 (by omega)).mono ?_
  rintro e w2 ⟨rfl, ⟨f', S2, F2⟩, G2⟩
  rw [Nat.zero_add] at S2 F2
  have R2 : Row .u8 w2 w.heap.size 32 (fun _ => 0) := R1.same (G2.block _ (by omega) (by simp; omega))
  have B2 : Below w.heap.size w w2 := B1.trans ⟨G2.os, G2.tape, G2.output, G2.size, fun k hk => G2.block k (by omega) (by simp; omega)⟩
  have K2 : KT w2 := K1.grown G2 (by omega)
  have z2 : w.heap.size < w2.heap.size := by have := G2.size; omega
  clear S1 R1 B1 K1 G2 hm1
  go_wp2_with fail
  refine (sum_any g s.size (bt (msg s)) f' w2 S2 F2 hm2.out (by omega) K2 (by omega)).mono ?_
  rintro e w3 ⟨rfl, b3⟩
  rw [hn.out]
  have R3 : Row .u8 w3 w.heap.size 32 (fun _ => 0) := R2.below b3 z2
  have B3 : Below w.heap.size w w3 := B2.trans (b3.mono B2.size)
  have z3 : w.heap.size < w3.heap.size := Nat.lt_of_lt_of_le z2 b3.size
  clear R2 B2 b3 S2 F2 K2 hm2
  go_wp2_with (refine wpList_store_any (by rfl) 28 (.tmp 2) (.tmp 9) (by rfl) w.heap.size (by rfl) (by rfl) R3 Tryd.sz28 (by rfl) ?_; intro W5 R5 U5)
  exact bodyPost_ret (results_arr Tryd.results15 _ _ rfl R5 Tryd.und28 Tryd.sz28) rfl ⟨rfl, U5.below B3 (Nat.le_refl _) (by omega)⟩

end Go.Proofs.YtnfcnfhchfmcpaaDoor
