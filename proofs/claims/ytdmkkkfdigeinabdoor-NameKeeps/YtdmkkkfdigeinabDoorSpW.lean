/- The law's alike and awake, and the law NameSplits, walked. -/
import Derived.Test.YtdmkkkfdigeinabDoorSpR
import Derived.Test.YtdmkkkfdigeinabDoorJnB
import Derived.Deep.QuietTactic
import Derived.BigQuiet
namespace Go.Proofs.YtdmkkkfdigeinabDoor
open Go.RowKit

theorem SL.below {w w' : World} {v : Value} {L : List ByteArray} (h : SL w v L) (b : Below w.heap.size w w') (hL : 0 < L.length ∨ L = []) : SL w' v L := by
  rcases h with h | ⟨g, c, h1, h2, h3⟩
  · exact Or.inl h
  · refine Or.inr ⟨g, c, h1, h2, ?_⟩
    rcases hL with hl | hl
    · exact h3.below b (h3.lt hl)
    · subst hl; exact ⟨fun j hj => by simp at hj, fun j hj => by simp at hj⟩
theorem len_or (L : List ByteArray) : 0 < L.length ∨ L = [] := by cases L <;> simp

set_option maxHeartbeats 1000000 in
theorem alike_same (u v : Value) (L : List ByteArray) (w : World) (hu : SL w u L) (hv : SL w v L) (hn : L.length ≤ 1000) :
    Calls Tryd.prog 9 #[u, v] w fun e w' => e = .returned (.bool true) ∧ Below w.heap.size w w' := by
  obtain ⟨x, c, rfl, hx⟩ : ∃ x c, u = .slice x L.length c ∧ ∀ j, j < L.length → ∃ g, x = some ⟨g, 0, none⟩ ∧ w.cell? ⟨g, j, none⟩ = some (.string (nth L j)) := by
    rcases hu with ⟨h1, h2⟩ | ⟨g, c, h1, h2, h3⟩
    · exact ⟨none, 0, by rw [h1, h2]; rfl, fun j hj => by rw [h2] at hj; simp at hj⟩
    · exact ⟨_, c, h1, fun j hj => ⟨g, rfl, h3.cell j hj⟩⟩
  obtain ⟨y, d, rfl, hy⟩ : ∃ x c, v = .slice x L.length c ∧ ∀ j, j < L.length → ∃ g, x = some ⟨g, 0, none⟩ ∧ w.cell? ⟨g, j, none⟩ = some (.string (nth L j)) := by
    rcases hv with ⟨h1, h2⟩ | ⟨g, c, h1, h2, h3⟩
    · exact ⟨none, 0, by rw [h1, h2]; rfl, fun j hj => by rw [h2] at hj; simp at hj⟩
    · exact ⟨_, c, h1, fun j hj => ⟨g, rfl, h3.cell j hj⟩⟩
  have HX : Hid (∀ j, j < L.length → ∃ g, x = some ⟨g, 0, none⟩ ∧ w.cell? ⟨g, j, none⟩ = some (.string (nth L j))) := hx
  have HY : Hid (∀ j, j < L.length → ∃ g, y = some ⟨g, 0, none⟩ ∧ w.cell? ⟨g, j, none⟩ = some (.string (nth L j))) := hy
  clear hx hy hu hv
  have hee : (((L.length : Nat) : Int) != ((L.length : Nat) : Int)) = false := by simp
  go_enter Tryd.func9, Tryd.ntmps9
  go_wp2
  go_loopw [13] (fun xi wr => ∃ k : Nat, k ≤ L.length ∧ xi = .int .i64 k ∧ Hid (∃ q, wr = w.drewN q)) (fun i _ => L.length - (intOf i).toNat)
  case atStart => exact ⟨0, Nat.zero_le _, rfl, 0, rfl⟩
  case round =>
    obtain ⟨k, hk, rfl, hq⟩ := hrel
    by_cases hlt : k < L.length
    · obtain ⟨g1, rfl, c1⟩ := HX.out k hlt
      obtain ⟨g2, rfl, c2⟩ := HY.out k hlt
      obtain ⟨q, hwr⟩ := hq.out
      have d1 : wr.cell? ⟨g1, k, none⟩ = some (.string (nth L k)) := by rw [hwr]; exact c1
      have d2 : wr.cell? ⟨g2, k, none⟩ = some (.string (nth L k)) := by rw [hwr]; exact c2
      clear c1 c2 hwr
      have he : ((nth L k).toList == (nth L k).toList) = true := by simp
      go_wp2
      go_quiet (fail)
      go_wp2
      go_roundw
      case rel => exact ⟨k + 1, by omega, by go_num, by obtain ⟨q, hw⟩ := hq.out; exact ⟨_, by rw [hw, World.drewN_drewN]⟩⟩
      case measure => simp [intOf]; omega
    · obtain ⟨q, rfl⟩ := hq.out
      go_wp2
      go_ret
      exact ⟨rfl, bel_drewN (Below.refl _ _) _⟩

theorem ex_F : pathF ⟨#[97, 47, 98, 46, 99]⟩ = (0, 0) := by decide +kernel
theorem ex_N : pathN ⟨#[97, 47, 98, 46, 99]⟩ = [⟨#[97]⟩, ⟨#[98, 46, 99]⟩] := by decide +kernel
theorem ex_jF : jF [⟨#[97]⟩, ⟨#[98, 46, 99]⟩] = (0, 0) := by decide +kernel
theorem ex_jS : jS [⟨#[97]⟩, ⟨#[98, 46, 99]⟩] = ⟨#[97, 47, 98, 46, 99]⟩ := by decide +kernel

set_option maxHeartbeats 1000000 in
theorem awake_any (w : World) : Calls Tryd.prog 6 #[] w fun e w' => e = .returned (.bool true) ∧ Below w.heap.size w w' := by
  have q1 : (ByteArray.mk #[97]).toList = [97] := by decide +kernel
  have q2 : (ByteArray.mk #[98, 46, 99]).toList = [98, 46, 99] := by decide +kernel
  have q3 : (ByteArray.mk #[97, 47, 98, 46, 99]).toList = [97, 47, 98, 46, 99] := by decide +kernel
  go_enter Tryd.func6, Tryd.ntmps6
  go_wp2_with fail
  refine (split_any _ _ (by decide)).mono ?_
  rintro e w1 ⟨v, rfl, S1, B1⟩
  rw [ex_F]
  rw [ex_N] at S1
  rcases S1 with ⟨_, h⟩ | ⟨g, c, rfl, hc, V⟩
  · cases h
  have c0 := V.cell 0 (by decide)
  have c1 := V.cell 1 (by decide)
  have hg := V.lt (by decide)
  clear V
  rw [show nth [⟨#[97]⟩, ⟨#[98, 46, 99]⟩] 0 = ⟨#[97]⟩ from rfl] at c0
  rw [show nth [⟨#[97]⟩, ⟨#[98, 46, 99]⟩] 1 = ⟨#[98, 46, 99]⟩ from rfl] at c1
  rw [show [(⟨#[97]⟩ : ByteArray), ⟨#[98, 46, 99]⟩].length = 2 from rfl] at hc ⊢
  go_wp2_with fail
  have hs1 : (w1.alloc (Obj.cells #[Value.int IntKind.i64 0, Value.int IntKind.i64 0] 26)).heap.size = w1.heap.size + 1 := World.size_alloc _ _
  have SX : SLx ((w1.alloc (Obj.cells #[Value.int IntKind.i64 0, Value.int IntKind.i64 0] 26)).alloc (Obj.cells #[Value.string ⟨#[97]⟩, Value.string ⟨#[98, 46, 99]⟩] 9)) (some ⟨w1.heap.size + 1, 0, none⟩) 2 2 [⟨#[97]⟩, ⟨#[98, 46, 99]⟩] := by
    refine ⟨rfl, Nat.le_refl _, Or.inr ⟨_, 0, rfl, by rw [World.size_alloc, hs1]; omega, fun j hj => ?_⟩⟩
    rw [Nat.zero_add, ← hs1, World.cell?_alloc_new]
    have : j = 0 ∨ j = 1 := by omega
    rcases this with rfl | rfl <;> rfl
  have BW : Below w1.heap.size w1 ((w1.alloc (Obj.cells #[Value.int IntKind.i64 0, Value.int IntKind.i64 0] 26)).alloc (Obj.cells #[Value.string ⟨#[97]⟩, Value.string ⟨#[98, 46, 99]⟩] 9)) := ((Below.refl _ _).alloc (Nat.le_refl _) _).alloc (by rw [hs1]; omega) _
  have e0 : ((w1.alloc (Obj.cells #[Value.int IntKind.i64 0, Value.int IntKind.i64 0] 26)).alloc (Obj.cells #[Value.string ⟨#[97]⟩, Value.string ⟨#[98, 46, 99]⟩] 9)).cell? ⟨w1.heap.size, 0, none⟩ = some (.int .i64 0) := by
    rw [World.cell?_alloc_old _ _ _ (by rw [hs1]; show w1.heap.size ≠ _; omega), World.cell?_alloc_new]; rfl
  have hz : w1.heap.size + 1 + 1 ≤ ((w1.alloc (Obj.cells #[Value.int IntKind.i64 0, Value.int IntKind.i64 0] 26)).alloc (Obj.cells #[Value.string ⟨#[97]⟩, Value.string ⟨#[98, 46, 99]⟩] 9)).heap.size := by rw [World.size_alloc, hs1]; exact Nat.le_refl _
  clear hs1
  generalize (w1.alloc (Obj.cells #[Value.int IntKind.i64 0, Value.int IntKind.i64 0] 26)).alloc (Obj.cells #[Value.string ⟨#[97]⟩, Value.string ⟨#[98, 46, 99]⟩] 9) = w2 at *
  refine (join_any _ 2 2 _ _ (by decide) SX).mono ?_
  rintro e w3 ⟨rfl, b3⟩
  rw [ex_jF, ex_jS]
  have d0 : w3.cell? ⟨g, 0, none⟩ = some (.string ⟨#[97]⟩) := by
    rw [b3.cell (p := ⟨g, 0, none⟩) (by show g < _; omega), BW.cell (p := ⟨g, 0, none⟩) hg]; exact c0
  have d1 : w3.cell? ⟨g, 1, none⟩ = some (.string ⟨#[98, 46, 99]⟩) := by
    rw [b3.cell (p := ⟨g, 1, none⟩) (by show g < _; omega), BW.cell (p := ⟨g, 1, none⟩) hg]; exact c1
  have d2 : w3.cell? ⟨w1.heap.size, 0, none⟩ = some (.int .i64 0) := by rw [b3.cell (p := ⟨w1.heap.size, 0, none⟩) (by show w1.heap.size < _; omega)]; exact e0
  have hl3 : w1.heap.size < w3.heap.size := by have := b3.size; omega
  have hg3 : g < w3.heap.size := by omega
  have B3 : Below w.heap.size w w3 := B1.trans ((BW.trans (b3.mono (by omega))).mono B1.size)
  clear b3 BW e0 c0 c1 SX B1 hz
  obtain ⟨k, hk⟩ : ∃ k, w1.heap.size = k := ⟨_, rfl⟩
  rw [hk] at d2 hl3 ⊢
  clear hk
  go_wp2
  go_ret
  exact ⟨rfl, B3.alloc B3.size _⟩

theorem pathN_len (p : ByteArray) : (pathN p).length ≤ 1000 := by
  unfold pathN
  split
  · simp
  · split
    · have := pcs_len p 31 0; omega
    · simp

end Go.Proofs.YtdmkkkfdigeinabDoor
