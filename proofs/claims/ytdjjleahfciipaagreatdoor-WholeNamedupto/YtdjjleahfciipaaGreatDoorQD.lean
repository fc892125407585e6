/- Gathered: OfD. -/
import Derived.Test.YtdjjleahfciipaaGreatDoorQC
/- A digest's State in memory; what sha.New answers. -/
namespace Go.Proofs.YtdjjleahfciipaaGreatDoor
open Go.RowKit
/-- Block g is a State: n bytes written, the words h, the block f. -/
structure Stt (w : World) (g : Nat) (n : Int) (h f : Nat → Int) : Prop where
  c0 : w.cell? ⟨g, 0, none⟩ = some (.int .i64 n)
  cw : ∀ j, j < 8 → w.cell? ⟨g, 1 + j, none⟩ = some (.int .u32 (h j))
  cb : ∀ j, j < 64 → w.cell? ⟨g, 9 + j, none⟩ = some (.int .u8 (f j))
  fr : ∀ j, j < 73 → w.frozen? ⟨g, j, none⟩ = false

/-- A State of noughts. -/
def zst : Array Value := (Value.int .i64 0 :: (List.replicate 8 (Value.int .u32 0) ++ List.replicate 64 (Value.int .u8 0))).toArray
/-- A State with nothing written, the words h. -/
def hst (h : Nat → Int) : Array Value := (Value.int .i64 0 :: ((List.range 8).map (fun i => Value.int .u32 (h i)) ++ List.replicate 64 (Value.int .u8 0))).toArray
theorem zst_size : zst.size = 73 := by simp [zst]
theorem hst_fold (h : Nat → Int) : Array.foldl (fun cs x => cs.setIfInBounds (1 + x.snd) x.fst) zst (cs .u32 8 h).zipIdx 0 8 = hst h := by kernel_rfl
theorem Tryz.zero112 : (Tryz.prog.info? 112).map (fun i => i.zero) = some (some (.agg zst)) := by kernel_rfl
theorem run_zero_st (w : World) : (zeroValue 112).run Tryz.prog w = .ok (.agg zst) w := by
  obtain ⟨i, hi, hz⟩ := Option.map_eq_some_iff.1 Tryz.zero112
  simp [zeroValue, typeInfo, hi, hz]
theorem Stt.made (w : World) (e : TypeId) (h : Nat → Int) : Stt (w.alloc (.cells (hst h) e)) w.heap.size 0 h (fun _ => 0) := by
  refine ⟨by rw [World.cell?_alloc_new]; simp [hst], fun j hj => ?_, fun j hj => ?_, fun j _ => World.frozen?_alloc_new w _ _ _⟩
  · rw [World.cell?_alloc_new, hst, List.getElem?_toArray, Nat.add_comm 1 j, List.getElem?_cons_succ, List.getElem?_append_left (by simp; omega)]
    simp [hj]
  · rw [World.cell?_alloc_new, hst, List.getElem?_toArray, show 9 + j = (8 + j) + 1 from by omega, List.getElem?_cons_succ, List.getElem?_append_right (by simp), List.length_map, List.length_range, show 8 + j - 8 = j from by omega, List.getElem?_replicate, if_pos hj]

set_option maxRecDepth 100000 in
set_option maxHeartbeats 4000000 in
theorem new_any (w : World) : Calls Tryz.prog 18 #[] w fun e w' => ∃ g, e = .returned (.pointer (some ⟨g, 0, none⟩)) ∧ w.heap.size ≤ g ∧ g < w'.heap.size ∧ Stt w' g 0 stw (fun _ => 0) ∧ Below w.heap.size w w' := by
  have q1 := run_zero_st
  have q2 := zst_size
  have q3 := hst_fold stw
  have q4 := cs_size .u32 8 stw
  go_enter Tryz.func18, Tryz.ntmps18
  go_wp2_with fail
  refine (startWords_any _).mono ?_
  rintro e w1 ⟨rfl, b1⟩
  go_wp2
  go_ret
  exact ⟨_, rfl, b1.size, by rw [World.size_alloc]; omega, Stt.made _ _ _, b1.alloc b1.size _⟩
#print axioms new_any
end Go.Proofs.YtdjjleahfciipaaGreatDoor
