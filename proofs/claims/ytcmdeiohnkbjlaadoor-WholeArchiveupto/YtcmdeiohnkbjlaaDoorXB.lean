/- PadA PadB PadC OfA OfC OfD, gathered (own text of the verifier). -/
import Derived.Test.YtcmdeiohnkbjlaaDoorProg
import Derived.Test.YtcmdeiohnkbjlaaDoorMem
import Derived.Test.YtcmdeiohnkbjlaaDoorXA
namespace Go.Proofs.YtcmdeiohnkbjlaaDoor
open Go.RowKit
theorem Tryd.infoS5 : (Tryd.prog.info? 5).map (fun i => (i.zero, i.size, i.bytes)) = some (some (.int .u8 0), 1, 1) := by kernel_rfl
/-- Byte j of the padding behind n bytes, z noughts in it, its last k bytes written. -/
def padFn (n : Int) (z k j : Nat) : Int := if j = 0 then 128 else if z + 9 - k ≤ j then (8 * n) % 18446744073709551616 / 2 ^ (8 * (z + 8 - j)) % 256 else 0
theorem padFn_step (n : Int) (z k j : Nat) (hk : k < 8) : (if j = z + 8 - k then 8 * n % 18446744073709551616 / 2 ^ (8 * k) % 256 else padFn n z k j) = padFn n z (k + 1) j := by
  unfold padFn
  by_cases e : j = z + 8 - k
  · subst e
    rw [if_pos rfl, if_neg (by omega), if_pos (by omega)]
    rw [show z + 8 - (z + 8 - k) = k from by omega]
  · rw [if_neg e]
    by_cases e0 : j = 0
    · rw [if_pos e0, if_pos e0]
    · rw [if_neg e0, if_neg e0]
      by_cases e1 : z + 9 - k ≤ j
      · rw [if_pos e1, if_pos (by omega)]
      · rw [if_neg e1, if_neg (by omega)]
set_option maxRecDepth 10000 in
set_option maxHeartbeats 400000 in
theorem pad_any (n : Int) (z : Nat) (w : World) (h0 : 0 ≤ n) (h1 : n ≤ 9223372036854775807) (hz : (z : Int) = (119 - n % 64) % 64) :
    Calls Tryd.prog 31 #[.int .i64 n] w fun e w' => e = .returned (.string (strFn (z + 9) (padFn n z 8))) ∧ Below w.heap.size w w' := by
  obtain ⟨i0, hi, hz0, hz1, hz2⟩ := info_parts Tryd.infoS5
  have hz' : z < 64 := by omega
  have HZ : Hid ((z : Int) = (119 - n % 64) % 64) := hz
  have e1 : (1 + (119 - n) % 64 + 8 : Int) = ((z + 9 : Nat) : Int) := by omega
  have E1 : Hid ((1 + (119 - n) % 64 + 8 : Int) = ((z + 9 : Nat) : Int)) := e1
  clear e1 hz
  go_enter Tryd.func31, Tryd.ntmps31
  go_wp2_with fail
  rw [E1.out]
  rw [run_make (P := Tryd.prog) w 38 5 i0 (.int .u8 0) Tryd.underlying38 hi hz0 .i64 .i64 _ _ (by omega) (by omega) (by rw [hz2]; omega) (by omega)]
  have R0 : Row .u8 (w.alloc (.cells (madeCells (Value.int .u8 0).cells ((((z + 9 : Nat) : Int)).toNat * i0.size)) 5)) w.heap.size (z + 9) (fun _ => 0) := Row.made (by rw [hz1]; omega)
  have B0 : Below w.heap.size w (w.alloc (.cells (madeCells (Value.int .u8 0).cells ((((z + 9 : Nat) : Int)).toNat * i0.size)) 5)) := (Below.refl _ _).alloc (Nat.le_refl _) _
  have S0 : w.heap.size < (w.alloc (.cells (madeCells (Value.int .u8 0).cells ((((z + 9 : Nat) : Int)).toNat * i0.size)) 5)).heap.size := by simp
  generalize w.alloc (.cells (madeCells (Value.int .u8 0).cells ((((z + 9 : Nat) : Int)).toNat * i0.size)) 5) = W1 at R0 B0 S0 ⊢
  rw [Int.toNat_natCast]
  have c0 := R0.cell 0 (by omega)
  have f0 := R0.free 0 (by omega)
  clear hi hz0 hz1 hz2
  go_wp2
  have B1 : Hid (IntKind.u64.wrap (8 * n) = (8 * n) % 18446744073709551616) := by unfold Hid; rw [IntKind.wrap_u64]
  go_loopw [22] (fun i wr => ∃ k : Nat, k ≤ 8 ∧ i = .int .i64 k ∧ Row .u8 wr w.heap.size (z + 9) (padFn n z k) ∧ Below w.heap.size w wr) (fun i _ => 8 - (intOf i).toNat)
  case atStart =>
    refine ⟨0, by omega, rfl, (R0.set 0 128 (by omega)).congr (fun j hj => ?_), B0.setCell (Nat.le_refl _) _⟩
    unfold padFn
    by_cases e : j = 0
    · simp [e]
    · simp [e]; omega
  case round =>
    obtain ⟨k, hk, rfl, R, B⟩ := hrel
    by_cases hlt : k < 8
    · have c1 := R.cell (z + 8 - k) (by omega)
      have f1 := R.free (z + 8 - k) (by omega)
      go_wp2
      go_roundw
      case rel =>
        refine ⟨k + 1, by omega, by go_num, (R.set (z + 8 - k) _ (by omega)).congr (fun j hj => ?_), B.setCell (Nat.le_refl _) _⟩
        rw [B1.out]
        exact padFn_step n z k j hlt
      case measure => simp [intOf]; omega
    · have c1 := run_string_row (P := Tryd.prog) (src := 38) (dst := 9) (c := z + 9) Tryd.underlying38 Tryd.underlying5 Tryd.underlying9 R
      obtain rfl : k = 8 := by omega
      go_wp2
      go_ret
      exact ⟨rfl, B⟩
#print axioms pad_any
end Go.Proofs.YtcmdeiohnkbjlaaDoor
namespace Go.Proofs.YtcmdeiohnkbjlaaDoor
open Go.RowKit
theorem padFn_low (n : Int) (z j : Nat) (h : j < z + 1) : padFn n z 0 j = padFn n z 8 j := by
  unfold padFn
  by_cases e : j = 0
  · rw [if_pos e, if_pos e]
  · rw [if_neg e, if_neg e, if_neg (by omega), if_neg (by omega)]

end Go.Proofs.YtcmdeiohnkbjlaaDoor
namespace Go.Proofs.YtcmdeiohnkbjlaaDoor
open Go.RowKit
set_option maxRecDepth 10000 in
set_option maxHeartbeats 400000 in
theorem pad_neg (n : Int) (w : World) (h0 : n < 0) : Calls Tryd.prog 31 #[.int .i64 n] w fun e w' => e = .returned (.string ⟨#[]⟩) ∧ Below w.heap.size w w' := by
  go_enter Tryd.func31, Tryd.ntmps31
  go_wp2
  go_ret
  exact ⟨rfl, Below.refl _ _⟩
/-- The padding as a function of n. -/
def padStr (n : Int) : ByteArray := if n < 0 then ⟨#[]⟩ else strFn (((119 - n % 64) % 64).toNat + 9) (padFn n ((119 - n % 64) % 64).toNat 8)
theorem pad_all (n : Int) (w : World) (h1 : n ≤ 9223372036854775807) : Calls Tryd.prog 31 #[.int .i64 n] w fun e w' => e = .returned (.string (padStr n)) ∧ Below w.heap.size w w' := by
  unfold padStr
  by_cases h : n < 0
  · rw [if_pos h]; exact pad_neg n w h
  · rw [if_neg h]; exact pad_any n _ w (by omega) h1 (by omega)

end Go.Proofs.YtcmdeiohnkbjlaaDoor
namespace Go.Proofs.YtcmdeiohnkbjlaaDoor
open Go.RowKit
def stl : List Int := [1779033703, 3144134277, 1013904242, 2773480762, 1359893119, 2600822924, 528734635, 1541459225]
def stw (i : Nat) : Int := stl.getD i 0
theorem stw_w (j : Nat) : W32 (stw j) := by
  by_cases h : j < 8
  · rcases (show j = 0 ∨ j = 1 ∨ j = 2 ∨ j = 3 ∨ j = 4 ∨ j = 5 ∨ j = 6 ∨ j = 7 from by omega) with rfl | rfl | rfl | rfl | rfl | rfl | rfl | rfl
    all_goals exact ⟨by decide, by decide⟩
  · have : stw j = 0 := by
      unfold stw stl
      rw [List.getD_eq_getElem?_getD, List.getElem?_eq_none (by simp; omega)]
      rfl
    rw [this]
    exact ⟨by decide, by decide⟩
/-- The words behind t blocks of the bytes m. -/
def hw (m : Nat → Int) : Nat → Nat → Int
  | 0 => stw
  | t + 1 => blk kk (hw m t) (fun j => m (64 * t + j))
theorem hw_w (m : Nat → Int) (t j : Nat) : W32 (hw m t j) := by
  cases t with
  | zero => exact stw_w j
  | succ t => exact blk_w _ _ _ _
/-- Byte i of the digest that eight words are. -/
def dg (h : Nat → Int) (i : Nat) : Int := h (i / 4) / 2 ^ (8 * (3 - i % 4)) % 256
/-- The first n of f, noughts behind. -/
def upF (f : Nat → Int) (n x : Nat) : Int := if x < n then f x else 0
theorem upF_set (f : Nat → Int) (n x : Nat) : (if x = n then f n else upF f n x) = upF f (n + 1) x := by
  unfold upF
  by_cases e : x = n
  · rw [if_pos e, if_pos (by omega), e]
  · rw [if_neg e]
    by_cases h : x < n
    · rw [if_pos h, if_pos (by omega)]
    · rw [if_neg h, if_neg (by omega)]
theorem upF_all (f : Nat → Int) (n x : Nat) (h : x < n) : upF f n x = f x := by unfold upF; rw [if_pos h]
theorem upF_zero (f : Nat → Int) (x : Nat) : upF f 0 x = 0 := by unfold upF; rw [if_neg (by omega)]

set_option maxRecDepth 100000 in
set_option maxHeartbeats 4000000 in
theorem startWords_any (w : World) : Calls Tryd.prog 26 #[] w fun e w' => e = .returned (.agg (cs .u32 8 stw)) ∧ Below w.heap.size w w' := by
  go_enter Tryd.func26, Tryd.ntmps26
  go_wp2_with (refine wpList_store_any (f := stw) (by rfl) 74 (.tmp 0) (.tmp 1) (by rfl) w.heap.size (by rfl) (by rfl) (Row.rep (n := 8) (z := 0) rfl) Tryd.sz74 (by rfl) ?_; intro W2 RS2 U2)
  exact bodyPost_ret (results_arr Tryd.results26 _ _ rfl RS2 Tryd.underlying74 Tryd.sz74) rfl ⟨rfl, U2.below ((Below.refl _ _).alloc (Nat.le_refl _) _) (Nat.le_refl _) (by rw [World.size_alloc]; omega)⟩

/-- The message with its padding. -/
def msg (s : ByteArray) : ByteArray := s ++ padStr s.size
theorem padStr_size (n : Nat) : (padStr n).size = ((119 - (n : Int) % 64) % 64).toNat + 9 := by
  unfold padStr
  rw [if_neg (by omega), strFn_size]
/-- How many blocks the message has. -/
def nb (s : ByteArray) : Nat := (s.size + 72) / 64
theorem msg_size (s : ByteArray) : (msg s).size = 64 * nb s := by
  unfold msg nb
  rw [ByteArray.size_append, padStr_size]
  omega
#print axioms startWords_any
#print axioms msg_size
end Go.Proofs.YtcmdeiohnkbjlaaDoor
namespace Go.Proofs.YtcmdeiohnkbjlaaDoor
open Go.RowKit
theorem Tryd.sz46 : (Tryd.prog.info? 46).map (·.size) = some 32 := by kernel_rfl
theorem Tryd.und46 : Tryd.prog.underlying 46 = some (.array 32 5) := by kernel_rfl
theorem run_part_cs' {P : Program} (w : World) (e : TypeId) (k k' : IntKind) (n : Nat) (f : Nat → Int) (he : P.underlying e = some (.int k')) (j : Nat) (hj : j < n) : (part e (cs k n f) j).run P w = .ok (.int k (f j)) w := by
  simp [part, isAgg, run_underlying he, cs_get k n f j hj]

theorem run_index_cs {P : Program} (w : World) (t e : TypeId) (k k' : IntKind) (n : Nat) (f : Nat → Int) {i : TypeInfo} (hu : P.underlying t = some (.array n e)) (he : P.underlying e = some (.int k')) (hi : P.info? e = some i) (h1 : i.size = 1) (j : Nat) (hj : j < n) :
    (Instr.index t (.agg (cs k n f)) (.int .i64 j)).run P w = .ok (.int k (f j)) w := by
  simp [Instr.index, asIntOf, run_underlying hu, sizeOf, typeInfo, hi, h1, run_part_cs' w e k k' n f he j hj]
  omega
theorem dg_step (h : Nat → Int) (k : Nat) (h0 : 0 ≤ h k) (h1 : h k < 4294967296) (x : Nat) :
    (if x = 4 * k + 3 then h k % 256 else if x = 4 * k + 2 then h k / 256 % 256 else if x = 4 * k + 1 then h k / 65536 % 256 else if x = 4 * k then h k / 16777216 else upF (dg h) (4 * k) x) = upF (dg h) (4 * (k + 1)) x := by
  have e0 : dg h (4 * k) = h k / 16777216 := by
    unfold dg
    rw [show 4 * k / 4 = k from by omega, show 4 * k % 4 = 0 from by omega]
    show h k / 16777216 % 256 = _
    omega
  have e1 : dg h (4 * k + 1) = h k / 65536 % 256 := by
    unfold dg
    rw [show (4 * k + 1) / 4 = k from by omega, show (4 * k + 1) % 4 = 1 from by omega]
    rfl
  have e2 : dg h (4 * k + 2) = h k / 256 % 256 := by
    unfold dg
    rw [show (4 * k + 2) / 4 = k from by omega, show (4 * k + 2) % 4 = 2 from by omega]
    rfl
  have e3 : dg h (4 * k + 3) = h k % 256 := by
    unfold dg
    rw [show (4 * k + 3) / 4 = k from by omega, show (4 * k + 3) % 4 = 3 from by omega]
    show h k / 1 % 256 = _
    rw [Int.ediv_one]
  rw [← e0, ← e1, ← e2, ← e3, upF_set, upF_set, upF_set, upF_set]
  rfl

set_option maxRecDepth 100000 in
set_option maxHeartbeats 4000000 in
theorem digestOf_any (h : Nat → Int) (w : World) (hh : ∀ j, W32 (h j)) :
    Calls Tryd.prog 32 #[.agg (cs .u32 8 h)] w fun e w' => e = .returned (.agg (cs .u8 32 (dg h))) ∧ Below w.heap.size w w' := by
  have HW : Hid (∀ j, W32 (h j)) := hh
  clear hh
  obtain ⟨i27, hi27, hs27⟩ : ∃ i, Tryd.prog.info? 73 = some i ∧ i.size = 1 := by
    have h : (Tryd.prog.info? 73).map (·.size) = some 1 := by kernel_rfl
    obtain ⟨i, h1, h2⟩ := Option.map_eq_some_iff.1 h
    exact ⟨i, h1, h2⟩
  go_enter Tryd.func32, Tryd.ntmps32
  go_wp2_with (refine wpList_load_arr (by rfl) 74 (.tmp 1) (by rfl) w.heap.size (by rfl) (((Row.box (e := 74)).alloc (by rw [World.size_alloc]; omega) _).alloc (by rw [World.size_alloc, World.size_alloc]; omega) _) Tryd.underlying74 Tryd.sz74 ?_)
  go_loopw [7] (fun i wr => ∃ k : Nat, k ≤ 8 ∧ i = .int .i64 k ∧ Row .u8 wr (w.heap.size + 1 + 1) 32 (upF (dg h) (4 * k)) ∧ Row .u8 wr (w.heap.size + 1) 32 (fun _ => 0) ∧ Below w.heap.size w wr ∧ w.heap.size + 1 + 1 < wr.heap.size) (fun i _ => 8 - (intOf i).toNat)
  case atStart =>
    refine ⟨0, Nat.zero_le _, rfl, ?_, ?_, ?_, ?_⟩
    · have r : Row .u8 (((w.alloc (.cells (cs .u32 8 h) 74)).alloc (.cells (Array.replicate 32 (.int .u8 0)) 46)).alloc (.cells (Array.replicate 32 (.int .u8 0)) 46)) ((w.alloc (.cells (cs .u32 8 h) 74)).alloc (.cells (Array.replicate 32 (.int .u8 0)) 46)).heap.size 32 (fun _ => 0) := Row.rep rfl
      rw [World.size_alloc, World.size_alloc] at r
      exact r.congr (fun x _ => (upF_zero _ x).symm)
    · have r : Row .u8 ((w.alloc (.cells (cs .u32 8 h) 74)).alloc (.cells (Array.replicate 32 (.int .u8 0)) 46)) (w.alloc (.cells (cs .u32 8 h) 74)).heap.size 32 (fun _ => 0) := Row.rep rfl
      rw [World.size_alloc] at r
      exact r.alloc (by rw [World.size_alloc, World.size_alloc]; omega) _
    · exact (((Below.refl _ _).alloc (Nat.le_refl _) _).alloc (by rw [World.size_alloc]; omega) _).alloc (by rw [World.size_alloc, World.size_alloc]; omega) _
    · rw [World.size_alloc, World.size_alloc, World.size_alloc]; omega
  case round =>
    obtain ⟨k, hk, rfl, RD, R, B, z⟩ := hrel
    by_cases hlt : k < 8
    · have hcs := run_index_cs (P := Tryd.prog) wr 74 73 .u32 .u32 8 h Tryd.underlying74 Tryd.underlying73 hi27 hs27 k hlt
      have hx0 := (HW.out k).1
      have hx1 := (HW.out k).2
      have c0 := RD.cell (4 * k) (by omega)
      have f0 := RD.free (4 * k) (by omega)
      have c1 := RD.cell (4 * k + 1) (by omega)
      have f1 := RD.free (4 * k + 1) (by omega)
      have c2 := RD.cell (4 * k + 2) (by omega)
      have f2 := RD.free (4 * k + 2) (by omega)
      have c3 := RD.cell (4 * k + 3) (by omega)
      have f3 := RD.free (4 * k + 3) (by omega)
      go_wp2
      go_roundw
      case rel =>
        refine ⟨k + 1, by omega, by go_num, ((((RD.set (4 * k) _ (by omega)).set (4 * k + 1) _ (by omega)).set (4 * k + 2) _ (by omega)).set (4 * k + 3) _ (by omega)).congr (fun x _ => dg_step h k hx0 hx1 x),
          (((R.other _ _ (by simp)).other _ _ (by simp)).other _ _ (by simp)).other _ _ (by simp), (((B.setCell (by simp; omega) _).setCell (by simp; omega) _).setCell (by simp; omega) _).setCell (by simp; omega) _, by simp only [World.size_setCell]; exact z⟩
      case measure => simp [intOf]; omega
    · obtain rfl : k = 8 := by omega
      have RD' : Row .u8 wr (w.heap.size + 1 + 1) 32 (dg h) := RD.congr (fun x hx => upF_all _ (4 * 8) x (by omega))
      clear RD
      go_wp2_with (first | refine wpList_load_arr (by rfl) 46 (.tmp 3) (by rfl) (w.heap.size + 1 + 1) (by rfl) RD' Tryd.und46 Tryd.sz46 ?_ | (refine wpList_store_any (by rfl) 46 (.tmp 2) (.tmp 38) (by rfl) (w.heap.size + 1) (by rfl) (by rfl) R Tryd.sz46 (by rfl) ?_; intro W7 R7 U7))
      exact bodyPost_ret (results_arr Tryd.results32 _ _ rfl R7 Tryd.und46 Tryd.sz46) rfl ⟨rfl, U7.below B (by omega) (by omega)⟩
#print axioms digestOf_any
end Go.Proofs.YtcmdeiohnkbjlaaDoor
namespace Go.Proofs.YtcmdeiohnkbjlaaDoor
open Go.RowKit
/-- Block g is a State: n bytes written, the words h, the block f. -/
structure Stt (w : World) (g : Nat) (n : Int) (h f : Nat → Int) : Prop where
  c0 : w.cell? ⟨g, 0, none⟩ = some (.int .i64 n)
  cw : ∀ j, j < 8 → w.cell? ⟨g, 1 + j, none⟩ = some (.int .u32 (h j))
  cb : ∀ j, j < 64 → w.cell? ⟨g, 9 + j, none⟩ = some (.int .u8 (f j))
  fr : ∀ j, j < 73 → w.frozen? ⟨g, j, none⟩ = false

/-- A State of noughts. -/
def zst : Array Value := (Value.int .i64 0 :: (List.replicate 8 (Value.int .u32 0) ++ List.replicate 64 (Value.int .u8 0))).toArray
/-- A State with nothing written, the words h. -/
def hst (h : Nat → Int) : Array Value := (Value.int .i64 0 :: ((List.range 8).map (fun i => Value.int .u32 (h i)) ++ List.replicate 64 (Value.int .u8 0))).toArray
theorem zst_size : zst.size = 73 := by simp [zst]
theorem hst_fold (h : Nat → Int) : Array.foldl (fun cs x => cs.setIfInBounds (1 + x.snd) x.fst) zst (cs .u32 8 h).zipIdx 0 8 = hst h := by kernel_rfl
theorem Tryd.zero80 : (Tryd.prog.info? 80).map (fun i => i.zero) = some (some (.agg zst)) := by kernel_rfl
theorem run_zero_st (w : World) : (zeroValue 80).run Tryd.prog w = .ok (.agg zst) w := by
  obtain ⟨i, hi, hz⟩ := Option.map_eq_some_iff.1 Tryd.zero80
  simp [zeroValue, typeInfo, hi, hz]
theorem Stt.made (w : World) (e : TypeId) (h : Nat → Int) : Stt (w.alloc (.cells (hst h) e)) w.heap.size 0 h (fun _ => 0) := by
  refine ⟨by rw [World.cell?_alloc_new]; simp [hst], fun j hj => ?_, fun j hj => ?_, fun j _ => World.frozen?_alloc_new w _ _ _⟩
  · rw [World.cell?_alloc_new, hst, List.getElem?_toArray, Nat.add_comm 1 j, List.getElem?_cons_succ, List.getElem?_append_left (by simp; omega)]
    simp [hj]
  · rw [World.cell?_alloc_new, hst, List.getElem?_toArray, show 9 + j = (8 + j) + 1 from by omega, List.getElem?_cons_succ, List.getElem?_append_right (by simp), List.length_map, List.length_range, show 8 + j - 8 = j from by omega, List.getElem?_replicate, if_pos hj]

set_option maxRecDepth 100000 in
set_option maxHeartbeats 4000000 in
theorem new_any (w : World) : Calls Tryd.prog 8 #[] w fun e w' => ∃ g, e = .returned (.pointer (some ⟨g, 0, none⟩)) ∧ w.heap.size ≤ g ∧ g < w'.heap.size ∧ Stt w' g 0 stw (fun _ => 0) ∧ Below w.heap.size w w' := by
  have q1 := run_zero_st
  have q2 := zst_size
  have q3 := hst_fold stw
  have q4 := cs_size .u32 8 stw
  go_enter Tryd.func8, Tryd.ntmps8
  go_wp2_with fail
  refine (startWords_any _).mono ?_
  rintro e w1 ⟨rfl, b1⟩
  go_wp2
  go_ret
  exact ⟨_, rfl, b1.size, by rw [World.size_alloc]; omega, Stt.made _ _ _, b1.alloc b1.size _⟩
#print axioms new_any
end Go.Proofs.YtcmdeiohnkbjlaaDoor
