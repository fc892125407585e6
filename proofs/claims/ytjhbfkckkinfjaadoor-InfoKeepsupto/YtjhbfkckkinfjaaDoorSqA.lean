/- strings.SplitN(text, " ", 1025), walked. -/
import Derived.Test.YtjhbfkckkinfjaaDoorSqP
namespace Go.Proofs.YtjhbfkckkinfjaaDoor.Sq
open Go.RowKit

theorem info_str : (Tryd.prog.info? 9).map (fun i => (i.zero, i.size, i.bytes)) = some (some (.string ByteArray.empty), 1, 16) := by kernel_rfl
/-- Element j of a list of texts. -/
def nth (L : List ByteArray) (j : Nat) : ByteArray := L.getD j ByteArray.empty
theorem nth_snoc (L : List ByteArray) (x : ByteArray) (j : Nat) : nth (L ++ [x]) j = if j = L.length then x else nth L j := by
  unfold nth
  rw [List.getD_eq_getElem?_getD, List.getD_eq_getElem?_getD]
  by_cases h : j < L.length
  · rw [List.getElem?_append_left h, if_neg (by omega)]
  · by_cases e : j = L.length
    · rw [if_pos e, e]; simp
    · rw [if_neg e, List.getElem?_eq_none (by simp; omega), List.getElem?_eq_none (by omega)]
set_option maxHeartbeats 400000 in
theorem idx_one (s : ByteArray) (w : World) :
    Calls Tryd.prog 77 #[.string s, .string ⟨#[32]⟩] w fun e w' => e = .returned (.int .i64 (Lib.indexByte s.data.toList 32)) ∧ w' = w := by
  have h := fun W => sidx_any s ⟨#[32]⟩ 32 W rfl (by decide +kernel)
  rw [← ib_fst s 32 (by omega) (by omega)] at h
  go_enter Tryd.func77, Tryd.ntmps77
  go_wp2_with fail
  refine (h _).mono ?_
  rintro e w1 ⟨rfl, rfl⟩
  go_wp2
  go_ret
  exact ⟨rfl, rfl⟩
theorem blank_list : (ByteArray.mk #[32]).toList.isEmpty = false := by decide +kernel

set_option maxRecDepth 100000 in
set_option maxHeartbeats 2000000 in
theorem gen_small (p : ByteArray) (w : World) (hp : p.size ≤ 140737488351232) (hsm : p.size < 1024) :
    Calls Tryd.prog 65 #[.string p, .string ⟨#[32]⟩, .int .i64 0, .int .i64 1025] w fun e w' => (∃ c, e = .returned (.slice (some ⟨w.heap.size, 0, none⟩) (pcs p 1024 0).length c) ∧ (pcs p 1024 0).length ≤ c ∧ VRow w' w.heap.size c (fun j => .string (nth (pcs p 1024 0) j)) ∧ Blk w' w.heap.size 9 c) ∧ VRow w' w.heap.size (pcs p 1024 0).length (fun j => .string (nth (pcs p 1024 0) j)) ∧ Below w.heap.size w w' := by
  obtain ⟨i0, hi, hz0, hz1, hz2⟩ := info_parts info_str
  have hL : Hid (pcs p 1024 0 = pcs p p.size 0) := pcs_enough p 1024 p.size 0 (Nat.zero_le _) (by omega) (by omega)
  have HMK : Hid (∀ w : World, (Instr.makeSlice 24 (.int .i64 ((p.size : Int) + 1)) (.int .i64 ((p.size : Int) + 1))).run Tryd.prog w = .ok (.slice (some ⟨w.heap.size, 0, none⟩) (p.size + 1) (p.size + 1)) (w.alloc (.cells (madeCells (Value.string ByteArray.empty).cells (p.size + 1)) 9))) := fun w => by
    rw [run_make (P := Tryd.prog) w 24 9 i0 (.string ByteArray.empty) Tryd.underlying24 hi hz0 .i64 .i64 _ _ (by omega) (by omega) (by rw [hz2]; omega) (by omega), show (((p.size : Int) + 1) : Int).toNat = p.size + 1 by omega, hz1, Nat.mul_one]
  have hse := blank_list
  have IX := fun (f : Nat) (w : World) => idx_one (p.extract f p.size) w
  clear hi hz0 hz1 hz2
  go_enter Tryd.func65, Tryd.ntmps65
  go_wp2_with fail
  rw [HMK.out]
  clear hsm
  have R0 : VRow (w.alloc (.cells (madeCells (Value.string ByteArray.empty).cells (p.size + 1)) 9)) w.heap.size (p.size + 1) (fun _ => .string ByteArray.empty) := VRow.made rfl rfl
  have B0 : BelB w.heap.size (p.size + 1) w (w.alloc (.cells (madeCells (Value.string ByteArray.empty).cells (p.size + 1)) 9)) := ⟨(Below.refl _ _).alloc (Nat.le_refl _) _, Blk.made _ _ _ _ (made_size _ _ rfl)⟩
  generalize w.alloc (.cells (madeCells (Value.string ByteArray.empty).cells (p.size + 1)) 9) = W1 at R0 B0 ⊢
  go_wp2
  go_loopw [0, 10] (fun xs xi wr => ∃ (k f : Nat) (D : List ByteArray), D.length = k ∧ k ≤ p.size ∧ f ≤ p.size ∧ xs = .string (p.extract f p.size) ∧ xi = .int .i64 k ∧ Hid (D ++ pcs p (p.size - k) f = pcs p p.size 0) ∧ VRow wr w.heap.size (p.size + 1) (fun j => .string (nth D j)) ∧ BelB w.heap.size (p.size + 1) w wr) (fun _ i _ => p.size - (intOf i).toNat)
  case atStart => exact ⟨0, 0, [], rfl, Nat.zero_le _, Nat.zero_le _, by simp, rfl, rfl, R0.congr (fun j _ => by simp [nth]), B0⟩
  case round =>
    obtain ⟨k, f, D, hD, hk, hf, rfl, rfl, hL2, V, B⟩ := hrel
    have c1 := V.cell k (by omega)
    have f1 := V.free k (by omega)
    have FIN : Hid (∀ r, p.size - k = r → pcs p r f = [p.extract f p.size] → (pcs p 1024 0).length = k + 1 ∧ VRow (wr.setCell ⟨w.heap.size, k, none⟩ (.string (p.extract f p.size))) w.heap.size (p.size + 1) (fun j => .string (nth (pcs p 1024 0) j))) := by
      intro r hr he
      have e := hL2.out
      rw [hr, he] at e
      rw [hL.out, ← e]
      refine ⟨by simp [hD], (V.set k _ (by omega)).congr (fun j hj => ?_)⟩
      rw [nth_snoc, hD]
      by_cases ej : j = k
      · rw [if_pos ej, if_pos ej]
      · rw [if_neg ej, if_neg ej]
    by_cases hlt : k < p.size
    · rcases idx_rest p f hf with ⟨n1, n2⟩ | ⟨n1, n2⟩
      · have IXF := IX f
        rw [n2] at IXF
        have FI := FIN.out _ rfl (pcs_last p _ f n1)
        have FL : Hid ((pcs p 1024 0).length = k + 1) := FI.1
        have FV : Hid (VRow (wr.setCell ⟨w.heap.size, k, none⟩ (.string (p.extract f p.size))) w.heap.size (p.size + 1) (fun j => .string (nth (pcs p 1024 0) j))) := FI.2
        clear FI n1 n2 IX FIN
        go_wp2_with (first | (go_at_call 77; refine (IXF _).mono ?_; rintro e w' ⟨rfl, rfl⟩))
        go_ret
        exact ⟨⟨_, by rw [FL.out]; rfl, by rw [FL.out]; omega, FV.out, (B.setCell _ _).blk⟩, by rw [FL.out]; exact FV.out.take (by omega), (B.setCell _ _).bel⟩
      · obtain ⟨s1, s2, s3, s4⟩ := nx_spec p f hf
        obtain ⟨m, hm⟩ : ∃ m : Nat, nx p f = f + m := ⟨nx p f - f, by omega⟩
        have IXF := IX f
        rw [n2, hm, show f + m - f = m by omega] at IXF
        have E1 : Hid ((p.extract f p.size).extract 0 m = p.extract f (nx p f)) := by unfold Hid; rw [ext_ext p f 0 m (by omega), hm]; rfl
        have E2 : Hid ((p.extract f p.size).extract (m + 1) (p.extract f p.size).size = p.extract (nx p f + 1) p.size) := by unfold Hid; rw [ext_rest p f (m + 1) (by omega), hm]; rfl
        have hz : (p.extract f p.size).size = p.size - f := ext_size2 p f p.size hf (Nat.le_refl _)
        have hz1 : m + 1 ≤ (p.extract f p.size).size := by omega
        have hz2 : (p.extract f p.size).size ≤ 140737488351232 := by omega
        have HN : Hid (D ++ [p.extract f (nx p f)] ++ pcs p (p.size - (k + 1)) (nx p f + 1) = pcs p p.size 0) := by
          unfold Hid
          have e := hL2.out
          rw [show p.size - k = (p.size - (k + 1)) + 1 by omega, pcs_more p _ f (by omega)] at e
          rw [← e, List.append_assoc]; rfl
        have HB : nx p f + 1 ≤ p.size := by omega
        have HV : Hid (VRow (wr.setCell ⟨w.heap.size, k, none⟩ (.string (p.extract f (nx p f)))) w.heap.size (p.size + 1) (fun j => .string (nth (D ++ [p.extract f (nx p f)]) j))) := (V.set k _ (by omega)).congr (fun j hj => by
          rw [nth_snoc, hD]
          by_cases ej : j = k
          · rw [if_pos ej, if_pos ej]
          · rw [if_neg ej, if_neg ej])
        have HD : Hid ((D ++ [p.extract f (nx p f)]).length = k + 1) := by unfold Hid; simp [hD]
        generalize D ++ [p.extract f (nx p f)] = D' at *
        generalize nx p f = q at *
        generalize p.extract f p.size = t at *
        clear s1 s2 s3 s4 hz n1 n2 hm IX FIN hD hL2 V
        go_wp2_with (first | (go_at_call 77; refine (IXF _).mono ?_; rintro e w' ⟨rfl, rfl⟩))
        go_roundw
        case rel => exact ⟨k + 1, q + 1, D', HD.out, by omega, HB, by rw [← E2.out], by go_num, HN, by rw [E1.out]; exact HV.out, B.setCell _ _⟩
        case measure => simp [intOf]; omega
    · have FI := FIN.out 0 (by omega) rfl
      have FL : Hid ((pcs p 1024 0).length = k + 1) := FI.1
      have FV : Hid (VRow (wr.setCell ⟨w.heap.size, k, none⟩ (.string (p.extract f p.size))) w.heap.size (p.size + 1) (fun j => .string (nth (pcs p 1024 0) j))) := FI.2
      clear FI IX FIN
      go_wp2
      go_ret
      exact ⟨⟨_, by rw [FL.out]; rfl, by rw [FL.out]; omega, FV.out, (B.setCell _ _).blk⟩, by rw [FL.out]; exact FV.out.take (by omega), (B.setCell _ _).bel⟩

set_option maxRecDepth 100000 in
set_option maxHeartbeats 2000000 in
theorem gen_big (p : ByteArray) (w : World) (hp : p.size ≤ 140737488351232) (hsm : ¬ p.size < 1024) :
    Calls Tryd.prog 65 #[.string p, .string ⟨#[32]⟩, .int .i64 0, .int .i64 1025] w fun e w' => (∃ c, e = .returned (.slice (some ⟨w.heap.size, 0, none⟩) (pcs p 1024 0).length c) ∧ (pcs p 1024 0).length ≤ c ∧ VRow w' w.heap.size c (fun j => .string (nth (pcs p 1024 0) j)) ∧ Blk w' w.heap.size 9 c) ∧ VRow w' w.heap.size (pcs p 1024 0).length (fun j => .string (nth (pcs p 1024 0) j)) ∧ Below w.heap.size w w' := by
  obtain ⟨i0, hi, hz0, hz1, hz2⟩ := info_parts info_str
  have HMK : Hid (∀ w : World, (Instr.makeSlice 24 (.int .i64 1025) (.int .i64 1025)).run Tryd.prog w = .ok (.slice (some ⟨w.heap.size, 0, none⟩) (1024 + 1) (1024 + 1)) (w.alloc (.cells (madeCells (Value.string ByteArray.empty).cells (1024 + 1)) 9))) := fun w => by
    rw [run_make (P := Tryd.prog) w 24 9 i0 (.string ByteArray.empty) Tryd.underlying24 hi hz0 .i64 .i64 _ _ (by omega) (by omega) (by rw [hz2]; omega) (by omega), show (1025 : Int).toNat = 1024 + 1 by omega, hz1, Nat.mul_one]
  have hse := blank_list
  have IX := fun (f : Nat) (w : World) => idx_one (p.extract f p.size) w
  clear hi hz0 hz1 hz2
  go_enter Tryd.func65, Tryd.ntmps65
  go_wp2_with fail
  rw [HMK.out]
  clear hsm
  have R0 : VRow (w.alloc (.cells (madeCells (Value.string ByteArray.empty).cells (1024 + 1)) 9)) w.heap.size (1024 + 1) (fun _ => .string ByteArray.empty) := VRow.made rfl rfl
  have B0 : BelB w.heap.size (1024 + 1) w (w.alloc (.cells (madeCells (Value.string ByteArray.empty).cells (1024 + 1)) 9)) := ⟨(Below.refl _ _).alloc (Nat.le_refl _) _, Blk.made _ _ _ _ (made_size _ _ rfl)⟩
  generalize w.alloc (.cells (madeCells (Value.string ByteArray.empty).cells (1024 + 1)) 9) = W1 at R0 B0 ⊢
  go_wp2
  go_loopw [0, 10] (fun xs xi wr => ∃ (k f : Nat) (D : List ByteArray), D.length = k ∧ k ≤ 1024 ∧ f ≤ p.size ∧ xs = .string (p.extract f p.size) ∧ xi = .int .i64 k ∧ Hid (D ++ pcs p (1024 - k) f = pcs p 1024 0) ∧ VRow wr w.heap.size (1024 + 1) (fun j => .string (nth D j)) ∧ BelB w.heap.size (1024 + 1) w wr) (fun _ i _ => 1024 - (intOf i).toNat)
  case atStart => exact ⟨0, 0, [], rfl, Nat.zero_le _, Nat.zero_le _, by simp, rfl, rfl, R0.congr (fun j _ => by simp [nth]), B0⟩
  case round =>
    obtain ⟨k, f, D, hD, hk, hf, rfl, rfl, hL2, V, B⟩ := hrel
    have c1 := V.cell k (by omega)
    have f1 := V.free k (by omega)
    have FIN : Hid (∀ r, 1024 - k = r → pcs p r f = [p.extract f p.size] → (pcs p 1024 0).length = k + 1 ∧ VRow (wr.setCell ⟨w.heap.size, k, none⟩ (.string (p.extract f p.size))) w.heap.size (1024 + 1) (fun j => .string (nth (pcs p 1024 0) j))) := by
      intro r hr he
      have e := hL2.out
      rw [hr, he] at e
      rw [← e]
      refine ⟨by simp [hD], (V.set k _ (by omega)).congr (fun j hj => ?_)⟩
      rw [nth_snoc, hD]
      by_cases ej : j = k
      · rw [if_pos ej, if_pos ej]
      · rw [if_neg ej, if_neg ej]
    by_cases hlt : k < 1024
    · rcases idx_rest p f hf with ⟨n1, n2⟩ | ⟨n1, n2⟩
      · have IXF := IX f
        rw [n2] at IXF
        have FI := FIN.out _ rfl (pcs_last p _ f n1)
        have FL : Hid ((pcs p 1024 0).length = k + 1) := FI.1
        have FV : Hid (VRow (wr.setCell ⟨w.heap.size, k, none⟩ (.string (p.extract f p.size))) w.heap.size (1024 + 1) (fun j => .string (nth (pcs p 1024 0) j))) := FI.2
        clear FI n1 n2 IX FIN
        go_wp2_with (first | (go_at_call 77; refine (IXF _).mono ?_; rintro e w' ⟨rfl, rfl⟩))
        go_ret
        exact ⟨⟨_, by rw [FL.out]; rfl, by rw [FL.out]; omega, FV.out, (B.setCell _ _).blk⟩, by rw [FL.out]; exact FV.out.take (by omega), (B.setCell _ _).bel⟩
      · obtain ⟨s1, s2, s3, s4⟩ := nx_spec p f hf
        obtain ⟨m, hm⟩ : ∃ m : Nat, nx p f = f + m := ⟨nx p f - f, by omega⟩
        have IXF := IX f
        rw [n2, hm, show f + m - f = m by omega] at IXF
        have E1 : Hid ((p.extract f p.size).extract 0 m = p.extract f (nx p f)) := by unfold Hid; rw [ext_ext p f 0 m (by omega), hm]; rfl
        have E2 : Hid ((p.extract f p.size).extract (m + 1) (p.extract f p.size).size = p.extract (nx p f + 1) p.size) := by unfold Hid; rw [ext_rest p f (m + 1) (by omega), hm]; rfl
        have hz : (p.extract f p.size).size = p.size - f := ext_size2 p f p.size hf (Nat.le_refl _)
        have hz1 : m + 1 ≤ (p.extract f p.size).size := by omega
        have hz2 : (p.extract f p.size).size ≤ 140737488351232 := by omega
        have HN : Hid (D ++ [p.extract f (nx p f)] ++ pcs p (1024 - (k + 1)) (nx p f + 1) = pcs p 1024 0) := by
          unfold Hid
          have e := hL2.out
          rw [show 1024 - k = (1024 - (k + 1)) + 1 by omega, pcs_more p _ f (by omega)] at e
          rw [← e, List.append_assoc]; rfl
        have HB : nx p f + 1 ≤ p.size := by omega
        have HV : Hid (VRow (wr.setCell ⟨w.heap.size, k, none⟩ (.string (p.extract f (nx p f)))) w.heap.size (1024 + 1) (fun j => .string (nth (D ++ [p.extract f (nx p f)]) j))) := (V.set k _ (by omega)).congr (fun j hj => by
          rw [nth_snoc, hD]
          by_cases ej : j = k
          · rw [if_pos ej, if_pos ej]
          · rw [if_neg ej, if_neg ej])
        have HD : Hid ((D ++ [p.extract f (nx p f)]).length = k + 1) := by unfold Hid; simp [hD]
        generalize D ++ [p.extract f (nx p f)] = D' at *
        generalize nx p f = q at *
        generalize p.extract f p.size = t at *
        clear s1 s2 s3 s4 hz n1 n2 hm IX FIN hD hL2 V
        go_wp2_with (first | (go_at_call 77; refine (IXF _).mono ?_; rintro e w' ⟨rfl, rfl⟩))
        go_roundw
        case rel => exact ⟨k + 1, q + 1, D', HD.out, by omega, HB, by rw [← E2.out], by go_num, HN, by rw [E1.out]; exact HV.out, B.setCell _ _⟩
        case measure => simp [intOf]; omega
    · have FI := FIN.out 0 (by omega) rfl
      have FL : Hid ((pcs p 1024 0).length = k + 1) := FI.1
      have FV : Hid (VRow (wr.setCell ⟨w.heap.size, k, none⟩ (.string (p.extract f p.size))) w.heap.size (1024 + 1) (fun j => .string (nth (pcs p 1024 0) j))) := FI.2
      clear FI IX FIN
      go_wp2
      go_ret
      exact ⟨⟨_, by rw [FL.out]; rfl, by rw [FL.out]; omega, FV.out, (B.setCell _ _).blk⟩, by rw [FL.out]; exact FV.out.take (by omega), (B.setCell _ _).bel⟩

theorem gen_any (p : ByteArray) (w : World) (hp : p.size ≤ 140737488351232) :
    Calls Tryd.prog 65 #[.string p, .string ⟨#[32]⟩, .int .i64 0, .int .i64 1025] w fun e w' => (∃ c, e = .returned (.slice (some ⟨w.heap.size, 0, none⟩) (pcs p 1024 0).length c) ∧ (pcs p 1024 0).length ≤ c ∧ VRow w' w.heap.size c (fun j => .string (nth (pcs p 1024 0) j)) ∧ Blk w' w.heap.size 9 c) ∧ VRow w' w.heap.size (pcs p 1024 0).length (fun j => .string (nth (pcs p 1024 0) j)) ∧ Below w.heap.size w w' := by
  by_cases h : p.size < 1024
  · exact gen_small p w hp h
  · exact gen_big p w hp h

set_option maxHeartbeats 400000 in
theorem splitn_any (p : ByteArray) (w : World) (hp : p.size ≤ 140737488351232) :
    Calls Tryd.prog 50 #[.string p, .string ⟨#[32]⟩, .int .i64 1025] w fun e w' => (∃ c, e = .returned (.slice (some ⟨w.heap.size, 0, none⟩) (pcs p 1024 0).length c) ∧ (pcs p 1024 0).length ≤ c ∧ VRow w' w.heap.size c (fun j => .string (nth (pcs p 1024 0) j)) ∧ Blk w' w.heap.size 9 c) ∧ VRow w' w.heap.size (pcs p 1024 0).length (fun j => .string (nth (pcs p 1024 0) j)) ∧ Below w.heap.size w w' := by
  go_enter Tryd.func50, Tryd.ntmps50
  go_wp2_with fail
  refine (gen_any p _ hp).mono ?_
  rintro e w1 ⟨⟨c, rfl, hc, VC, BC⟩, V, B⟩
  go_wp2
  go_ret
  exact ⟨⟨c, rfl, hc, VC, BC⟩, V, B⟩

end Go.Proofs.YtjhbfkckkinfjaaDoor.Sq
