/- strings.SplitN(path, "/", 32), walked. -/
import Derived.Test.YtnggbemnblcnaaaDoorSpP
import Derived.Test.YtnggbemnblcnaaaDoorVr
namespace Go.Proofs.YtnggbemnblcnaaaDoor
open Go.RowKit

theorem info_str : (Tryd.prog.info? 9).map (fun i => (i.zero, i.size, i.bytes)) = some (some (.string ByteArray.empty), 1, 16) := by kernel_rfl
/-- Element j of a list of texts. -/
def nth (L : List ByteArray) (j : Nat) : ByteArray := L.getD j ByteArray.empty
theorem nth_snoc (L : List ByteArray) (x : ByteArray) (j : Nat) : nth (L ++ [x]) j = if j = L.length then x else nth L j := by
  unfold nth
  rw [List.getD_eq_getElem?_getD, List.getD_eq_getElem?_getD]
  by_cases h : j < L.length
  · rw [List.getElem?_append_left h, if_neg (by omega)]
  · by_cases e : j = L.length
    · rw [if_pos e, e]; simp
    · rw [if_neg e, List.getElem?_eq_none (by simp; omega), List.getElem?_eq_none (by omega)]
theorem slash_list : (ByteArray.mk #[47]).toList.isEmpty = false := by decide +kernel

set_option maxHeartbeats 2000000 in
set_option maxRecDepth 100000 in
theorem gen_small (p : ByteArray) (w : World) (hp : p.size ≤ 140737488351232) (hsm : p.size < 31) :
    Calls Tryd.prog 75 #[.string p, .string ⟨#[47]⟩, .int .i64 0, .int .i64 32] w fun e w' => (∃ c, e = .returned (.slice (some ⟨w.heap.size, 0, none⟩) (pcs p 31 0).length c) ∧ (pcs p 31 0).length ≤ c ∧ VRow w' w.heap.size c (fun j => .string (nth (pcs p 31 0) j))) ∧ VRow w' w.heap.size (pcs p 31 0).length (fun j => .string (nth (pcs p 31 0) j)) ∧ Below w.heap.size w w' := by
  obtain ⟨i0, hi, hz0, hz1, hz2⟩ := info_parts info_str
  have hL : Hid (pcs p 31 0 = pcs p p.size 0) := pcs_enough p 31 p.size 0 (Nat.zero_le _) (by omega) (by omega)
  have HMK : Hid (∀ w : World, (Instr.makeSlice 69 (.int .i64 ((p.size : Int) + 1)) (.int .i64 ((p.size : Int) + 1))).run Tryd.prog w = .ok (.slice (some ⟨w.heap.size, 0, none⟩) (p.size + 1) (p.size + 1)) (w.alloc (.cells (madeCells (Value.string ByteArray.empty).cells (p.size + 1)) 9))) := fun w => by
    rw [run_make (P := Tryd.prog) w 69 9 i0 (.string ByteArray.empty) Tryd.underlying69 hi hz0 .i64 .i64 _ _ (by omega) (by omega) (by rw [hz2]; omega) (by omega), show (((p.size : Int) + 1) : Int).toNat = p.size + 1 by omega, hz1, Nat.mul_one]
  have hse := slash_list
  have IX := fun (f : Nat) (w : World) => idx_one (p.extract f p.size) 47 w
  clear hi hz0 hz1 hz2
  go_enter Tryd.func75, Tryd.ntmps75
  go_wp2_with fail
  rw [HMK.out]
  clear hsm
  have R0 : VRow (w.alloc (.cells (madeCells (Value.string ByteArray.empty).cells (p.size + 1)) 9)) w.heap.size (p.size + 1) (fun _ => .string ByteArray.empty) := VRow.made rfl rfl
  have B0 : Below w.heap.size w (w.alloc (.cells (madeCells (Value.string ByteArray.empty).cells (p.size + 1)) 9)) := (Below.refl _ _).alloc (Nat.le_refl _) _
  generalize w.alloc (.cells (madeCells (Value.string ByteArray.empty).cells (p.size + 1)) 9) = W1 at R0 B0 ⊢
  go_wp2
  go_loopw [0, 10] (fun xs xi wr => ∃ (k f : Nat) (D : List ByteArray), D.length = k ∧ k ≤ p.size ∧ f ≤ p.size ∧ xs = .string (p.extract f p.size) ∧ xi = .int .i64 k ∧ Hid (D ++ pcs p (p.size - k) f = pcs p p.size 0) ∧ VRow wr w.heap.size (p.size + 1) (fun j => .string (nth D j)) ∧ Below w.heap.size w wr) (fun _ i _ => p.size - (intOf i).toNat)
  case atStart => exact ⟨0, 0, [], rfl, Nat.zero_le _, Nat.zero_le _, by simp, rfl, rfl, R0.congr (fun j _ => by simp [nth]), B0⟩
  case round =>
    obtain ⟨k, f, D, hD, hk, hf, rfl, rfl, hL2, V, B⟩ := hrel
    have c1 := V.cell k (by omega)
    have f1 := V.free k (by omega)
    have FIN : Hid (∀ r, p.size - k = r → pcs p r f = [p.extract f p.size] → (pcs p 31 0).length = k + 1 ∧ VRow (wr.setCell ⟨w.heap.size, k, none⟩ (.string (p.extract f p.size))) w.heap.size (p.size + 1) (fun j => .string (nth (pcs p 31 0) j))) := by
      intro r hr he
      have e := hL2.out
      rw [hr, he] at e
      rw [hL.out, ← e]
      refine ⟨by simp [hD], (V.set k _ (by omega)).congr (fun j hj => ?_)⟩
      rw [nth_snoc, hD]
      by_cases ej : j = k
      · rw [if_pos ej, if_pos ej]
      · rw [if_neg ej, if_neg ej]
    by_cases hlt : k < p.size
    · rcases idx_rest p f hf with ⟨n1, n2⟩ | ⟨n1, n2⟩
      · have IXF := IX f
        rw [n2] at IXF
        have FI := FIN.out _ rfl (pcs_last p _ f n1)
        have FL : Hid ((pcs p 31 0).length = k + 1) := FI.1
        have FV : Hid (VRow (wr.setCell ⟨w.heap.size, k, none⟩ (.string (p.extract f p.size))) w.heap.size (p.size + 1) (fun j => .string (nth (pcs p 31 0) j))) := FI.2
        clear FI n1 n2 IX FIN
        go_wp2_with (first | (go_at_call 84; refine (IXF _).mono ?_; rintro e w' ⟨rfl, rfl⟩))
        go_ret
        exact ⟨⟨_, by rw [FL.out]; rfl, by rw [FL.out]; omega, FV.out⟩, by rw [FL.out]; exact FV.out.take (by omega), B.setCell (Nat.le_refl _) _⟩
      · obtain ⟨s1, s2, s3, s4⟩ := nx_spec p f hf
        obtain ⟨m, hm⟩ : ∃ m : Nat, nx p f = f + m := ⟨nx p f - f, by omega⟩
        have IXF := IX f
        rw [n2, hm, show f + m - f = m by omega] at IXF
        have E1 : Hid ((p.extract f p.size).extract 0 m = p.extract f (nx p f)) := by unfold Hid; rw [ext_ext p f 0 m (by omega), hm]; rfl
        have E2 : Hid ((p.extract f p.size).extract (m + 1) (p.extract f p.size).size = p.extract (nx p f + 1) p.size) := by unfold Hid; rw [ext_rest p f (m + 1) (by omega), hm]; rfl
        have hz : (p.extract f p.size).size = p.size - f := ext_size2 p f p.size hf (Nat.le_refl _)
        have hz1 : m + 1 ≤ (p.extract f p.size).size := by omega
        have hz2 : (p.extract f p.size).size ≤ 140737488351232 := by omega
        have HN : Hid (D ++ [p.extract f (nx p f)] ++ pcs p (p.size - (k + 1)) (nx p f + 1) = pcs p p.size 0) := by
          unfold Hid
          have e := hL2.out
          rw [show p.size - k = (p.size - (k + 1)) + 1 by omega, pcs_more p _ f (by omega)] at e
          rw [← e, List.append_assoc]; rfl
        have HB : nx p f + 1 ≤ p.size := by omega
        have HV : Hid (VRow (wr.setCell ⟨w.heap.size, k, none⟩ (.string (p.extract f (nx p f)))) w.heap.size (p.size + 1) (fun j => .string (nth (D ++ [p.extract f (nx p f)]) j))) := (V.set k _ (by omega)).congr (fun j hj => by
          rw [nth_snoc, hD]
          by_cases ej : j = k
          · rw [if_pos ej, if_pos ej]
          · rw [if_neg ej, if_neg ej])
        have HD : Hid ((D ++ [p.extract f (nx p f)]).length = k + 1) := by unfold Hid; simp [hD]
        generalize D ++ [p.extract f (nx p f)] = D' at *
        generalize nx p f = q at *
        generalize p.extract f p.size = t at *
        clear s1 s2 s3 s4 hz n1 n2 hm IX FIN hD hL2 V
        go_wp2_with (first | (go_at_call 84; refine (IXF _).mono ?_; rintro e w' ⟨rfl, rfl⟩))
        go_roundw
        case rel => exact ⟨k + 1, q + 1, D', HD.out, by omega, HB, by rw [← E2.out], by go_num, HN, by rw [E1.out]; exact HV.out, B.setCell (Nat.le_refl _) _⟩
        case measure => simp [intOf]; omega
    · have FI := FIN.out 0 (by omega) rfl
      have FL : Hid ((pcs p 31 0).length = k + 1) := FI.1
      have FV : Hid (VRow (wr.setCell ⟨w.heap.size, k, none⟩ (.string (p.extract f p.size))) w.heap.size (p.size + 1) (fun j => .string (nth (pcs p 31 0) j))) := FI.2
      clear FI IX FIN
      go_wp2
      go_ret
      exact ⟨⟨_, by rw [FL.out]; rfl, by rw [FL.out]; omega, FV.out⟩, by rw [FL.out]; exact FV.out.take (by omega), B.setCell (Nat.le_refl _) _⟩

set_option maxHeartbeats 2000000 in
set_option maxRecDepth 100000 in
theorem gen_big (p : ByteArray) (w : World) (hp : p.size ≤ 140737488351232) (hsm : ¬ p.size < 31) :
    Calls Tryd.prog 75 #[.string p, .string ⟨#[47]⟩, .int .i64 0, .int .i64 32] w fun e w' => (∃ c, e = .returned (.slice (some ⟨w.heap.size, 0, none⟩) (pcs p 31 0).length c) ∧ (pcs p 31 0).length ≤ c ∧ VRow w' w.heap.size c (fun j => .string (nth (pcs p 31 0) j))) ∧ VRow w' w.heap.size (pcs p 31 0).length (fun j => .string (nth (pcs p 31 0) j)) ∧ Below w.heap.size w w' := by
  obtain ⟨i0, hi, hz0, hz1, hz2⟩ := info_parts info_str
  have HMK : Hid (∀ w : World, (Instr.makeSlice 69 (.int .i64 32) (.int .i64 32)).run Tryd.prog w = .ok (.slice (some ⟨w.heap.size, 0, none⟩) (31 + 1) (31 + 1)) (w.alloc (.cells (madeCells (Value.string ByteArray.empty).cells (31 + 1)) 9))) := fun w => by
    rw [run_make (P := Tryd.prog) w 69 9 i0 (.string ByteArray.empty) Tryd.underlying69 hi hz0 .i64 .i64 _ _ (by omega) (by omega) (by rw [hz2]; omega) (by omega), show (32 : Int).toNat = 31 + 1 by omega, hz1, Nat.mul_one]
  have hse := slash_list
  have IX := fun (f : Nat) (w : World) => idx_one (p.extract f p.size) 47 w
  clear hi hz0 hz1 hz2
  go_enter Tryd.func75, Tryd.ntmps75
  go_wp2_with fail
  rw [HMK.out]
  clear hsm
  have R0 : VRow (w.alloc (.cells (madeCells (Value.string ByteArray.empty).cells (31 + 1)) 9)) w.heap.size (31 + 1) (fun _ => .string ByteArray.empty) := VRow.made rfl rfl
  have B0 : Below w.heap.size w (w.alloc (.cells (madeCells (Value.string ByteArray.empty).cells (31 + 1)) 9)) := (Below.refl _ _).alloc (Nat.le_refl _) _
  generalize w.alloc (.cells (madeCells (Value.string ByteArray.empty).cells (31 + 1)) 9) = W1 at R0 B0 ⊢
  go_wp2
  go_loopw [0, 10] (fun xs xi wr => ∃ (k f : Nat) (D : List ByteArray), D.length = k ∧ k ≤ 31 ∧ f ≤ p.size ∧ xs = .string (p.extract f p.size) ∧ xi = .int .i64 k ∧ Hid (D ++ pcs p (31 - k) f = pcs p 31 0) ∧ VRow wr w.heap.size (31 + 1) (fun j => .string (nth D j)) ∧ Below w.heap.size w wr) (fun _ i _ => 31 - (intOf i).toNat)
  case atStart => exact ⟨0, 0, [], rfl, Nat.zero_le _, Nat.zero_le _, by simp, rfl, rfl, R0.congr (fun j _ => by simp [nth]), B0⟩
  case round =>
    obtain ⟨k, f, D, hD, hk, hf, rfl, rfl, hL2, V, B⟩ := hrel
    have c1 := V.cell k (by omega)
    have f1 := V.free k (by omega)
    have FIN : Hid (∀ r, 31 - k = r → pcs p r f = [p.extract f p.size] → (pcs p 31 0).length = k + 1 ∧ VRow (wr.setCell ⟨w.heap.size, k, none⟩ (.string (p.extract f p.size))) w.heap.size (31 + 1) (fun j => .string (nth (pcs p 31 0) j))) := by
      intro r hr he
      have e := hL2.out
      rw [hr, he] at e
      rw [← e]
      refine ⟨by simp [hD], (V.set k _ (by omega)).congr (fun j hj => ?_)⟩
      rw [nth_snoc, hD]
      by_cases ej : j = k
      · rw [if_pos ej, if_pos ej]
      · rw [if_neg ej, if_neg ej]
    by_cases hlt : k < 31
    · rcases idx_rest p f hf with ⟨n1, n2⟩ | ⟨n1, n2⟩
      · have IXF := IX f
        rw [n2] at IXF
        have FI := FIN.out _ rfl (pcs_last p _ f n1)
        have FL : Hid ((pcs p 31 0).length = k + 1) := FI.1
        have FV : Hid (VRow (wr.setCell ⟨w.heap.size, k, none⟩ (.string (p.extract f p.size))) w.heap.size (31 + 1) (fun j => .string (nth (pcs p 31 0) j))) := FI.2
        clear FI n1 n2 IX FIN
        go_wp2_with (first | (go_at_call 84; refine (IXF _).mono ?_; rintro e w' ⟨rfl, rfl⟩))
        go_ret
        exact ⟨⟨_, by rw [FL.out]; rfl, by rw [FL.out]; omega, FV.out⟩, by rw [FL.out]; exact FV.out.take (by omega), B.setCell (Nat.le_refl _) _⟩
      · obtain ⟨s1, s2, s3, s4⟩ := nx_spec p f hf
        obtain ⟨m, hm⟩ : ∃ m : Nat, nx p f = f + m := ⟨nx p f - f, by omega⟩
        have IXF := IX f
        rw [n2, hm, show f + m - f = m by omega] at IXF
        have E1 : Hid ((p.extract f p.size).extract 0 m = p.extract f (nx p f)) := by unfold Hid; rw [ext_ext p f 0 m (by omega), hm]; rfl
        have E2 : Hid ((p.extract f p.size).extract (m + 1) (p.extract f p.size).size = p.extract (nx p f + 1) p.size) := by unfold Hid; rw [ext_rest p f (m + 1) (by omega), hm]; rfl
        have hz : (p.extract f p.size).size = p.size - f := ext_size2 p f p.size hf (Nat.le_refl _)
        have hz1 : m + 1 ≤ (p.extract f p.size).size := by omega
        have hz2 : (p.extract f p.size).size ≤ 140737488351232 := by omega
        have HN : Hid (D ++ [p.extract f (nx p f)] ++ pcs p (31 - (k + 1)) (nx p f + 1) = pcs p 31 0) := by
          unfold Hid
          have e := hL2.out
          rw [show 31 - k = (31 - (k + 1)) + 1 by omega, pcs_more p _ f (by omega)] at e
          rw [← e, List.append_assoc]; rfl
        have HB : nx p f + 1 ≤ p.size := by omega
        have HV : Hid (VRow (wr.setCell ⟨w.heap.size, k, none⟩ (.string (p.extract f (nx p f)))) w.heap.size (31 + 1) (fun j => .string (nth (D ++ [p.extract f (nx p f)]) j))) := (V.set k _ (by omega)).congr (fun j hj => by
          rw [nth_snoc, hD]
          by_cases ej : j = k
          · rw [if_pos ej, if_pos ej]
          · rw [if_neg ej, if_neg ej])
        have HD : Hid ((D ++ [p.extract f (nx p f)]).length = k + 1) := by unfold Hid; simp [hD]
        generalize D ++ [p.extract f (nx p f)] = D' at *
        generalize nx p f = q at *
        generalize p.extract f p.size = t at *
        clear s1 s2 s3 s4 hz n1 n2 hm IX FIN hD hL2 V
        go_wp2_with (first | (go_at_call 84; refine (IXF _).mono ?_; rintro e w' ⟨rfl, rfl⟩))
        go_roundw
        case rel => exact ⟨k + 1, q + 1, D', HD.out, by omega, HB, by rw [← E2.out], by go_num, HN, by rw [E1.out]; exact HV.out, B.setCell (Nat.le_refl _) _⟩
        case measure => simp [intOf]; omega
    · have FI := FIN.out 0 (by omega) rfl
      have FL : Hid ((pcs p 31 0).length = k + 1) := FI.1
      have FV : Hid (VRow (wr.setCell ⟨w.heap.size, k, none⟩ (.string (p.extract f p.size))) w.heap.size (31 + 1) (fun j => .string (nth (pcs p 31 0) j))) := FI.2
      clear FI IX FIN
      go_wp2
      go_ret
      exact ⟨⟨_, by rw [FL.out]; rfl, by rw [FL.out]; omega, FV.out⟩, by rw [FL.out]; exact FV.out.take (by omega), B.setCell (Nat.le_refl _) _⟩

theorem gen_any (p : ByteArray) (w : World) (hp : p.size ≤ 140737488351232) :
    Calls Tryd.prog 75 #[.string p, .string ⟨#[47]⟩, .int .i64 0, .int .i64 32] w fun e w' => (∃ c, e = .returned (.slice (some ⟨w.heap.size, 0, none⟩) (pcs p 31 0).length c) ∧ (pcs p 31 0).length ≤ c ∧ VRow w' w.heap.size c (fun j => .string (nth (pcs p 31 0) j))) ∧ VRow w' w.heap.size (pcs p 31 0).length (fun j => .string (nth (pcs p 31 0) j)) ∧ Below w.heap.size w w' := by
  by_cases h : p.size < 31
  · exact gen_small p w hp h
  · exact gen_big p w hp h

set_option maxHeartbeats 400000 in
theorem splitn_any (p : ByteArray) (w : World) (hp : p.size ≤ 140737488351232) :
    Calls Tryd.prog 67 #[.string p, .string ⟨#[47]⟩, .int .i64 32] w fun e w' => (∃ c, e = .returned (.slice (some ⟨w.heap.size, 0, none⟩) (pcs p 31 0).length c) ∧ (pcs p 31 0).length ≤ c ∧ VRow w' w.heap.size c (fun j => .string (nth (pcs p 31 0) j))) ∧ VRow w' w.heap.size (pcs p 31 0).length (fun j => .string (nth (pcs p 31 0) j)) ∧ Below w.heap.size w w' := by
  go_enter Tryd.func67, Tryd.ntmps67
  go_wp2_with fail
  refine (gen_any p _ hp).mono ?_
  rintro e w1 ⟨⟨c, rfl, hc, VC⟩, V, B⟩
  go_wp2
  go_ret
  exact ⟨⟨c, rfl, hc, VC⟩, V, B⟩

end Go.Proofs.YtnggbemnblcnaaaDoor
