/- The printer's quoted, walked. -/
import Derived.Test.YtbfhfejdmhjccaaRpA
namespace Go.Proofs.Ytbfhfejdmhjccaa
open Go.RowKit

theorem esc_len (x : UInt8) : (esc x).length ≤ 2 := by
  rcases esc_cases x with ⟨k, y, -, -, e, -⟩ | ⟨-, e⟩ <;> rw [e] <;> simp
theorem flat_take (t : List UInt8) (i : Nat) (hi : i < t.length) : (t.take (i + 1)).flatMap esc = (t.take i).flatMap esc ++ esc (t.getD i 0) := by
  rw [List.take_add_one, List.flatMap_append, List.getElem?_eq_getElem hi, List.getD_eq_getElem?_getD, List.getElem?_eq_getElem hi]
  simp
theorem flat_len (t : List UInt8) : (t.flatMap esc).length ≤ 2 * t.length := by
  induction t with
  | nil => simp
  | cons x t ih =>
    rw [List.flatMap_cons, List.length_append]
    have := esc_len x
    simp only [List.length_cons]
    omega

set_option maxHeartbeats 8000000 in
theorem pquoted_any (g : Nat) (l t : List UInt8) (w : World) (h : Bd 70 w g l) (hl : l.length + 2 * t.length ≤ 1073741000) :
    Calls Try.prog 25 #[.pointer (some ⟨g, 0, none⟩), .string (ba t)] w fun e w' => e = .returned (.tuple #[]) ∧ Bd 70 w' g (l ++ qT t) ∧ Below g w w' ∧ Bk g w w' := by
  have h34 : ((34 : UInt8).toNat : Int) = 34 := rfl
  have h92 : ((92 : UInt8).toNat : Int) = 92 := rfl
  have hsz := ba_size t
  have hgt : ∀ (n : Nat) (h : n < (ba t).size), (((ba t)[n]'h).toNat : Int) = bt (ba t) n := get_bt (ba t)
  have hgt4 : ∀ (n : Nat) (h : n < (⟨#[34, 92, 110, 116]⟩ : ByteArray).size), ((((⟨#[34, 92, 110, 116]⟩ : ByteArray))[n]'h).toNat : Int) = bt ⟨#[34, 92, 110, 116]⟩ n := get_bt _
  have hsz4 : (⟨#[34, 92, 110, 116]⟩ : ByteArray).size = 4 := rfl
  have hBT : Hid (∀ i, i < t.length → bt (ba t) i = ((t.getD i 0).toNat : Int)) := bt_get t
  have W1 := wbyteK_any 70 (.inr rfl) g l 34 w h (by omega)
  rw [h34] at W1
  clear h
  go_enter Try.func25, Try.ntmps25
  go_wp2_with fail
  refine W1.mono ?_
  rintro e w1 ⟨rfl, B1, L1⟩
  have HB1 : Hid (Bd 70 w1 g (l ++ 34 :: (t.take 0).flatMap esc)) := B1
  have HL1 : Hid (Below g w w1 ∧ Bk g w w1) := L1
  clear B1 L1 W1
  go_wp2_with fail
  go_loopg [4, 5, 12] t.length (fun gk u5 u4 iv wr => ∃ i : Nat, gk + i = t.length ∧ iv = .int .i64 (i : Int) ∧ Hid (Bd 70 wr g (l ++ 34 :: (t.take i).flatMap esc)) ∧ Hid (Below g w wr ∧ Bk g w wr))
  case atStart => exact ⟨0, rfl, rfl, HB1, HL1⟩
  case round =>
    obtain ⟨i, hgk, rfl, hB, hL⟩ := hrel
    clear HB1 HL1
    by_cases hi : i < t.length
    · have x1 := hBT.out i hi
      have hst := flat_take t i hi
      have hfl := flat_len (t.take i)
      rw [List.length_take] at hfl
      have hln : (l ++ 34 :: (t.take i).flatMap esc).length ≤ 1073741010 := by rw [List.length_append, List.length_cons]; omega
      have HS : Hid (l ++ 34 :: (t.take (i + 1)).flatMap esc = (l ++ 34 :: (t.take i).flatMap esc) ++ esc (t.getD i 0)) := by unfold Hid; rw [hst]; simp
      clear hst hfl
      generalize t.getD i 0 = x at x1 HS
      generalize l ++ 34 :: (t.take i).flatMap esc = O at hB HS hln
      have hi' : (i : Int) < (t.length : Int) := by omega
      have IC := fun W => ib_any ⟨#[34, 92, 10, 9]⟩ (x.toNat : Int) W
      rw [u8_back, show (⟨#[34, 92, 10, 9]⟩ : ByteArray).data.toList = [34, 92, 10, 9] from rfl] at IC
      rcases esc_cases x with ⟨k, y, hk, hI, hE, hy⟩ | ⟨hI, hE⟩
      · rw [hI] at IC
        rw [hE] at HS
        have W2 := wbyteK_any 70 (.inr rfl) g O 92 wr hB.out (by omega)
        rw [h92] at W2
        have hk0 : (0 : Int) ≤ (k : Int) := by omega
        have hk4 : (k : Int) < 4 := by omega
        go_wp2_with fail
        refine (IC wr).mono ?_
        rintro e w2 ⟨rfl, rfl⟩
        go_wp2_with fail
        refine W2.mono ?_
        rintro e w3 ⟨rfl, B3, L3⟩
        have HB3 : Hid (Bd 70 w3 g (O ++ [92])) := B3
        have HL3 : Hid (Below g w w3 ∧ Bk g w w3) := ⟨hL.out.1.trans L3.1, hL.out.2.trans L3.2⟩
        clear B3 L3 W2 IC hB hL hI hE
        go_wp2_with fail
        have HB3' : Hid (Bd 70 w3.drew g (O ++ [92])) := HB3.out.same (fun _ _ _ => rfl)
        have HL3' : Hid (Below g w w3.drew ∧ Bk g w w3.drew) := ⟨HL3.out.1.drew, HL3.out.2.trans (Bk.drew g _)⟩
        clear HB3 HL3
        refine wp_region_held_drew (S := fun _ => True) (by kernel_rfl) trivial (fun _ => ?_)
        generalize w3.drew = W at HB3' HL3' ⊢
        refine wpAnyH_take (i := 0) (oi := { dst := some 25, op := Op.move (Operand.tmp 0), type := 83, pos := "print.go:59", after := #[], guard := none }) (v := .pointer (some ⟨g, 0, none⟩)) rfl (by kernel_rfl) (by kernel_rfl) (by kernel_rfl) (fun _ _ _ h => h) (Or.inl ⟨by rfl, by intro w _; go_simp⟩) trivial ?_
        simp only [Act.put, List.setIfInBounds_toArray, List.set_cons_zero, List.set_cons_succ]
        refine wpAnyH_take (i := 1) (oi := { dst := some 26, op := Op.nilCheck (Operand.tmp 25), type := 0, pos := "print.go:59", after := #[{ on := 0, ground := Ground.data }], guard := none }) (v := .pointer (some ⟨g, 0, none⟩)) rfl (by kernel_rfl) (by kernel_rfl) (by kernel_rfl) (fun _ _ _ h => h) (Or.inl ⟨by rfl, by intro w _; go_simp⟩) trivial ?_
        simp only [Act.put, List.setIfInBounds_toArray, List.set_cons_zero, List.set_cons_succ]
        refine wpAnyH_take (i := 2) (oi := { dst := some 27, op := Op.fieldAddr 70 (Operand.tmp 26) 0, type := 0, pos := "print.go:59", after := #[{ on := 1, ground := Ground.data }], guard := none }) (v := .pointer (some ⟨g, 0, none⟩)) rfl (by kernel_rfl) (by kernel_rfl) (by kernel_rfl) (fun _ _ _ h => h) (Or.inl ⟨by rfl, by intro w _; go_simp⟩) trivial ?_
        simp only [Act.put, List.setIfInBounds_toArray, List.set_cons_zero, List.set_cons_succ]
        refine wpAnyH_take (i := 3) (oi := { dst := some 28, op := Op.move (Operand.tmp 5), type := 3, pos := "print.go:59", after := #[], guard := none }) (v := .int .i64 (k : Int)) rfl (by kernel_rfl) (by kernel_rfl) (by kernel_rfl) (fun _ _ _ h => h) (Or.inl ⟨by rfl, by intro w _; go_simp⟩) trivial ?_
        simp only [Act.put, List.setIfInBounds_toArray, List.set_cons_zero, List.set_cons_succ]
        refine wpAnyH_take (i := 4) (oi := { dst := some 29, op := Op.index 9 (Operand.const (Value.string { data := #[34, 92, 110, 116] })) (Operand.tmp 28), type := 5, pos := "print.go:59", after := #[{ on := 3, ground := Ground.data }], guard := none }) (v := .int .u8 (y.toNat : Int)) rfl (by kernel_rfl) (by kernel_rfl) (by kernel_rfl) (fun _ _ _ h => h) (Or.inl ⟨by rfl, by intro w _; go_simp⟩) trivial ?_
        simp only [Act.put, List.setIfInBounds_toArray, List.set_cons_zero, List.set_cons_succ]
        refine wpAnyH_ready (rs := [5]) (by kernel_rfl) (by decide) (AllReadyH.cons rfl (fun K hK => ?_) AllReadyH.nil)
        rw [if_pos (by rfl)]
        go_simp
        refine (wbyteK_any 70 (.inr rfl) g (O ++ [92]) y W HB3'.out (by rw [List.length_append]; show O.length + 1 ≤ _; omega)).mono ?_
        rintro e w5 ⟨rfl, B5, L5⟩
        have HB5 : Hid (Bd 70 w5 g (l ++ 34 :: (t.take (i + 1)).flatMap esc)) := by
          unfold Hid
          rw [HS.out]
          simpa using B5
        have HL5 : Hid (Below g w w5 ∧ Bk g w w5) := ⟨HL3'.out.1.trans L5.1, HL3'.out.2.trans L5.2⟩
        clear B5 L5 HB3' HL3'
        go_wp2_with fail
        refine hK.out _ _ trivial (fun _ => ?_)
        clear hK K
        refine wpAnyH_done (by kernel_rfl) ?_ _
        go_wp2
        go_roundg (gk - 1)
        case measure => omega
        case rel => exact ⟨i + 1, by omega, by go_num, HB5, HL5⟩
      · rw [hI] at IC
        rw [hE] at HS
        go_wp2_with fail
        refine (IC wr).mono ?_
        rintro e w2 ⟨rfl, rfl⟩
        clear IC hI hE
        go_wp2_with fail
        have HB3' : Hid (Bd 70 w2.drew g O) := hB.out.same (fun _ _ _ => rfl)
        have HL3' : Hid (Below g w w2.drew ∧ Bk g w w2.drew) := ⟨hL.out.1.drew, hL.out.2.trans (Bk.drew g _)⟩
        clear hB hL
        refine wp_region_held_drew (S := fun _ => True) (by kernel_rfl) trivial (fun _ => ?_)
        generalize w2.drew = W at HB3' HL3' ⊢
        refine wpAnyH_take (i := 0) (oi := { dst := some 31, op := Op.move (Operand.tmp 0), type := 83, pos := "print.go:61", after := #[], guard := none }) (v := .pointer (some ⟨g, 0, none⟩)) rfl (by kernel_rfl) (by kernel_rfl) (by kernel_rfl) (fun _ _ _ h => h) (Or.inl ⟨by rfl, by intro w _; go_simp⟩) trivial ?_
        simp only [Act.put, List.setIfInBounds_toArray, List.set_cons_zero, List.set_cons_succ]
        refine wpAnyH_take (i := 1) (oi := { dst := some 32, op := Op.nilCheck (Operand.tmp 31), type := 0, pos := "print.go:61", after := #[{ on := 0, ground := Ground.data }], guard := none }) (v := .pointer (some ⟨g, 0, none⟩)) rfl (by kernel_rfl) (by kernel_rfl) (by kernel_rfl) (fun _ _ _ h => h) (Or.inl ⟨by rfl, by intro w _; go_simp⟩) trivial ?_
        simp only [Act.put, List.setIfInBounds_toArray, List.set_cons_zero, List.set_cons_succ]
        refine wpAnyH_take (i := 2) (oi := { dst := some 33, op := Op.fieldAddr 70 (Operand.tmp 32) 0, type := 0, pos := "print.go:61", after := #[{ on := 1, ground := Ground.data }], guard := none }) (v := .pointer (some ⟨g, 0, none⟩)) rfl (by kernel_rfl) (by kernel_rfl) (by kernel_rfl) (fun _ _ _ h => h) (Or.inl ⟨by rfl, by intro w _; go_simp⟩) trivial ?_
        simp only [Act.put, List.setIfInBounds_toArray, List.set_cons_zero, List.set_cons_succ]
        refine wpAnyH_take (i := 3) (oi := { dst := some 34, op := Op.move (Operand.tmp 1), type := 9, pos := "print.go:61", after := #[], guard := none }) (v := .string (ba t)) rfl (by kernel_rfl) (by kernel_rfl) (by kernel_rfl) (fun _ _ _ h => h) (Or.inl ⟨by rfl, by intro w _; go_simp⟩) trivial ?_
        simp only [Act.put, List.setIfInBounds_toArray, List.set_cons_zero, List.set_cons_succ]
        refine wpAnyH_take (i := 4) (oi := { dst := some 35, op := Op.move (Operand.tmp 4), type := 3, pos := "print.go:61", after := #[], guard := none }) (v := .int .i64 (i : Int)) rfl (by kernel_rfl) (by kernel_rfl) (by kernel_rfl) (fun _ _ _ h => h) (Or.inl ⟨by rfl, by intro w _; go_simp⟩) trivial ?_
        simp only [Act.put, List.setIfInBounds_toArray, List.set_cons_zero, List.set_cons_succ]
        refine wpAnyH_take (i := 5) (oi := { dst := some 36, op := Op.index 9 (Operand.tmp 34) (Operand.tmp 35), type := 5, pos := "print.go:61", after := #[{ on := 3, ground := Ground.data }, { on := 4, ground := Ground.data }], guard := none }) (v := .int .u8 (x.toNat : Int)) rfl (by kernel_rfl) (by kernel_rfl) (by kernel_rfl) (fun _ _ _ h => h) (Or.inl ⟨by rfl, by intro w _; go_simp⟩) trivial ?_
        simp only [Act.put, List.setIfInBounds_toArray, List.set_cons_zero, List.set_cons_succ]
        refine wpAnyH_ready (rs := [6]) (by kernel_rfl) (by decide) (AllReadyH.cons rfl (fun K hK => ?_) AllReadyH.nil)
        rw [if_pos (by rfl)]
        go_simp
        refine (wbyteK_any 70 (.inr rfl) g O x W HB3'.out (by omega)).mono ?_
        rintro e w5 ⟨rfl, B5, L5⟩
        have HB5 : Hid (Bd 70 w5 g (l ++ 34 :: (t.take (i + 1)).flatMap esc)) := by
          unfold Hid
          rw [HS.out]
          exact B5
        have HL5 : Hid (Below g w w5 ∧ Bk g w w5) := ⟨HL3'.out.1.trans L5.1, HL3'.out.2.trans L5.2⟩
        clear B5 L5 HB3' HL3'
        go_wp2_with fail
        refine hK.out _ _ trivial (fun _ => ?_)
        clear hK K
        refine wpAnyH_done (by kernel_rfl) ?_ _
        go_wp2
        go_roundg (gk - 1)
        case measure => omega
        case rel => exact ⟨i + 1, by omega, by go_num, HB5, HL5⟩
    · have hi' : ¬ (i : Int) < (t.length : Int) := by omega
      have hb := hB.out
      rw [List.take_of_length_le (by omega)] at hb
      have hfl := flat_len t
      have W3 := wbyteK_any 70 (.inr rfl) g _ 34 wr hb (by rw [List.length_append, List.length_cons]; omega)
      rw [h34] at W3
      go_wp2_with fail
      refine W3.mono ?_
      rintro e w3 ⟨rfl, B3, L3⟩
      have HB3 : Hid (Bd 70 w3 g (l ++ qT t)) := by
        unfold Hid qT
        simpa using B3
      have HL3 : Hid (Below g w w3 ∧ Bk g w w3) := ⟨hL.out.1.trans L3.1, hL.out.2.trans L3.2⟩
      clear B3 L3 W3 hb
      go_wp2
      go_end0
      exact ⟨rfl, HB3.out, HL3.out⟩

end Go.Proofs.Ytbfhfejdmhjccaa
