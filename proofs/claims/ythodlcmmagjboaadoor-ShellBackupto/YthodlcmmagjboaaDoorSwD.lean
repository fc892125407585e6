/- strings.Split at the blank, walked (own text of the verifier). -/
import Derived.Test.YthodlcmmagjboaaDoorSwB
import Derived.Test.YthodlcmmagjboaaDoorVr
namespace Go.Proofs.YthodlcmmagjboaaDoor
open Go.RowKit

theorem info_str : (Tryd.prog.info? 9).map (fun i => (i.zero, i.size, i.bytes)) = some (some (.string ByteArray.empty), 1, 16) := by kernel_rfl
/-- Element j of a list of texts. -/
def nth (L : List (List UInt8)) (j : Nat) : ByteArray := ba (L.getD j [])
theorem nth_snoc (L : List (List UInt8)) (x : List UInt8) (j : Nat) : nth (L ++ [x]) j = if j = L.length then ba x else nth L j := by
  unfold nth
  rw [List.getD_eq_getElem?_getD, List.getD_eq_getElem?_getD]
  by_cases h : j < L.length
  · rw [List.getElem?_append_left h, if_neg (by omega)]
  · by_cases e : j = L.length
    · rw [if_pos e, e]; simp
    · rw [if_neg e, List.getElem?_eq_none (by simp; omega), List.getElem?_eq_none (by omega)]
theorem spl_count (l : List UInt8) : (spl l).length = l.count 32 + 1 := by
  induction l with
  | nil => rw [spl]; rfl
  | cons c l ih =>
    rw [spl]
    by_cases h : c = 32
    · rw [if_pos h, List.length_cons, ih, h, List.count_cons_self]
    · rw [if_neg h, List.count_cons_of_ne (fun e => h e)]
      split
      · rename_i e; exact absurd e (spl_pos l)
      · rename_i p r e; rw [e] at ih; exact ih
set_option maxHeartbeats 400000 in
theorem idx_one (l : List UInt8) (w : World) :
    Calls Tryd.prog 27 #[.string (ba l), .string ⟨#[32]⟩] w fun e w' => e = .returned (.int .i64 (Lib.indexByte l 32)) ∧ w' = w := by
  have h := fun W => sidx_any l ⟨#[32]⟩ 32 W rfl (by decide +kernel) rfl
  go_enter Tryd.func27, Tryd.ntmps27
  go_wp2_with fail
  refine (h _).mono ?_
  rintro e w1 ⟨rfl, rfl⟩
  go_wp2
  go_ret
  exact ⟨rfl, rfl⟩
theorem blank_list : (ByteArray.mk #[32]).toList.isEmpty = false := by decide +kernel
set_option maxHeartbeats 1000000 in
set_option maxRecDepth 100000 in
theorem count_one (l : List UInt8) (w : World) :
    Calls Tryd.prog 26 #[.string (ba l), .string ⟨#[32]⟩] w fun e w' => e = .returned (.int .i64 (l.count 32 : Nat)) ∧ w' = w := by
  go_enter Tryd.func26, Tryd.ntmps26
  go_wp2
  rw [run_callFunc_extern Tryd.func32 (by kernel_rfl) (by kernel_rfl) (by kernel_rfl) (e := Extern.BytealgCount.count) (by kernel_rfl), Lib.run_countString]
  simp only [Result.andThen]
  rw [Oper.upon_value]
  go_wp2
  go_ret
  exact ⟨rfl, rfl⟩

set_option maxHeartbeats 4000000 in
set_option maxRecDepth 100000 in
theorem gen_any (l : List UInt8) (w : World) (hl : l.length ≤ 16777216) :
    Calls Tryd.prog 19 #[.string (ba l), .string ⟨#[32]⟩, .int .i64 0, .int .i64 (-1)] w fun e w' => e = .returned (.slice (some ⟨w.heap.size, 0, none⟩) (spl l).length (spl l).length) ∧ VRow w' w.heap.size (spl l).length (fun j => .string (nth (spl l) j)) ∧ Below w.heap.size w w' := by
  obtain ⟨i0, hi, hz0, hz1, hz2⟩ := info_parts info_str
  have hn := spl_count l
  have hle : l.count 32 ≤ l.length := List.count_le_length
  have hsz := ba_size l
  generalize hN : l.count 32 = N at hn hle
  have CO := count_one l w
  rw [hN] at CO
  have HL : Hid ((spl l).length = N + 1) := hn
  have HSP : Hid (spl l = [] ++ spl l) := rfl
  have HMK : ∀ w : World, (Instr.makeSlice 23 (.int .i64 ((N : Int) + 1)) (.int .i64 ((N : Int) + 1))).run Tryd.prog w = .ok (.slice (some ⟨w.heap.size, 0, none⟩) (N + 1) (N + 1)) (w.alloc (.cells (madeCells #[Value.string ByteArray.empty] (N + 1)) 9)) := fun w => by
    rw [run_make (P := Tryd.prog) w 23 9 i0 (.string ByteArray.empty) Tryd.underlying23 hi hz0 .i64 .i64 _ _ (by omega) (by omega) (by rw [hz2]; omega) (by omega), show (((N : Int) + 1) : Int).toNat = N + 1 by omega, hz1, Nat.mul_one]; rfl
  have hse := blank_list
  have hmin : min ((N : Int) + 1) ((l.length : Int) + 1) = (N : Int) + 1 := by omega
  clear hi hz0 hz1 hz2 hn hN
  go_enter Tryd.func19, Tryd.ntmps19
  go_wp2_with fail
  refine CO.mono ?_
  rintro e w ⟨rfl, rfl⟩
  clear CO
  go_wp2_with fail
  have R0 : VRow (w.alloc (.cells (madeCells #[Value.string ByteArray.empty] (N + 1)) 9)) w.heap.size (N + 1) (fun _ => .string ByteArray.empty) := VRow.made (z := Value.string ByteArray.empty) rfl rfl
  have B0 : Below w.heap.size w (w.alloc (.cells (madeCells #[Value.string ByteArray.empty] (N + 1)) 9)) := (Below.refl _ _).alloc (Nat.le_refl _) _
  generalize w.alloc (.cells (madeCells #[Value.string ByteArray.empty] (N + 1)) 9) = W1 at R0 B0 ⊢
  generalize hg : w.heap.size = g at R0 B0 ⊢
  have HG : Hid (w.heap.size = g) := hg
  clear hg HMK
  go_loopg [0, 10, 11] N (fun gk xs xi u11 wr => ∃ (k : Nat) (m : List UInt8) (D : List (List UInt8)), Hid (D.length = k) ∧ gk + k = N ∧ xs = .string (ba m) ∧ xi = .int .i64 k ∧ Hid (D ++ spl m = spl l) ∧ Hid (m.length ≤ l.length) ∧ VRow wr g (N + 1) (fun j => .string (nth D j)) ∧ Hid (Below g w wr))
  case atStart => exact ⟨0, l, [], rfl, rfl, rfl, rfl, rfl, Nat.le_refl _, R0.congr (fun j _ => rfl), B0⟩
  case round =>
    obtain ⟨k, m, D, hD, hgk, rfl, rfl, hL2, hm, V, hB⟩ := hrel
    clear R0 B0 HSP
    have hmz := ba_size m
    have hml := hm.out
    have c1 := V.cell k (by omega)
    have f1 := V.free k (by omega)
    have hlen : D.length + (spl m).length = N + 1 := by
      have := congrArg List.length hL2.out
      rw [List.length_append, HL.out] at this
      exact this
    rw [hD.out] at hlen
    by_cases hlt : k < N
    · have IX := fun W => idx_one m W
      rcases idx_cut m 32 with ⟨h1, h2⟩ | ⟨a, b, h1, h2, h3⟩
      · rw [spl_last m h2] at hlen
        simp at hlen
        omega
      · rw [h3] at IX
        have E1 : (ba m).extract 0 a.length = ba a := by rw [h1]; exact ba_head a _
        have E2 : (ba m).extract (a.length + 1) m.length = ba b := by rw [h1]; exact ba_tail a b 32 _ rfl
        have ham : a.length + 1 ≤ m.length ∧ b.length ≤ m.length := by rw [h1, List.length_append, List.length_cons]; omega
        obtain ⟨ham, hbm⟩ := ham
        have HN : Hid ((D ++ [a]) ++ spl b = spl l) := by
          unfold Hid
          rw [← hL2.out, h1, spl_app a b h2, List.append_assoc]
          rfl
        have HV : Hid (VRow (wr.setCell ⟨g, k, none⟩ (.string (ba a))) g (N + 1) (fun j => .string (nth (D ++ [a]) j))) := (V.set k _ (by omega)).congr (fun j hj => by
          rw [nth_snoc, hD.out]
          by_cases ej : j = k
          · rw [if_pos ej, if_pos ej]
          · rw [if_neg ej, if_neg ej])
        have HD : Hid ((D ++ [a]).length = k + 1) := by unfold Hid; rw [List.length_append, hD.out]; rfl
        have HM : Hid (b.length ≤ l.length) := by unfold Hid; omega
        have HB : Hid (Below g w (wr.setCell ⟨g, k, none⟩ (.string (ba a)))) := hB.out.setCell (p := ⟨g, k, none⟩) (Nat.le_refl _) _
        generalize D ++ [a] = D' at HN HV HD
        generalize a.length = al at IX E1 E2 ham
        generalize ba m = mm at IX E1 E2 hmz ⊢
        generalize ba a = aa at E1 HV HB
        clear h1 h2 h3 hL2 hD hlen V hB hm
        go_wp2_with (first | (go_at_call 27; refine (IX _).mono ?_; rintro e w' ⟨rfl, rfl⟩))
        go_roundg (gk - 1)
        case measure => omega
        case rel => exact ⟨k + 1, b, D', HD, by omega, rfl, by go_num, HN, HM, HV.out, HB⟩
    · have e1 : k = N := by omega
      have hone : ∃ a, spl m = [a] := by
        have : (spl m).length = 1 := by omega
        exact List.length_eq_one_iff.1 this
      have hno : (32 : UInt8) ∉ m := by
        intro hc
        have h1 := spl_count m
        have := List.count_pos_iff.2 hc
        omega
      have HF : Hid (spl l = D ++ [m]) := by unfold Hid; rw [← hL2.out, spl_last m hno]
      have FV : Hid (VRow (wr.setCell ⟨g, k, none⟩ (.string (ba m))) g (N + 1) (fun j => .string (nth (spl l) j))) := (V.set k _ (by omega)).congr (fun j hj => by
        rw [HF.out, nth_snoc, hD.out]
        by_cases ej : j = k
        · rw [if_pos ej, if_pos ej]
        · rw [if_neg ej, if_neg ej])
      have HB : Hid (Below g w (wr.setCell ⟨g, k, none⟩ (.string (ba m)))) := hB.out.setCell (p := ⟨g, k, none⟩) (Nat.le_refl _) _
      have hkn : ¬ (k : Int) < (N : Int) := by omega
      have hk1 : (k : Int) + 1 ≤ (N : Int) + 1 := by omega
      have hk2 : k + 1 ≤ N + 1 := by omega
      have HE1 : Hid (k = N) := e1
      clear hone hno hL2 hD hlen V hB hm e1 HF
      go_wp2
      go_ret
      rw [HL.out, HG.out]
      exact ⟨by rw [HE1.out]; rfl, FV.out, HB.out⟩

set_option maxHeartbeats 400000 in
theorem split_any (l : List UInt8) (w : World) (hl : l.length ≤ 16777216) :
    Calls Tryd.prog 14 #[.string (ba l), .string ⟨#[32]⟩] w fun e w' => e = .returned (.slice (some ⟨w.heap.size, 0, none⟩) (spl l).length (spl l).length) ∧ VRow w' w.heap.size (spl l).length (fun j => .string (nth (spl l) j)) ∧ Below w.heap.size w w' := by
  have C := gen_any l w hl
  go_enter Tryd.func14, Tryd.ntmps14
  go_wp2_with fail
  refine C.mono ?_
  rintro e w1 ⟨rfl, V, B⟩
  go_wp2
  go_ret
  exact ⟨rfl, V, B⟩

end Go.Proofs.YthodlcmmagjboaaDoor
