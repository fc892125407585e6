/- The law WireBack, walked. -/
import Derived.Test.YtjlbbnjcdickgaaWbA
namespace Go.Proofs.Ytjlbbnjcdickgaa
open Go.RowKit

theorem plain_idem (L : List It) : (L.map plainI).map plainI = L.map plainI := by
  rw [List.map_map]
  exact List.map_congr_left (fun i _ => plain_plain i)
theorem plain_bd (i : It) (m : Nat) (h : i.num < 18446744073709551616 ∧ i.text.length ≤ m) : (plainI i).num < 18446744073709551616 ∧ (plainI i).text.length ≤ m := by
  cases hi : i.isInt
  · rw [plain_txt i hi]; exact ⟨(by show 0 < 18446744073709551616; decide), h.2⟩
  · rw [plain_int i hi]; exact ⟨h.1, Nat.zero_le _⟩
/-- What Split says of framed items. -/
theorem back_pure (P : List It) (hP : P.map plainI = P) (hb : ∀ i ∈ P, i.num < 18446744073709551616 ∧ i.text.length ≤ 1048576) :
    (sp (P.flatMap frI) (P.map plI) (lngN P)).code = 0 ∧ (sp (P.flatMap frI) (P.map plI) (lngN P)).fat = 0 ∧ (sp (P.flatMap frI) (P.map plI) (lngN P)).out = P ∧ lngN P ≤ 1048576 ∧ (lngN P ≠ 0 → (sp (P.flatMap frI) (P.map plI) (lngN P - 1)).code = 6) := by
  obtain ⟨-, h2, h3⟩ := lng_ge P 0
  have hm : lngN P ≤ 1048576 := by
    rcases h3 with h3 | ⟨i, hi, -, e⟩
    · have : lngN P = 0 := h3
      omega
    · have : i.text.length = lngN P := e
      have := (hb i hi).2
      omega
  obtain ⟨a, b, c⟩ := sp_whole (lngN P) P (fun i hi => ⟨(hb i hi).1, by have := (hb i hi).2; omega, h2 i hi⟩)
  refine ⟨a, b, by rw [c, hP], hm, fun h0 => ?_⟩
  refine sp_long _ P (fun i hi => ⟨(hb i hi).1, by have := (hb i hi).2; omega⟩) ?_
  rcases h3 with h3 | ⟨i, hi, hf, e⟩
  · exact absurd h3 h0
  · have e2 : i.text.length = lngN P := e
    exact ⟨i, hi, hf, by omega⟩

set_option maxHeartbeats 4000000 in
theorem back_walk (r : Value) (L : List It) (w : World) (O : ItRow w r L) (hn : L.length ≤ 1048576) (hb : ∀ i ∈ L, i.num < 18446744073709551616 ∧ i.text.length ≤ 1048576) (ht : (L.flatMap frI).length ≤ 33554432) :
    Calls Try.prog 7 #[r] w fun e w' => e = .returned (.bool true) ∧ Below w.heap.size w w' := by
  have HO0 : Hid (ItRow w r L) := O
  obtain ⟨P, hP⟩ : ∃ P, L.map plainI = P := ⟨_, rfl⟩
  have hPl : P.length ≤ 1048576 := by rw [← hP, List.length_map]; exact hn
  have hPf : (P.flatMap frI).length ≤ 33554432 := by rw [← hP, (plain_frs L).1]; exact ht
  have hPm : (P.map plI).length ≤ 1048576 := by rw [List.length_map]; exact hPl
  have hPb : ∀ i ∈ P, i.num < 18446744073709551616 ∧ i.text.length ≤ 1048576 := fun i hi => by
    rw [← hP] at hi
    obtain ⟨j, hj, rfl⟩ := List.mem_map.1 hi
    exact plain_bd j _ (hb j hj)
  obtain ⟨p1, p2, p3, p4, p5⟩ := back_pure P (by rw [← hP]; exact plain_idem L) hPb
  have LC : Hid (∀ w v, ItRow w v P → Calls Try.prog 29 #[v] w fun e w' => e = .returned (.int .i64 (lngN P : Int)) ∧ Below w.heap.size w w') := fun w v o => longest_any v P w o (fun i hi => by have := (hPb i hi).2; omega) (by omega)
  have FC : Hid (∀ w v, ItRow w v P → Calls Try.prog 28 #[v] w fun e w' => e = .returned (.tuple #[.string (ba (P.flatMap frI)), .string (ba (P.map plI))]) ∧ Below w.heap.size w w') := fun w v o => frm_row v P w o (fun i hi => by have := hPb i hi; exact ⟨this.1, by omega⟩) (by omega) (by omega)
  have SC : Hid (∀ w, Calls Try.prog 16 #[.string (ba (P.flatMap frI)), .string (ba (P.map plI)), .int .i64 (lngN P : Int)] w fun e w' => ∃ r, e = .returned (.tuple #[r, .agg #[.int .i64 0, .int .i64 0]]) ∧ ItRow w' r P ∧ Below w.heap.size w w') := fun w => by
    refine (split_any (P.flatMap frI) (P.map plI) (lngN P : Int) w (by omega) (by omega) (by omega)).mono ?_
    rintro e w' ⟨r, L2, rfl, O2, hL2, -, b⟩
    rw [Int.toNat_natCast] at hL2 ⊢
    have e2 := hL2 p1
    rw [p3] at e2
    subst e2
    refine ⟨r, by rw [p1, p2]; rfl, O2.row, b⟩
  have TC : Hid (lngN P ≠ 0 → ∀ w, Calls Try.prog 16 #[.string (ba (P.flatMap frI)), .string (ba (P.map plI)), .int .i64 ((lngN P : Int) - 1)] w fun e w' => ∃ f, e = .returned (.tuple #[.slice none 0 0, .agg #[.int .i64 6, .int .i64 f]]) ∧ Below w.heap.size w w') := fun h0 w => by
    refine (split_any (P.flatMap frI) (P.map plI) ((lngN P : Int) - 1) w (by omega) (by omega) (by omega)).mono ?_
    rintro e w' ⟨r, L2, rfl, O2, -, hN, b⟩
    rw [show ((lngN P : Int) - 1).toNat = lngN P - 1 by omega] at hN ⊢
    have e6 := p5 h0
    obtain ⟨-, rfl⟩ := hN (by rw [e6]; decide)
    rw [e6]
    exact ⟨_, rfl, b⟩
  have PC : Hid (∀ w, ItRow w r L → Calls Try.prog 27 #[r] w fun e w' => ∃ v, e = .returned v ∧ ItRow w' v P ∧ Below w.heap.size w w') := fun w o => by
    refine (plain_any r L w o (by omega)).mono ?_
    rintro e w' ⟨v, rfl, O2, b⟩
    rw [hP] at O2
    exact ⟨v, rfl, O2.row, b⟩
  have AC : Hid (∀ w r v, ItRow w r P → ItRow w v P → Calls Try.prog 26 #[r, v] w fun e w' => e = .returned (.bool true) ∧ Below w.heap.size w w') := fun w r v o1 o2 => alike_any r v P w o1 o2 (by omega)
  clear p1 p2 p3 p5 hPb hPf hPm hb ht hn O hP
  generalize lngN P = m at *
  generalize P.flatMap frI = tl at *
  generalize P.map plI = pl at *
  go_enter Try.func7, Try.ntmps7
  go_wp2_with fail
  refine (awake_any w).mono ?_
  rintro e w1 ⟨rfl, b1⟩
  have HO1 : Hid (ItRow w1 r L) := HO0.out.below b1 (Nat.le_refl _)
  go_wp2_with fail
  refine (PC.out _ HO1.out).mono ?_
  rintro e w2 ⟨v, rfl, O2, b2⟩
  have B2 : Hid (Below w.heap.size w w2) := b1.trans (b2.mono b1.size)
  have HV2 : Hid (ItRow w2 v P) := O2
  clear b1 b2 O2 HO1
  go_wp2_with fail
  refine (FC.out _ _ HV2.out).mono ?_
  rintro e w3 ⟨rfl, b3⟩
  have B3 : Hid (Below w.heap.size w w3) := B2.out.trans (b3.mono B2.out.size)
  have HV3 : Hid (ItRow w3 v P) := HV2.out.below b3 (Nat.le_refl _)
  clear b3 HV2
  go_wp2_with fail
  refine (LC.out _ _ HV3.out).mono ?_
  rintro e w4 ⟨rfl, b4⟩
  have B4 : Hid (Below w.heap.size w w4) := B3.out.trans (b4.mono B3.out.size)
  have HV4 : Hid (ItRow w4 v P) := HV3.out.below b4 (Nat.le_refl _)
  clear b4 HV3
  go_wp2_with fail
  refine (SC.out _).mono ?_
  rintro e w5 ⟨r5, rfl, R5, b5⟩
  have B5 : Hid (Below w.heap.size w w5) := B4.out.trans (b5.mono B4.out.size)
  have HV5 : Hid (ItRow w5 v P) := HV4.out.below b5 (Nat.le_refl _)
  have HR5 : Hid (ItRow w5 r5 P) := R5
  clear b5 HV4 R5
  go_wp2_with fail
  refine (AC.out _ _ _ (HR5.out.alloc _) (HV5.out.alloc _)).mono ?_
  rintro e w6 ⟨rfl, b6⟩
  have hz5 : (w5.alloc (.cells #[.int .i64 0, .int .i64 0] 31)).heap.size = w5.heap.size + 1 := World.size_alloc _ _
  have B6 : Hid (Below w.heap.size w w6) := (B5.out.alloc B5.out.size _).trans (b6.mono (by rw [hz5]; have := B5.out.size; omega))
  clear b6 hz5 HV5 HR5
  by_cases h0 : m = 0
  · subst h0
    go_wp2
    go_ret
    exact ⟨rfl, B6.out⟩
  · have TC' : Hid _ := TC.out h0
    clear TC
    go_wp2_with fail
    refine (TC'.out _).mono ?_
    rintro e w7 ⟨f, rfl, b7⟩
    have B7 : Hid (Below w.heap.size w w7) := B6.out.trans (b7.mono B6.out.size)
    clear b7
    go_wp2
    go_ret
    exact ⟨rfl, B7.out.alloc B7.out.size _⟩

theorem back_walkF (r : Value) (L : List It) (w : World) (h : ItRow w r L ∧ L.length ≤ 1048576 ∧ (∀ i ∈ L, i.num < 18446744073709551616 ∧ i.text.length ≤ 1048576) ∧ (L.flatMap frI).length ≤ 33554432) :
    Calls Try.prog 7 #[r] w fun e w' => e = .returned (.bool true) ∧ Below w.heap.size w w' := back_walk r L w h.1 h.2.1 h.2.2.1 h.2.2.2

end Go.Proofs.Ytjlbbnjcdickgaa
