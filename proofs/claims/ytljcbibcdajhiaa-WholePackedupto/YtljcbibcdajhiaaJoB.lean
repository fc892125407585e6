/- strings.Join over a builder; walked. -/
import Derived.Test.YtljcbibcdajhiaaBdA
namespace Go.Proofs.Ytljcbibcdajhiaa
open Go.RowKit Go.Shelf

theorem app_size (a b : ByteArray) : (a ++ b).size = a.size + b.size := ByteArray.size_append
/-- The cells of a row of texts. -/
def SIs (w : World) (x : Option Addr) (n : Nat) (f : Nat → ByteArray) : Prop := ∀ i, i < n → ∃ a, x = some a ∧ w.cell? (a.add i) = some (.string (f i))
theorem add_succ (a : Addr) (k : Nat) : a.add (k + 1) = ⟨a.block, a.off + (k + 1), none⟩ := by unfold Addr.add; rw [if_neg (by omega)]
theorem add_zero' (a : Addr) : a.add 0 = a := by unfold Addr.add; rw [if_pos rfl]
theorem SIs.below {w w' : World} {x : Option Addr} {n B : Nat} {f : Nat → ByteArray} (h : SIs w x n f) (b : Below B w w') (hB : w.heap.size ≤ B) : SIs w' x n f := fun i hi => by
  obtain ⟨a, ha, hc⟩ := h i hi
  refine ⟨a, ha, ?_⟩
  have hl := World.block_lt_of_cell? _ _ hc
  rw [b.cell (p := a.add i) (by omega)]
  exact hc

/-- The first k texts with sep between them. -/
def jnS (f : Nat → ByteArray) (sep : ByteArray) : Nat → ByteArray
  | 0 => ⟨#[]⟩
  | k + 1 => if k = 0 then f 0 else jnS f sep k ++ sep ++ f k
theorem jnS_one (f : Nat → ByteArray) (sep : ByteArray) : jnS f sep 1 = f 0 := rfl
theorem jnS_more (f : Nat → ByteArray) (sep : ByteArray) (k : Nat) : jnS f sep (k + 1 + 1) = jnS f sep (k + 1) ++ sep ++ f (k + 1) := if_neg (by omega)
theorem jnS_size (f : Nat → ByteArray) (sep : ByteArray) (hs : sep.size = 1) : ∀ k, (∀ i, i < k → (f i).size ≤ 1048576) → (jnS f sep k).size ≤ 1048577 * k
  | 0, _ => Nat.le_refl _
  | 1, h => by rw [jnS_one]; have := h 0 (by omega); omega
  | k + 1 + 1, h => by
    have h1 := jnS_size f sep hs (k + 1) (fun i hi => h i (by omega))
    have h2 := h (k + 1) (by omega)
    rw [jnS_more, app_size, app_size]
    omega
/-- The sum of the first k sizes. -/
def szS (f : Nat → ByteArray) : Nat → Nat
  | 0 => 0
  | k + 1 => szS f k + (f k).size
theorem szS_le (f : Nat → ByteArray) : ∀ k, (∀ i, i < k → (f i).size ≤ 1048576) → szS f k ≤ 1048576 * k
  | 0, _ => Nat.le_refl _
  | k + 1, h => by
    have h1 := szS_le f k (fun i hi => h i (by omega))
    have h2 := h k (by omega)
    rw [szS]
    omega

theorem add_one_add (a : Addr) (j : Nat) : (a.add 1).add j = a.add (j + 1) := by
  cases a with
  | mk b o q =>
    by_cases h : j = 0
    · subst h; cases q <;> simp [Addr.add]
    · cases q <;> simp [Addr.add, h] <;> omega

set_option maxRecDepth 100000 in
set_option maxHeartbeats 4000000 in
theorem join_any (x : Option Addr) (n c : Nat) (f : Nat → ByteArray) (sep : ByteArray) (w : World) (hS : SIs w x n f) (hc : n ≤ c) (hn : n ≤ 1048576) (hz : ∀ i, i < n → (f i).size ≤ 1048576) (hsep : sep.size = 1) :
    Calls Try.prog 55 #[.slice x n c, .string sep] w fun e w' => e = .returned (.string (jnS f sep n)) ∧ Below w.heap.size w w' := by
  have HS : Hid (SIs w x n f) := hS
  have HZ : Hid (∀ i, i < n → (f i).size ≤ 1048576) := hz
  clear hS hz
  by_cases h0 : n = 0
  · subst h0
    clear HZ
    go_enter Try.func55, Try.ntmps55
    go_wp2
    go_ret
    exact ⟨rfl, Below.refl _ _⟩
  by_cases h1 : n = 1
  · subst h1
    obtain ⟨a, rfl, c0⟩ := HS.out 0 (by omega)
    have ea : a.add 0 = a := by cases a with | mk b o q => cases q <;> simp [Addr.add]
    have c0' := c0
    rw [ea] at c0'
    clear HZ
    go_enter Try.func55, Try.ntmps55
    go_wp2
    try rw [Exit.noGoto_ret]
    go_ret
    exact ⟨rfl, Below.refl _ _⟩
  have h2 : 2 ≤ n := by omega
  obtain ⟨ad, rfl, ca0⟩ := HS.out 0 (by omega)
  have q1 : ((n : Int) == 0) = false := by rw [beq_eq_false_iff_ne]; omega
  have q2 : ((n : Int) == 1) = false := by rw [beq_eq_false_iff_ne]; omega
  have hq : ¬ (9223372036854775807 : Int) / ((n : Int) - 1) ≤ 1 := by
    have : 2 ≤ (9223372036854775807 : Int) / ((n : Int) - 1) := Int.le_ediv_of_mul_le (by omega) (by omega)
    omega
  have ea : ad.add 0 = ad := by cases ad with | mk b o q => cases q <;> simp [Addr.add]
  have HA0 : Hid (w.cell? ad = some (.string (f 0))) := by rw [ea] at ca0; exact ca0
  clear h0 h1 ca0 ea
  go_enter Try.func55, Try.ntmps55
  go_wp2
  -- @1
  go_loopw [5, 41] (fun v i wr => ∃ k : Nat, k ≤ n ∧ v = .int .i64 ((n : Int) - 1 + (szS f k : Nat)) ∧ i = .int .i64 k ∧ wr = w) (fun _ i _ => n - (intOf i).toNat)
  case atStart => exact ⟨0, Nat.zero_le _, by show _ = Value.int .i64 ((n : Int) - 1 + 0); go_num, rfl, rfl⟩
  case round =>
    obtain ⟨k, hk, rfl, rfl, rfl⟩ := hrel
    have hle := szS_le f k (fun i hi => HZ.out i (by omega))
    by_cases hlt : k < n
    · obtain ⟨a9, ha9, c9⟩ := HS.out k hlt
      obtain rfl : ad = a9 := by injection ha9
      have hz9 := HZ.out k hlt
      have e9 : Hid (szS f (k + 1) = szS f k + (f k).size) := rfl
      generalize szS f k = S at hle e9 ⊢
      generalize hF : f k = F at c9 hz9 e9
      go_wp2
      go_roundw
      case rel => exact ⟨k + 1, by omega, by rw [e9.out]; go_num, by go_num, trivial⟩
      case measure => simp [intOf]; omega
    · obtain rfl : k = n := by omega
      have N0 : (wr.alloc (.cells #[.pointer none, .slice none 0 0] 51)).heap[wr.heap.size]? = some (.cells #[.pointer none, .slice none 0 0] 51 (0, 0)) := heap_alloc_new wr _
      have B0 : Hid (Below wr.heap.size wr (wr.alloc (.cells #[.pointer none, .slice none 0 0] 51))) := (Below.refl _ _).alloc (Nat.le_refl _) _
      have CG := Try.Builder_Grow_fresh wr.heap.size wr.heap.size (k - 1 + szS f k) (wr.alloc (.cells #[.pointer none, .slice none 0 0] 51)) (Nat.le_refl _) N0 (by rw [World.size_alloc]; omega) (by omega)
      have eG : ((k - 1 + szS f k : Nat) : Int) = (k : Int) - 1 + (szS f k : Nat) := by omega
      rw [eG] at CG
      clear N0 eG
      go_wp2_with fail
      -- @2
      refine CG.mono ?_
      clear CG
      rintro e w1 ⟨rfl, D1, b1⟩
      obtain ⟨b, hb⟩ : ∃ b, wr.heap.size = b := ⟨_, rfl⟩
      have HD1 : Bd w1 b ⟨#[]⟩ := by rw [← hb]; exact Or.inr D1
      have HB1 : Hid (Below b wr w1) := by rw [← hb]; exact B0.out.trans b1
      rw [hb]
      have HWB : Hid (wr.heap.size = b) := hb
      clear D1 b1 B0 hb hle
      have hA1 : w1.cell? ad = some (.string (f 0)) := by rw [HB1.out.cell (by rw [← HWB.out]; exact World.block_lt_of_cell? _ _ HA0.out)]; exact HA0.out
      have hz0 := HZ.out 0 (by omega)
      have CW := ws_any b ⟨#[]⟩ (f 0) w1 HD1 (by show 0 + _ ≤ _; omega)
      rw [show (⟨#[]⟩ : ByteArray) ++ f 0 = jnS f sep 1 from by rw [jnS_one]; apply ByteArray.ext; simp] at CW
      have hc1 : 1 ≤ k := by omega
      go_wp2_with fail
      refine CW.mono ?_
      clear CW
      rintro e w2 ⟨rfl, D2, b2⟩
      have HD2 : Hid (Bd w2 b (jnS f sep 1)) := D2
      have HB2 : Hid (Below b wr w2) := HB1.out.trans b2
      clear D2 b2 HD1 HB1 hA1 hz0
      go_wp2
      -- @3
      obtain ⟨wo, hwo⟩ : ∃ wo, wo = wr := ⟨_, rfl⟩
      subst hwo
      go_loopw [65] (fun i wq => ∃ j : Nat, j + 1 ≤ k ∧ i = .int .i64 j ∧ Hid (Bd wq b (jnS f sep (j + 1))) ∧ Hid (Below b wo wq)) (fun i _ => k - (intOf i).toNat)
      case atStart => exact ⟨0, by omega, rfl, HD2, HB2⟩
      case round =>
        obtain ⟨j, hj, rfl, D, B⟩ := hrel
        clear HD2 HB2
        by_cases hlt : j + 1 < k
        · obtain ⟨a9, ha9, c9⟩ := HS.out.below B.out (Nat.le_of_eq HWB.out) (j + 1) hlt
          obtain rfl : ad = a9 := by injection ha9
          have e9 : (⟨ad.block, ad.off + 1 + j, none⟩ : Addr) = ad.add (j + 1) := by unfold Addr.add; rw [if_neg (by omega), Nat.add_assoc, Nat.add_comm 1 j]
          rw [← e9] at c9
          clear e9
          have hz9 := HZ.out (j + 1) hlt
          have hjs := jnS_size f sep hsep (j + 1) (fun i hi => HZ.out i (by omega))
          have hlt' : j < k - 1 := by omega
          have hltI : (j : Int) < (k : Int) - 1 := by omega
          have CW := fun W (d : Bd W b (jnS f sep (j + 1))) => ws_any b (jnS f sep (j + 1)) sep W d (by omega)
          have CV := fun W (d : Bd W b (jnS f sep (j + 1) ++ sep)) => ws_any b (jnS f sep (j + 1) ++ sep) (f (j + 1)) W d (by rw [app_size]; omega)
          simp only [← jnS_more] at CV
          generalize f (j + 1) = F at c9 CV
          go_wp2_with fail
          refine (CW _ D.out).mono ?_
          rintro e w3 ⟨rfl, d3, b3⟩
          have B3 : Hid (Below b wo w3) := B.out.trans b3
          clear CW D B b3
          go_wp2_with fail
          refine (CV _ d3).mono ?_
          rintro e w4 ⟨rfl, d4, b4⟩
          have D4 : Hid (Bd w4 b (jnS f sep (j + 1 + 1))) := d4
          have B4 : Hid (Below b wo w4) := B3.out.trans b4
          clear CV d3 d4 b4 B3
          go_wp2
          go_roundw
          case rel => exact ⟨j + 1, by omega, by go_num, D4, B4⟩
          case measure => simp [intOf]; omega
        · obtain rfl : k = j + 1 := by omega
          have hltI : ¬ (j : Int) < ((j + 1 : Nat) : Int) - 1 := by omega
          have CS := bstr_any b (jnS f sep (j + 1)) wr D.out
          go_wp2_with fail
          refine CS.mono ?_
          rintro e w5 ⟨rfl, b5⟩
          have B5 : Hid (Below b wo w5) := B.out.trans b5
          clear CS b5
          go_wp2
          go_ret
          exact ⟨rfl, by have := B5.out; rw [HWB.out]; exact this⟩
end Go.Proofs.Ytljcbibcdajhiaa
