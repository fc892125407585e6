/- ShaA ShaM ShaS ShaB ShaR ShaT ShaU, gathered (own text of the verifier). -/
import Derived.Test.YtcmdeiohnkbjlaaDoorProg
import Derived.Test.YtcmdeiohnkbjlaaDoorMem
import Derived.Deep.QuietTactic
import Derived.BigQuiet
import Derived.Deep.RegionWith
import Derived.Deep.MidRow
import Derived.Deep.Upon
namespace Go.Proofs.YtcmdeiohnkbjlaaDoor
open Go.RowKit
/-- x turned to the right by n bits. -/
def rot (x : Int) (n : Nat) : Int := x / 2 ^ n + x % 2 ^ n * 2 ^ (32 - n)

theorem neg_mask (n : Nat) (n0 : 1 ≤ n) (n1 : n ≤ 31) : bits .and .u64 (IntKind.u64.wrap (-(n : Int))) 31 = ((32 - n : Nat) : Int) := by
  have : ∀ m : Nat, m < 32 → 1 ≤ m → bits .and .u64 (IntKind.u64.wrap (-(m : Int))) 31 = ((32 - m : Nat) : Int) := by decide +kernel
  exact this n (by omega) n0

theorem ret_i {k : IntKind} {a b : Int} (h : a = b) : Ending.returned (.int k a) = .returned (.int k b) := by rw [h]

theorem pow_pos_int (n : Nat) : (0 : Int) < 2 ^ n := Int.pow_pos (by omega)

theorem rot_split (a n : Nat) (h1 : a < 4294967296) (n1 : n ≤ 31) :
    a * 2 ^ (32 - n) % 4294967296 = a % 2 ^ n * 2 ^ (32 - n) ∧ a / 2 ^ n < 2 ^ (32 - n) ∧ a % 2 ^ n * 2 ^ (32 - n) + 2 ^ (32 - n) ≤ 4294967296 := by
  have hp : 4294967296 = 2 ^ n * 2 ^ (32 - n) := by rw [← Nat.pow_add, show n + (32 - n) = 32 from by omega]
  refine ⟨?_, ?_, ?_⟩
  · rw [hp, Nat.mul_mod_mul_right]
  · rw [Nat.div_lt_iff_lt_mul (Nat.pow_pos (by omega)), Nat.mul_comm, ← hp]; exact h1
  · have h2 : a % 2 ^ n + 1 ≤ 2 ^ n := Nat.mod_lt _ (Nat.pow_pos (by omega))
    have h3 : (a % 2 ^ n + 1) * 2 ^ (32 - n) ≤ 2 ^ n * 2 ^ (32 - n) := Nat.mul_le_mul_right _ h2
    rw [← hp, Nat.add_mul, Nat.one_mul] at h3
    exact h3

theorem rot_nat (a n : Nat) : rot (a : Int) n = ((a / 2 ^ n + a % 2 ^ n * 2 ^ (32 - n) : Nat) : Int) := by
  unfold rot
  simp

theorem join_code (a n : Nat) (h1 : a < 4294967296) (n1 : n ≤ 31) : a % 2 ^ n * 2 ^ (32 - n) ||| a / 2 ^ n = a / 2 ^ n + a % 2 ^ n * 2 ^ (32 - n) := by
  have hs := rot_split a n h1 n1
  rw [nat_join (32 - n) _ _ (Nat.mul_mod_left _ _) hs.2.1, Nat.add_comm]

theorem rot_code (x : Int) (n : Nat) (h0 : 0 ≤ x) (h1 : x < 4294967296) (n1 : n ≤ 31) :
    bits .or .u32 (x * 2 ^ (32 - n) % 4294967296) (x / 2 ^ (32 - (32 - n))) = rot x n := by
  obtain ⟨a, rfl⟩ := Int.eq_ofNat_of_zero_le h0
  have ha : a < 4294967296 := by omega
  have hs := rot_split a n ha n1
  rw [show 32 - (32 - n) = n from by omega, rot_nat, ← join_code a n ha n1]
  have e1 : ((a : Int) * 2 ^ (32 - n) % 4294967296) = ((a % 2 ^ n * 2 ^ (32 - n) : Nat) : Int) := by
    rw [← hs.1]
    simp
  have e2 : ((a : Int) / 2 ^ n) = ((a / 2 ^ n : Nat) : Int) := by simp
  rw [e1, e2]
  have hp := Nat.pow_pos (n := 32 - n) (show 0 < 2 from by omega)
  exact u32_or_nat _ _ (by omega) (Nat.lt_of_le_of_lt (Nat.div_le_self _ _) ha)

theorem rot_ref (x : Int) (n : Nat) (h0 : 0 ≤ x) (h1 : x < 4294967296) (n1 : n ≤ 31) :
    bits .or .u64 (x * 4294967296) x / 2 ^ n % 4294967296 = rot x n := by
  obtain ⟨a, rfl⟩ := Int.eq_ofNat_of_zero_le h0
  have ha : a < 4294967296 := by omega
  have hs := rot_split a n ha n1
  have e1 : bits .or .u64 ((a : Int) * 4294967296) (a : Int) = ((a * 4294967296 + a : Nat) : Int) := by
    rw [show ((a : Int) * 4294967296) = ((a * 4294967296 : Nat) : Int) from by omega, u64_or_nat _ _ (by omega) (by omega), nat_join 32 _ _ (by omega) (by omega)]
  rw [e1, rot_nat]
  have hp : 4294967296 = 2 ^ (32 - n) * 2 ^ n := by rw [← Nat.pow_add, show 32 - n + n = 32 from by omega]
  have e2 : (a * 4294967296 + a) / 2 ^ n = a * 2 ^ (32 - n) + a / 2 ^ n := by
    rw [hp, ← Nat.mul_assoc, Nat.add_comm, Nat.add_mul_div_right _ _ (Nat.pow_pos (by omega)), Nat.add_comm]
  have e3 : (((a * 4294967296 + a : Nat) : Int) / 2 ^ n % 4294967296) = (((a * 4294967296 + a) / 2 ^ n % 4294967296 : Nat) : Int) := by simp
  rw [e3, e2, Nat.add_mod, hs.1]
  have hq := hs.2.1
  have hr := hs.2.2
  generalize a % 2 ^ n * 2 ^ (32 - n) = u at hr ⊢
  generalize a / 2 ^ n = v at hq ⊢
  generalize 2 ^ (32 - n) = t at hq hr
  rw [Nat.mod_eq_of_lt (show v < 4294967296 by omega), Nat.mod_eq_of_lt (show u + v < 4294967296 by omega), Nat.add_comm]

theorem rot_bd (x : Int) (n : Nat) (h : 0 ≤ x ∧ x < 4294967296) (n1 : n ≤ 31) : 0 ≤ rot x n ∧ rot x n < 4294967296 := by
  obtain ⟨a, rfl⟩ := Int.eq_ofNat_of_zero_le h.1
  have hs := rot_split a n (by omega) n1
  rw [rot_nat]
  have hq := hs.2.1
  have hr := hs.2.2
  generalize a % 2 ^ n * 2 ^ (32 - n) = u at hr ⊢
  generalize a / 2 ^ n = v at hq ⊢
  generalize 2 ^ (32 - n) = t at hq hr
  omega

set_option maxRecDepth 10000 in
set_option maxHeartbeats 400000 in
theorem turned_any (x : Int) (n : Nat) (w : World) (h0 : 0 ≤ x) (h1 : x < 4294967296) (n0 : 1 ≤ n) (n1 : n ≤ 31) :
    Calls Tryd.prog 66 #[.int .u32 x, .int .i64 n] w fun e w' => e = .returned (.int .u32 (rot x n)) ∧ w' = w := by
  have hm := neg_mask n n0 n1
  have hk : (((32 - n : Nat) : Int)) = 32 - (n : Int) := by omega
  go_enter Tryd.func66, Tryd.ntmps66
  go_wp2
  go_ret
  exact ⟨ret_i (rot_code x n h0 h1 n1), rfl⟩

/-- Within a word's range. -/
def W32 (x : Int) : Prop := 0 ≤ x ∧ x < 4294967296
/-- Exclusive or, and, not, sum of two words. -/
def xo (a b : Int) : Int := bits .xor .u32 a b
def an (a b : Int) : Int := bits .and .u32 a b
def no (a : Int) : Int := bits .xor .u32 IntKind.u32.max a
def pl (a b : Int) : Int := (a + b) % 4294967296

theorem W32.nat {x : Int} (h : W32 x) : ∃ a : Nat, x = a ∧ a < 4294967296 := by
  obtain ⟨a, rfl⟩ := Int.eq_ofNat_of_zero_le h.1
  exact ⟨a, rfl, by have := h.2; omega⟩
theorem xo_nat (a b : Nat) (ha : a < 4294967296) (hb : b < 4294967296) : xo a b = ((a ^^^ b : Nat) : Int) := u32_xor_nat a b ha hb
theorem an_nat (a b : Nat) (ha : a < 4294967296) (hb : b < 4294967296) : an a b = ((a &&& b : Nat) : Int) := u32_and_nat a b ha hb
theorem no_nat (a : Nat) (ha : a < 4294967296) : no a = ((4294967295 ^^^ a : Nat) : Int) := u32_xor_nat 4294967295 a (by omega) ha
theorem xo_bd {x y : Int} (hx : W32 x) (hy : W32 y) : W32 (xo x y) := by
  obtain ⟨a, rfl, ha⟩ := hx.nat
  obtain ⟨b, rfl, hb⟩ := hy.nat
  rw [xo_nat a b ha hb]
  have := Nat.xor_lt_two_pow (x := a) (y := b) (n := 32) (by omega) (by omega)
  exact ⟨by omega, by omega⟩
theorem an_bd {x y : Int} (hx : W32 x) (hy : W32 y) : W32 (an x y) := by
  obtain ⟨a, rfl, ha⟩ := hx.nat
  obtain ⟨b, rfl, hb⟩ := hy.nat
  rw [an_nat a b ha hb]
  have := Nat.and_le_left (n := a) (m := b)
  exact ⟨by omega, by omega⟩
theorem no_bd {x : Int} (hx : W32 x) : W32 (no x) := by
  obtain ⟨a, rfl, ha⟩ := hx.nat
  rw [no_nat a ha]
  have := Nat.xor_lt_two_pow (x := 4294967295) (y := a) (n := 32) (by omega) (by omega)
  exact ⟨by omega, by omega⟩
theorem pl_bd (x y : Int) : W32 (pl x y) := by unfold pl; exact ⟨by omega, by omega⟩

/-- The words' functions. -/
def hmx (e : Int) : Int := xo (xo (rot e 6) (rot e 11)) (rot e 25)
def lmx (a : Int) : Int := xo (xo (rot a 2) (rot a 13)) (rot a 22)
def cho (e f g : Int) : Int := xo (an e f) (an (no e) g)
def maj (a b c : Int) : Int := xo (xo (an a b) (an a c)) (an b c)

theorem rot_w {x : Int} {n : Nat} (h : W32 x) (n1 : n ≤ 31) : W32 (rot x n) := rot_bd x n h n1
theorem hmx_w {x : Int} (h : W32 x) : W32 (hmx x) := xo_bd (xo_bd (rot_w h (by omega)) (rot_w h (by omega))) (rot_w h (by omega))
theorem lmx_w {x : Int} (h : W32 x) : W32 (lmx x) := xo_bd (xo_bd (rot_w h (by omega)) (rot_w h (by omega))) (rot_w h (by omega))
theorem cho_w {e f g : Int} (he : W32 e) (hf : W32 f) (hg : W32 g) : W32 (cho e f g) := xo_bd (an_bd he hf) (an_bd (no_bd he) hg)
theorem maj_w {a b c : Int} (ha : W32 a) (hb : W32 b) (hc : W32 c) : W32 (maj a b c) := xo_bd (xo_bd (an_bd ha hb) (an_bd ha hc)) (an_bd hb hc)

theorem or_choose (e f g : Int) (he : W32 e) (hf : W32 f) (hg : W32 g) : bits .or .u32 (an e f) (an (no e) g) = cho e f g := by
  obtain ⟨a, rfl, ha⟩ := he.nat
  obtain ⟨b, rfl, hb⟩ := hf.nat
  obtain ⟨c, rfl, hc⟩ := hg.nat
  have hn := (no_bd (x := (a : Int)) ⟨by omega, by omega⟩).2
  rw [no_nat a ha] at hn
  unfold cho
  rw [no_nat a ha, an_nat a b ha hb, an_nat _ c (by omega) hc]
  have l1 := Nat.and_le_right (n := a) (m := b)
  have l2 := Nat.and_le_right (n := 4294967295 ^^^ a) (m := c)
  rw [xo_nat _ _ (by omega) (by omega), u32_or_nat _ _ (by omega) (by omega)]
  congr 1
  apply Nat.eq_of_testBit_eq
  intro i
  simp only [Nat.testBit_or, Nat.testBit_xor, Nat.testBit_and]
  by_cases hi : i < 32
  · have e : Nat.testBit 4294967295 i = true := by
      have := Nat.testBit_two_pow_sub_one 32 i
      simpa [hi] using this
    rw [e]
    cases a.testBit i <;> cases b.testBit i <;> cases c.testBit i <;> rfl
  · have h2 : 4294967296 ≤ 2 ^ i := by
      have := Nat.pow_le_pow_right (n := 2) (by omega) (show 32 ≤ i by omega)
      exact this
    rw [Nat.testBit_lt_two_pow (show a < 2 ^ i by omega), Nat.testBit_lt_two_pow (show c < 2 ^ i by omega)]
    simp

theorem or_most (a b c : Int) (ha : W32 a) (hb : W32 b) (hc : W32 c) : bits .or .u32 (bits .or .u32 (an a b) (an a c)) (an b c) = maj a b c := by
  obtain ⟨x, rfl, hx⟩ := ha.nat
  obtain ⟨y, rfl, hy⟩ := hb.nat
  obtain ⟨z, rfl, hz⟩ := hc.nat
  unfold maj
  rw [an_nat x y hx hy, an_nat x z hx hz, an_nat y z hy hz]
  have l1 := Nat.and_le_right (n := x) (m := y)
  have l2 := Nat.and_le_right (n := x) (m := z)
  have l3 := Nat.and_le_right (n := y) (m := z)
  have l4 := Nat.xor_lt_two_pow (x := x &&& y) (y := x &&& z) (n := 32) (by omega) (by omega)
  have l5 := Nat.or_lt_two_pow (x := x &&& y) (y := x &&& z) (n := 32) (by omega) (by omega)
  rw [xo_nat _ _ (by omega) (by omega), xo_nat _ _ (by omega) (by omega), u32_or_nat _ _ (by omega) (by omega), u32_or_nat _ _ (by omega) (by omega)]
  congr 1
  apply Nat.eq_of_testBit_eq
  intro i
  simp only [Nat.testBit_or, Nat.testBit_xor, Nat.testBit_and]
  cases x.testBit i <;> cases y.testBit i <;> cases z.testBit i <;> rfl

set_option maxRecDepth 10000 in
set_option maxHeartbeats 400000 in
theorem choice_any (x y z : Int) (w : World) :
    Calls Tryd.prog 56 #[.int .u32 x, .int .u32 y, .int .u32 z] w fun e w' => e = .returned (.int .u32 (cho x y z)) ∧ w' = w := by
  go_enter Tryd.func56, Tryd.ntmps56
  go_wp2
  go_ret
  exact ⟨rfl, rfl⟩

set_option maxRecDepth 10000 in
set_option maxHeartbeats 400000 in
theorem majority_any (x y z : Int) (w : World) :
    Calls Tryd.prog 58 #[.int .u32 x, .int .u32 y, .int .u32 z] w fun e w' => e = .returned (.int .u32 (maj x y z)) ∧ w' = w := by
  go_enter Tryd.func58, Tryd.ntmps58
  go_wp2
  go_ret
  exact ⟨rfl, rfl⟩

set_option maxRecDepth 10000 in
set_option maxHeartbeats 400000 in
theorem highMix_any (x : Int) (w : World) (h0 : 0 ≤ x) (h1 : x < 4294967296) :
    Calls Tryd.prog 55 #[.int .u32 x] w fun e w' => e = .returned (.int .u32 (hmx x)) ∧ w' = w := by
  go_enter Tryd.func55, Tryd.ntmps55
  go_wp2_with fail
  refine (turned_any x 6 _ h0 h1 (by omega) (by omega)).mono ?_
  rintro e w1 ⟨rfl, rfl⟩
  go_wp2_with fail
  refine (turned_any x 11 _ h0 h1 (by omega) (by omega)).mono ?_
  rintro e w2 ⟨rfl, rfl⟩
  go_wp2_with fail
  refine (turned_any x 25 _ h0 h1 (by omega) (by omega)).mono ?_
  rintro e w3 ⟨rfl, rfl⟩
  go_wp2
  go_ret
  exact ⟨rfl, rfl⟩

set_option maxRecDepth 10000 in
set_option maxHeartbeats 400000 in
theorem lowMix_any (x : Int) (w : World) (h0 : 0 ≤ x) (h1 : x < 4294967296) :
    Calls Tryd.prog 57 #[.int .u32 x] w fun e w' => e = .returned (.int .u32 (lmx x)) ∧ w' = w := by
  go_enter Tryd.func57, Tryd.ntmps57
  go_wp2_with fail
  refine (turned_any x 2 _ h0 h1 (by omega) (by omega)).mono ?_
  rintro e w1 ⟨rfl, rfl⟩
  go_wp2_with fail
  refine (turned_any x 13 _ h0 h1 (by omega) (by omega)).mono ?_
  rintro e w2 ⟨rfl, rfl⟩
  go_wp2_with fail
  refine (turned_any x 22 _ h0 h1 (by omega) (by omega)).mono ?_
  rintro e w3 ⟨rfl, rfl⟩
  go_wp2
  go_ret
  exact ⟨rfl, rfl⟩
#print axioms lowMix_any
#print axioms or_most
end Go.Proofs.YtcmdeiohnkbjlaaDoor
namespace Go.Proofs.YtcmdeiohnkbjlaaDoor
open Go.RowKit

/-- The cells of an array of n numbers. -/
def cs (k : IntKind) (n : Nat) (f : Nat → Int) : Array Value := ((List.range n).map fun i => Value.int k (f i)).toArray
theorem cs_size (k : IntKind) (n : Nat) (f : Nat → Int) : (cs k n f).size = n := by simp [cs]
theorem cs_get (k : IntKind) (n : Nat) (f : Nat → Int) (j : Nat) (h : j < n) : (cs k n f)[j]? = some (.int k (f j)) := by simp [cs, h]
theorem cs_congr (k : IntKind) (n : Nat) {f f' : Nat → Int} (h : ∀ j, j < n → f j = f' j) : cs k n f = cs k n f' := by
  unfold cs
  congr 1
  exact List.map_congr_left (fun j hj => by rw [h j (List.mem_range.1 hj)])
theorem cs_all (k : IntKind) (n : Nat) (f : Nat → Int) : (cs k n f).all (·.oneCell') = true := by
  rw [Array.all_eq_true_iff_forall_mem]
  intro v hv
  simp only [cs, List.mem_toArray, List.mem_map] at hv
  obtain ⟨i, _, rfl⟩ := hv
  rfl

theorem Row.box {k : IntKind} {w : World} {e : TypeId} {n : Nat} {f : Nat → Int} : Row k (w.alloc (.cells (cs k n f) e)) w.heap.size n f :=
  Row.arr (fun j hj => cs_get k n f j hj)

theorem Row.range {k : IntKind} {w : World} {g n : Nat} {f : Nat → Int} (h : Row k w g n f) : w.rangeAt g 0 (cs k n f).toList := fun j v hv => by
  have hj : j < n := by
    have := (List.getElem?_eq_some_iff.1 hv).1
    simpa [cs_size] using this
  rw [Array.getElem?_toList, cs_get k n f j hj] at hv
  rw [Nat.zero_add, h.cell j hj]
  exact hv

theorem Row.thereAll {k : IntKind} {w : World} {g n : Nat} {f : Nat → Int} (h : Row k w g n f) : w.there g 0 n := fun j hj => by
  rw [Nat.zero_add, h.cell j hj, h.free j hj]
  exact ⟨rfl, rfl⟩

/-- A whole array read. -/
theorem run_loadAt_row {P : Program} {k : IntKind} {w : World} {g n e : Nat} {f : Nat → Int} (ty : TypeId) (h : Row k w g n f) (hu : P.underlying ty = some (.array n e)) (hi : (P.info? ty).map (·.size) = some n) :
    (Instr.loadAt ty (.pointer (some ⟨g, 0, none⟩))).run P w = .ok (.agg (cs k n f)) w := by
  have := run_loadAt_mid (P := P) w g 0 ty (cs k n f).toList (.array n e) h.range hu rfl (by rw [hi]; simp [cs_size])
  simpa using this

theorem run_loadVar_row' {P : Program} {k : IntKind} {w : World} {g n e : Nat} {f : Nat → Int} (ty : TypeId) (h : Row k w g n f) (hu : P.underlying ty = some (.array n e)) (hi : (P.info? ty).map (·.size) = some n) :
    (loadVar ty ⟨g, 0, none⟩).run P w = .ok (.agg (cs k n f)) w := by
  have := run_loadVar_mid (P := P) w g 0 ty (cs k n f).toList (.array n e) h.range hu rfl (by rw [hi]; simp [cs_size])
  simpa using this

/-- The world behind a whole array's store. -/
def put (w : World) (g : Nat) (k : IntKind) (n : Nat) (f : Nat → Int) : World := w.setCells g 0 (cs k n f).toList

theorem run_storeAt_row {P : Program} {k : IntKind} {w : World} {g n : Nat} {f f0 : Nat → Int} (ty : TypeId) (h : Row k w g n f0) (hi : (P.info? ty).map (·.size) = some n) :
    (Instr.storeAt ty (.pointer (some ⟨g, 0, none⟩)) (.agg (cs k n f))).run P w = .ok () (put w g k n f) :=
  run_storeAt_mid (P := P) w g 0 ty (cs k n f) (by rw [cs_size]; exact h.thereAll) (by rw [cs_size]; exact hi) (cs_all k n f)

theorem put_row {k : IntKind} {w : World} {g n : Nat} {f f0 : Nat → Int} (h : Row k w g n f0) : Row k (put w g k n f) g n f :=
  ⟨fun j hj => by
    have := World.rangeAt_setCells_same w g 0 (cs k n f).toList (by simpa [cs_size] using h.thereAll) j (.int k (f j)) (by rw [Array.getElem?_toList, cs_get k n f j hj])
    rw [Nat.zero_add] at this
    exact this,
   fun j hj => by unfold put; rw [World.frozen?_setCells]; exact h.free j hj⟩

theorem put_heap (w : World) (g : Nat) (k : IntKind) (n : Nat) (f : Nat → Int) (i : Nat) (hi : i < w.heap.size) (hne : i ≠ g) : (put w g k n f).heap[i]? = w.heap[i]? :=
  World.heap_setCells_other w g 0 _ hi hne

theorem setCells_size (g : Nat) : ∀ (vs : List Value) (o : Nat) (w : World), (w.setCells g o vs).heap.size = w.heap.size
  | [], _, _ => rfl
  | v :: vs, o, w => by
    have h := setCells_size g vs (o + 1) (w.setCell ⟨g, o, none⟩ v)
    rw [World.size_setCell] at h
    exact h
theorem put_size (w : World) (g : Nat) (k : IntKind) (n : Nat) (f : Nat → Int) : (put w g k n f).heap.size = w.heap.size := setCells_size _ _ _ _

theorem put_other {k k' : IntKind} {w : World} {g g' n m : Nat} {f f' : Nat → Int} (h : Row k w g n f) (hg : g < w.heap.size) (hne : g ≠ g') : Row k (put w g' k' m f') g n f :=
  h.same (put_heap w g' k' m f' g hg hne)

theorem setCells_below (g : Nat) {B : Nat} (hg : B ≤ g) : ∀ (vs : List Value) (o : Nat) (w w0 : World), Below B w0 w → Below B w0 (w.setCells g o vs)
  | [], _, _, _, h => h
  | v :: vs, o, _, w0, h => setCells_below g hg vs (o + 1) _ w0 (h.setCell (p := ⟨g, o, none⟩) hg v)
theorem put_below {B g : Nat} {k : IntKind} {n : Nat} {f : Nat → Int} {w w0 : World} (h : Below B w0 w) (hg : B ≤ g) : Below B w0 (put w g k n f) := setCells_below g hg _ _ _ _ h
/-- A whole array read, as the walk meets it. -/
theorem wpList_load_arr {P : Program} {ops : Array Oper} {rest : List Oper} {o : Oper} {a : Act} {w : World} {Q : Exit → Act → World → Prop} {k : IntKind} {n e : Nat} {f : Nat → Int} (hgd : o.guard = none) (ty : TypeId) (x : Operand) (ho : o.op = .load ty x)
    (g : Nat) (hx : a.eval x = .pointer (some ⟨g, 0, none⟩)) (h : Row k w g n f) (hu : P.underlying ty = some (.array n e)) (hi : (P.info? ty).map (·.size) = some n)
    (hK : wpList P ops Q rest (a.put o.dst (.agg (cs k n f))) w) : wpList P ops Q (o :: rest) a w :=
  wpList_load_mid hgd ty x ho g 0 hx (cs k n f).toList (.array n e) h.range hu rfl (by rw [hi]; simp [cs_size]) (by simpa using hK)

theorem wpList_store_arr {P : Program} {ops : Array Oper} {rest : List Oper} {o : Oper} {a : Act} {w : World} {Q : Exit → Act → World → Prop} {k : IntKind} {n : Nat} {f f0 : Nat → Int} (hgd : o.guard = none) (ty : TypeId) (x y : Operand) (ho : o.op = .store ty x y)
    (g : Nat) (hx : a.eval x = .pointer (some ⟨g, 0, none⟩)) (hy : a.eval y = .agg (cs k n f)) (h : Row k w g n f0) (hi : (P.info? ty).map (·.size) = some n) (hdst : o.dst = none)
    (hK : wpList P ops Q rest a (put w g k n f)) : wpList P ops Q (o :: rest) a w :=
  wpList_store_mid hgd ty x y ho g 0 (cs k n f) hx hy (by rw [cs_size]; exact h.thereAll) (by rw [cs_size]; exact hi) (cs_all k n f) (by rw [hdst]; exact hK)

/-- W' is w but for what block g holds. -/
structure Upd (w w' : World) (g : Nat) : Prop where
  os : w'.os = w.os
  tape : w'.tape = w.tape
  output : w'.output = w.output
  size : w'.heap.size = w.heap.size
  block : ∀ i, i < w.heap.size → i ≠ g → w'.heap[i]? = w.heap[i]?
theorem Row.upd {k : IntKind} {w w' : World} {g g' n : Nat} {f : Nat → Int} (h : Row k w g n f) (u : Upd w w' g') (hg : g < w.heap.size) (hne : g ≠ g') : Row k w' g n f := h.same (u.block g hg hne)
theorem Upd.below {B g : Nat} {w w' w0 : World} (u : Upd w w' g) (h : Below B w0 w) (hg : B ≤ g) (hB : B ≤ w.heap.size) : Below B w0 w' :=
  ⟨u.os.trans h.os, u.tape.trans h.tape, u.output.trans h.output, by rw [u.size]; exact h.size, fun i hi => (u.block i (by omega) (by omega)).trans (h.block i hi)⟩
theorem put_upd (w : World) (g : Nat) (k : IntKind) (n : Nat) (f : Nat → Int) : Upd w (put w g k n f) g := by
  have b : Below 0 w (put w g k n f) := put_below (Below.refl _ _) (Nat.zero_le _)
  exact ⟨b.os, b.tape, b.output, put_size _ _ _ _ _, fun i hi hne => put_heap w g k n f i hi hne⟩

/-- A whole array stored: the walk goes on in whatever world has it so. -/
theorem wpList_store_any {P : Program} {ops : Array Oper} {rest : List Oper} {o : Oper} {a : Act} {w : World} {Q : Exit → Act → World → Prop} {k : IntKind} {n : Nat} {f f0 : Nat → Int} (hgd : o.guard = none) (ty : TypeId) (x y : Operand) (ho : o.op = .store ty x y)
    (g : Nat) (hx : a.eval x = .pointer (some ⟨g, 0, none⟩)) (hy : a.eval y = .agg (cs k n f)) (h : Row k w g n f0) (hi : (P.info? ty).map (·.size) = some n) (hdst : o.dst = none)
    (hK : ∀ W, Row k W g n f → Upd w W g → wpList P ops Q rest a W) : wpList P ops Q (o :: rest) a w :=
  wpList_store_arr hgd ty x y ho g hx hy h hi hdst (hK _ (put_row h) (put_upd w g k n f))

/-- Eight numbers. -/
def vec8 (x0 x1 x2 x3 x4 x5 x6 x7 : Int) : Nat → Int
  | 0 => x0
  | 1 => x1
  | 2 => x2
  | 3 => x3
  | 4 => x4
  | 5 => x5
  | 6 => x6
  | 7 => x7
  | _ => 0
theorem vec8_of (f : Nat → Int) (j : Nat) (h : j < 8) : vec8 (f 0) (f 1) (f 2) (f 3) (f 4) (f 5) (f 6) (f 7) j = f j := by
  rcases (show j = 0 ∨ j = 1 ∨ j = 2 ∨ j = 3 ∨ j = 4 ∨ j = 5 ∨ j = 6 ∨ j = 7 from by omega) with rfl | rfl | rfl | rfl | rfl | rfl | rfl | rfl <;> rfl
theorem row8 {w : World} {g : Nat} {f0 : Nat → Int} (h : Row .u32 w g 8 f0) (x0 x1 x2 x3 x4 x5 x6 x7 : Int) :
    Row .u32 ((((((((w.setCell ⟨g, 0, none⟩ (.int .u32 x0)).setCell ⟨g, 1, none⟩ (.int .u32 x1)).setCell ⟨g, 2, none⟩ (.int .u32 x2)).setCell ⟨g, 3, none⟩ (.int .u32 x3)).setCell ⟨g, 4, none⟩ (.int .u32 x4)).setCell ⟨g, 5, none⟩ (.int .u32 x5)).setCell ⟨g, 6, none⟩ (.int .u32 x6)).setCell ⟨g, 7, none⟩ (.int .u32 x7)) g 8 (vec8 x0 x1 x2 x3 x4 x5 x6 x7) :=
  ((((((((h.set 0 x0 (by omega)).set 1 x1 (by omega)).set 2 x2 (by omega)).set 3 x3 (by omega)).set 4 x4 (by omega)).set 5 x5 (by omega)).set 6 x6 (by omega)).set 7 x7 (by omega)).congr (fun j hj => by
    rcases (show j = 0 ∨ j = 1 ∨ j = 2 ∨ j = 3 ∨ j = 4 ∨ j = 5 ∨ j = 6 ∨ j = 7 from by omega) with rfl | rfl | rfl | rfl | rfl | rfl | rfl | rfl <;> rfl)
theorem bel8 {w0 w : World} {B g : Nat} (h : Below B w0 w) (hg : B ≤ g) (x0 x1 x2 x3 x4 x5 x6 x7 : Value) :
    Below B w0 ((((((((w.setCell ⟨g, 0, none⟩ x0).setCell ⟨g, 1, none⟩ x1).setCell ⟨g, 2, none⟩ x2).setCell ⟨g, 3, none⟩ x3).setCell ⟨g, 4, none⟩ x4).setCell ⟨g, 5, none⟩ x5).setCell ⟨g, 6, none⟩ x6).setCell ⟨g, 7, none⟩ x7) :=
  (((((((h.setCell hg _).setCell hg _).setCell hg _).setCell hg _).setCell hg _).setCell hg _).setCell hg _).setCell hg _

theorem results_arr {P : Program} {k : IntKind} {n e g : Nat} {f : Nat → Int} {fn : Func} {p : Tmp} {ty : TypeId} (hr : fn.results = #[.cell p ty]) (tmps : Array Value) (w : World)
    (hp : tmps.getD p undef = .pointer (some ⟨g, 0, none⟩)) (h : Row k w g n f) (hu : P.underlying ty = some (.array n e)) (hi : (P.info? ty).map (·.size) = some n) :
    (results fn tmps).run P w = .ok (.agg (cs k n f)) w := by
  have hl := run_loadVar_row' ty h hu hi
  have hp' : tmps[p]?.getD undef = .pointer (some ⟨g, 0, none⟩) := by simpa using hp
  simp [results, hr, hp', asAddr, hl]
#print axioms put_below
end Go.Proofs.YtcmdeiohnkbjlaaDoor
namespace Go.Proofs.YtcmdeiohnkbjlaaDoor
open Go.RowKit
theorem Tryd.sz74 : (Tryd.prog.info? 74).map (·.size) = some 8 := by kernel_rfl
theorem Tryd.sz78 : (Tryd.prog.info? 78).map (·.size) = some 64 := by kernel_rfl
theorem Tryd.sz114 : (Tryd.prog.info? 114).map (·.size) = some 64 := by kernel_rfl

/-- Word k of a block, the first byte highest. -/
def wd (b : Nat → Int) (k : Nat) : Int := b (4 * k) * 16777216 + b (4 * k + 1) * 65536 + b (4 * k + 2) * 256 + b (4 * k + 3)
def s0 (x : Int) : Int := xo (xo (rot x 7) (rot x 18)) (x / 8)
def s1 (x : Int) : Int := xo (xo (rot x 17) (rot x 19)) (x / 1024)
/-- The word that comes to place k, the places before it filled. -/
def nxt (b f : Nat → Int) (k : Nat) : Int := if k < 16 then wd b k else pl (pl (pl (f (k - 16)) (s0 (f (k - 15)))) (f (k - 7))) (s1 (f (k - 2)))
/-- The schedule while k words are filled. -/
def sch (b : Nat → Int) : Nat → Nat → Int
  | 0, _ => 0
  | k + 1, j => if j = k then nxt b (sch b k) k else sch b k j

theorem start3 (w : World) (b : Nat → Int) (e1 e2 e3 : TypeId) (A2 A3 : Array Value) (h2 : A2 = Array.replicate 64 (.int .u32 0)) (h3 : A3 = Array.replicate 64 (.int .u32 0)) :
    Row .u8 (((w.alloc (.cells (cs .u8 64 b) e1)).alloc (.cells A2 e2)).alloc (.cells A3 e3)) w.heap.size 64 b ∧
    Row .u32 (((w.alloc (.cells (cs .u8 64 b) e1)).alloc (.cells A2 e2)).alloc (.cells A3 e3)) (w.heap.size + 1) 64 (fun _ => 0) ∧
    Row .u32 (((w.alloc (.cells (cs .u8 64 b) e1)).alloc (.cells A2 e2)).alloc (.cells A3 e3)) (w.heap.size + 1 + 1) 64 (fun _ => 0) ∧
    Below w.heap.size w (((w.alloc (.cells (cs .u8 64 b) e1)).alloc (.cells A2 e2)).alloc (.cells A3 e3)) ∧ w.heap.size + 1 + 1 < (((w.alloc (.cells (cs .u8 64 b) e1)).alloc (.cells A2 e2)).alloc (.cells A3 e3)).heap.size := by
  have z1 : (w.alloc (.cells (cs .u8 64 b) e1)).heap.size = w.heap.size + 1 := World.size_alloc _ _
  have r1 : Row .u8 (w.alloc (.cells (cs .u8 64 b) e1)) w.heap.size 64 b := Row.box
  have b1 : Below w.heap.size w (w.alloc (.cells (cs .u8 64 b) e1)) := (Below.refl _ _).alloc (Nat.le_refl _) _
  generalize w.alloc (.cells (cs .u8 64 b) e1) = w1 at z1 r1 b1 ⊢
  have z2 : (w1.alloc (.cells A2 e2)).heap.size = w1.heap.size + 1 := World.size_alloc _ _
  have r2 : Row .u32 (w1.alloc (.cells A2 e2)) w1.heap.size 64 (fun _ => 0) := Row.rep h2
  have q1 := r1.alloc (by omega) (.cells A2 e2)
  have b2 := b1.alloc (by omega) (.cells A2 e2)
  rw [z1] at r2 z2
  generalize w1.alloc (.cells A2 e2) = w2 at z2 r2 q1 b2 ⊢
  have z3 : (w2.alloc (.cells A3 e3)).heap.size = w2.heap.size + 1 := World.size_alloc _ _
  have r3 : Row .u32 (w2.alloc (.cells A3 e3)) w2.heap.size 64 (fun _ => 0) := Row.rep h3
  rw [z2] at r3 z3
  exact ⟨q1.alloc (by omega) _, r2.alloc (by omega) _, r3, b2.alloc (by omega) _, by omega⟩

theorem or4 (a b c d : Int) (ha : 0 ≤ a ∧ a < 256) (hb : 0 ≤ b ∧ b < 256) (hc : 0 ≤ c ∧ c < 256) (hd : 0 ≤ d ∧ d < 256) :
    bits .or .u32 (bits .or .u32 (bits .or .u32 (a * 16777216) (b * 65536)) (c * 256)) d = a * 16777216 + b * 65536 + c * 256 + d := by
  have e : ∀ (i x y : Nat), x % 2 ^ i = 0 → y < 2 ^ i → x < 4294967296 → y < 4294967296 → bits .or .u32 (x : Int) (y : Int) = ((x + y : Nat) : Int) := fun i x y h1 h2 h3 h4 => by
    rw [u32_or_nat x y h3 h4, nat_join i x y h1 h2]
  obtain ⟨a, rfl⟩ := Int.eq_ofNat_of_zero_le ha.1
  obtain ⟨b, rfl⟩ := Int.eq_ofNat_of_zero_le hb.1
  obtain ⟨c, rfl⟩ := Int.eq_ofNat_of_zero_le hc.1
  obtain ⟨d, rfl⟩ := Int.eq_ofNat_of_zero_le hd.1
  rw [show ((a : Int) * 16777216) = ((a * 16777216 : Nat) : Int) from by omega, show ((b : Int) * 65536) = ((b * 65536 : Nat) : Int) from by omega, show ((c : Int) * 256) = ((c * 256 : Nat) : Int) from by omega]
  rw [e 24 _ _ (by omega) (by omega) (by omega) (by omega), e 16 _ _ (by omega) (by omega) (by omega) (by omega), e 8 _ _ (by omega) (by omega) (by omega) (by omega)]
  omega

theorem sch_word (b : Nat → Int) (k j : Nat) (h : k < 16) : (if j = k then b (4 * k) * 16777216 + b (4 * k + 1) * 65536 + b (4 * k + 2) * 256 + b (4 * k + 3) else sch b k j) = sch b (k + 1) j := by
  rw [sch]
  by_cases e : j = k
  · rw [if_pos e, if_pos e]; unfold nxt; rw [if_pos h]; rfl
  · rw [if_neg e, if_neg e]

theorem sch_next (b : Nat → Int) (k j : Nat) (v : Int) (h : v = nxt b (sch b k) k) : (if j = k then v else sch b k j) = sch b (k + 1) j := by
  rw [sch, h]

theorem pl4 (a b c d : Int) : (a + b + c + d) % 4294967296 = pl (pl (pl a b) c) d := by unfold pl; omega

theorem sch_w (b : Nat → Int) (hb : ∀ j, 0 ≤ b j ∧ b j < 256) (k j : Nat) : W32 (sch b k j) := by
  induction k with
  | zero => exact ⟨by simp [sch], by simp [sch]⟩
  | succ k ih =>
    rw [sch]
    split
    · unfold nxt
      split
      · have h0 := hb (4 * k)
        have h1 := hb (4 * k + 1)
        have h2 := hb (4 * k + 2)
        have h3 := hb (4 * k + 3)
        unfold wd
        exact ⟨by omega, by omega⟩
      · exact pl_bd _ _
    · exact ih

theorem turn7 (x : Int) (w : World) (h0 : 0 ≤ x) (h1 : x < 4294967296) : Calls Tryd.prog 66 #[.int .u32 x, .int .i64 7] w fun e w' => e = .returned (.int .u32 (rot x 7)) ∧ w' = w := turned_any x 7 w h0 h1 (by omega) (by omega)
theorem turn17 (x : Int) (w : World) (h0 : 0 ≤ x) (h1 : x < 4294967296) : Calls Tryd.prog 66 #[.int .u32 x, .int .i64 17] w fun e w' => e = .returned (.int .u32 (rot x 17)) ∧ w' = w := turned_any x 17 w h0 h1 (by omega) (by omega)
theorem turn18 (x : Int) (w : World) (h0 : 0 ≤ x) (h1 : x < 4294967296) : Calls Tryd.prog 66 #[.int .u32 x, .int .i64 18] w fun e w' => e = .returned (.int .u32 (rot x 18)) ∧ w' = w := turned_any x 18 w h0 h1 (by omega) (by omega)
theorem turn19 (x : Int) (w : World) (h0 : 0 ≤ x) (h1 : x < 4294967296) : Calls Tryd.prog 66 #[.int .u32 x, .int .i64 19] w fun e w' => e = .returned (.int .u32 (rot x 19)) ∧ w' = w := turned_any x 19 w h0 h1 (by omega) (by omega)

set_option maxRecDepth 10000 in
set_option maxHeartbeats 4000000 in
theorem schedule_any (b : Nat → Int) (w : World) (hb : ∀ j, 0 ≤ b j ∧ b j < 256) :
    Calls Tryd.prog 54 #[.agg (cs .u8 64 b)] w fun e w' => e = .returned (.agg (cs .u32 64 (sch b 64))) ∧ Below w.heap.size w w' := by
  go_enter Tryd.func54, Tryd.ntmps54
  go_wp2
  go_loopw [8] (fun i wr => ∃ k : Nat, k ≤ 16 ∧ i = .int .i64 k ∧ Row .u8 wr w.heap.size 64 b ∧ Row .u32 wr (w.heap.size + 1) 64 (fun _ => 0) ∧ Row .u32 wr (w.heap.size + 1 + 1) 64 (sch b k) ∧ Below w.heap.size w wr ∧ w.heap.size + 1 + 1 < wr.heap.size) (fun i _ => 16 - (intOf i).toNat)
  case atStart =>
    obtain ⟨h1, h2, h3, h4, h5⟩ := start3 w b 78 114 114 _ _ rfl rfl
    exact ⟨0, by omega, rfl, h1, h2, h3.congr (fun j _ => rfl), h4, h5⟩
  case round =>
    obtain ⟨k, hk, rfl, RB, RZ, RS, B, hz⟩ := hrel
    by_cases hlt : k < 16
    · have c0 := RB.cell (4 * k) (by omega)
      have c1 := RB.cell (4 * k + 1) (by omega)
      have c2 := RB.cell (4 * k + 2) (by omega)
      have c3 := RB.cell (4 * k + 3) (by omega)
      have d0 := RS.cell k (by omega)
      have f0 := RS.free k (by omega)
      have b0 := hb (4 * k)
      have b1 := hb (4 * k + 1)
      have b2 := hb (4 * k + 2)
      have b3 := hb (4 * k + 3)
      have HB : Hid (∀ j, 0 ≤ b j ∧ b j < 256) := hb
      clear hb
      go_wp2
      go_region
      all_goals go_wp2
      all_goals
        go_roundw
        case rel =>
          rw [or4 _ _ _ _ b0 b1 b2 b3]
          refine ⟨k + 1, by omega, by go_num, (RB.other _ _ (show w.heap.size ≠ w.heap.size + 1 + 1 by omega)).drew, (RZ.other _ _ (show w.heap.size + 1 ≠ w.heap.size + 1 + 1 by omega)).drew, ((RS.set k _ (by omega)).congr (fun j _ => ?_)).drew, (B.setCell (show w.heap.size ≤ w.heap.size + 1 + 1 by omega) _).drew, by simp; omega⟩
          exact sch_word b k j hlt
        case measure => simp [intOf]; omega
    · obtain rfl : k = 16 := by omega
      have HB : Hid (∀ j, 0 ≤ b j ∧ b j < 256) := hb
      clear hb
      go_wp2
      go_loopw [5] (fun i wr => ∃ k : Nat, 16 ≤ k ∧ k ≤ 64 ∧ i = .int .i64 k ∧ Row .u32 wr (w.heap.size + 1) 64 (fun _ => 0) ∧ Row .u32 wr (w.heap.size + 1 + 1) 64 (sch b k) ∧ Below w.heap.size w wr ∧ w.heap.size + 1 + 1 < wr.heap.size) (fun i _ => 64 - (intOf i).toNat)
      case atStart => exact ⟨16, by omega, by omega, rfl, RZ, RS, B, hz⟩
      case round =>
        obtain ⟨k, hk0, hk, rfl, RZ, RS, B, hz⟩ := hrel
        by_cases hlt : k < 64
        · have c2 := RS.cell (k - 2) (by omega)
          have c7 := RS.cell (k - 7) (by omega)
          have c15 := RS.cell (k - 15) (by omega)
          have c16 := RS.cell (k - 16) (by omega)
          have c0 := RS.cell k (by omega)
          have f0 := RS.free k (by omega)
          have b2 := sch_w b HB.out k (k - 2)
          have b15 := sch_w b HB.out k (k - 15)
          have hst : Hid (pl (pl (pl (sch b k (k - 16)) (s0 (sch b k (k - 15)))) (sch b k (k - 7))) (s1 (sch b k (k - 2))) = nxt b (sch b k) k) := by unfold Hid nxt; rw [if_neg (by omega)]
          generalize sch b k (k - 2) = x2 at c2 b2 hst
          generalize sch b k (k - 7) = x7 at c7 hst
          generalize sch b k (k - 15) = x15 at c15 b15 hst
          generalize sch b k (k - 16) = x16 at c16 hst
          have m2 : (2 : Int) ≤ (k : Int) := by omega
          have m3 : (k : Int) < 66 := by omega
          have i2 : (0 : Int) ≤ k - 2 ∧ (k : Int) - 2 < 64 := by omega
          have i7 : (0 : Int) ≤ k - 7 ∧ (k : Int) - 7 < 64 := by omega
          have i15 : (0 : Int) ≤ k - 15 ∧ (k : Int) - 15 < 64 := by omega
          have i16 : (0 : Int) ≤ k - 16 ∧ (k : Int) - 16 < 64 := by omega
          have l2 := b2.1
          have u2 := b2.2
          have l15 := b15.1
          have u15 := b15.2
          go_wp2
          go_quiet (first | (go_at_call_of 66 (Value.int IntKind.i64 7); exact Calls.quiet_of_same (turn7 _ _ l15 u15)) | (go_at_call_of 66 (Value.int IntKind.i64 18); exact Calls.quiet_of_same (turn18 _ _ l15 u15)))
          go_wp2
          have hd : ∀ a, (wr.drewN nq).cell? a = wr.cell? a := fun _ => rfl
          have hf : ∀ a, (wr.drewN nq).frozen? a = wr.frozen? a := fun _ => rfl
          rw [← hd] at c0 c2 c7 c15 c16
          rw [← hf] at f0
          clear hd hf
          have RZ1 := RZ.drewN nq
          have RS1 := RS.drewN nq
          have B1 := bel_drewN B nq
          have hz1 : w.heap.size + 1 + 1 < (wr.drewN nq).heap.size := hz
          generalize wr.drewN nq = wq at RZ1 RS1 B1 hz1 c0 c2 c7 c15 c16 f0 ⊢
          go_quiet (first | (go_at_call_of 66 (Value.int IntKind.i64 17); exact Calls.quiet_of_same (turn17 _ _ l2 u2)) | (go_at_call_of 66 (Value.int IntKind.i64 19); exact Calls.quiet_of_same (turn19 _ _ l2 u2)))
          go_wp2
          go_wp2
          go_region
          all_goals go_wp2
          all_goals
            go_roundw
            case rel =>
              refine ⟨k + 1, by omega, by omega, by go_num, (RZ1.drewN _).other _ _ (show w.heap.size + 1 ≠ w.heap.size + 1 + 1 by omega), ((RS1.drewN _).set k _ (by omega)).congr (fun j _ => ?_), (bel_drewN B1 _).setCell (show w.heap.size ≤ w.heap.size + 1 + 1 by omega) _, by rw [World.size_setCell]; exact hz1⟩
              refine sch_next b k j _ ?_
              rw [← hst.out]
              exact pl4 _ _ _ _
            case measure => simp [intOf]; omega
        · obtain rfl : k = 64 := by omega
          go_wp2_with (first | (refine wpList_load_arr (by rfl) 114 (.tmp 3) (by rfl) (w.heap.size + 1 + 1) (by rfl) RS Tryd.underlying114 Tryd.sz114 ?_) | (refine wpList_store_arr (by rfl) 114 (.tmp 2) (.tmp 96) (by rfl) (w.heap.size + 1) (by rfl) (by rfl) RZ Tryd.sz114 (by rfl) ?_))
          exact bodyPost_ret (results_arr Tryd.results54 _ _ rfl (put_row RZ) Tryd.underlying114 Tryd.sz114) rfl ⟨rfl, put_below B (by omega)⟩
#print axioms schedule_any
end Go.Proofs.YtcmdeiohnkbjlaaDoor
namespace Go.Proofs.YtcmdeiohnkbjlaaDoor
open Go.RowKit
/-- The round constants. -/
def kl : List Int := [1116352408, 1899447441, 3049323471, 3921009573, 961987163, 1508970993, 2453635748, 2870763221, 3624381080, 310598401, 607225278, 1426881987, 1925078388, 2162078206, 2614888103, 3248222580, 3835390401, 4022224774, 264347078, 604807628, 770255983, 1249150122, 1555081692, 1996064986, 2554220882, 2821834349, 2952996808, 3210313671, 3336571891, 3584528711, 113926993, 338241895, 666307205, 773529912, 1294757372, 1396182291, 1695183700, 1986661051, 2177026350, 2456956037, 2730485921, 2820302411, 3259730800, 3345764771, 3516065817, 3600352804, 4094571909, 275423344, 430227734, 506948616, 659060556, 883997877, 958139571, 1322822218, 1537002063, 1747873779, 1955562222, 2024104815, 2227730452, 2361852424, 2428436474, 2756734187, 3204031479, 3329325298]
def kk (i : Nat) : Int := kl.getD i 0

/-- One round's two sums, and the eight words behind it. -/
def t1 (v : Nat → Int) (x : Int) : Int := (v 7 + hmx (v 4) + cho (v 4) (v 5) (v 6) + x) % 4294967296
def t2 (v : Nat → Int) : Int := (lmx (v 0) + maj (v 0) (v 1) (v 2)) % 4294967296
def stp (v : Nat → Int) (x : Int) : Nat → Int
  | 0 => (t1 v x + t2 v) % 4294967296
  | 1 => v 0
  | 2 => v 1
  | 3 => v 2
  | 4 => (v 3 + t1 v x) % 4294967296
  | 5 => v 4
  | 6 => v 5
  | 7 => v 6
  | _ => 0
def rnd (q h s : Nat → Int) : Nat → Nat → Int
  | 0 => h
  | i + 1 => stp (rnd q h s i) (pl (q i) (s i))
/-- The block function, its constants q. -/
def blk (q h b : Nat → Int) (j : Nat) : Int := pl (h j) (rnd q h (sch b 64) 64 j)

theorem stp_w (v : Nat → Int) (x : Int) (hv : ∀ j, W32 (v j)) : ∀ j, W32 (stp v x j)
  | 0 => pl_bd _ _
  | 1 => hv 0
  | 2 => hv 1
  | 3 => hv 2
  | 4 => pl_bd _ _
  | 5 => hv 4
  | 6 => hv 5
  | 7 => hv 6
  | _ + 8 => ⟨by simp [stp], by simp [stp]⟩
theorem rnd_w (q h s : Nat → Int) (hh : ∀ j, W32 (h j)) (i : Nat) : ∀ j, W32 (rnd q h s i j) := by
  induction i with
  | zero => exact hh
  | succ i ih => exact stp_w _ _ ih
theorem blk_w (q h b : Nat → Int) (j : Nat) : W32 (blk q h b j) := pl_bd _ _

/-- The package's table of constants lies in its variable. -/
def KT (w : World) : Prop := ∀ i, i < 64 → w.cell? ⟨0, i, none⟩ = some (.int .u32 (kk i))
theorem KT.lt {w : World} (h : KT w) : 0 < w.heap.size := block_lt_of_cell (h 0 (by omega))
theorem KT.below {w w' : World} (h : KT w) (b : Below w.heap.size w w') : KT w' := fun i hi => by
  have e := b.cell (p := ⟨0, i, none⟩) h.lt
  rw [e]; exact h i hi

theorem startB (w : World) (h b : Nat → Int) (e1 e2 e3 : TypeId) (A : Array Value) (hA : A = Array.replicate 8 (.int .u32 0)) :
    Row .u32 (((w.alloc (.cells (cs .u32 8 h) e1)).alloc (.cells (cs .u8 64 b) e2)).alloc (.cells A e3)) w.heap.size 8 h ∧
    Row .u8 (((w.alloc (.cells (cs .u32 8 h) e1)).alloc (.cells (cs .u8 64 b) e2)).alloc (.cells A e3)) (w.heap.size + 1) 64 b ∧
    Row .u32 (((w.alloc (.cells (cs .u32 8 h) e1)).alloc (.cells (cs .u8 64 b) e2)).alloc (.cells A e3)) (w.heap.size + 1 + 1) 8 (fun _ => 0) ∧
    Below w.heap.size w (((w.alloc (.cells (cs .u32 8 h) e1)).alloc (.cells (cs .u8 64 b) e2)).alloc (.cells A e3)) ∧ (((w.alloc (.cells (cs .u32 8 h) e1)).alloc (.cells (cs .u8 64 b) e2)).alloc (.cells A e3)).heap.size = w.heap.size + 3 := by
  have z1 : (w.alloc (.cells (cs .u32 8 h) e1)).heap.size = w.heap.size + 1 := World.size_alloc _ _
  have r1 : Row .u32 (w.alloc (.cells (cs .u32 8 h) e1)) w.heap.size 8 h := Row.box
  have b1 : Below w.heap.size w (w.alloc (.cells (cs .u32 8 h) e1)) := (Below.refl _ _).alloc (Nat.le_refl _) _
  generalize w.alloc (.cells (cs .u32 8 h) e1) = w1 at z1 r1 b1 ⊢
  have z2 : (w1.alloc (.cells (cs .u8 64 b) e2)).heap.size = w1.heap.size + 1 := World.size_alloc _ _
  have r2 : Row .u8 (w1.alloc (.cells (cs .u8 64 b) e2)) w1.heap.size 64 b := Row.box
  have q1 := r1.alloc (by omega) (.cells (cs .u8 64 b) e2)
  have b2 := b1.alloc (by omega) (.cells (cs .u8 64 b) e2)
  rw [z1] at r2 z2
  generalize w1.alloc (.cells (cs .u8 64 b) e2) = w2 at z2 r2 q1 b2 ⊢
  have z3 : (w2.alloc (.cells A e3)).heap.size = w2.heap.size + 1 := World.size_alloc _ _
  have r3 : Row .u32 (w2.alloc (.cells A e3)) w2.heap.size 8 (fun _ => 0) := Row.rep hA
  rw [z2] at r3 z3
  exact ⟨q1.alloc (by omega) _, r2.alloc (by omega) _, r3, b2.alloc (by omega) _, by omega⟩

set_option maxRecDepth 10000 in
set_option maxHeartbeats 4000000 in
theorem block_any (h b : Nat → Int) (w : World) (hh : ∀ j, W32 (h j)) (hb : ∀ j, 0 ≤ b j ∧ b j < 256) (hk : KT w) :
    Calls Tryd.prog 42 #[.agg (cs .u32 8 h), .agg (cs .u8 64 b)] w fun e w' => e = .returned (.agg (cs .u32 8 (blk kk h b))) ∧ Below w.heap.size w w' := by
  have HH : Hid (∀ j, W32 (h j)) := hh
  have HB : Hid (∀ j, 0 ≤ b j ∧ b j < 256) := hb
  have HK : Hid (KT w) := hk
  have h0 := hk.lt
  clear hh hb hk
  go_enter Tryd.func42, Tryd.ntmps42
  go_wp2_with (refine wpList_load_arr (by rfl) 78 (.tmp 3) (by rfl) (w.heap.size + 1) (by rfl) (startB w h b _ _ _ _ rfl).2.1 Tryd.underlying78 Tryd.sz78 ?_)
  obtain ⟨RH, RB, RR, B, hz⟩ := startB w h b 74 78 74 #[.int .u32 0, .int .u32 0, .int .u32 0, .int .u32 0, .int .u32 0, .int .u32 0, .int .u32 0, .int .u32 0] rfl
  generalize ((w.alloc (.cells (cs .u32 8 h) 74)).alloc (.cells (cs .u8 64 b) 78)).alloc (.cells #[.int .u32 0, .int .u32 0, .int .u32 0, .int .u32 0, .int .u32 0, .int .u32 0, .int .u32 0, .int .u32 0] 74) = W at RH RB RR B hz ⊢
  refine (schedule_any b _ HB.out).mono ?_
  rintro e w1 ⟨rfl, b1⟩
  have RH1 := RH.below b1 (by omega)
  have RR1 := RR.below b1 (by omega)
  have B1 : Below w.heap.size w w1 := B.trans (b1.mono (by omega))
  have hz1 : w.heap.size + 3 ≤ w1.heap.size := by have := b1.size; omega
  clear RH RB RR B hz b1
  go_wp2_with (refine wpList_store_any (by rfl) 114 (.tmp 5) (.tmp 18) (by rfl) w1.heap.size (by rfl) (by rfl) (Row.rep (n := 64) (z := 0) rfl) Tryd.sz114 (by rfl) ?_; intro W2 RS2 U2)
  have RH2 := (RH1.alloc (by omega) _).upd U2 (by rw [World.size_alloc]; omega) (by omega)
  have RR2 := (RR1.alloc (by omega) _).upd U2 (by rw [World.size_alloc]; omega) (by omega)
  have B2 : Below w.heap.size w W2 := U2.below (B1.alloc (by omega) _) (by omega) (by rw [World.size_alloc]; omega)
  have hz2 : w1.heap.size < W2.heap.size := by rw [U2.size, World.size_alloc]; omega
  have K2 := HK.out.below B2
  clear RH1 RR1 B1 U2
  have c0 := RH2.cell 0 (by omega)
  have c1 := RH2.cell 1 (by omega)
  have c2 := RH2.cell 2 (by omega)
  have c3 := RH2.cell 3 (by omega)
  have c4 := RH2.cell 4 (by omega)
  have c5 := RH2.cell 5 (by omega)
  have c6 := RH2.cell 6 (by omega)
  have c7 := RH2.cell 7 (by omega)
  go_quiet (fail)
  go_wp2
  clear c0 c1 c2 c3 c4 c5 c6 c7
  go_loopw [6, 7, 8, 9, 10, 11, 12, 13, 35] (fun a0 a1 a2 a3 a4 a5 a6 a7 i wr => ∃ k : Nat, k ≤ 64 ∧ i = .int .i64 k ∧ a0 = .int .u32 (rnd kk h (sch b 64) k 0) ∧ a1 = .int .u32 (rnd kk h (sch b 64) k 1) ∧ a2 = .int .u32 (rnd kk h (sch b 64) k 2) ∧ a3 = .int .u32 (rnd kk h (sch b 64) k 3) ∧ a4 = .int .u32 (rnd kk h (sch b 64) k 4) ∧ a5 = .int .u32 (rnd kk h (sch b 64) k 5) ∧ a6 = .int .u32 (rnd kk h (sch b 64) k 6) ∧ a7 = .int .u32 (rnd kk h (sch b 64) k 7) ∧
      KT wr ∧ Row .u32 wr w.heap.size 8 h ∧ Row .u32 wr (w.heap.size + 1 + 1) 8 (fun _ => 0) ∧ Row .u32 wr w1.heap.size 64 (sch b 64) ∧ Below w.heap.size w wr) (fun _ _ _ _ _ _ _ _ i _ => 64 - (intOf i).toNat)
  case atStart => exact ⟨0, by omega, rfl, rfl, rfl, rfl, rfl, rfl, rfl, rfl, rfl, K2, RH2.drewN _, RR2.drewN _, RS2.drewN _, bel_drewN B2 _⟩
  case round =>
    obtain ⟨k, hk, rfl, rfl, rfl, rfl, rfl, rfl, rfl, rfl, rfl, K, RH, RR, RS, B⟩ := hrel
    clear K2 RH2 RR2 RS2 B2
    by_cases hlt : k < 64
    · have hst : Hid (stp (rnd kk h (sch b 64) k) (pl (kk k) (sch b 64 k)) = rnd kk h (sch b 64) (k + 1)) := rfl
      have hv := rnd_w kk h (sch b 64) HH.out k
      have ck := K k hlt
      have cw := RS.cell k (by omega)
      have l4 := (hv 4).1
      have r4 := (hv 4).2
      have l0 := (hv 0).1
      have r0 := (hv 0).2
      clear hv
      have KH : Hid (KT wr) := K
      clear K
      generalize rnd kk h (sch b 64) k = v at hst l4 r4 l0 r0 ⊢
      generalize hwk : sch b 64 k = wk at hst cw
      generalize hkk : kk k = qk at hst ck
      clear hwk hkk
      go_wp2
      go_quiet (first | (go_at_call 55; exact Calls.quiet_of_same (highMix_any _ _ l4 r4)) | (go_at_call 56; exact Calls.quiet_of_same (choice_any _ _ _ _)))
      go_wp2_with fail
      refine (lowMix_any _ _ l0 r0).mono ?_
      rintro e w3 ⟨rfl, rfl⟩
      go_wp2_with fail
      refine (majority_any _ _ _ _).mono ?_
      rintro e w4 ⟨rfl, rfl⟩
      go_wp2
      go_roundw
      case rel =>
        have e1 : (v 7 + hmx (v 4) + cho (v 4) (v 5) (v 6) + qk + wk) % 4294967296 = t1 v (pl qk wk) := by unfold t1 pl; omega
        refine ⟨k + 1, by omega, by go_num, ?_, ?_, ?_, ?_, ?_, ?_, ?_, ?_, fun i hi => KH.out i hi, RH.drewN _, RR.drewN _, RS.drewN _, bel_drewN B _⟩
        · rw [← hst.out, e1]; rfl
        · rw [← hst.out]; rfl
        · rw [← hst.out]; rfl
        · rw [← hst.out]; rfl
        · rw [← hst.out, e1]; rfl
        · rw [← hst.out]; rfl
        · rw [← hst.out]; rfl
        · rw [← hst.out]; rfl
      case measure => simp [intOf]; omega
    · obtain rfl : k = 64 := by omega
      have hbl : Hid (∀ j, (h j + rnd kk h (sch b 64) 64 j) % 4294967296 = blk kk h b j) := fun j => rfl
      clear K RS
      generalize rnd kk h (sch b 64) 64 = v at hbl ⊢
      have c0 := RH.cell 0 (by omega)
      have c1 := RH.cell 1 (by omega)
      have c2 := RH.cell 2 (by omega)
      have c3 := RH.cell 3 (by omega)
      have c4 := RH.cell 4 (by omega)
      have c5 := RH.cell 5 (by omega)
      have c6 := RH.cell 6 (by omega)
      have c7 := RH.cell 7 (by omega)
      have d0 := RR.cell 0 (by omega)
      have f0 := RR.free 0 (by omega)
      have d1 := RR.cell 1 (by omega)
      have f1 := RR.free 1 (by omega)
      have d2 := RR.cell 2 (by omega)
      have f2 := RR.free 2 (by omega)
      have d3 := RR.cell 3 (by omega)
      have f3 := RR.free 3 (by omega)
      have d4 := RR.cell 4 (by omega)
      have f4 := RR.free 4 (by omega)
      have d5 := RR.cell 5 (by omega)
      have f5 := RR.free 5 (by omega)
      have d6 := RR.cell 6 (by omega)
      have f6 := RR.free 6 (by omega)
      have d7 := RR.cell 7 (by omega)
      have f7 := RR.free 7 (by omega)
      go_wp2
      refine bodyPost_ret (results_arr Tryd.results42 _ _ rfl (row8 RR _ _ _ _ _ _ _ _) Tryd.underlying74 Tryd.sz74) rfl ⟨?_, bel8 B (by omega) _ _ _ _ _ _ _ _⟩
      rw [cs_congr .u32 8 (fun j hj => (vec8_of (fun j => (h j + v j) % 4294967296) j hj).trans (hbl.out j))]
#print axioms block_any
end Go.Proofs.YtcmdeiohnkbjlaaDoor
namespace Go.Proofs.YtcmdeiohnkbjlaaDoor
open Go.RowKit
/-- Word k while m of its bytes are in. -/
def prt (b : Nat → Int) (k : Nat) : Nat → Int
  | 0 => 0
  | m + 1 => prt b k m * 256 + b (4 * k + m)
theorem prt_w (b : Nat → Int) (hb : ∀ j, 0 ≤ b j ∧ b j < 256) (k : Nat) : 0 ≤ prt b k 3 ∧ prt b k 3 < 16777216 ∧ 0 ≤ prt b k 2 ∧ prt b k 2 < 65536 ∧ 0 ≤ prt b k 1 ∧ prt b k 1 < 256 := by
  have h0 := hb (4 * k + 0)
  have h1 := hb (4 * k + 1)
  have h2 := hb (4 * k + 2)
  simp only [prt]
  omega
theorem prt_bd (b : Nat → Int) (hb : ∀ j, 0 ≤ b j ∧ b j < 256) (k m : Nat) (h : m < 4) : 0 ≤ prt b k m ∧ prt b k m < 16777216 := by
  have := prt_w b hb k
  rcases (show m = 0 ∨ m = 1 ∨ m = 2 ∨ m = 3 from by omega) with rfl | rfl | rfl | rfl
  · exact ⟨by simp [prt], by simp [prt]⟩
  all_goals omega
theorem prt_word (b : Nat → Int) (k : Nat) : prt b k 4 = wd b k := by
  simp only [prt, wd, Nat.add_zero]
  omega

end Go.Proofs.YtcmdeiohnkbjlaaDoor
namespace Go.Proofs.YtcmdeiohnkbjlaaDoor
open Go.RowKit

theorem startT (w : World) (v : Nat → Int) (e1 e2 : TypeId) (A : Array Value) (hA : A = Array.replicate 8 (.int .u32 0)) :
    Row .u32 ((w.alloc (.cells (cs .u32 8 v) e1)).alloc (.cells A e2)) w.heap.size 8 v ∧ Row .u32 ((w.alloc (.cells (cs .u32 8 v) e1)).alloc (.cells A e2)) (w.heap.size + 1) 8 (fun _ => 0) ∧
    Below w.heap.size w ((w.alloc (.cells (cs .u32 8 v) e1)).alloc (.cells A e2)) := by
  have z1 : (w.alloc (.cells (cs .u32 8 v) e1)).heap.size = w.heap.size + 1 := World.size_alloc _ _
  have r1 : Row .u32 (w.alloc (.cells (cs .u32 8 v) e1)) w.heap.size 8 v := Row.box
  have b1 : Below w.heap.size w (w.alloc (.cells (cs .u32 8 v) e1)) := (Below.refl _ _).alloc (Nat.le_refl _) _
  generalize w.alloc (.cells (cs .u32 8 v) e1) = w1 at z1 r1 b1 ⊢
  have r3 : Row .u32 (w1.alloc (.cells A e2)) w1.heap.size 8 (fun _ => 0) := Row.rep hA
  rw [z1] at r3
  exact ⟨r1.alloc (by omega) _, r3, b1.alloc (by omega) _⟩

theorem step_vec (v : Nat → Int) (x : Int) (hv : ∀ j, W32 (v j)) (j : Nat) (hj : j < 8) :
    vec8 ((v 7 + xo (xo (rot (v 4) 6) (rot (v 4) 11)) (rot (v 4) 25) + bits .or .u32 (an (v 4) (v 5)) (an (no (v 4)) (v 6)) + x + (xo (xo (rot (v 0) 2) (rot (v 0) 13)) (rot (v 0) 22) + bits .or .u32 (bits .or .u32 (an (v 0) (v 1)) (an (v 0) (v 2))) (an (v 1) (v 2)))) % 4294967296)
      (v 0) (v 1) (v 2) ((v 3 + (v 7 + xo (xo (rot (v 4) 6) (rot (v 4) 11)) (rot (v 4) 25) + bits .or .u32 (an (v 4) (v 5)) (an (no (v 4)) (v 6)) + x)) % 4294967296) (v 4) (v 5) (v 6) j = stp v x j := by
  rw [or_choose _ _ _ (hv 4) (hv 5) (hv 6), or_most _ _ _ (hv 0) (hv 1) (hv 2), ← vec8_of (stp v x) j hj]
  have e0 : (v 7 + xo (xo (rot (v 4) 6) (rot (v 4) 11)) (rot (v 4) 25) + cho (v 4) (v 5) (v 6) + x + (xo (xo (rot (v 0) 2) (rot (v 0) 13)) (rot (v 0) 22) + maj (v 0) (v 1) (v 2))) % 4294967296 = stp v x 0 := by
    show _ = (t1 v x + t2 v) % 4294967296
    unfold t1 t2 hmx lmx
    omega
  have e4 : (v 3 + (v 7 + xo (xo (rot (v 4) 6) (rot (v 4) 11)) (rot (v 4) 25) + cho (v 4) (v 5) (v 6) + x)) % 4294967296 = stp v x 4 := by
    show _ = (v 3 + t1 v x) % 4294967296
    unfold t1 hmx
    omega
  rw [e0, e4]
  rfl

end Go.Proofs.YtcmdeiohnkbjlaaDoor
namespace Go.Proofs.YtcmdeiohnkbjlaaDoor
open Go.RowKit

theorem oth8 {k : IntKind} {w : World} {g n gv : Nat} {f : Nat → Int} (h : Row k w g n f) (hne : g ≠ gv) (x0 x1 x2 x3 x4 x5 x6 x7 : Value) :
    Row k ((((((((w.setCell ⟨gv, 0, none⟩ x0).setCell ⟨gv, 1, none⟩ x1).setCell ⟨gv, 2, none⟩ x2).setCell ⟨gv, 3, none⟩ x3).setCell ⟨gv, 4, none⟩ x4).setCell ⟨gv, 5, none⟩ x5).setCell ⟨gv, 6, none⟩ x6).setCell ⟨gv, 7, none⟩ x7) g n f :=
  (((((((h.other _ _ hne).other _ _ hne).other _ _ hne).other _ _ hne).other _ _ hne).other _ _ hne).other _ _ hne).other _ _ hne

end Go.Proofs.YtcmdeiohnkbjlaaDoor
