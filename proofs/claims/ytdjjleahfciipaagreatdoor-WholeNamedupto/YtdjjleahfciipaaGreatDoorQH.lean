/- Gathered: B32N PtH PtM PtY. -/
import Derived.Test.YtdjjleahfciipaaGreatDoorQy
import Derived.Test.YtdjjleahfciipaaGreatDoorQz
import Derived.Test.YtdjjleahfciipaaGreatDoorQG
/- What radix.Base32 and radix.Value answer. -/
namespace Go.Proofs.YtdjjleahfciipaaGreatDoor
open Go.RowKit
/-- How many letters n bytes take. -/
def lf (n : Nat) : Nat := (8 * n + 4) / 5
def b32Fn (s : ByteArray) (i : Nat) : Int := lt32 (fb s (5 * (lf s.size - 1 - i)))
def b32Str (s : ByteArray) : ByteArray := strFn (lf s.size) (b32Fn s)

theorem or_i64w (x y : Int) (h0 : 0 ≤ x) (h1 : x < 256) (h2 : 0 ≤ y) (h3 : y < 256) : bits .or .i64 x (y * 256) = x + 256 * y := by
  have e : bits .or .i64 x (y * 256) = ((x.toNat ||| (y * 256).toNat : Nat) : Int) := by
    obtain ⟨a, rfl⟩ := Int.eq_ofNat_of_zero_le h0
    obtain ⟨b, rfl⟩ := Int.eq_ofNat_of_zero_le h2
    have hk : ∀ n : Int, 0 ≤ n → n < 2 ^ 16 → IntKind.i64.wrap n = n := fun n g0 g1 => by rw [IntKind.wrap_i64]; omega
    have := (bits_nat .i64 16 (by decide) hk a (b * 256) (by omega) (by omega)).2
    rw [show ((b : Int) * 256) = ((b * 256 : Nat) : Int) from by omega, this]
    rfl
  rw [e, Nat.or_comm, nat_join 8 _ _ (by omega) (by omega)]
  omega

theorem and_i64w (x : Int) (h0 : 0 ≤ x) (h1 : x < 65536) : bits .and .i64 x 31 = x % 32 := by
  have hk : ∀ n : Int, 0 ≤ n → n < 2 ^ 16 → IntKind.i64.wrap n = n := fun n g0 g1 => by rw [IntKind.wrap_i64]; omega
  exact bits_mask .i64 16 (by decide) hk 5 (by decide) x h0 h1

set_option maxHeartbeats 400000 in
theorem lf_any (n : Nat) (w : World) (h : n ≤ 281474976710656) : Calls Tryz.prog 78 #[.int .i64 n] w fun e w' => e = .returned (.int .i64 (lf n)) ∧ w' = w := by
  have e : Hid ((lf n : Int) = (8 * (n : Int) + 4) / 5) := by unfold Hid lf; omega
  go_enter Tryz.func78, Tryz.ntmps78
  go_wp2
  go_ret
  rw [e.out]
  exact ⟨rfl, rfl⟩

theorem ret_iP {k : IntKind} {a b : Int} (h : a = b) : Ending.returned (.int k a) = .returned (.int k b) := by rw [h]

theorem pw_cases (r : Nat) (h : r < 8) (x : Int) (h0 : 0 ≤ x) (h1 : x < 65536) : 0 ≤ x / 2 ^ r ∧ x / 2 ^ r < 65536 := by
  rcases (show r = 0 ∨ r = 1 ∨ r = 2 ∨ r = 3 ∨ r = 4 ∨ r = 5 ∨ r = 6 ∨ r = 7 from by omega) with rfl | rfl | rfl | rfl | rfl | rfl | rfl | rfl
  all_goals omega

theorem fb_of1 (s : ByteArray) (k : Nat) (b0 : 0 ≤ bt s (k / 8) ∧ bt s (k / 8) < 256) (b1 : 0 ≤ bt s (k / 8 + 1) ∧ bt s (k / 8 + 1) < 256) :
    bits .and .i64 (bits .or .i64 (bt s (k / 8)) (bt s (k / 8 + 1) * 256) / 2 ^ (k % 8)) 31 = fb s k := by
  rw [or_i64w _ _ b0.1 b0.2 b1.1 b1.2]
  have h := pw_cases (k % 8) (Nat.mod_lt _ (by omega)) (bt s (k / 8) + 256 * bt s (k / 8 + 1)) (by omega) (by omega)
  rw [and_i64w _ h.1 h.2]
  rfl

theorem fb_of2 (s : ByteArray) (k : Nat) (b0 : 0 ≤ bt s (k / 8) ∧ bt s (k / 8) < 256) (b1 : bt s (k / 8 + 1) = 0) :
    bits .and .i64 (bt s (k / 8) / 2 ^ (k % 8)) 31 = fb s k := by
  have h := pw_cases (k % 8) (Nat.mod_lt _ (by omega)) (bt s (k / 8)) (by omega) (by omega)
  rw [and_i64w _ h.1 h.2]
  unfold fb
  rw [b1]
  simp

set_option maxHeartbeats 400000 in
theorem fb_any (s : ByteArray) (k : Nat) (w : World) (hs : s.size ≤ 140737488351232) (hk : k < 8 * s.size) :
    Calls Tryz.prog 79 #[.string s, .int .i64 k] w fun e w' => e = .returned (.int .i64 (fb s k)) ∧ w' = w := by
  have hb := get_bt s
  have b0 := bt_bd s (k / 8)
  have b1 := bt_bd s (k / 8 + 1)
  have hk8 : k / 8 < s.size := by omega
  by_cases h : k / 8 + 1 < s.size
  · go_enter Tryz.func79, Tryz.ntmps79
    go_wp2
    go_ret
    exact ⟨ret_iP (fb_of1 s k b0 b1), rfl⟩
  · have hz : bt s (k / 8 + 1) = 0 := by unfold bt; rw [dif_neg h]
    have HZ : Hid (bt s (k / 8 + 1) = 0) := hz
    clear hz b1
    go_enter Tryz.func79, Tryz.ntmps79
    go_wp2
    go_ret
    exact ⟨ret_iP (fb_of2 s k b0 HZ.out), rfl⟩

set_option maxHeartbeats 400000 in
set_option maxRecDepth 100000 in
theorem b32_any (s : ByteArray) (w : World) (hs : s.size ≤ 140737488351232) :
    Calls Tryz.prog 54 #[.string s] w fun e w' => e = .returned (.string (b32Str s)) ∧ Below w.heap.size w w' := by
  obtain ⟨i0, hi, hz0, hz1, hz2⟩ := info_parts Tryz.hinfo5P
  have hl : 5 * lf s.size ≤ 8 * s.size + 4 := by unfold lf; omega
  go_enter Tryz.func54, Tryz.ntmps54
  go_wp2_with fail
  refine (lf_any s.size _ (by omega)).mono ?_
  rintro e w1 ⟨rfl, rfl⟩
  have hd : Hid (b32Str s = strFn (lf s.size) (b32Fn s)) := rfl
  have hfn : Hid (∀ i, b32Fn s i = lt32 (fb s (5 * (lf s.size - 1 - i)))) := fun i => rfl
  generalize lf s.size = m at hl hd hfn ⊢
  go_wp2_with fail
  rw [run_make (P := Tryz.prog) w1 45 5 i0 (.int .u8 0) Tryz.underlying45 hi hz0 .i64 .i64 _ _ (by omega) (by omega) (by rw [hz2]; omega) (by omega)]
  have R0 : Row .u8 (w1.alloc (.cells (madeCells (Value.int .u8 0).cells ((m : Int).toNat * i0.size)) 5)) w1.heap.size m (fun _ => 0) := Row.made (by rw [hz1]; omega)
  have B0 : Below w1.heap.size w1 (w1.alloc (.cells (madeCells (Value.int .u8 0).cells ((m : Int).toNat * i0.size)) 5)) := (Below.refl _ _).alloc (Nat.le_refl _) _
  generalize w1.alloc (.cells (madeCells (Value.int .u8 0).cells ((m : Int).toNat * i0.size)) 5) = W1 at R0 B0 ⊢
  rw [Int.toNat_natCast]
  clear hi hz0 hz1 hz2
  go_wp2
  go_loopw [12] (fun i wr => ∃ k : Nat, k ≤ m ∧ i = .int .i64 k ∧ Row .u8 wr w1.heap.size m (fun j => if m - k ≤ j then b32Fn s j else 0) ∧ Below w1.heap.size w1 wr) (fun i _ => m - (intOf i).toNat)
  case atStart => exact ⟨0, Nat.zero_le _, rfl, R0.congr (fun j hj => by rw [if_neg (by omega)]), B0⟩
  case round =>
    obtain ⟨k, hk, rfl, R, B⟩ := hrel
    by_cases hlt : k < m
    · have c1 := R.cell (m - 1 - k) (by omega)
      have f1 := R.free (m - 1 - k) (by omega)
      have hfb : 0 ≤ fb s (5 * k) ∧ fb s (5 * k) < 32 := by unfold fb; omega
      have hd2 := get_bt ⟨#[48, 49, 50, 51, 52, 53, 54, 55, 56, 57, 97, 98, 99, 100, 102, 103, 104, 105, 106, 107, 108, 109, 110, 112, 113, 114, 115, 118, 119, 120, 121, 122]⟩
      go_wp2_with fail
      rw [show (5 * (k : Int)) = ((5 * k : Nat) : Int) from by omega]
      refine (fb_any s (5 * k) _ hs (by omega)).mono ?_
      rintro e w2 ⟨rfl, rfl⟩
      have he : Hid (bt ⟨#[48, 49, 50, 51, 52, 53, 54, 55, 56, 57, 97, 98, 99, 100, 102, 103, 104, 105, 106, 107, 108, 109, 110, 112, 113, 114, 115, 118, 119, 120, 121, 122]⟩ (fb s (5 * k)).toNat = b32Fn s (m - 1 - k)) := by
        unfold Hid
        rw [hfn.out, show m - 1 - (m - 1 - k) = k from by omega]
        rfl
      generalize fb s (5 * k) = x at hfb he ⊢
      go_wp2
      go_roundw
      case rel =>
        rw [he.out]
        refine ⟨k + 1, by omega, by go_num, (R.set (m - 1 - k) _ (by omega)).congr (fun j hj => ?_), B.setCell (Nat.le_refl _) _⟩
        by_cases a1 : j = m - 1 - k
        · rw [if_pos a1, if_pos (by omega), a1]
        · rw [if_neg a1]
          by_cases h : m - k ≤ j
          · rw [if_pos h, if_pos (by omega)]
          · rw [if_neg h, if_neg (by omega)]
      case measure => simp [intOf]; omega
    · have c1 := run_string_row (P := Tryz.prog) (src := 45) (dst := 9) (c := m) Tryz.underlying45 Tryz.underlying5 Tryz.underlying9 R
      obtain rfl : k = m := by omega
      rw [show strFn k (fun j => if k - k ≤ j then b32Fn s j else 0) = b32Str s from by rw [hd.out]; exact strFn_congr (fun j hj => by rw [if_pos (by omega)])] at c1
      go_wp2
      go_ret
      exact ⟨rfl, B⟩
#print axioms b32_any
end Go.Proofs.YtdjjleahfciipaaGreatDoor
/- spath.hashOf, walked. -/
namespace Go.Proofs.YtdjjleahfciipaaGreatDoor
open Go.RowKit

/-- The text whose digest gives the hash: its beginning. -/
def tx (f : Nat → ByteArray) : Nat → ByteArray
  | 0 => ⟨#[116, 114, 101, 101]⟩
  | k + 1 => tx f k ++ (⟨#[58]⟩ ++ f k)
theorem tx_succ (f : Nat → ByteArray) (k : Nat) : tx f (k + 1) = tx f k ++ (⟨#[58]⟩ ++ f k) := by rw [tx]
/-- Its end. -/
def tlS (D : Nat → Int) (l : ByteArray) : ByteArray :=
  ((((⟨#[58, 115, 104, 97, 50, 53, 54, 58]⟩ ++ hexStr (strFn 32 D)) ++ ⟨#[58]⟩) ++ ⟨#[47, 100, 101, 112, 111, 116, 47, 115, 116, 111, 114, 101, 47]⟩) ++ ⟨#[58]⟩) ++ l
def nmS (f : Nat → ByteArray) (n : Nat) (D : Nat → Int) (l : ByteArray) : ByteArray := tx f n ++ tlS D l
def dgF (s : ByteArray) : Nat → Int := dg (hw (bt (msg s)) (nb s))
/-- The digest as a text. -/
def shS (s : ByteArray) : ByteArray := strFn 32 (dgF s)
def foS (s : ByteArray) : ByteArray := strFn 20 (foldFn s 20 s.size)
/-- The hash that Make gives. -/
def hashP (f : Nat → ByteArray) (n : Nat) (D : Nat → Int) (l : ByteArray) : ByteArray := b32Str (foS (shS (nmS f n D l)))

theorem dgs_is (s : ByteArray) : dgs s = cs .u8 32 (dgF s) := rfl
theorem sz_mk (a : Array UInt8) : (ByteArray.mk a).size = a.size := rfl
theorem tx_size (f : Nat → ByteArray) (k : Nat) (h : ∀ i, i < k → (f i).size ≤ 257) : (tx f k).size ≤ 4 + 258 * k := by
  induction k with
  | zero => show 4 ≤ 4; exact Nat.le_refl _
  | succ k ih =>
    have h1 := ih (fun i hi => h i (by omega))
    have h2 := h k (by omega)
    unfold tx
    rw [ByteArray.size_append, ByteArray.size_append]
    have : (ByteArray.mk #[58]).size = 1 := rfl
    omega
theorem hex_size (s : ByteArray) : (hexStr s).size = 2 * s.size := by unfold hexStr; rw [strFn_size]
theorem tlS_size (D : Nat → Int) (l : ByteArray) : (tlS D l).size = 87 + l.size := by
  unfold tlS
  rw [ByteArray.size_append, ByteArray.size_append, ByteArray.size_append, ByteArray.size_append, ByteArray.size_append, hex_size, strFn_size]
  show 8 + 2 * 32 + 1 + 13 + 1 + l.size = _
  omega
theorem empty_app (a : ByteArray) : ByteArray.empty ++ a = a := by
  apply bytes_ext
  · rw [ByteArray.size_append]; show 0 + a.size = a.size; omega
  · intro k hk
    rw [ByteArray.size_append, size_emptyS] at hk
    have := bt_right ByteArray.empty a k (by omega)
    rw [size_emptyS, Nat.zero_add] at this
    exact this
theorem below_gb {w0 w w' : World} {g : Nat} (b : Below w0.heap.size w0 w) (G : w.grownBy w' (some g)) (hg : w0.heap.size ≤ g) : Below w0.heap.size w0 w' :=
  b.trans ⟨G.os, G.tape, G.output, G.size, fun k hk => G.block k (by have := b.size; omega) (by simp; omega)⟩
theorem below_next {w0 w w' : World} (b : Below w0.heap.size w0 w) (c : Below w.heap.size w w') : Below w0.heap.size w0 w' := b.trans (c.mono b.size)

set_option maxRecDepth 100000 in
set_option maxHeartbeats 4000000 in
theorem hashOf_any (x : Option Addr) (n c : Nat) (f : Nat → ByteArray) (D : Nat → Int) (l : ByteArray) (w : World) (hS : SIsP w x n f) (hn : n ≤ 1024) (hf : ∀ i, i < n → (f i).size ≤ 257) (hl : l.size ≤ 211) (hK : KT w) :
    Calls Tryz.prog 24 #[.slice x n c, .agg (cs .u8 32 D), .string l] w fun e w' => e = .returned (.string (hashP f n D l)) ∧ Below w.heap.size w w' := by
  have HK : Hid (KT w) := hK
  have z0 : 0 < w.heap.size := hK.lt
  have HS : Hid (SIsP w x n f) := hS
  have HF : Hid (∀ i, i < n → (f i).size ≤ 257) := hf
  have HH : Hid (hashP f n D l = b32Str (foS (shS (tx f n ++ tlS D l)))) := by unfold Hid hashP nmS; rfl
  clear hK hS hf
  go_enter Tryz.func24, Tryz.ntmps24
  go_wp2_with fail
  -- @1
  refine (new_wrote _).mono ?_
  rintro e w1 ⟨g, rfl, hg, hg2, S1, b1⟩
  have R1 : Row .u8 w1 w.heap.size 32 D := Row.below Row.box b1 (by rw [World.size_alloc]; omega)
  have B1 : Below w.heap.size w w1 := ((Below.refl _ _).alloc (Nat.le_refl _) _).trans (b1.mono (by rw [World.size_alloc]; omega))
  have z1 : w.heap.size < g := by rw [World.size_alloc] at hg; omega
  have K1 : Hid (KT w1) := HK.out.below B1
  clear b1 hg HK
  -- @2
  go_wp2_with fail
  -- @3
  refine (writeText_wrote g ByteArray.empty ⟨#[116, 114, 101, 101]⟩ _ S1 (by decide) K1.out (by omega)).mono ?_
  rintro e w2 ⟨rfl, S2, G2⟩
  rw [empty_app] at S2
  have R2 : Row .u8 w2 w.heap.size 32 D := R1.same (G2.block _ (by omega) (by simp; omega))
  have B2 := below_gb B1 G2 (by omega)
  have K2 : Hid (KT w2) := K1.out.grown G2 (by omega)
  have z2 : g < w2.heap.size := by have := G2.size; omega
  have zg : 0 < g := by omega
  clear S1 R1 B1 K1 G2 hg2
  -- @4
  go_wp2
  -- @5
  go_loopw [18] (fun i wr => ∃ k : Nat, k ≤ n ∧ i = .int .i64 k ∧ Hid (Wrote wr g (tx f k)) ∧ Hid (KT wr) ∧ Hid (Row .u8 wr w.heap.size 32 D) ∧ Hid (Below w.heap.size w wr) ∧ Hid (g < wr.heap.size)) (fun i _ => n - (intOf i).toNat)
  case atStart => exact ⟨0, Nat.zero_le _, rfl, S2, K2, R2, B2, z2⟩
  case round =>
    obtain ⟨k, hk, rfl, SW, KW, RW, BW, ZW⟩ := hrel
    by_cases hlt : k < n
    · have hfk := HF.out k hlt
      have hts := tx_size f k (fun i hi => HF.out i (by omega))
      obtain ⟨a, rfl, c0⟩ := HS.out.below BW.out (Nat.le_refl _) k hlt
      have hsz1 : (tx f k).size + ((⟨#[58]⟩ : ByteArray) ++ f k).size ≤ 2305843009213693952 := by
        have e : (ByteArray.mk #[58]).size = 1 := rfl
        rw [ByteArray.size_append, e]; omega
      have HZ1 : Hid (_ ≤ _) := hsz1
      clear hsz1
      -- @6
      go_wp2_with fail
      -- @7
      have CC := writeText_wrote g (tx f k) (⟨#[58]⟩ ++ f k) wr SW.out HZ1.out KW.out zg
      refine CC.mono ?_
      clear CC
      rintro e w3 ⟨rfl, S3, G3⟩
      have R3 : Hid (Row .u8 w3 w.heap.size 32 D) := RW.out.same (G3.block _ (by have := ZW.out; omega) (by simp; omega))
      have B3 : Hid (Below w.heap.size w w3) := below_gb BW.out G3 (by omega)
      have K3 : Hid (KT w3) := KW.out.grown G3 (by omega)
      have z3 : Hid (g < w3.heap.size) := by have := G3.size; have := ZW.out; unfold Hid; omega
      have HS3 : Hid (Wrote w3 g (tx f (k + 1))) := by rw [tx_succ]; exact S3
      clear SW KW RW BW ZW S3 G3 c0 hts
      -- @8
      go_wp2
      -- @9
      go_roundw
      case rel => exact ⟨k + 1, by omega, by go_num, HS3, K3, R3, B3, z3⟩
      case measure => simp [intOf]; omega
    · obtain rfl : k = n := by omega
      have hts := tx_size f k (fun i hi => HF.out i (by omega))
      clear HS HF
      have c1 := run_string_row (P := Tryz.prog) (src := 45) (dst := 9) (c := 32) Tryz.underlying45 Tryz.underlying5 Tryz.underlying9 RW.out
      have htl := tlS_size D l
      have hxs : (hexStr (strFn 32 D)).size = 64 := by rw [hex_size, strFn_size]
      -- @A
      go_wp2_with fail
      -- @B
      refine (hex_any (strFn 32 D) _ (by rw [strFn_size]; decide)).mono ?_
      rintro e w3 ⟨rfl, b3⟩
      have S3 : Hid (Wrote w3 g (tx f k)) := SW.out.below b3 ZW.out
      have B3 : Hid (Below w.heap.size w w3) := below_next BW.out b3
      have K3 : Hid (KT w3) := KW.out.below b3
      have z3 : Hid (g < w3.heap.size) := by have := b3.size; have := ZW.out; unfold Hid; omega
      clear b3 SW RW KW BW ZW c1
      go_wp2_with fail
      have CC := writeText_wrote g (tx f k) (tlS D l) w3 S3.out (by omega) K3.out zg
      -- @C
      refine CC.mono ?_
      clear CC
      -- @D
      rintro e w4 ⟨rfl, S4, G4⟩
      have B4 : Hid (Below w.heap.size w w4) := below_gb B3.out G4 (by omega)
      have K4 : Hid (KT w4) := K3.out.grown G4 (by omega)
      have HS4 : Hid (Wrote w4 g (tx f k ++ tlS D l)) := S4
      clear S3 B3 K3 z3 S4 G4
      have hsz : (tx f k ++ tlS D l).size ≤ 1152921504606846976 := by rw [ByteArray.size_append]; omega
      generalize tx f k ++ tlS D l = TX at HS4 HH hsz
      go_wp2_with fail
      have CC := sum_wrote g TX w4 HS4.out hsz K4.out zg
      -- @E
      refine CC.mono ?_
      clear CC
      rintro e w5 ⟨rfl, b5⟩
      rw [dgs_is]
      have B5 : Hid (Below w.heap.size w w5) := below_next B4.out b5
      clear B4 K4 HS4 b5 hsz htl hts hxs
      go_wp2_with (refine wpList_store_any (by rfl) 31 (.tmp 10) (.tmp 39) (by rfl) w5.heap.size (by rfl) (by rfl) (Row.rep (n := 32) (z := 0) rfl) Tryz.sz31 (by rfl) ?_; intro W6 R6 U6; have B6 : Hid (Below w.heap.size w W6) := U6.below (B5.out.alloc B5.out.size _) B5.out.size (by rw [World.size_alloc]; have := B5.out.size; omega); have c6 := run_string_row (P := Tryz.prog) (src := 45) (dst := 9) (c := 32) Tryz.underlying45 Tryz.underlying5 Tryz.underlying9 R6; clear U6 R6 B5; have hs6 : Hid ((strFn 32 (dgF TX)).size ≤ 140737488351232) := (by rw [strFn_size]; decide : (strFn 32 (dgF TX)).size ≤ 140737488351232); have hs7 : Hid (strFn 32 (dgF TX) = shS TX) := rfl; generalize strFn 32 (dgF TX) = ST at c6 hs6 hs7)
      refine (fold_any ST 20 W6 hs6.out (by decide) (by decide)).mono ?_
      rintro e w7 ⟨rfl, b7⟩
      have B7 : Hid (Below w.heap.size w w7) := below_next B6.out b7
      clear B6 b7 c6
      have hf7 : Hid (strFn 20 (foldFn ST 20 ST.size) = foS (shS TX)) := by unfold Hid foS; rw [hs7.out]
      have hf8 : Hid ((strFn 20 (foldFn ST 20 ST.size)).size ≤ 140737488351232) := (by rw [strFn_size]; decide : (strFn 20 (foldFn ST 20 ST.size)).size ≤ 140737488351232)
      generalize strFn 20 (foldFn ST 20 ST.size) = FO at hf7 hf8 ⊢
      go_wp2_with fail
      refine (b32_any FO w7 hf8.out).mono ?_
      rintro e w8 ⟨rfl, b8⟩
      have B8 : Hid (Below w.heap.size w w8) := below_next B7.out b8
      clear b8 B7
      go_wp2
      go_ret
      exact ⟨by rw [HH.out, ← hf7.out]; rfl, B8.out⟩

end Go.Proofs.YtdjjleahfciipaaGreatDoor
/- spath.Make, walked. -/
namespace Go.Proofs.YtdjjleahfciipaaGreatDoor
open Go.RowKit

theorem prC_le {p : ByteArray} (h : prC p = 0) : p.size ≤ 257 := by
  by_cases g : shp p
  · by_cases k : hshOk (pHash p)
    · rw [prC_lab g k] at h
      rcases lab_cases (pLab p) with ⟨m, _⟩ | ⟨_, m⟩
      · have := m.2.1
        unfold pLab at this
        rw [size_ext _ _ _ (Nat.le_refl _)] at this
        omega
      · rw [m] at h; omega
    · rw [prC_hash g k] at h; omega
  · rw [prC_shape g] at h; omega

theorem crf_cases (f : Nat → ByteArray) (n : Nat) : (crf f n = 0 ∧ n ≤ 1024 ∧ ∀ i, i < n → prC (f i) = 0 ∧ (f i).size ≤ 257) ∨ crf f n = 133 ∨ crf f n = 171 := by
  unfold crf
  by_cases h : 1024 < n
  · right; right; rw [if_pos h]
  · by_cases g : refsOk f n
    · left; rw [if_neg h, if_pos g]; exact ⟨rfl, by omega, fun i hi => ⟨(g i hi).1, prC_le (g i hi).1⟩⟩
    · right; left; rw [if_neg h, if_neg g]

/-- Make's error. -/
def mkC (f : Nat → ByteArray) (n : Nat) (l : ByteArray) : Int := if lab l = 0 then crf f n else 130
/-- The path that it makes. -/
def mkS (f : Nat → ByteArray) (n : Nat) (D : Nat → Int) (l : ByteArray) : ByteArray := ((dirS ++ hashP f n D l) ++ ⟨#[45]⟩) ++ l
theorem mkC_lab {f : Nat → ByteArray} {n : Nat} {l : ByteArray} (h : lab l = 130) : mkC f n l = 130 := by unfold mkC; rw [h]; rfl
theorem mkC_refs {f : Nat → ByteArray} {n : Nat} {l : ByteArray} (h : lab l = 0) : mkC f n l = crf f n := by unfold mkC; rw [if_pos h]

theorem hashP_size (f : Nat → ByteArray) (n : Nat) (D : Nat → Int) (l : ByteArray) : (hashP f n D l).size = 32 := by
  unfold hashP b32Str foS
  rw [strFn_size, strFn_size]
  rfl

set_option maxRecDepth 100000 in
set_option maxHeartbeats 4000000 in
theorem make_any (x : Option Addr) (n c : Nat) (f : Nat → ByteArray) (D : Nat → Int) (l : ByteArray) (w : World) (hS : SIsP w x n f) (hK : KT w) :
    Calls Tryz.prog 7 #[.slice x n c, .agg (cs .u8 32 D), .string l] w fun e w' => e = .returned (.tuple #[.string (iffy (mkC f n l) (mkS f n D l)), .int .i64 (mkC f n l)]) ∧ Below w.heap.size w w' := by
  have HK : Hid (KT w) := hK
  have HS : Hid (SIsP w x n f) := hS
  clear hK hS
  rcases lab_cases l with ⟨h1, h2⟩ | ⟨h1, h2⟩
  · have hl : l.size ≤ 211 := h1.2.1
    rw [mkC_refs h2]
    have H2 : Hid (lab l = 0) := h2
    clear h1 h2
    rcases crf_cases f n with ⟨k1, k2, k3⟩ | k1 | k1
    · rw [iffy_yes k1, k1]
      have K1 : Hid (crf f n = 0) := k1
      have K3 : Hid (∀ i, i < n → (f i).size ≤ 257) := fun i hi => (k3 i hi).2
      clear k1 k3
      go_enter Tryz.func7, Tryz.ntmps7
      go_wp2_with fail
      refine (ckL_any l _).mono ?_
      rintro e w1 ⟨rfl, b1⟩
      rw [H2.out]
      have R1 : Hid (Row .u8 w1 w.heap.size 32 D) := Row.below Row.box b1 (by rw [World.size_alloc]; omega)
      have B1 : Hid (Below w.heap.size w w1) := ((Below.refl _ _).alloc (Nat.le_refl _) _).trans (b1.mono (by rw [World.size_alloc]; omega))
      have z1 : Hid (w.heap.size < w1.heap.size) := by have := b1.size; rw [World.size_alloc] at this; unfold Hid; omega
      clear b1
      go_wp2_with fail
      have CC := ckR_any x n c f w1 (HS.out.below B1.out (Nat.le_refl _))
      refine CC.mono ?_
      clear CC
      rintro e w2 ⟨rfl, b2⟩
      rw [K1.out]
      have R2 : Row .u8 w2 w.heap.size 32 D := R1.out.below b2 z1.out
      have B2 : Hid (Below w.heap.size w w2) := below_next B1.out b2
      clear b2 R1 B1 z1
      go_wp2_with (refine wpList_load_arr (by rfl) 31 (.tmp 4) (by rfl) w.heap.size (by rfl) R2 Tryz.und31 Tryz.sz31 ?_)
      have CC := hashOf_any x n c f D l w2 (HS.out.below B2.out (Nat.le_refl _)) k2 K3.out hl (HK.out.below B2.out)
      refine CC.mono ?_
      clear CC
      rintro e w3 ⟨rfl, b3⟩
      have B3 : Hid (Below w.heap.size w w3) := below_next B2.out b3
      have HM : Hid (mkS f n D l = ((dirS ++ hashP f n D l) ++ ⟨#[45]⟩) ++ l) := rfl
      have hs := hashP_size f n D l
      generalize hashP f n D l = HP at HM hs ⊢
      clear b3 B2 R2
      go_wp2
      go_ret2
      exact ⟨by rw [HM.out]; rfl, B3.out⟩
    · have hne : crf f n ≠ 0 := by rw [k1]; decide
      rw [iffy_no hne, k1]
      have K1 : Hid (crf f n = 133) := k1
      clear k1 hne
      go_enter Tryz.func7, Tryz.ntmps7
      go_wp2_with fail
      refine (ckL_any l _).mono ?_
      rintro e w1 ⟨rfl, b1⟩
      rw [H2.out]
      have B1 : Hid (Below w.heap.size w w1) := ((Below.refl _ _).alloc (Nat.le_refl _) _).trans (b1.mono (by rw [World.size_alloc]; omega))
      clear b1
      go_wp2_with fail
      have CC := ckR_any x n c f w1 (HS.out.below B1.out (Nat.le_refl _))
      refine CC.mono ?_
      clear CC
      rintro e w2 ⟨rfl, b2⟩
      rw [K1.out]
      have B2 : Hid (Below w.heap.size w w2) := below_next B1.out b2
      clear b2 B1
      go_wp2
      go_ret2
      exact ⟨rfl, B2.out⟩
    · have hne : crf f n ≠ 0 := by rw [k1]; decide
      rw [iffy_no hne, k1]
      have K1 : Hid (crf f n = 171) := k1
      clear k1 hne
      go_enter Tryz.func7, Tryz.ntmps7
      go_wp2_with fail
      refine (ckL_any l _).mono ?_
      rintro e w1 ⟨rfl, b1⟩
      rw [H2.out]
      have B1 : Hid (Below w.heap.size w w1) := ((Below.refl _ _).alloc (Nat.le_refl _) _).trans (b1.mono (by rw [World.size_alloc]; omega))
      clear b1
      go_wp2_with fail
      have CC := ckR_any x n c f w1 (HS.out.below B1.out (Nat.le_refl _))
      refine CC.mono ?_
      clear CC
      rintro e w2 ⟨rfl, b2⟩
      rw [K1.out]
      have B2 : Hid (Below w.heap.size w w2) := below_next B1.out b2
      clear b2 B1
      go_wp2
      go_ret2
      exact ⟨rfl, B2.out⟩
  · rw [mkC_lab h2, iffy_no (by decide)]
    have H2 : Hid (lab l = 130) := h2
    clear h1 h2
    go_enter Tryz.func7, Tryz.ntmps7
    go_wp2_with fail
    refine (ckL_any l _).mono ?_
    rintro e w1 ⟨rfl, b1⟩
    rw [H2.out]
    have B1 : Hid (Below w.heap.size w w1) := ((Below.refl _ _).alloc (Nat.le_refl _) _).trans (b1.mono (by rw [World.size_alloc]; omega))
    clear b1
    go_wp2
    go_ret2
    exact ⟨rfl, B1.out⟩

end Go.Proofs.YtdjjleahfciipaaGreatDoor
/- The law SpathBack, walked. -/
namespace Go.Proofs.YtdjjleahfciipaaGreatDoor
open Go.RowKit

theorem app_assoc (a b c : ByteArray) : (a ++ b) ++ c = a ++ (b ++ c) := by
  apply ByteArray.ext
  simp [ByteArray.data_append, Array.append_assoc]
theorem vl_lt32 (v : Int) (h0 : 0 ≤ v) (h1 : v < 32) : 0 ≤ vl (lt32 v) := by
  obtain ⟨n, rfl⟩ : ∃ n : Nat, v = n := ⟨v.toNat, by omega⟩
  rw [vl_lt n (by omega)]; omega
theorem fb_bd (s : ByteArray) (k : Nat) : 0 ≤ fb s k ∧ fb s k < 32 := by unfold fb; omega
theorem lt32_bd (v : Int) : 0 ≤ lt32 v ∧ lt32 v < 256 := bt_bd _ _
theorem hashP_ok (f : Nat → ByteArray) (n : Nat) (D : Nat → Int) (l : ByteArray) : hshOk (hashP f n D l) := by
  refine ⟨hashP_size f n D l, fun k hk => ?_⟩
  have hz := hashP_size f n D l
  unfold hashP at hz ⊢
  generalize foS (shS (nmS f n D l)) = X at hz ⊢
  unfold b32Str at hz ⊢
  rw [strFn_size] at hz
  have hb := lt32_bd (fb X (5 * (lf X.size - 1 - k)))
  have e : bt (strFn (lf X.size) (b32Fn X)) k = b32Fn X k := bt_strFn _ _ _ (by omega) hb.1 hb.2
  rw [e]
  have := fb_bd X (5 * (lf X.size - 1 - k))
  exact vl_lt32 _ this.1 this.2

theorem bt_app (a b : ByteArray) (k : Nat) (hk : k < (a ++ b).size) : bt (a ++ b) k = if k < a.size then bt a k else bt b (k - a.size) := by
  rw [ByteArray.size_append] at hk
  by_cases h : k < a.size
  · rw [if_pos h]; exact bt_left a b k h
  · rw [if_neg h]
    have := bt_right a b (k - a.size) (by omega)
    rw [show a.size + (k - a.size) = k from by omega] at this
    exact this
theorem dirS_size : dirS.size = 13 := rfl

/-- The path of a hash and a label, in two parts. -/
theorem path_parts (h l : ByteArray) (hz : h.size = 32) : (((dirS ++ h) ++ ⟨#[45]⟩) ++ l : ByteArray).size = 46 + l.size ∧ (((dirS ++ h) ++ ⟨#[45]⟩) ++ l : ByteArray).extract 0 13 = dirS ∧ pHash (((dirS ++ h) ++ ⟨#[45]⟩) ++ l) = h ∧ pLab (((dirS ++ h) ++ ⟨#[45]⟩) ++ l) = l ∧ bt (((dirS ++ h) ++ ⟨#[45]⟩) ++ l) 45 = 45 ∧ (((dirS ++ h) ++ ⟨#[45]⟩) ++ l : ByteArray).extract 13 (46 + l.size) = (h ++ ⟨#[45]⟩) ++ l := by
  have s1 : (ByteArray.mk #[45]).size = 1 := rfl
  have b1 : bt ⟨#[45]⟩ 0 = 45 := by decide +kernel
  have hs : (((dirS ++ h) ++ ⟨#[45]⟩) ++ l : ByteArray).size = 46 + l.size := by
    rw [ByteArray.size_append, ByteArray.size_append, ByteArray.size_append, dirS_size, hz, s1]
  have hs3 : ((dirS ++ h) ++ ⟨#[45]⟩ : ByteArray).size = 46 := by rw [ByteArray.size_append, ByteArray.size_append, dirS_size, hz, s1]
  have hs2 : (dirS ++ h : ByteArray).size = 45 := by rw [ByteArray.size_append, dirS_size, hz]
  have hb : ∀ k, k < 46 + l.size → bt (((dirS ++ h) ++ ⟨#[45]⟩) ++ l) k = if k < 13 then bt dirS k else if k < 45 then bt h (k - 13) else if k < 46 then 45 else bt l (k - 46) := fun k hk => by
    rw [bt_app _ _ _ (by omega), hs3]
    by_cases h46 : k < 46
    · rw [if_pos h46, bt_app _ _ _ (by omega), hs2]
      by_cases h45 : k < 45
      · rw [if_pos h45, bt_app _ _ _ (by omega), dirS_size]
        by_cases h13 : k < 13
        · rw [if_pos h13, if_pos h13]
        · rw [if_neg h13, if_neg h13, if_pos h45]
      · rw [if_neg h45, if_neg (by omega), if_neg h45, if_pos h46, show k - 45 = 0 from by omega, b1]
    · rw [if_neg h46, if_neg (by omega), if_neg (by omega), if_neg h46]
  generalize ((dirS ++ h) ++ ⟨#[45]⟩) ++ l = p at hs hb
  refine ⟨hs, ?_, ?_, ?_, ?_, ?_⟩
  · apply bytes_ext
    · rw [size_ext _ _ _ (by omega), dirS_size]
    · intro k hk
      rw [size_ext _ _ _ (by omega)] at hk
      rw [bt_extract _ _ _ _ (by omega) (by omega), Nat.zero_add, hb k (by omega), if_pos (by omega)]
  · apply bytes_ext
    · unfold pHash; rw [size_ext _ _ _ (by omega), hz]
    · intro k hk
      unfold pHash at hk ⊢
      rw [size_ext _ _ _ (by omega)] at hk
      rw [bt_extract _ _ _ _ (by omega) (by omega), hb _ (by omega), if_neg (by omega), if_pos (by omega), Nat.add_sub_cancel_left]
  · apply bytes_ext
    · unfold pLab; rw [size_ext _ _ _ (by omega)]; omega
    · intro k hk
      unfold pLab at hk ⊢
      rw [size_ext _ _ _ (by omega)] at hk
      rw [bt_extract _ _ _ _ (by omega) (by omega), hb _ (by omega), if_neg (by omega), if_neg (by omega), if_neg (by omega), Nat.add_sub_cancel_left]
  · rw [hb 45 (by omega), if_neg (by omega), if_neg (by omega), if_pos (by omega)]
  · have hsr : ((h ++ ⟨#[45]⟩) ++ l : ByteArray).size = 33 + l.size := by rw [ByteArray.size_append, ByteArray.size_append, hz, s1]
    have hsr2 : (h ++ ⟨#[45]⟩ : ByteArray).size = 33 := by rw [ByteArray.size_append, hz, s1]
    apply bytes_ext
    · rw [size_ext _ _ _ (by omega), hsr]; omega
    · intro k hk
      rw [size_ext _ _ _ (by omega)] at hk
      rw [bt_extract _ _ _ _ (by omega) (by omega), hb _ (by omega), if_neg (by omega), bt_app _ _ _ (by omega), hsr2]
      by_cases h33 : k < 33
      · rw [if_pos h33, bt_app _ _ _ (by omega), hz]
        by_cases h32 : k < 32
        · rw [if_pos h32, if_pos (by omega), Nat.add_sub_cancel_left]
        · rw [if_neg h32, if_neg (by omega), if_pos (by omega), show k - 32 = 0 from by omega, b1]
      · rw [if_neg h33, if_neg (by omega), if_neg (by omega)]
        congr 1; omega

theorem mkS_good (f : Nat → ByteArray) (n : Nat) (D : Nat → Int) (l : ByteArray) (hl : labOk l) :
    prC (mkS f n D l) = 0 ∧ prH (mkS f n D l) = hashP f n D l ∧ prL (mkS f n D l) = l ∧ (mkS f n D l).extract 13 (mkS f n D l).size = (hashP f n D l ++ ⟨#[45]⟩) ++ l ∧ dirS ++ ((hashP f n D l ++ ⟨#[45]⟩) ++ l) = mkS f n D l := by
  obtain ⟨h1, h2, h3, h4, h5, h6⟩ := path_parts (hashP f n D l) l (hashP_size f n D l)
  have e : mkS f n D l = ((dirS ++ hashP f n D l) ++ ⟨#[45]⟩) ++ l := rfl
  rw [← e] at h1 h2 h3 h4 h5 h6
  have hsh : shp (mkS f n D l) := ⟨by omega, by unfold pre; rw [h2]; simp, h5⟩
  have hc : prC (mkS f n D l) = 0 := by
    rw [prC_lab hsh (by rw [h3]; exact hashP_ok f n D l), h4]; exact lab_yes hl
  refine ⟨hc, ?_, ?_, by rw [h1, h6], ?_⟩
  · unfold prH; rw [iffy_yes hc, h3]
  · unfold prL; rw [iffy_yes hc, h4]
  · rw [e]; simp only [app_assoc]

end Go.Proofs.YtdjjleahfciipaaGreatDoor
