/- spath.hashOf, walked. -/
import Derived.Test.YtnfcnfhchfmcpabDoorPtR
import Derived.Test.YtnfcnfhchfmcpabDoorOfI
import Derived.Test.YtnfcnfhchfmcpabDoorFoT
import Derived.Test.YtnfcnfhchfmcpabDoorB32N
namespace Go.Proofs.YtnfcnfhchfmcpabDoor
open Go.RowKit

/-- The text whose digest gives the hash: its beginning. -/
def tx (f : Nat → ByteArray) : Nat → ByteArray
  | 0 => ⟨#[116, 114, 101, 101]⟩
  | k + 1 => tx f k ++ (⟨#[58]⟩ ++ f k)
theorem tx_succ (f : Nat → ByteArray) (k : Nat) : tx f (k + 1) = tx f k ++ (⟨#[58]⟩ ++ f k) := by rw [tx]
/-- Its end. -/
def tlS (D : Nat → Int) (l : ByteArray) : ByteArray :=
  ((((⟨#[58, 115, 104, 97, 50, 53, 54, 58]⟩ ++ hexStr (strFn 32 D)) ++ ⟨#[58]⟩) ++ ⟨#[47, 100, 101, 112, 111, 116, 47, 115, 116, 111, 114, 101, 47]⟩) ++ ⟨#[58]⟩) ++ l
def nmS (f : Nat → ByteArray) (n : Nat) (D : Nat → Int) (l : ByteArray) : ByteArray := tx f n ++ tlS D l
def dgF (s : ByteArray) : Nat → Int := dg (hw (bt (msg s)) (nb s))
/-- The digest as a text. -/
def shS (s : ByteArray) : ByteArray := strFn 32 (dgF s)
def foS (s : ByteArray) : ByteArray := strFn 20 (foldFn s 20 s.size)
/-- The hash that Make gives. -/
def hashP (f : Nat → ByteArray) (n : Nat) (D : Nat → Int) (l : ByteArray) : ByteArray := b32Str (foS (shS (nmS f n D l)))

theorem dgs_is (s : ByteArray) : dgs s = cs .u8 32 (dgF s) := rfl
theorem sz_mk (a : Array UInt8) : (ByteArray.mk a).size = a.size := rfl
theorem tx_size (f : Nat → ByteArray) (k : Nat) (h : ∀ i, i < k → (f i).size ≤ 257) : (tx f k).size ≤ 4 + 258 * k := by
  induction k with
  | zero => show 4 ≤ 4; exact Nat.le_refl _
  | succ k ih =>
    have h1 := ih (fun i hi => h i (by omega))
    have h2 := h k (by omega)
    unfold tx
    rw [ByteArray.size_append, ByteArray.size_append]
    have : (ByteArray.mk #[58]).size = 1 := rfl
    omega
theorem hex_size (s : ByteArray) : (hexStr s).size = 2 * s.size := by unfold hexStr; rw [strFn_size]
theorem tlS_size (D : Nat → Int) (l : ByteArray) : (tlS D l).size = 87 + l.size := by
  unfold tlS
  rw [ByteArray.size_append, ByteArray.size_append, ByteArray.size_append, ByteArray.size_append, ByteArray.size_append, hex_size, strFn_size]
  show 8 + 2 * 32 + 1 + 13 + 1 + l.size = _
  omega
theorem empty_app (a : ByteArray) : ByteArray.empty ++ a = a := by
  apply bytes_ext
  · rw [ByteArray.size_append]; show 0 + a.size = a.size; omega
  · intro k hk
    rw [ByteArray.size_append, size_empty] at hk
    have := bt_right ByteArray.empty a k (by omega)
    rw [size_empty, Nat.zero_add] at this
    exact this
theorem below_gb {w0 w w' : World} {g : Nat} (b : Below w0.heap.size w0 w) (G : w.grownBy w' (some g)) (hg : w0.heap.size ≤ g) : Below w0.heap.size w0 w' :=
  b.trans ⟨G.os, G.tape, G.output, G.size, fun k hk => G.block k (by have := b.size; omega) (by simp; omega)⟩
theorem below_next {w0 w w' : World} (b : Below w0.heap.size w0 w) (c : Below w.heap.size w w') : Below w0.heap.size w0 w' := b.trans (c.mono b.size)

set_option maxRecDepth 100000 in
set_option maxHeartbeats 4000000 in
theorem hashOf_any (x : Option Addr) (n c : Nat) (f : Nat → ByteArray) (D : Nat → Int) (l : ByteArray) (w : World) (hS : SIs w x n f) (hn : n ≤ 1024) (hf : ∀ i, i < n → (f i).size ≤ 257) (hl : l.size ≤ 211) (hK : KT w) :
    Calls Tryd.prog 9 #[.slice x n c, .agg (cs .u8 32 D), .string l] w fun e w' => e = .returned (.string (hashP f n D l)) ∧ Below w.heap.size w w' := by
  have HK : Hid (KT w) := hK
  have z0 : 0 < w.heap.size := hK.lt
  have HS : Hid (SIs w x n f) := hS
  have HF : Hid (∀ i, i < n → (f i).size ≤ 257) := hf
  have HH : Hid (hashP f n D l = b32Str (foS (shS (tx f n ++ tlS D l)))) := by unfold Hid hashP nmS; rfl
  clear hK hS hf
  go_enter Tryd.func9, Tryd.ntmps9
  go_wp2_with fail
  -- @1
  refine (new_wrote _).mono ?_
  rintro e w1 ⟨g, rfl, hg, hg2, S1, b1⟩
  have R1 : Row .u8 w1 w.heap.size 32 D := Row.below Row.box b1 (by rw [World.size_alloc]; omega)
  have B1 : Below w.heap.size w w1 := ((Below.refl _ _).alloc (Nat.le_refl _) _).trans (b1.mono (by rw [World.size_alloc]; omega))
  have z1 : w.heap.size < g := by rw [World.size_alloc] at hg; omega
  have K1 : Hid (KT w1) := HK.out.below B1
  clear b1 hg HK
  -- @2
  go_wp2_with fail
  -- @3
  refine (writeText_wrote g ByteArray.empty ⟨#[116, 114, 101, 101]⟩ _ S1 (by decide) K1.out (by omega)).mono ?_
  rintro e w2 ⟨rfl, S2, G2⟩
  rw [empty_app] at S2
  have R2 : Row .u8 w2 w.heap.size 32 D := R1.same (G2.block _ (by omega) (by simp; omega))
  have B2 := below_gb B1 G2 (by omega)
  have K2 : Hid (KT w2) := K1.out.grown G2 (by omega)
  have z2 : g < w2.heap.size := by have := G2.size; omega
  have zg : 0 < g := by omega
  clear S1 R1 B1 K1 G2 hg2
  -- @4
  go_wp2
  -- @5
  go_loopw [18] (fun i wr => ∃ k : Nat, k ≤ n ∧ i = .int .i64 k ∧ Hid (Wrote wr g (tx f k)) ∧ Hid (KT wr) ∧ Hid (Row .u8 wr w.heap.size 32 D) ∧ Hid (Below w.heap.size w wr) ∧ Hid (g < wr.heap.size)) (fun i _ => n - (intOf i).toNat)
  case atStart => exact ⟨0, Nat.zero_le _, rfl, S2, K2, R2, B2, z2⟩
  case round =>
    obtain ⟨k, hk, rfl, SW, KW, RW, BW, ZW⟩ := hrel
    by_cases hlt : k < n
    · have hfk := HF.out k hlt
      have hts := tx_size f k (fun i hi => HF.out i (by omega))
      obtain ⟨a, rfl, c0⟩ := HS.out.below BW.out (Nat.le_refl _) k hlt
      have hsz1 : (tx f k).size + ((⟨#[58]⟩ : ByteArray) ++ f k).size ≤ 2305843009213693952 := by
        have e : (ByteArray.mk #[58]).size = 1 := rfl
        rw [ByteArray.size_append, e]; omega
      have HZ1 : Hid (_ ≤ _) := hsz1
      clear hsz1
      -- @6
      go_wp2_with fail
      -- @7
      have CC := writeText_wrote g (tx f k) (⟨#[58]⟩ ++ f k) wr SW.out HZ1.out KW.out zg
      refine CC.mono ?_
      clear CC
      rintro e w3 ⟨rfl, S3, G3⟩
      have R3 : Hid (Row .u8 w3 w.heap.size 32 D) := RW.out.same (G3.block _ (by have := ZW.out; omega) (by simp; omega))
      have B3 : Hid (Below w.heap.size w w3) := below_gb BW.out G3 (by omega)
      have K3 : Hid (KT w3) := KW.out.grown G3 (by omega)
      have z3 : Hid (g < w3.heap.size) := by have := G3.size; have := ZW.out; unfold Hid; omega
      have HS3 : Hid (Wrote w3 g (tx f (k + 1))) := by rw [tx_succ]; exact S3
      clear SW KW RW BW ZW S3 G3 c0 hts
      -- @8
      go_wp2
      -- @9
      go_roundw
      case rel => exact ⟨k + 1, by omega, by go_num, HS3, K3, R3, B3, z3⟩
      case measure => simp [intOf]; omega
    · obtain rfl : k = n := by omega
      have hts := tx_size f k (fun i hi => HF.out i (by omega))
      clear HS HF
      have c1 := run_string_row (P := Tryd.prog) (src := 42) (dst := 9) (c := 32) Tryd.underlying42 Tryd.underlying5 Tryd.underlying9 RW.out
      have htl := tlS_size D l
      have hxs : (hexStr (strFn 32 D)).size = 64 := by rw [hex_size, strFn_size]
      -- @A
      go_wp2_with fail
      -- @B
      refine (hex_any (strFn 32 D) _ (by rw [strFn_size]; decide)).mono ?_
      rintro e w3 ⟨rfl, b3⟩
      have S3 : Hid (Wrote w3 g (tx f k)) := SW.out.below b3 ZW.out
      have B3 : Hid (Below w.heap.size w w3) := below_next BW.out b3
      have K3 : Hid (KT w3) := KW.out.below b3
      have z3 : Hid (g < w3.heap.size) := by have := b3.size; have := ZW.out; unfold Hid; omega
      clear b3 SW RW KW BW ZW c1
      go_wp2_with fail
      have CC := writeText_wrote g (tx f k) (tlS D l) w3 S3.out (by omega) K3.out zg
      -- @C
      refine CC.mono ?_
      clear CC
      -- @D
      rintro e w4 ⟨rfl, S4, G4⟩
      have B4 : Hid (Below w.heap.size w w4) := below_gb B3.out G4 (by omega)
      have K4 : Hid (KT w4) := K3.out.grown G4 (by omega)
      have HS4 : Hid (Wrote w4 g (tx f k ++ tlS D l)) := S4
      clear S3 B3 K3 z3 S4 G4
      have hsz : (tx f k ++ tlS D l).size ≤ 1152921504606846976 := by rw [ByteArray.size_append]; omega
      generalize tx f k ++ tlS D l = TX at HS4 HH hsz
      go_wp2_with fail
      have CC := sum_wrote g TX w4 HS4.out hsz K4.out zg
      -- @E
      refine CC.mono ?_
      clear CC
      rintro e w5 ⟨rfl, b5⟩
      rw [dgs_is]
      have B5 : Hid (Below w.heap.size w w5) := below_next B4.out b5
      clear B4 K4 HS4 b5 hsz htl hts hxs
      go_wp2_with (refine wpList_store_any (by rfl) 28 (.tmp 10) (.tmp 39) (by rfl) w5.heap.size (by rfl) (by rfl) (Row.rep (n := 32) (z := 0) rfl) Tryd.sz28 (by rfl) ?_; intro W6 R6 U6; have B6 : Hid (Below w.heap.size w W6) := U6.below (B5.out.alloc B5.out.size _) B5.out.size (by rw [World.size_alloc]; have := B5.out.size; omega); have c6 := run_string_row (P := Tryd.prog) (src := 42) (dst := 9) (c := 32) Tryd.underlying42 Tryd.underlying5 Tryd.underlying9 R6; clear U6 R6 B5; have hs6 : Hid ((strFn 32 (dgF TX)).size ≤ 140737488351232) := (by rw [strFn_size]; decide : (strFn 32 (dgF TX)).size ≤ 140737488351232); have hs7 : Hid (strFn 32 (dgF TX) = shS TX) := rfl; generalize strFn 32 (dgF TX) = ST at c6 hs6 hs7)
      refine (fold_any ST 20 W6 hs6.out (by decide) (by decide)).mono ?_
      rintro e w7 ⟨rfl, b7⟩
      have B7 : Hid (Below w.heap.size w w7) := below_next B6.out b7
      clear B6 b7 c6
      have hf7 : Hid (strFn 20 (foldFn ST 20 ST.size) = foS (shS TX)) := by unfold Hid foS; rw [hs7.out]
      have hf8 : Hid ((strFn 20 (foldFn ST 20 ST.size)).size ≤ 140737488351232) := (by rw [strFn_size]; decide : (strFn 20 (foldFn ST 20 ST.size)).size ≤ 140737488351232)
      generalize strFn 20 (foldFn ST 20 ST.size) = FO at hf7 hf8 ⊢
      go_wp2_with fail
      refine (b32_any FO w7 hf8.out).mono ?_
      rintro e w8 ⟨rfl, b8⟩
      have B8 : Hid (Below w.heap.size w w8) := below_next B7.out b8
      clear b8 B7
      go_wp2
      go_ret
      exact ⟨by rw [HH.out, ← hf7.out]; rfl, B8.out⟩

end Go.Proofs.YtnfcnfhchfmcpabDoor
