/- Plain laws: what Hex and Base32 write is read again, and what is read is written again as it was. -/
import Derived.Test.YtgnlkggodchlbaaDoorB32C
namespace Go.Proofs.YtgnlkggodchlbaaDoor
open Go.RowKit

theorem lt32_bd : ∀ d : Nat, d < 32 → 0 ≤ lt32 d ∧ lt32 d < 256 := by decide +kernel
theorem b32Str_size (b : ByteArray) : (b32Str b).size = lf b.size := strFn_size _ _
theorem b32Fn_num (b : ByteArray) (i : Nat) : b32Fn b i = lt32 ((bnum b / 32 ^ (lf b.size - 1 - i) % 32 : Nat) : Int) := by
  unfold b32Fn
  rw [fb_num]
theorem b32Str_bt (b : ByteArray) (i : Nat) (hi : i < lf b.size) : bt (b32Str b) i = lt32 ((bnum b / 32 ^ (lf b.size - 1 - i) % 32 : Nat) : Int) := by
  have h := lt32_bd (bnum b / 32 ^ (lf b.size - 1 - i) % 32) (Nat.mod_lt _ (by omega))
  rw [← b32Fn_num] at h
  rw [← b32Fn_num]
  exact bt_strFn _ _ _ hi h.1 h.2
theorem vl_b32 (b : ByteArray) (i : Nat) (hi : i < lf b.size) : vl (bt (b32Str b) i) = ((bnum b / 32 ^ (lf b.size - 1 - i) % 32 : Nat) : Int) := by
  rw [b32Str_bt b i hi]
  exact vl_lt _ (Nat.mod_lt _ (by omega))

theorem pow_le_32 (n m : Nat) (h : 8 * n ≤ 5 * m) : 256 ^ n ≤ 32 ^ m := by
  rw [show (32 : Nat) = 2 ^ 5 from rfl, show (256 : Nat) = 2 ^ 8 from rfl, ← Nat.pow_mul, ← Nat.pow_mul]
  exact Nat.pow_le_pow_right (by omega) h

theorem fb_empty (s : ByteArray) (h : fbErr s ≠ 0) : fbStr s = ⟨#[]⟩ := by unfold fbStr; rw [if_neg h]

theorem b32_back (b : ByteArray) : fbStr (b32Str b) = b ∧ fbErr (b32Str b) = 0 := by
  have hs := b32Str_size b
  have hl : 5 * lf b.size / 8 = b.size := by unfold lf; omega
  have h8 : 8 * b.size ≤ 5 * lf b.size := by unfold lf; omega
  have hok : fbOk (b32Str b) (b32Str b).size = true := (fbOk_iff _ _).2 (fun j hj => by rw [vl_b32 b j (by omega)]; omega)
  have hv : vnum (b32Str b) (b32Str b).size = bnum b := by
    unfold vnum
    rw [hs, num_congr 32 (g := fun t => bnum b / 32 ^ t % 32) _ (fun t ht => by
      rw [vl_b32 b _ (by omega), Int.toNat_natCast, show lf b.size - 1 - (lf b.size - 1 - t) = t from by omega]), num_of 32 _ _ (by omega)]
    exact Nat.mod_eq_of_lt (Nat.lt_of_lt_of_le (bnum_lt b) (pow_le_32 _ _ h8))
  have he : fbErr (b32Str b) = 0 := by
    unfold fbErr
    rw [hok, hv, hs, hl, if_pos rfl, if_pos rfl, Nat.div_eq_of_lt (bnum_lt b), if_pos (by rfl)]
  refine ⟨?_, he⟩
  unfold fbStr
  rw [if_pos he, hv, hs, hl]
  apply bnum_inj
  · rw [strFn_size]
  · exact (bnum_strFn _ _).trans (Nat.mod_eq_of_lt (bnum_lt b))

theorem b32_one (s : ByteArray) (h : fbErr s = 0) : b32Str (fbStr s) = s := by
  have hl : lf (5 * s.size / 8) = s.size := by
    unfold fbErr at h
    split at h
    · assumption
    · omega
  have hok : fbOk s s.size = true := by
    unfold fbErr at h
    rw [if_pos hl] at h
    split at h
    · assumption
    · omega
  have hz : vnum s s.size / 256 ^ (5 * s.size / 8) % 256 = 0 := by
    unfold fbErr at h
    rw [if_pos hl, if_pos hok] at h
    split at h
    · assumption
    · omega
  have ho := (fbOk_iff _ _).1 hok
  have hfs : fbStr s = strFn (5 * s.size / 8) (fbFn (vnum s s.size)) := by unfold fbStr; rw [if_pos h]
  have hsz : (fbStr s).size = 5 * s.size / 8 := by rw [hfs, strFn_size]
  have h16 : vnum s s.size / 256 ^ (5 * s.size / 8) < 16 := by
    rw [Nat.div_lt_iff_lt_mul (Nat.pow_pos (by omega))]
    refine Nat.lt_of_lt_of_le (vnum_lt s s.size) ?_
    rw [show (32 : Nat) = 2 ^ 5 from rfl, show (256 : Nat) = 2 ^ 8 from rfl, show (16 : Nat) = 2 ^ 4 from rfl, ← Nat.pow_mul, ← Nat.pow_mul, ← Nat.pow_add]
    exact Nat.pow_le_pow_right (by omega) (by unfold lf at hl; omega)
  have hlt : vnum s s.size < 256 ^ (5 * s.size / 8) := by
    rw [Nat.mod_eq_of_lt (Nat.lt_trans h16 (by omega))] at hz
    exact (Nat.div_eq_zero_iff_lt (Nat.pow_pos (by omega))).1 hz
  have hn : bnum (fbStr s) = vnum s s.size := by
    rw [hfs]
    exact (bnum_strFn _ _).trans (Nat.mod_eq_of_lt hlt)
  have hlf : lf (fbStr s).size = s.size := by rw [hsz, hl]
  apply bytes_ext
  · rw [b32Str_size, hlf]
  · intro k hk
    rw [b32Str_size, hlf] at hk
    rw [b32Str_bt _ _ (by rw [hlf]; exact hk), hlf, hn]
    have hd : vnum s s.size / 32 ^ (s.size - 1 - k) % 32 = (vl (bt s k)).toNat := by
      unfold vnum
      rw [num_digit 32 _ (s.size - 1 - k) s.size (by omega) (fun i _ => by have := vl_spec _ (bt_bd s (s.size - 1 - i)); omega) (by omega), show s.size - 1 - (s.size - 1 - k) = k from by omega]
    rw [hd]
    have h1 := ho k hk
    rcases vl_spec _ (bt_bd s k) with h2 | h2
    · rw [show ((vl (bt s k)).toNat : Int) = vl (bt s k) from by omega]
      exact h2.2.2
    · omega
end Go.Proofs.YtgnlkggodchlbaaDoor
