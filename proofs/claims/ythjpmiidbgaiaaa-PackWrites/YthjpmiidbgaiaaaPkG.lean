/- The packer's writePlain. -/
import Derived.Test.YthjpmiidbgaiaaaPkF
import Derived.Deep.RegionHeld3
namespace Go.Proofs.Ythjpmiidbgaiaaa
open Go.RowKit Go.Maps Go.WideMaps

theorem plT_fuel : ∀ (f f' : Nat) (l : List UInt8), l.length ≤ f → l.length ≤ f' → plT f l = plT f' l := by
  intro f
  induction f with
  | zero =>
    intro f' l h _
    have e : l.length = 0 := by omega
    cases f' with
    | zero => rfl
    | succ f' => unfold plT; rw [if_pos e]
  | succ f ih =>
    intro f' l h h'
    cases f' with
    | zero =>
      have e : l.length = 0 := by omega
      unfold plT; rw [if_pos e]
    | succ f' =>
      unfold plT
      by_cases e : l.length = 0
      · rw [if_pos e, if_pos e]
      · rw [if_neg e, if_neg e, ih f' (l.drop 128) (by rw [List.length_drop]; omega) (by rw [List.length_drop]; omega)]
theorem cutL_length (s : List UInt8) (p i : Nat) (h : i ≤ s.length) : (cutL s p i).length = i - p := by
  unfold cutL; rw [List.length_take, List.length_drop]; omega
theorem cutL_nil (s : List UInt8) (p i : Nat) (h : i ≤ p) : cutL s p i = [] := by unfold cutL; rw [show i - p = 0 by omega]; rfl
theorem plT_none (s : List UInt8) (p i : Nat) (h : i ≤ p) : plT (s.length + 1) (cutL s p i) = [] := by rw [cutL_nil s p i h]; rfl
theorem plT_step (s : List UInt8) (p i e : Nat) (hi : i ≤ s.length) (hp : p < i) (he : e = min (p + 128) i) :
    plT (s.length + 1) (cutL s p i) = UInt8.ofNat (e - p - 1) :: (cutL s p e ++ plT (s.length + 1) (cutL s e i)) := by
  have hl := cutL_length s p i hi
  rw [plT, if_neg (by omega), hl, show min 128 (i - p) - 1 = e - p - 1 by omega]
  have h1 : (cutL s p i).take 128 = cutL s p e := by
    unfold cutL
    rw [List.take_take, show min 128 (i - p) = e - p by omega]
  have h2 : (cutL s p i).drop 128 = cutL s e i := by
    unfold cutL
    rw [List.drop_take, List.drop_drop]
    by_cases h : i - p ≤ 128
    · rw [show i - p - 128 = 0 by omega, show i - e = 0 by omega, List.take_zero, List.take_zero]
    · rw [show p + 128 = e by omega, show i - p - 128 = i - e by omega]
  rw [h1, h2]
  have h3 : (cutL s e i).length ≤ s.length := by rw [cutL_length s e i hi]; omega
  rw [plT_fuel s.length (s.length + 1) _ h3 (by omega)]

theorem ba_cut (s : List UInt8) (p e : Nat) (h1 : p ≤ e) (h2 : e ≤ s.length) : (ba s).extract p e = ba (cutL s p e) := by
  apply bytes_ext
  · rw [ByteArray.size_extract, ba_size, ba_size, cutL_length s p e h2]; omega
  · intro k hk
    rw [ByteArray.size_extract, ba_size] at hk
    have h3 : k < (cutL s p e).length := by rw [cutL_length s p e h2]; omega
    rw [bt_ba _ _ h3]
    unfold bt
    rw [dif_pos (by rw [ByteArray.size_extract, ba_size]; omega), ByteArray.getElem_extract]
    have e2 : ∀ (j : Nat) (h : j < (ba s).size) (h4 : j = p + k), ((ba s)[j]'h).toNat = ((cutL s p e)[k]'h3).toNat := by
      intro j h h4
      subst h4
      show (s[p + k]'(by rw [ba_size] at h; exact h)).toNat = _
      simp only [cutL, List.getElem_take, List.getElem_drop]
    exact congrArg Int.ofNat (e2 _ _ rfl)

theorem i64wrap (z : Int) (h0 : 0 ≤ z) (h1 : z < 9223372036854775808) : IntKind.i64.wrap z = z := by
  rw [IntKind.wrap_i64]
  omega
theorem wbyte_b (wr : World) (g m : Nat) (v : Value) (s out : List UInt8) (pl n : Nat) (D : DataW Unit) (b : UInt8) (w : World) (q : Nat) (hw : w = wr.drewN q) (h : Pk wr g m v s out pl n D) (hlen : out.length ≤ 1073741824) :
    Calls Try.prog 38 #[.pointer (some ⟨g, 0, none⟩), .int .u8 (b.toNat : Int)] w fun e w' => e = .returned .nilIface ∧ (∃ v', Pk w' g m v' s (out ++ [b]) pl n D) ∧ Below g wr w' ∧ w'.cell? ⟨g, 4, none⟩ = some (.int .i64 (pl : Int)) := by
  subst hw
  refine (wbyte_any g m v s out pl n D b _ (h.drewN q) hlen).mono ?_
  rintro e w1 ⟨rfl, ⟨v1, P1⟩, B1⟩
  exact ⟨rfl, ⟨v1, P1⟩, (bel_drewN (Below.refl g wr) q).trans B1, by rw [Lib.cell_of_heap P1.blk]; rfl⟩
theorem wstr_b (wr : World) (g m : Nat) (v : Value) (s out : List UInt8) (pl n : Nat) (D : DataW Unit) (t : List UInt8) (T : ByteArray) (hT : T = ba t) (w : World) (q : Nat) (hw : w = wr.drewN q) (h : Pk wr g m v s out pl n D) (hlen : out.length + t.length ≤ 1073741824) :
    Calls Try.prog 20 #[.pointer (some ⟨g, 0, none⟩), .string T] w fun e w' => e = .returned (.tuple #[.int .i64 (t.length : Int), .nilIface]) ∧ (∃ v', Pk w' g m v' s (out ++ t) pl n D) ∧ Below g wr w' ∧ w'.cell? ⟨g, 4, none⟩ = some (.int .i64 (pl : Int)) ∧ w'.cell? ⟨g, 2, none⟩ = some (.string (ba s)) := by
  subst hw hT
  refine (wstr_any g m v s out pl n D t _ (h.drewN q) hlen).mono ?_
  rintro e w1 ⟨rfl, ⟨v1, P1⟩, B1⟩
  exact ⟨rfl, ⟨v1, P1⟩, (bel_drewN (Below.refl g wr) q).trans B1, by rw [Lib.cell_of_heap P1.blk]; rfl, by rw [Lib.cell_of_heap P1.blk]; rfl⟩

set_option maxHeartbeats 4000000 in
set_option maxRecDepth 10000 in
theorem writePlain_any (g m : Nat) (v : Value) (s out : List UInt8) (pl n : Nat) (D : DataW Unit) (to : Nat) (w : World) (h : Pk w g m v s out pl n D) (hs : s.length ≤ 1048576) (hto : to ≤ s.length) (hpl : pl ≤ to) (hlen : out.length + 2 * (to - pl) ≤ 1073741824) :
    Calls Try.prog 24 #[.pointer (some ⟨g, 0, none⟩), .int .i64 (to : Int)] w fun e w' => e = .returned (.tuple #[]) ∧ (∃ v', Pk w' g m v' s (out ++ plT (s.length + 1) (cutL s pl to)) to n D) ∧ Below g w w' := by
  have HP : Hid (Pk w g m v s out pl n D) := h
  have HL : Hid (out.length + 2 * (to - pl) ≤ 1073741824) := hlen
  have hsz := ba_size s
  clear h hlen
  go_enter Try.func24, Try.ntmps24
  go_wp2
  go_loopg [4] (to - pl) (fun gk _e wr => ∃ (k : Nat) (vk : Value) (ok : List UInt8), Hid (gk + k = to ∧ pl ≤ k ∧ ok.length + 2 * (to - k) ≤ 1073741824) ∧ Hid (Pk wr g m vk s ok k n D) ∧ Hid (ok ++ plT (s.length + 1) (cutL s k to) = out ++ plT (s.length + 1) (cutL s pl to)) ∧ Hid (Below g w wr))
  case atStart => exact ⟨pl, v, out, ⟨by omega, Nat.le_refl _, HL.out⟩, HP, rfl, Below.refl _ _⟩
  case round =>
    obtain ⟨k, vk, ok, hgk, hP, hO, hB⟩ := hrel
    have hk1 := hgk.out.1
    have hg := hP.out.lt
    have c4 : wr.cell? ⟨g, 4, none⟩ = some (.int .i64 (k : Int)) := by rw [Lib.cell_of_heap hP.out.blk]; rfl
    by_cases hk : k < to
    · obtain ⟨e, he⟩ : ∃ e, e = min (k + 128) to := ⟨_, rfl⟩
      have he1 : k < e := by omega
      have he2 : e ≤ to := by omega
      have he3 : e ≤ k + 128 := by omega
      have hst : Hid (plT (s.length + 1) (cutL s k to) = UInt8.ofNat (e - k - 1) :: (cutL s k e ++ plT (s.length + 1) (cutL s e to))) := plT_step s k to e hto hk he
      have hcl : Hid ((cutL s k e).length = e - k) := cutL_length s k e (by omega)
      have hbc : Hid ((ba s).extract k e = ba (cutL s k e)) := ba_cut s k e (by omega) (by omega)
      have hmin : (¬ (to : Int) < (k : Int) + 128 ∧ (k : Int) + 128 = (e : Int)) ∨ ((to : Int) < (k : Int) + 128 ∧ to = e) := by omega
      have hwr : IntKind.u8.wrap ((e : Int) - (k : Int) - 1) = ((UInt8.ofNat (e - k - 1)).toNat : Int) := u8wrap _ _ (by omega)
      generalize UInt8.ofNat (e - k - 1) = x1 at hwr hst
      clear he
      have ww1 : IntKind.i64.wrap ((e : Int) - (k : Int)) = (e : Int) - (k : Int) := i64wrap _ (by omega) (by omega)
      have ww2 : IntKind.i64.wrap ((e : Int) - (k : Int) - 1) = (e : Int) - (k : Int) - 1 := i64wrap _ (by omega) (by omega)
      rcases hmin with ⟨h1, h2⟩ | ⟨h1, h2⟩
      · skip
        go_wp2_with fail
        have cD : wr.drew.cell? ⟨g, 4, none⟩ = some (.int .i64 (k : Int)) := c4
        go_region_held3 (fun W => W.cell? ⟨g, 4, none⟩ = some (.int .i64 (k : Int)))
          (first | exact x8 | exact cD | exact c4)
          (first | (go_at_call 38; refine (wbyte_b wr g m vk s ok k n D x1 _ 1 rfl hP.out (by have := hgk.out.2.2; omega)).mono ?_; rintro e8 w8 ⟨rfl, P8, B8, x8⟩))
        obtain ⟨v5, P5⟩ := P8
        have HP5 : Hid (Pk w8 g m v5 s (ok ++ [x1]) k n D) := P5
        have HB5 : Hid (Below g w w8) := hB.out.trans B8
        have d2 : w8.cell? ⟨g, 2, none⟩ = some (.string (ba s)) := by rw [Lib.cell_of_heap P5.blk]; rfl
        clear P5 B8 cD c4
        go_wp2_with fail
        have cD4 : w8.drew.cell? ⟨g, 4, none⟩ = some (.int .i64 (k : Int)) := x8
        have cD2 : w8.drew.cell? ⟨g, 2, none⟩ = some (.string (ba s)) := d2
        have hslice := hbc.out
        have hk0 : (0 : Int) ≤ (k : Int) := by omega
        have hke : (k : Int) ≤ (e : Int) := by omega
        have hel : (e : Int) ≤ ((ba s).size : Int) := by rw [hsz]; omega
        have hel2 : (e : Int) ≤ (s.length : Int) := by omega
        have hel3 : e ≤ s.length := by omega
        have hel4 : k ≤ e := by omega
        go_region_held3 (fun W => W.cell? ⟨g, 4, none⟩ = some (.int .i64 (k : Int)) ∧ W.cell? ⟨g, 2, none⟩ = some (.string (ba s)))
          (first | exact ⟨y8, y2⟩ | exact ⟨cD4, cD2⟩ | exact ⟨x8, d2⟩)
          (first | (go_at_call 20; refine (wstr_b w8 g m v5 s (ok ++ [x1]) k n D (cutL s k e) _ rfl _ 1 rfl HP5.out (by have := hgk.out.2.2; rw [hcl.out]; simp; omega)).mono ?_; rintro e9 w9 ⟨rfl, P9, B9, y8, y2⟩))
        obtain ⟨v6, P6⟩ := P9
        have HP6 : Hid (Pk (w9.setCell ⟨g, 4, none⟩ (.int .i64 (e : Int))) g m v6 s (ok ++ [x1] ++ cutL s k e) e n D) := P6.setp e
        have HB6 : Hid (Below g w (w9.setCell ⟨g, 4, none⟩ (.int .i64 (e : Int)))) := (HB5.out.trans B9).setCell (p := ⟨g, 4, none⟩) (Nat.le_refl _) _
        have y4 : w9.frozen? ⟨g, 4, none⟩ = false := Lib.frozen_of_heap P6.blk 4
        clear P6 B9
        go_wp2
        go_roundg (to - e)
        case measure => omega
        case rel => exact ⟨e, v6, _, ⟨by omega, by have := hgk.out.2.1; omega, by have h7 := hgk.out.2.2; have h8 := hcl.out; simp; omega⟩, HP6, by have h7 := hO.out; rw [hst.out] at h7; unfold Hid; rw [← h7]; simp, HB6⟩
      · subst h2
        go_wp2_with fail
        have cD : wr.drew.cell? ⟨g, 4, none⟩ = some (.int .i64 (k : Int)) := c4
        go_region_held3 (fun W => W.cell? ⟨g, 4, none⟩ = some (.int .i64 (k : Int)))
          (first | exact x8 | exact cD | exact c4)
          (first | (go_at_call 38; refine (wbyte_b wr g m vk s ok k n D x1 _ 1 rfl hP.out (by have := hgk.out.2.2; omega)).mono ?_; rintro e8 w8 ⟨rfl, P8, B8, x8⟩))
        obtain ⟨v5, P5⟩ := P8
        have HP5 : Hid (Pk w8 g m v5 s (ok ++ [x1]) k n D) := P5
        have HB5 : Hid (Below g w w8) := hB.out.trans B8
        have d2 : w8.cell? ⟨g, 2, none⟩ = some (.string (ba s)) := by rw [Lib.cell_of_heap P5.blk]; rfl
        clear P5 B8 cD c4
        go_wp2_with fail
        have cD4 : w8.drew.cell? ⟨g, 4, none⟩ = some (.int .i64 (k : Int)) := x8
        have cD2 : w8.drew.cell? ⟨g, 2, none⟩ = some (.string (ba s)) := d2
        have hslice := hbc.out
        have hk0 : (0 : Int) ≤ (k : Int) := by omega
        have hke : (k : Int) ≤ (to : Int) := by omega
        have hel : (to : Int) ≤ ((ba s).size : Int) := by rw [hsz]; omega
        have hel2 : (to : Int) ≤ (s.length : Int) := by omega
        have hel3 : to ≤ s.length := by omega
        have hel4 : k ≤ to := by omega
        go_region_held3 (fun W => W.cell? ⟨g, 4, none⟩ = some (.int .i64 (k : Int)) ∧ W.cell? ⟨g, 2, none⟩ = some (.string (ba s)))
          (first | exact ⟨y8, y2⟩ | exact ⟨cD4, cD2⟩ | exact ⟨x8, d2⟩)
          (first | (go_at_call 20; refine (wstr_b w8 g m v5 s (ok ++ [x1]) k n D (cutL s k to) _ rfl _ 1 rfl HP5.out (by have := hgk.out.2.2; rw [hcl.out]; simp; omega)).mono ?_; rintro e9 w9 ⟨rfl, P9, B9, y8, y2⟩))
        obtain ⟨v6, P6⟩ := P9
        have HP6 : Hid (Pk (w9.setCell ⟨g, 4, none⟩ (.int .i64 (to : Int))) g m v6 s (ok ++ [x1] ++ cutL s k to) to n D) := P6.setp to
        have HB6 : Hid (Below g w (w9.setCell ⟨g, 4, none⟩ (.int .i64 (to : Int)))) := (HB5.out.trans B9).setCell (p := ⟨g, 4, none⟩) (Nat.le_refl _) _
        have y4 : w9.frozen? ⟨g, 4, none⟩ = false := Lib.frozen_of_heap P6.blk 4
        clear P6 B9
        go_wp2
        go_roundg (to - to)
        case measure => omega
        case rel => exact ⟨to, v6, _, ⟨by omega, by have := hgk.out.2.1; omega, by have h7 := hgk.out.2.2; have h8 := hcl.out; simp; omega⟩, HP6, by have h7 := hO.out; rw [hst.out] at h7; unfold Hid; rw [← h7]; simp, HB6⟩
    · obtain rfl : k = to := by have := hgk.out; omega
      have HF : Hid (ok = out ++ plT (s.length + 1) (cutL s pl k)) := by
        have := hO.out
        rw [plT_none s k k (Nat.le_refl _), List.append_nil] at this
        exact this
      go_wp2
      go_end0
      exact ⟨rfl, ⟨vk, HF.out ▸ hP.out⟩, hB.out⟩

end Go.Proofs.Ythjpmiidbgaiaaa
