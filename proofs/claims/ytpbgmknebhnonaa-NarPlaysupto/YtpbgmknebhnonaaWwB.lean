/- wire.Text and the document's Text: the length, the text, noughts. -/
import Derived.Test.YtpbgmknebhnonaaWwA
import Derived.Test.YtpbgmknebhnonaaBuf
namespace Go.Proofs.Ytpbgmknebhnonaa
open Go.RowKit

/-- Byte j of a framed text. -/
def txF (s : ByteArray) (j : Nat) : Int := if j < 8 then w8 s.size j else if j < 8 + s.size then bt s (j - 8) else 0
/-- The framed text. -/
def txt (s : ByteArray) : ByteArray := strFn (8 + s.size + padN s.size) (txF s)

theorem w8_bd (n : Int) (j : Nat) : 0 ≤ w8 n j ∧ w8 n j < 256 := by unfold w8; omega
theorem txF_bd (s : ByteArray) (j : Nat) : 0 ≤ txF s j ∧ txF s j < 256 := by
  unfold txF
  split
  · exact w8_bd _ _
  · split
    · exact bt_bd _ _
    · omega

theorem bt_append (a b : ByteArray) (k : Nat) : bt (a ++ b) k = if k < a.size then bt a k else bt b (k - a.size) := by
  have hs : (a ++ b).size = a.size + b.size := ByteArray.size_append
  unfold bt
  by_cases h : k < a.size
  · rw [if_pos h, dif_pos h, dif_pos (by omega), ByteArray.getElem_append_left h]
  · rw [if_neg h]
    by_cases h2 : k < a.size + b.size
    · rw [dif_pos (by omega), dif_pos (by omega), ByteArray.getElem_append_right (by omega)]
    · rw [dif_neg (by omega), dif_neg (by omega)]

/-- The noughts of the program. -/
def n7 : ByteArray := { data := #[0, 0, 0, 0, 0, 0, 0] }
theorem bt_n7 (k p : Nat) : bt (n7.extract 0 p) k = 0 := by
  unfold bt
  split
  · rename_i h
    rw [ByteArray.size_extract] at h
    have hk : 0 + k < 7 := by have : n7.size = 7 := rfl; omega
    rw [ByteArray.getElem_extract]
    have : ∀ j, (hj : j < n7.size) → n7[j]'hj = 0 := by
      intro j hj
      have hj' : j < 7 := hj
      match j, hj' with
      | 0, _ | 1, _ | 2, _ | 3, _ | 4, _ | 5, _ | 6, _ => rfl
    rw [this]; rfl
  · rfl

theorem padN_lt (n : Nat) : padN n < 8 := by unfold padN; omega

theorem txt_eq (s : ByteArray) : strFn 8 (w8 s.size) ++ s ++ n7.extract 0 (padN s.size) = txt s := by
  have hp := padN_lt s.size
  have hs : (n7.extract 0 (padN s.size)).size = padN s.size := by
    rw [ByteArray.size_extract]; have : n7.size = 7 := rfl; omega
  apply bytes_ext
  · rw [ByteArray.size_append, ByteArray.size_append, strFn_size, hs]; unfold txt; rw [strFn_size]
  · intro k hk
    rw [ByteArray.size_append, ByteArray.size_append, strFn_size, hs] at hk
    unfold txt
    rw [bt_strFn _ _ _ hk (txF_bd s k).1 (txF_bd s k).2, bt_append, bt_append, ByteArray.size_append, strFn_size, bt_n7]
    unfold txF
    by_cases h1 : k < 8
    · rw [if_pos (by omega), if_pos h1, if_pos h1, bt_strFn _ _ _ h1 (w8_bd _ _).1 (w8_bd _ _).2]
    · rw [if_neg h1, if_neg h1]

set_option maxHeartbeats 400000 in
theorem text_any (s : ByteArray) (w : World) (hs : s.size ≤ 140737488351232) :
    Calls Try.prog 43 #[.string s] w fun e w' => e = .returned (.string (txt s)) ∧ Below w.heap.size w w' := by
  have E : Hid (strFn 8 (w8 s.size) ++ s ++ n7.extract 0 (padN s.size) = txt s) := txt_eq s
  have p8 := padN_lt s.size
  have z8 := strFn_size 8 (w8 s.size)
  go_enter Try.func43, Try.ntmps43
  go_wp2_with fail
  refine (int_any s.size _ (by omega) (by omega)).mono ?_
  rintro e w1 ⟨rfl, b1⟩
  go_wp2_with fail
  refine (padding_any s.size _ (by omega)).mono ?_
  rintro e w2 ⟨rfl, rfl⟩
  go_wp2
  rw [show ({ data := #[0, 0, 0, 0, 0, 0, 0] } : ByteArray) = n7 from rfl, E.out]
  go_ret
  exact ⟨rfl, b1⟩

set_option maxHeartbeats 400000 in
set_option maxRecDepth 20000 in
theorem rtext_any (s : ByteArray) (w : World) (hs : s.size ≤ 1048576) :
    Calls Try.prog 31 #[.string s] w fun e w' => e = .returned (.string (txt s)) ∧ Below w.heap.size w w' := by
  have p8 := padN_lt s.size
  go_enter Try.func31, Try.ntmps31
  go_wp2_with fail
  refine (rint_any s.size _ (by omega) (by omega)).mono ?_
  rintro e w1 ⟨rfl, b1⟩
  go_wp2_with fail
  rw [run_bytes_of_string (P := Try.prog) w1 9 51 5 (strFn 8 (w8 s.size)) Try.underlying9 Try.underlying51 Try.underlying5]
  have z8 := strFn_size 8 (w8 s.size)
  have O0 := (Buf.bytes w1 5 (strFn 8 (w8 s.size)) w.heap.size b1.size (by omega)).congr (F' := fun j => .int .u8 (txF s j)) (fun j hj => by
    have hj8 : j < 8 := by omega
    show Value.int .u8 (bt (strFn 8 (w8 s.size)) j) = Value.int .u8 (txF s j)
    rw [bt_strFn _ _ _ hj8 (w8_bd _ _).1 (w8_bd _ _).2]
    unfold txF
    rw [if_pos hj8])
  have B0 : Below w.heap.size w (w1.drew.alloc (.cells (bytesRow (strFn 8 (w8 s.size)) (grownCap w1 (strFn 8 (w8 s.size)).size 0 5)) 5 ((bytesRow (strFn 8 (w8 s.size)) (grownCap w1 (strFn 8 (w8 s.size)).size 0 5)).size, (bytesRow (strFn 8 (w8 s.size)) (grownCap w1 (strFn 8 (w8 s.size)).size 0 5)).size + 1))) := b1.drew.alloc b1.size _
  generalize w1.drew.alloc (.cells (bytesRow (strFn 8 (w8 s.size)) (grownCap w1 (strFn 8 (w8 s.size)).size 0 5)) 5 ((bytesRow (strFn 8 (w8 s.size)) (grownCap w1 (strFn 8 (w8 s.size)).size 0 5)).size, (bytesRow (strFn 8 (w8 s.size)) (grownCap w1 (strFn 8 (w8 s.size)).size 0 5)).size + 1)) = W2 at O0 B0 ⊢
  rw [z8] at O0 ⊢
  generalize Value.slice (some ⟨w1.heap.size, 0, none⟩) 8 (grownCap w1 8 0 5) = v0 at O0 ⊢
  obtain ⟨i0, hi, hz0, hz1, hz2⟩ := info_parts Try.info5
  clear z8
  have HP : Hid (padN s.size = (8 - s.size % 8) % 8) := rfl
  generalize hp : padN s.size = p at *
  have Hp : Hid (padN s.size = p) := hp
  clear hp
  have F1 : ∀ k, k < s.size → Hid (bt s k = txF s (8 + k)) := fun k hk => by
    unfold Hid txF
    rw [if_neg (by omega), if_pos (by omega), show 8 + k - 8 = k by omega]
  have F2 : ∀ k, s.size ≤ k → Hid (0 = txF s (8 + k)) := fun k hk => by
    unfold Hid txF
    rw [if_neg (by omega), if_neg (by omega)]
  go_wp2_with fail
  go_loopw [3, 4] (fun v i wr => ∃ k : Nat, k ≤ s.size + p ∧ i = .int .i64 k ∧ Buf wr w.heap.size v (8 + k) (fun j => .int .u8 (txF s j)) ∧ Below w.heap.size w wr) (fun _ i _ => s.size + p - (intOf i).toNat)
  case atStart => exact ⟨0, by omega, rfl, O0, B0⟩
  case round =>
    clear O0 B0 b1
    obtain ⟨k, hk, rfl, O, B⟩ := hrel
    have hsz := B.size
    have hg := get_bt s
    by_cases hks : k < s.size
    · have f1 := F1 k hks
      go_wp2_with (at_builtin; refine wpList_append_buf _ rfl _ _ 51 rfl w.heap.size 5 i0 (.int .u8 0) 1 Try.underlying51 hi hz0 hz1 hz2 (by decide) rfl _ (8 + k) (fun j => .int .u8 (txF s j)) rfl (O.alloc _) _ 1 rfl ?c1 rfl (by omega) (by simp; omega) ?_)
      case c1 => 
        show _ = some (Value.int .u8 (txF s (8 + k)))
        rw [← f1.out]; simp
      intro v' w1 O' b' _
      have B' : Below w.heap.size w w1 := (B.alloc hsz _).trans b'
      clear O B b'
      go_wp2
      go_roundw
      case rel => exact ⟨k + 1, by omega, by go_num, by rw [show 8 + (k + 1) = 8 + k + 1 by omega]; exact O', B'⟩
      case measure => simp [intOf]; omega
    · by_cases hkp : k < s.size + p
      · have f2 := F2 k (by omega)
        have ht : ((k : Int) % 8 != 0) = true := by have := HP.out; simp; omega
        go_wp2_with (at_builtin; refine wpList_append_buf _ rfl _ _ 51 rfl w.heap.size 5 i0 (.int .u8 0) 1 Try.underlying51 hi hz0 hz1 hz2 (by decide) rfl _ (8 + k) (fun j => .int .u8 (txF s j)) rfl (O.alloc _) _ 1 rfl ?c1 rfl (by omega) (by simp; omega) ?_)
        case c1 => 
          show _ = some (Value.int .u8 (txF s (8 + k)))
          rw [← f2.out]; simp
        intro v' w1 O' b' _
        have B' : Below w.heap.size w w1 := (B.alloc hsz _).trans b'
        clear O B b'
        go_wp2
        go_roundw
        case rel => exact ⟨k + 1, by omega, by go_num, by rw [show 8 + (k + 1) = 8 + k + 1 by omega]; exact O', B'⟩
        case measure => simp [intOf]; omega
      · have hkk : Hid (8 + k = 8 + s.size + p) := by unfold Hid; omega
        have ht : ((k : Int) % 8 != 0) = false := by have := HP.out; simp; omega
        rcases O with ⟨_, h0⟩ | ⟨g, cap, rfl, _, hgl, _, _, hcell, hfree⟩
        · omega
        have R : Row .u8 wr g (8 + k) (txF s) := ⟨hcell, fun j hj => (hfree j (by omega)).2⟩
        clear hcell hfree
        have c1 := run_string_row (P := Try.prog) (src := 51) (dst := 9) (c := cap) Try.underlying51 Try.underlying5 Try.underlying9 R
        go_wp2
        go_ret
        refine ⟨?_, B⟩
        unfold txt
        rw [Hp.out, ← hkk.out]
        rfl

end Go.Proofs.Ytpbgmknebhnonaa
