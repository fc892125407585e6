/- strings.IndexRune and strings.ContainsRune over a text of ASCII bytes; spath.inLabel. -/
import Derived.Test.YtjhbfkckkinfjaaDoorRows
import Derived.Test.YtjhbfkckkinfjaaDoorMem
import Derived.Below
import Derived.Lib.Strings
import Derived.Lib.Bytealg
import Derived.WalkMore
import Derived.Deep.RegionWith
import Derived.Laws.RangeString
import Derived.Laws.RangeAny
import Derived.Laws.Runes
namespace Go.Proofs.YtjhbfkckkinfjaaDoor
open Go.RowKit

set_option maxHeartbeats 400000 in
theorem ib_any (s : ByteArray) (c : Int) (w : World) :
    Calls Tryd.prog 57 #[.string s, .int .u8 c] w fun e w' => e = .returned (.int .i64 (Lib.indexByte s.data.toList c.toNat.toUInt8)) ∧ w' = w := by
  have h : ∀ w, (callFunc 73 #[.string s, .int .u8 c]).run Tryd.prog w = .ok (.value (.int .i64 (Lib.indexByte s.data.toList c.toNat.toUInt8))) w := fun w => by
    rw [run_callFunc_extern Tryd.func73 (by kernel_rfl) (by kernel_rfl) (by kernel_rfl) (e := Extern.BytealgIndexByte.indexByte) (by kernel_rfl), Lib.run_indexByteString]
    rfl
  go_enter Tryd.func57, Tryd.ntmps57
  go_wp2
  go_ret
  exact ⟨rfl, rfl⟩

set_option maxHeartbeats 400000 in
set_option maxRecDepth 100000 in
theorem idxR_ascii (s : ByteArray) (r : Int) (w : World) (h0 : 0 ≤ r) (h1 : r < 128) :
    Calls Tryd.prog 71 #[.string s, .int .i32 r] w fun e w' => e = .returned (.int .i64 (Lib.indexByte s.data.toList r.toNat.toUInt8)) ∧ w' = w := by
  have hw : IntKind.u8.wrap r = r := by rw [IntKind.wrap_u8]; omega
  go_enter Tryd.func71, Tryd.ntmps71
  go_wp2_with fail
  refine (ib_any _ _ _).mono ?_
  rintro e w1 ⟨rfl, rfl⟩
  go_wp2
  try rw [Exit.noGoto_ret]
  go_ret
  exact ⟨rfl, rfl⟩

set_option maxHeartbeats 400000 in
theorem validR (r : Int) (w : World) (h : 128 ≤ r) :
    Calls Tryd.prog 80 #[.int .i32 r] w fun e w' => e = .returned (.bool (validRune r)) ∧ w' = w := by
  by_cases h1 : r < 55296
  · have hh : Hid (validRune r = true) := by unfold Hid validRune; exact decide_eq_true (Or.inl ⟨by omega, h1⟩)
    go_enter Tryd.func80, Tryd.ntmps80
    go_wp2
    go_ret
    exact ⟨by rw [hh.out]; rfl, rfl⟩
  · by_cases h2 : 57343 < r
    · by_cases h3 : r ≤ 1114111
      · have hh : Hid (validRune r = true) := by unfold Hid validRune; exact decide_eq_true (Or.inr ⟨h2, h3⟩)
        go_enter Tryd.func80, Tryd.ntmps80
        go_wp2
        go_ret
        exact ⟨by rw [hh.out]; rfl, rfl⟩
      · have hh : Hid (validRune r = false) := by unfold Hid validRune; exact decide_eq_false (by omega)
        go_enter Tryd.func80, Tryd.ntmps80
        go_wp2
        go_ret
        exact ⟨by rw [hh.out]; rfl, rfl⟩
    · have hh : Hid (validRune r = false) := by unfold Hid validRune; exact decide_eq_false (by omega)
      go_enter Tryd.func80, Tryd.ntmps80
      go_wp2
      go_ret
      exact ⟨by rw [hh.out]; rfl, rfl⟩

theorem iter_bel (w : World) (s : ByteArray) (pos : Nat) : Below w.heap.size w (w.iter s pos) := (Below.refl _ _).alloc (Nat.le_refl _) _

set_option maxHeartbeats 1000000 in
set_option maxRecDepth 100000 in
theorem idxR_err (s : ByteArray) (w : World) (ha : ∀ k, bt s k < 128) :
    Calls Tryd.prog 71 #[.string s, .int .i32 65533] w fun e w' => e = .returned (.int .i64 (-1)) ∧ Below w.heap.size w w' := by
  have HA : Hid (∀ k, bt s k < 128) := ha
  clear ha
  have hb := get_bt s
  go_enter Tryd.func71, Tryd.ntmps71
  go_wp2
  go_loopw [4] (fun v w' => v = .int .i64 0 ∧ ∃ pos, pos ≤ s.size ∧ w' = w.iter s pos) (fun _ w' => s.size - w'.iterPos w.heap.size)
  case atStart => exact ⟨rfl, 0, Nat.zero_le _, rfl⟩
  case round =>
    obtain ⟨rfl, pos, hle, rfl⟩ := hrel
    by_cases hp : pos < s.size
    · have hlt := HA.out pos
      have hlt' : (s[pos]'hp).toNat < 128 := by have := hb pos hp; omega
      have hnx : ∀ ty, (Instr.next (.pointer (some ⟨w.heap.size, 0, none⟩)) true ty).run Tryd.prog (w.iter s pos) = _ := fun ty => run_next_ascii w s pos ty hp hlt'
      rw [hb pos hp] at hnx
      have hne : (bt s pos == 65533) = false := by rw [beq_eq_false_iff_ne]; omega
      go_wp2
      go_roundw
      case rel => exact ⟨rfl, pos + 1, by omega, rfl⟩
      case measure => simp; omega
    · have hnx : ∀ ty, (Instr.next (.pointer (some ⟨w.heap.size, 0, none⟩)) true ty).run Tryd.prog (w.iter s pos) = _ := fun ty => run_next_end w s pos ty hp
      go_wp2
      try rw [Exit.noGoto_ret]
      go_ret
      exact ⟨rfl, iter_bel _ _ _⟩

set_option maxHeartbeats 1000000 in
set_option maxRecDepth 100000 in
theorem idxR_inv (s : ByteArray) (r : Int) (w : World) (h : 128 ≤ r) (hne : r ≠ 65533) (hv : validRune r = false) :
    Calls Tryd.prog 71 #[.string s, .int .i32 r] w fun e w' => e = .returned (.int .i64 (-1)) ∧ Below w.heap.size w w' := by
  have hn : (r == 65533) = false := by rw [beq_eq_false_iff_ne]; exact hne
  clear hne
  go_enter Tryd.func71, Tryd.ntmps71
  go_wp2_with fail
  refine (validR _ _ h).mono ?_
  rintro e w1 ⟨rfl, rfl⟩
  rw [hv]
  go_wp2
  try rw [Exit.noGoto_ret]
  go_ret
  exact ⟨rfl, Below.refl _ _⟩

theorem indexByte_none (l : List UInt8) (c : UInt8) (h : ∀ b ∈ l, b ≠ c) : Lib.indexByte l c = -1 := by
  induction l with
  | nil => rfl
  | cons b l ih =>
    have h1 := ih (fun x hx => h x (List.mem_cons_of_mem _ hx))
    have h2 := h b (List.mem_cons_self ..)
    unfold Lib.indexByte
    rw [if_neg (by simpa using h2), h1]
    rfl

theorem mem_bt (s : ByteArray) (ha : ∀ k, bt s k < 128) : ∀ b ∈ s.data.toList, b.toNat < 128 := by
  intro b hb
  obtain ⟨k, hk, e⟩ := List.mem_iff_getElem.1 hb
  have h1 := ha k
  rw [← Lib.size_eq] at hk
  rw [← get_bt s k hk] at h1
  have : (s[k]'hk) = b := e
  rw [this] at h1
  omega

set_option maxHeartbeats 1000000 in
set_option maxRecDepth 100000 in
theorem idxR_val (s : ByteArray) (r : Int) (w : World) (ha : ∀ k, bt s k < 128) (h : 128 ≤ r) (hne : r ≠ 65533) (hv : validRune r = true) :
    Calls Tryd.prog 71 #[.string s, .int .i32 r] w fun e w' => e = .returned (.int .i64 (-1)) ∧ Below w.heap.size w w' := by
  have hn : (r == 65533) = false := by rw [beq_eq_false_iff_ne]; exact hne
  clear hne
  obtain ⟨f1, f2, f3⟩ := encode_facts r (by rw [validRune_eq]; exact hv) h
  generalize hE : Utf8.encode r = E at f1 f2 f3
  obtain ⟨n, hn1⟩ : ∃ n, E.size = n + 1 := ⟨E.size - 1, by omega⟩
  have f4 : 128 ≤ bt E n := by
    have := f3 (by omega)
    rw [← get_bt E n (by omega)]
    simp only [hn1, Nat.add_sub_cancel] at this
    omega
  have f5 := bt_bd E n
  clear f3
  have IB : ∀ (a : Nat) (w : World), Calls Tryd.prog 57 #[.string (s.extract a s.size), .int .u8 (bt E n)] w fun e w' => e = .returned (.int .i64 (-1)) ∧ w' = w := fun a w => by
    refine (ib_any _ _ w).mono ?_
    rintro e w1 ⟨rfl, rfl⟩
    refine ⟨?_, rfl⟩
    rw [indexByte_none]
    intro b hb hc
    have := mem_bt s ha b (mem_extract hb)
    rw [hc] at this
    have : ((bt E n).toNat.toUInt8).toNat = (bt E n).toNat := by
      show (UInt8.ofNat (bt E n).toNat).toNat = _
      rw [UInt8.toNat_ofNat']; omega
    omega
  have HA : Hid (∀ k, bt s k < 128) := ha
  clear ha
  have hn2 : n < E.size := by omega
  have hszE : (E.size : Int) = (n : Int) + 1 := by omega
  have HNN : Hid (E.size = n + 1) := hn1
  clear hn1
  have hb := get_bt s
  have hbE := get_bt E
  go_enter Tryd.func71, Tryd.ntmps71
  go_wp2_with fail
  refine (validR _ _ h).mono ?_
  rintro e w1 ⟨rfl, rfl⟩
  rw [hv]
  go_wp2
  go_step3
  go_wp2
  go_loopw [9] (fun i w' => i = .int .i64 n ∧ w' = w1) (fun _ _ => 0)
  case atStart => exact ⟨rfl, rfl⟩
  case round =>
    obtain ⟨rfl, rfl⟩ := hrel
    by_cases hlt : n < s.size
    · have hne : (bt s n == bt E n) = false := by have := HA.out n; rw [beq_eq_false_iff_ne]; omega
      go_wp2
      go_step3
      go_wp2
      go_region
      go_wp2
      have B2 : Hid (Below wr.heap.size wr wr.drew) := (Below.refl _ _).drew
      generalize wr.drew = W2 at B2 ⊢
      have hn3 : ((n : Int) + 1).toNat = n + 1 := by omega
      have hn4 : n + 1 ≤ s.size := by omega
      have hn5 : (n : Int) + 1 ≤ (s.size : Int) := by omega
      have hn6 : (0 : Int) ≤ (n : Int) + 1 := by omega
      have hn7 : IntKind.i64.wrap ((n : Int) + 1) = (n : Int) + 1 := by rw [IntKind.wrap_i64]; omega
      have hn8 : ¬ ((n : Int) + 1 < 0) := by omega
      have hn9 : n < s.size := by omega
      go_region_with (go_at_call 57; refine (IB _ _).mono ?_; rintro e w2 ⟨rfl, rfl⟩)
      all_goals go_wp2
      simp (config := { zetaDelta := true }) only [Exit.inBlock, Exit.noGoto_ret, Exit.then]
      go_ret
      exact ⟨rfl, B2.out.drew⟩
    · go_wp2
      try rw [Exit.noGoto_ret]
      go_ret
      exact ⟨rfl, Below.refl _ _⟩

theorem idxR_high (s : ByteArray) (r : Int) (w : World) (ha : ∀ k, bt s k < 128) (h : 128 ≤ r) :
    Calls Tryd.prog 71 #[.string s, .int .i32 r] w fun e w' => e = .returned (.int .i64 (-1)) ∧ Below w.heap.size w w' := by
  by_cases h1 : r = 65533
  · subst h1; exact idxR_err s w ha
  · cases h2 : validRune r
    · exact idxR_inv s r w h h1 h2
    · exact idxR_val s r w ha h h1 h2

/-- The signs that a label may have. -/
def sg : ByteArray := ⟨#[43, 45, 46, 95, 63, 61]⟩
theorem sg_nat : ∀ k : Nat, k < 6 → bt sg k < 128 := by decide +kernel
theorem sg_ascii (k : Nat) : bt sg k < 128 := by
  by_cases h : k < 6
  · exact sg_nat k h
  · unfold bt; rw [dif_neg (show ¬ k < sg.size from h)]; decide

/-- Is it one of the signs? -/
def sgHas (r : Int) : Bool := decide (0 ≤ Lib.indexByte sg.data.toList r.toNat.toUInt8)

set_option maxHeartbeats 400000 in
theorem conR_ascii (r : Int) (w : World) (h0 : 0 ≤ r) (h1 : r < 128) :
    Calls Tryd.prog 58 #[.string sg, .int .i32 r] w fun e w' => e = .returned (.bool (sgHas r)) ∧ w' = w := by
  have hh : Hid (sgHas r = decide (0 ≤ Lib.indexByte sg.data.toList r.toNat.toUInt8)) := rfl
  go_enter Tryd.func58, Tryd.ntmps58
  go_wp2_with fail
  refine (idxR_ascii _ _ _ h0 h1).mono ?_
  rintro e w1 ⟨rfl, rfl⟩
  go_wp2
  go_ret
  exact ⟨by rw [hh.out]; rfl, rfl⟩

set_option maxHeartbeats 400000 in
theorem conR_high (r : Int) (w : World) (h : 128 ≤ r) :
    Calls Tryd.prog 58 #[.string sg, .int .i32 r] w fun e w' => e = .returned (.bool false) ∧ Below w.heap.size w w' := by
  go_enter Tryd.func58, Tryd.ntmps58
  go_wp2_with fail
  refine (idxR_high sg _ _ sg_ascii h).mono ?_
  rintro e w1 ⟨rfl, B⟩
  go_wp2
  go_ret
  exact ⟨rfl, B⟩

/-- May a label have this byte? -/
def labC (r : Int) : Bool := decide ((65 ≤ r ∧ r ≤ 90) ∨ (97 ≤ r ∧ r ≤ 122) ∨ (48 ≤ r ∧ r ≤ 57)) || sgHas r

set_option maxHeartbeats 400000 in
theorem inL_ascii (r : Int) (w : World) (h0 : 0 ≤ r) (h1 : r < 128) :
    Calls Tryd.prog 45 #[.int .i32 r] w fun e w' => e = .returned (.bool (labC r)) ∧ w' = w := by
  by_cases a1 : (65 ≤ r ∧ r ≤ 90) ∨ (97 ≤ r ∧ r ≤ 122) ∨ (48 ≤ r ∧ r ≤ 57)
  · have hh : Hid (labC r = true) := by unfold Hid labC; rw [decide_eq_true a1]; rfl
    by_cases b1 : 65 ≤ r ∧ r ≤ 90
    · obtain ⟨c1, c2⟩ := b1
      clear a1
      go_enter Tryd.func45, Tryd.ntmps45
      go_wp2
      go_ret
      exact ⟨by rw [hh.out]; rfl, rfl⟩
    · by_cases b2 : 97 ≤ r ∧ r ≤ 122
      · obtain ⟨c1, c2⟩ := b2
        have c3 : ¬ r ≤ 90 := by omega
        have c4 : 65 ≤ r := by omega
        clear a1 b1
        go_enter Tryd.func45, Tryd.ntmps45
        go_wp2
        go_ret
        exact ⟨by rw [hh.out]; rfl, rfl⟩
      · obtain ⟨c1, c2⟩ : 48 ≤ r ∧ r ≤ 57 := by omega
        have c3 : ¬ 65 ≤ r := by omega
        have c4 : ¬ 97 ≤ r := by omega
        clear a1 b1 b2
        go_enter Tryd.func45, Tryd.ntmps45
        go_wp2
        go_ret
        exact ⟨by rw [hh.out]; rfl, rfl⟩
  · have hh : Hid (labC r = sgHas r) := by unfold Hid labC; rw [decide_eq_false a1]; rfl
    have c1 : (decide (65 ≤ r) && decide (r ≤ 90)) = false := by
      by_cases q : 65 ≤ r
      · have : ¬ r ≤ 90 := by omega
        simp [q, this]
      · simp [q]
    have k1 : ¬ 65 ≤ r ∨ ¬ r ≤ 90 := by omega
    have k2 : ¬ 97 ≤ r ∨ ¬ r ≤ 122 := by omega
    have k3 : ¬ 48 ≤ r ∨ ¬ r ≤ 57 := by omega
    clear a1 c1
    rcases k1 with k1 | k1
    all_goals rcases k2 with k2 | k2
    all_goals rcases k3 with k3 | k3
    all_goals first
      | (exfalso; omega)
      | (go_enter Tryd.func45, Tryd.ntmps45
         go_wp2_with fail
         all_goals (refine (conR_ascii _ _ h0 h1).mono ?_
                    rintro e w1 ⟨rfl, rfl⟩
                    go_wp2
                    go_ret
                    exact ⟨by rw [hh.out]; rfl, rfl⟩))

set_option maxHeartbeats 400000 in
theorem inL_high (r : Int) (w : World) (h : 128 ≤ r) :
    Calls Tryd.prog 45 #[.int .i32 r] w fun e w' => e = .returned (.bool false) ∧ Below w.heap.size w w' := by
  have k1 : ¬ r ≤ 90 := by omega
  have k2 : ¬ r ≤ 122 := by omega
  have k3 : ¬ r ≤ 57 := by omega
  have k4 : 65 ≤ r := by omega
  have k5 : 97 ≤ r := by omega
  have k6 : 48 ≤ r := by omega
  go_enter Tryd.func45, Tryd.ntmps45
  go_wp2_with fail
  refine (conR_high _ _ h).mono ?_
  rintro e w1 ⟨rfl, B⟩
  go_wp2
  go_ret
  exact ⟨rfl, B⟩

end Go.Proofs.YtjhbfkckkinfjaaDoor
