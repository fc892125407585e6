/- Gathered: PtA PtV PtB PtC PtD PtE PtF PtPW PtR PtS HexA Num B32N. -/
import Derived.Test.YtgnlkggodchlbaaGreatDoorRows
import Derived.Below
import Derived.Lib.Strings
import Derived.Lib.Bytealg
import Derived.WalkMore
import Derived.Deep.RegionWith
import Derived.Laws.RangeString
import Derived.Laws.RangeAny
import Derived.Laws.Runes
import Derived.Test.YtgnlkggodchlbaaGreatDoorProg
import Derived.Test.YtgnlkggodchlbaaGreatDoorQa
/- strings.IndexRune and strings.ContainsRune over a text of ASCII bytes; spath.inLabel. -/
namespace Go.Proofs.YtgnlkggodchlbaaGreatDoor
open Go.RowKit

set_option maxHeartbeats 400000 in
theorem ib_any (s : ByteArray) (c : Int) (w : World) :
    Calls Tryz.prog 79 #[.string s, .int .u8 c] w fun e w' => e = .returned (.int .i64 (Lib.indexByte s.data.toList c.toNat.toUInt8)) ∧ w' = w := by
  have h : ∀ w, (callFunc 89 #[.string s, .int .u8 c]).run Tryz.prog w = .ok (.value (.int .i64 (Lib.indexByte s.data.toList c.toNat.toUInt8))) w := fun w => by
    rw [run_callFunc_extern Tryz.func89 (by kernel_rfl) (by kernel_rfl) (by kernel_rfl) (e := Extern.BytealgIndexByte.indexByte) (by kernel_rfl), Lib.run_indexByteString]
    rfl
  go_enter Tryz.func79, Tryz.ntmps79
  go_wp2
  go_ret
  exact ⟨rfl, rfl⟩

set_option maxHeartbeats 400000 in
set_option maxRecDepth 100000 in
theorem idxR_ascii (s : ByteArray) (r : Int) (w : World) (h0 : 0 ≤ r) (h1 : r < 128) :
    Calls Tryz.prog 94 #[.string s, .int .i32 r] w fun e w' => e = .returned (.int .i64 (Lib.indexByte s.data.toList r.toNat.toUInt8)) ∧ w' = w := by
  have hw : IntKind.u8.wrap r = r := by rw [IntKind.wrap_u8]; omega
  go_enter Tryz.func94, Tryz.ntmps94
  go_wp2_with fail
  refine (ib_any _ _ _).mono ?_
  rintro e w1 ⟨rfl, rfl⟩
  go_wp2
  try rw [Exit.noGoto_ret]
  go_ret
  exact ⟨rfl, rfl⟩

set_option maxHeartbeats 400000 in
theorem validR (r : Int) (w : World) (h : 128 ≤ r) :
    Calls Tryz.prog 101 #[.int .i32 r] w fun e w' => e = .returned (.bool (validRune r)) ∧ w' = w := by
  by_cases h1 : r < 55296
  · have hh : Hid (validRune r = true) := by unfold Hid validRune; exact decide_eq_true (Or.inl ⟨by omega, h1⟩)
    go_enter Tryz.func101, Tryz.ntmps101
    go_wp2
    go_ret
    exact ⟨by rw [hh.out]; rfl, rfl⟩
  · by_cases h2 : 57343 < r
    · by_cases h3 : r ≤ 1114111
      · have hh : Hid (validRune r = true) := by unfold Hid validRune; exact decide_eq_true (Or.inr ⟨h2, h3⟩)
        go_enter Tryz.func101, Tryz.ntmps101
        go_wp2
        go_ret
        exact ⟨by rw [hh.out]; rfl, rfl⟩
      · have hh : Hid (validRune r = false) := by unfold Hid validRune; exact decide_eq_false (by omega)
        go_enter Tryz.func101, Tryz.ntmps101
        go_wp2
        go_ret
        exact ⟨by rw [hh.out]; rfl, rfl⟩
    · have hh : Hid (validRune r = false) := by unfold Hid validRune; exact decide_eq_false (by omega)
      go_enter Tryz.func101, Tryz.ntmps101
      go_wp2
      go_ret
      exact ⟨by rw [hh.out]; rfl, rfl⟩

theorem iter_bel (w : World) (s : ByteArray) (pos : Nat) : Below w.heap.size w (w.iter s pos) := (Below.refl _ _).alloc (Nat.le_refl _) _

set_option maxHeartbeats 1000000 in
set_option maxRecDepth 100000 in
theorem idxR_err (s : ByteArray) (w : World) (ha : ∀ k, bt s k < 128) :
    Calls Tryz.prog 94 #[.string s, .int .i32 65533] w fun e w' => e = .returned (.int .i64 (-1)) ∧ Below w.heap.size w w' := by
  have HA : Hid (∀ k, bt s k < 128) := ha
  clear ha
  have hb := get_bt s
  go_enter Tryz.func94, Tryz.ntmps94
  go_wp2
  go_loopw [4] (fun v w' => v = .int .i64 0 ∧ ∃ pos, pos ≤ s.size ∧ w' = w.iter s pos) (fun _ w' => s.size - w'.iterPos w.heap.size)
  case atStart => exact ⟨rfl, 0, Nat.zero_le _, rfl⟩
  case round =>
    obtain ⟨rfl, pos, hle, rfl⟩ := hrel
    by_cases hp : pos < s.size
    · have hlt := HA.out pos
      have hlt' : (s[pos]'hp).toNat < 128 := by have := hb pos hp; omega
      have hnx : ∀ ty, (Instr.next (.pointer (some ⟨w.heap.size, 0, none⟩)) true ty).run Tryz.prog (w.iter s pos) = _ := fun ty => run_next_ascii w s pos ty hp hlt'
      rw [hb pos hp] at hnx
      have hne : (bt s pos == 65533) = false := by rw [beq_eq_false_iff_ne]; omega
      go_wp2
      go_roundw
      case rel => exact ⟨rfl, pos + 1, by omega, rfl⟩
      case measure => simp; omega
    · have hnx : ∀ ty, (Instr.next (.pointer (some ⟨w.heap.size, 0, none⟩)) true ty).run Tryz.prog (w.iter s pos) = _ := fun ty => run_next_end w s pos ty hp
      go_wp2
      try rw [Exit.noGoto_ret]
      go_ret
      exact ⟨rfl, iter_bel _ _ _⟩

set_option maxHeartbeats 1000000 in
set_option maxRecDepth 100000 in
theorem idxR_inv (s : ByteArray) (r : Int) (w : World) (h : 128 ≤ r) (hne : r ≠ 65533) (hv : validRune r = false) :
    Calls Tryz.prog 94 #[.string s, .int .i32 r] w fun e w' => e = .returned (.int .i64 (-1)) ∧ Below w.heap.size w w' := by
  have hn : (r == 65533) = false := by rw [beq_eq_false_iff_ne]; exact hne
  clear hne
  go_enter Tryz.func94, Tryz.ntmps94
  go_wp2_with fail
  refine (validR _ _ h).mono ?_
  rintro e w1 ⟨rfl, rfl⟩
  rw [hv]
  go_wp2
  try rw [Exit.noGoto_ret]
  go_ret
  exact ⟨rfl, Below.refl _ _⟩

theorem indexByte_none (l : List UInt8) (c : UInt8) (h : ∀ b ∈ l, b ≠ c) : Lib.indexByte l c = -1 := by
  induction l with
  | nil => rfl
  | cons b l ih =>
    have h1 := ih (fun x hx => h x (List.mem_cons_of_mem _ hx))
    have h2 := h b (List.mem_cons_self ..)
    unfold Lib.indexByte
    rw [if_neg (by simpa using h2), h1]
    rfl

theorem mem_bt (s : ByteArray) (ha : ∀ k, bt s k < 128) : ∀ b ∈ s.data.toList, b.toNat < 128 := by
  intro b hb
  obtain ⟨k, hk, e⟩ := List.mem_iff_getElem.1 hb
  have h1 := ha k
  rw [← Lib.size_eq] at hk
  rw [← get_bt s k hk] at h1
  have : (s[k]'hk) = b := e
  rw [this] at h1
  omega

set_option maxHeartbeats 1000000 in
set_option maxRecDepth 100000 in
theorem idxR_val (s : ByteArray) (r : Int) (w : World) (ha : ∀ k, bt s k < 128) (h : 128 ≤ r) (hne : r ≠ 65533) (hv : validRune r = true) :
    Calls Tryz.prog 94 #[.string s, .int .i32 r] w fun e w' => e = .returned (.int .i64 (-1)) ∧ Below w.heap.size w w' := by
  have hn : (r == 65533) = false := by rw [beq_eq_false_iff_ne]; exact hne
  clear hne
  obtain ⟨f1, f2, f3⟩ := encode_facts r (by rw [validRune_eq]; exact hv) h
  generalize hE : Utf8.encode r = E at f1 f2 f3
  obtain ⟨n, hn1⟩ : ∃ n, E.size = n + 1 := ⟨E.size - 1, by omega⟩
  have f4 : 128 ≤ bt E n := by
    have := f3 (by omega)
    rw [← get_bt E n (by omega)]
    simp only [hn1, Nat.add_sub_cancel] at this
    omega
  have f5 := bt_bd E n
  clear f3
  have IB : ∀ (a : Nat) (w : World), Calls Tryz.prog 79 #[.string (s.extract a s.size), .int .u8 (bt E n)] w fun e w' => e = .returned (.int .i64 (-1)) ∧ w' = w := fun a w => by
    refine (ib_any _ _ w).mono ?_
    rintro e w1 ⟨rfl, rfl⟩
    refine ⟨?_, rfl⟩
    rw [indexByte_none]
    intro b hb hc
    have := mem_bt s ha b (mem_extract hb)
    rw [hc] at this
    have : ((bt E n).toNat.toUInt8).toNat = (bt E n).toNat := by
      show (UInt8.ofNat (bt E n).toNat).toNat = _
      rw [UInt8.toNat_ofNat']; omega
    omega
  have HA : Hid (∀ k, bt s k < 128) := ha
  clear ha
  have hn2 : n < E.size := by omega
  have hszE : (E.size : Int) = (n : Int) + 1 := by omega
  have HNN : Hid (E.size = n + 1) := hn1
  clear hn1
  have hb := get_bt s
  have hbE := get_bt E
  go_enter Tryz.func94, Tryz.ntmps94
  go_wp2_with fail
  refine (validR _ _ h).mono ?_
  rintro e w1 ⟨rfl, rfl⟩
  rw [hv]
  go_wp2
  go_step3
  go_wp2
  go_loopw [9] (fun i w' => i = .int .i64 n ∧ w' = w1) (fun _ _ => 0)
  case atStart => exact ⟨rfl, rfl⟩
  case round =>
    obtain ⟨rfl, rfl⟩ := hrel
    by_cases hlt : n < s.size
    · have hne : (bt s n == bt E n) = false := by have := HA.out n; rw [beq_eq_false_iff_ne]; omega
      go_wp2
      go_step3
      go_wp2
      go_region
      go_wp2
      have B2 : Hid (Below wr.heap.size wr wr.drew) := (Below.refl _ _).drew
      generalize wr.drew = W2 at B2 ⊢
      have hn3 : ((n : Int) + 1).toNat = n + 1 := by omega
      have hn4 : n + 1 ≤ s.size := by omega
      have hn5 : (n : Int) + 1 ≤ (s.size : Int) := by omega
      have hn6 : (0 : Int) ≤ (n : Int) + 1 := by omega
      have hn7 : IntKind.i64.wrap ((n : Int) + 1) = (n : Int) + 1 := by rw [IntKind.wrap_i64]; omega
      have hn8 : ¬ ((n : Int) + 1 < 0) := by omega
      have hn9 : n < s.size := by omega
      go_region_with (go_at_call 79; refine (IB _ _).mono ?_; rintro e w2 ⟨rfl, rfl⟩)
      all_goals go_wp2
      simp (config := { zetaDelta := true }) only [Exit.inBlock, Exit.noGoto_ret, Exit.then]
      go_ret
      exact ⟨rfl, B2.out.drew⟩
    · go_wp2
      try rw [Exit.noGoto_ret]
      go_ret
      exact ⟨rfl, Below.refl _ _⟩

theorem idxR_high (s : ByteArray) (r : Int) (w : World) (ha : ∀ k, bt s k < 128) (h : 128 ≤ r) :
    Calls Tryz.prog 94 #[.string s, .int .i32 r] w fun e w' => e = .returned (.int .i64 (-1)) ∧ Below w.heap.size w w' := by
  by_cases h1 : r = 65533
  · subst h1; exact idxR_err s w ha
  · cases h2 : validRune r
    · exact idxR_inv s r w h h1 h2
    · exact idxR_val s r w ha h h1 h2

/-- The signs that a label may have. -/
def sg : ByteArray := ⟨#[43, 45, 46, 95, 63, 61]⟩
theorem sg_nat : ∀ k : Nat, k < 6 → bt sg k < 128 := by decide +kernel
theorem sg_ascii (k : Nat) : bt sg k < 128 := by
  by_cases h : k < 6
  · exact sg_nat k h
  · unfold bt; rw [dif_neg (show ¬ k < sg.size from h)]; decide

/-- Is it one of the signs? -/
def sgHas (r : Int) : Bool := decide (0 ≤ Lib.indexByte sg.data.toList r.toNat.toUInt8)

set_option maxHeartbeats 400000 in
theorem conR_ascii (r : Int) (w : World) (h0 : 0 ≤ r) (h1 : r < 128) :
    Calls Tryz.prog 80 #[.string sg, .int .i32 r] w fun e w' => e = .returned (.bool (sgHas r)) ∧ w' = w := by
  have hh : Hid (sgHas r = decide (0 ≤ Lib.indexByte sg.data.toList r.toNat.toUInt8)) := rfl
  go_enter Tryz.func80, Tryz.ntmps80
  go_wp2_with fail
  refine (idxR_ascii _ _ _ h0 h1).mono ?_
  rintro e w1 ⟨rfl, rfl⟩
  go_wp2
  go_ret
  exact ⟨by rw [hh.out]; rfl, rfl⟩

set_option maxHeartbeats 400000 in
theorem conR_high (r : Int) (w : World) (h : 128 ≤ r) :
    Calls Tryz.prog 80 #[.string sg, .int .i32 r] w fun e w' => e = .returned (.bool false) ∧ Below w.heap.size w w' := by
  go_enter Tryz.func80, Tryz.ntmps80
  go_wp2_with fail
  refine (idxR_high sg _ _ sg_ascii h).mono ?_
  rintro e w1 ⟨rfl, B⟩
  go_wp2
  go_ret
  exact ⟨rfl, B⟩

/-- May a label have this byte? -/
def labC (r : Int) : Bool := decide ((65 ≤ r ∧ r ≤ 90) ∨ (97 ≤ r ∧ r ≤ 122) ∨ (48 ≤ r ∧ r ≤ 57)) || sgHas r

set_option maxHeartbeats 400000 in
theorem inL_ascii (r : Int) (w : World) (h0 : 0 ≤ r) (h1 : r < 128) :
    Calls Tryz.prog 63 #[.int .i32 r] w fun e w' => e = .returned (.bool (labC r)) ∧ w' = w := by
  by_cases a1 : (65 ≤ r ∧ r ≤ 90) ∨ (97 ≤ r ∧ r ≤ 122) ∨ (48 ≤ r ∧ r ≤ 57)
  · have hh : Hid (labC r = true) := by unfold Hid labC; rw [decide_eq_true a1]; rfl
    by_cases b1 : 65 ≤ r ∧ r ≤ 90
    · obtain ⟨c1, c2⟩ := b1
      clear a1
      go_enter Tryz.func63, Tryz.ntmps63
      go_wp2
      go_ret
      exact ⟨by rw [hh.out]; rfl, rfl⟩
    · by_cases b2 : 97 ≤ r ∧ r ≤ 122
      · obtain ⟨c1, c2⟩ := b2
        have c3 : ¬ r ≤ 90 := by omega
        have c4 : 65 ≤ r := by omega
        clear a1 b1
        go_enter Tryz.func63, Tryz.ntmps63
        go_wp2
        go_ret
        exact ⟨by rw [hh.out]; rfl, rfl⟩
      · obtain ⟨c1, c2⟩ : 48 ≤ r ∧ r ≤ 57 := by omega
        have c3 : ¬ 65 ≤ r := by omega
        have c4 : ¬ 97 ≤ r := by omega
        clear a1 b1 b2
        go_enter Tryz.func63, Tryz.ntmps63
        go_wp2
        go_ret
        exact ⟨by rw [hh.out]; rfl, rfl⟩
  · have hh : Hid (labC r = sgHas r) := by unfold Hid labC; rw [decide_eq_false a1]; rfl
    have c1 : (decide (65 ≤ r) && decide (r ≤ 90)) = false := by
      by_cases q : 65 ≤ r
      · have : ¬ r ≤ 90 := by omega
        simp [q, this]
      · simp [q]
    have k1 : ¬ 65 ≤ r ∨ ¬ r ≤ 90 := by omega
    have k2 : ¬ 97 ≤ r ∨ ¬ r ≤ 122 := by omega
    have k3 : ¬ 48 ≤ r ∨ ¬ r ≤ 57 := by omega
    clear a1 c1
    rcases k1 with k1 | k1
    all_goals rcases k2 with k2 | k2
    all_goals rcases k3 with k3 | k3
    all_goals first
      | (exfalso; omega)
      | (go_enter Tryz.func63, Tryz.ntmps63
         go_wp2_with fail
         all_goals (refine (conR_ascii _ _ h0 h1).mono ?_
                    rintro e w1 ⟨rfl, rfl⟩
                    go_wp2
                    go_ret
                    exact ⟨by rw [hh.out]; rfl, rfl⟩))

set_option maxHeartbeats 400000 in
theorem inL_high (r : Int) (w : World) (h : 128 ≤ r) :
    Calls Tryz.prog 63 #[.int .i32 r] w fun e w' => e = .returned (.bool false) ∧ Below w.heap.size w w' := by
  have k1 : ¬ r ≤ 90 := by omega
  have k2 : ¬ r ≤ 122 := by omega
  have k3 : ¬ r ≤ 57 := by omega
  have k4 : 65 ≤ r := by omega
  have k5 : 97 ≤ r := by omega
  have k6 : 48 ≤ r := by omega
  go_enter Tryz.func63, Tryz.ntmps63
  go_wp2_with fail
  refine (conR_high _ _ h).mono ?_
  rintro e w1 ⟨rfl, B⟩
  go_wp2
  go_ret
  exact ⟨rfl, B⟩

end Go.Proofs.YtgnlkggodchlbaaGreatDoor
/- The thirty-two letters: radix.Value and the document's. -/
namespace Go.Proofs.YtgnlkggodchlbaaGreatDoor
open Go.RowKit

/-- The thirty-two letters. -/
def lts : ByteArray := ⟨#[48, 49, 50, 51, 52, 53, 54, 55, 56, 57, 97, 98, 99, 100, 102, 103, 104, 105, 106, 107, 108, 109, 110, 112, 113, 114, 115, 118, 119, 120, 121, 122]⟩
def lt32 (v : Int) : Int := bt lts v.toNat
/-- A letter's value, or -1. -/
def vl (c : Int) : Int := Lib.indexByte lts.data.toList c.toNat.toUInt8
theorem vl_nat : ∀ c : Nat, c < 256 → (0 ≤ vl c ∧ vl c < 32 ∧ lt32 (vl c) = c) ∨ vl c = -1 := by decide +kernel
theorem vl_spec (c : Int) (h : 0 ≤ c ∧ c < 256) : (0 ≤ vl c ∧ vl c < 32 ∧ lt32 (vl c) = c) ∨ vl c = -1 := by
  obtain ⟨n, rfl⟩ : ∃ n : Nat, c = n := ⟨c.toNat, by omega⟩
  exact vl_nat n (by omega)
theorem vl_lt : ∀ d : Nat, d < 32 → vl (lt32 d) = d := by decide +kernel
theorem vl_first : ∀ c : Nat, c < 256 → ∀ d : Nat, d < 32 → (bt lts d = c ↔ vl c = d) := by decide +kernel

set_option maxHeartbeats 400000 in
theorem value_any (c : Int) (w : World) :
    Calls Tryz.prog 62 #[.int .u8 c] w fun e w' => e = .returned (.int .i64 (vl c)) ∧ w' = w := by
  go_enter Tryz.func62, Tryz.ntmps62
  go_wp2_with fail
  refine (ib_any lts c w).mono ?_
  rintro e w1 ⟨rfl, rfl⟩
  go_wp2
  go_ret
  exact ⟨rfl, rfl⟩

set_option maxHeartbeats 400000 in
theorem rvalue_any (c : Int) (w : World) (h0 : 0 ≤ c) (h1 : c < 256) :
    Calls Tryz.prog 87 #[.int .u8 c] w fun e w' => e = .returned (.int .i64 (vl c)) ∧ w' = w := by
  have hf : Hid (∀ d : Nat, d < 32 → (bt lts d = c ↔ vl c = d)) := by
    intro d hd
    obtain ⟨n, rfl⟩ : ∃ n : Nat, c = n := ⟨c.toNat, by omega⟩
    exact vl_first n (by omega) d hd
  have hsp : Hid ((0 ≤ vl c ∧ vl c < 32 ∧ lt32 (vl c) = c) ∨ vl c = -1) := vl_spec c ⟨h0, h1⟩
  have hg := get_bt lts
  have hsz : lts.size = 32 := rfl
  go_enter Tryz.func87, Tryz.ntmps87
  go_wp2
  go_loop [3] (fun i => ∃ k : Nat, k ≤ 32 ∧ i = .int .i64 k ∧ (∀ j : Nat, j < k → vl c ≠ j)) (fun i => 32 - (intOf i).toNat)
  case atStart => exact ⟨0, Nat.zero_le _, rfl, fun j hj => absurd hj (by omega)⟩
  case round =>
    obtain ⟨k, hk, rfl, hno⟩ := hrel
    have HNO : Hid (∀ j : Nat, j < k → vl c ≠ j) := hno
    clear hno
    by_cases hlt : k < 32
    · rw [show (⟨#[48, 49, 50, 51, 52, 53, 54, 55, 56, 57, 97, 98, 99, 100, 102, 103, 104, 105, 106, 107, 108, 109, 110, 112, 113, 114, 115, 118, 119, 120, 121, 122]⟩ : ByteArray) = lts from rfl]
      by_cases he : vl c = k
      · have t1 : (bt lts k == c) = true := by rw [beq_iff_eq]; exact (hf.out k hlt).2 he
        have HE : Hid (vl c = k) := he
        clear he
        go_wp2
        go_ret
        rw [HE.out]
        exact ⟨rfl, rfl⟩
      · have t1 : (bt lts k == c) = false := by rw [beq_eq_false_iff_ne]; exact fun h => he ((hf.out k hlt).1 h)
        have HE : Hid (vl c ≠ k) := he
        clear he
        go_wp2
        go_round
        case rel =>
          refine ⟨k + 1, by omega, by go_num, fun j hj => ?_⟩
          by_cases e : j = k
          · rw [e]; exact HE.out
          · exact HNO.out j (by omega)
        case measure => simp [intOf]; omega
    · have hm : Hid (vl c = -1) := by
        rcases hsp.out with h | h
        · exact absurd (show vl c = ((vl c).toNat : Int) from by omega) (HNO.out (vl c).toNat (by omega))
        · exact h
      go_wp2
      go_ret
      rw [hm.out]
      exact ⟨rfl, rfl⟩

/-- May it be a label? -/
def labOk (s : ByteArray) : Prop := 1 ≤ s.size ∧ s.size ≤ 211 ∧ bt s 0 ≠ 46 ∧ ∀ k, k < s.size → labC (bt s k) = true
instance (s : ByteArray) : Decidable (labOk s) := inferInstanceAs (Decidable (_ ∧ _ ∧ _ ∧ _))
def lab (s : ByteArray) : Int := if labOk s then 0 else 130
/-- May it be a hash? -/
def hshOk (s : ByteArray) : Prop := s.size = 32 ∧ ∀ k, k < 32 → 0 ≤ vl (bt s k)
instance (s : ByteArray) : Decidable (hshOk s) := inferInstanceAs (Decidable (_ ∧ _))
def hsh (s : ByteArray) : Int := if hshOk s then 0 else 131
theorem lab_cases (s : ByteArray) : (labOk s ∧ lab s = 0) ∨ (¬ labOk s ∧ lab s = 130) := by
  unfold lab
  by_cases h : labOk s
  · left; exact ⟨h, if_pos h⟩
  · right; exact ⟨h, if_neg h⟩
theorem hsh_cases (s : ByteArray) : (hshOk s ∧ hsh s = 0) ∨ (¬ hshOk s ∧ hsh s = 131) := by
  unfold hsh
  by_cases h : hshOk s
  · left; exact ⟨h, if_pos h⟩
  · right; exact ⟨h, if_neg h⟩
theorem lab_no {s : ByteArray} (h : ¬ labOk s) : lab s = 130 := if_neg h
theorem lab_yes {s : ByteArray} (h : labOk s) : lab s = 0 := if_pos h
theorem hsh_no {s : ByteArray} (h : ¬ hshOk s) : hsh s = 131 := if_neg h
theorem hsh_yes {s : ByteArray} (h : hshOk s) : hsh s = 0 := if_pos h

set_option maxHeartbeats 400000 in
theorem ckH_any (s : ByteArray) (w : World) :
    Calls Tryz.prog 46 #[.string s] w fun e w' => e = .returned (.int .i64 (hsh s)) ∧ w' = w := by
  by_cases hz : s.size = 32
  · have Z : ((s.size : Int) == 32) = true := by simp [hz]
    have Z2 : (s.size : Int) = 32 := by omega
    have HZ : Hid (s.size = 32) := hz
    have hb := get_bt s
    clear hz Z2
    go_enter Tryz.func46, Tryz.ntmps46
    go_wp2
    clear Z
    generalize ((s.size : Int) != 32) = zb
    go_loop [9] (fun i => ∃ k : Nat, k ≤ s.size ∧ i = .int .i64 k ∧ Hid (∀ j, j < k → 0 ≤ vl (bt s j))) (fun i => s.size - (intOf i).toNat)
    case atStart => exact ⟨0, Nat.zero_le _, rfl, fun j hj => absurd hj (by omega)⟩
    case round =>
      obtain ⟨k, hk, rfl, hok⟩ := hrel
      by_cases hlt : k < s.size
      · have hk32 : k < 32 := by have := HZ.out; omega
        by_cases hv : vl (bt s k) < 0
        · have hh : Hid (hsh s = 131) := hsh_no (fun h => by have := h.2 k (by have := HZ.out; omega); omega)
          go_wp2_with fail
          refine (value_any _ _).mono ?_
          rintro e w1 ⟨rfl, rfl⟩
          go_wp2
          go_ret
          exact ⟨by rw [hh.out]; rfl, rfl⟩
        · go_wp2_with fail
          refine (value_any _ _).mono ?_
          rintro e w1 ⟨rfl, rfl⟩
          go_wp2
          go_round
          case rel => exact ⟨k + 1, by omega, by go_num, fun j hj => by
            by_cases e : j = k
            · rw [e]; omega
            · exact hok.out j (by omega)⟩
          case measure => simp [intOf]; omega
      · have hh : Hid (hsh s = 0) := hsh_yes ⟨HZ.out, fun j hj => hok.out j (by have := HZ.out; omega)⟩
        go_wp2
        go_ret
        exact ⟨by rw [hh.out]; rfl, rfl⟩
  · have Z : ((s.size : Int) == 32) = false := by rw [beq_eq_false_iff_ne]; omega
    have hh : Hid (hsh s = 131) := hsh_no (fun h => hz h.1)
    clear hz
    go_enter Tryz.func46, Tryz.ntmps46
    go_wp2
    go_ret
    exact ⟨by rw [hh.out]; rfl, rfl⟩

set_option maxHeartbeats 400000 in
theorem rckH_any (s : ByteArray) (w : World) :
    Calls Tryz.prog 71 #[.string s] w fun e w' => e = .returned (.int .i64 (hsh s)) ∧ w' = w := by
  by_cases hz : s.size = 32
  · have Z : ((s.size : Int) == 32) = true := by simp [hz]
    have HZ : Hid (s.size = 32) := hz
    have hb := get_bt s
    have hbd := bt_bd s
    clear hz
    go_enter Tryz.func71, Tryz.ntmps71
    go_wp2
    clear Z
    generalize ((s.size : Int) != 32) = zb
    go_loop [3] (fun i => ∃ k : Nat, k ≤ 32 ∧ i = .int .i64 k ∧ Hid (∀ j, j < k → 0 ≤ vl (bt s j))) (fun i => 32 - (intOf i).toNat)
    case atStart => exact ⟨0, Nat.zero_le _, rfl, fun j hj => absurd hj (by omega)⟩
    case round =>
      obtain ⟨k, hk, rfl, hok⟩ := hrel
      by_cases hlt : k < 32
      · have hlt2 : k < s.size := by have := HZ.out; omega
        by_cases hv : vl (bt s k) < 0
        · have hh : Hid (hsh s = 131) := hsh_no (fun h => by have := h.2 k hlt; omega)
          go_wp2_with fail
          refine (rvalue_any _ _ (hbd k).1 (hbd k).2).mono ?_
          rintro e w1 ⟨rfl, rfl⟩
          go_wp2
          go_ret
          exact ⟨by rw [hh.out]; rfl, rfl⟩
        · go_wp2_with fail
          refine (rvalue_any _ _ (hbd k).1 (hbd k).2).mono ?_
          rintro e w1 ⟨rfl, rfl⟩
          go_wp2
          go_round
          case rel => exact ⟨k + 1, by omega, by go_num, fun j hj => by
            by_cases e : j = k
            · rw [e]; omega
            · exact hok.out j (by omega)⟩
          case measure => simp [intOf]; omega
      · have hh : Hid (hsh s = 0) := hsh_yes ⟨HZ.out, fun j hj => hok.out j (by omega)⟩
        go_wp2
        go_ret
        exact ⟨by rw [hh.out]; rfl, rfl⟩
  · have Z : ((s.size : Int) == 32) = false := by rw [beq_eq_false_iff_ne]; omega
    have hh : Hid (hsh s = 131) := hsh_no (fun h => hz h.1)
    clear hz
    go_enter Tryz.func71, Tryz.ntmps71
    go_wp2
    go_ret
    exact ⟨by rw [hh.out]; rfl, rfl⟩

end Go.Proofs.YtgnlkggodchlbaaGreatDoor
/- spath.CheckLabel and the document's, walked. -/
namespace Go.Proofs.YtgnlkggodchlbaaGreatDoor
open Go.RowKit

theorem dec_width (s : ByteArray) (pos : Nat) (h : pos < s.size) : 1 ≤ (Utf8.decode s pos).2 := by
  by_cases ha : (s[pos]'h).toNat < 128
  · rw [decode_ascii s pos h ha]
    exact Nat.le_refl _
  · exact (decode_high s pos h (by omega)).2

theorem labC_high (b : Int) (h : 128 ≤ b) (h2 : b < 256) : labC b = false := by
  have h : ∀ n : Nat, n < 128 → labC ((n + 128 : Nat) : Int) = false := by decide +kernel
  have := h (b.toNat - 128) (by omega)
  rw [show ((b.toNat - 128 + 128 : Nat) : Int) = b from by omega] at this
  exact this

theorem empty_iff (s : ByteArray) : s.toList.isEmpty = true ↔ s.size = 0 := by
  rw [Lib.toList_data, List.isEmpty_iff, Lib.size_eq, List.length_eq_zero_iff]

set_option maxHeartbeats 1000000 in
theorem ckL_any (s : ByteArray) (w : World) :
    Calls Tryz.prog 47 #[.string s] w fun e w' => e = .returned (.int .i64 (lab s)) ∧ Below w.heap.size w w' := by
  cases h1 : s.toList.isEmpty
  · have h0 : s.size ≠ 0 := fun e => by rw [(empty_iff s).2 e] at h1; exact Bool.noConfusion h1
    have hp0 : 0 < s.size := by omega
    have hb := get_bt s
    by_cases h2 : 211 < s.size
    · have hh : Hid (lab s = 130) := lab_no (fun h => by have := h.2.1; omega)
      clear h0
      go_enter Tryz.func47, Tryz.ntmps47
      go_wp2
      go_ret
      exact ⟨by rw [hh.out]; rfl, Below.refl _ _⟩
    · by_cases h3 : bt s 0 = 46
      · have hh : Hid (lab s = 130) := lab_no (fun h => h.2.2.1 h3)
        have H3 : (bt s 0 == 46) = true := by simp [h3]
        clear h0 h3
        go_enter Tryz.func47, Tryz.ntmps47
        go_wp2
        go_ret
        exact ⟨by rw [hh.out]; rfl, Below.refl _ _⟩
      · have H3 : (bt s 0 == 46) = false := by simp [h3]
        have N3 : Hid (bt s 0 ≠ 46) := h3
        have N2 : Hid (¬ 211 < s.size) := h2
        clear h0 h3
        go_enter Tryz.func47, Tryz.ntmps47
        go_wp2
        clear h2
        go_loopw [4] (fun _ wr => ∃ pos : Nat, pos ≤ s.size ∧ wr = w.iter s pos ∧ Hid (∀ j, j < pos → labC (bt s j) = true)) (fun _ w' => s.size - w'.iterPos w.heap.size)
        case atStart => exact ⟨0, Nat.zero_le _, rfl, fun j hj => absurd hj (by omega)⟩
        case round =>
          obtain ⟨pos, hle, rfl, hok⟩ := hrel
          by_cases hp : pos < s.size
          · have bd := bt_bd s pos
            by_cases ha : bt s pos < 128
            · have hlt' : (s[pos]'hp).toNat < 128 := by have := hb pos hp; omega
              have hnx : ∀ ty, (Instr.next (.pointer (some ⟨w.heap.size, 0, none⟩)) true ty).run Tryz.prog (w.iter s pos) = _ := fun ty => run_next_ascii w s pos ty hp hlt'
              rw [hb pos hp] at hnx
              cases hc : labC (bt s pos)
              · have hh : Hid (lab s = 130) := lab_no (fun h => by have := h.2.2.2 pos hp; rw [hc] at this; exact Bool.noConfusion this)
                have HC : Hid (labC (bt s pos) = false) := hc
                clear hc
                go_wp2_with fail
                refine (inL_ascii _ _ bd.1 ha).mono ?_
                rintro e w1 ⟨rfl, rfl⟩
                rw [HC.out]
                go_wp2
                go_ret
                exact ⟨by rw [hh.out]; rfl, iter_bel _ _ _⟩
              · have HC : Hid (labC (bt s pos) = true) := hc
                clear hc
                go_wp2_with fail
                refine (inL_ascii _ _ bd.1 ha).mono ?_
                rintro e w1 ⟨rfl, rfl⟩
                rw [HC.out]
                go_wp2
                go_roundw
                case rel => exact ⟨pos + 1, by omega, rfl, fun j hj => by
                  by_cases e : j = pos
                  · rw [e]; exact HC.out
                  · exact hok.out j (by omega)⟩
                case measure => simp; omega
            · have hge : 128 ≤ (s[pos]'hp).toNat := by have := hb pos hp; omega
              have hd := (decode_high s pos hp hge).1
              have hnx : ∀ ty, (Instr.next (.pointer (some ⟨w.heap.size, 0, none⟩)) true ty).run Tryz.prog (w.iter s pos) = _ := fun ty => run_next_any w s pos ty hp
              have hh : Hid (lab s = 130) := lab_no (fun h => by
                have := h.2.2.2 pos hp
                rw [labC_high _ (by omega) bd.2] at this
                exact Bool.noConfusion this)
              have B1 : Hid (Below w.heap.size w (w.iter s (pos + (Utf8.decode s pos).2))) := iter_bel _ _ _
              have hd2 : (128 : Int) ≤ ((Utf8.decode s pos).1 : Int) := by omega
              generalize ((Utf8.decode s pos).1 : Int) = R at hnx hd2
              generalize w.iter s (pos + (Utf8.decode s pos).2) = W1 at hnx B1
              go_wp2_with fail
              refine (inL_high _ _ hd2).mono ?_
              rintro e w2 ⟨rfl, B2⟩
              go_wp2
              go_ret
              exact ⟨by rw [hh.out]; rfl, B1.out.trans (B2.mono B1.out.size)⟩
          · have hnx : ∀ ty, (Instr.next (.pointer (some ⟨w.heap.size, 0, none⟩)) true ty).run Tryz.prog (w.iter s pos) = _ := fun ty => run_next_end w s pos ty hp
            have hh : Hid (lab s = 0) := lab_yes ⟨by omega, by have := N2.out; omega, N3.out, fun k hk => hok.out k (by omega)⟩
            go_wp2
            go_ret
            exact ⟨by rw [hh.out]; rfl, iter_bel _ _ _⟩
  · have hh : Hid (lab s = 130) := lab_no (fun h => by have := (empty_iff s).1 h1; have := h.1; omega)
    go_enter Tryz.func47, Tryz.ntmps47
    go_wp2
    go_ret
    exact ⟨by rw [hh.out]; rfl, Below.refl _ _⟩

end Go.Proofs.YtgnlkggodchlbaaGreatDoor
/- The document's CheckLabel, walked; spath.Parse and the document's. -/
namespace Go.Proofs.YtgnlkggodchlbaaGreatDoor
open Go.RowKit

/-- Is c one of t's bytes? -/
def amB (t : ByteArray) (c : Int) : Bool := (List.range t.size).any (fun k => bt t k == c)
theorem amB_iff (t : ByteArray) (c : Int) : amB t c = true ↔ ∃ k, k < t.size ∧ bt t k = c := by
  unfold amB
  rw [List.any_eq_true]
  constructor
  · rintro ⟨k, hk, e⟩; exact ⟨k, List.mem_range.1 hk, by simpa using e⟩
  · rintro ⟨k, hk, e⟩; exact ⟨k, List.mem_range.2 hk, by simpa using e⟩

set_option maxHeartbeats 400000 in
theorem among_any (c : Int) (t : ByteArray) (w : World) (ht : t.size ≤ 140737488351232) :
    Calls Tryz.prog 88 #[.int .u8 c, .string t] w fun e w' => e = .returned (.bool (amB t c)) ∧ w' = w := by
  have hb := get_bt t
  go_enter Tryz.func88, Tryz.ntmps88
  go_wp2
  go_loop [5] (fun i => ∃ k : Nat, k ≤ t.size ∧ i = .int .i64 k ∧ Hid (∀ j, j < k → bt t j ≠ c)) (fun i => t.size - (intOf i).toNat)
  case atStart => exact ⟨0, Nat.zero_le _, rfl, fun j hj => absurd hj (by omega)⟩
  case round =>
    obtain ⟨k, hk, rfl, hok⟩ := hrel
    by_cases hlt : k < t.size
    · by_cases he : bt t k = c
      · have E1 : (bt t k == c) = true := by simp [he]
        have hh : Hid (amB t c = true) := (amB_iff t c).2 ⟨k, hlt, he⟩
        clear he
        go_wp2
        go_ret
        exact ⟨by rw [hh.out]; rfl, rfl⟩
      · have E1 : (bt t k == c) = false := by rw [beq_eq_false_iff_ne]; exact he
        have HE : Hid (bt t k ≠ c) := he
        clear he
        go_wp2
        go_round
        case rel => exact ⟨k + 1, by omega, by go_num, fun j hj => by
          by_cases e : j = k
          · rw [e]; exact HE.out
          · exact hok.out j (by omega)⟩
        case measure => simp [intOf]; omega
    · have hh : Hid (amB t c = false) := by
        unfold Hid
        rw [Bool.eq_false_iff]; intro h
        obtain ⟨k', hk', e⟩ := (amB_iff t c).1 h
        exact hok.out k' (by omega) e
      go_wp2
      go_ret
      exact ⟨by rw [hh.out]; rfl, rfl⟩

/-- The document's alphabet of labels. -/
def alp : ByteArray := ⟨#[48, 49, 50, 51, 52, 53, 54, 55, 56, 57, 65, 66, 67, 68, 69, 70, 71, 72, 73, 74, 75, 76, 77, 78, 79, 80, 81, 82, 83, 84, 85, 86, 87, 88, 89, 90, 97, 98, 99, 100, 101, 102, 103, 104, 105, 106, 107, 108, 109, 110, 111, 112, 113, 114, 115, 116, 117, 118, 119, 120, 121, 122, 43, 45, 95, 63, 61, 46]⟩
theorem alp_lab : ∀ n : Nat, n < 256 → amB alp (n : Int) = labC (n : Int) := by decide +kernel
theorem alp_is (c : Int) (h : 0 ≤ c ∧ c < 256) : amB alp c = labC c := by
  obtain ⟨n, rfl⟩ : ∃ n : Nat, c = n := ⟨c.toNat, by omega⟩
  exact alp_lab n (by omega)
theorem alp_size : alp.size = 68 := rfl

theorem among_alp (c : Int) (w : World) (h : 0 ≤ c ∧ c < 256) :
    Calls Tryz.prog 88 #[.int .u8 c, .string alp] w fun e w' => e = .returned (.bool (labC c)) ∧ w' = w := by
  rw [← alp_is c h]; exact among_any c alp w (by rw [alp_size]; decide)

set_option maxHeartbeats 400000 in
theorem rckL_any (s : ByteArray) (w : World) :
    Calls Tryz.prog 72 #[.string s] w fun e w' => e = .returned (.int .i64 (lab s)) ∧ w' = w := by
  by_cases h1 : s.size < 1
  · have hh : Hid (lab s = 130) := lab_no (fun h => by have := h.1; omega)
    go_enter Tryz.func72, Tryz.ntmps72
    go_wp2
    go_ret
    exact ⟨by rw [hh.out]; rfl, rfl⟩
  · by_cases h2 : 211 < s.size
    · have hh : Hid (lab s = 130) := lab_no (fun h => by have := h.2.1; omega)
      go_enter Tryz.func72, Tryz.ntmps72
      go_wp2
      go_ret
      exact ⟨by rw [hh.out]; rfl, rfl⟩
    · have N1 : Hid (¬ s.size < 1) := h1
      have N2 : Hid (¬ 211 < s.size) := h2
      have hb := get_bt s
      have hbd := bt_bd s
      have hsz : s.size ≤ 211 := by omega
      go_enter Tryz.func72, Tryz.ntmps72
      go_wp2
      clear h1 h2
      go_loop [3] (fun i => ∃ k : Nat, k ≤ s.size ∧ i = .int .i64 k ∧ Hid (∀ j, j < k → labC (bt s j) = true ∧ (j = 0 → bt s j ≠ 46))) (fun i => s.size - (intOf i).toNat)
      case atStart => exact ⟨0, Nat.zero_le _, rfl, fun j hj => absurd hj (by omega)⟩
      case round =>
        obtain ⟨k, hk, rfl, hok⟩ := hrel
        by_cases hlt : k < s.size
        · cases hc : labC (bt s k)
          · have hh : Hid (lab s = 130) := lab_no (fun h => by have := h.2.2.2 k hlt; rw [hc] at this; exact Bool.noConfusion this)
            have HC : Hid (labC (bt s k) = false) := hc
            clear hc
            go_wp2_with fail
            refine (among_alp _ _ (hbd k)).mono ?_
            rintro e w1 ⟨rfl, rfl⟩
            rw [HC.out]
            go_wp2
            go_ret
            exact ⟨by rw [hh.out]; rfl, rfl⟩
          · have HC : Hid (labC (bt s k) = true) := hc
            clear hc
            by_cases hk0 : k = 0
            · subst hk0
              by_cases h46 : bt s 0 = 46
              · have hh : Hid (lab s = 130) := lab_no (fun h => h.2.2.1 h46)
                have E : (bt s 0 == 46) = true := by simp [h46]
                clear h46
                go_wp2_with fail
                refine (among_alp _ _ (hbd 0)).mono ?_
                rintro e w1 ⟨rfl, rfl⟩
                rw [HC.out]
                go_wp2
                go_ret
                exact ⟨by rw [hh.out]; rfl, rfl⟩
              · have E : (bt s 0 == 46) = false := by simp [h46]
                have HE : Hid (bt s 0 ≠ 46) := h46
                clear h46
                go_wp2_with fail
                refine (among_alp _ _ (hbd 0)).mono ?_
                rintro e w1 ⟨rfl, rfl⟩
                rw [HC.out]
                go_wp2
                go_round
                case rel => exact ⟨1, by omega, by go_num, fun j hj => by
                  obtain rfl : j = 0 := by omega
                  exact ⟨HC.out, fun _ => HE.out⟩⟩
                case measure => simp [intOf]; omega
            · have E : ((k : Int) == 0) = false := by rw [beq_eq_false_iff_ne]; omega
              have HK : Hid (k ≠ 0) := hk0
              clear hk0
              go_wp2_with fail
              refine (among_alp _ _ (hbd k)).mono ?_
              rintro e w1 ⟨rfl, rfl⟩
              rw [HC.out]
              go_wp2
              go_round
              case rel => exact ⟨k + 1, by omega, by go_num, fun j hj => by
                by_cases e : j = k
                · rw [e]; exact ⟨HC.out, fun h => absurd h HK.out⟩
                · exact hok.out j (by omega)⟩
              case measure => simp [intOf]; omega
        · have hh : Hid (lab s = 0) := lab_yes ⟨by have := N1.out; omega, by have := N2.out; omega, (hok.out 0 (by have := N1.out; omega)).2 rfl, fun j hj => (hok.out j (by omega)).1⟩
          go_wp2
          go_ret
          exact ⟨by rw [hh.out]; rfl, rfl⟩

end Go.Proofs.YtgnlkggodchlbaaGreatDoor
/- spath.Parse, Base, Full and the document's Parse, walked. -/
namespace Go.Proofs.YtgnlkggodchlbaaGreatDoor
open Go.RowKit

/-- What every path begins with. -/
def dirS : ByteArray := ⟨#[47, 100, 101, 112, 111, 116, 47, 115, 116, 111, 114, 101, 47]⟩
/-- Does it begin so? -/
def pre (p : ByteArray) : Bool := (p.extract 0 13).toList == dirS.toList
def pHash (p : ByteArray) : ByteArray := p.extract 13 45
def pLab (p : ByteArray) : ByteArray := p.extract 46 p.size
/-- Has it a path's shape? -/
def shp (p : ByteArray) : Prop := 46 ≤ p.size ∧ pre p = true ∧ bt p 45 = 45
instance (p : ByteArray) : Decidable (shp p) := inferInstanceAs (Decidable (_ ∧ _ ∧ _))
def prC (p : ByteArray) : Int := if shp p then (if hshOk (pHash p) then lab (pLab p) else 131) else 132
/-- x where the path is good, else nothing. -/
def iffy (c : Int) (x : ByteArray) : ByteArray := if c = 0 then x else ⟨#[]⟩
def prH (p : ByteArray) : ByteArray := iffy (prC p) (pHash p)
def prL (p : ByteArray) : ByteArray := iffy (prC p) (pLab p)
theorem iffy_no {c : Int} (h : c ≠ 0) (x : ByteArray) : iffy c x = ⟨#[]⟩ := if_neg h
theorem iffy_yes {c : Int} (h : c = 0) (x : ByteArray) : iffy c x = x := if_pos h

theorem prC_shape {p : ByteArray} (h : ¬ shp p) : prC p = 132 := if_neg h
theorem prC_hash {p : ByteArray} (h : shp p) (g : ¬ hshOk (pHash p)) : prC p = 131 := by unfold prC; rw [if_pos h, if_neg g]
theorem prC_lab {p : ByteArray} (h : shp p) (g : hshOk (pHash p)) : prC p = lab (pLab p) := by unfold prC; rw [if_pos h, if_pos g]

set_option maxHeartbeats 400000 in
theorem hasP_yes (p : ByteArray) (w : World) (h0 : 13 ≤ p.size) (h : ((p.extract 0 13).toList == dirS.toList) = true) :
    Calls Tryz.prog 60 #[.string p, .string dirS] w fun e w' => e = .returned (.bool true) ∧ w' = w := by
  have hz : dirS.size = 13 := rfl
  go_enter Tryz.func60, Tryz.ntmps60
  go_wp2
  go_ret
  exact ⟨rfl, rfl⟩
set_option maxHeartbeats 400000 in
theorem hasP_no (p : ByteArray) (w : World) (h0 : 13 ≤ p.size) (h : ((p.extract 0 13).toList == dirS.toList) = false) :
    Calls Tryz.prog 60 #[.string p, .string dirS] w fun e w' => e = .returned (.bool false) ∧ w' = w := by
  have hz : dirS.size = 13 := rfl
  go_enter Tryz.func60, Tryz.ntmps60
  go_wp2
  go_ret
  exact ⟨rfl, rfl⟩
set_option maxHeartbeats 400000 in
theorem hasP_short (p : ByteArray) (w : World) (h0 : p.size < 13) :
    Calls Tryz.prog 60 #[.string p, .string dirS] w fun e w' => e = .returned (.bool false) ∧ w' = w := by
  have hz : dirS.size = 13 := rfl
  go_enter Tryz.func60, Tryz.ntmps60
  go_wp2
  go_ret
  exact ⟨rfl, rfl⟩

/-- Begins it with Dir? -/
def hpB (p : ByteArray) : Bool := decide (13 ≤ p.size) && pre p
theorem hasP_any (p : ByteArray) (w : World) :
    Calls Tryz.prog 60 #[.string p, .string dirS] w fun e w' => e = .returned (.bool (hpB p)) ∧ w' = w := by
  unfold hpB
  by_cases h0 : 13 ≤ p.size
  · rw [decide_eq_true h0, Bool.true_and]
    cases h : pre p
    · exact hasP_no p w h0 h
    · exact hasP_yes p w h0 h
  · rw [decide_eq_false h0, Bool.false_and]
    exact hasP_short p w (by omega)

set_option maxHeartbeats 400000 in
theorem scutP_any (p : ByteArray) (w : World) :
    Calls Tryz.prog 61 #[.string p, .string dirS] w fun e w' => e = .returned (.tuple #[.string (if hpB p then p.extract 13 p.size else p), .bool (hpB p)]) ∧ w' = w := by
  have hz : dirS.size = 13 := rfl
  cases h : hpB p
  · have H : Hid (hpB p = false) := h
    clear h
    rw [if_neg (by decide)]
    go_enter Tryz.func61, Tryz.ntmps61
    go_wp2_with fail
    refine (hasP_any _ _).mono ?_
    rintro e w1 ⟨rfl, rfl⟩
    rw [H.out]
    go_wp2
    go_ret2
    exact ⟨rfl, rfl⟩
  · have H : Hid (hpB p = true) := h
    have h13 : 13 ≤ p.size := by
      unfold hpB at h
      rw [Bool.and_eq_true, decide_eq_true_eq] at h
      exact h.1
    clear h
    rw [if_pos rfl]
    go_enter Tryz.func61, Tryz.ntmps61
    go_wp2_with fail
    refine (hasP_any _ _).mono ?_
    rintro e w1 ⟨rfl, rfl⟩
    rw [H.out]
    go_wp2
    go_ret2
    exact ⟨rfl, rfl⟩

set_option maxHeartbeats 400000 in
theorem cutP_any (p : ByteArray) (w : World) :
    Calls Tryz.prog 45 #[.string p, .string dirS] w fun e w' => e = .returned (.tuple #[.string (if hpB p then p.extract 13 p.size else p), .bool (hpB p)]) ∧ w' = w := by
  cases h : hpB p
  · have C := scutP_any p w
    rw [h, if_neg (by decide)] at C
    rw [if_neg (by decide)]
    have HC := C
    clear C h
    go_enter Tryz.func45, Tryz.ntmps45
    go_wp2_with fail
    refine HC.mono ?_
    rintro e w1 ⟨rfl, rfl⟩
    go_wp2
    go_ret2
    exact ⟨rfl, rfl⟩
  · have C := scutP_any p w
    rw [h, if_pos rfl] at C
    rw [if_pos rfl]
    have HC := C
    clear C h
    go_enter Tryz.func45, Tryz.ntmps45
    go_wp2_with fail
    refine HC.mono ?_
    rintro e w1 ⟨rfl, rfl⟩
    go_wp2
    go_ret2
    exact ⟨rfl, rfl⟩

end Go.Proofs.YtgnlkggodchlbaaGreatDoor
/- spath.Parse, Base, Full and the document's Parse, walked. -/
namespace Go.Proofs.YtgnlkggodchlbaaGreatDoor
open Go.RowKit

theorem bt_extract (s : ByteArray) (a b k : Nat) (hk : a + k < b) (hb : b ≤ s.size) : bt (s.extract a b) k = bt s (a + k) := by
  unfold bt
  have h1 : k < (s.extract a b).size := by rw [ByteArray.size_extract]; omega
  rw [dif_pos h1, dif_pos (show a + k < s.size by omega)]
  rw [ByteArray.getElem_extract]

theorem size_ext (s : ByteArray) (a b : Nat) (hb : b ≤ s.size) : (s.extract a b).size = b - a := by
  rw [ByteArray.size_extract]; omega

theorem base_hash (p : ByteArray) (h : 46 ≤ p.size) : (p.extract 13 p.size).extract 0 32 = pHash p := by
  unfold pHash
  apply bytes_ext
  · rw [size_ext _ _ _ (by rw [size_ext _ _ _ (Nat.le_refl _)]; omega), size_ext _ _ _ (by omega)]
  · intro k hk
    have hs : (p.extract 13 p.size).size = p.size - 13 := size_ext _ _ _ (Nat.le_refl _)
    have hk' : k < 32 := by rw [size_ext _ _ _ (by rw [hs]; omega)] at hk; omega
    rw [bt_extract _ _ _ _ (by omega) (by rw [hs]; omega), bt_extract _ _ _ _ (by omega) (Nat.le_refl _), bt_extract _ _ _ _ (by omega) (by omega)]
    congr 1; omega

theorem base_lab (p : ByteArray) (h : 46 ≤ p.size) : (p.extract 13 p.size).extract 33 (p.size - 13) = pLab p := by
  unfold pLab
  have hs : (p.extract 13 p.size).size = p.size - 13 := size_ext _ _ _ (Nat.le_refl _)
  apply bytes_ext
  · rw [size_ext _ _ _ (by rw [hs]; omega), size_ext _ _ _ (Nat.le_refl _)]; omega
  · intro k hk
    have hk' : k < p.size - 13 - 33 := by rw [size_ext _ _ _ (by rw [hs]; omega)] at hk; omega
    rw [bt_extract _ _ _ _ (by omega) (by rw [hs]; omega), bt_extract _ _ _ _ (by omega) (Nat.le_refl _), bt_extract _ _ _ _ (by omega) (by omega)]
    congr 1; omega

set_option maxHeartbeats 1000000 in
theorem parse_any (p : ByteArray) (w : World) :
    Calls Tryz.prog 25 #[.string p] w fun e w' => e = .returned (.tuple #[.string (prH p), .string (prL p), .int .i64 (prC p)]) ∧ Below w.heap.size w w' := by
  unfold prH prL
  have C := cutP_any p w
  cases hp : hpB p
  · have hn : prC p = 132 := prC_shape (fun h => by
      have : hpB p = true := by unfold hpB; rw [h.2.1, decide_eq_true (by have := h.1; omega)]; rfl
      rw [hp] at this; exact Bool.noConfusion this)
    rw [hn, iffy_no (by decide), iffy_no (by decide)]
    rw [hp, if_neg (by decide)] at C
    clear hp hn
    go_enter Tryz.func25, Tryz.ntmps25
    go_wp2_with fail
    refine C.mono ?_
    rintro e w1 ⟨rfl, rfl⟩
    go_wp2
    go_ret3
    exact ⟨rfl, Below.refl _ _⟩
  · have hpp := hp
    unfold hpB at hpp
    rw [Bool.and_eq_true, decide_eq_true_eq] at hpp
    obtain ⟨h13, hpre⟩ := hpp
    rw [hp, if_pos rfl] at C
    have hs : (p.extract 13 p.size).size = p.size - 13 := size_ext _ _ _ (Nat.le_refl _)
    by_cases hle : p.size - 13 ≤ 32
    · have hn : prC p = 132 := prC_shape (fun h => by have := h.1; omega)
      rw [hn, iffy_no (by decide), iffy_no (by decide)]
      have hsz : (p.extract 13 p.size).size ≤ 32 := by omega
      clear hp hn hle hs
      generalize p.extract 13 p.size = b at C hsz
      go_enter Tryz.func25, Tryz.ntmps25
      go_wp2_with fail
      refine C.mono ?_
      rintro e w1 ⟨rfl, rfl⟩
      go_wp2
      go_ret3
      exact ⟨rfl, Below.refl _ _⟩
    · have h46 : 46 ≤ p.size := by omega
      have e1 := base_hash p h46
      have e2 := base_lab p h46
      have e3 : bt (p.extract 13 p.size) 32 = bt p 45 := bt_extract _ _ _ _ (by omega) (Nat.le_refl _)
      rw [← hs] at e2
      by_cases h45 : bt p 45 = 45
      · have hshp : shp p := ⟨h46, hpre, h45⟩
        have E3 : (bt (p.extract 13 p.size) 32 == 45) = true := by rw [e3]; simp [h45]
        have hsz : ¬ (p.extract 13 p.size).size ≤ 32 := by omega
        have HB : Hid (33 ≤ (p.extract 13 p.size).size) := by unfold Hid; omega
        clear e3 h45 hs hle hp h13 hpre h46
        generalize p.extract 13 p.size = b at C E3 hsz e1 e2 HB
        have hb := get_bt b
        have E4 : (bt b 32 != 45) = false := by simp only [bne, E3]; rfl
        have h32 : 32 < b.size := by omega
        have h33 : 33 ≤ b.size := HB.out
        rcases hsh_cases (pHash p) with ⟨g1, g2⟩ | ⟨g1, g2⟩
        · have hc := prC_lab hshp g1
          rcases lab_cases (pLab p) with ⟨k1, k2⟩ | ⟨k1, k2⟩
          · rw [k2] at hc
            rw [hc, iffy_yes rfl, iffy_yes rfl]
            have G2 : Hid (hsh (pHash p) = 0) := g2
            have K2 : Hid (lab (pLab p) = 0) := k2
            clear g1 g2 k1 k2 hc hshp
            go_enter Tryz.func25, Tryz.ntmps25
            go_wp2_with fail
            refine C.mono ?_
            rintro e w1 ⟨rfl, rfl⟩
            go_wp2
            go_region
            go_wp2_with fail
            refine (ckH_any _ _).mono ?_
            rintro e w2 ⟨rfl, rfl⟩
            rw [G2.out]
            go_wp2_with fail
            refine (ckL_any _ _).mono ?_
            rintro e w3 ⟨rfl, B⟩
            rw [K2.out]
            go_wp2
            go_ret3
            exact ⟨rfl, ((Below.refl _ _).drew).trans B⟩
          · rw [k2] at hc
            rw [hc, iffy_no (by decide), iffy_no (by decide)]
            have G2 : Hid (hsh (pHash p) = 0) := g2
            have K2 : Hid (lab (pLab p) = 130) := k2
            clear g1 g2 k1 k2 hc hshp
            go_enter Tryz.func25, Tryz.ntmps25
            go_wp2_with fail
            refine C.mono ?_
            rintro e w1 ⟨rfl, rfl⟩
            go_wp2
            go_region
            go_wp2_with fail
            refine (ckH_any _ _).mono ?_
            rintro e w2 ⟨rfl, rfl⟩
            rw [G2.out]
            go_wp2_with fail
            refine (ckL_any _ _).mono ?_
            rintro e w3 ⟨rfl, B⟩
            rw [K2.out]
            go_wp2
            go_ret3
            exact ⟨rfl, ((Below.refl _ _).drew).trans B⟩
        · have hc := prC_hash hshp g1
          rw [hc, iffy_no (by decide), iffy_no (by decide)]
          have G2 : Hid (hsh (pHash p) = 131) := g2
          clear g1 g2 hc hshp
          go_enter Tryz.func25, Tryz.ntmps25
          go_wp2_with fail
          refine C.mono ?_
          rintro e w1 ⟨rfl, rfl⟩
          go_wp2
          go_region
          go_wp2_with fail
          refine (ckH_any _ _).mono ?_
          rintro e w2 ⟨rfl, rfl⟩
          rw [G2.out]
          go_wp2
          go_ret3
          exact ⟨rfl, (Below.refl _ _).drew⟩
      · have hn : prC p = 132 := prC_shape (fun h => h45 h.2.2)
        rw [hn, iffy_no (by decide), iffy_no (by decide)]
        have E3 : (bt (p.extract 13 p.size) 32 == 45) = false := by rw [e3]; simp [h45]
        have hsz : ¬ (p.extract 13 p.size).size ≤ 32 := by omega
        clear hn e1 e2 e3 h45 hs hle hp h13 hpre h46
        generalize p.extract 13 p.size = b at C E3 hsz
        have hb := get_bt b
        have E4 : (bt b 32 != 45) = true := by simp only [bne, E3]; rfl
        have h32 : 32 < b.size := by omega
        go_enter Tryz.func25, Tryz.ntmps25
        go_wp2_with fail
        refine C.mono ?_
        rintro e w1 ⟨rfl, rfl⟩
        go_wp2
        go_ret3
        exact ⟨rfl, Below.refl _ _⟩

end Go.Proofs.YtgnlkggodchlbaaGreatDoor
/- The document's Parse; spath.Base and Full, walked. -/
namespace Go.Proofs.YtgnlkggodchlbaaGreatDoor
open Go.RowKit

theorem dirS_list : dirS.toList = [47, 100, 101, 112, 111, 116, 47, 115, 116, 111, 114, 101, 47] := by decide +kernel

set_option maxHeartbeats 1000000 in
theorem rparse_any (p : ByteArray) (w : World) :
    Calls Tryz.prog 54 #[.string p] w fun e w' => e = .returned (.tuple #[.string (prH p), .string (prL p), .int .i64 (prC p)]) ∧ w' = w := by
  unfold prH prL
  by_cases h46 : p.size < 46
  · have hn : prC p = 132 := prC_shape (fun h => by have := h.1; omega)
    rw [hn, iffy_no (by decide), iffy_no (by decide)]
    go_enter Tryz.func54, Tryz.ntmps54
    go_wp2
    go_ret3
    exact ⟨rfl, rfl⟩
  · have hb := get_bt p
    have h1 : 13 ≤ p.size := by omega
    have h2 : 45 < p.size := by omega
    have h3 : 46 ≤ p.size := by omega
    have h4 : 45 ≤ p.size := by omega
    cases hpre : pre p
    · have hn : prC p = 132 := prC_shape (fun h => by have := h.2.1; rw [hpre] at this; exact Bool.noConfusion this)
      rw [hn, iffy_no (by decide), iffy_no (by decide)]
      have E : ((p.extract 0 13).toList == dirS.toList) = false := hpre
      have E' : ((p.extract 0 13).toList != dirS.toList) = true := by simp only [bne, E]; rfl
      have E2 : ((p.extract 0 13).toList == [47, 100, 101, 112, 111, 116, 47, 115, 116, 111, 114, 101, 47]) = false := by rw [← dirS_list]; exact E
      clear hpre hn E E'
      go_enter Tryz.func54, Tryz.ntmps54
      go_wp2
      go_ret3
      exact ⟨rfl, rfl⟩
    · have E : ((p.extract 0 13).toList == dirS.toList) = true := hpre
      have E' : ((p.extract 0 13).toList != dirS.toList) = false := by simp only [bne, E]; rfl
      have E2 : ((p.extract 0 13).toList == [47, 100, 101, 112, 111, 116, 47, 115, 116, 111, 114, 101, 47]) = true := by rw [← dirS_list]; exact E
      clear E E'
      by_cases h45 : bt p 45 = 45
      · have hshp : shp p := ⟨h3, hpre, h45⟩
        have E4 : (bt p 45 == 45) = true := by simp [h45]
        have E5 : (bt p 45 != 45) = false := by simp only [bne, E4]; rfl
        clear h45 hpre
        have e1 : p.extract 13 45 = pHash p := rfl
        have e2 : p.extract 46 p.size = pLab p := rfl
        rcases hsh_cases (pHash p) with ⟨g1, g2⟩ | ⟨g1, g2⟩
        · have hc := prC_lab hshp g1
          have G2 : Hid (hsh (pHash p) = 0) := g2
          rcases lab_cases (pLab p) with ⟨k1, k2⟩ | ⟨k1, k2⟩
          · rw [k2] at hc
            rw [hc, iffy_yes rfl, iffy_yes rfl]
            have K2 : Hid (lab (pLab p) = 0) := k2
            clear g1 g2 k1 k2 hc hshp
            go_enter Tryz.func54, Tryz.ntmps54
            go_wp2_with fail
            refine (rckH_any _ _).mono ?_
            rintro e w2 ⟨rfl, rfl⟩
            rw [G2.out]
            go_wp2_with fail
            refine (rckL_any _ _).mono ?_
            rintro e w3 ⟨rfl, rfl⟩
            rw [K2.out]
            go_wp2
            go_ret3
            exact ⟨rfl, rfl⟩
          · rw [k2] at hc
            rw [hc, iffy_no (by decide), iffy_no (by decide)]
            have K2 : Hid (lab (pLab p) = 130) := k2
            clear g1 g2 k1 k2 hc hshp
            go_enter Tryz.func54, Tryz.ntmps54
            go_wp2_with fail
            refine (rckH_any _ _).mono ?_
            rintro e w2 ⟨rfl, rfl⟩
            rw [G2.out]
            go_wp2_with fail
            refine (rckL_any _ _).mono ?_
            rintro e w3 ⟨rfl, rfl⟩
            rw [K2.out]
            go_wp2
            go_ret3
            exact ⟨rfl, rfl⟩
        · have hc := prC_hash hshp g1
          rw [hc, iffy_no (by decide), iffy_no (by decide)]
          have G2 : Hid (hsh (pHash p) = 131) := g2
          clear g1 g2 hc hshp
          go_enter Tryz.func54, Tryz.ntmps54
          go_wp2_with fail
          refine (rckH_any _ _).mono ?_
          rintro e w2 ⟨rfl, rfl⟩
          rw [G2.out]
          go_wp2
          go_ret3
          exact ⟨rfl, rfl⟩
      · have hn : prC p = 132 := prC_shape (fun h => h45 h.2.2)
        rw [hn, iffy_no (by decide), iffy_no (by decide)]
        have E4 : (bt p 45 == 45) = false := by simp [h45]
        have E5 : (bt p 45 != 45) = true := by simp only [bne, E4]; rfl
        clear h45 hpre hn
        go_enter Tryz.func54, Tryz.ntmps54
        go_wp2
        go_ret3
        exact ⟨rfl, rfl⟩

theorem prC_size {p : ByteArray} (h : prC p = 0) : 46 ≤ p.size := by
  by_cases g : shp p
  · exact g.1
  · rw [prC_shape g] at h; omega

set_option maxHeartbeats 400000 in
theorem base_any (p : ByteArray) (w : World) :
    Calls Tryz.prog 32 #[.string p] w fun e w' => e = .returned (.tuple #[.string (iffy (prC p) (p.extract 13 p.size)), .int .i64 (prC p)]) ∧ Below w.heap.size w w' := by
  by_cases h : prC p = 0
  · have h13 : 13 ≤ p.size := by have := prC_size h; omega
    rw [iffy_yes h]
    have H : Hid (prC p = 0) := h
    rw [h]
    clear h
    go_enter Tryz.func32, Tryz.ntmps32
    go_wp2_with fail
    refine (parse_any _ _).mono ?_
    rintro e w1 ⟨rfl, B⟩
    rw [H.out]
    go_wp2
    go_ret2
    exact ⟨rfl, B⟩
  · rw [iffy_no h]
    have H : (prC p == 0) = false := by rw [beq_eq_false_iff_ne]; exact h
    have H' : (prC p != 0) = true := by simp only [bne, H]; rfl
    clear h
    go_enter Tryz.func32, Tryz.ntmps32
    go_wp2_with fail
    refine (parse_any _ _).mono ?_
    rintro e w1 ⟨rfl, B⟩
    go_wp2
    go_ret2
    exact ⟨rfl, B⟩

end Go.Proofs.YtgnlkggodchlbaaGreatDoor
/- awake and the law SpathParses, walked. -/
namespace Go.Proofs.YtgnlkggodchlbaaGreatDoor
open Go.RowKit

def exA : ByteArray := ⟨#[47, 100, 101, 112, 111, 116, 47, 115, 116, 111, 114, 101, 47, 48, 49, 50, 51, 52, 53, 54, 55, 56, 57, 97, 98, 99, 100, 102, 103, 104, 105, 106, 107, 108, 109, 110, 112, 113, 114, 115, 118, 119, 120, 121, 122, 45, 97, 46, 98]⟩
def exB : ByteArray := ⟨#[47, 100, 101, 112, 111, 116, 47, 115, 116, 111, 114, 101, 47, 48, 49, 50, 51, 52, 53, 54, 55, 56, 57, 97, 98, 99, 100, 102, 103, 104, 105, 106, 107, 108, 109, 110, 112, 113, 114, 115, 118, 119, 120, 121, 122, 45]⟩
theorem exA_C : prC exA = 0 := by decide +kernel
theorem exA_H : prH exA = lts := by decide +kernel
theorem exA_L : prL exA = ⟨#[97, 46, 98]⟩ := by decide +kernel
theorem exB_C : prC exB = 130 := by decide +kernel
theorem exB_H : prH exB = ⟨#[]⟩ := by decide +kernel
theorem exB_L : prL exB = ⟨#[]⟩ := by decide +kernel

theorem prC_vals (p : ByteArray) : 0 ≤ prC p ∧ prC p ≤ 132 := by
  unfold prC
  split
  · split
    · rcases lab_cases (pLab p) with ⟨_, h⟩ | ⟨_, h⟩ <;> rw [h] <;> decide
    · decide
  · decide

end Go.Proofs.YtgnlkggodchlbaaGreatDoor
/- spath.CheckRefs and the document's, walked. -/
namespace Go.Proofs.YtgnlkggodchlbaaGreatDoor
open Go.RowKit

theorem le_not (a b : List UInt8) : (Op.bytesLess b a || b == a) = !(Op.bytesLess a b) := by
  induction a generalizing b with
  | nil => cases b with
    | nil => rfl
    | cons y b => rfl
  | cons x a ih => cases b with
    | nil => rfl
    | cons y b =>
      have := ih b
      unfold Op.bytesLess
      by_cases h1 : x < y
      · have h2 : ¬ y < x := by rw [UInt8.lt_iff_toNat_lt] at h1 ⊢; omega
        have h3 : ¬ y = x := fun e => by subst e; exact absurd h1 (by simp)
        simp [h1, h2, h3]
      · by_cases h2 : y < x
        · have h3 : ¬ x = y := fun e => by subst e; exact absurd h2 (by simp)
          simp [h1, h2, h3]
        · have hxy : x = y := by
            apply UInt8.toNat_inj.1
            rw [UInt8.lt_iff_toNat_lt] at h1 h2; omega
          subst hxy
          simpa [h1] using this

/-- The cells of a row of texts. -/
def SIs (w : World) (x : Option Addr) (n : Nat) (f : Nat → ByteArray) : Prop := ∀ i, i < n → ∃ a, x = some a ∧ w.cell? (a.add i) = some (.string (f i))
theorem add_succ (a : Addr) (k : Nat) : a.add (k + 1) = ⟨a.block, a.off + (k + 1), none⟩ := by unfold Addr.add; rw [if_neg (by omega)]
theorem add_zero' (a : Addr) : a.add 0 = a := by unfold Addr.add; rw [if_pos rfl]
theorem SIs.below {w w' : World} {x : Option Addr} {n B : Nat} {f : Nat → ByteArray} (h : SIs w x n f) (b : Below B w w') (hB : w.heap.size ≤ B) : SIs w' x n f := fun i hi => by
  obtain ⟨a, ha, hc⟩ := h i hi
  refine ⟨a, ha, ?_⟩
  have hl := World.block_lt_of_cell? _ _ hc
  rw [b.cell (p := a.add i) (by omega)]
  exact hc

/-- The first k references are paths that rise. -/
def refsOk (f : Nat → ByteArray) (k : Nat) : Prop := ∀ i, i < k → prC (f i) = 0 ∧ (0 < i → Op.bytesLess (f (i - 1)).toList (f i).toList = true)
instance (f : Nat → ByteArray) (k : Nat) : Decidable (refsOk f k) := inferInstanceAs (Decidable (∀ i, i < k → _))
def crf (f : Nat → ByteArray) (n : Nat) : Int := if 1024 < n then 171 else if refsOk f n then 0 else 133
theorem crf_many {f : Nat → ByteArray} {n : Nat} (h : 1024 < n) : crf f n = 171 := if_pos h
theorem crf_no {f : Nat → ByteArray} {n : Nat} (h : ¬ 1024 < n) (g : ¬ refsOk f n) : crf f n = 133 := by unfold crf; rw [if_neg h, if_neg g]
theorem crf_yes {f : Nat → ByteArray} {n : Nat} (h : ¬ 1024 < n) (g : refsOk f n) : crf f n = 0 := by unfold crf; rw [if_neg h, if_pos g]
theorem refsOk_succ {f : Nat → ByteArray} {k : Nat} (h : refsOk f k) (h1 : prC (f k) = 0) (h2 : 0 < k → Op.bytesLess (f (k - 1)).toList (f k).toList = true) : refsOk f (k + 1) := fun i hi => by
  by_cases e : i = k
  · rw [e]; exact ⟨h1, h2⟩
  · exact h i (by omega)
theorem refsOk_bad1 {f : Nat → ByteArray} {k n : Nat} (hk : k < n) (h1 : prC (f k) ≠ 0) : ¬ refsOk f n := fun h => h1 (h k hk).1
theorem refsOk_bad2 {f : Nat → ByteArray} {k n : Nat} (hk : k + 1 < n) (h1 : Op.bytesLess (f k).toList (f (k + 1)).toList = false) : ¬ refsOk f n := fun h => by
  have := (h (k + 1) hk).2 (by omega)
  rw [Nat.add_sub_cancel, h1] at this
  exact Bool.noConfusion this
theorem crf_vals (f : Nat → ByteArray) (n : Nat) : 0 ≤ crf f n ∧ crf f n ≤ 171 := by
  unfold crf
  repeat' split
  all_goals omega

set_option maxHeartbeats 2000000 in
theorem ckR_any (x : Option Addr) (n c : Nat) (f : Nat → ByteArray) (w : World) (hS : SIs w x n f) :
    Calls Tryz.prog 26 #[.slice x n c] w fun e w' => e = .returned (.int .i64 (crf f n)) ∧ Below w.heap.size w w' := by
  by_cases hm : 1024 < n
  · have hh : Hid (crf f n = 171) := crf_many hm
    go_enter Tryz.func26, Tryz.ntmps26
    go_wp2
    go_ret
    exact ⟨by rw [hh.out]; rfl, Below.refl _ _⟩
  · have HM : Hid (¬ 1024 < n) := hm
    have HS : Hid (SIs w x n f) := hS
    clear hS
    go_enter Tryz.func26, Tryz.ntmps26
    go_wp2
    have hn : n ≤ 1024 := by omega
    clear hm
    go_loopw [13] (fun i wr => ∃ k : Nat, k ≤ n ∧ i = .int .i64 k ∧ Hid (refsOk f k) ∧ Hid (Below w.heap.size w wr)) (fun i _ => n - (intOf i).toNat)
    case atStart => exact ⟨0, Nat.zero_le _, rfl, fun i hi => absurd hi (by omega), Below.refl _ _⟩
    case round =>
      obtain ⟨k, hk, rfl, hok, B⟩ := hrel
      by_cases hlt : k < n
      · have S1 := HS.out.below B.out (Nat.le_refl _)
        obtain ⟨a, rfl, c0⟩ := S1 k hlt
        by_cases h1 : prC (f k) = 0
        · have H1 : Hid (prC (f k) = 0) := h1
          clear h1
          rcases (show k = 0 ∨ ∃ j, k = j + 1 from by cases k with | zero => exact Or.inl rfl | succ j => exact Or.inr ⟨j, rfl⟩) with hk0 | ⟨j, hj⟩
          · subst hk0
            clear S1
            have c0' : wr.cell? a = some (.string (f 0)) := by rw [add_zero'] at c0; exact c0
            clear c0
            go_wp2_with fail
            refine (parse_any _ _).mono ?_
            rintro e w1 ⟨rfl, b1⟩
            rw [H1.out]
            have B1 : Hid (Below w.heap.size w w1) := B.out.trans (b1.mono B.out.size)
            clear b1 B
            go_wp2
            go_roundw
            case rel => exact ⟨1, by omega, by go_num, refsOk_succ hok.out H1.out (fun h => absurd h (by omega)), B1⟩
            case measure => simp [intOf]; omega
          · subst hj
            obtain ⟨a', ha', c1⟩ := S1 j (by omega)
            obtain rfl := Option.some.inj ha'
            clear S1 ha'
            rw [add_succ] at c0
            have hj0 : (0 : Int) < (j : Int) + 1 := by omega
            have hj1 : (j : Int) + 1 < (n : Int) := by omega
            have hj2 : j + 1 < n := hlt
            have hj3 : j < n := by omega
            have hj4 : ((j : Int) + 1).toNat = j + 1 := by omega
            have hj5 : ¬ ((j : Int) + 1 < 0) := by omega
            have hj6 : IntKind.i64.wrap ((j : Nat) : Int) = (j : Int) := by rw [IntKind.wrap_i64]; omega
            cases h2 : Op.bytesLess (f j).toList (f (j + 1)).toList
            · have hh : Hid (crf f n = 133) := crf_no HM.out (refsOk_bad2 hlt h2)
              have LE : (Op.bytesLess (f (j + 1)).toList (f j).toList || (f (j + 1)).toList == (f j).toList) = true := by rw [le_not, h2]; rfl
              clear h2
              go_wp2_with fail
              refine (parse_any _ _).mono ?_
              rintro e w1 ⟨rfl, b1⟩
              rw [H1.out]
              have B1 : Hid (Below w.heap.size w w1) := B.out.trans (b1.mono B.out.size)
              have c2 : w1.cell? (a.add j) = some (.string (f j)) := by rw [b1.cell (World.block_lt_of_cell? _ _ c1)]; exact c1
              clear b1 B c0 c1
              go_wp2
              go_ret
              exact ⟨by rw [hh.out]; rfl, B1.out⟩
            · have LE : (Op.bytesLess (f (j + 1)).toList (f j).toList || (f (j + 1)).toList == (f j).toList) = false := by rw [le_not, h2]; rfl
              have H2 : Hid (Op.bytesLess (f j).toList (f (j + 1)).toList = true) := h2
              clear h2
              go_wp2_with fail
              refine (parse_any _ _).mono ?_
              rintro e w1 ⟨rfl, b1⟩
              rw [H1.out]
              have B1 : Hid (Below w.heap.size w w1) := B.out.trans (b1.mono B.out.size)
              have c2 : w1.cell? (a.add j) = some (.string (f j)) := by rw [b1.cell (World.block_lt_of_cell? _ _ c1)]; exact c1
              clear b1 B c0 c1
              go_wp2
              go_roundw
              case rel => exact ⟨j + 1 + 1, by omega, by go_num, refsOk_succ hok.out H1.out (fun _ => H2.out), B1⟩
              case measure => simp [intOf]; omega
        · have hh : Hid (crf f n = 133) := crf_no HM.out (refsOk_bad1 hlt h1)
          have H1 : (prC (f k) == 0) = false := by rw [beq_eq_false_iff_ne]; exact h1
          have H2 : (prC (f k) != 0) = true := by simp only [bne, H1]; rfl
          clear h1
          go_wp2_with fail
          refine (parse_any _ _).mono ?_
          rintro e w1 ⟨rfl, b1⟩
          have B1 : Hid (Below w.heap.size w w1) := B.out.trans (b1.mono B.out.size)
          clear b1 B
          go_wp2
          go_ret
          exact ⟨by rw [hh.out]; rfl, B1.out⟩
      · have hh : Hid (crf f n = 0) := by
          obtain rfl : k = n := by omega
          exact crf_yes HM.out hok.out
        go_wp2
        go_ret
        exact ⟨by rw [hh.out]; rfl, B.out⟩

end Go.Proofs.YtgnlkggodchlbaaGreatDoor
/- The document's CheckRefs and the law SpathChecks, walked. -/
namespace Go.Proofs.YtgnlkggodchlbaaGreatDoor
open Go.RowKit

set_option maxHeartbeats 400000 in
theorem good_any (p : ByteArray) (w : World) :
    Calls Tryz.prog 55 #[.string p] w fun e w' => e = .returned (.bool (prC p == 0)) ∧ w' = w := by
  go_enter Tryz.func55, Tryz.ntmps55
  go_wp2_with fail
  refine (rparse_any _ _).mono ?_
  rintro e w1 ⟨rfl, rfl⟩
  go_wp2
  go_ret
  exact ⟨rfl, rfl⟩

theorem less_nil (s : ByteArray) (h : 46 ≤ s.size) : Op.bytesLess [] s.toList = true := by
  rw [Lib.toList_data]
  cases e : s.data.toList with
  | nil => rw [Lib.size_eq, e] at h; simp at h
  | cons _ _ => rfl

/-- The text ahead of place k. -/
def ahead (f : Nat → ByteArray) (k : Nat) : ByteArray := if k = 0 then ⟨#[]⟩ else f (k - 1)
theorem less_ahead (f : Nat → ByteArray) (k : Nat) (h : prC (f k) = 0) : (0 < k → Op.bytesLess (f (k - 1)).toList (f k).toList = true) ↔ Op.bytesLess (ahead f k).toList (f k).toList = true := by
  unfold ahead
  by_cases h0 : k = 0
  · subst h0
    rw [if_pos rfl]
    have := less_nil (f 0) (prC_size h)
    have e : (ByteArray.toList ⟨#[]⟩) = [] := by decide +kernel
    rw [e]
    exact ⟨fun _ => this, fun _ h => absurd h (by omega)⟩
  · rw [if_neg h0]
    exact ⟨fun h => h (by omega), fun h _ => h⟩

set_option maxHeartbeats 2000000 in
theorem rckR_any (x : Option Addr) (n c : Nat) (f : Nat → ByteArray) (w : World) (hS : SIs w x n f) :
    Calls Tryz.prog 36 #[.slice x n c] w fun e w' => e = .returned (.int .i64 (crf f n)) ∧ w' = w := by
  by_cases hm : 1024 < n
  · have hh : Hid (crf f n = 171) := crf_many hm
    go_enter Tryz.func36, Tryz.ntmps36
    go_wp2
    go_ret
    exact ⟨by rw [hh.out]; rfl, rfl⟩
  · have HM : Hid (¬ 1024 < n) := hm
    have HS : Hid (SIs w x n f) := hS
    clear hS
    go_enter Tryz.func36, Tryz.ntmps36
    go_wp2
    have hn : n ≤ 1024 := by omega
    clear hm
    go_loop [3, 4] (fun l i => ∃ k : Nat, k ≤ n ∧ i = .int .i64 k ∧ l = .string (ahead f k) ∧ Hid (refsOk f k)) (fun _ i => n - (intOf i).toNat)
    case atStart => exact ⟨0, Nat.zero_le _, rfl, rfl, fun i hi => absurd hi (by omega)⟩
    case round =>
      obtain ⟨k, hk, rfl, rfl, hok⟩ := hrel
      by_cases hlt : k < n
      · obtain ⟨a, rfl, c0⟩ := HS.out k hlt
        have HA : Hid (ahead f (k + 1) = f k) := by unfold Hid ahead; rw [if_neg (by omega), Nat.add_sub_cancel]
        by_cases h1 : prC (f k) = 0
        · have G1 : (prC (f k) == 0) = true := by simp [h1]
          have H1 : Hid (prC (f k) = 0) := h1
          have HL : Hid (_ ↔ _) := less_ahead f k h1
          clear h1
          generalize ahead f k = L at HL
          cases h2 : Op.bytesLess L.toList (f k).toList
          · have hh : Hid (crf f n = 133) := crf_no HM.out (fun h => by
              have := HL.out.1 (h k hlt).2
              rw [h2] at this; exact Bool.noConfusion this)
            have LE : (Op.bytesLess (f k).toList L.toList || (f k).toList == L.toList) = true := by rw [le_not, h2]; rfl
            clear h2
            go_wp2_with fail
            refine (good_any _ _).mono ?_
            rintro e w1 ⟨rfl, rfl⟩
            rw [G1]
            go_wp2
            go_ret
            exact ⟨by rw [hh.out]; rfl, rfl⟩
          · have LE : (Op.bytesLess (f k).toList L.toList || (f k).toList == L.toList) = false := by rw [le_not, h2]; rfl
            have hr : Hid (refsOk f (k + 1)) := refsOk_succ hok.out H1.out (HL.out.2 h2)
            clear h2
            go_wp2_with fail
            refine (good_any _ _).mono ?_
            rintro e w1 ⟨rfl, rfl⟩
            rw [G1]
            go_wp2
            go_round
            case rel => exact ⟨k + 1, by omega, by go_num, by rw [HA.out], hr⟩
            case measure => simp [intOf]; omega
        · have hh : Hid (crf f n = 133) := crf_no HM.out (refsOk_bad1 hlt h1)
          have G1 : (prC (f k) == 0) = false := by rw [beq_eq_false_iff_ne]; exact h1
          clear h1
          go_wp2_with fail
          refine (good_any _ _).mono ?_
          rintro e w1 ⟨rfl, rfl⟩
          rw [G1]
          go_wp2
          go_ret
          exact ⟨by rw [hh.out]; rfl, rfl⟩
      · have hh : Hid (crf f n = 0) := by
          obtain rfl : k = n := by omega
          exact crf_yes HM.out hok.out
        go_wp2
        go_ret
        exact ⟨by rw [hh.out]; rfl, rfl⟩

end Go.Proofs.YtgnlkggodchlbaaGreatDoor
/- What radix.Hex answers: two digits a byte. -/
namespace Go.Proofs.YtgnlkggodchlbaaGreatDoor
open Go.RowKit
theorem Tryz.hinfo5 : (Tryz.prog.info? 5).map (fun i => (i.zero, i.size, i.bytes)) = some (some (.int .u8 0), 1, 1) := by kernel_rfl
/-- The sixteen digits. -/
def dgx : ByteArray := ⟨#[48, 49, 50, 51, 52, 53, 54, 55, 56, 57, 97, 98, 99, 100, 101, 102]⟩
def dig (v : Int) : Int := if v < 10 then 48 + v else 87 + v
theorem bt_dgx : ∀ n, n < 16 → bt dgx n = dig n := by decide +kernel
theorem dgx_get (n : Nat) (h : n < dgx.size) : ((dgx[n]'h).toNat : Int) = dig n := by
  rw [get_bt dgx n h]; exact bt_dgx n h
/-- Letter j of the hexadecimal text of s. -/
def hexFn (s : ByteArray) (j : Nat) : Int := dig (if j % 2 = 0 then bt s (j / 2) / 16 else bt s (j / 2) % 16)
def hexStr (s : ByteArray) : ByteArray := strFn (2 * s.size) (hexFn s)
theorem dig_bd (v : Int) (h0 : 0 ≤ v) (h1 : v < 16) : 0 ≤ dig v ∧ dig v < 256 := by unfold dig; split <;> omega
theorem hexFn_bd (s : ByteArray) (j : Nat) : 0 ≤ hexFn s j ∧ hexFn s j < 256 := by
  unfold hexFn
  have := bt_bd s (j / 2)
  split
  · exact dig_bd _ (by omega) (by omega)
  · exact dig_bd _ (by omega) (by omega)

end Go.Proofs.YtgnlkggodchlbaaGreatDoor
/- Numbers by their digits (plain arithmetic). -/
namespace Go.Proofs.YtgnlkggodchlbaaGreatDoor

/-- The number whose digit i is f i, to the base B, n digits. -/
def num (B : Nat) (f : Nat → Nat) : Nat → Nat
  | 0 => 0
  | n + 1 => num B f n + f n * B ^ n

theorem num_lt (B : Nat) (f : Nat → Nat) (n : Nat) (_hB : 0 < B) (h : ∀ i, i < n → f i < B) : num B f n < B ^ n := by
  induction n with
  | zero => simp [num]
  | succ n ih =>
    rw [num, Nat.pow_succ]
    have h1 := ih (fun i hi => h i (by omega))
    have h2 : f n + 1 ≤ B := h n (by omega)
    have h3 : (f n + 1) * B ^ n ≤ B * B ^ n := Nat.mul_le_mul_right _ h2
    rw [Nat.add_mul, Nat.one_mul] at h3
    rw [Nat.mul_comm (B ^ n) B]
    omega

theorem num_congr (B : Nat) {f g : Nat → Nat} (n : Nat) (h : ∀ i, i < n → f i = g i) : num B f n = num B g n := by
  induction n with
  | zero => rfl
  | succ n ih => rw [num, num, ih (fun i hi => h i (by omega)), h n (by omega)]

/-- The digits from i on. -/
theorem num_div (B : Nat) (f : Nat → Nat) (i n : Nat) (hB : 0 < B) (h : ∀ i, i < n → f i < B) (hi : i ≤ n) : num B f n / B ^ i = num B (fun j => f (i + j)) (n - i) := by
  induction n with
  | zero =>
    obtain rfl : i = 0 := by omega
    simp [num]
  | succ n ih =>
    by_cases e : i = n + 1
    · subst e
      rw [Nat.sub_self, num, Nat.div_eq_of_lt (num_lt B f (n + 1) hB h)]
    · rw [num, show n + 1 - i = (n - i) + 1 from by omega, num, ← ih (fun j hj => h j (by omega)) (by omega), show i + (n - i) = n from by omega]
      have hp : B ^ n = B ^ i * B ^ (n - i) := by rw [← Nat.pow_add]; congr 1; omega
      rw [hp, ← Nat.mul_assoc, Nat.mul_comm (f n) (B ^ i), Nat.mul_assoc, Nat.add_mul_div_left _ _ (Nat.pow_pos hB)]

theorem num_head (B : Nat) (f : Nat → Nat) (n : Nat) (h : f 0 < B) : num B f (n + 1) % B = f 0 := by
  induction n with
  | zero => simp [num]; exact Nat.mod_eq_of_lt h
  | succ n ih => rw [num, Nat.pow_succ, ← Nat.mul_assoc, Nat.add_mul_mod_self_right, ih]

theorem num_digit (B : Nat) (f : Nat → Nat) (i n : Nat) (hB : 0 < B) (h : ∀ i, i < n → f i < B) (hi : i < n) : num B f n / B ^ i % B = f i := by
  rw [num_div B f i n hB h (by omega), show n - i = (n - i - 1) + 1 from by omega, num_head B _ _ (by simpa using h i hi)]
  simp

theorem num_of (B x n : Nat) (_hB : 0 < B) : num B (fun i => x / B ^ i % B) n = x % B ^ n := by
  induction n with
  | zero => simp [num, Nat.mod_one]
  | succ n ih => rw [num, ih, Nat.pow_succ, Nat.mod_mul, Nat.mul_comm (x / B ^ n % B)]

/-- Equal numbers have equal digits. -/
theorem num_inj (B : Nat) (f g : Nat → Nat) (n : Nat) (hB : 0 < B) (hf : ∀ i, i < n → f i < B) (hg : ∀ i, i < n → g i < B) (e : num B f n = num B g n) (i : Nat) (hi : i < n) : f i = g i := by
  rw [← num_digit B f i n hB hf hi, ← num_digit B g i n hB hg hi, e]

/-- A text's bytes as one number, the first byte the lowest. -/
def bnum (s : ByteArray) : Nat := num 256 (fun i => (bt s i).toNat) s.size

theorem bnum_lt (s : ByteArray) : bnum s < 256 ^ s.size := num_lt _ _ _ (by omega) (fun i _ => by have := bt_bd s i; omega)

theorem bnum_byte (s : ByteArray) (q : Nat) : ((bnum s / 256 ^ q % 256 : Nat) : Int) = bt s q := by
  by_cases h : q < s.size
  · unfold bnum
    rw [num_digit 256 _ q s.size (by omega) (fun i _ => by have := bt_bd s i; omega) h]
    have := bt_bd s q
    omega
  · rw [Nat.div_eq_of_lt (Nat.lt_of_lt_of_le (bnum_lt s) (Nat.pow_le_pow_right (by omega) (by omega)))]
    unfold bt
    rw [dif_neg h]
    rfl

theorem bnum_inj {a b : ByteArray} (hs : a.size = b.size) (e : bnum a = bnum b) : a = b :=
  bytes_ext hs (fun k _ => by rw [← bnum_byte a k, ← bnum_byte b k, e])

theorem bnum_strFn (n x : Nat) : bnum (strFn n (fun i => ((x / 256 ^ i % 256 : Nat) : Int))) = x % 256 ^ n := by
  unfold bnum
  rw [strFn_size, ← num_of 256 x n (by omega)]
  apply num_congr
  intro i hi
  rw [bt_strFn _ _ _ hi (by omega) (by omega)]
  omega

/-- Five bits from bit k on. -/
def fb (s : ByteArray) (k : Nat) : Int := (bt s (k / 8) + 256 * bt s (k / 8 + 1)) / 2 ^ (k % 8) % 32

theorem pow32 (j : Nat) : 32 ^ j = 256 ^ (5 * j / 8) * 2 ^ (5 * j % 8) := by
  rw [show (32 : Nat) = 2 ^ 5 from rfl, show (256 : Nat) = 2 ^ 8 from rfl, ← Nat.pow_mul, ← Nat.pow_mul, ← Nat.pow_add]
  congr 1
  omega

theorem fb_num (s : ByteArray) (j : Nat) : fb s (5 * j) = ((bnum s / 32 ^ j % 32 : Nat) : Int) := by
  unfold fb
  rw [pow32 j, ← Nat.div_div_eq_div_mul]
  have h0 := bnum_byte s (5 * j / 8)
  have h1 := bnum_byte s (5 * j / 8 + 1)
  rw [Nat.pow_succ, ← Nat.div_div_eq_div_mul] at h1
  generalize bnum s / 256 ^ (5 * j / 8) = x at h0 h1 ⊢
  generalize bt s (5 * j / 8) = a at h0 ⊢
  generalize bt s (5 * j / 8 + 1) = b at h1 ⊢
  have hr : 5 * j % 8 < 8 := Nat.mod_lt _ (by omega)
  generalize 5 * j % 8 = r at hr ⊢
  rcases (show r = 0 ∨ r = 1 ∨ r = 2 ∨ r = 3 ∨ r = 4 ∨ r = 5 ∨ r = 6 ∨ r = 7 from by omega) with rfl | rfl | rfl | rfl | rfl | rfl | rfl | rfl
  all_goals omega
#print axioms fb_num
end Go.Proofs.YtgnlkggodchlbaaGreatDoor
/- What radix.Base32 and radix.Value answer. -/
namespace Go.Proofs.YtgnlkggodchlbaaGreatDoor
open Go.RowKit
/-- How many letters n bytes take. -/
def lf (n : Nat) : Nat := (8 * n + 4) / 5
def b32Fn (s : ByteArray) (i : Nat) : Int := lt32 (fb s (5 * (lf s.size - 1 - i)))
def b32Str (s : ByteArray) : ByteArray := strFn (lf s.size) (b32Fn s)

theorem or_i64w (x y : Int) (h0 : 0 ≤ x) (h1 : x < 256) (h2 : 0 ≤ y) (h3 : y < 256) : bits .or .i64 x (y * 256) = x + 256 * y := by
  have e : bits .or .i64 x (y * 256) = ((x.toNat ||| (y * 256).toNat : Nat) : Int) := by
    obtain ⟨a, rfl⟩ := Int.eq_ofNat_of_zero_le h0
    obtain ⟨b, rfl⟩ := Int.eq_ofNat_of_zero_le h2
    have hk : ∀ n : Int, 0 ≤ n → n < 2 ^ 16 → IntKind.i64.wrap n = n := fun n g0 g1 => by rw [IntKind.wrap_i64]; omega
    have := (bits_nat .i64 16 (by decide) hk a (b * 256) (by omega) (by omega)).2
    rw [show ((b : Int) * 256) = ((b * 256 : Nat) : Int) from by omega, this]
    rfl
  rw [e, Nat.or_comm, nat_join 8 _ _ (by omega) (by omega)]
  omega

theorem and_i64w (x : Int) (h0 : 0 ≤ x) (h1 : x < 65536) : bits .and .i64 x 31 = x % 32 := by
  have hk : ∀ n : Int, 0 ≤ n → n < 2 ^ 16 → IntKind.i64.wrap n = n := fun n g0 g1 => by rw [IntKind.wrap_i64]; omega
  exact bits_mask .i64 16 (by decide) hk 5 (by decide) x h0 h1

set_option maxHeartbeats 400000 in
theorem lf_any (n : Nat) (w : World) (h : n ≤ 281474976710656) : Calls Tryz.prog 29 #[.int .i64 n] w fun e w' => e = .returned (.int .i64 (lf n)) ∧ w' = w := by
  have e : Hid ((lf n : Int) = (8 * (n : Int) + 4) / 5) := by unfold Hid lf; omega
  go_enter Tryz.func29, Tryz.ntmps29
  go_wp2
  go_ret
  rw [e.out]
  exact ⟨rfl, rfl⟩

theorem ret_i {k : IntKind} {a b : Int} (h : a = b) : Ending.returned (.int k a) = .returned (.int k b) := by rw [h]

theorem pw_cases (r : Nat) (h : r < 8) (x : Int) (h0 : 0 ≤ x) (h1 : x < 65536) : 0 ≤ x / 2 ^ r ∧ x / 2 ^ r < 65536 := by
  rcases (show r = 0 ∨ r = 1 ∨ r = 2 ∨ r = 3 ∨ r = 4 ∨ r = 5 ∨ r = 6 ∨ r = 7 from by omega) with rfl | rfl | rfl | rfl | rfl | rfl | rfl | rfl
  all_goals omega

theorem fb_of1 (s : ByteArray) (k : Nat) (b0 : 0 ≤ bt s (k / 8) ∧ bt s (k / 8) < 256) (b1 : 0 ≤ bt s (k / 8 + 1) ∧ bt s (k / 8 + 1) < 256) :
    bits .and .i64 (bits .or .i64 (bt s (k / 8)) (bt s (k / 8 + 1) * 256) / 2 ^ (k % 8)) 31 = fb s k := by
  rw [or_i64w _ _ b0.1 b0.2 b1.1 b1.2]
  have h := pw_cases (k % 8) (Nat.mod_lt _ (by omega)) (bt s (k / 8) + 256 * bt s (k / 8 + 1)) (by omega) (by omega)
  rw [and_i64w _ h.1 h.2]
  rfl

theorem fb_of2 (s : ByteArray) (k : Nat) (b0 : 0 ≤ bt s (k / 8) ∧ bt s (k / 8) < 256) (b1 : bt s (k / 8 + 1) = 0) :
    bits .and .i64 (bt s (k / 8) / 2 ^ (k % 8)) 31 = fb s k := by
  have h := pw_cases (k % 8) (Nat.mod_lt _ (by omega)) (bt s (k / 8)) (by omega) (by omega)
  rw [and_i64w _ h.1 h.2]
  unfold fb
  rw [b1]
  simp

set_option maxHeartbeats 400000 in
theorem fb_any (s : ByteArray) (k : Nat) (w : World) (hs : s.size ≤ 140737488351232) (hk : k < 8 * s.size) :
    Calls Tryz.prog 30 #[.string s, .int .i64 k] w fun e w' => e = .returned (.int .i64 (fb s k)) ∧ w' = w := by
  have hb := get_bt s
  have b0 := bt_bd s (k / 8)
  have b1 := bt_bd s (k / 8 + 1)
  have hk8 : k / 8 < s.size := by omega
  by_cases h : k / 8 + 1 < s.size
  · go_enter Tryz.func30, Tryz.ntmps30
    go_wp2
    go_ret
    exact ⟨ret_i (fb_of1 s k b0 b1), rfl⟩
  · have hz : bt s (k / 8 + 1) = 0 := by unfold bt; rw [dif_neg h]
    have HZ : Hid (bt s (k / 8 + 1) = 0) := hz
    clear hz b1
    go_enter Tryz.func30, Tryz.ntmps30
    go_wp2
    go_ret
    exact ⟨ret_i (fb_of2 s k b0 HZ.out), rfl⟩

set_option maxHeartbeats 400000 in
set_option maxRecDepth 100000 in
theorem b32_any (s : ByteArray) (w : World) (hs : s.size ≤ 140737488351232) :
    Calls Tryz.prog 14 #[.string s] w fun e w' => e = .returned (.string (b32Str s)) ∧ Below w.heap.size w w' := by
  obtain ⟨i0, hi, hz0, hz1, hz2⟩ := info_parts Tryz.hinfo5
  have hl : 5 * lf s.size ≤ 8 * s.size + 4 := by unfold lf; omega
  go_enter Tryz.func14, Tryz.ntmps14
  go_wp2_with fail
  refine (lf_any s.size _ (by omega)).mono ?_
  rintro e w1 ⟨rfl, rfl⟩
  have hd : Hid (b32Str s = strFn (lf s.size) (b32Fn s)) := rfl
  have hfn : Hid (∀ i, b32Fn s i = lt32 (fb s (5 * (lf s.size - 1 - i)))) := fun i => rfl
  generalize lf s.size = m at hl hd hfn ⊢
  go_wp2_with fail
  rw [run_make (P := Tryz.prog) w1 43 5 i0 (.int .u8 0) Tryz.underlying43 hi hz0 .i64 .i64 _ _ (by omega) (by omega) (by rw [hz2]; omega) (by omega)]
  have R0 : Row .u8 (w1.alloc (.cells (madeCells (Value.int .u8 0).cells ((m : Int).toNat * i0.size)) 5)) w1.heap.size m (fun _ => 0) := Row.made (by rw [hz1]; omega)
  have B0 : Below w1.heap.size w1 (w1.alloc (.cells (madeCells (Value.int .u8 0).cells ((m : Int).toNat * i0.size)) 5)) := (Below.refl _ _).alloc (Nat.le_refl _) _
  generalize w1.alloc (.cells (madeCells (Value.int .u8 0).cells ((m : Int).toNat * i0.size)) 5) = W1 at R0 B0 ⊢
  rw [Int.toNat_natCast]
  clear hi hz0 hz1 hz2
  go_wp2
  go_loopw [12] (fun i wr => ∃ k : Nat, k ≤ m ∧ i = .int .i64 k ∧ Row .u8 wr w1.heap.size m (fun j => if m - k ≤ j then b32Fn s j else 0) ∧ Below w1.heap.size w1 wr) (fun i _ => m - (intOf i).toNat)
  case atStart => exact ⟨0, Nat.zero_le _, rfl, R0.congr (fun j hj => by rw [if_neg (by omega)]), B0⟩
  case round =>
    obtain ⟨k, hk, rfl, R, B⟩ := hrel
    by_cases hlt : k < m
    · have c1 := R.cell (m - 1 - k) (by omega)
      have f1 := R.free (m - 1 - k) (by omega)
      have hfb : 0 ≤ fb s (5 * k) ∧ fb s (5 * k) < 32 := by unfold fb; omega
      have hd2 := get_bt ⟨#[48, 49, 50, 51, 52, 53, 54, 55, 56, 57, 97, 98, 99, 100, 102, 103, 104, 105, 106, 107, 108, 109, 110, 112, 113, 114, 115, 118, 119, 120, 121, 122]⟩
      go_wp2_with fail
      rw [show (5 * (k : Int)) = ((5 * k : Nat) : Int) from by omega]
      refine (fb_any s (5 * k) _ hs (by omega)).mono ?_
      rintro e w2 ⟨rfl, rfl⟩
      have he : Hid (bt ⟨#[48, 49, 50, 51, 52, 53, 54, 55, 56, 57, 97, 98, 99, 100, 102, 103, 104, 105, 106, 107, 108, 109, 110, 112, 113, 114, 115, 118, 119, 120, 121, 122]⟩ (fb s (5 * k)).toNat = b32Fn s (m - 1 - k)) := by
        unfold Hid
        rw [hfn.out, show m - 1 - (m - 1 - k) = k from by omega]
        rfl
      generalize fb s (5 * k) = x at hfb he ⊢
      go_wp2
      go_roundw
      case rel =>
        rw [he.out]
        refine ⟨k + 1, by omega, by go_num, (R.set (m - 1 - k) _ (by omega)).congr (fun j hj => ?_), B.setCell (Nat.le_refl _) _⟩
        by_cases a1 : j = m - 1 - k
        · rw [if_pos a1, if_pos (by omega), a1]
        · rw [if_neg a1]
          by_cases h : m - k ≤ j
          · rw [if_pos h, if_pos (by omega)]
          · rw [if_neg h, if_neg (by omega)]
      case measure => simp [intOf]; omega
    · have c1 := run_string_row (P := Tryz.prog) (src := 43) (dst := 9) (c := m) Tryz.underlying43 Tryz.underlying5 Tryz.underlying9 R
      obtain rfl : k = m := by omega
      rw [show strFn k (fun j => if k - k ≤ j then b32Fn s j else 0) = b32Str s from by rw [hd.out]; exact strFn_congr (fun j hj => by rw [if_pos (by omega)])] at c1
      go_wp2
      go_ret
      exact ⟨rfl, B⟩
#print axioms b32_any
end Go.Proofs.YtgnlkggodchlbaaGreatDoor
