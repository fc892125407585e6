/- The law WirePads. -/
import Derived.Test.YtjlbbnjcdickgabWrT
import Derived.Test.YtjlbbnjcdickgabWrW
import Derived.Deep.RegionWith
import Derived.Lib.Strings
namespace Go.Proofs.Ytjlbbnjcdickgab
open Go.RowKit

theorem ext_list (s : ByteArray) (a b : Nat) : s.extract a b = ba ((s.data.toList.drop a).take (b - a)) := by
  exact Go.Lib.extract_eq s a b

/-- The text with one padding byte changed. -/
theorem pads_text (l : List UInt8) (q : Nat) (b : UInt8) (hq : q < padN l.length) :
    (ba (fr8 l)).extract 0 (8 + l.length + q) ++ ⟨#[b]⟩ ++ (ba (fr8 l)).extract (8 + l.length + q + 1) (8 + l.length + padN l.length) ++ ba l = ba (lek 8 l.length ++ l ++ (List.replicate q 0 ++ b :: (List.replicate (padN l.length - q - 1) 0 ++ l))) := by
  have h1 : (fr8 l).take (8 + l.length + q) = lek 8 l.length ++ l ++ List.replicate q 0 := by
    unfold fr8
    rw [List.take_append, List.take_of_length_le (by rw [List.length_append, lek_len]; omega), List.length_append, lek_len, List.take_replicate]
    congr 2
    omega
  have h2 : (fr8 l).drop (8 + l.length + q + 1) = List.replicate (padN l.length - q - 1) 0 := by
    unfold fr8
    rw [List.drop_append, List.drop_of_length_le (by rw [List.length_append, lek_len]; omega), List.length_append, lek_len, List.drop_replicate, List.nil_append]
    congr 1
    omega
  rw [ext_list, ext_list]
  show ba (((fr8 l).drop 0).take _) ++ ba [b] ++ ba (((fr8 l).drop _).take _) ++ ba l = _
  rw [List.drop_zero, Nat.sub_zero, h1, h2, List.take_of_length_le (by rw [List.length_replicate]; omega), ← ba_append, ← ba_append, ← ba_append]
  congr 1
  simp

theorem pads_split (l : List UInt8) (q : Nat) (c : UInt8) (hq : q < padN l.length) (hc : c ≠ 0) (hl : l.length ≤ 1048576) (w : World) :
    Calls Try.prog 9 #[.string ((ba (fr8 l)).extract 0 (8 + l.length + q) ++ ⟨#[c]⟩ ++ (ba (fr8 l)).extract (8 + l.length + q + 1) (8 + l.length + padN l.length) ++ ba l), .string ⟨#[116, 116]⟩, .int .i64 (l.length : Int)] w fun e w' => e = .returned (.tuple #[.slice none 0 0, .agg #[.int .i64 7, .int .i64 (8 + (l.length : Int) + (q : Int))]]) ∧ Below w.heap.size w w' := by
  have hp := padN_lt l.length
  rw [pads_text l q c hq, show ({ data := #[116, 116] } : ByteArray) = ba [116, 116] from rfl]
  obtain ⟨h1, h2⟩ := pads_pure l q c (List.replicate (padN l.length - q - 1) 0 ++ l) hq hc (by omega)
  refine (split_any _ [116, 116] (l.length : Int) w (by simp [lek_len]; omega) (by decide) (by omega)).mono ?_
  rintro e w' ⟨r, L, rfl, -, -, h3, b⟩
  rw [Int.toNat_natCast] at h3 ⊢
  obtain ⟨-, rfl⟩ := h3 (by rw [h1]; decide)
  rw [h1, h2]
  exact ⟨by push_cast; rfl, b⟩

theorem afterB {w w5 : World} {C : Array Value} {T1 T2 : TypeId} {x y : Value} (b : Below ((w.alloc (.cells C T1)).alloc (.cells #[x, y] T2)).drew.heap.size ((w.alloc (.cells C T1)).alloc (.cells #[x, y] T2)).drew w5) :
    w5.cell? ⟨w.heap.size + 1, 0, none⟩ = some x ∧ w5.cell? ⟨w.heap.size + 1, 1, none⟩ = some y ∧ w5.frozen? ⟨w.heap.size + 1, 0, none⟩ = false ∧ w5.frozen? ⟨w.heap.size + 1, 1, none⟩ = false := by
  have hs : ((w.alloc (.cells C T1)).alloc (.cells #[x, y] T2)).drew.heap.size = w.heap.size + 1 + 1 := by
    show ((w.alloc (.cells C T1)).alloc (.cells #[x, y] T2)).heap.size = _
    rw [World.size_alloc, World.size_alloc]
  have hc : ∀ j, w5.cell? ⟨w.heap.size + 1, j, none⟩ = #[x, y][j]? := fun j => (b.cell (p := ⟨w.heap.size + 1, j, none⟩) (by rw [hs]; show w.heap.size + 1 < _; omega)).trans (cell_alloc2 w _ _ _ j)
  have hf : ∀ j, w5.frozen? ⟨w.heap.size + 1, j, none⟩ = false := fun j => (b.frozen (p := ⟨w.heap.size + 1, j, none⟩) (by rw [hs]; show w.heap.size + 1 < _; omega)).trans (by
    have h := World.frozen?_alloc_new (w.alloc (.cells C T1)) #[x, y] T2 j
    rw [World.size_alloc] at h
    exact h)
  exact ⟨(hc 0).trans rfl, (hc 1).trans rfl, hf 0, hf 1⟩
theorem afterA {w w5 : World} {C : Array Value} {T1 T2 : TypeId} {x y : Value} (b : Below ((w.alloc (.cells #[x, y] T2)).alloc (.cells C T1)).drew.heap.size ((w.alloc (.cells #[x, y] T2)).alloc (.cells C T1)).drew w5) :
    w5.cell? ⟨w.heap.size, 0, none⟩ = some x ∧ w5.cell? ⟨w.heap.size, 1, none⟩ = some y ∧ w5.frozen? ⟨w.heap.size, 0, none⟩ = false ∧ w5.frozen? ⟨w.heap.size, 1, none⟩ = false := by
  have hs1 : (w.alloc (.cells #[x, y] T2)).heap.size = w.heap.size + 1 := World.size_alloc _ _
  have hs : ((w.alloc (.cells #[x, y] T2)).alloc (.cells C T1)).drew.heap.size = w.heap.size + 1 + 1 := by
    show ((w.alloc (.cells #[x, y] T2)).alloc (.cells C T1)).heap.size = _
    rw [World.size_alloc, World.size_alloc]
  have hb : w5.heap[w.heap.size]? = (w.alloc (.cells #[x, y] T2)).heap[w.heap.size]? := (b.block _ (by rw [hs]; omega)).trans (Below.heap_alloc _ _ _ (by rw [hs1]; omega))
  have hc : ∀ j, w5.cell? ⟨w.heap.size, j, none⟩ = #[x, y][j]? := fun j => (World.cell?_of_block (w := w.alloc (.cells #[x, y] T2)) (a := ⟨w.heap.size, j, none⟩) hb).trans (World.cell?_alloc_new w _ _ j)
  have hf : ∀ j, w5.frozen? ⟨w.heap.size, j, none⟩ = false := fun j => (World.frozen?_of_block (w := w.alloc (.cells #[x, y] T2)) (a := ⟨w.heap.size, j, none⟩) hb).trans (World.frozen?_alloc_new w _ _ j)
  exact ⟨(hc 0).trans rfl, (hc 1).trans rfl, hf 0, hf 1⟩

theorem below1 {w w2 w5 : World} {o : Obj} (B : Below w.heap.size w w2) (b : Below (w2.alloc o).drew.heap.size (w2.alloc o).drew w5) : Below w.heap.size w w5 ∧ w.heap.size ≤ w2.heap.size := by
  have hs : (w2.alloc o).drew.heap.size = w2.heap.size + 1 := World.size_alloc _ _
  have := B.size
  exact ⟨(B.alloc B.size o).drew.trans (b.mono (by omega)), this⟩
theorem below2 {w w2 w5 : World} {o1 o2 : Obj} (B : Below w.heap.size w w2) (b : Below ((w2.alloc o1).alloc o2).drew.heap.size ((w2.alloc o1).alloc o2).drew w5) : Below w.heap.size w w5 ∧ w.heap.size ≤ w2.heap.size := by
  have hs : (w2.alloc o1).heap.size = w2.heap.size + 1 := World.size_alloc _ _
  have hs2 : ((w2.alloc o1).alloc o2).drew.heap.size = w2.heap.size + 1 + 1 := by show ((w2.alloc o1).alloc o2).heap.size = _; rw [World.size_alloc, hs]
  have := B.size
  exact ⟨((B.alloc B.size o1).alloc (by omega) o2).drew.trans (b.mono (by omega)), this⟩

set_option maxHeartbeats 4000000 in
theorem pads_walk (l : List UInt8) (at_ : Int) (b : Int) (w : World) (hl : l.length ≤ 1048576) (ha0 : -9223372036854775808 ≤ at_) (ha1 : at_ ≤ 9223372036854775807) (hb0 : 0 ≤ b) (hb1 : b ≤ 255) :
    Calls Try.prog 4 #[.string (ba l), .int .i64 at_, .int .u8 b] w fun e w' => e = .returned (.bool true) ∧ Below w.heap.size w w' := by
  have hsz := ba_size l
  have hfs : (ba (fr8 l)).size = 8 + l.length + padN l.length := by rw [ba_size, fr8_len]
  have hp8 := padN_lt l.length
  go_enter Try.func4, Try.ntmps4
  go_wp2_with fail
  refine (awake_any w).mono ?_
  rintro e w1 ⟨rfl, b1⟩
  go_wp2_with fail
  refine (text_any (ba l) _ (by omega)).mono ?_
  rintro e w2 ⟨rfl, b2⟩
  rw [txt_ba]
  have B2 : Hid (Below w.heap.size w w2) := b1.trans (b2.mono b1.size)
  clear b1 b2
  by_cases h1 : at_ < 8 + (l.length : Int)
  · go_wp2
    go_ret
    exact ⟨rfl, B2.out⟩
  by_cases h2 : 8 + (l.length : Int) + (padN l.length : Int) ≤ at_
  · go_wp2
    go_ret
    exact ⟨rfl, B2.out⟩
  by_cases h3 : b = 0
  · subst h3
    go_wp2
    go_ret
    exact ⟨rfl, B2.out⟩
  obtain ⟨k, rfl⟩ : ∃ k : Nat, at_ = (k : Int) := ⟨at_.toNat, by omega⟩
  obtain ⟨q, hq⟩ : ∃ q : Nat, k = 8 + l.length + q := ⟨k - 8 - l.length, by omega⟩
  have hqp : q < padN l.length := by omega
  obtain ⟨c, rfl⟩ : ∃ c : UInt8, b = (c.toNat : Int) := ⟨UInt8.ofNat b.toNat, by simp; omega⟩
  have hc : Hid (c ≠ 0) := fun h => h3 (by rw [h]; rfl)
  have HP : Hid (∀ w : World, Calls Try.prog 9 #[.string ((ba (fr8 l)).extract 0 k ++ ⟨#[c]⟩ ++ (ba (fr8 l)).extract (k + 1) (8 + l.length + padN l.length) ++ ba l), .string ⟨#[116, 116]⟩, .int .i64 (l.length : Int)] w fun e w' => e = .returned (.tuple #[.slice none 0 0, .agg #[.int .i64 7, .int .i64 (k : Int)]]) ∧ Below w.heap.size w w') := by
    have h := pads_split l q c hqp hc.out hl
    rw [← hq, show (8 + (l.length : Int) + (q : Int)) = (k : Int) by omega] at h
    exact h
  clear hq hqp hc
  obtain ⟨Z, hZ⟩ : ∃ Z, 8 + l.length + padN l.length = Z := ⟨_, rfl⟩
  have kZ : k + 1 ≤ Z := by omega
  have k0 : (0 : Int) ≤ (k : Int) := by omega
  have k1 : (k : Int) ≤ (Z : Int) := by omega
  have k2 : (0 : Int) ≤ (k : Int) + 1 := by omega
  have k3 : (k : Int) + 1 ≤ (Z : Int) := by omega
  have hZb : Z ≤ 2097152 := by omega
  have k4 : IntKind.i64.wrap ((k : Int) + 1) = (k : Int) + 1 := by
    rw [IntKind.wrap_i64]
    omega
  have d1 : decide ((k : Int) < 8 + (l.length : Int)) = false := by simp; omega
  have d2 : decide ((Z : Int) ≤ (k : Int)) = false := by simp; omega
  have d2' : decide (Z ≤ k) = false := by simp; omega
  have d3 : ((c.toNat : Int) == 0) = false := by simpa using h3
  have d4 : ¬ ((k : Int) < 8 + (l.length : Int)) := by omega
  rw [hZ] at HP hfs
  clear h1 h2 h3 hZ hp8 hb0 hb1 ha0 ha1
  generalize ba (fr8 l) = T at HP hfs ⊢
  generalize ba l = U at HP hsz ⊢
  have hone : strFn 1 (fun _ => (c.toNat : Int)) = ⟨#[c]⟩ := by
    show ByteArray.mk #[UInt8.ofNat ((c.toNat : Int)).toNat] = _
    rw [Int.toNat_natCast, UInt8.ofNat_toNat]
  have R1 : Row .u8 (w2.alloc (.cells #[.int .u8 (c.toNat : Int)] 5)) w2.heap.size 1 (fun _ => (c.toNat : Int)) := Row.lit1 _
  have R2 : Row .u8 ((w2.alloc (.cells #[.int .i64 0, .int .i64 0] 29)).alloc (.cells #[.int .u8 (c.toNat : Int)] 5)) (w2.heap.size + 1) 1 (fun _ => (c.toNat : Int)) := by
    have h := Row.lit1 (k := .u8) (w := w2.alloc (.cells #[.int .i64 0, .int .i64 0] 29)) (e := 5) (c.toNat : Int)
    rw [World.size_alloc] at h
    exact h
  have hcv1 : (convert 32 9 (.slice (some ⟨w2.heap.size, 0, none⟩) 1 1)).run Try.prog (w2.alloc (.cells #[.int .u8 (c.toNat : Int)] 5)).drew = .ok (.string ⟨#[c]⟩) (w2.alloc (.cells #[.int .u8 (c.toNat : Int)] 5)).drew := by
    have h := run_string_row (P := Try.prog) (src := 32) (dst := 9) (c := 1) Try.underlying32 Try.underlying5 Try.underlying9 (R1.drew)
    rw [h, hone]
  have hcv2 : (convert 32 9 (.slice (some ⟨w2.heap.size, 0, none⟩) 1 1)).run Try.prog ((w2.alloc (.cells #[.int .u8 (c.toNat : Int)] 5)).alloc (.cells #[.int .i64 0, .int .i64 0] 29)).drew = .ok (.string ⟨#[c]⟩) ((w2.alloc (.cells #[.int .u8 (c.toNat : Int)] 5)).alloc (.cells #[.int .i64 0, .int .i64 0] 29)).drew := by
    have h := run_string_row (P := Try.prog) (src := 32) (dst := 9) (c := 1) Try.underlying32 Try.underlying5 Try.underlying9 ((R1.alloc (by rw [World.size_alloc]; omega) (.cells #[.int .i64 0, .int .i64 0] 29)).drew)
    rw [h, hone]
  have hcv3 : (convert 32 9 (.slice (some ⟨w2.heap.size + 1, 0, none⟩) 1 1)).run Try.prog ((w2.alloc (.cells #[.int .i64 0, .int .i64 0] 29)).alloc (.cells #[.int .u8 (c.toNat : Int)] 5)).drew = .ok (.string ⟨#[c]⟩) ((w2.alloc (.cells #[.int .i64 0, .int .i64 0] 29)).alloc (.cells #[.int .u8 (c.toNat : Int)] 5)).drew := by
    have h := run_string_row (P := Try.prog) (src := 32) (dst := 9) (c := 1) Try.underlying32 Try.underlying5 Try.underlying9 (R2.drew)
    rw [h, hone]
  clear R1 R2 hone
  go_wp2
  go_region_with (go_at_call 9; refine (HP.out _).mono ?_; rintro e5 w5 ⟨rfl, b5⟩; first | (refine And.elim ?_ (afterB (C := #[.int .u8 (c.toNat : Int)]) (x := .int .i64 0) b5); rintro m0 ⟨m1, m2, m3⟩) | (refine And.elim ?_ (afterA (C := #[.int .u8 (c.toNat : Int)]) (x := .int .i64 0) b5); rintro m0 ⟨m1, m2, m3⟩) | skip)
  all_goals have B5 : Hid (Below w.heap.size w w5 ∧ w.heap.size ≤ w2.heap.size) := by first | exact below2 B2.out b5 | exact below1 B2.out b5
  all_goals clear b5
  all_goals go_wp2
  all_goals go_ret
  all_goals first
    | exact ⟨rfl, B5.out.1.alloc B5.out.1.size _⟩
    | exact ⟨rfl, (B5.out.1.setCell (Nat.le_succ_of_le B5.out.2) _).setCell (Nat.le_succ_of_le B5.out.2) _⟩
    | exact ⟨rfl, (B5.out.1.setCell B5.out.2 _).setCell B5.out.2 _⟩

theorem pads_walkF (s : ByteArray) (at_ b : Int) (w : World) (hs : s.size ≤ 1048576) (ha0 : -9223372036854775808 ≤ at_) (ha1 : at_ ≤ 9223372036854775807) (hb0 : 0 ≤ b) (hb1 : b ≤ 255) :
    Calls Try.prog 4 #[.string s, .int .i64 at_, .int .u8 b] w fun e w' => e = .returned (.bool true) ∧ Below w.heap.size w w' := by
  have h := pads_walk s.data.toList at_ b w (by rw [← ba_size, ba_list]; exact hs) ha0 ha1 hb0 hb1
  rw [ba_list] at h
  exact h

end Go.Proofs.Ytjlbbnjcdickgab
