/- Gathered: SaA ShaA ShaM ShaS ShaB ShaR ShaT ShaU PadA PadB PadC OfA OfC OfD. -/
import Derived.Lib.UnsafeStr
import Derived.Test.YtojefckhefanhabDoorProg
import Derived.Deep.QuietTactic
import Derived.BigQuiet
import Derived.Deep.RegionWith
import Derived.Deep.MidRow
import Derived.Deep.Upon
import Derived.Test.YtojefckhefanhabDoorQa
import Derived.Test.YtojefckhefanhabDoorQg
import Derived.Test.YtojefckhefanhabDoorQh
/- scan's awake, walked (own text of the verifier). -/
namespace Go.Proofs.YtojefckhefanhabDoor
open Go.RowKit Go.Sort
namespace Sc

theorem Tx.rt {w : World} {B : Nat} {v : Value} {L : List (List UInt8)} (h : Tx w B v L) : RT w w.heap.size v L := by
  obtain ⟨x, c, e, h⟩ := h
  refine ⟨x, c, e, fun i t ht => ?_⟩
  obtain ⟨b, e1, e2, e3⟩ := h i t ht
  exact ⟨b, 0, e1, World.block_lt_of_cell? _ _ e3, by rw [Nat.zero_add]; exact e3⟩
theorem conv_mark (W : World) (b n c k : Nat) (t : TypeId) (h : W.shape? b = some (t, k)) : (convert 38 38 (.slice (some ⟨b, 0, none⟩) n c)).run Tryd.prog W = .ok (.slice (some ⟨b, 0, none⟩) n c) (W.freeze ⟨b, k, none⟩ 1) := by
  simp [convert, run_underlying und30, run_underlying Tryd.underlying5, Result.andThen, markStringish, h]
theorem cell_freeze (W : World) (p a : Addr) (n : Nat) : (W.freeze p n).cell? a = W.cell? a := by
  unfold World.freeze
  split
  · rfl
  · unfold World.cell?
    simp only [Array.getElem?_modify]
    by_cases e : p.block = a.block
    · rw [if_pos e]
      cases h : W.heap[a.block]? with
      | none => rfl
      | some o => cases o <;> rfl
    · rw [if_neg e]
theorem GF.start {H S : List (List UInt8)} (hS : ∀ h, h ∈ S ↔ h ∈ H) : GF H [] [] S [] :=
  ⟨Nat.le_refl _, rfl, Base.nil _, ⟨List.nodup_nil, fun h => by simp [occB], fun h => by rw [hS]; simp [occB]⟩, Nat.le_refl _⟩
def one_ : ByteArray := ⟨#[48, 49, 50, 51, 52, 53, 54, 55, 56, 57, 97, 98, 99, 100, 102, 103, 104, 105, 106, 107, 108, 109, 110, 112, 113, 114, 115, 118, 119, 120, 121, 122]⟩
def two_ : ByteArray := ⟨#[49, 49, 49, 49, 49, 49, 49, 49, 49, 49, 49, 49, 49, 49, 49, 49, 49, 49, 49, 49, 49, 49, 49, 49, 49, 49, 49, 49, 49, 49, 49, 49]⟩
def xoy : ByteArray := ⟨#[120, 48, 49, 50, 51, 52, 53, 54, 55, 56, 57, 97, 98, 99, 100, 102, 103, 104, 105, 106, 107, 108, 109, 110, 112, 113, 114, 115, 118, 119, 120, 121, 122, 121]⟩
def xty : ByteArray := ⟨#[120, 49, 49, 49, 49, 49, 49, 49, 49, 49, 49, 49, 49, 49, 49, 49, 49, 49, 49, 49, 49, 49, 49, 49, 49, 49, 49, 49, 49, 49, 49, 49, 49, 121]⟩
theorem h_one : hsh one_ = 0 := by decide +kernel
theorem h_two : hsh two_ = 0 := by decide +kernel
theorem rw_xoy : ba (rw' one_.data.toList two_.data.toList xoy.data.toList) = xty := by decide +kernel
theorem pl_xoy : pl one_.data.toList 0 xoy.data.toList = [1] := by decide +kernel
theorem win_xoy : ∀ p, p < 3 → win xoy.data.toList p ≠ two_.data.toList := by decide +kernel
theorem win_xoy1 : win xoy.data.toList 1 = one_.data.toList := by decide +kernel
theorem ne_ot : one_.data.toList ≠ two_.data.toList := by decide +kernel
/-- What stands in the text of awake. -/
theorem fs_xoy {H F : List (List UInt8)} (hH : ∀ h, h ∈ H ↔ h = two_.data.toList ∨ h = one_.data.toList) (nd : F.Nodup) (mem : ∀ h, h ∈ F ↔ h ∈ H ∧ occ h xoy.data.toList) : F = [one_.data.toList] := by
  have h1 : ∀ h, h ∈ F ↔ h = one_.data.toList := fun h => by
    rw [mem, hH]
    constructor
    · rintro ⟨rfl | rfl, p, hp⟩
      · have hl := win_full (l := xoy.data.toList) (p := p) (by rw [hp]; rfl)
        have : xoy.data.toList.length = 34 := by rfl
        exact absurd hp (win_xoy p (by omega))
      · rfl
    · rintro rfl
      exact ⟨.inr rfl, 1, win_xoy1⟩
  match F, nd, h1 with
  | [], _, h1 => exact absurd ((h1 _).2 rfl) (by simp)
  | [a], _, h1 => rw [(h1 a).1 (by simp)]
  | a :: b :: l, nd, h1 =>
    have ha := (h1 a).1 (by simp)
    have hb := (h1 b).1 (by simp)
    rw [ha, hb] at nd
    simp at nd

set_option maxRecDepth 100000 in
set_option maxHeartbeats 8000000 in
theorem awake_any (w : World) : Calls Tryd.prog 4 #[] w fun e w' => e = .returned (.bool true) ∧ Below w.heap.size w w' := by
  go_enter Tryd.func4, Tryd.ntmps4
  go_wp2_with fail
  have hb := heap_alloc_new w (.cells #[.string two_, .string one_] 9)
  have B1 : Hid (RowKit.Below w.heap.size w (w.alloc (.cells #[.string two_, .string one_] 9))) := (RowKit.Below.refl _ _).alloc (Nat.le_refl _) _
  have hz : (w.alloc (.cells #[.string two_, .string one_] 9)).heap.size = w.heap.size + 1 := World.size_alloc _ _
  have CN : Calls Tryd.prog 8 #[.slice (some ⟨w.heap.size, 0, none⟩) 2 2] (w.alloc (.cells #[.string two_, .string one_] 9)) _ := snew_any [two_, one_] (some ⟨w.heap.size, 0, none⟩) 2 _ (by simp) (fun j s hj => ⟨_, rfl, by rw [hz]; exact Nat.lt_succ_self _, by
    rw [Addr.add_lit, Nat.zero_add, Lib.cell_of_heap hb]
    match j, hj with
    | 0, hj => simp at hj; subst hj; rfl
    | 1, hj => simp at hj; subst hj; rfl⟩)
  clear hb hz
  refine (show Calls Tryd.prog 8 #[.slice (some ⟨w.heap.size, 0, none⟩) 2 2] (w.alloc (.cells #[.string two_, .string one_] 9)) _ from CN.mono ?_)
  rintro e w1 ⟨b1, ⟨⟨s, hs, hbad⟩, rfl⟩ | ⟨_, g, m, S, hg, hm, rfl, SM1, hS⟩⟩
  · exfalso
    rcases List.mem_cons.1 hs with rfl | hs
    · exact hbad h_two
    · rw [List.mem_singleton] at hs
      subst hs
      exact hbad h_one
  clear CN
  have HS1 : Hid _ := SM1
  have HM1 : Hid _ := hS
  have HB1 : Hid (RowKit.Below w.heap.size w w1) := B1.out.trans (b1.mono B1.out.size)
  have HG1 : Hid (w.heap.size ≤ g) := Nat.le_trans B1.out.size hg
  have HM2 : Hid (w.heap.size ≤ m) := Nat.le_trans B1.out.size hm
  clear SM1 hS b1 hg hm B1
  have hcs : ∀ C : Array Value, (convert 38 38 (.slice (some ⟨w1.heap.size, 0, none⟩) 34 34)).run Tryd.prog (w1.alloc (.cells C 5)) = .ok (.slice (some ⟨w1.heap.size, 0, none⟩) 34 34) ((w1.alloc (.cells C 5)).freeze ⟨w1.heap.size, C.size, none⟩ 1) := fun C => conv_mark _ _ _ _ _ 5 (by unfold World.shape?; rw [heap_alloc_new])
  have TX : Hid (Txt ((w1.alloc (.cells (bv xoy.data.toList).toArray 5)).freeze ⟨w1.heap.size, 34, none⟩ 1) (.slice (some ⟨w1.heap.size, 0, none⟩) 34 34) xoy.data.toList) := by
    have := txt_new w1 5 xoy.data.toList #[] 34 (by decide +kernel)
    rw [Array.append_empty] at this
    obtain ⟨x, c, e, hc, hl⟩ := this
    exact ⟨x, c, e, fun i b hb => by obtain ⟨a, o, e1, e2⟩ := hc i b hb; exact ⟨a, o, e1, (cell_freeze _ _ _ _).trans e2⟩, hl⟩
  have b2 : RowKit.Below w1.heap.size w1 ((w1.alloc (.cells (bv xoy.data.toList).toArray 5)).freeze ⟨w1.heap.size, 34, none⟩ 1) := Lib.below_freeze ((RowKit.Below.refl _ _).alloc (Nat.le_refl _) _) (Nat.le_refl _) 1
  have HS2 : Hid _ := HS1.out.below b2
  have HB2 : Hid (RowKit.Below w.heap.size w ((w1.alloc (.cells (bv xoy.data.toList).toArray 5)).freeze ⟨w1.heap.size, 34, none⟩ 1)) := HB1.out.trans (b2.mono HB1.out.size)
  have hgl := HS1.out.lt
  have CF := sfeed_any g m 2 [two_.data.toList, one_.data.toList] [] [] xoy.data.toList S [] (.slice none 0 0) (.slice (some ⟨w1.heap.size, 0, none⟩) 34 34) ((w1.alloc (.cells (bv xoy.data.toList).toArray 5)).freeze ⟨w1.heap.size, 34, none⟩ 1) HS2.out (GF.start (fun h => by rw [HM1.out h]; simp [eq_comm])) (fun h hh => by
      rcases List.mem_cons.1 hh with rfl | hh
      · exact isH_of h_two
      · rw [List.mem_singleton] at hh; subst hh; exact isH_of h_one) TX.out (fun x l c e => by injection e with e _ _; injection e with e; subst e; show w1.heap.size ≠ g; omega) (by decide +kernel)
  clear b2 hgl
  go_wp2_with fail
  refine (show Calls Tryd.prog 9 #[.pointer (some ⟨g, 0, none⟩), .slice (some ⟨w1.heap.size, 0, none⟩) 34 34] ((w1.alloc (.cells (bv xoy.data.toList).toArray 5)).freeze ⟨w1.heap.size, 34, none⟩ 1) _ from CF.mono ?_)
  rintro e w3 ⟨kept', S', F', fv', rfl, S3, G3, K3, p3⟩
  have HF : Hid (F' = [one_.data.toList]) := fs_xoy (H := [two_.data.toList, one_.data.toList]) (fun h => by simp) G3.fb.nd (fun h => (G3.fb.mem h).trans (and_congr_right fun hh => (G3.base.occ (by
    rcases List.mem_cons.1 hh with rfl | hh
    · exact isH_of h_two
    · rw [List.mem_singleton] at hh; subst hh; exact isH_of h_one)).symm))
  have HS3 : Hid _ := S3
  have HB3 : Hid (RowKit.Below w.heap.size w w3) := ⟨K3.os.trans HB2.out.os, K3.tape.trans HB2.out.tape, K3.output.trans HB2.out.output, Nat.le_trans HB2.out.size K3.size, fun k hk => (K3.block k (Nat.lt_of_lt_of_le hk HB2.out.size) (by have := HG1.out; omega) (by have := HM2.out; omega) (by simp [Value.ownBlock])).trans (HB2.out.block k hk)⟩
  clear S3 G3 K3 p3 CF hcs TX HS2 HB2
  have CN := sfound_any g _ kept' m 2 S' F' fv' w3 HS3.out (by rw [HF.out]; decide)
  clear HS3
  go_wp2_with fail
  with_reducible refine CN.mono ?_
  rintro e w4 ⟨v, rfl, tx, b4⟩
  rw [HF.out] at tx
  clear CN HF
  have hs1 : srt [one_.data.toList] = [one_.data.toList] := by unfold srt; simp
  rw [hs1] at tx
  obtain ⟨xf, cf, rfl, hxf⟩ := tx
  obtain ⟨bf, rfl, -, cellF⟩ := hxf 0 one_.data.toList rfl
  rw [ba_list] at cellF
  clear hxf hs1
  have HB4 : Hid (RowKit.Below w.heap.size w w4) := HB3.out.trans (b4.mono HB3.out.size)
  have HCF : Hid (w4.cell? ⟨bf, 0, none⟩ = some (.string one_)) := cellF
  clear cellF b4 HB3
  rw [show [one_.data.toList].length = 1 from rfl]
  have CR := rewrite_any xoy one_ two_ w4 (by decide)
  rw [rw_xoy, pl_xoy] at CR
  go_wp2_with fail
  refine (show Calls Tryd.prog 6 #[.string xoy, .string one_, .string two_] w4 _ from CR.mono ?_)
  rintro e w5 ⟨b5, ⟨h, -⟩ | ⟨-, h, -⟩ | ⟨-, -, v, own5, rfl⟩⟩
  · exact absurd h_one h
  · exact absurd h_two h
  have HB5 : Hid (RowKit.Below w.heap.size w w5) := HB4.out.trans (b5.mono HB4.out.size)
  have HCG : w5.cell? ⟨bf, 0, none⟩ = some (.string one_) := (b5.cell (p := ⟨bf, 0, none⟩) (World.block_lt_of_cell? _ _ HCF.out)).trans HCF.out
  clear CR b5 HB4 HCF
  obtain ⟨xq, cq, eq, hq⟩ := ri_own (L := [1]) own5
  rw [show ([1] : List Nat).length = 1 from rfl] at eq
  subst eq
  obtain ⟨bq, oq, rfl, -, cellQ⟩ := hq 0 1 rfl
  clear hq own5
  rw [Nat.add_zero] at cellQ
  have e1 : one_.toList = [48, 49, 50, 51, 52, 53, 54, 55, 56, 57, 97, 98, 99, 100, 102, 103, 104, 105, 106, 107, 108, 109, 110, 112, 113, 114, 115, 118, 119, 120, 121, 122] := by rw [ByteArray.toList_eq]; rfl
  have e2 : xty.toList = [120, 49, 49, 49, 49, 49, 49, 49, 49, 49, 49, 49, 49, 49, 49, 49, 49, 49, 49, 49, 49, 49, 49, 49, 49, 49, 49, 49, 49, 49, 49, 49, 49, 121] := by rw [ByteArray.toList_eq]; rfl
  go_wp2_with fail
  go_ret
  exact ⟨rfl, HB5.out⟩

end Sc
end Go.Proofs.YtojefckhefanhabDoor
/- What the small functions of sha and of the document's reference answer: turning, mixing, choosing. -/
namespace Go.Proofs.YtojefckhefanhabDoor
open Go.RowKit
/-- x turned to the right by n bits. -/
def rot (x : Int) (n : Nat) : Int := x / 2 ^ n + x % 2 ^ n * 2 ^ (32 - n)

theorem neg_mask (n : Nat) (n0 : 1 ≤ n) (n1 : n ≤ 31) : bits .and .u64 (IntKind.u64.wrap (-(n : Int))) 31 = ((32 - n : Nat) : Int) := by
  have : ∀ m : Nat, m < 32 → 1 ≤ m → bits .and .u64 (IntKind.u64.wrap (-(m : Int))) 31 = ((32 - m : Nat) : Int) := by decide +kernel
  exact this n (by omega) n0

theorem ret_i {k : IntKind} {a b : Int} (h : a = b) : Ending.returned (.int k a) = .returned (.int k b) := by rw [h]

theorem pow_pos_int (n : Nat) : (0 : Int) < 2 ^ n := Int.pow_pos (by omega)

theorem rot_split (a n : Nat) (h1 : a < 4294967296) (n1 : n ≤ 31) :
    a * 2 ^ (32 - n) % 4294967296 = a % 2 ^ n * 2 ^ (32 - n) ∧ a / 2 ^ n < 2 ^ (32 - n) ∧ a % 2 ^ n * 2 ^ (32 - n) + 2 ^ (32 - n) ≤ 4294967296 := by
  have hp : 4294967296 = 2 ^ n * 2 ^ (32 - n) := by rw [← Nat.pow_add, show n + (32 - n) = 32 from by omega]
  refine ⟨?_, ?_, ?_⟩
  · rw [hp, Nat.mul_mod_mul_right]
  · rw [Nat.div_lt_iff_lt_mul (Nat.pow_pos (by omega)), Nat.mul_comm, ← hp]; exact h1
  · have h2 : a % 2 ^ n + 1 ≤ 2 ^ n := Nat.mod_lt _ (Nat.pow_pos (by omega))
    have h3 : (a % 2 ^ n + 1) * 2 ^ (32 - n) ≤ 2 ^ n * 2 ^ (32 - n) := Nat.mul_le_mul_right _ h2
    rw [← hp, Nat.add_mul, Nat.one_mul] at h3
    exact h3

theorem rot_nat (a n : Nat) : rot (a : Int) n = ((a / 2 ^ n + a % 2 ^ n * 2 ^ (32 - n) : Nat) : Int) := by
  unfold rot
  simp

theorem join_code (a n : Nat) (h1 : a < 4294967296) (n1 : n ≤ 31) : a % 2 ^ n * 2 ^ (32 - n) ||| a / 2 ^ n = a / 2 ^ n + a % 2 ^ n * 2 ^ (32 - n) := by
  have hs := rot_split a n h1 n1
  rw [nat_join (32 - n) _ _ (Nat.mul_mod_left _ _) hs.2.1, Nat.add_comm]

theorem rot_code (x : Int) (n : Nat) (h0 : 0 ≤ x) (h1 : x < 4294967296) (n1 : n ≤ 31) :
    bits .or .u32 (x * 2 ^ (32 - n) % 4294967296) (x / 2 ^ (32 - (32 - n))) = rot x n := by
  obtain ⟨a, rfl⟩ := Int.eq_ofNat_of_zero_le h0
  have ha : a < 4294967296 := by omega
  have hs := rot_split a n ha n1
  rw [show 32 - (32 - n) = n from by omega, rot_nat, ← join_code a n ha n1]
  have e1 : ((a : Int) * 2 ^ (32 - n) % 4294967296) = ((a % 2 ^ n * 2 ^ (32 - n) : Nat) : Int) := by
    rw [← hs.1]
    simp
  have e2 : ((a : Int) / 2 ^ n) = ((a / 2 ^ n : Nat) : Int) := by simp
  rw [e1, e2]
  have hp := Nat.pow_pos (n := 32 - n) (show 0 < 2 from by omega)
  exact u32_or_nat _ _ (by omega) (Nat.lt_of_le_of_lt (Nat.div_le_self _ _) ha)

theorem rot_ref (x : Int) (n : Nat) (h0 : 0 ≤ x) (h1 : x < 4294967296) (n1 : n ≤ 31) :
    bits .or .u64 (x * 4294967296) x / 2 ^ n % 4294967296 = rot x n := by
  obtain ⟨a, rfl⟩ := Int.eq_ofNat_of_zero_le h0
  have ha : a < 4294967296 := by omega
  have hs := rot_split a n ha n1
  have e1 : bits .or .u64 ((a : Int) * 4294967296) (a : Int) = ((a * 4294967296 + a : Nat) : Int) := by
    rw [show ((a : Int) * 4294967296) = ((a * 4294967296 : Nat) : Int) from by omega, u64_or_nat _ _ (by omega) (by omega), nat_join 32 _ _ (by omega) (by omega)]
  rw [e1, rot_nat]
  have hp : 4294967296 = 2 ^ (32 - n) * 2 ^ n := by rw [← Nat.pow_add, show 32 - n + n = 32 from by omega]
  have e2 : (a * 4294967296 + a) / 2 ^ n = a * 2 ^ (32 - n) + a / 2 ^ n := by
    rw [hp, ← Nat.mul_assoc, Nat.add_comm, Nat.add_mul_div_right _ _ (Nat.pow_pos (by omega)), Nat.add_comm]
  have e3 : (((a * 4294967296 + a : Nat) : Int) / 2 ^ n % 4294967296) = (((a * 4294967296 + a) / 2 ^ n % 4294967296 : Nat) : Int) := by simp
  rw [e3, e2, Nat.add_mod, hs.1]
  have hq := hs.2.1
  have hr := hs.2.2
  generalize a % 2 ^ n * 2 ^ (32 - n) = u at hr ⊢
  generalize a / 2 ^ n = v at hq ⊢
  generalize 2 ^ (32 - n) = t at hq hr
  rw [Nat.mod_eq_of_lt (show v < 4294967296 by omega), Nat.mod_eq_of_lt (show u + v < 4294967296 by omega), Nat.add_comm]

theorem rot_bd (x : Int) (n : Nat) (h : 0 ≤ x ∧ x < 4294967296) (n1 : n ≤ 31) : 0 ≤ rot x n ∧ rot x n < 4294967296 := by
  obtain ⟨a, rfl⟩ := Int.eq_ofNat_of_zero_le h.1
  have hs := rot_split a n (by omega) n1
  rw [rot_nat]
  have hq := hs.2.1
  have hr := hs.2.2
  generalize a % 2 ^ n * 2 ^ (32 - n) = u at hr ⊢
  generalize a / 2 ^ n = v at hq ⊢
  generalize 2 ^ (32 - n) = t at hq hr
  omega

set_option maxRecDepth 10000 in
set_option maxHeartbeats 400000 in
theorem turned_any (x : Int) (n : Nat) (w : World) (h0 : 0 ≤ x) (h1 : x < 4294967296) (n0 : 1 ≤ n) (n1 : n ≤ 31) :
    Calls Tryd.prog 73 #[.int .u32 x, .int .i64 n] w fun e w' => e = .returned (.int .u32 (rot x n)) ∧ w' = w := by
  have hm := neg_mask n n0 n1
  have hk : (((32 - n : Nat) : Int)) = 32 - (n : Int) := by omega
  go_enter Tryd.func73, Tryd.ntmps73
  go_wp2
  go_ret
  exact ⟨ret_i (rot_code x n h0 h1 n1), rfl⟩

/-- Within a word's range. -/
def W32 (x : Int) : Prop := 0 ≤ x ∧ x < 4294967296
/-- Exclusive or, and, not, sum of two words. -/
def xo (a b : Int) : Int := bits .xor .u32 a b
def an (a b : Int) : Int := bits .and .u32 a b
def no (a : Int) : Int := bits .xor .u32 IntKind.u32.max a
def pl (a b : Int) : Int := (a + b) % 4294967296

theorem W32.nat {x : Int} (h : W32 x) : ∃ a : Nat, x = a ∧ a < 4294967296 := by
  obtain ⟨a, rfl⟩ := Int.eq_ofNat_of_zero_le h.1
  exact ⟨a, rfl, by have := h.2; omega⟩
theorem xo_nat (a b : Nat) (ha : a < 4294967296) (hb : b < 4294967296) : xo a b = ((a ^^^ b : Nat) : Int) := u32_xor_nat a b ha hb
theorem an_nat (a b : Nat) (ha : a < 4294967296) (hb : b < 4294967296) : an a b = ((a &&& b : Nat) : Int) := u32_and_nat a b ha hb
theorem no_nat (a : Nat) (ha : a < 4294967296) : no a = ((4294967295 ^^^ a : Nat) : Int) := u32_xor_nat 4294967295 a (by omega) ha
theorem xo_bd {x y : Int} (hx : W32 x) (hy : W32 y) : W32 (xo x y) := by
  obtain ⟨a, rfl, ha⟩ := hx.nat
  obtain ⟨b, rfl, hb⟩ := hy.nat
  rw [xo_nat a b ha hb]
  have := Nat.xor_lt_two_pow (x := a) (y := b) (n := 32) (by omega) (by omega)
  exact ⟨by omega, by omega⟩
theorem an_bd {x y : Int} (hx : W32 x) (hy : W32 y) : W32 (an x y) := by
  obtain ⟨a, rfl, ha⟩ := hx.nat
  obtain ⟨b, rfl, hb⟩ := hy.nat
  rw [an_nat a b ha hb]
  have := Nat.and_le_left (n := a) (m := b)
  exact ⟨by omega, by omega⟩
theorem no_bd {x : Int} (hx : W32 x) : W32 (no x) := by
  obtain ⟨a, rfl, ha⟩ := hx.nat
  rw [no_nat a ha]
  have := Nat.xor_lt_two_pow (x := 4294967295) (y := a) (n := 32) (by omega) (by omega)
  exact ⟨by omega, by omega⟩
theorem pl_bd (x y : Int) : W32 (pl x y) := by unfold pl; exact ⟨by omega, by omega⟩

/-- The words' functions. -/
def hmx (e : Int) : Int := xo (xo (rot e 6) (rot e 11)) (rot e 25)
def lmx (a : Int) : Int := xo (xo (rot a 2) (rot a 13)) (rot a 22)
def cho (e f g : Int) : Int := xo (an e f) (an (no e) g)
def maj (a b c : Int) : Int := xo (xo (an a b) (an a c)) (an b c)

theorem rot_w {x : Int} {n : Nat} (h : W32 x) (n1 : n ≤ 31) : W32 (rot x n) := rot_bd x n h n1
theorem hmx_w {x : Int} (h : W32 x) : W32 (hmx x) := xo_bd (xo_bd (rot_w h (by omega)) (rot_w h (by omega))) (rot_w h (by omega))
theorem lmx_w {x : Int} (h : W32 x) : W32 (lmx x) := xo_bd (xo_bd (rot_w h (by omega)) (rot_w h (by omega))) (rot_w h (by omega))
theorem cho_w {e f g : Int} (he : W32 e) (hf : W32 f) (hg : W32 g) : W32 (cho e f g) := xo_bd (an_bd he hf) (an_bd (no_bd he) hg)
theorem maj_w {a b c : Int} (ha : W32 a) (hb : W32 b) (hc : W32 c) : W32 (maj a b c) := xo_bd (xo_bd (an_bd ha hb) (an_bd ha hc)) (an_bd hb hc)

theorem or_choose (e f g : Int) (he : W32 e) (hf : W32 f) (hg : W32 g) : bits .or .u32 (an e f) (an (no e) g) = cho e f g := by
  obtain ⟨a, rfl, ha⟩ := he.nat
  obtain ⟨b, rfl, hb⟩ := hf.nat
  obtain ⟨c, rfl, hc⟩ := hg.nat
  have hn := (no_bd (x := (a : Int)) ⟨by omega, by omega⟩).2
  rw [no_nat a ha] at hn
  unfold cho
  rw [no_nat a ha, an_nat a b ha hb, an_nat _ c (by omega) hc]
  have l1 := Nat.and_le_right (n := a) (m := b)
  have l2 := Nat.and_le_right (n := 4294967295 ^^^ a) (m := c)
  rw [xo_nat _ _ (by omega) (by omega), u32_or_nat _ _ (by omega) (by omega)]
  congr 1
  apply Nat.eq_of_testBit_eq
  intro i
  simp only [Nat.testBit_or, Nat.testBit_xor, Nat.testBit_and]
  by_cases hi : i < 32
  · have e : Nat.testBit 4294967295 i = true := by
      have := Nat.testBit_two_pow_sub_one 32 i
      simpa [hi] using this
    rw [e]
    cases a.testBit i <;> cases b.testBit i <;> cases c.testBit i <;> rfl
  · have h2 : 4294967296 ≤ 2 ^ i := by
      have := Nat.pow_le_pow_right (n := 2) (by omega) (show 32 ≤ i by omega)
      exact this
    rw [Nat.testBit_lt_two_pow (show a < 2 ^ i by omega), Nat.testBit_lt_two_pow (show c < 2 ^ i by omega)]
    simp

theorem or_most (a b c : Int) (ha : W32 a) (hb : W32 b) (hc : W32 c) : bits .or .u32 (bits .or .u32 (an a b) (an a c)) (an b c) = maj a b c := by
  obtain ⟨x, rfl, hx⟩ := ha.nat
  obtain ⟨y, rfl, hy⟩ := hb.nat
  obtain ⟨z, rfl, hz⟩ := hc.nat
  unfold maj
  rw [an_nat x y hx hy, an_nat x z hx hz, an_nat y z hy hz]
  have l1 := Nat.and_le_right (n := x) (m := y)
  have l2 := Nat.and_le_right (n := x) (m := z)
  have l3 := Nat.and_le_right (n := y) (m := z)
  have l4 := Nat.xor_lt_two_pow (x := x &&& y) (y := x &&& z) (n := 32) (by omega) (by omega)
  have l5 := Nat.or_lt_two_pow (x := x &&& y) (y := x &&& z) (n := 32) (by omega) (by omega)
  rw [xo_nat _ _ (by omega) (by omega), xo_nat _ _ (by omega) (by omega), u32_or_nat _ _ (by omega) (by omega), u32_or_nat _ _ (by omega) (by omega)]
  congr 1
  apply Nat.eq_of_testBit_eq
  intro i
  simp only [Nat.testBit_or, Nat.testBit_xor, Nat.testBit_and]
  cases x.testBit i <;> cases y.testBit i <;> cases z.testBit i <;> rfl

set_option maxRecDepth 10000 in
set_option maxHeartbeats 400000 in
theorem choice_any (x y z : Int) (w : World) :
    Calls Tryd.prog 58 #[.int .u32 x, .int .u32 y, .int .u32 z] w fun e w' => e = .returned (.int .u32 (cho x y z)) ∧ w' = w := by
  go_enter Tryd.func58, Tryd.ntmps58
  go_wp2
  go_ret
  exact ⟨rfl, rfl⟩

set_option maxRecDepth 10000 in
set_option maxHeartbeats 400000 in
theorem majority_any (x y z : Int) (w : World) :
    Calls Tryd.prog 60 #[.int .u32 x, .int .u32 y, .int .u32 z] w fun e w' => e = .returned (.int .u32 (maj x y z)) ∧ w' = w := by
  go_enter Tryd.func60, Tryd.ntmps60
  go_wp2
  go_ret
  exact ⟨rfl, rfl⟩

set_option maxRecDepth 10000 in
set_option maxHeartbeats 400000 in
theorem highMix_any (x : Int) (w : World) (h0 : 0 ≤ x) (h1 : x < 4294967296) :
    Calls Tryd.prog 57 #[.int .u32 x] w fun e w' => e = .returned (.int .u32 (hmx x)) ∧ w' = w := by
  go_enter Tryd.func57, Tryd.ntmps57
  go_wp2_with fail
  refine (turned_any x 6 _ h0 h1 (by omega) (by omega)).mono ?_
  rintro e w1 ⟨rfl, rfl⟩
  go_wp2_with fail
  refine (turned_any x 11 _ h0 h1 (by omega) (by omega)).mono ?_
  rintro e w2 ⟨rfl, rfl⟩
  go_wp2_with fail
  refine (turned_any x 25 _ h0 h1 (by omega) (by omega)).mono ?_
  rintro e w3 ⟨rfl, rfl⟩
  go_wp2
  go_ret
  exact ⟨rfl, rfl⟩

set_option maxRecDepth 10000 in
set_option maxHeartbeats 400000 in
theorem lowMix_any (x : Int) (w : World) (h0 : 0 ≤ x) (h1 : x < 4294967296) :
    Calls Tryd.prog 59 #[.int .u32 x] w fun e w' => e = .returned (.int .u32 (lmx x)) ∧ w' = w := by
  go_enter Tryd.func59, Tryd.ntmps59
  go_wp2_with fail
  refine (turned_any x 2 _ h0 h1 (by omega) (by omega)).mono ?_
  rintro e w1 ⟨rfl, rfl⟩
  go_wp2_with fail
  refine (turned_any x 13 _ h0 h1 (by omega) (by omega)).mono ?_
  rintro e w2 ⟨rfl, rfl⟩
  go_wp2_with fail
  refine (turned_any x 22 _ h0 h1 (by omega) (by omega)).mono ?_
  rintro e w3 ⟨rfl, rfl⟩
  go_wp2
  go_ret
  exact ⟨rfl, rfl⟩
#print axioms lowMix_any
#print axioms or_most
end Go.Proofs.YtojefckhefanhabDoor
/- Whole arrays in memory: loading, storing, boxing. -/
namespace Go.Proofs.YtojefckhefanhabDoor
open Go.RowKit

/-- The cells of an array of n numbers. -/
def cs (k : IntKind) (n : Nat) (f : Nat → Int) : Array Value := ((List.range n).map fun i => Value.int k (f i)).toArray
theorem cs_size (k : IntKind) (n : Nat) (f : Nat → Int) : (cs k n f).size = n := by simp [cs]
theorem cs_get (k : IntKind) (n : Nat) (f : Nat → Int) (j : Nat) (h : j < n) : (cs k n f)[j]? = some (.int k (f j)) := by simp [cs, h]
theorem cs_congr (k : IntKind) (n : Nat) {f f' : Nat → Int} (h : ∀ j, j < n → f j = f' j) : cs k n f = cs k n f' := by
  unfold cs
  congr 1
  exact List.map_congr_left (fun j hj => by rw [h j (List.mem_range.1 hj)])
theorem cs_all (k : IntKind) (n : Nat) (f : Nat → Int) : (cs k n f).all (·.oneCell') = true := by
  rw [Array.all_eq_true_iff_forall_mem]
  intro v hv
  simp only [cs, List.mem_toArray, List.mem_map] at hv
  obtain ⟨i, _, rfl⟩ := hv
  rfl

theorem Row.box {k : IntKind} {w : World} {e : TypeId} {n : Nat} {f : Nat → Int} : Row k (w.alloc (.cells (cs k n f) e)) w.heap.size n f :=
  Row.arr (fun j hj => cs_get k n f j hj)

theorem Row.range {k : IntKind} {w : World} {g n : Nat} {f : Nat → Int} (h : Row k w g n f) : w.rangeAt g 0 (cs k n f).toList := fun j v hv => by
  have hj : j < n := by
    have := (List.getElem?_eq_some_iff.1 hv).1
    simpa [cs_size] using this
  rw [Array.getElem?_toList, cs_get k n f j hj] at hv
  rw [Nat.zero_add, h.cell j hj]
  exact hv

theorem Row.thereAll {k : IntKind} {w : World} {g n : Nat} {f : Nat → Int} (h : Row k w g n f) : w.there g 0 n := fun j hj => by
  rw [Nat.zero_add, h.cell j hj, h.free j hj]
  exact ⟨rfl, rfl⟩

/-- A whole array read. -/
theorem run_loadAt_row {P : Program} {k : IntKind} {w : World} {g n e : Nat} {f : Nat → Int} (ty : TypeId) (h : Row k w g n f) (hu : P.underlying ty = some (.array n e)) (hi : (P.info? ty).map (·.size) = some n) :
    (Instr.loadAt ty (.pointer (some ⟨g, 0, none⟩))).run P w = .ok (.agg (cs k n f)) w := by
  have := run_loadAt_mid (P := P) w g 0 ty (cs k n f).toList (.array n e) h.range hu rfl (by rw [hi]; simp [cs_size])
  simpa using this

theorem run_loadVar_row' {P : Program} {k : IntKind} {w : World} {g n e : Nat} {f : Nat → Int} (ty : TypeId) (h : Row k w g n f) (hu : P.underlying ty = some (.array n e)) (hi : (P.info? ty).map (·.size) = some n) :
    (loadVar ty ⟨g, 0, none⟩).run P w = .ok (.agg (cs k n f)) w := by
  have := run_loadVar_mid (P := P) w g 0 ty (cs k n f).toList (.array n e) h.range hu rfl (by rw [hi]; simp [cs_size])
  simpa using this

/-- The world behind a whole array's store. -/
def put (w : World) (g : Nat) (k : IntKind) (n : Nat) (f : Nat → Int) : World := w.setCells g 0 (cs k n f).toList

theorem run_storeAt_row {P : Program} {k : IntKind} {w : World} {g n : Nat} {f f0 : Nat → Int} (ty : TypeId) (h : Row k w g n f0) (hi : (P.info? ty).map (·.size) = some n) :
    (Instr.storeAt ty (.pointer (some ⟨g, 0, none⟩)) (.agg (cs k n f))).run P w = .ok () (put w g k n f) :=
  run_storeAt_mid (P := P) w g 0 ty (cs k n f) (by rw [cs_size]; exact h.thereAll) (by rw [cs_size]; exact hi) (cs_all k n f)

theorem put_row {k : IntKind} {w : World} {g n : Nat} {f f0 : Nat → Int} (h : Row k w g n f0) : Row k (put w g k n f) g n f :=
  ⟨fun j hj => by
    have := World.rangeAt_setCells_same w g 0 (cs k n f).toList (by simpa [cs_size] using h.thereAll) j (.int k (f j)) (by rw [Array.getElem?_toList, cs_get k n f j hj])
    rw [Nat.zero_add] at this
    exact this,
   fun j hj => by unfold put; rw [World.frozen?_setCells]; exact h.free j hj⟩

theorem put_heap (w : World) (g : Nat) (k : IntKind) (n : Nat) (f : Nat → Int) (i : Nat) (hi : i < w.heap.size) (hne : i ≠ g) : (put w g k n f).heap[i]? = w.heap[i]? :=
  World.heap_setCells_other w g 0 _ hi hne

theorem setCells_size (g : Nat) : ∀ (vs : List Value) (o : Nat) (w : World), (w.setCells g o vs).heap.size = w.heap.size
  | [], _, _ => rfl
  | v :: vs, o, w => by
    have h := setCells_size g vs (o + 1) (w.setCell ⟨g, o, none⟩ v)
    rw [World.size_setCell] at h
    exact h
theorem put_size (w : World) (g : Nat) (k : IntKind) (n : Nat) (f : Nat → Int) : (put w g k n f).heap.size = w.heap.size := setCells_size _ _ _ _

theorem put_other {k k' : IntKind} {w : World} {g g' n m : Nat} {f f' : Nat → Int} (h : Row k w g n f) (hg : g < w.heap.size) (hne : g ≠ g') : Row k (put w g' k' m f') g n f :=
  h.same (put_heap w g' k' m f' g hg hne)

theorem setCells_below (g : Nat) {B : Nat} (hg : B ≤ g) : ∀ (vs : List Value) (o : Nat) (w w0 : World), Below B w0 w → Below B w0 (w.setCells g o vs)
  | [], _, _, _, h => h
  | v :: vs, o, _, w0, h => setCells_below g hg vs (o + 1) _ w0 (h.setCell (p := ⟨g, o, none⟩) hg v)
theorem put_below {B g : Nat} {k : IntKind} {n : Nat} {f : Nat → Int} {w w0 : World} (h : Below B w0 w) (hg : B ≤ g) : Below B w0 (put w g k n f) := setCells_below g hg _ _ _ _ h
/-- A whole array read, as the walk meets it. -/
theorem wpList_load_arr {P : Program} {ops : Array Oper} {rest : List Oper} {o : Oper} {a : Act} {w : World} {Q : Exit → Act → World → Prop} {k : IntKind} {n e : Nat} {f : Nat → Int} (hgd : o.guard = none) (ty : TypeId) (x : Operand) (ho : o.op = .load ty x)
    (g : Nat) (hx : a.eval x = .pointer (some ⟨g, 0, none⟩)) (h : Row k w g n f) (hu : P.underlying ty = some (.array n e)) (hi : (P.info? ty).map (·.size) = some n)
    (hK : wpList P ops Q rest (a.put o.dst (.agg (cs k n f))) w) : wpList P ops Q (o :: rest) a w :=
  wpList_load_mid hgd ty x ho g 0 hx (cs k n f).toList (.array n e) h.range hu rfl (by rw [hi]; simp [cs_size]) (by simpa using hK)

theorem wpList_store_arr {P : Program} {ops : Array Oper} {rest : List Oper} {o : Oper} {a : Act} {w : World} {Q : Exit → Act → World → Prop} {k : IntKind} {n : Nat} {f f0 : Nat → Int} (hgd : o.guard = none) (ty : TypeId) (x y : Operand) (ho : o.op = .store ty x y)
    (g : Nat) (hx : a.eval x = .pointer (some ⟨g, 0, none⟩)) (hy : a.eval y = .agg (cs k n f)) (h : Row k w g n f0) (hi : (P.info? ty).map (·.size) = some n) (hdst : o.dst = none)
    (hK : wpList P ops Q rest a (put w g k n f)) : wpList P ops Q (o :: rest) a w :=
  wpList_store_mid hgd ty x y ho g 0 (cs k n f) hx hy (by rw [cs_size]; exact h.thereAll) (by rw [cs_size]; exact hi) (cs_all k n f) (by rw [hdst]; exact hK)

/-- W' is w but for what block g holds. -/
structure Upd (w w' : World) (g : Nat) : Prop where
  os : w'.os = w.os
  tape : w'.tape = w.tape
  output : w'.output = w.output
  size : w'.heap.size = w.heap.size
  block : ∀ i, i < w.heap.size → i ≠ g → w'.heap[i]? = w.heap[i]?
theorem Row.upd {k : IntKind} {w w' : World} {g g' n : Nat} {f : Nat → Int} (h : Row k w g n f) (u : Upd w w' g') (hg : g < w.heap.size) (hne : g ≠ g') : Row k w' g n f := h.same (u.block g hg hne)
theorem Upd.below {B g : Nat} {w w' w0 : World} (u : Upd w w' g) (h : Below B w0 w) (hg : B ≤ g) (hB : B ≤ w.heap.size) : Below B w0 w' :=
  ⟨u.os.trans h.os, u.tape.trans h.tape, u.output.trans h.output, by rw [u.size]; exact h.size, fun i hi => (u.block i (by omega) (by omega)).trans (h.block i hi)⟩
theorem put_upd (w : World) (g : Nat) (k : IntKind) (n : Nat) (f : Nat → Int) : Upd w (put w g k n f) g := by
  have b : Below 0 w (put w g k n f) := put_below (Below.refl _ _) (Nat.zero_le _)
  exact ⟨b.os, b.tape, b.output, put_size _ _ _ _ _, fun i hi hne => put_heap w g k n f i hi hne⟩

/-- A whole array stored: the walk goes on in whatever world has it so. -/
theorem wpList_store_any {P : Program} {ops : Array Oper} {rest : List Oper} {o : Oper} {a : Act} {w : World} {Q : Exit → Act → World → Prop} {k : IntKind} {n : Nat} {f f0 : Nat → Int} (hgd : o.guard = none) (ty : TypeId) (x y : Operand) (ho : o.op = .store ty x y)
    (g : Nat) (hx : a.eval x = .pointer (some ⟨g, 0, none⟩)) (hy : a.eval y = .agg (cs k n f)) (h : Row k w g n f0) (hi : (P.info? ty).map (·.size) = some n) (hdst : o.dst = none)
    (hK : ∀ W, Row k W g n f → Upd w W g → wpList P ops Q rest a W) : wpList P ops Q (o :: rest) a w :=
  wpList_store_arr hgd ty x y ho g hx hy h hi hdst (hK _ (put_row h) (put_upd w g k n f))

/-- Eight numbers. -/
def vec8 (x0 x1 x2 x3 x4 x5 x6 x7 : Int) : Nat → Int
  | 0 => x0
  | 1 => x1
  | 2 => x2
  | 3 => x3
  | 4 => x4
  | 5 => x5
  | 6 => x6
  | 7 => x7
  | _ => 0
theorem vec8_of (f : Nat → Int) (j : Nat) (h : j < 8) : vec8 (f 0) (f 1) (f 2) (f 3) (f 4) (f 5) (f 6) (f 7) j = f j := by
  rcases (show j = 0 ∨ j = 1 ∨ j = 2 ∨ j = 3 ∨ j = 4 ∨ j = 5 ∨ j = 6 ∨ j = 7 from by omega) with rfl | rfl | rfl | rfl | rfl | rfl | rfl | rfl <;> rfl
theorem row8 {w : World} {g : Nat} {f0 : Nat → Int} (h : Row .u32 w g 8 f0) (x0 x1 x2 x3 x4 x5 x6 x7 : Int) :
    Row .u32 ((((((((w.setCell ⟨g, 0, none⟩ (.int .u32 x0)).setCell ⟨g, 1, none⟩ (.int .u32 x1)).setCell ⟨g, 2, none⟩ (.int .u32 x2)).setCell ⟨g, 3, none⟩ (.int .u32 x3)).setCell ⟨g, 4, none⟩ (.int .u32 x4)).setCell ⟨g, 5, none⟩ (.int .u32 x5)).setCell ⟨g, 6, none⟩ (.int .u32 x6)).setCell ⟨g, 7, none⟩ (.int .u32 x7)) g 8 (vec8 x0 x1 x2 x3 x4 x5 x6 x7) :=
  ((((((((h.set 0 x0 (by omega)).set 1 x1 (by omega)).set 2 x2 (by omega)).set 3 x3 (by omega)).set 4 x4 (by omega)).set 5 x5 (by omega)).set 6 x6 (by omega)).set 7 x7 (by omega)).congr (fun j hj => by
    rcases (show j = 0 ∨ j = 1 ∨ j = 2 ∨ j = 3 ∨ j = 4 ∨ j = 5 ∨ j = 6 ∨ j = 7 from by omega) with rfl | rfl | rfl | rfl | rfl | rfl | rfl | rfl <;> rfl)
theorem bel8 {w0 w : World} {B g : Nat} (h : Below B w0 w) (hg : B ≤ g) (x0 x1 x2 x3 x4 x5 x6 x7 : Value) :
    Below B w0 ((((((((w.setCell ⟨g, 0, none⟩ x0).setCell ⟨g, 1, none⟩ x1).setCell ⟨g, 2, none⟩ x2).setCell ⟨g, 3, none⟩ x3).setCell ⟨g, 4, none⟩ x4).setCell ⟨g, 5, none⟩ x5).setCell ⟨g, 6, none⟩ x6).setCell ⟨g, 7, none⟩ x7) :=
  (((((((h.setCell hg _).setCell hg _).setCell hg _).setCell hg _).setCell hg _).setCell hg _).setCell hg _).setCell hg _

theorem results_arr {P : Program} {k : IntKind} {n e g : Nat} {f : Nat → Int} {fn : Func} {p : Tmp} {ty : TypeId} (hr : fn.results = #[.cell p ty]) (tmps : Array Value) (w : World)
    (hp : tmps.getD p undef = .pointer (some ⟨g, 0, none⟩)) (h : Row k w g n f) (hu : P.underlying ty = some (.array n e)) (hi : (P.info? ty).map (·.size) = some n) :
    (results fn tmps).run P w = .ok (.agg (cs k n f)) w := by
  have hl := run_loadVar_row' ty h hu hi
  have hp' : tmps[p]?.getD undef = .pointer (some ⟨g, 0, none⟩) := by simpa using hp
  simp [results, hr, hp', asAddr, hl]
#print axioms put_below
end Go.Proofs.YtojefckhefanhabDoor
/- What sha.schedule and the reference's words answer: the same sixty-four words. -/
namespace Go.Proofs.YtojefckhefanhabDoor
open Go.RowKit
theorem Tryd.sz65 : (Tryd.prog.info? 65).map (·.size) = some 8 := by kernel_rfl
theorem Tryd.sz69 : (Tryd.prog.info? 69).map (·.size) = some 64 := by kernel_rfl
theorem Tryd.sz108 : (Tryd.prog.info? 108).map (·.size) = some 64 := by kernel_rfl

/-- Word k of a block, the first byte highest. -/
def wd (b : Nat → Int) (k : Nat) : Int := b (4 * k) * 16777216 + b (4 * k + 1) * 65536 + b (4 * k + 2) * 256 + b (4 * k + 3)
def s0 (x : Int) : Int := xo (xo (rot x 7) (rot x 18)) (x / 8)
def s1 (x : Int) : Int := xo (xo (rot x 17) (rot x 19)) (x / 1024)
/-- The word that comes to place k, the places before it filled. -/
def nxt (b f : Nat → Int) (k : Nat) : Int := if k < 16 then wd b k else pl (pl (pl (f (k - 16)) (s0 (f (k - 15)))) (f (k - 7))) (s1 (f (k - 2)))
/-- The schedule while k words are filled. -/
def sch (b : Nat → Int) : Nat → Nat → Int
  | 0, _ => 0
  | k + 1, j => if j = k then nxt b (sch b k) k else sch b k j

theorem start3 (w : World) (b : Nat → Int) (e1 e2 e3 : TypeId) (A2 A3 : Array Value) (h2 : A2 = Array.replicate 64 (.int .u32 0)) (h3 : A3 = Array.replicate 64 (.int .u32 0)) :
    Row .u8 (((w.alloc (.cells (cs .u8 64 b) e1)).alloc (.cells A2 e2)).alloc (.cells A3 e3)) w.heap.size 64 b ∧
    Row .u32 (((w.alloc (.cells (cs .u8 64 b) e1)).alloc (.cells A2 e2)).alloc (.cells A3 e3)) (w.heap.size + 1) 64 (fun _ => 0) ∧
    Row .u32 (((w.alloc (.cells (cs .u8 64 b) e1)).alloc (.cells A2 e2)).alloc (.cells A3 e3)) (w.heap.size + 1 + 1) 64 (fun _ => 0) ∧
    Below w.heap.size w (((w.alloc (.cells (cs .u8 64 b) e1)).alloc (.cells A2 e2)).alloc (.cells A3 e3)) ∧ w.heap.size + 1 + 1 < (((w.alloc (.cells (cs .u8 64 b) e1)).alloc (.cells A2 e2)).alloc (.cells A3 e3)).heap.size := by
  have z1 : (w.alloc (.cells (cs .u8 64 b) e1)).heap.size = w.heap.size + 1 := World.size_alloc _ _
  have r1 : Row .u8 (w.alloc (.cells (cs .u8 64 b) e1)) w.heap.size 64 b := Row.box
  have b1 : Below w.heap.size w (w.alloc (.cells (cs .u8 64 b) e1)) := (Below.refl _ _).alloc (Nat.le_refl _) _
  generalize w.alloc (.cells (cs .u8 64 b) e1) = w1 at z1 r1 b1 ⊢
  have z2 : (w1.alloc (.cells A2 e2)).heap.size = w1.heap.size + 1 := World.size_alloc _ _
  have r2 : Row .u32 (w1.alloc (.cells A2 e2)) w1.heap.size 64 (fun _ => 0) := Row.rep h2
  have q1 := r1.alloc (by omega) (.cells A2 e2)
  have b2 := b1.alloc (by omega) (.cells A2 e2)
  rw [z1] at r2 z2
  generalize w1.alloc (.cells A2 e2) = w2 at z2 r2 q1 b2 ⊢
  have z3 : (w2.alloc (.cells A3 e3)).heap.size = w2.heap.size + 1 := World.size_alloc _ _
  have r3 : Row .u32 (w2.alloc (.cells A3 e3)) w2.heap.size 64 (fun _ => 0) := Row.rep h3
  rw [z2] at r3 z3
  exact ⟨q1.alloc (by omega) _, r2.alloc (by omega) _, r3, b2.alloc (by omega) _, by omega⟩

theorem or4 (a b c d : Int) (ha : 0 ≤ a ∧ a < 256) (hb : 0 ≤ b ∧ b < 256) (hc : 0 ≤ c ∧ c < 256) (hd : 0 ≤ d ∧ d < 256) :
    bits .or .u32 (bits .or .u32 (bits .or .u32 (a * 16777216) (b * 65536)) (c * 256)) d = a * 16777216 + b * 65536 + c * 256 + d := by
  have e : ∀ (i x y : Nat), x % 2 ^ i = 0 → y < 2 ^ i → x < 4294967296 → y < 4294967296 → bits .or .u32 (x : Int) (y : Int) = ((x + y : Nat) : Int) := fun i x y h1 h2 h3 h4 => by
    rw [u32_or_nat x y h3 h4, nat_join i x y h1 h2]
  obtain ⟨a, rfl⟩ := Int.eq_ofNat_of_zero_le ha.1
  obtain ⟨b, rfl⟩ := Int.eq_ofNat_of_zero_le hb.1
  obtain ⟨c, rfl⟩ := Int.eq_ofNat_of_zero_le hc.1
  obtain ⟨d, rfl⟩ := Int.eq_ofNat_of_zero_le hd.1
  rw [show ((a : Int) * 16777216) = ((a * 16777216 : Nat) : Int) from by omega, show ((b : Int) * 65536) = ((b * 65536 : Nat) : Int) from by omega, show ((c : Int) * 256) = ((c * 256 : Nat) : Int) from by omega]
  rw [e 24 _ _ (by omega) (by omega) (by omega) (by omega), e 16 _ _ (by omega) (by omega) (by omega) (by omega), e 8 _ _ (by omega) (by omega) (by omega) (by omega)]
  omega

theorem sch_word (b : Nat → Int) (k j : Nat) (h : k < 16) : (if j = k then b (4 * k) * 16777216 + b (4 * k + 1) * 65536 + b (4 * k + 2) * 256 + b (4 * k + 3) else sch b k j) = sch b (k + 1) j := by
  rw [sch]
  by_cases e : j = k
  · rw [if_pos e, if_pos e]; unfold nxt; rw [if_pos h]; rfl
  · rw [if_neg e, if_neg e]

theorem sch_next (b : Nat → Int) (k j : Nat) (v : Int) (h : v = nxt b (sch b k) k) : (if j = k then v else sch b k j) = sch b (k + 1) j := by
  rw [sch, h]

theorem pl4 (a b c d : Int) : (a + b + c + d) % 4294967296 = pl (pl (pl a b) c) d := by unfold pl; omega

theorem sch_w (b : Nat → Int) (hb : ∀ j, 0 ≤ b j ∧ b j < 256) (k j : Nat) : W32 (sch b k j) := by
  induction k with
  | zero => exact ⟨by simp [sch], by simp [sch]⟩
  | succ k ih =>
    rw [sch]
    split
    · unfold nxt
      split
      · have h0 := hb (4 * k)
        have h1 := hb (4 * k + 1)
        have h2 := hb (4 * k + 2)
        have h3 := hb (4 * k + 3)
        unfold wd
        exact ⟨by omega, by omega⟩
      · exact pl_bd _ _
    · exact ih

theorem turn7 (x : Int) (w : World) (h0 : 0 ≤ x) (h1 : x < 4294967296) : Calls Tryd.prog 73 #[.int .u32 x, .int .i64 7] w fun e w' => e = .returned (.int .u32 (rot x 7)) ∧ w' = w := turned_any x 7 w h0 h1 (by omega) (by omega)
theorem turn17 (x : Int) (w : World) (h0 : 0 ≤ x) (h1 : x < 4294967296) : Calls Tryd.prog 73 #[.int .u32 x, .int .i64 17] w fun e w' => e = .returned (.int .u32 (rot x 17)) ∧ w' = w := turned_any x 17 w h0 h1 (by omega) (by omega)
theorem turn18 (x : Int) (w : World) (h0 : 0 ≤ x) (h1 : x < 4294967296) : Calls Tryd.prog 73 #[.int .u32 x, .int .i64 18] w fun e w' => e = .returned (.int .u32 (rot x 18)) ∧ w' = w := turned_any x 18 w h0 h1 (by omega) (by omega)
theorem turn19 (x : Int) (w : World) (h0 : 0 ≤ x) (h1 : x < 4294967296) : Calls Tryd.prog 73 #[.int .u32 x, .int .i64 19] w fun e w' => e = .returned (.int .u32 (rot x 19)) ∧ w' = w := turned_any x 19 w h0 h1 (by omega) (by omega)

set_option maxRecDepth 10000 in
set_option maxHeartbeats 4000000 in
theorem schedule_any (b : Nat → Int) (w : World) (hb : ∀ j, 0 ≤ b j ∧ b j < 256) :
    Calls Tryd.prog 56 #[.agg (cs .u8 64 b)] w fun e w' => e = .returned (.agg (cs .u32 64 (sch b 64))) ∧ Below w.heap.size w w' := by
  go_enter Tryd.func56, Tryd.ntmps56
  go_wp2
  go_loopw [8] (fun i wr => ∃ k : Nat, k ≤ 16 ∧ i = .int .i64 k ∧ Row .u8 wr w.heap.size 64 b ∧ Row .u32 wr (w.heap.size + 1) 64 (fun _ => 0) ∧ Row .u32 wr (w.heap.size + 1 + 1) 64 (sch b k) ∧ Below w.heap.size w wr ∧ w.heap.size + 1 + 1 < wr.heap.size) (fun i _ => 16 - (intOf i).toNat)
  case atStart =>
    obtain ⟨h1, h2, h3, h4, h5⟩ := start3 w b 69 108 108 _ _ rfl rfl
    exact ⟨0, by omega, rfl, h1, h2, h3.congr (fun j _ => rfl), h4, h5⟩
  case round =>
    obtain ⟨k, hk, rfl, RB, RZ, RS, B, hz⟩ := hrel
    by_cases hlt : k < 16
    · have c0 := RB.cell (4 * k) (by omega)
      have c1 := RB.cell (4 * k + 1) (by omega)
      have c2 := RB.cell (4 * k + 2) (by omega)
      have c3 := RB.cell (4 * k + 3) (by omega)
      have d0 := RS.cell k (by omega)
      have f0 := RS.free k (by omega)
      have b0 := hb (4 * k)
      have b1 := hb (4 * k + 1)
      have b2 := hb (4 * k + 2)
      have b3 := hb (4 * k + 3)
      have HB : Hid (∀ j, 0 ≤ b j ∧ b j < 256) := hb
      clear hb
      go_wp2
      go_region
      all_goals go_wp2
      all_goals
        go_roundw
        case rel =>
          rw [or4 _ _ _ _ b0 b1 b2 b3]
          refine ⟨k + 1, by omega, by go_num, (RB.other _ _ (show w.heap.size ≠ w.heap.size + 1 + 1 by omega)).drew, (RZ.other _ _ (show w.heap.size + 1 ≠ w.heap.size + 1 + 1 by omega)).drew, ((RS.set k _ (by omega)).congr (fun j _ => ?_)).drew, (B.setCell (show w.heap.size ≤ w.heap.size + 1 + 1 by omega) _).drew, by simp; omega⟩
          exact sch_word b k j hlt
        case measure => simp [intOf]; omega
    · obtain rfl : k = 16 := by omega
      have HB : Hid (∀ j, 0 ≤ b j ∧ b j < 256) := hb
      clear hb
      go_wp2
      go_loopw [5] (fun i wr => ∃ k : Nat, 16 ≤ k ∧ k ≤ 64 ∧ i = .int .i64 k ∧ Row .u32 wr (w.heap.size + 1) 64 (fun _ => 0) ∧ Row .u32 wr (w.heap.size + 1 + 1) 64 (sch b k) ∧ Below w.heap.size w wr ∧ w.heap.size + 1 + 1 < wr.heap.size) (fun i _ => 64 - (intOf i).toNat)
      case atStart => exact ⟨16, by omega, by omega, rfl, RZ, RS, B, hz⟩
      case round =>
        obtain ⟨k, hk0, hk, rfl, RZ, RS, B, hz⟩ := hrel
        by_cases hlt : k < 64
        · have c2 := RS.cell (k - 2) (by omega)
          have c7 := RS.cell (k - 7) (by omega)
          have c15 := RS.cell (k - 15) (by omega)
          have c16 := RS.cell (k - 16) (by omega)
          have c0 := RS.cell k (by omega)
          have f0 := RS.free k (by omega)
          have b2 := sch_w b HB.out k (k - 2)
          have b15 := sch_w b HB.out k (k - 15)
          have hst : Hid (pl (pl (pl (sch b k (k - 16)) (s0 (sch b k (k - 15)))) (sch b k (k - 7))) (s1 (sch b k (k - 2))) = nxt b (sch b k) k) := by unfold Hid nxt; rw [if_neg (by omega)]
          generalize sch b k (k - 2) = x2 at c2 b2 hst
          generalize sch b k (k - 7) = x7 at c7 hst
          generalize sch b k (k - 15) = x15 at c15 b15 hst
          generalize sch b k (k - 16) = x16 at c16 hst
          have m2 : (2 : Int) ≤ (k : Int) := by omega
          have m3 : (k : Int) < 66 := by omega
          have i2 : (0 : Int) ≤ k - 2 ∧ (k : Int) - 2 < 64 := by omega
          have i7 : (0 : Int) ≤ k - 7 ∧ (k : Int) - 7 < 64 := by omega
          have i15 : (0 : Int) ≤ k - 15 ∧ (k : Int) - 15 < 64 := by omega
          have i16 : (0 : Int) ≤ k - 16 ∧ (k : Int) - 16 < 64 := by omega
          have l2 := b2.1
          have u2 := b2.2
          have l15 := b15.1
          have u15 := b15.2
          go_wp2
          go_quiet (first | (go_at_call_of 73 (Value.int IntKind.i64 7); exact Calls.quiet_of_same (turn7 _ _ l15 u15)) | (go_at_call_of 73 (Value.int IntKind.i64 18); exact Calls.quiet_of_same (turn18 _ _ l15 u15)))
          go_wp2
          have hd : ∀ a, (wr.drewN nq).cell? a = wr.cell? a := fun _ => rfl
          have hf : ∀ a, (wr.drewN nq).frozen? a = wr.frozen? a := fun _ => rfl
          rw [← hd] at c0 c2 c7 c15 c16
          rw [← hf] at f0
          clear hd hf
          have RZ1 := RZ.drewN nq
          have RS1 := RS.drewN nq
          have B1 := bel_drewN B nq
          have hz1 : w.heap.size + 1 + 1 < (wr.drewN nq).heap.size := hz
          generalize wr.drewN nq = wq at RZ1 RS1 B1 hz1 c0 c2 c7 c15 c16 f0 ⊢
          go_quiet (first | (go_at_call_of 73 (Value.int IntKind.i64 17); exact Calls.quiet_of_same (turn17 _ _ l2 u2)) | (go_at_call_of 73 (Value.int IntKind.i64 19); exact Calls.quiet_of_same (turn19 _ _ l2 u2)))
          go_wp2
          go_wp2
          go_region
          all_goals go_wp2
          all_goals
            go_roundw
            case rel =>
              refine ⟨k + 1, by omega, by omega, by go_num, (RZ1.drewN _).other _ _ (show w.heap.size + 1 ≠ w.heap.size + 1 + 1 by omega), ((RS1.drewN _).set k _ (by omega)).congr (fun j _ => ?_), (bel_drewN B1 _).setCell (show w.heap.size ≤ w.heap.size + 1 + 1 by omega) _, by rw [World.size_setCell]; exact hz1⟩
              refine sch_next b k j _ ?_
              rw [← hst.out]
              exact pl4 _ _ _ _
            case measure => simp [intOf]; omega
        · obtain rfl : k = 64 := by omega
          go_wp2_with (first | (refine wpList_load_arr (by rfl) 108 (.tmp 3) (by rfl) (w.heap.size + 1 + 1) (by rfl) RS Tryd.underlying108 Tryd.sz108 ?_) | (refine wpList_store_arr (by rfl) 108 (.tmp 2) (.tmp 96) (by rfl) (w.heap.size + 1) (by rfl) (by rfl) RZ Tryd.sz108 (by rfl) ?_))
          exact bodyPost_ret (results_arr Tryd.results56 _ _ rfl (put_row RZ) Tryd.underlying108 Tryd.sz108) rfl ⟨rfl, put_below B (by omega)⟩
#print axioms schedule_any
end Go.Proofs.YtojefckhefanhabDoor
/- What sha.Block answers: the eight words behind one block. -/
namespace Go.Proofs.YtojefckhefanhabDoor
open Go.RowKit
/-- The round constants. -/
def kl : List Int := [1116352408, 1899447441, 3049323471, 3921009573, 961987163, 1508970993, 2453635748, 2870763221, 3624381080, 310598401, 607225278, 1426881987, 1925078388, 2162078206, 2614888103, 3248222580, 3835390401, 4022224774, 264347078, 604807628, 770255983, 1249150122, 1555081692, 1996064986, 2554220882, 2821834349, 2952996808, 3210313671, 3336571891, 3584528711, 113926993, 338241895, 666307205, 773529912, 1294757372, 1396182291, 1695183700, 1986661051, 2177026350, 2456956037, 2730485921, 2820302411, 3259730800, 3345764771, 3516065817, 3600352804, 4094571909, 275423344, 430227734, 506948616, 659060556, 883997877, 958139571, 1322822218, 1537002063, 1747873779, 1955562222, 2024104815, 2227730452, 2361852424, 2428436474, 2756734187, 3204031479, 3329325298]
def kk (i : Nat) : Int := kl.getD i 0

/-- One round's two sums, and the eight words behind it. -/
def t1 (v : Nat → Int) (x : Int) : Int := (v 7 + hmx (v 4) + cho (v 4) (v 5) (v 6) + x) % 4294967296
def t2 (v : Nat → Int) : Int := (lmx (v 0) + maj (v 0) (v 1) (v 2)) % 4294967296
def stp (v : Nat → Int) (x : Int) : Nat → Int
  | 0 => (t1 v x + t2 v) % 4294967296
  | 1 => v 0
  | 2 => v 1
  | 3 => v 2
  | 4 => (v 3 + t1 v x) % 4294967296
  | 5 => v 4
  | 6 => v 5
  | 7 => v 6
  | _ => 0
def rnd (q h s : Nat → Int) : Nat → Nat → Int
  | 0 => h
  | i + 1 => stp (rnd q h s i) (pl (q i) (s i))
/-- The block function, its constants q. -/
def blk (q h b : Nat → Int) (j : Nat) : Int := pl (h j) (rnd q h (sch b 64) 64 j)

theorem stp_w (v : Nat → Int) (x : Int) (hv : ∀ j, W32 (v j)) : ∀ j, W32 (stp v x j)
  | 0 => pl_bd _ _
  | 1 => hv 0
  | 2 => hv 1
  | 3 => hv 2
  | 4 => pl_bd _ _
  | 5 => hv 4
  | 6 => hv 5
  | 7 => hv 6
  | _ + 8 => ⟨by simp [stp], by simp [stp]⟩
theorem rnd_w (q h s : Nat → Int) (hh : ∀ j, W32 (h j)) (i : Nat) : ∀ j, W32 (rnd q h s i j) := by
  induction i with
  | zero => exact hh
  | succ i ih => exact stp_w _ _ ih
theorem blk_w (q h b : Nat → Int) (j : Nat) : W32 (blk q h b j) := pl_bd _ _

/-- The package's table of constants lies in its variable. -/
def KT (w : World) : Prop := ∀ i, i < 64 → w.cell? ⟨0, i, none⟩ = some (.int .u32 (kk i))
theorem KT.lt {w : World} (h : KT w) : 0 < w.heap.size := block_lt_of_cell (h 0 (by omega))
theorem KT.below {w w' : World} (h : KT w) (b : Below w.heap.size w w') : KT w' := fun i hi => by
  have e := b.cell (p := ⟨0, i, none⟩) h.lt
  rw [e]; exact h i hi

theorem startB (w : World) (h b : Nat → Int) (e1 e2 e3 : TypeId) (A : Array Value) (hA : A = Array.replicate 8 (.int .u32 0)) :
    Row .u32 (((w.alloc (.cells (cs .u32 8 h) e1)).alloc (.cells (cs .u8 64 b) e2)).alloc (.cells A e3)) w.heap.size 8 h ∧
    Row .u8 (((w.alloc (.cells (cs .u32 8 h) e1)).alloc (.cells (cs .u8 64 b) e2)).alloc (.cells A e3)) (w.heap.size + 1) 64 b ∧
    Row .u32 (((w.alloc (.cells (cs .u32 8 h) e1)).alloc (.cells (cs .u8 64 b) e2)).alloc (.cells A e3)) (w.heap.size + 1 + 1) 8 (fun _ => 0) ∧
    Below w.heap.size w (((w.alloc (.cells (cs .u32 8 h) e1)).alloc (.cells (cs .u8 64 b) e2)).alloc (.cells A e3)) ∧ (((w.alloc (.cells (cs .u32 8 h) e1)).alloc (.cells (cs .u8 64 b) e2)).alloc (.cells A e3)).heap.size = w.heap.size + 3 := by
  have z1 : (w.alloc (.cells (cs .u32 8 h) e1)).heap.size = w.heap.size + 1 := World.size_alloc _ _
  have r1 : Row .u32 (w.alloc (.cells (cs .u32 8 h) e1)) w.heap.size 8 h := Row.box
  have b1 : Below w.heap.size w (w.alloc (.cells (cs .u32 8 h) e1)) := (Below.refl _ _).alloc (Nat.le_refl _) _
  generalize w.alloc (.cells (cs .u32 8 h) e1) = w1 at z1 r1 b1 ⊢
  have z2 : (w1.alloc (.cells (cs .u8 64 b) e2)).heap.size = w1.heap.size + 1 := World.size_alloc _ _
  have r2 : Row .u8 (w1.alloc (.cells (cs .u8 64 b) e2)) w1.heap.size 64 b := Row.box
  have q1 := r1.alloc (by omega) (.cells (cs .u8 64 b) e2)
  have b2 := b1.alloc (by omega) (.cells (cs .u8 64 b) e2)
  rw [z1] at r2 z2
  generalize w1.alloc (.cells (cs .u8 64 b) e2) = w2 at z2 r2 q1 b2 ⊢
  have z3 : (w2.alloc (.cells A e3)).heap.size = w2.heap.size + 1 := World.size_alloc _ _
  have r3 : Row .u32 (w2.alloc (.cells A e3)) w2.heap.size 8 (fun _ => 0) := Row.rep hA
  rw [z2] at r3 z3
  exact ⟨q1.alloc (by omega) _, r2.alloc (by omega) _, r3, b2.alloc (by omega) _, by omega⟩

set_option maxRecDepth 10000 in
set_option maxHeartbeats 4000000 in
theorem block_any (h b : Nat → Int) (w : World) (hh : ∀ j, W32 (h j)) (hb : ∀ j, 0 ≤ b j ∧ b j < 256) (hk : KT w) :
    Calls Tryd.prog 41 #[.agg (cs .u32 8 h), .agg (cs .u8 64 b)] w fun e w' => e = .returned (.agg (cs .u32 8 (blk kk h b))) ∧ Below w.heap.size w w' := by
  have HH : Hid (∀ j, W32 (h j)) := hh
  have HB : Hid (∀ j, 0 ≤ b j ∧ b j < 256) := hb
  have HK : Hid (KT w) := hk
  have h0 := hk.lt
  clear hh hb hk
  go_enter Tryd.func41, Tryd.ntmps41
  go_wp2_with (refine wpList_load_arr (by rfl) 69 (.tmp 3) (by rfl) (w.heap.size + 1) (by rfl) (startB w h b _ _ _ _ rfl).2.1 Tryd.underlying69 Tryd.sz69 ?_)
  obtain ⟨RH, RB, RR, B, hz⟩ := startB w h b 65 69 65 #[.int .u32 0, .int .u32 0, .int .u32 0, .int .u32 0, .int .u32 0, .int .u32 0, .int .u32 0, .int .u32 0] rfl
  generalize ((w.alloc (.cells (cs .u32 8 h) 65)).alloc (.cells (cs .u8 64 b) 69)).alloc (.cells #[.int .u32 0, .int .u32 0, .int .u32 0, .int .u32 0, .int .u32 0, .int .u32 0, .int .u32 0, .int .u32 0] 65) = W at RH RB RR B hz ⊢
  refine (schedule_any b _ HB.out).mono ?_
  rintro e w1 ⟨rfl, b1⟩
  have RH1 := RH.below b1 (by omega)
  have RR1 := RR.below b1 (by omega)
  have B1 : Below w.heap.size w w1 := B.trans (b1.mono (by omega))
  have hz1 : w.heap.size + 3 ≤ w1.heap.size := by have := b1.size; omega
  clear RH RB RR B hz b1
  go_wp2_with (refine wpList_store_any (by rfl) 108 (.tmp 5) (.tmp 18) (by rfl) w1.heap.size (by rfl) (by rfl) (Row.rep (n := 64) (z := 0) rfl) Tryd.sz108 (by rfl) ?_; intro W2 RS2 U2)
  have RH2 := (RH1.alloc (by omega) _).upd U2 (by rw [World.size_alloc]; omega) (by omega)
  have RR2 := (RR1.alloc (by omega) _).upd U2 (by rw [World.size_alloc]; omega) (by omega)
  have B2 : Below w.heap.size w W2 := U2.below (B1.alloc (by omega) _) (by omega) (by rw [World.size_alloc]; omega)
  have hz2 : w1.heap.size < W2.heap.size := by rw [U2.size, World.size_alloc]; omega
  have K2 := HK.out.below B2
  clear RH1 RR1 B1 U2
  have c0 := RH2.cell 0 (by omega)
  have c1 := RH2.cell 1 (by omega)
  have c2 := RH2.cell 2 (by omega)
  have c3 := RH2.cell 3 (by omega)
  have c4 := RH2.cell 4 (by omega)
  have c5 := RH2.cell 5 (by omega)
  have c6 := RH2.cell 6 (by omega)
  have c7 := RH2.cell 7 (by omega)
  go_quiet (fail)
  go_wp2
  clear c0 c1 c2 c3 c4 c5 c6 c7
  go_loopw [6, 7, 8, 9, 10, 11, 12, 13, 35] (fun a0 a1 a2 a3 a4 a5 a6 a7 i wr => ∃ k : Nat, k ≤ 64 ∧ i = .int .i64 k ∧ a0 = .int .u32 (rnd kk h (sch b 64) k 0) ∧ a1 = .int .u32 (rnd kk h (sch b 64) k 1) ∧ a2 = .int .u32 (rnd kk h (sch b 64) k 2) ∧ a3 = .int .u32 (rnd kk h (sch b 64) k 3) ∧ a4 = .int .u32 (rnd kk h (sch b 64) k 4) ∧ a5 = .int .u32 (rnd kk h (sch b 64) k 5) ∧ a6 = .int .u32 (rnd kk h (sch b 64) k 6) ∧ a7 = .int .u32 (rnd kk h (sch b 64) k 7) ∧
      KT wr ∧ Row .u32 wr w.heap.size 8 h ∧ Row .u32 wr (w.heap.size + 1 + 1) 8 (fun _ => 0) ∧ Row .u32 wr w1.heap.size 64 (sch b 64) ∧ Below w.heap.size w wr) (fun _ _ _ _ _ _ _ _ i _ => 64 - (intOf i).toNat)
  case atStart => exact ⟨0, by omega, rfl, rfl, rfl, rfl, rfl, rfl, rfl, rfl, rfl, K2, RH2.drewN _, RR2.drewN _, RS2.drewN _, bel_drewN B2 _⟩
  case round =>
    obtain ⟨k, hk, rfl, rfl, rfl, rfl, rfl, rfl, rfl, rfl, rfl, K, RH, RR, RS, B⟩ := hrel
    clear K2 RH2 RR2 RS2 B2
    by_cases hlt : k < 64
    · have hst : Hid (stp (rnd kk h (sch b 64) k) (pl (kk k) (sch b 64 k)) = rnd kk h (sch b 64) (k + 1)) := rfl
      have hv := rnd_w kk h (sch b 64) HH.out k
      have ck := K k hlt
      have cw := RS.cell k (by omega)
      have l4 := (hv 4).1
      have r4 := (hv 4).2
      have l0 := (hv 0).1
      have r0 := (hv 0).2
      clear hv
      have KH : Hid (KT wr) := K
      clear K
      generalize rnd kk h (sch b 64) k = v at hst l4 r4 l0 r0 ⊢
      generalize hwk : sch b 64 k = wk at hst cw
      generalize hkk : kk k = qk at hst ck
      clear hwk hkk
      go_wp2
      go_quiet (first | (go_at_call 57; exact Calls.quiet_of_same (highMix_any _ _ l4 r4)) | (go_at_call 58; exact Calls.quiet_of_same (choice_any _ _ _ _)))
      go_wp2_with fail
      refine (lowMix_any _ _ l0 r0).mono ?_
      rintro e w3 ⟨rfl, rfl⟩
      go_wp2_with fail
      refine (majority_any _ _ _ _).mono ?_
      rintro e w4 ⟨rfl, rfl⟩
      go_wp2
      go_roundw
      case rel =>
        have e1 : (v 7 + hmx (v 4) + cho (v 4) (v 5) (v 6) + qk + wk) % 4294967296 = t1 v (pl qk wk) := by unfold t1 pl; omega
        refine ⟨k + 1, by omega, by go_num, ?_, ?_, ?_, ?_, ?_, ?_, ?_, ?_, fun i hi => KH.out i hi, RH.drewN _, RR.drewN _, RS.drewN _, bel_drewN B _⟩
        · rw [← hst.out, e1]; rfl
        · rw [← hst.out]; rfl
        · rw [← hst.out]; rfl
        · rw [← hst.out]; rfl
        · rw [← hst.out, e1]; rfl
        · rw [← hst.out]; rfl
        · rw [← hst.out]; rfl
        · rw [← hst.out]; rfl
      case measure => simp [intOf]; omega
    · obtain rfl : k = 64 := by omega
      have hbl : Hid (∀ j, (h j + rnd kk h (sch b 64) 64 j) % 4294967296 = blk kk h b j) := fun j => rfl
      clear K RS
      generalize rnd kk h (sch b 64) 64 = v at hbl ⊢
      have c0 := RH.cell 0 (by omega)
      have c1 := RH.cell 1 (by omega)
      have c2 := RH.cell 2 (by omega)
      have c3 := RH.cell 3 (by omega)
      have c4 := RH.cell 4 (by omega)
      have c5 := RH.cell 5 (by omega)
      have c6 := RH.cell 6 (by omega)
      have c7 := RH.cell 7 (by omega)
      have d0 := RR.cell 0 (by omega)
      have f0 := RR.free 0 (by omega)
      have d1 := RR.cell 1 (by omega)
      have f1 := RR.free 1 (by omega)
      have d2 := RR.cell 2 (by omega)
      have f2 := RR.free 2 (by omega)
      have d3 := RR.cell 3 (by omega)
      have f3 := RR.free 3 (by omega)
      have d4 := RR.cell 4 (by omega)
      have f4 := RR.free 4 (by omega)
      have d5 := RR.cell 5 (by omega)
      have f5 := RR.free 5 (by omega)
      have d6 := RR.cell 6 (by omega)
      have f6 := RR.free 6 (by omega)
      have d7 := RR.cell 7 (by omega)
      have f7 := RR.free 7 (by omega)
      go_wp2
      refine bodyPost_ret (results_arr Tryd.results41 _ _ rfl (row8 RR _ _ _ _ _ _ _ _) Tryd.underlying65 Tryd.sz65) rfl ⟨?_, bel8 B (by omega) _ _ _ _ _ _ _ _⟩
      rw [cs_congr .u32 8 (fun j hj => (vec8_of (fun j => (h j + v j) % 4294967296) j hj).trans (hbl.out j))]
#print axioms block_any
end Go.Proofs.YtojefckhefanhabDoor
/- What the reference's words, constants, step and Block answer. -/
namespace Go.Proofs.YtojefckhefanhabDoor
open Go.RowKit
/-- Word k while m of its bytes are in. -/
def prt (b : Nat → Int) (k : Nat) : Nat → Int
  | 0 => 0
  | m + 1 => prt b k m * 256 + b (4 * k + m)
theorem prt_w (b : Nat → Int) (hb : ∀ j, 0 ≤ b j ∧ b j < 256) (k : Nat) : 0 ≤ prt b k 3 ∧ prt b k 3 < 16777216 ∧ 0 ≤ prt b k 2 ∧ prt b k 2 < 65536 ∧ 0 ≤ prt b k 1 ∧ prt b k 1 < 256 := by
  have h0 := hb (4 * k + 0)
  have h1 := hb (4 * k + 1)
  have h2 := hb (4 * k + 2)
  simp only [prt]
  omega
theorem prt_bd (b : Nat → Int) (hb : ∀ j, 0 ≤ b j ∧ b j < 256) (k m : Nat) (h : m < 4) : 0 ≤ prt b k m ∧ prt b k m < 16777216 := by
  have := prt_w b hb k
  rcases (show m = 0 ∨ m = 1 ∨ m = 2 ∨ m = 3 from by omega) with rfl | rfl | rfl | rfl
  · exact ⟨by simp [prt], by simp [prt]⟩
  all_goals omega
theorem prt_word (b : Nat → Int) (k : Nat) : prt b k 4 = wd b k := by
  simp only [prt, wd, Nat.add_zero]
  omega

end Go.Proofs.YtojefckhefanhabDoor
/- What the reference's constants, step and Block answer. -/
namespace Go.Proofs.YtojefckhefanhabDoor
open Go.RowKit

theorem startT (w : World) (v : Nat → Int) (e1 e2 : TypeId) (A : Array Value) (hA : A = Array.replicate 8 (.int .u32 0)) :
    Row .u32 ((w.alloc (.cells (cs .u32 8 v) e1)).alloc (.cells A e2)) w.heap.size 8 v ∧ Row .u32 ((w.alloc (.cells (cs .u32 8 v) e1)).alloc (.cells A e2)) (w.heap.size + 1) 8 (fun _ => 0) ∧
    Below w.heap.size w ((w.alloc (.cells (cs .u32 8 v) e1)).alloc (.cells A e2)) := by
  have z1 : (w.alloc (.cells (cs .u32 8 v) e1)).heap.size = w.heap.size + 1 := World.size_alloc _ _
  have r1 : Row .u32 (w.alloc (.cells (cs .u32 8 v) e1)) w.heap.size 8 v := Row.box
  have b1 : Below w.heap.size w (w.alloc (.cells (cs .u32 8 v) e1)) := (Below.refl _ _).alloc (Nat.le_refl _) _
  generalize w.alloc (.cells (cs .u32 8 v) e1) = w1 at z1 r1 b1 ⊢
  have r3 : Row .u32 (w1.alloc (.cells A e2)) w1.heap.size 8 (fun _ => 0) := Row.rep hA
  rw [z1] at r3
  exact ⟨r1.alloc (by omega) _, r3, b1.alloc (by omega) _⟩

theorem step_vec (v : Nat → Int) (x : Int) (hv : ∀ j, W32 (v j)) (j : Nat) (hj : j < 8) :
    vec8 ((v 7 + xo (xo (rot (v 4) 6) (rot (v 4) 11)) (rot (v 4) 25) + bits .or .u32 (an (v 4) (v 5)) (an (no (v 4)) (v 6)) + x + (xo (xo (rot (v 0) 2) (rot (v 0) 13)) (rot (v 0) 22) + bits .or .u32 (bits .or .u32 (an (v 0) (v 1)) (an (v 0) (v 2))) (an (v 1) (v 2)))) % 4294967296)
      (v 0) (v 1) (v 2) ((v 3 + (v 7 + xo (xo (rot (v 4) 6) (rot (v 4) 11)) (rot (v 4) 25) + bits .or .u32 (an (v 4) (v 5)) (an (no (v 4)) (v 6)) + x)) % 4294967296) (v 4) (v 5) (v 6) j = stp v x j := by
  rw [or_choose _ _ _ (hv 4) (hv 5) (hv 6), or_most _ _ _ (hv 0) (hv 1) (hv 2), ← vec8_of (stp v x) j hj]
  have e0 : (v 7 + xo (xo (rot (v 4) 6) (rot (v 4) 11)) (rot (v 4) 25) + cho (v 4) (v 5) (v 6) + x + (xo (xo (rot (v 0) 2) (rot (v 0) 13)) (rot (v 0) 22) + maj (v 0) (v 1) (v 2))) % 4294967296 = stp v x 0 := by
    show _ = (t1 v x + t2 v) % 4294967296
    unfold t1 t2 hmx lmx
    omega
  have e4 : (v 3 + (v 7 + xo (xo (rot (v 4) 6) (rot (v 4) 11)) (rot (v 4) 25) + cho (v 4) (v 5) (v 6) + x)) % 4294967296 = stp v x 4 := by
    show _ = (v 3 + t1 v x) % 4294967296
    unfold t1 hmx
    omega
  rw [e0, e4]
  rfl

end Go.Proofs.YtojefckhefanhabDoor
/- What the reference's Block answers: as the program's. -/
namespace Go.Proofs.YtojefckhefanhabDoor
open Go.RowKit

theorem oth8 {k : IntKind} {w : World} {g n gv : Nat} {f : Nat → Int} (h : Row k w g n f) (hne : g ≠ gv) (x0 x1 x2 x3 x4 x5 x6 x7 : Value) :
    Row k ((((((((w.setCell ⟨gv, 0, none⟩ x0).setCell ⟨gv, 1, none⟩ x1).setCell ⟨gv, 2, none⟩ x2).setCell ⟨gv, 3, none⟩ x3).setCell ⟨gv, 4, none⟩ x4).setCell ⟨gv, 5, none⟩ x5).setCell ⟨gv, 6, none⟩ x6).setCell ⟨gv, 7, none⟩ x7) g n f :=
  (((((((h.other _ _ hne).other _ _ hne).other _ _ hne).other _ _ hne).other _ _ hne).other _ _ hne).other _ _ hne).other _ _ hne

end Go.Proofs.YtojefckhefanhabDoor
/- The program's padding: what sha.Pad answers for every n from 0 on. -/
namespace Go.Proofs.YtojefckhefanhabDoor
open Go.RowKit
theorem Tryd.infoS5 : (Tryd.prog.info? 5).map (fun i => (i.zero, i.size, i.bytes)) = some (some (.int .u8 0), 1, 1) := by kernel_rfl
/-- Byte j of the padding behind n bytes, z noughts in it, its last k bytes written. -/
def padFn (n : Int) (z k j : Nat) : Int := if j = 0 then 128 else if z + 9 - k ≤ j then (8 * n) % 18446744073709551616 / 2 ^ (8 * (z + 8 - j)) % 256 else 0
theorem padFn_step (n : Int) (z k j : Nat) (hk : k < 8) : (if j = z + 8 - k then 8 * n % 18446744073709551616 / 2 ^ (8 * k) % 256 else padFn n z k j) = padFn n z (k + 1) j := by
  unfold padFn
  by_cases e : j = z + 8 - k
  · subst e
    rw [if_pos rfl, if_neg (by omega), if_pos (by omega)]
    rw [show z + 8 - (z + 8 - k) = k from by omega]
  · rw [if_neg e]
    by_cases e0 : j = 0
    · rw [if_pos e0, if_pos e0]
    · rw [if_neg e0, if_neg e0]
      by_cases e1 : z + 9 - k ≤ j
      · rw [if_pos e1, if_pos (by omega)]
      · rw [if_neg e1, if_neg (by omega)]
set_option maxRecDepth 10000 in
set_option maxHeartbeats 400000 in
theorem pad_any (n : Int) (z : Nat) (w : World) (h0 : 0 ≤ n) (h1 : n ≤ 9223372036854775807) (hz : (z : Int) = (119 - n % 64) % 64) :
    Calls Tryd.prog 30 #[.int .i64 n] w fun e w' => e = .returned (.string (strFn (z + 9) (padFn n z 8))) ∧ Below w.heap.size w w' := by
  obtain ⟨i0, hi, hz0, hz1, hz2⟩ := info_parts Tryd.infoS5
  have hz' : z < 64 := by omega
  have HZ : Hid ((z : Int) = (119 - n % 64) % 64) := hz
  have e1 : (1 + (119 - n) % 64 + 8 : Int) = ((z + 9 : Nat) : Int) := by omega
  have E1 : Hid ((1 + (119 - n) % 64 + 8 : Int) = ((z + 9 : Nat) : Int)) := e1
  clear e1 hz
  go_enter Tryd.func30, Tryd.ntmps30
  go_wp2_with fail
  rw [E1.out]
  rw [run_make (P := Tryd.prog) w 38 5 i0 (.int .u8 0) Tryd.underlying38 hi hz0 .i64 .i64 _ _ (by omega) (by omega) (by rw [hz2]; omega) (by omega)]
  have R0 : Row .u8 (w.alloc (.cells (madeCells (Value.int .u8 0).cells ((((z + 9 : Nat) : Int)).toNat * i0.size)) 5)) w.heap.size (z + 9) (fun _ => 0) := Row.made (by rw [hz1]; omega)
  have B0 : Below w.heap.size w (w.alloc (.cells (madeCells (Value.int .u8 0).cells ((((z + 9 : Nat) : Int)).toNat * i0.size)) 5)) := (Below.refl _ _).alloc (Nat.le_refl _) _
  have S0 : w.heap.size < (w.alloc (.cells (madeCells (Value.int .u8 0).cells ((((z + 9 : Nat) : Int)).toNat * i0.size)) 5)).heap.size := by simp
  generalize w.alloc (.cells (madeCells (Value.int .u8 0).cells ((((z + 9 : Nat) : Int)).toNat * i0.size)) 5) = W1 at R0 B0 S0 ⊢
  rw [Int.toNat_natCast]
  have c0 := R0.cell 0 (by omega)
  have f0 := R0.free 0 (by omega)
  clear hi hz0 hz1 hz2
  go_wp2
  have B1 : Hid (IntKind.u64.wrap (8 * n) = (8 * n) % 18446744073709551616) := by unfold Hid; rw [IntKind.wrap_u64]
  go_loopw [22] (fun i wr => ∃ k : Nat, k ≤ 8 ∧ i = .int .i64 k ∧ Row .u8 wr w.heap.size (z + 9) (padFn n z k) ∧ Below w.heap.size w wr) (fun i _ => 8 - (intOf i).toNat)
  case atStart =>
    refine ⟨0, by omega, rfl, (R0.set 0 128 (by omega)).congr (fun j hj => ?_), B0.setCell (Nat.le_refl _) _⟩
    unfold padFn
    by_cases e : j = 0
    · simp [e]
    · simp [e]; omega
  case round =>
    obtain ⟨k, hk, rfl, R, B⟩ := hrel
    by_cases hlt : k < 8
    · have c1 := R.cell (z + 8 - k) (by omega)
      have f1 := R.free (z + 8 - k) (by omega)
      go_wp2
      go_roundw
      case rel =>
        refine ⟨k + 1, by omega, by go_num, (R.set (z + 8 - k) _ (by omega)).congr (fun j hj => ?_), B.setCell (Nat.le_refl _) _⟩
        rw [B1.out]
        exact padFn_step n z k j hlt
      case measure => simp [intOf]; omega
    · have c1 := run_string_row (P := Tryd.prog) (src := 38) (dst := 9) (c := z + 9) Tryd.underlying38 Tryd.underlying5 Tryd.underlying9 R
      obtain rfl : k = 8 := by omega
      go_wp2
      go_ret
      exact ⟨rfl, B⟩
#print axioms pad_any
end Go.Proofs.YtojefckhefanhabDoor
/- The document's padding: what the reference's Pad answers for every n from 0 on: the same string. -/
namespace Go.Proofs.YtojefckhefanhabDoor
open Go.RowKit
theorem padFn_low (n : Int) (z j : Nat) (h : j < z + 1) : padFn n z 0 j = padFn n z 8 j := by
  unfold padFn
  by_cases e : j = 0
  · rw [if_pos e, if_pos e]
  · rw [if_neg e, if_neg e, if_neg (by omega), if_neg (by omega)]

end Go.Proofs.YtojefckhefanhabDoor
/- The padding as a function of n. -/
namespace Go.Proofs.YtojefckhefanhabDoor
open Go.RowKit
set_option maxRecDepth 10000 in
set_option maxHeartbeats 400000 in
theorem pad_neg (n : Int) (w : World) (h0 : n < 0) : Calls Tryd.prog 30 #[.int .i64 n] w fun e w' => e = .returned (.string ⟨#[]⟩) ∧ Below w.heap.size w w' := by
  go_enter Tryd.func30, Tryd.ntmps30
  go_wp2
  go_ret
  exact ⟨rfl, Below.refl _ _⟩
/-- The padding as a function of n. -/
def padStr (n : Int) : ByteArray := if n < 0 then ⟨#[]⟩ else strFn (((119 - n % 64) % 64).toNat + 9) (padFn n ((119 - n % 64) % 64).toNat 8)
theorem pad_all (n : Int) (w : World) (h1 : n ≤ 9223372036854775807) : Calls Tryd.prog 30 #[.int .i64 n] w fun e w' => e = .returned (.string (padStr n)) ∧ Below w.heap.size w w' := by
  unfold padStr
  by_cases h : n < 0
  · rw [if_pos h]; exact pad_neg n w h
  · rw [if_neg h]; exact pad_any n _ w (by omega) h1 (by omega)

end Go.Proofs.YtojefckhefanhabDoor
/- The words with which a digest begins; the words behind a message's blocks; the digest's bytes. -/
namespace Go.Proofs.YtojefckhefanhabDoor
open Go.RowKit
def stl : List Int := [1779033703, 3144134277, 1013904242, 2773480762, 1359893119, 2600822924, 528734635, 1541459225]
def stw (i : Nat) : Int := stl.getD i 0
theorem stw_w (j : Nat) : W32 (stw j) := by
  by_cases h : j < 8
  · rcases (show j = 0 ∨ j = 1 ∨ j = 2 ∨ j = 3 ∨ j = 4 ∨ j = 5 ∨ j = 6 ∨ j = 7 from by omega) with rfl | rfl | rfl | rfl | rfl | rfl | rfl | rfl
    all_goals exact ⟨by decide, by decide⟩
  · have : stw j = 0 := by
      unfold stw stl
      rw [List.getD_eq_getElem?_getD, List.getElem?_eq_none (by simp; omega)]
      rfl
    rw [this]
    exact ⟨by decide, by decide⟩
/-- The words behind t blocks of the bytes m. -/
def hw (m : Nat → Int) : Nat → Nat → Int
  | 0 => stw
  | t + 1 => blk kk (hw m t) (fun j => m (64 * t + j))
theorem hw_w (m : Nat → Int) (t j : Nat) : W32 (hw m t j) := by
  cases t with
  | zero => exact stw_w j
  | succ t => exact blk_w _ _ _ _
/-- Byte i of the digest that eight words are. -/
def dg (h : Nat → Int) (i : Nat) : Int := h (i / 4) / 2 ^ (8 * (3 - i % 4)) % 256
/-- The first n of f, noughts behind. -/
def upF (f : Nat → Int) (n x : Nat) : Int := if x < n then f x else 0
theorem upF_set (f : Nat → Int) (n x : Nat) : (if x = n then f n else upF f n x) = upF f (n + 1) x := by
  unfold upF
  by_cases e : x = n
  · rw [if_pos e, if_pos (by omega), e]
  · rw [if_neg e]
    by_cases h : x < n
    · rw [if_pos h, if_pos (by omega)]
    · rw [if_neg h, if_neg (by omega)]
theorem upF_all (f : Nat → Int) (n x : Nat) (h : x < n) : upF f n x = f x := by unfold upF; rw [if_pos h]
theorem upF_zero (f : Nat → Int) (x : Nat) : upF f 0 x = 0 := by unfold upF; rw [if_neg (by omega)]

set_option maxRecDepth 100000 in
set_option maxHeartbeats 4000000 in
theorem startWords_any (w : World) : Calls Tryd.prog 27 #[] w fun e w' => e = .returned (.agg (cs .u32 8 stw)) ∧ Below w.heap.size w w' := by
  go_enter Tryd.func27, Tryd.ntmps27
  go_wp2_with (refine wpList_store_any (f := stw) (by rfl) 65 (.tmp 0) (.tmp 1) (by rfl) w.heap.size (by rfl) (by rfl) (Row.rep (n := 8) (z := 0) rfl) Tryd.sz65 (by rfl) ?_; intro W2 RS2 U2)
  exact bodyPost_ret (results_arr Tryd.results27 _ _ rfl RS2 Tryd.underlying65 Tryd.sz65) rfl ⟨rfl, U2.below ((Below.refl _ _).alloc (Nat.le_refl _) _) (Nat.le_refl _) (by rw [World.size_alloc]; omega)⟩

/-- The message with its padding. -/
def msg (s : ByteArray) : ByteArray := s ++ padStr s.size
theorem padStr_size (n : Nat) : (padStr n).size = ((119 - (n : Int) % 64) % 64).toNat + 9 := by
  unfold padStr
  rw [if_neg (by omega), strFn_size]
/-- How many blocks the message has. -/
def nb (s : ByteArray) : Nat := (s.size + 72) / 64
theorem msg_size (s : ByteArray) : (msg s).size = 64 * nb s := by
  unfold msg nb
  rw [ByteArray.size_append, padStr_size]
  omega
#print axioms startWords_any
#print axioms msg_size
end Go.Proofs.YtojefckhefanhabDoor
/- What sha.digestOf answers. -/
namespace Go.Proofs.YtojefckhefanhabDoor
open Go.RowKit
theorem Tryd.sz24 : (Tryd.prog.info? 24).map (·.size) = some 32 := by kernel_rfl
theorem Tryd.und24 : Tryd.prog.underlying 24 = some (.array 32 5) := by kernel_rfl
theorem run_part_cs' {P : Program} (w : World) (e : TypeId) (k k' : IntKind) (n : Nat) (f : Nat → Int) (he : P.underlying e = some (.int k')) (j : Nat) (hj : j < n) : (part e (cs k n f) j).run P w = .ok (.int k (f j)) w := by
  simp [part, isAgg, run_underlying he, cs_get k n f j hj]

theorem run_index_cs {P : Program} (w : World) (t e : TypeId) (k k' : IntKind) (n : Nat) (f : Nat → Int) {i : TypeInfo} (hu : P.underlying t = some (.array n e)) (he : P.underlying e = some (.int k')) (hi : P.info? e = some i) (h1 : i.size = 1) (j : Nat) (hj : j < n) :
    (Instr.index t (.agg (cs k n f)) (.int .i64 j)).run P w = .ok (.int k (f j)) w := by
  simp [Instr.index, asIntOf, run_underlying hu, sizeOf, typeInfo, hi, h1, run_part_cs' w e k k' n f he j hj]
  omega
theorem dg_step (h : Nat → Int) (k : Nat) (h0 : 0 ≤ h k) (h1 : h k < 4294967296) (x : Nat) :
    (if x = 4 * k + 3 then h k % 256 else if x = 4 * k + 2 then h k / 256 % 256 else if x = 4 * k + 1 then h k / 65536 % 256 else if x = 4 * k then h k / 16777216 else upF (dg h) (4 * k) x) = upF (dg h) (4 * (k + 1)) x := by
  have e0 : dg h (4 * k) = h k / 16777216 := by
    unfold dg
    rw [show 4 * k / 4 = k from by omega, show 4 * k % 4 = 0 from by omega]
    show h k / 16777216 % 256 = _
    omega
  have e1 : dg h (4 * k + 1) = h k / 65536 % 256 := by
    unfold dg
    rw [show (4 * k + 1) / 4 = k from by omega, show (4 * k + 1) % 4 = 1 from by omega]
    rfl
  have e2 : dg h (4 * k + 2) = h k / 256 % 256 := by
    unfold dg
    rw [show (4 * k + 2) / 4 = k from by omega, show (4 * k + 2) % 4 = 2 from by omega]
    rfl
  have e3 : dg h (4 * k + 3) = h k % 256 := by
    unfold dg
    rw [show (4 * k + 3) / 4 = k from by omega, show (4 * k + 3) % 4 = 3 from by omega]
    show h k / 1 % 256 = _
    rw [Int.ediv_one]
  rw [← e0, ← e1, ← e2, ← e3, upF_set, upF_set, upF_set, upF_set]
  rfl

set_option maxRecDepth 100000 in
set_option maxHeartbeats 4000000 in
theorem digestOf_any (h : Nat → Int) (w : World) (hh : ∀ j, W32 (h j)) :
    Calls Tryd.prog 31 #[.agg (cs .u32 8 h)] w fun e w' => e = .returned (.agg (cs .u8 32 (dg h))) ∧ Below w.heap.size w w' := by
  have HW : Hid (∀ j, W32 (h j)) := hh
  clear hh
  obtain ⟨i27, hi27, hs27⟩ : ∃ i, Tryd.prog.info? 64 = some i ∧ i.size = 1 := by
    have h : (Tryd.prog.info? 64).map (·.size) = some 1 := by kernel_rfl
    obtain ⟨i, h1, h2⟩ := Option.map_eq_some_iff.1 h
    exact ⟨i, h1, h2⟩
  go_enter Tryd.func31, Tryd.ntmps31
  go_wp2_with (refine wpList_load_arr (by rfl) 65 (.tmp 1) (by rfl) w.heap.size (by rfl) (((Row.box (e := 65)).alloc (by rw [World.size_alloc]; omega) _).alloc (by rw [World.size_alloc, World.size_alloc]; omega) _) Tryd.underlying65 Tryd.sz65 ?_)
  go_loopw [7] (fun i wr => ∃ k : Nat, k ≤ 8 ∧ i = .int .i64 k ∧ Row .u8 wr (w.heap.size + 1 + 1) 32 (upF (dg h) (4 * k)) ∧ Row .u8 wr (w.heap.size + 1) 32 (fun _ => 0) ∧ Below w.heap.size w wr ∧ w.heap.size + 1 + 1 < wr.heap.size) (fun i _ => 8 - (intOf i).toNat)
  case atStart =>
    refine ⟨0, Nat.zero_le _, rfl, ?_, ?_, ?_, ?_⟩
    · have r : Row .u8 (((w.alloc (.cells (cs .u32 8 h) 65)).alloc (.cells (Array.replicate 32 (.int .u8 0)) 24)).alloc (.cells (Array.replicate 32 (.int .u8 0)) 24)) ((w.alloc (.cells (cs .u32 8 h) 65)).alloc (.cells (Array.replicate 32 (.int .u8 0)) 24)).heap.size 32 (fun _ => 0) := Row.rep rfl
      rw [World.size_alloc, World.size_alloc] at r
      exact r.congr (fun x _ => (upF_zero _ x).symm)
    · have r : Row .u8 ((w.alloc (.cells (cs .u32 8 h) 65)).alloc (.cells (Array.replicate 32 (.int .u8 0)) 24)) (w.alloc (.cells (cs .u32 8 h) 65)).heap.size 32 (fun _ => 0) := Row.rep rfl
      rw [World.size_alloc] at r
      exact r.alloc (by rw [World.size_alloc, World.size_alloc]; omega) _
    · exact (((Below.refl _ _).alloc (Nat.le_refl _) _).alloc (by rw [World.size_alloc]; omega) _).alloc (by rw [World.size_alloc, World.size_alloc]; omega) _
    · rw [World.size_alloc, World.size_alloc, World.size_alloc]; omega
  case round =>
    obtain ⟨k, hk, rfl, RD, R, B, z⟩ := hrel
    by_cases hlt : k < 8
    · have hcs := run_index_cs (P := Tryd.prog) wr 65 64 .u32 .u32 8 h Tryd.underlying65 Tryd.underlying64 hi27 hs27 k hlt
      have hx0 := (HW.out k).1
      have hx1 := (HW.out k).2
      have c0 := RD.cell (4 * k) (by omega)
      have f0 := RD.free (4 * k) (by omega)
      have c1 := RD.cell (4 * k + 1) (by omega)
      have f1 := RD.free (4 * k + 1) (by omega)
      have c2 := RD.cell (4 * k + 2) (by omega)
      have f2 := RD.free (4 * k + 2) (by omega)
      have c3 := RD.cell (4 * k + 3) (by omega)
      have f3 := RD.free (4 * k + 3) (by omega)
      go_wp2
      go_roundw
      case rel =>
        refine ⟨k + 1, by omega, by go_num, ((((RD.set (4 * k) _ (by omega)).set (4 * k + 1) _ (by omega)).set (4 * k + 2) _ (by omega)).set (4 * k + 3) _ (by omega)).congr (fun x _ => dg_step h k hx0 hx1 x),
          (((R.other _ _ (by simp)).other _ _ (by simp)).other _ _ (by simp)).other _ _ (by simp), (((B.setCell (by simp; omega) _).setCell (by simp; omega) _).setCell (by simp; omega) _).setCell (by simp; omega) _, by simp only [World.size_setCell]; exact z⟩
      case measure => simp [intOf]; omega
    · obtain rfl : k = 8 := by omega
      have RD' : Row .u8 wr (w.heap.size + 1 + 1) 32 (dg h) := RD.congr (fun x hx => upF_all _ (4 * 8) x (by omega))
      clear RD
      go_wp2_with (first | refine wpList_load_arr (by rfl) 24 (.tmp 3) (by rfl) (w.heap.size + 1 + 1) (by rfl) RD' Tryd.und24 Tryd.sz24 ?_ | (refine wpList_store_any (by rfl) 24 (.tmp 2) (.tmp 38) (by rfl) (w.heap.size + 1) (by rfl) (by rfl) R Tryd.sz24 (by rfl) ?_; intro W7 R7 U7))
      exact bodyPost_ret (results_arr Tryd.results31 _ _ rfl R7 Tryd.und24 Tryd.sz24) rfl ⟨rfl, U7.below B (by omega) (by omega)⟩
#print axioms digestOf_any
end Go.Proofs.YtojefckhefanhabDoor
/- A digest's State in memory; what sha.New answers. -/
namespace Go.Proofs.YtojefckhefanhabDoor
open Go.RowKit
/-- Block g is a State: n bytes written, the words h, the block f. -/
structure Stt (w : World) (g : Nat) (n : Int) (h f : Nat → Int) : Prop where
  c0 : w.cell? ⟨g, 0, none⟩ = some (.int .i64 n)
  cw : ∀ j, j < 8 → w.cell? ⟨g, 1 + j, none⟩ = some (.int .u32 (h j))
  cb : ∀ j, j < 64 → w.cell? ⟨g, 9 + j, none⟩ = some (.int .u8 (f j))
  fr : ∀ j, j < 73 → w.frozen? ⟨g, j, none⟩ = false

/-- A State of noughts. -/
def zst : Array Value := (Value.int .i64 0 :: (List.replicate 8 (Value.int .u32 0) ++ List.replicate 64 (Value.int .u8 0))).toArray
/-- A State with nothing written, the words h. -/
def hst (h : Nat → Int) : Array Value := (Value.int .i64 0 :: ((List.range 8).map (fun i => Value.int .u32 (h i)) ++ List.replicate 64 (Value.int .u8 0))).toArray
theorem zst_size : zst.size = 73 := by simp [zst]
theorem hst_fold (h : Nat → Int) : Array.foldl (fun cs x => cs.setIfInBounds (1 + x.snd) x.fst) zst (cs .u32 8 h).zipIdx 0 8 = hst h := by kernel_rfl
theorem Tryd.zero71 : (Tryd.prog.info? 71).map (fun i => i.zero) = some (some (.agg zst)) := by kernel_rfl
theorem run_zero_st (w : World) : (zeroValue 71).run Tryd.prog w = .ok (.agg zst) w := by
  obtain ⟨i, hi, hz⟩ := Option.map_eq_some_iff.1 Tryd.zero71
  simp [zeroValue, typeInfo, hi, hz]
theorem Stt.made (w : World) (e : TypeId) (h : Nat → Int) : Stt (w.alloc (.cells (hst h) e)) w.heap.size 0 h (fun _ => 0) := by
  refine ⟨by rw [World.cell?_alloc_new]; simp [hst], fun j hj => ?_, fun j hj => ?_, fun j _ => World.frozen?_alloc_new w _ _ _⟩
  · rw [World.cell?_alloc_new, hst, List.getElem?_toArray, Nat.add_comm 1 j, List.getElem?_cons_succ, List.getElem?_append_left (by simp; omega)]
    simp [hj]
  · rw [World.cell?_alloc_new, hst, List.getElem?_toArray, show 9 + j = (8 + j) + 1 from by omega, List.getElem?_cons_succ, List.getElem?_append_right (by simp), List.length_map, List.length_range, show 8 + j - 8 = j from by omega, List.getElem?_replicate, if_pos hj]

set_option maxRecDepth 100000 in
set_option maxHeartbeats 4000000 in
theorem new_any (w : World) : Calls Tryd.prog 11 #[] w fun e w' => ∃ g, e = .returned (.pointer (some ⟨g, 0, none⟩)) ∧ w.heap.size ≤ g ∧ g < w'.heap.size ∧ Stt w' g 0 stw (fun _ => 0) ∧ Below w.heap.size w w' := by
  have q1 := run_zero_st
  have q2 := zst_size
  have q3 := hst_fold stw
  have q4 := cs_size .u32 8 stw
  go_enter Tryd.func11, Tryd.ntmps11
  go_wp2_with fail
  refine (startWords_any _).mono ?_
  rintro e w1 ⟨rfl, b1⟩
  go_wp2
  go_ret
  exact ⟨_, rfl, b1.size, by rw [World.size_alloc]; omega, Stt.made _ _ _, b1.alloc b1.size _⟩
#print axioms new_any
end Go.Proofs.YtojefckhefanhabDoor
