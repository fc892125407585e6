/- scan's awake, walked (own text of the verifier). -/
import Derived.Test.YtojefckhefanhabScZ
import Derived.Test.YtojefckhefanhabSaB
import Derived.Lib.UnsafeStr
namespace Go.Proofs.Ytojefckhefanhab
open Go.RowKit Go.Sort
namespace Sc

theorem Tx.rt {w : World} {B : Nat} {v : Value} {L : List (List UInt8)} (h : Tx w B v L) : RT w w.heap.size v L := by
  obtain ⟨x, c, e, h⟩ := h
  refine ⟨x, c, e, fun i t ht => ?_⟩
  obtain ⟨b, e1, e2, e3⟩ := h i t ht
  exact ⟨b, 0, e1, World.block_lt_of_cell? _ _ e3, by rw [Nat.zero_add]; exact e3⟩
theorem conv_mark (W : World) (b n c k : Nat) (t : TypeId) (h : W.shape? b = some (t, k)) : (convert 31 31 (.slice (some ⟨b, 0, none⟩) n c)).run Try.prog W = .ok (.slice (some ⟨b, 0, none⟩) n c) (W.freeze ⟨b, k, none⟩ 1) := by
  simp [convert, run_underlying und30, run_underlying Try.underlying5, Result.andThen, markStringish, h]
theorem cell_freeze (W : World) (p a : Addr) (n : Nat) : (W.freeze p n).cell? a = W.cell? a := by
  unfold World.freeze
  split
  · rfl
  · unfold World.cell?
    simp only [Array.getElem?_modify]
    by_cases e : p.block = a.block
    · rw [if_pos e]
      cases h : W.heap[a.block]? with
      | none => rfl
      | some o => cases o <;> rfl
    · rw [if_neg e]
theorem GF.start {H S : List (List UInt8)} (hS : ∀ h, h ∈ S ↔ h ∈ H) : GF H [] [] S [] :=
  ⟨Nat.le_refl _, rfl, Base.nil _, ⟨List.nodup_nil, fun h => by simp [occB], fun h => by rw [hS]; simp [occB]⟩, Nat.le_refl _⟩
def one_ : ByteArray := ⟨#[48, 49, 50, 51, 52, 53, 54, 55, 56, 57, 97, 98, 99, 100, 102, 103, 104, 105, 106, 107, 108, 109, 110, 112, 113, 114, 115, 118, 119, 120, 121, 122]⟩
def two_ : ByteArray := ⟨#[49, 49, 49, 49, 49, 49, 49, 49, 49, 49, 49, 49, 49, 49, 49, 49, 49, 49, 49, 49, 49, 49, 49, 49, 49, 49, 49, 49, 49, 49, 49, 49]⟩
def xoy : ByteArray := ⟨#[120, 48, 49, 50, 51, 52, 53, 54, 55, 56, 57, 97, 98, 99, 100, 102, 103, 104, 105, 106, 107, 108, 109, 110, 112, 113, 114, 115, 118, 119, 120, 121, 122, 121]⟩
def xty : ByteArray := ⟨#[120, 49, 49, 49, 49, 49, 49, 49, 49, 49, 49, 49, 49, 49, 49, 49, 49, 49, 49, 49, 49, 49, 49, 49, 49, 49, 49, 49, 49, 49, 49, 49, 49, 121]⟩
theorem h_one : hsh one_ = 0 := by decide +kernel
theorem h_two : hsh two_ = 0 := by decide +kernel
theorem rw_xoy : ba (rw' one_.data.toList two_.data.toList xoy.data.toList) = xty := by decide +kernel
theorem pl_xoy : pl one_.data.toList 0 xoy.data.toList = [1] := by decide +kernel
theorem win_xoy : ∀ p, p < 3 → win xoy.data.toList p ≠ two_.data.toList := by decide +kernel
theorem win_xoy1 : win xoy.data.toList 1 = one_.data.toList := by decide +kernel
theorem ne_ot : one_.data.toList ≠ two_.data.toList := by decide +kernel
/-- What stands in the text of awake. -/
theorem fs_xoy {H F : List (List UInt8)} (hH : ∀ h, h ∈ H ↔ h = two_.data.toList ∨ h = one_.data.toList) (nd : F.Nodup) (mem : ∀ h, h ∈ F ↔ h ∈ H ∧ occ h xoy.data.toList) : F = [one_.data.toList] := by
  have h1 : ∀ h, h ∈ F ↔ h = one_.data.toList := fun h => by
    rw [mem, hH]
    constructor
    · rintro ⟨rfl | rfl, p, hp⟩
      · have hl := win_full (l := xoy.data.toList) (p := p) (by rw [hp]; rfl)
        have : xoy.data.toList.length = 34 := by rfl
        exact absurd hp (win_xoy p (by omega))
      · rfl
    · rintro rfl
      exact ⟨.inr rfl, 1, win_xoy1⟩
  match F, nd, h1 with
  | [], _, h1 => exact absurd ((h1 _).2 rfl) (by simp)
  | [a], _, h1 => rw [(h1 a).1 (by simp)]
  | a :: b :: l, nd, h1 =>
    have ha := (h1 a).1 (by simp)
    have hb := (h1 b).1 (by simp)
    rw [ha, hb] at nd
    simp at nd

set_option maxRecDepth 100000 in
set_option maxHeartbeats 8000000 in
theorem awake_any (w : World) : Calls Try.prog 4 #[] w fun e w' => e = .returned (.bool true) ∧ Below w.heap.size w w' := by
  go_enter Try.func4, Try.ntmps4
  go_wp2_with fail
  have hb := heap_alloc_new w (.cells #[.string two_, .string one_] 9)
  have B1 : Hid (RowKit.Below w.heap.size w (w.alloc (.cells #[.string two_, .string one_] 9))) := (RowKit.Below.refl _ _).alloc (Nat.le_refl _) _
  have hz : (w.alloc (.cells #[.string two_, .string one_] 9)).heap.size = w.heap.size + 1 := World.size_alloc _ _
  have CN : Calls Try.prog 5 #[.slice (some ⟨w.heap.size, 0, none⟩) 2 2] (w.alloc (.cells #[.string two_, .string one_] 9)) _ := snew_any [two_, one_] (some ⟨w.heap.size, 0, none⟩) 2 _ (by simp) (fun j s hj => ⟨_, rfl, by rw [hz]; exact Nat.lt_succ_self _, by
    rw [Addr.add_lit, Nat.zero_add, Lib.cell_of_heap hb]
    match j, hj with
    | 0, hj => simp at hj; subst hj; rfl
    | 1, hj => simp at hj; subst hj; rfl⟩)
  clear hb hz
  refine (show Calls Try.prog 5 #[.slice (some ⟨w.heap.size, 0, none⟩) 2 2] (w.alloc (.cells #[.string two_, .string one_] 9)) _ from CN.mono ?_)
  rintro e w1 ⟨b1, ⟨⟨s, hs, hbad⟩, rfl⟩ | ⟨_, g, m, S, hg, hm, rfl, SM1, hS⟩⟩
  · exfalso
    rcases List.mem_cons.1 hs with rfl | hs
    · exact hbad h_two
    · rw [List.mem_singleton] at hs
      subst hs
      exact hbad h_one
  clear CN
  have HS1 : Hid _ := SM1
  have HM1 : Hid _ := hS
  have HB1 : Hid (RowKit.Below w.heap.size w w1) := B1.out.trans (b1.mono B1.out.size)
  have HG1 : Hid (w.heap.size ≤ g) := Nat.le_trans B1.out.size hg
  have HM2 : Hid (w.heap.size ≤ m) := Nat.le_trans B1.out.size hm
  clear SM1 hS b1 hg hm B1
  have hcs : ∀ C : Array Value, (convert 31 31 (.slice (some ⟨w1.heap.size, 0, none⟩) 34 34)).run Try.prog (w1.alloc (.cells C 5)) = .ok (.slice (some ⟨w1.heap.size, 0, none⟩) 34 34) ((w1.alloc (.cells C 5)).freeze ⟨w1.heap.size, C.size, none⟩ 1) := fun C => conv_mark _ _ _ _ _ 5 (by unfold World.shape?; rw [heap_alloc_new])
  have TX : Hid (Txt ((w1.alloc (.cells (bv xoy.data.toList).toArray 5)).freeze ⟨w1.heap.size, 34, none⟩ 1) (.slice (some ⟨w1.heap.size, 0, none⟩) 34 34) xoy.data.toList) := by
    have := txt_new w1 5 xoy.data.toList #[] 34 (by decide +kernel)
    rw [Array.append_empty] at this
    obtain ⟨x, c, e, hc, hl⟩ := this
    exact ⟨x, c, e, fun i b hb => by obtain ⟨a, o, e1, e2⟩ := hc i b hb; exact ⟨a, o, e1, (cell_freeze _ _ _ _).trans e2⟩, hl⟩
  have b2 : RowKit.Below w1.heap.size w1 ((w1.alloc (.cells (bv xoy.data.toList).toArray 5)).freeze ⟨w1.heap.size, 34, none⟩ 1) := Lib.below_freeze ((RowKit.Below.refl _ _).alloc (Nat.le_refl _) _) (Nat.le_refl _) 1
  have HS2 : Hid _ := HS1.out.below b2
  have HB2 : Hid (RowKit.Below w.heap.size w ((w1.alloc (.cells (bv xoy.data.toList).toArray 5)).freeze ⟨w1.heap.size, 34, none⟩ 1)) := HB1.out.trans (b2.mono HB1.out.size)
  have hgl := HS1.out.lt
  have CF := sfeed_any g m 2 [two_.data.toList, one_.data.toList] [] [] xoy.data.toList S [] (.slice none 0 0) (.slice (some ⟨w1.heap.size, 0, none⟩) 34 34) ((w1.alloc (.cells (bv xoy.data.toList).toArray 5)).freeze ⟨w1.heap.size, 34, none⟩ 1) HS2.out (GF.start (fun h => by rw [HM1.out h]; simp [eq_comm])) (fun h hh => by
      rcases List.mem_cons.1 hh with rfl | hh
      · exact isH_of h_two
      · rw [List.mem_singleton] at hh; subst hh; exact isH_of h_one) TX.out (fun x l c e => by injection e with e _ _; injection e with e; subst e; show w1.heap.size ≠ g; omega) (by decide +kernel)
  clear b2 hgl
  go_wp2_with fail
  refine (show Calls Try.prog 7 #[.pointer (some ⟨g, 0, none⟩), .slice (some ⟨w1.heap.size, 0, none⟩) 34 34] ((w1.alloc (.cells (bv xoy.data.toList).toArray 5)).freeze ⟨w1.heap.size, 34, none⟩ 1) _ from CF.mono ?_)
  rintro e w3 ⟨kept', S', F', fv', rfl, S3, G3, K3, p3⟩
  have HF : Hid (F' = [one_.data.toList]) := fs_xoy (H := [two_.data.toList, one_.data.toList]) (fun h => by simp) G3.fb.nd (fun h => (G3.fb.mem h).trans (and_congr_right fun hh => (G3.base.occ (by
    rcases List.mem_cons.1 hh with rfl | hh
    · exact isH_of h_two
    · rw [List.mem_singleton] at hh; subst hh; exact isH_of h_one)).symm))
  have HS3 : Hid _ := S3
  have HB3 : Hid (RowKit.Below w.heap.size w w3) := ⟨K3.os.trans HB2.out.os, K3.tape.trans HB2.out.tape, K3.output.trans HB2.out.output, Nat.le_trans HB2.out.size K3.size, fun k hk => (K3.block k (Nat.lt_of_lt_of_le hk HB2.out.size) (by have := HG1.out; omega) (by have := HM2.out; omega) (by simp [Value.ownBlock])).trans (HB2.out.block k hk)⟩
  clear S3 G3 K3 p3 CF hcs TX HS2 HB2
  have CN := sfound_any g _ kept' m 2 S' F' fv' w3 HS3.out (by rw [HF.out]; decide)
  clear HS3
  go_wp2_with fail
  with_reducible refine CN.mono ?_
  rintro e w4 ⟨v, rfl, tx, b4⟩
  rw [HF.out] at tx
  clear CN HF
  have hs1 : srt [one_.data.toList] = [one_.data.toList] := by unfold srt; simp
  rw [hs1] at tx
  obtain ⟨xf, cf, rfl, hxf⟩ := tx
  obtain ⟨bf, rfl, -, cellF⟩ := hxf 0 one_.data.toList rfl
  rw [ba_list] at cellF
  clear hxf hs1
  have HB4 : Hid (RowKit.Below w.heap.size w w4) := HB3.out.trans (b4.mono HB3.out.size)
  have HCF : Hid (w4.cell? ⟨bf, 0, none⟩ = some (.string one_)) := cellF
  clear cellF b4 HB3
  rw [show [one_.data.toList].length = 1 from rfl]
  have CR := rewrite_any xoy one_ two_ w4 (by decide)
  rw [rw_xoy, pl_xoy] at CR
  go_wp2_with fail
  refine (show Calls Try.prog 10 #[.string xoy, .string one_, .string two_] w4 _ from CR.mono ?_)
  rintro e w5 ⟨b5, ⟨h, -⟩ | ⟨-, h, -⟩ | ⟨-, -, v, own5, rfl⟩⟩
  · exact absurd h_one h
  · exact absurd h_two h
  have HB5 : Hid (RowKit.Below w.heap.size w w5) := HB4.out.trans (b5.mono HB4.out.size)
  have HCG : w5.cell? ⟨bf, 0, none⟩ = some (.string one_) := (b5.cell (p := ⟨bf, 0, none⟩) (World.block_lt_of_cell? _ _ HCF.out)).trans HCF.out
  clear CR b5 HB4 HCF
  obtain ⟨xq, cq, eq, hq⟩ := ri_own (L := [1]) own5
  rw [show ([1] : List Nat).length = 1 from rfl] at eq
  subst eq
  obtain ⟨bq, oq, rfl, -, cellQ⟩ := hq 0 1 rfl
  clear hq own5
  rw [Nat.add_zero] at cellQ
  have e1 : one_.toList = [48, 49, 50, 51, 52, 53, 54, 55, 56, 57, 97, 98, 99, 100, 102, 103, 104, 105, 106, 107, 108, 109, 110, 112, 113, 114, 115, 118, 119, 120, 121, 122] := by rw [ByteArray.toList_eq]; rfl
  have e2 : xty.toList = [120, 49, 49, 49, 49, 49, 49, 49, 49, 49, 49, 49, 49, 49, 49, 49, 49, 49, 49, 49, 49, 49, 49, 49, 49, 49, 49, 49, 49, 49, 49, 49, 49, 121] := by rw [ByteArray.toList_eq]; rfl
  go_wp2_with fail
  go_ret
  exact ⟨rfl, HB5.out⟩

end Sc
end Go.Proofs.Ytojefckhefanhab
