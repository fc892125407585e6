/- strings.Index and strings.Cut at one byte; shell.textOf, walked (own text of the verifier). -/
import Derived.Test.YthodlcmmagjboaaDoorSwA
import Derived.Lib.IndexLaws
namespace Go.Proofs.YthodlcmmagjboaaDoor
open Go.RowKit

theorem idx_cut (l : List UInt8) (c : UInt8) : (Lib.indexByte l c = -1 ∧ c ∉ l) ∨ ∃ a b, l = a ++ c :: b ∧ c ∉ a ∧ Lib.indexByte l c = (a.length : Int) := by
  induction l with
  | nil => exact Or.inl ⟨rfl, by simp⟩
  | cons x l ih =>
    unfold Lib.indexByte
    by_cases e : x = c
    · right
      exact ⟨[], l, by rw [e]; rfl, by simp, by rw [if_pos (by simpa using e)]; rfl⟩
    · rw [if_neg (by simpa using e)]
      rcases ih with ⟨h1, h2⟩ | ⟨a, b, h1, h2, h3⟩
      · left
        rw [if_pos (by simpa using h1)]
        exact ⟨rfl, by rw [List.mem_cons]; rintro (h | h); exact e h.symm; exact h2 h⟩
      · right
        refine ⟨x :: a, b, by rw [h1]; rfl, by rw [List.mem_cons]; rintro (h | h); exact e h.symm; exact h2 h, ?_⟩
        rw [if_neg (by rw [h3]; simp <;> omega), h3, List.length_cons]
        omega

set_option maxHeartbeats 400000 in
theorem sib_any (s : ByteArray) (c : Int) (w : World) :
    Calls Tryd.prog 34 #[.string s, .int .u8 c] w fun e w' => e = .returned (.int .i64 (Lib.indexByte s.data.toList c.toNat.toUInt8)) ∧ w' = w := by
  have h : ∀ w, (callFunc 39 #[.string s, .int .u8 c]).run Tryd.prog w = .ok (.value (.int .i64 (Lib.indexByte s.data.toList c.toNat.toUInt8))) w := fun w => by
    rw [run_callFunc_extern Tryd.func39 (by kernel_rfl) (by kernel_rfl) (by kernel_rfl) (e := Extern.BytealgIndexByte.indexByte) (by kernel_rfl), Lib.run_indexByteString]
    rfl
  go_enter Tryd.func34, Tryd.ntmps34
  go_wp2
  go_ret
  exact ⟨rfl, rfl⟩

theorem ba_data (l : List UInt8) : (ba l).data.toList = l := rfl
set_option maxHeartbeats 1000000 in
set_option maxRecDepth 100000 in
theorem sidx_any (l : List UInt8) (q : ByteArray) (c : UInt8) (w : World) (hq : q.size = 1) (hc : bt q 0 = (c.toNat : Int)) (hqq : q = ba [c]) :
    Calls Tryd.prog 33 #[.string (ba l), .string q] w fun e w' => e = .returned (.int .i64 (Lib.indexByte l c)) ∧ w' = w := by
  have hb := get_bt q
  have HC : Hid (bt q 0 = (c.toNat : Int)) := hc
  have HI := fun W => sib_any (ba l) (c.toNat : Int) W
  rw [ba_data, show (c.toNat : Int).toNat.toUInt8 = c by simp] at HI
  cases he : (q.toList == (ba l).toList)
  · generalize Lib.indexByte l c = r at HI
    clear hqq
    go_enter Tryd.func33, Tryd.ntmps33
    go_wp2_with fail
    refine (HI _).mono ?_
    rintro e w1 ⟨rfl, rfl⟩
    go_wp2
    try rw [Exit.noGoto_ret]
    go_ret
    exact ⟨rfl, rfl⟩
  · have e1 : l = [c] := by
      have := eq_of_beq he
      rw [hqq, ba_toList, ba_toList] at this
      exact this.symm
    have hI : Hid (Lib.indexByte l c = 0) := by
      unfold Hid
      rw [e1]
      simp [Lib.indexByte]
    clear e1 hqq HI
    go_enter Tryd.func33, Tryd.ntmps33
    go_wp2
    try rw [Exit.noGoto_ret]
    go_ret
    exact ⟨by rw [hI.out]; try rfl, rfl⟩

theorem ba_ext (l : List UInt8) (i j : Nat) : (ba l).extract i j = ba ((l.drop i).take (j - i)) := by
  apply ByteArray.ext
  rw [ByteArray.data_extract]
  apply Array.toList_inj.1
  rw [Array.toList_extract]
  show (l.toArray).toList.extract i j = _
  rw [List.extract_eq_take_drop]
  rfl
theorem ba_head (a b : List UInt8) : (ba (a ++ b)).extract 0 a.length = ba a := by
  rw [ba_ext]
  congr 1
  simp
theorem ba_tail (a b : List UInt8) (c : UInt8) (n : Nat) (hn : n = (a ++ c :: b).length) : (ba (a ++ c :: b)).extract (a.length + 1) n = ba b := by
  rw [ba_ext]
  congr 1
  subst hn
  rw [← List.drop_drop, List.drop_left]
  simp only [List.drop_succ_cons, List.drop_zero, List.length_append, List.length_cons]
  exact List.take_of_length_le (by omega)
/-- What Cut at the byte c answers. -/
def Ct (c : UInt8) (l a b : List UInt8) (f : Bool) : Prop := (f = true ∧ l = a ++ c :: b ∧ c ∉ a) ∨ (f = false ∧ a = l ∧ b = [] ∧ c ∉ l)

set_option maxHeartbeats 1000000 in
theorem scut_any (l : List UInt8) (q : ByteArray) (c : UInt8) (w : World) (hq : q.size = 1) (hc : bt q 0 = (c.toNat : Int)) (hqq : q = ba [c]) (hs : l.length ≤ 140737488351232) :
    Calls Tryd.prog 28 #[.string (ba l), .string q] w fun e w' => (∃ a b f, e = .returned (.tuple #[.string (ba a), .string (ba b), .bool f]) ∧ Ct c l a b f) ∧ Below w.heap.size w w' := by
  have C := sidx_any l q c w hq hc hqq
  have hsz := ba_size l
  rcases idx_cut l c with ⟨h1, h2⟩ | ⟨a, b, h1, h2, h3⟩
  · rw [h1] at C
    clear hc hqq h1
    go_enter Tryd.func28, Tryd.ntmps28
    go_wp2_with fail
    refine C.mono ?_
    rintro e w1 ⟨rfl, rfl⟩
    go_wp2
    go_ret3
    exact ⟨⟨l, [], false, rfl, Or.inr ⟨rfl, rfl, rfl, h2⟩⟩, Below.refl _ _⟩
  · rw [h3] at C
    have E1 : (ba l).extract 0 a.length = ba a := by rw [h1]; exact ba_head a _
    have E2 : (ba l).extract (a.length + 1) l.length = ba b := by rw [h1]; exact ba_tail a b c _ rfl
    have HL : Hid (l = a ++ c :: b) := h1
    have hm : a.length + 1 ≤ l.length := by rw [h1, List.length_append, List.length_cons]; omega
    clear hc h1 h3 hqq
    generalize a.length = m at C E1 E2 hm
    have k1 : m ≤ (ba l).size := by omega
    have k2 : m + 1 ≤ (ba l).size := by omega
    have k3 : (m : Int) + 1 ≤ ((ba l).size : Int) := by omega
    have k4 : ¬ (m : Int) + 1 < 0 := by omega
    have k5 : ((m : Int) + 1).toNat = m + 1 := by omega
    have k6 : IntKind.i64.wrap ((m : Int) + 1) = (m : Int) + 1 := by rw [IntKind.wrap_i64]; omega
    have k7 : (0 : Int) ≤ (m : Int) + 1 := by omega
    go_enter Tryd.func28, Tryd.ntmps28
    go_wp2_with fail
    refine C.mono ?_
    rintro e w1 ⟨rfl, rfl⟩
    go_wp2
    go_region
    go_wp2
    go_ret3
    exact ⟨⟨a, b, true, rfl, Or.inl ⟨rfl, HL.out, h2⟩⟩, (Below.refl _ _).drew⟩

set_option maxHeartbeats 400000 in
theorem cut_any (l : List UInt8) (q : ByteArray) (c : UInt8) (w : World) (hq : q.size = 1) (hc : bt q 0 = (c.toNat : Int)) (hqq : q = ba [c]) (hs : l.length ≤ 140737488351232) :
    Calls Tryd.prog 20 #[.string (ba l), .string q] w fun e w' => (∃ a b f, e = .returned (.tuple #[.string (ba a), .string (ba b), .bool f]) ∧ Ct c l a b f) ∧ Below w.heap.size w w' := by
  have C := scut_any l q c w hq hc hqq hs
  clear hc hq hqq
  go_enter Tryd.func20, Tryd.ntmps20
  go_wp2_with fail
  refine C.mono ?_
  rintro e w1 ⟨⟨a, b, f, rfl, hct⟩, B⟩
  go_wp2
  go_ret3
  exact ⟨⟨a, b, f, rfl, hct⟩, B⟩

end Go.Proofs.YthodlcmmagjboaaDoor
