/- The reader's own small methods: begin, fail, tooLong, finish. -/
import Derived.Test.YtjlbbnjcdickgabRows
import Derived.Test.YtjlbbnjcdickgabWrM
namespace Go.Proofs.Ytjlbbnjcdickgab
open Go.RowKit

theorem ba_cons_ne (c : UInt8) (r : List UInt8) : (ba (c :: r)).toList.isEmpty = false := by
  have h : (ba (c :: r)).toList.length = r.length + 1 := by
    rw [ByteArray.toList_eq]; simp [ba]
  cases hh : (ba (c :: r)).toList with
  | nil => rw [hh] at h; simp at h
  | cons a b => rfl
theorem ba_cons_size (c : UInt8) (r : List UInt8) : (ba (c :: r)).size = r.length + 1 := by rw [ba_size]; rfl
theorem ba_cons_0 (c : UInt8) (r : List UInt8) : bt (ba (c :: r)) 0 = (c.toNat : Int) := bt_ba (c :: r) 0 (by simp)
theorem ba_cons_tail (c : UInt8) (r : List UInt8) : (ba (c :: r)).extract 1 (ba (c :: r)).size = ba r := by
  apply bytes_ext
  · rw [ByteArray.size_extract, ba_size, ba_size, List.length_cons]; omega
  · intro k hk
    rw [ByteArray.size_extract, ba_size, List.length_cons] at hk
    have h1 : k < r.length := by omega
    rw [bt_ba _ _ h1]
    unfold bt
    rw [dif_pos (by rw [ByteArray.size_extract, ba_size, List.length_cons]; omega), ByteArray.getElem_extract]
    have e : ∀ (m : Nat) (h : m < (ba (c :: r)).size) (h2 : m = 1 + k), ((ba (c :: r))[m]'h).toNat = (r[k]).toNat := by
      intro m h h2
      subst h2
      show ((c :: r).toArray[1 + k]).toNat = _
      simp [Nat.add_comm 1 k]
    exact congrArg Int.ofNat (e _ _ rfl)

set_option maxHeartbeats 4000000 in
theorem begin_any (g : Nat) (v : Value) (s : RS) (w : World) (R : Rd w g v s) :
    Calls Try.prog 17 #[.pointer (some ⟨g, 0, none⟩)] w fun e w' => e = .returned (.tuple #[]) ∧ Rd w' g (.slice none 0 0) s.beg ∧ Mv w w' g v (.slice none 0 0) := by
  have HR : Hid (Rd w g v s) := R
  have c3 := R.c3
  have c6 := R.c6
  have c7 := R.c7
  have c8 := R.c8
  have c9 := R.c9
  have f3 := R.fr 3 (by decide)
  have f6 := R.fr 6 (by decide)
  have f7 := R.fr 7 (by decide)
  have f8 := R.fr 8 (by decide)
  have f9 := R.fr 9 (by decide)
  clear R
  obtain ⟨tk, code, fat, plan, most, cl, ph, lack, word, tx, out⟩ := s
  dsimp only at c3 c6 c7 c8
  cases plan with
  | nil =>
    have e0 : ba [] = ⟨#[]⟩ := rfl
    rw [e0] at c3
    go_enter Try.func17, Try.ntmps17
    go_wp2
    (try simp only [Exit.inBlock, Exit.then])
    refine bodyPost_ret (results_none rfl _ _ _) rfl ?_
    exact ⟨rfl, (((((HR.out.set7 8 rfl).set8 0 rfl).set9n).set6 4 rfl)).cast rfl, (((((Mv.refl _ _ _).store _ _).store _ _).store _ _).store _ _).nil⟩
  | cons c r =>
    have e0 := ba_cons_ne c r
    have e2 := ba_cons_size c r
    have e1 := ba_cons_tail c r
    rw [e2] at e1
    have hg := get_bt (ba (c :: r))
    have h0 := ba_cons_0 c r
    by_cases hc : c = 116
    · subst hc
      have h1 : bt (ba (116 :: r)) 0 = 116 := h0
      clear h0
      go_enter Try.func17, Try.ntmps17
      go_wp2
      go_end0
      exact ⟨rfl, ((((((HR.out.set7 8 rfl).set8 0 rfl).set9n).set6 0 rfl).set6 1 rfl).set3 r rfl).cast rfl, (((((((Mv.refl _ _ _).store _ _).store _ _).store _ _).store _ _).store _ _).store _ _).nil⟩
    · have h1 : (bt (ba (c :: r)) 0 == 116) = false := by
        rw [h0]
        simp
        intro h
        exact hc (UInt8.toNat_inj.1 (by have : c.toNat = 116 := by omega
                                        rw [this]; rfl))
      have h2 : Hid (phOf c = 0) := by unfold Hid phOf; rw [if_neg hc]
      clear h0
      go_enter Try.func17, Try.ntmps17
      go_wp2
      go_end0
      refine ⟨rfl, (((((HR.out.set7 8 rfl).set8 0 rfl).set9n).set6 0 rfl).set3 r rfl).cast ?_, ((((((Mv.refl _ _ _).store _ _).store _ _).store _ _).store _ _).store _ _).nil⟩
      show _ = RS.mk tk code fat r most cl (phOf c) 8 0 [] out
      rw [h2.out]
      rfl

set_option maxHeartbeats 400000 in
theorem fail_any (g : Nat) (v : Value) (s : RS) (c a : Nat) (w : World) (R : Rd w g v s) :
    Calls Try.prog 16 #[.pointer (some ⟨g, 0, none⟩), .int .i64 (c : Int), .int .i64 (a : Int)] w fun e w' => e = .returned (.tuple #[]) ∧ Rd w' g (.slice none 0 0) (s.fl c a) ∧ Mv w w' g v (.slice none 0 0) := by
  have HR : Hid (Rd w g v s) := R
  have c1 := R.c1
  have c2 := R.c2
  have c3 := R.c3
  have c9 := R.c9
  have f1 := R.fr 1 (by decide)
  have f2 := R.fr 2 (by decide)
  have f3 := R.fr 3 (by decide)
  have f9 := R.fr 9 (by decide)
  clear R
  obtain ⟨tk, code, fat, plan, most, cl, ph, lack, word, tx, out⟩ := s
  dsimp only at c1 c2 c3
  go_enter Try.func16, Try.ntmps16
  go_wp2
  go_end0
  exact ⟨rfl, ((((HR.out.set1 c rfl).set2 a rfl).set3 [] rfl).set9n).cast rfl, (((((Mv.refl _ _ _).store _ _).store _ _).store _ _).store _ _).nil⟩

end Go.Proofs.Ytjlbbnjcdickgab
