/- The law NameStars, walked. -/
import Derived.Test.YtdmkkkfdigeinabDoorMtW
import Derived.Deep.QuietTactic
import Derived.BigQuiet
namespace Go.Proofs.YtdmkkkfdigeinabDoor
open Go.RowKit

theorem mt_exA : mt (ByteArray.mk #[97, 42, 63]).data.toList (ByteArray.mk #[97, 98, 99]).data.toList = true := mt_ex1
theorem mt_exB : mt (ByteArray.mk #[97, 42, 63]).data.toList (ByteArray.mk #[97]).data.toList = false := mt_ex2
/-- Does the text fit? -/
def fits (p s : ByteArray) : Bool := mt p.data.toList s.data.toList
theorem fits_both (p q s t : ByteArray) (h1 : fits p s = true) (h2 : fits q t = true) : fits (p ++ q) (s ++ t) = true := by
  unfold fits at *
  rw [ByteArray.data_append, ByteArray.data_append, Array.toList_append, Array.toList_append, mt_append]
  exact ⟨s.data.toList.length, by simp, by simpa using h1, by simpa using h2⟩
theorem fits_star (m : ByteArray) : fits ⟨#[42]⟩ m = true := mt_any _
theorem fits_more (p q s t m : ByteArray) (h1 : fits p s = true) (h2 : fits q t = true) : fits (p ++ ⟨#[42]⟩ ++ q) (s ++ m ++ t) = true :=
  fits_both _ _ _ _ (fits_both _ _ _ _ h1 (fits_star m)) h2
theorem fits_quest (m : ByteArray) : fits ⟨#[63]⟩ m = ((m.size : Int) == 1) := by
  unfold fits
  show mt [63] _ = _
  rw [mt_quest, ← Lib.size_eq, Bool.eq_iff_iff, decide_eq_true_iff, beq_iff_eq]
  omega

theorem fits_quiet (p s : ByteArray) (w : World) (hp : p.size ≤ 1152921504606846976) (hs : s.size ≤ 1152921504606846976) :
    Calls Tryd.prog 11 #[.string p, .string s] w fun e w' => e = .returned (.bool (fits p s)) ∧ ∃ n, w' = w.drewN n := match_quiet p s w hp hs
theorem fits_any (p s : ByteArray) (w : World) (hp : p.size ≤ 1152921504606846976) (hs : s.size ≤ 1152921504606846976) :
    Calls Tryd.prog 11 #[.string p, .string s] w fun e w' => e = .returned (.bool (fits p s)) ∧ Below w.heap.size w w' := match_any p s w hp hs

set_option maxHeartbeats 1000000 in
theorem stars_walk (p s q t m : ByteArray) (w : World) (hp : p.size ≤ 140737488351232) (hs : s.size ≤ 140737488351232) (hq : q.size ≤ 140737488351232) (ht : t.size ≤ 140737488351232) (hm : m.size ≤ 140737488351232) :
    Calls Tryd.prog 4 #[.agg #[.string p, .string s, .string q, .string t], .string m] w fun e w' => e = .returned (.bool true) ∧ Below w.heap.size w w' := by
  have HB : Hid (fits p s = true → fits q t = true → fits (p ++ q) (s ++ t) = true) := fits_both p q s t
  have HM : Hid (fits p s = true → fits q t = true → fits (p ++ ⟨#[42]⟩ ++ q) (s ++ m ++ t) = true) := fits_more p q s t m
  have e1 : fits ⟨#[97, 42, 63]⟩ ⟨#[97, 98, 99]⟩ = true := mt_ex1
  have e2 : fits ⟨#[97, 42, 63]⟩ ⟨#[97]⟩ = false := mt_ex2
  have E1 : Hid (fits ⟨#[97, 42, 63]⟩ ⟨#[97, 98, 99]⟩ = true) := e1
  have E2 : Hid (fits ⟨#[97, 42, 63]⟩ ⟨#[97]⟩ = false) := e2
  clear e1 e2
  go_enter Tryd.func4, Tryd.ntmps4
  go_wp2_with fail
  refine (fits_quiet _ _ _ (by decide) (by decide)).mono ?_
  rintro e w1 ⟨rfl, n1, rfl⟩
  rw [E1.out]
  go_wp2_with fail
  refine (fits_quiet _ _ _ (by decide) (by decide)).mono ?_
  rintro e w1 ⟨rfl, n2, rfl⟩
  rw [E2.out]
  go_wp2_with fail
  have C : ∀ i v, #[Value.string p, Value.string s, Value.string q, Value.string t][i]? = some v → ((w.alloc (Obj.cells #[Value.string p, Value.string s, Value.string q, Value.string t] 33)).drewN (n1 + n2)).cell? ⟨w.heap.size, i, none⟩ = some v := fun i v hv => by
    show (w.alloc (Obj.cells #[Value.string p, Value.string s, Value.string q, Value.string t] 33)).cell? ⟨w.heap.size, i, none⟩ = some v
    rw [World.cell?_alloc_new]; exact hv
  have B : Below w.heap.size w ((w.alloc (Obj.cells #[Value.string p, Value.string s, Value.string q, Value.string t] 33)).drewN (n1 + n2)) := bel_drewN ((Below.refl _ _).alloc (Nat.le_refl _) _) _
  have c0 := C 0 _ rfl
  have c1 := C 1 _ rfl
  have c2 := C 2 _ rfl
  have c3 := C 3 _ rfl
  clear C
  generalize (w.alloc (Obj.cells #[Value.string p, Value.string s, Value.string q, Value.string t] 33)).drewN (n1 + n2) = W at *
  obtain ⟨g, hg⟩ : ∃ g, w.heap.size = g := ⟨_, rfl⟩
  rw [hg] at c0 c1 c2 c3 B ⊢
  have HG : Hid (w.heap.size = g) := hg
  clear hg
  go_quiet ((first
    | (go_at_call_of 11 (Value.string p); exact Calls.quiet_of (fits_quiet p s _ (by omega) (by omega)))
    | (go_at_call_of 11 (Value.string q); exact Calls.quiet_of (fits_quiet q t _ (by omega) (by omega)))))
  have d0 : (W.drewN nq).cell? ⟨g, 0, none⟩ = some (.string p) := c0
  have d1 : (W.drewN nq).cell? ⟨g, 1, none⟩ = some (.string s) := c1
  have d2 : (W.drewN nq).cell? ⟨g, 2, none⟩ = some (.string q) := c2
  have d3 : (W.drewN nq).cell? ⟨g, 3, none⟩ = some (.string t) := c3
  have B2 : Below g w (W.drewN nq) := bel_drewN B _
  clear c0 c1 c2 c3 B
  generalize W.drewN nq = W2 at *
  have EQ : Hid (fits ⟨#[63]⟩ m = ((m.size : Int) == 1)) := fits_quest m
  have ES : Hid (fits ⟨#[42]⟩ m = true) := fits_star m
  have fin : Hid (∀ x : Bool, (x == x) = true) := fun x => by simp
  cases h1 : fits p s
  · clear h1 HB HM
    go_wp2_with fail
    refine (fits_quiet _ _ _ (by decide) (by omega)).mono ?_
    rintro e w1 ⟨rfl, n3, rfl⟩
    rw [ES.out]
    go_wp2_with fail
    refine (fits_quiet _ _ _ (by decide) (by omega)).mono ?_
    rintro e w1 ⟨rfl, n4, rfl⟩
    rw [EQ.out]
    have fx := fin.out ((m.size : Int) == 1)
    go_wp2
    go_ret
    exact ⟨rfl, by rw [HG.out]; exact bel_drewN B2 _⟩
  · cases h2 : fits q t
    · clear h1 h2 HB HM
      go_wp2_with fail
      refine (fits_quiet _ _ _ (by decide) (by omega)).mono ?_
      rintro e w1 ⟨rfl, n3, rfl⟩
      rw [ES.out]
      go_wp2_with fail
      refine (fits_quiet _ _ _ (by decide) (by omega)).mono ?_
      rintro e w1 ⟨rfl, n4, rfl⟩
      rw [EQ.out]
      have fx := fin.out ((m.size : Int) == 1)
      go_wp2
      go_ret
      exact ⟨rfl, by rw [HG.out]; exact bel_drewN B2 _⟩
    · have H1 : Hid (fits (p ++ q) (s ++ t) = true) := HB.out h1 h2
      have H2 : Hid (fits (p ++ ⟨#[42]⟩ ++ q) (s ++ m ++ t) = true) := HM.out h1 h2
      clear h1 h2 HB HM
      go_wp2_with fail
      refine (fits_quiet _ _ _ (by rw [ByteArray.size_append]; omega) (by rw [ByteArray.size_append]; omega)).mono ?_
      rintro e w1 ⟨rfl, n3, rfl⟩
      rw [H1.out]
      go_wp2_with fail
      refine (fits_quiet _ _ _ (by rw [ByteArray.size_append, ByteArray.size_append]; show p.size + 1 + q.size ≤ _; omega) (by rw [ByteArray.size_append, ByteArray.size_append]; omega)).mono ?_
      rintro e w1 ⟨rfl, n5, rfl⟩
      rw [H2.out]
      go_wp2_with fail
      refine (fits_quiet _ _ _ (by decide) (by omega)).mono ?_
      rintro e w1 ⟨rfl, n6, rfl⟩
      rw [ES.out]
      go_wp2_with fail
      refine (fits_quiet _ _ _ (by decide) (by omega)).mono ?_
      rintro e w1 ⟨rfl, n7, rfl⟩
      rw [EQ.out]
      have fx := fin.out ((m.size : Int) == 1)
      go_wp2
      go_ret
      exact ⟨rfl, by rw [HG.out]; exact bel_drewN B2 _⟩

end Go.Proofs.YtdmkkkfdigeinabDoor
