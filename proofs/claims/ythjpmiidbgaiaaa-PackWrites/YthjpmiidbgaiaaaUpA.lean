/- The unpacker's small methods: missing, whole, fail, Taken, Fault, NewUnpacker. -/
import Derived.Test.YthjpmiidbgaiaaaUpM
import Derived.BigQuiet
import Derived.BigRegion
namespace Go.Proofs.Ythjpmiidbgaiaaa
open Go.RowKit

set_option maxHeartbeats 400000 in
theorem newU_any (w : World) : Calls Try.prog 14 #[] w fun e w' => e = .returned (.pointer (some ⟨w.heap.size, 0, none⟩)) ∧ Up w' w.heap.size (.slice none 0 0) u0 ∧ Below w.heap.size w w' := by
  have U : Hid (Up (w.alloc (.cells #[.int .i64 0, .int .i64 0, .int .i64 0, .bool false, .int .i64 0, .int .u64 0, .slice none 0 0, .int .i64 0, .int .u8 0] 52)) w.heap.size (.slice none 0 0) u0) := Up.fresh w
  go_enter Try.func14, Try.ntmps14
  go_wp2
  go_ret
  exact ⟨rfl, U.out, (Below.refl _ _).alloc (Nat.le_refl _) _⟩

set_option maxHeartbeats 400000 in
theorem utaken_any (g : Nat) (v : Value) (s : US) (w : World) (R : Up w g v s) :
    Calls Try.prog 19 #[.pointer (some ⟨g, 0, none⟩)] w fun e w' => e = .returned (.int .i64 (s.tk : Int)) ∧ w' = w := by
  have c0 := R.st.get 0 _ rfl
  clear R
  go_enter Try.func19, Try.ntmps19
  go_wp2
  go_ret
  exact ⟨rfl, rfl⟩

set_option maxHeartbeats 1000000 in
theorem ufault_any (g : Nat) (v : Value) (s : US) (w : World) (R : Up w g v s) :
    Calls Try.prog 18 #[.pointer (some ⟨g, 0, none⟩)] w fun e w' => e = .returned (.agg #[.int .i64 (s.code : Int), .int .i64 (s.fat : Int)]) ∧ Below w.heap.size w w' := by
  have c1 := R.st.get 1 _ rfl
  have c2 := R.st.get 2 _ rfl
  have hl := R.lt
  have n0 := (R.newBlock w.heap.size (Nat.le_refl _)).1
  clear R
  go_enter Try.func18, Try.ntmps18
  go_wp2
  have q0 : (w.alloc (.cells #[.int .i64 (s.code : Int), .int .i64 (s.fat : Int)] 30)).cell? ⟨w.heap.size, 0, none⟩ = some (.int .i64 (s.code : Int)) := (World.cell?_alloc_new w _ _ 0).trans rfl
  have q1 : (w.alloc (.cells #[.int .i64 (s.code : Int), .int .i64 (s.fat : Int)] 30)).cell? ⟨w.heap.size, 1, none⟩ = some (.int .i64 (s.fat : Int)) := (World.cell?_alloc_new w _ _ 1).trans rfl
  have B : Hid (Below w.heap.size w (w.alloc (.cells #[.int .i64 (s.code : Int), .int .i64 (s.fat : Int)] 30))) := (Below.refl _ _).alloc (Nat.le_refl _) _
  generalize w.alloc (.cells #[.int .i64 (s.code : Int), .int .i64 (s.fat : Int)] 30) = W4 at q0 q1 B ⊢
  exact bodyPost_ret (v := .agg #[.int .i64 (s.code : Int), .int .i64 (s.fat : Int)]) (by simp [results, Try.results18, go_sem, q0, q1]) rfl ⟨rfl, B.out⟩

set_option maxHeartbeats 1000000 in
theorem missing_any (g : Nat) (v : Value) (s : US) (w : World) (R : Up w g v s) (hl : s.len ≤ 1048576) (ht : s.tx.length ≤ s.len) :
    Calls Try.prog 39 #[.pointer (some ⟨g, 0, none⟩)] w fun e w' => e = .returned (.int .i64 ((s.len - s.tx.length : Nat) : Int)) ∧ ∃ q, w' = w.drewN q := by
  have c5 := R.st.get 5 _ rfl
  have c6 := R.st.get 6 _ rfl
  obtain ⟨p, c, rfl⟩ := R.len
  clear R
  have e0 : Hid ((s.len : Int) - (s.tx.length : Int) = ((s.len - s.tx.length : Nat) : Int)) := by unfold Hid; omega
  generalize (s.len - s.tx.length : Nat) = D at e0 ⊢
  generalize s.tx.length = T at *
  generalize s.len = L at *
  go_enter Try.func39, Try.ntmps39
  go_wp2_with fail
  go_quiet (fail)
  go_wp2
  go_ret
  exact ⟨by rw [e0.out]; rfl, _, rfl⟩

set_option maxHeartbeats 1000000 in
theorem fail_any' (g : Nat) (v : Value) (s : US) (c a : Nat) (w : World) (R : Up w g v s) :
    Calls Try.prog 34 #[.pointer (some ⟨g, 0, none⟩), .agg #[.int .i64 (c : Int), .int .i64 (a : Int)]] w fun e w' => e = .returned (.tuple #[]) ∧ Up w' g (.slice none 0 0) (s.fl c a) ∧ Mv w w' g v (.slice none 0 0) := by
  have HR : Hid (Up w g v s) := R
  have c1 := R.st.get 1 _ rfl
  have c2 := R.st.get 2 _ rfl
  have c6 := R.st.get 6 _ rfl
  have f1 := R.st.fr 1 (by show 1 < 9; decide)
  have f2 := R.st.fr 2 (by show 2 < 9; decide)
  have f6 := R.st.fr 6 (by show 6 < 9; decide)
  have hl := R.lt
  have n0 := (R.newBlock w.heap.size (Nat.le_refl _)).1
  clear R
  go_enter Try.func34, Try.ntmps34
  go_wp2
  go_end0
  refine ⟨rfl, ?_, (((((Mv.refl _ _ _).store _ _).store _ _).store _ _).alloc _).nil⟩
  exact ((((HR.out.set 1 _ { s with code := c } (by decide) rfl rfl).set 2 _ { s with code := c, fat := a } (by decide) rfl rfl).setn).alloc _).cast rfl

set_option maxHeartbeats 1000000 in
theorem whole_any (g : Nat) (v : Value) (s : US) (w : World) (R : Up w g v s) (hl : s.ph = 1 → s.len ≤ 1048576 ∧ s.tx.length ≤ s.len) :
    Calls Try.prog 33 #[.pointer (some ⟨g, 0, none⟩)] w fun e w' => e = .returned (.bool s.wh) ∧ ∃ q, w' = w.drewN q := by
  have HR : Hid (Up w g v s) := R
  have c4 := R.st.get 4 _ rfl
  clear R
  by_cases h1 : s.ph = 1
  · obtain ⟨l1, l2⟩ := hl h1
    have ew : Hid (s.wh = ((s.len - s.tx.length : Nat) == 0)) := by unfold Hid US.wh; rw [h1]; rfl
    rw [h1] at c4
    have MM := missing_any g v s w HR.out l1 l2
    clear hl h1
    generalize (s.len - s.tx.length : Nat) = D at ew MM
    go_enter Try.func33, Try.ntmps33
    go_wp2_with fail
    refine MM.mono ?_
    rintro e w1 ⟨rfl, q, rfl⟩
    by_cases hD : D = 0
    · subst hD
      go_wp2
      go_ret
      exact ⟨by rw [ew.out]; rfl, q, rfl⟩
    · have h2 : ((D : Int) == 0) = false := by simp; omega
      go_wp2
      go_ret
      exact ⟨by rw [ew.out]; simp [hD], q, rfl⟩
  · have h2 : ((s.ph : Int) == 1) = false := by simp; omega
    have ew : Hid (s.wh = false) := by unfold Hid US.wh; simp [h1]
    go_enter Try.func33, Try.ntmps33
    go_wp2
    go_ret
    exact ⟨by rw [ew.out]; rfl, 0, rfl⟩

end Go.Proofs.Ythjpmiidbgaiaaa
