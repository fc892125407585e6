/- The reader: tooLong, finish. -/
import Derived.Test.YtjlbbnjcdickgabWrA
import Derived.Deep.QuietTactic
import Derived.BigQuiet
namespace Go.Proofs.Ytjlbbnjcdickgab
open Go.RowKit

/-- Is the length too great? -/
theorem RS.tooLong_a (s : RS) (h : s.ph ≠ 1) : s.tooLong = false := by unfold RS.tooLong; simp [h]
theorem RS.tooLong_b (s : RS) (h : s.lack ≠ 1) : s.tooLong = false := by unfold RS.tooLong; simp [h]
theorem RS.tooLong_c (s : RS) (h1 : s.ph = 1) (h : s.lack = 1) : s.tooLong = decide (s.most < s.word) := by unfold RS.tooLong; simp [h, h1]

set_option maxHeartbeats 400000 in
theorem tooLong_any (g : Nat) (v : Value) (s : RS) (w : World) (R : Rd w g v s) :
    Calls Try.prog 18 #[.pointer (some ⟨g, 0, none⟩)] w fun e w' => e = .returned (.bool s.tooLong) ∧ ∃ q, w' = w.drewN q := by
  have c4 := R.c4
  have c6 := R.c6
  have c7 := R.c7
  have c8 := R.c8
  clear R
  by_cases h1 : s.ph = 1
  · by_cases h2 : s.lack = 1
    · have T : Hid (s.tooLong = decide (s.most < s.word)) := RS.tooLong_c s h1 h2
      rw [h1] at c6
      rw [h2] at c7
      go_enter Try.func18, Try.ntmps18
      go_wp2
      go_quiet (fail)
      go_wp2
      go_ret
      exact ⟨by rw [T.out]; rfl, _, rfl⟩
    · have T : Hid (s.tooLong = false) := RS.tooLong_b s h2
      have g2 : ((s.lack : Int) == 1) = false := by simp; omega
      have g3 : decide (s.lack = 1) = false := by simp; omega
      rw [h1] at c6
      go_enter Try.func18, Try.ntmps18
      go_wp2
      go_quiet (fail)
      go_wp2
      go_ret
      exact ⟨by rw [T.out]; rfl, _, rfl⟩
  · have T : Hid (s.tooLong = false) := RS.tooLong_a s h1
    have g2 : ((s.ph : Int) == 1) = false := by simp; omega
    have g3 : decide (s.ph = 1) = false := by simp; omega
    go_enter Try.func18, Try.ntmps18
    go_wp2
    go_quiet (fail)
    go_wp2
    go_ret
    exact ⟨by rw [T.out]; rfl, _, rfl⟩

set_option maxHeartbeats 1000000 in
theorem finish_num (g : Nat) (v : Value) (s : RS) (w : World) (R : Rd w g v s) (hp : s.ph = 0) :
    Calls Try.prog 19 #[.pointer (some ⟨g, 0, none⟩)] w fun e w' => e = .returned (.tuple #[itV ⟨true, s.word, []⟩, .bool true]) ∧ Rd w' g (.slice none 0 0) s.beg ∧ Mv w w' g v (.slice none 0 0) := by
  have HR : Hid (Rd w g v s) := R
  have c6 := R.c6
  have c8 := R.c8
  rw [hp] at c6
  have n0 := (R.newBlock w.heap.size (Nat.le_refl _)).1
  have n1 := (R.newBlock (w.heap.size + 1) (Nat.le_succ _)).1
  have hl := R.lt
  clear R
  go_enter Try.func19, Try.ntmps19
  go_wp2_with fail
  refine (begin_any g v s _ ((HR.out.alloc _).alloc _)).mono ?_
  rintro e w3 ⟨rfl, R3, M3⟩
  obtain ⟨a1, a2, a3, a4, a5, M⟩ := alloc2_after HR.out _ _ _ _ M3
  have HR3 : Hid (Rd w3 g (.slice none 0 0) s.beg) := R3
  have HM : Hid (Mv w w3 g v (.slice none 0 0)) := M
  have x0 := a1 0
  have x1 := a1 1
  have x2 := a1 2
  have y0 := a3 0
  have y1 := a3 1
  have y2 := a3 2
  have z0 := a2 0
  have z1 := a2 1
  have z2 := a2 2
  clear c6 c8 R3 M3 M a1 a3 a2 a4 a5
  simp only [List.getElem?_toArray, List.getElem?_cons_zero, List.getElem?_cons_succ] at x0 x1 x2 y0 y1 y2
  have hG1 : w.heap.size + 1 ≠ w.heap.size := by omega
  have hG2 : w.heap.size ≠ w.heap.size + 1 := by omega
  go_wp2
  obtain ⟨q0, q1, q2⟩ := put3_cells (a := .bool true) (b := .int .u64 (s.word : Int)) (c := .string ⟨#[]⟩) _ _ _ x0 x1 x2
  have R4 : Hid (Rd (((w3.setCell ⟨w.heap.size, 0, none⟩ (.bool true)).setCell ⟨w.heap.size, 1, none⟩ (.int .u64 (s.word : Int))).setCell ⟨w.heap.size, 2, none⟩ (.string ⟨#[]⟩)) g (.slice none 0 0) s.beg) := ((HR3.out.put _ _ _ (Ne.symm n0) (by simp [Value.ownBlock])).put _ _ _ (Ne.symm n0) (by simp [Value.ownBlock])).put _ _ _ (Ne.symm n0) (by simp [Value.ownBlock])
  have M4 : Hid (Mv w (((w3.setCell ⟨w.heap.size, 0, none⟩ (.bool true)).setCell ⟨w.heap.size, 1, none⟩ (.int .u64 (s.word : Int))).setCell ⟨w.heap.size, 2, none⟩ (.string ⟨#[]⟩)) g v (.slice none 0 0)) := ((HM.out.put _ _ _ (Nat.le_refl _)).put _ _ _ (Nat.le_refl _)).put _ _ _ (Nat.le_refl _)
  generalize ((w3.setCell ⟨w.heap.size, 0, none⟩ (.bool true)).setCell ⟨w.heap.size, 1, none⟩ (.int .u64 (s.word : Int))).setCell ⟨w.heap.size, 2, none⟩ (.string ⟨#[]⟩) = W4 at q0 q1 q2 R4 M4 ⊢
  refine bodyPost_ret (v := .tuple #[itV ⟨true, s.word, []⟩, .bool true]) (by simp [results, Try.results19, go_sem, q0, q1, q2, itV]; rfl) rfl ⟨rfl, R4.out, M4.out⟩

set_option maxHeartbeats 1000000 in
theorem finish_len (g : Nat) (v : Value) (s : RS) (w : World) (R : Rd w g v s) (hp : s.ph = 1) (hw : 0 < s.word) (hw2 : s.word ≤ 9223372036854775807) :
    Calls Try.prog 19 #[.pointer (some ⟨g, 0, none⟩)] w fun e w' => e = .returned (.tuple #[itV ⟨false, 0, []⟩, .bool false]) ∧ Rd w' g v ((s.s6 2).s7 s.word) ∧ Mv w w' g v v := by
  have HR : Hid (Rd w g v s) := R
  have c6 := R.c6
  have c7 := R.c7
  have c8 := R.c8
  have f6 := R.fr 6 (by decide)
  have f7 := R.fr 7 (by decide)
  rw [hp] at c6
  have n0 := (R.newBlock w.heap.size (Nat.le_refl _))
  have n1 := (R.newBlock (w.heap.size + 1) (Nat.le_succ _)).1
  have hl := R.lt
  obtain ⟨n0, n2⟩ := n0
  have HN : Hid (v.ownBlock ≠ some w.heap.size) := n2
  clear R n2
  go_enter Try.func19, Try.ntmps19
  go_wp2
  have R1 := (HR.out.set6 2 (x := .int .i64 2) rfl).set7 s.word rfl
  obtain ⟨a1, -, -, -, -, -⟩ := alloc2_after R1 #[.bool false, .int .u64 0, .string ⟨#[]⟩] #[.bool false, .int .u64 0, .string ⟨#[]⟩] 41 41 (Mv.refl _ _ _)
  have hs : ((w.setCell ⟨g, 6, none⟩ (.int .i64 2)).setCell ⟨g, 7, none⟩ (.int .i64 (s.word : Int))).heap.size = w.heap.size := by simp
  rw [hs] at a1
  have q0 := a1 0
  have q1 := a1 1
  have q2 := a1 2
  simp only [List.getElem?_toArray, List.getElem?_cons_zero, List.getElem?_cons_succ] at q0 q1 q2
  have R4 : Hid (Rd ((((w.setCell ⟨g, 6, none⟩ (.int .i64 2)).setCell ⟨g, 7, none⟩ (.int .i64 (s.word : Int))).alloc (.cells #[.bool false, .int .u64 0, .string ⟨#[]⟩] 41)).alloc (.cells #[.bool false, .int .u64 0, .string ⟨#[]⟩] 41)) g v ((s.s6 2).s7 s.word)) := (R1.alloc _).alloc _
  have M4 : Hid (Mv w ((((w.setCell ⟨g, 6, none⟩ (.int .i64 2)).setCell ⟨g, 7, none⟩ (.int .i64 (s.word : Int))).alloc (.cells #[.bool false, .int .u64 0, .string ⟨#[]⟩] 41)).alloc (.cells #[.bool false, .int .u64 0, .string ⟨#[]⟩] 41)) g v v) := ((((Mv.refl _ _ _).store _ _).store _ _).alloc _).alloc _
  clear a1 R1 hs
  generalize (((w.setCell ⟨g, 6, none⟩ (.int .i64 2)).setCell ⟨g, 7, none⟩ (.int .i64 (s.word : Int))).alloc (.cells #[.bool false, .int .u64 0, .string ⟨#[]⟩] 41)).alloc (.cells #[.bool false, .int .u64 0, .string ⟨#[]⟩] 41) = W4 at q0 q1 q2 R4 M4 ⊢
  refine bodyPost_ret (v := .tuple #[itV ⟨false, 0, []⟩, .bool false]) (by simp [results, Try.results19, go_sem, q0, q1, q2, itV]; rfl) rfl ⟨rfl, R4.out, M4.out⟩

set_option maxHeartbeats 1000000 in
theorem finish_pad (g : Nat) (v : Value) (s : RS) (w : World) (R : Rd w g v s) (hp : s.ph = 2) (hw : 0 < padN s.tx.length) (hw2 : s.tx.length ≤ 9223372036854775807) :
    Calls Try.prog 19 #[.pointer (some ⟨g, 0, none⟩)] w fun e w' => e = .returned (.tuple #[itV ⟨false, 0, []⟩, .bool false]) ∧ Rd w' g v ((s.s6 3).s7 (padN s.tx.length)) ∧ Mv w w' g v v := by
  have HR : Hid (Rd w g v s) := R
  obtain ⟨x, c, hv⟩ : ∃ x c, v = .slice x s.tx.length c := by
    rcases R.buf with ⟨h, h0⟩ | ⟨b, cap, h, _⟩
    · exact ⟨_, _, by rw [h0]; exact h⟩
    · exact ⟨_, _, h⟩
  have c6 := R.c6
  have c7 := R.c7
  have c9 := R.c9
  have f6 := R.fr 6 (by decide)
  have f7 := R.fr 7 (by decide)
  rw [hp] at c6
  rw [hv] at c9
  have n0 := (R.newBlock w.heap.size (Nat.le_refl _))
  have n1 := (R.newBlock (w.heap.size + 1) (Nat.le_succ _)).1
  have hl := R.lt
  obtain ⟨n0, n2⟩ := n0
  have HN : Hid (v.ownBlock ≠ some w.heap.size) := n2
  have HV : Hid (v = .slice x s.tx.length c) := hv
  clear R n2 hv
  go_enter Try.func19, Try.ntmps19
  go_wp2_with fail
  refine (padding_any s.tx.length _ hw2).mono ?_
  rintro e w2 ⟨rfl, rfl⟩
  go_wp2_with fail
  refine (padding_any s.tx.length _ hw2).mono ?_
  rintro e w2 ⟨rfl, rfl⟩
  go_wp2_with fail
  have R1 := (HR.out.set6 3 (x := .int .i64 3) rfl).set7 (padN s.tx.length) rfl
  obtain ⟨a1, -, -, -, -, -⟩ := alloc2_after R1 #[.bool false, .int .u64 0, .string ⟨#[]⟩] #[.bool false, .int .u64 0, .string ⟨#[]⟩] 41 41 (Mv.refl _ _ _)
  have hs : ((w.setCell ⟨g, 6, none⟩ (.int .i64 3)).setCell ⟨g, 7, none⟩ (.int .i64 ((padN s.tx.length) : Int))).heap.size = w.heap.size := by simp
  rw [hs] at a1
  have q0 := a1 0
  have q1 := a1 1
  have q2 := a1 2
  simp only [List.getElem?_toArray, List.getElem?_cons_zero, List.getElem?_cons_succ] at q0 q1 q2
  have R4 : Hid (Rd ((((w.setCell ⟨g, 6, none⟩ (.int .i64 3)).setCell ⟨g, 7, none⟩ (.int .i64 ((padN s.tx.length) : Int))).alloc (.cells #[.bool false, .int .u64 0, .string ⟨#[]⟩] 41)).alloc (.cells #[.bool false, .int .u64 0, .string ⟨#[]⟩] 41)) g v ((s.s6 3).s7 (padN s.tx.length))) := (R1.alloc _).alloc _
  have M4 : Hid (Mv w ((((w.setCell ⟨g, 6, none⟩ (.int .i64 3)).setCell ⟨g, 7, none⟩ (.int .i64 ((padN s.tx.length) : Int))).alloc (.cells #[.bool false, .int .u64 0, .string ⟨#[]⟩] 41)).alloc (.cells #[.bool false, .int .u64 0, .string ⟨#[]⟩] 41)) g v v) := ((((Mv.refl _ _ _).store _ _).store _ _).alloc _).alloc _
  clear a1 R1 hs
  generalize (((w.setCell ⟨g, 6, none⟩ (.int .i64 3)).setCell ⟨g, 7, none⟩ (.int .i64 ((padN s.tx.length) : Int))).alloc (.cells #[.bool false, .int .u64 0, .string ⟨#[]⟩] 41)).alloc (.cells #[.bool false, .int .u64 0, .string ⟨#[]⟩] 41) = W4 at q0 q1 q2 R4 M4 ⊢
  refine bodyPost_ret (v := .tuple #[itV ⟨false, 0, []⟩, .bool false]) (by simp [results, Try.results19, go_sem, q0, q1, q2, itV]; rfl) rfl ⟨rfl, R4.out, M4.out⟩

/-- A reader's text, as a string. -/
theorem Rd.text {w w' : World} {g : Nat} {v : Value} {s : RS} (h : Rd w g v s) (b : Below w.heap.size w w') : (convert 32 9 v).run Try.prog w' = .ok (.string (ba s.tx)) w' := by
  have h' := (h.below b).buf
  rcases h' with ⟨rfl, h0⟩ | ⟨k, cap, rfl, _, _, _, _, hc, hf⟩
  · have e : s.tx = [] := List.eq_nil_of_length_eq_zero h0
    rw [e]
    exact run_convert_bytes_nil w' 32 5 Try.underlying32 Try.underlying5 0 0 9 Try.underlying9
  · have r := run_string_row (P := Try.prog) (src := 32) (dst := 9) (c := cap) Try.underlying32 Try.underlying5 Try.underlying9 (f := bt (ba s.tx)) (g := k) (n := s.tx.length) ⟨hc, fun j hj => (hf j (by omega)).2⟩
    rw [r, ← ba_size, strFn_bt]

set_option maxHeartbeats 2000000 in
theorem finish_txt (g : Nat) (v : Value) (s : RS) (w : World) (R : Rd w g v s) (h3 : s.ph ≤ 3) (hp : s.ph ≠ 0) (h1 : s.ph = 1 → s.word = 0) (h2 : s.ph = 2 → padN s.tx.length = 0) (hw2 : s.tx.length ≤ 9223372036854775807) :
    Calls Try.prog 19 #[.pointer (some ⟨g, 0, none⟩)] w fun e w' => e = .returned (.tuple #[itV ⟨false, 0, s.tx⟩, .bool true]) ∧ Rd w' g (.slice none 0 0) s.beg ∧ Mv w w' g v (.slice none 0 0) := by
  have HR : Hid (Rd w g v s) := R
  obtain ⟨x, c, hv⟩ : ∃ x c, v = .slice x s.tx.length c := by
    rcases R.buf with ⟨h, h0⟩ | ⟨b, cap, h, _⟩
    · exact ⟨_, _, by rw [h0]; exact h⟩
    · exact ⟨_, _, h⟩
  have c6 := R.c6
  have c8 := R.c8
  have c9 := R.c9
  rw [hv] at c9
  have n0 := (R.newBlock w.heap.size (Nat.le_refl _)).1
  have n1 := (R.newBlock (w.heap.size + 1) (Nat.le_succ _)).1
  have hl := R.lt
  have ct : ∀ w' : World, Below w.heap.size w w' → (convert 32 9 (.slice x s.tx.length c)).run Try.prog w' = .ok (.string (ba s.tx)) w' := fun w' b => hv ▸ R.text b
  have ct2 := ct ((w.alloc (.cells #[.bool false, .int .u64 0, .string ⟨#[]⟩] 41)).alloc (.cells #[.bool false, .int .u64 0, .string ⟨#[]⟩] 41)) (((Below.refl _ _).alloc (Nat.le_refl _) _).alloc (by rw [World.size_alloc]; omega) _)
  have e0 : ((s.ph : Int) == 0) = false := by simp; omega
  have HV : Hid (v = .slice x s.tx.length c) := hv
  clear R hv ct
  by_cases hp1 : s.ph = 1
  · have hw0 := h1 hp1
    rw [hp1] at c6
    rw [hw0] at c8
    clear e0
    go_enter Try.func19, Try.ntmps19
    go_wp2_with fail
    refine (begin_any g v s _ ((HR.out.alloc _).alloc _)).mono ?_
    rintro e w3 ⟨rfl, R3, M3⟩
    obtain ⟨a1, a2, a3, -, -, M⟩ := alloc2_after HR.out _ _ _ _ M3
    have HR3 : Hid (Rd w3 g (.slice none 0 0) s.beg) := R3
    have HM : Hid (Mv w w3 g v (.slice none 0 0)) := M
    have x0 := a1 0
    have x1 := a1 1
    have x2 := a1 2
    have y0 := a3 0
    have y1 := a3 1
    have y2 := a3 2
    have z0 := a2 0
    have z1 := a2 1
    have z2 := a2 2
    clear c6 c8 c9 R3 M3 M a1 a3 a2 ct2
    simp only [List.getElem?_toArray, List.getElem?_cons_zero, List.getElem?_cons_succ] at x0 x1 x2 y0 y1 y2
    have hG1 : w.heap.size + 1 ≠ w.heap.size := by omega
    have hG2 : w.heap.size ≠ w.heap.size + 1 := by omega
    go_wp2
    obtain ⟨q0, q1, q2⟩ := put3_cells (a := .bool false) (b := .int .u64 0) (c := .string (ba s.tx)) _ _ _ x0 x1 x2
    have R4 : Hid (Rd (((w3.setCell ⟨w.heap.size, 0, none⟩ (.bool false)).setCell ⟨w.heap.size, 1, none⟩ (.int .u64 0)).setCell ⟨w.heap.size, 2, none⟩ (.string (ba s.tx))) g (.slice none 0 0) s.beg) := ((HR3.out.put _ _ _ (Ne.symm n0) (by simp [Value.ownBlock])).put _ _ _ (Ne.symm n0) (by simp [Value.ownBlock])).put _ _ _ (Ne.symm n0) (by simp [Value.ownBlock])
    have M4 : Hid (Mv w (((w3.setCell ⟨w.heap.size, 0, none⟩ (.bool false)).setCell ⟨w.heap.size, 1, none⟩ (.int .u64 0)).setCell ⟨w.heap.size, 2, none⟩ (.string (ba s.tx))) g v (.slice none 0 0)) := ((HM.out.put _ _ _ (Nat.le_refl _)).put _ _ _ (Nat.le_refl _)).put _ _ _ (Nat.le_refl _)
    generalize ((w3.setCell ⟨w.heap.size, 0, none⟩ (.bool false)).setCell ⟨w.heap.size, 1, none⟩ (.int .u64 0)).setCell ⟨w.heap.size, 2, none⟩ (.string (ba s.tx)) = W4 at q0 q1 q2 R4 M4 ⊢
    exact bodyPost_ret (v := .tuple #[itV ⟨false, 0, s.tx⟩, .bool true]) (by simp [results, Try.results19, go_sem, q0, q1, q2, itV]) rfl ⟨rfl, R4.out, M4.out⟩
  by_cases hp2 : s.ph = 2
  · have hw0 := h2 hp2
    have pc := padding_any s.tx.length ((w.alloc (.cells #[.bool false, .int .u64 0, .string ⟨#[]⟩] 41)).alloc (.cells #[.bool false, .int .u64 0, .string ⟨#[]⟩] 41)) hw2
    rw [hw0] at pc
    rw [hp2] at c6
    clear e0
    go_enter Try.func19, Try.ntmps19
    go_wp2_with fail
    refine pc.mono ?_
    rintro e w2 ⟨rfl, rfl⟩
    clear pc
    go_wp2_with fail
    refine (begin_any g v s _ ((HR.out.alloc _).alloc _)).mono ?_
    rintro e w3 ⟨rfl, R3, M3⟩
    obtain ⟨a1, a2, a3, -, -, M⟩ := alloc2_after HR.out _ _ _ _ M3
    have HR3 : Hid (Rd w3 g (.slice none 0 0) s.beg) := R3
    have HM : Hid (Mv w w3 g v (.slice none 0 0)) := M
    have x0 := a1 0
    have x1 := a1 1
    have x2 := a1 2
    have y0 := a3 0
    have y1 := a3 1
    have y2 := a3 2
    have z0 := a2 0
    have z1 := a2 1
    have z2 := a2 2
    clear c6 c8 c9 R3 M3 M a1 a3 a2 ct2
    simp only [List.getElem?_toArray, List.getElem?_cons_zero, List.getElem?_cons_succ] at x0 x1 x2 y0 y1 y2
    have hG1 : w.heap.size + 1 ≠ w.heap.size := by omega
    have hG2 : w.heap.size ≠ w.heap.size + 1 := by omega
    go_wp2
    obtain ⟨q0, q1, q2⟩ := put3_cells (a := .bool false) (b := .int .u64 0) (c := .string (ba s.tx)) _ _ _ x0 x1 x2
    have R4 : Hid (Rd (((w3.setCell ⟨w.heap.size, 0, none⟩ (.bool false)).setCell ⟨w.heap.size, 1, none⟩ (.int .u64 0)).setCell ⟨w.heap.size, 2, none⟩ (.string (ba s.tx))) g (.slice none 0 0) s.beg) := ((HR3.out.put _ _ _ (Ne.symm n0) (by simp [Value.ownBlock])).put _ _ _ (Ne.symm n0) (by simp [Value.ownBlock])).put _ _ _ (Ne.symm n0) (by simp [Value.ownBlock])
    have M4 : Hid (Mv w (((w3.setCell ⟨w.heap.size, 0, none⟩ (.bool false)).setCell ⟨w.heap.size, 1, none⟩ (.int .u64 0)).setCell ⟨w.heap.size, 2, none⟩ (.string (ba s.tx))) g v (.slice none 0 0)) := ((HM.out.put _ _ _ (Nat.le_refl _)).put _ _ _ (Nat.le_refl _)).put _ _ _ (Nat.le_refl _)
    generalize ((w3.setCell ⟨w.heap.size, 0, none⟩ (.bool false)).setCell ⟨w.heap.size, 1, none⟩ (.int .u64 0)).setCell ⟨w.heap.size, 2, none⟩ (.string (ba s.tx)) = W4 at q0 q1 q2 R4 M4 ⊢
    exact bodyPost_ret (v := .tuple #[itV ⟨false, 0, s.tx⟩, .bool true]) (by simp [results, Try.results19, go_sem, q0, q1, q2, itV]) rfl ⟨rfl, R4.out, M4.out⟩
  · have hp3 : s.ph = 3 := by omega
    rw [hp3] at c6
    clear e0
    go_enter Try.func19, Try.ntmps19
    go_wp2_with fail
    refine (begin_any g v s _ ((HR.out.alloc _).alloc _)).mono ?_
    rintro e w3 ⟨rfl, R3, M3⟩
    obtain ⟨a1, a2, a3, -, -, M⟩ := alloc2_after HR.out _ _ _ _ M3
    have HR3 : Hid (Rd w3 g (.slice none 0 0) s.beg) := R3
    have HM : Hid (Mv w w3 g v (.slice none 0 0)) := M
    have x0 := a1 0
    have x1 := a1 1
    have x2 := a1 2
    have y0 := a3 0
    have y1 := a3 1
    have y2 := a3 2
    have z0 := a2 0
    have z1 := a2 1
    have z2 := a2 2
    clear c6 c8 c9 R3 M3 M a1 a3 a2 ct2
    simp only [List.getElem?_toArray, List.getElem?_cons_zero, List.getElem?_cons_succ] at x0 x1 x2 y0 y1 y2
    have hG1 : w.heap.size + 1 ≠ w.heap.size := by omega
    have hG2 : w.heap.size ≠ w.heap.size + 1 := by omega
    go_wp2
    obtain ⟨q0, q1, q2⟩ := put3_cells (a := .bool false) (b := .int .u64 0) (c := .string (ba s.tx)) _ _ _ x0 x1 x2
    have R4 : Hid (Rd (((w3.setCell ⟨w.heap.size, 0, none⟩ (.bool false)).setCell ⟨w.heap.size, 1, none⟩ (.int .u64 0)).setCell ⟨w.heap.size, 2, none⟩ (.string (ba s.tx))) g (.slice none 0 0) s.beg) := ((HR3.out.put _ _ _ (Ne.symm n0) (by simp [Value.ownBlock])).put _ _ _ (Ne.symm n0) (by simp [Value.ownBlock])).put _ _ _ (Ne.symm n0) (by simp [Value.ownBlock])
    have M4 : Hid (Mv w (((w3.setCell ⟨w.heap.size, 0, none⟩ (.bool false)).setCell ⟨w.heap.size, 1, none⟩ (.int .u64 0)).setCell ⟨w.heap.size, 2, none⟩ (.string (ba s.tx))) g v (.slice none 0 0)) := ((HM.out.put _ _ _ (Nat.le_refl _)).put _ _ _ (Nat.le_refl _)).put _ _ _ (Nat.le_refl _)
    generalize ((w3.setCell ⟨w.heap.size, 0, none⟩ (.bool false)).setCell ⟨w.heap.size, 1, none⟩ (.int .u64 0)).setCell ⟨w.heap.size, 2, none⟩ (.string (ba s.tx)) = W4 at q0 q1 q2 R4 M4 ⊢
    exact bodyPost_ret (v := .tuple #[itV ⟨false, 0, s.tx⟩, .bool true]) (by simp [results, Try.results19, go_sem, q0, q1, q2, itV]) rfl ⟨rfl, R4.out, M4.out⟩

end Go.Proofs.Ytjlbbnjcdickgab
