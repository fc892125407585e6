/- The walk's entry. -/
import Derived.Test.YtljcbibcdajhiaaTcE
import Derived.Test.YtljcbibcdajhiaaCmA
import Derived.Deep.QuietTactic
import Derived.BigQuiet
namespace Go.Proofs.Ytljcbibcdajhiaa
open Go.RowKit

/-- Of the last of m entries: the one ahead of it is s'. -/
def entC (m : Nat) (s' s : ByteArray) (b : Int) : Int := if chk s ≠ 0 then chk s else if 1 < m ∧ 0 ≤ cmpB s' s then 64 else if 1048576 < b + ebP s then 2 else 0
theorem Wk.same {w w' : World} {g : Nat} {x : Option Addr} {c : Nat} {ns : List ByteArray} {b : Int} (W : Wk w g x c ns b) (hg : g < w.heap.size) (B : Below w.heap.size w w') : Wk w' g x c ns b := by
  refine ⟨(B.cell (p := ⟨g, 0, none⟩) hg).trans W.c0, (B.cell (p := ⟨g, 1, none⟩) hg).trans W.c1, (B.frozen (p := ⟨g, 0, none⟩) hg).trans W.f0, (B.frozen (p := ⟨g, 1, none⟩) hg).trans W.f1, fun k hk => ?_, W.len⟩
  obtain ⟨q, o, h1, h2, h3⟩ := W.row k hk
  exact ⟨q, o, h1, Nat.lt_of_lt_of_le h2 B.size, (B.cell (p := ⟨q, o + k, none⟩) h2).trans h3⟩
theorem Wk.drewN {w : World} {g : Nat} {x : Option Addr} {c : Nat} {ns : List ByteArray} {b : Int} (W : Wk w g x c ns b) (q : Nat) : Wk (w.drewN q) g x c ns b := ⟨W.c0, W.c1, W.f0, W.f1, W.row, W.len⟩
theorem Wk.lt {w : World} {g : Nat} {x : Option Addr} {c : Nat} {ns : List ByteArray} {b : Int} (W : Wk w g x c ns b) : g < w.heap.size := World.block_lt_of_cell? _ _ W.c0

set_option maxHeartbeats 1600000 in
theorem entry_name (JC : JoinC) (g : Nat) (x : Option Addr) (c : Nat) (ns : List ByteArray) (b : Int) (q o m cy : Nat) (s : ByteArray) (w : World) (W : Wk w g x c ns b) (hm : 1 ≤ m) (hm2 : m ≤ 1954687338211)
    (hs : w.cell? ⟨q, o + (m - 1) * 5, none⟩ = some (.string s)) (hl : ns.length ≤ 64) (hj : ∀ s ∈ ns, s.size ≤ 1048576) (hc : chk s ≠ 0) :
    Calls Try.prog 51 #[.pointer (some ⟨g, 0, none⟩), .slice (some ⟨q, o, none⟩) m cy] w fun e w' => e = .panicked [{ v := offV (joinB ns) (chk s), recovered := false }] ∧ Below w.heap.size w w' := by
  have CC := fun w => check_any s w
  have R := refuse_bad JC g x c ns b (chk s) w W hc hl hj
  obtain ⟨m', rfl⟩ : ∃ m', m = m' + 1 := ⟨m - 1, by omega⟩
  rw [Nat.add_sub_cancel] at hs
  generalize joinB ns = P at *
  generalize chk s = CK at *
  go_enter Try.func51, Try.ntmps51
  go_wp2_with fail
  refine (CC _).mono ?_
  rintro e w1 ⟨rfl, rfl⟩
  clear CC
  go_wp2_with fail
  refine R.mono ?_
  rintro e w1 ⟨rfl, b1⟩
  clear R
  go_wp2
  exact ⟨rfl, rfl, b1⟩

set_option maxHeartbeats 1600000 in
theorem entry_order (JC : JoinC) (g : Nat) (x : Option Addr) (c : Nat) (ns : List ByteArray) (b : Int) (q o m cy : Nat) (s' s : ByteArray) (w : World) (W : Wk w g x c ns b) (hm : 1 ≤ m) (hm2 : m ≤ 1954687338211) (hq : q < w.heap.size) 
    (hs : w.cell? ⟨q, o + (m - 1) * 5, none⟩ = some (.string s)) (hp : 1 < m → w.cell? ⟨q, o + (m - 2) * 5, none⟩ = some (.string s')) (hl : ns.length ≤ 64) (hj : ∀ s ∈ ns, s.size ≤ 1048576) (hc : chk s = 0) (ho : 1 < m ∧ 0 ≤ cmpB s' s) :
    Calls Try.prog 51 #[.pointer (some ⟨g, 0, none⟩), .slice (some ⟨q, o, none⟩) m cy] w fun e w' => e = .panicked [{ v := offV (joinB ns) 64, recovered := false }] ∧ Below w.heap.size w w' := by
  have CC := fun w => check_any s w
  rw [hc] at CC
  have CM := fun w => compare_any s' s w
  have R : Hid (∀ n, Calls Try.prog 47 #[.pointer (some ⟨g, 0, none⟩), .int .i64 64] (w.drewN n) fun e w' => e = .panicked [{ v := offV (joinB ns) 64, recovered := false }] ∧ Below (w.drewN n).heap.size (w.drewN n) w') := fun n => refuse_bad JC g x c ns b 64 _ (W.drewN n) (by decide) hl hj
  have RO := fun w => refuse_ok g w
  obtain ⟨m', rfl⟩ : ∃ m', m = m' + 2 := ⟨m - 2, by omega⟩
  have hs2 : w.cell? ⟨q, o + (m' + 1) * 5, none⟩ = some (.string s) := hs
  have hp2 : w.cell? ⟨q, o + m' * 5, none⟩ = some (.string s') := hp ho.1
  have hcm := ho.2
  have hcb := cmpB_bd s' s
  clear hs hp ho
  generalize joinB ns = P at *
  generalize cmpB s' s = CMP at *
  have g1 : decide (0 ≤ CMP) = true := by simpa using hcm
  have g2 : decide ((1 : Int) < (m' : Int) + 2) = true := by apply decide_eq_true; omega
  have g3 : (1 : Int) < (m' : Int) + 2 := by omega
  have g6 : IntKind.i64.wrap ((m' : Int) + 2 - 1 - 1) = (m' : Int) + 2 - 1 - 1 := by rw [IntKind.wrap_i64]; omega
  have g7 : ((m' : Int) + 2 - 1 - 1).toNat = m' := by omega
  have g8 : (0 : Int) ≤ (m' : Int) + 2 - 1 - 1 := by omega
  have g9 : (m' : Int) + 2 - 1 - 1 < (m' : Int) + 2 := by omega
  have g4 : IntKind.i64.wrap ((m' : Int) + 1 - 1) = (m' : Int) := by rw [IntKind.wrap_i64]; omega
  have g5 : (m' : Int) + 1 - 1 = (m' : Int) := by omega
  go_enter Try.func51, Try.ntmps51
  go_wp2_with fail
  refine (CC _).mono ?_
  rintro e w1 ⟨rfl, rfl⟩
  go_wp2_with fail
  refine (RO _).mono ?_
  rintro e w1 ⟨rfl, rfl⟩
  clear CC RO
  go_wp2
  go_quiet ((go_at_call 58; exact Calls.quiet_of_same (CM _)))
  clear CM
  have RN := R.out nq
  have BQ : Below w1.heap.size w1 (w1.drewN nq) := ⟨rfl, rfl, rfl, Nat.le_refl _, fun _ _ => rfl⟩
  generalize w1.drewN nq = wq at *
  go_wp2_with fail
  refine RN.mono ?_
  rintro e w2 ⟨rfl, b2⟩
  clear RN
  go_wp2
  exact ⟨rfl, rfl, BQ.trans (b2.mono BQ.size)⟩

theorem ent_grown {w we : World} (h : Below w.heap.size w we) (g : Nat) (v : Value) : w.grownBy (we.setCell ⟨g, 1, none⟩ v) (some g) :=
  ⟨h.os, h.tape, h.output, by simpa using h.size, fun k hk hg => (Below.heap_setCell we _ _ k (fun e => hg (by rw [e]))).trans (h.block k hk)⟩

set_option maxHeartbeats 1600000 in
theorem entry_fine (g : Nat) (x : Option Addr) (c : Nat) (ns : List ByteArray) (b : Int) (q o m cy : Nat) (s' s : ByteArray) (w : World) (W : Wk w g x c ns b) (hx : ∀ q o, x = some ⟨q, o, none⟩ → q ≠ g) (hm : 1 ≤ m) (hm2 : m ≤ 1954687338211) (hq : q < w.heap.size) (hb0 : 0 ≤ b) (hb1 : b ≤ 1048576)
    (hs : w.cell? ⟨q, o + (m - 1) * 5, none⟩ = some (.string s)) (hp : 1 < m → w.cell? ⟨q, o + (m - 2) * 5, none⟩ = some (.string s')) (hsz : s.size ≤ 140737488351232) (hc : chk s = 0) (ho : ¬ (1 < m ∧ 0 ≤ cmpB s' s)) (hbb : b + ebP s ≤ 1048576) :
    Calls Try.prog 51 #[.pointer (some ⟨g, 0, none⟩), .slice (some ⟨q, o, none⟩) m cy] w fun e w' => e = .returned (.tuple #[]) ∧ Wk w' g x c ns (b + ebP s) ∧ w.grownBy w' (some g) := by
  have CC := fun w => check_any s w
  rw [hc] at CC
  have CM := fun w => compare_any s' s w
  have RO := fun w => refuse_ok g w
  have EBC := fun w => entryBytes_any s w hsz
  have heb := ebP_bd s
  have HW : Hid (Wk w g x c ns b) := W
  have hgl := W.lt
  clear W
  by_cases h1 : m = 1
  · subst h1
    have hs2 : w.cell? ⟨q, o, none⟩ = some (.string s) := by simpa using hs
    clear hs hp CM ho
    go_enter Try.func51, Try.ntmps51
    go_wp2_with fail
    refine (CC _).mono ?_
    rintro e w1 ⟨rfl, rfl⟩
    go_wp2_with fail
    refine (RO _).mono ?_
    rintro e w1 ⟨rfl, rfl⟩
    clear CC RO
    go_wp2
    go_quiet (fail)
    have BQ : Hid (Below w1.heap.size w1 (w1.drewN nq)) := ⟨rfl, rfl, rfl, Nat.le_refl _, fun _ _ => rfl⟩
    have hs3 : (w1.drewN nq).cell? ⟨q, o, none⟩ = some (.string s) := hs2
    have hzq : (w1.drewN nq).heap.size = w1.heap.size := rfl
    generalize w1.drewN nq = wq at *
    go_wp2_with fail
    refine (EBC _).mono ?_
    rintro e we ⟨rfl, be⟩
    have BE : Hid (Below w1.heap.size w1 we) := BQ.out.trans (be.mono BQ.out.size)
    have WE : Hid (Wk we g x c ns b) := HW.out.same hgl BE.out
    clear EBC be hzq
    have CO := count_ok g x c ns b (ebP s) we WE.out (by omega) (by omega)
    go_wp2_with fail
    refine CO.mono ?_
    rintro e w3 ⟨rfl, rfl⟩
    clear CO
    go_wp2
    go_end0
    exact ⟨rfl, WE.out.put (b + ebP s) hx, ent_grown BE.out g _⟩
  · obtain ⟨m', rfl⟩ : ∃ m', m = m' + 2 := ⟨m - 2, by omega⟩
    have hs2 : w.cell? ⟨q, o + (m' + 1) * 5, none⟩ = some (.string s) := hs
    have hp2 : w.cell? ⟨q, o + m' * 5, none⟩ = some (.string s') := hp (by omega)
    have hcm : cmpB s' s < 0 := by omega
    have hcb := cmpB_bd s' s
    clear hs hp ho
    generalize cmpB s' s = CMP at *
    have g1 : decide (0 ≤ CMP) = false := by apply decide_eq_false; omega
    have g2 : decide ((1 : Int) < (m' : Int) + 2) = true := by apply decide_eq_true; omega
    have g3 : (1 : Int) < (m' : Int) + 2 := by omega
    have g6 : IntKind.i64.wrap ((m' : Int) + 2 - 1 - 1) = (m' : Int) + 2 - 1 - 1 := by rw [IntKind.wrap_i64]; omega
    have g7 : ((m' : Int) + 2 - 1 - 1).toNat = m' := by omega
    have g8 : (0 : Int) ≤ (m' : Int) + 2 - 1 - 1 := by omega
    have g9 : (m' : Int) + 2 - 1 - 1 < (m' : Int) + 2 := by omega
    go_enter Try.func51, Try.ntmps51
    go_wp2_with fail
    refine (CC _).mono ?_
    rintro e w1 ⟨rfl, rfl⟩
    go_wp2_with fail
    refine (RO _).mono ?_
    rintro e w1 ⟨rfl, rfl⟩
    clear CC RO
    go_wp2
    go_quiet ((go_at_call 58; exact Calls.quiet_of_same (CM _)))
    clear CM
    have BQ : Hid (Below w1.heap.size w1 (w1.drewN nq)) := ⟨rfl, rfl, rfl, Nat.le_refl _, fun _ _ => rfl⟩
    have hs3 : (w1.drewN nq).cell? ⟨q, o + (m' + 1) * 5, none⟩ = some (.string s) := hs2
    have hzq : (w1.drewN nq).heap.size = w1.heap.size := rfl
    generalize w1.drewN nq = wq at *
    go_wp2_with fail
    refine (EBC _).mono ?_
    rintro e we ⟨rfl, be⟩
    have BE : Hid (Below w1.heap.size w1 we) := BQ.out.trans (be.mono BQ.out.size)
    have WE : Hid (Wk we g x c ns b) := HW.out.same hgl BE.out
    clear EBC be hzq
    have CO := count_ok g x c ns b (ebP s) we WE.out (by omega) (by omega)
    go_wp2_with fail
    refine CO.mono ?_
    rintro e w3 ⟨rfl, rfl⟩
    clear CO
    go_wp2
    go_end0
    exact ⟨rfl, WE.out.put (b + ebP s) hx, ent_grown BE.out g _⟩

set_option maxHeartbeats 1600000 in
theorem entry_big (JC : JoinC) (g : Nat) (x : Option Addr) (c : Nat) (ns : List ByteArray) (b : Int) (q o m cy : Nat) (s' s : ByteArray) (w : World) (W : Wk w g x c ns b) (hx : ∀ q o, x = some ⟨q, o, none⟩ → q ≠ g) (hm : 1 ≤ m) (hm2 : m ≤ 1954687338211) (hq : q < w.heap.size) (hb0 : 0 ≤ b) (hb1 : b ≤ 1048576)
    (hs : w.cell? ⟨q, o + (m - 1) * 5, none⟩ = some (.string s)) (hp : 1 < m → w.cell? ⟨q, o + (m - 2) * 5, none⟩ = some (.string s')) (hsz : s.size ≤ 140737488351232) (hl : ns.length ≤ 64) (hj : ∀ s ∈ ns, s.size ≤ 1048576) (hc : chk s = 0) (ho : ¬ (1 < m ∧ 0 ≤ cmpB s' s)) (hbb : 1048576 < b + ebP s) :
    Calls Try.prog 51 #[.pointer (some ⟨g, 0, none⟩), .slice (some ⟨q, o, none⟩) m cy] w fun e w' => e = .panicked [{ v := offV (joinB ns) 2, recovered := false }] ∧ Below (min g w.heap.size) w w' := by
  have CC := fun w => check_any s w
  rw [hc] at CC
  have CM := fun w => compare_any s' s w
  have RO := fun w => refuse_ok g w
  have EBC := fun w => entryBytes_any s w hsz
  have heb := ebP_bd s
  have HW : Hid (Wk w g x c ns b) := W
  have hgl := W.lt
  clear W
  by_cases h1 : m = 1
  · subst h1
    have hs2 : w.cell? ⟨q, o, none⟩ = some (.string s) := by simpa using hs
    clear hs hp CM ho
    go_enter Try.func51, Try.ntmps51
    go_wp2_with fail
    refine (CC _).mono ?_
    rintro e w1 ⟨rfl, rfl⟩
    go_wp2_with fail
    refine (RO _).mono ?_
    rintro e w1 ⟨rfl, rfl⟩
    clear CC RO
    go_wp2
    go_quiet (fail)
    have BQ : Hid (Below w1.heap.size w1 (w1.drewN nq)) := ⟨rfl, rfl, rfl, Nat.le_refl _, fun _ _ => rfl⟩
    have hs3 : (w1.drewN nq).cell? ⟨q, o, none⟩ = some (.string s) := hs2
    have hzq : (w1.drewN nq).heap.size = w1.heap.size := rfl
    generalize w1.drewN nq = wq at *
    go_wp2_with fail
    refine (EBC _).mono ?_
    rintro e we ⟨rfl, be⟩
    have BE : Hid (Below w1.heap.size w1 we) := BQ.out.trans (be.mono BQ.out.size)
    have WE : Hid (Wk we g x c ns b) := HW.out.same hgl BE.out
    clear EBC be hzq
    have CB := count_bad JC g x c ns b (ebP s) we WE.out hx (by omega) (by omega) hl hj (min g w1.heap.size) (Nat.min_le_left _ _) (Nat.le_trans (Nat.min_le_right _ _) BE.out.size)
    go_wp2_with fail
    refine CB.mono ?_
    rintro e w3 ⟨rfl, b3⟩
    clear CB
    go_wp2
    exact ⟨rfl, rfl, (BE.out.mono (Nat.min_le_right _ _)).trans b3⟩
  · obtain ⟨m', rfl⟩ : ∃ m', m = m' + 2 := ⟨m - 2, by omega⟩
    have hs2 : w.cell? ⟨q, o + (m' + 1) * 5, none⟩ = some (.string s) := hs
    have hp2 : w.cell? ⟨q, o + m' * 5, none⟩ = some (.string s') := hp (by omega)
    have hcm : cmpB s' s < 0 := by omega
    have hcb := cmpB_bd s' s
    clear hs hp ho
    generalize cmpB s' s = CMP at *
    have g1 : decide (0 ≤ CMP) = false := by apply decide_eq_false; omega
    have g2 : decide ((1 : Int) < (m' : Int) + 2) = true := by apply decide_eq_true; omega
    have g3 : (1 : Int) < (m' : Int) + 2 := by omega
    have g6 : IntKind.i64.wrap ((m' : Int) + 2 - 1 - 1) = (m' : Int) + 2 - 1 - 1 := by rw [IntKind.wrap_i64]; omega
    have g7 : ((m' : Int) + 2 - 1 - 1).toNat = m' := by omega
    have g8 : (0 : Int) ≤ (m' : Int) + 2 - 1 - 1 := by omega
    have g9 : (m' : Int) + 2 - 1 - 1 < (m' : Int) + 2 := by omega
    go_enter Try.func51, Try.ntmps51
    go_wp2_with fail
    refine (CC _).mono ?_
    rintro e w1 ⟨rfl, rfl⟩
    go_wp2_with fail
    refine (RO _).mono ?_
    rintro e w1 ⟨rfl, rfl⟩
    clear CC RO
    go_wp2
    go_quiet ((go_at_call 58; exact Calls.quiet_of_same (CM _)))
    clear CM
    have BQ : Hid (Below w1.heap.size w1 (w1.drewN nq)) := ⟨rfl, rfl, rfl, Nat.le_refl _, fun _ _ => rfl⟩
    have hs3 : (w1.drewN nq).cell? ⟨q, o + (m' + 1) * 5, none⟩ = some (.string s) := hs2
    have hzq : (w1.drewN nq).heap.size = w1.heap.size := rfl
    generalize w1.drewN nq = wq at *
    go_wp2_with fail
    refine (EBC _).mono ?_
    rintro e we ⟨rfl, be⟩
    have BE : Hid (Below w1.heap.size w1 we) := BQ.out.trans (be.mono BQ.out.size)
    have WE : Hid (Wk we g x c ns b) := HW.out.same hgl BE.out
    clear EBC be hzq
    have CB := count_bad JC g x c ns b (ebP s) we WE.out hx (by omega) (by omega) hl hj (min g w1.heap.size) (Nat.min_le_left _ _) (Nat.le_trans (Nat.min_le_right _ _) BE.out.size)
    go_wp2_with fail
    refine CB.mono ?_
    rintro e w3 ⟨rfl, b3⟩
    clear CB
    go_wp2
    exact ⟨rfl, rfl, (BE.out.mono (Nat.min_le_right _ _)).trans b3⟩

end Go.Proofs.Ytljcbibcdajhiaa
