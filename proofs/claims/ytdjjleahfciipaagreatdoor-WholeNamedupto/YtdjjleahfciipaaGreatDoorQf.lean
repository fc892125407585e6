/- Gathered: CmA TcF TcG. -/
import Derived.Test.YtdjjleahfciipaaGreatDoorRows
import Derived.Below
import Derived.Lib.Strings
import Derived.Lib.Bytealg
import Derived.Deep.QuietTactic
import Derived.BigQuiet
import Derived.Test.YtdjjleahfciipaaGreatDoorQa
import Derived.Test.YtdjjleahfciipaaGreatDoorQe
/- name.Compare and the document's Compare, walked. -/
namespace Go.Proofs.YtdjjleahfciipaaGreatDoor
open Go.RowKit

/-- The order of two texts. -/
def cmpB (a b : ByteArray) : Int := Lib.compareBytes a.data.toList b.data.toList

theorem compareBytes_bd (a b : List UInt8) : -1 ≤ Lib.compareBytes a b ∧ Lib.compareBytes a b ≤ 1 := by
  induction a generalizing b with
  | nil => cases b <;> simp [Lib.compareBytes]
  | cons x a ih =>
    cases b with
    | nil => simp [Lib.compareBytes]
    | cons y b =>
      unfold Lib.compareBytes
      split
      · omega
      · split
        · omega
        · exact ih b
theorem cmpB_bd (a b : ByteArray) : -1 ≤ cmpB a b ∧ cmpB a b ≤ 1 := compareBytes_bd _ _

set_option maxHeartbeats 400000 in
theorem compare_any (a b : ByteArray) (w : World) :
    Calls Tryz.prog 97 #[.string a, .string b] w fun e w' => e = .returned (.int .i64 (cmpB a b)) ∧ w' = w := by
  have h : ∀ w, (callFunc 144 #[.string a, .string b]).run Tryz.prog w = .ok (.value (.int .i64 (cmpB a b))) w := fun w => by
    rw [run_callFunc_extern Tryz.func144 (by kernel_rfl) (by kernel_rfl) (by kernel_rfl) (e := Extern.BytealgCompare.compare) (by kernel_rfl), Lib.run_compareString]
    rfl
  go_enter Tryz.func97, Tryz.ntmps97
  go_wp2
  go_ret
  exact ⟨rfl, rfl⟩

theorem drop_bt (a : ByteArray) (k : Nat) (h : k < a.size) : ∃ x : UInt8, (x.toNat : Int) = bt a k ∧ a.data.toList.drop k = x :: a.data.toList.drop (k + 1) := by
  have h' : k < a.data.toList.length := by rw [← Lib.size_eq]; exact h
  refine ⟨a.data.toList[k], ?_, List.drop_eq_getElem_cons h'⟩
  rw [← get_bt a k h]; rfl
theorem drop_end (a : ByteArray) (k : Nat) (h : a.size ≤ k) : a.data.toList.drop k = [] := List.drop_of_length_le (by rw [← Lib.size_eq]; exact h)

end Go.Proofs.YtdjjleahfciipaaGreatDoor
/- The walk's entry. -/
namespace Go.Proofs.YtdjjleahfciipaaGreatDoor
open Go.RowKit

/-- Of the last of m entries: the one ahead of it is s'. -/
def entC (m : Nat) (s' s : ByteArray) (b : Int) : Int := if chk s ≠ 0 then chk s else if 1 < m ∧ 0 ≤ cmpB s' s then 64 else if 1048576 < b + ebP s then 2 else 0
theorem Wk.same {w w' : World} {g : Nat} {x : Option Addr} {c : Nat} {ns : List ByteArray} {b : Int} (W : Wk w g x c ns b) (hg : g < w.heap.size) (B : Below w.heap.size w w') : Wk w' g x c ns b := by
  refine ⟨(B.cell (p := ⟨g, 0, none⟩) hg).trans W.c0, (B.cell (p := ⟨g, 1, none⟩) hg).trans W.c1, (B.frozen (p := ⟨g, 0, none⟩) hg).trans W.f0, (B.frozen (p := ⟨g, 1, none⟩) hg).trans W.f1, fun k hk => ?_, W.len⟩
  obtain ⟨q, o, h1, h2, h3⟩ := W.row k hk
  exact ⟨q, o, h1, Nat.lt_of_lt_of_le h2 B.size, (B.cell (p := ⟨q, o + k, none⟩) h2).trans h3⟩
theorem Wk.drewN {w : World} {g : Nat} {x : Option Addr} {c : Nat} {ns : List ByteArray} {b : Int} (W : Wk w g x c ns b) (q : Nat) : Wk (w.drewN q) g x c ns b := ⟨W.c0, W.c1, W.f0, W.f1, W.row, W.len⟩
theorem Wk.lt {w : World} {g : Nat} {x : Option Addr} {c : Nat} {ns : List ByteArray} {b : Int} (W : Wk w g x c ns b) : g < w.heap.size := World.block_lt_of_cell? _ _ W.c0

set_option maxHeartbeats 1600000 in
theorem entry_name (JC : JoinC) (g : Nat) (x : Option Addr) (c : Nat) (ns : List ByteArray) (b : Int) (q o m cy : Nat) (s : ByteArray) (w : World) (W : Wk w g x c ns b) (hm : 1 ≤ m) (hm2 : m ≤ 1954687338211)
    (hs : w.cell? ⟨q, o + (m - 1) * 5, none⟩ = some (.string s)) (hl : ns.length ≤ 64) (hj : ∀ s ∈ ns, s.size ≤ 1048576) (hc : chk s ≠ 0) :
    Calls Tryz.prog 71 #[.pointer (some ⟨g, 0, none⟩), .slice (some ⟨q, o, none⟩) m cy] w fun e w' => e = .panicked [{ v := offV (joinB ns) (chk s), recovered := false }] ∧ Below w.heap.size w w' := by
  have CC := fun w => check_any s w
  have R := refuse_bad JC g x c ns b (chk s) w W hc hl hj
  obtain ⟨m', rfl⟩ : ∃ m', m = m' + 1 := ⟨m - 1, by omega⟩
  rw [Nat.add_sub_cancel] at hs
  generalize joinB ns = P at *
  generalize chk s = CK at *
  go_enter Tryz.func71, Tryz.ntmps71
  go_wp2_with fail
  refine (CC _).mono ?_
  rintro e w1 ⟨rfl, rfl⟩
  clear CC
  go_wp2_with fail
  refine R.mono ?_
  rintro e w1 ⟨rfl, b1⟩
  clear R
  go_wp2
  exact ⟨rfl, rfl, b1⟩

set_option maxHeartbeats 1600000 in
theorem entry_order (JC : JoinC) (g : Nat) (x : Option Addr) (c : Nat) (ns : List ByteArray) (b : Int) (q o m cy : Nat) (s' s : ByteArray) (w : World) (W : Wk w g x c ns b) (hm : 1 ≤ m) (hm2 : m ≤ 1954687338211) (hq : q < w.heap.size) 
    (hs : w.cell? ⟨q, o + (m - 1) * 5, none⟩ = some (.string s)) (hp : 1 < m → w.cell? ⟨q, o + (m - 2) * 5, none⟩ = some (.string s')) (hl : ns.length ≤ 64) (hj : ∀ s ∈ ns, s.size ≤ 1048576) (hc : chk s = 0) (ho : 1 < m ∧ 0 ≤ cmpB s' s) :
    Calls Tryz.prog 71 #[.pointer (some ⟨g, 0, none⟩), .slice (some ⟨q, o, none⟩) m cy] w fun e w' => e = .panicked [{ v := offV (joinB ns) 64, recovered := false }] ∧ Below w.heap.size w w' := by
  have CC := fun w => check_any s w
  rw [hc] at CC
  have CM := fun w => compare_any s' s w
  have R : Hid (∀ n, Calls Tryz.prog 67 #[.pointer (some ⟨g, 0, none⟩), .int .i64 64] (w.drewN n) fun e w' => e = .panicked [{ v := offV (joinB ns) 64, recovered := false }] ∧ Below (w.drewN n).heap.size (w.drewN n) w') := fun n => refuse_bad JC g x c ns b 64 _ (W.drewN n) (by decide) hl hj
  have RO := fun w => refuse_ok g w
  obtain ⟨m', rfl⟩ : ∃ m', m = m' + 2 := ⟨m - 2, by omega⟩
  have hs2 : w.cell? ⟨q, o + (m' + 1) * 5, none⟩ = some (.string s) := hs
  have hp2 : w.cell? ⟨q, o + m' * 5, none⟩ = some (.string s') := hp ho.1
  have hcm := ho.2
  have hcb := cmpB_bd s' s
  clear hs hp ho
  generalize joinB ns = P at *
  generalize cmpB s' s = CMP at *
  have g1 : decide (0 ≤ CMP) = true := by simpa using hcm
  have g2 : decide ((1 : Int) < (m' : Int) + 2) = true := by apply decide_eq_true; omega
  have g3 : (1 : Int) < (m' : Int) + 2 := by omega
  have g6 : IntKind.i64.wrap ((m' : Int) + 2 - 1 - 1) = (m' : Int) + 2 - 1 - 1 := by rw [IntKind.wrap_i64]; omega
  have g7 : ((m' : Int) + 2 - 1 - 1).toNat = m' := by omega
  have g8 : (0 : Int) ≤ (m' : Int) + 2 - 1 - 1 := by omega
  have g9 : (m' : Int) + 2 - 1 - 1 < (m' : Int) + 2 := by omega
  have g4 : IntKind.i64.wrap ((m' : Int) + 1 - 1) = (m' : Int) := by rw [IntKind.wrap_i64]; omega
  have g5 : (m' : Int) + 1 - 1 = (m' : Int) := by omega
  go_enter Tryz.func71, Tryz.ntmps71
  go_wp2_with fail
  refine (CC _).mono ?_
  rintro e w1 ⟨rfl, rfl⟩
  go_wp2_with fail
  refine (RO _).mono ?_
  rintro e w1 ⟨rfl, rfl⟩
  clear CC RO
  go_wp2
  go_quiet ((go_at_call 97; exact Calls.quiet_of_same (CM _)))
  clear CM
  have RN := R.out nq
  have BQ : Below w1.heap.size w1 (w1.drewN nq) := ⟨rfl, rfl, rfl, Nat.le_refl _, fun _ _ => rfl⟩
  generalize w1.drewN nq = wq at *
  go_wp2_with fail
  refine RN.mono ?_
  rintro e w2 ⟨rfl, b2⟩
  clear RN
  go_wp2
  exact ⟨rfl, rfl, BQ.trans (b2.mono BQ.size)⟩

theorem ent_grown {w we : World} (h : Below w.heap.size w we) (g : Nat) (v : Value) : w.grownBy (we.setCell ⟨g, 1, none⟩ v) (some g) :=
  ⟨h.os, h.tape, h.output, by simpa using h.size, fun k hk hg => (Below.heap_setCell we _ _ k (fun e => hg (by rw [e]))).trans (h.block k hk)⟩

set_option maxHeartbeats 1600000 in
theorem entry_fine (g : Nat) (x : Option Addr) (c : Nat) (ns : List ByteArray) (b : Int) (q o m cy : Nat) (s' s : ByteArray) (w : World) (W : Wk w g x c ns b) (hx : ∀ q o, x = some ⟨q, o, none⟩ → q ≠ g) (hm : 1 ≤ m) (hm2 : m ≤ 1954687338211) (hq : q < w.heap.size) (hb0 : 0 ≤ b) (hb1 : b ≤ 1048576)
    (hs : w.cell? ⟨q, o + (m - 1) * 5, none⟩ = some (.string s)) (hp : 1 < m → w.cell? ⟨q, o + (m - 2) * 5, none⟩ = some (.string s')) (hsz : s.size ≤ 140737488351232) (hc : chk s = 0) (ho : ¬ (1 < m ∧ 0 ≤ cmpB s' s)) (hbb : b + ebP s ≤ 1048576) :
    Calls Tryz.prog 71 #[.pointer (some ⟨g, 0, none⟩), .slice (some ⟨q, o, none⟩) m cy] w fun e w' => e = .returned (.tuple #[]) ∧ Wk w' g x c ns (b + ebP s) ∧ w.grownBy w' (some g) := by
  have CC := fun w => check_any s w
  rw [hc] at CC
  have CM := fun w => compare_any s' s w
  have RO := fun w => refuse_ok g w
  have EBC := fun w => entryBytes_any s w hsz
  have heb := ebP_bd s
  have HW : Hid (Wk w g x c ns b) := W
  have hgl := W.lt
  clear W
  by_cases h1 : m = 1
  · subst h1
    have hs2 : w.cell? ⟨q, o, none⟩ = some (.string s) := by simpa using hs
    clear hs hp CM ho
    go_enter Tryz.func71, Tryz.ntmps71
    go_wp2_with fail
    refine (CC _).mono ?_
    rintro e w1 ⟨rfl, rfl⟩
    go_wp2_with fail
    refine (RO _).mono ?_
    rintro e w1 ⟨rfl, rfl⟩
    clear CC RO
    go_wp2
    go_quiet (fail)
    have BQ : Hid (Below w1.heap.size w1 (w1.drewN nq)) := ⟨rfl, rfl, rfl, Nat.le_refl _, fun _ _ => rfl⟩
    have hs3 : (w1.drewN nq).cell? ⟨q, o, none⟩ = some (.string s) := hs2
    have hzq : (w1.drewN nq).heap.size = w1.heap.size := rfl
    generalize w1.drewN nq = wq at *
    go_wp2_with fail
    refine (EBC _).mono ?_
    rintro e we ⟨rfl, be⟩
    have BE : Hid (Below w1.heap.size w1 we) := BQ.out.trans (be.mono BQ.out.size)
    have WE : Hid (Wk we g x c ns b) := HW.out.same hgl BE.out
    clear EBC be hzq
    have CO := count_ok g x c ns b (ebP s) we WE.out (by omega) (by omega)
    go_wp2_with fail
    refine CO.mono ?_
    rintro e w3 ⟨rfl, rfl⟩
    clear CO
    go_wp2
    go_end0
    exact ⟨rfl, WE.out.put (b + ebP s) hx, ent_grown BE.out g _⟩
  · obtain ⟨m', rfl⟩ : ∃ m', m = m' + 2 := ⟨m - 2, by omega⟩
    have hs2 : w.cell? ⟨q, o + (m' + 1) * 5, none⟩ = some (.string s) := hs
    have hp2 : w.cell? ⟨q, o + m' * 5, none⟩ = some (.string s') := hp (by omega)
    have hcm : cmpB s' s < 0 := by omega
    have hcb := cmpB_bd s' s
    clear hs hp ho
    generalize cmpB s' s = CMP at *
    have g1 : decide (0 ≤ CMP) = false := by apply decide_eq_false; omega
    have g2 : decide ((1 : Int) < (m' : Int) + 2) = true := by apply decide_eq_true; omega
    have g3 : (1 : Int) < (m' : Int) + 2 := by omega
    have g6 : IntKind.i64.wrap ((m' : Int) + 2 - 1 - 1) = (m' : Int) + 2 - 1 - 1 := by rw [IntKind.wrap_i64]; omega
    have g7 : ((m' : Int) + 2 - 1 - 1).toNat = m' := by omega
    have g8 : (0 : Int) ≤ (m' : Int) + 2 - 1 - 1 := by omega
    have g9 : (m' : Int) + 2 - 1 - 1 < (m' : Int) + 2 := by omega
    go_enter Tryz.func71, Tryz.ntmps71
    go_wp2_with fail
    refine (CC _).mono ?_
    rintro e w1 ⟨rfl, rfl⟩
    go_wp2_with fail
    refine (RO _).mono ?_
    rintro e w1 ⟨rfl, rfl⟩
    clear CC RO
    go_wp2
    go_quiet ((go_at_call 97; exact Calls.quiet_of_same (CM _)))
    clear CM
    have BQ : Hid (Below w1.heap.size w1 (w1.drewN nq)) := ⟨rfl, rfl, rfl, Nat.le_refl _, fun _ _ => rfl⟩
    have hs3 : (w1.drewN nq).cell? ⟨q, o + (m' + 1) * 5, none⟩ = some (.string s) := hs2
    have hzq : (w1.drewN nq).heap.size = w1.heap.size := rfl
    generalize w1.drewN nq = wq at *
    go_wp2_with fail
    refine (EBC _).mono ?_
    rintro e we ⟨rfl, be⟩
    have BE : Hid (Below w1.heap.size w1 we) := BQ.out.trans (be.mono BQ.out.size)
    have WE : Hid (Wk we g x c ns b) := HW.out.same hgl BE.out
    clear EBC be hzq
    have CO := count_ok g x c ns b (ebP s) we WE.out (by omega) (by omega)
    go_wp2_with fail
    refine CO.mono ?_
    rintro e w3 ⟨rfl, rfl⟩
    clear CO
    go_wp2
    go_end0
    exact ⟨rfl, WE.out.put (b + ebP s) hx, ent_grown BE.out g _⟩

set_option maxHeartbeats 1600000 in
theorem entry_big (JC : JoinC) (g : Nat) (x : Option Addr) (c : Nat) (ns : List ByteArray) (b : Int) (q o m cy : Nat) (s' s : ByteArray) (w : World) (W : Wk w g x c ns b) (hx : ∀ q o, x = some ⟨q, o, none⟩ → q ≠ g) (hm : 1 ≤ m) (hm2 : m ≤ 1954687338211) (hq : q < w.heap.size) (hb0 : 0 ≤ b) (hb1 : b ≤ 1048576)
    (hs : w.cell? ⟨q, o + (m - 1) * 5, none⟩ = some (.string s)) (hp : 1 < m → w.cell? ⟨q, o + (m - 2) * 5, none⟩ = some (.string s')) (hsz : s.size ≤ 140737488351232) (hl : ns.length ≤ 64) (hj : ∀ s ∈ ns, s.size ≤ 1048576) (hc : chk s = 0) (ho : ¬ (1 < m ∧ 0 ≤ cmpB s' s)) (hbb : 1048576 < b + ebP s) :
    Calls Tryz.prog 71 #[.pointer (some ⟨g, 0, none⟩), .slice (some ⟨q, o, none⟩) m cy] w fun e w' => e = .panicked [{ v := offV (joinB ns) 2, recovered := false }] ∧ Below (min g w.heap.size) w w' := by
  have CC := fun w => check_any s w
  rw [hc] at CC
  have CM := fun w => compare_any s' s w
  have RO := fun w => refuse_ok g w
  have EBC := fun w => entryBytes_any s w hsz
  have heb := ebP_bd s
  have HW : Hid (Wk w g x c ns b) := W
  have hgl := W.lt
  clear W
  by_cases h1 : m = 1
  · subst h1
    have hs2 : w.cell? ⟨q, o, none⟩ = some (.string s) := by simpa using hs
    clear hs hp CM ho
    go_enter Tryz.func71, Tryz.ntmps71
    go_wp2_with fail
    refine (CC _).mono ?_
    rintro e w1 ⟨rfl, rfl⟩
    go_wp2_with fail
    refine (RO _).mono ?_
    rintro e w1 ⟨rfl, rfl⟩
    clear CC RO
    go_wp2
    go_quiet (fail)
    have BQ : Hid (Below w1.heap.size w1 (w1.drewN nq)) := ⟨rfl, rfl, rfl, Nat.le_refl _, fun _ _ => rfl⟩
    have hs3 : (w1.drewN nq).cell? ⟨q, o, none⟩ = some (.string s) := hs2
    have hzq : (w1.drewN nq).heap.size = w1.heap.size := rfl
    generalize w1.drewN nq = wq at *
    go_wp2_with fail
    refine (EBC _).mono ?_
    rintro e we ⟨rfl, be⟩
    have BE : Hid (Below w1.heap.size w1 we) := BQ.out.trans (be.mono BQ.out.size)
    have WE : Hid (Wk we g x c ns b) := HW.out.same hgl BE.out
    clear EBC be hzq
    have CB := count_bad JC g x c ns b (ebP s) we WE.out hx (by omega) (by omega) hl hj (min g w1.heap.size) (Nat.min_le_left _ _) (Nat.le_trans (Nat.min_le_right _ _) BE.out.size)
    go_wp2_with fail
    refine CB.mono ?_
    rintro e w3 ⟨rfl, b3⟩
    clear CB
    go_wp2
    exact ⟨rfl, rfl, (BE.out.mono (Nat.min_le_right _ _)).trans b3⟩
  · obtain ⟨m', rfl⟩ : ∃ m', m = m' + 2 := ⟨m - 2, by omega⟩
    have hs2 : w.cell? ⟨q, o + (m' + 1) * 5, none⟩ = some (.string s) := hs
    have hp2 : w.cell? ⟨q, o + m' * 5, none⟩ = some (.string s') := hp (by omega)
    have hcm : cmpB s' s < 0 := by omega
    have hcb := cmpB_bd s' s
    clear hs hp ho
    generalize cmpB s' s = CMP at *
    have g1 : decide (0 ≤ CMP) = false := by apply decide_eq_false; omega
    have g2 : decide ((1 : Int) < (m' : Int) + 2) = true := by apply decide_eq_true; omega
    have g3 : (1 : Int) < (m' : Int) + 2 := by omega
    have g6 : IntKind.i64.wrap ((m' : Int) + 2 - 1 - 1) = (m' : Int) + 2 - 1 - 1 := by rw [IntKind.wrap_i64]; omega
    have g7 : ((m' : Int) + 2 - 1 - 1).toNat = m' := by omega
    have g8 : (0 : Int) ≤ (m' : Int) + 2 - 1 - 1 := by omega
    have g9 : (m' : Int) + 2 - 1 - 1 < (m' : Int) + 2 := by omega
    go_enter Tryz.func71, Tryz.ntmps71
    go_wp2_with fail
    refine (CC _).mono ?_
    rintro e w1 ⟨rfl, rfl⟩
    go_wp2_with fail
    refine (RO _).mono ?_
    rintro e w1 ⟨rfl, rfl⟩
    clear CC RO
    go_wp2
    go_quiet ((go_at_call 97; exact Calls.quiet_of_same (CM _)))
    clear CM
    have BQ : Hid (Below w1.heap.size w1 (w1.drewN nq)) := ⟨rfl, rfl, rfl, Nat.le_refl _, fun _ _ => rfl⟩
    have hs3 : (w1.drewN nq).cell? ⟨q, o + (m' + 1) * 5, none⟩ = some (.string s) := hs2
    have hzq : (w1.drewN nq).heap.size = w1.heap.size := rfl
    generalize w1.drewN nq = wq at *
    go_wp2_with fail
    refine (EBC _).mono ?_
    rintro e we ⟨rfl, be⟩
    have BE : Hid (Below w1.heap.size w1 we) := BQ.out.trans (be.mono BQ.out.size)
    have WE : Hid (Wk we g x c ns b) := HW.out.same hgl BE.out
    clear EBC be hzq
    have CB := count_bad JC g x c ns b (ebP s) we WE.out hx (by omega) (by omega) hl hj (min g w1.heap.size) (Nat.min_le_left _ _) (Nat.le_trans (Nat.min_le_right _ _) BE.out.size)
    go_wp2_with fail
    refine CB.mono ?_
    rintro e w3 ⟨rfl, b3⟩
    clear CB
    go_wp2
    exact ⟨rfl, rfl, (BE.out.mono (Nat.min_le_right _ _)).trans b3⟩

end Go.Proofs.YtdjjleahfciipaaGreatDoor
/- The walk of a tree as a pure function: the bytes, or the first offence with its path. -/
namespace Go.Proofs.YtdjjleahfciipaaGreatDoor
open Go.RowKit

/-- The bytes so far; what the walk gave up with. -/
structure VR where
  bytes : Int
  off : Option (ByteArray × Int)
/-- Of an entry: the name ahead of it, if there is one. -/
def entO (prev : Option ByteArray) (s : ByteArray) (b : Int) : Int := match prev with
  | none => entC 1 s s b
  | some s' => entC 2 s' s b
mutual
def vT (ns : List ByteArray) (b : Int) : Tr → VR
  | .mk k e t nms ks =>
    if 32 < 1 + ns.length then ⟨b, some (joinB ns, 61)⟩
    else if cfP k e t nms.length ≠ 0 then ⟨b, some (joinB ns, cfP k e t nms.length)⟩
    else if 1048576 < b + nbP k e t then ⟨b + nbP k e t, some (joinB ns, 2)⟩
    else vL ns (b + nbP k e t) none nms ks
def vL (ns : List ByteArray) (b : Int) (prev : Option ByteArray) : List ByteArray → List Tr → VR
  | s :: nms, T :: ks =>
    if entO prev s b ≠ 0 then ⟨b, some (joinB (ns ++ [s]), entO prev s b)⟩
    else match (vT (ns ++ [s]) (b + ebP s) T).off with
      | none => vL ns (vT (ns ++ [s]) (b + ebP s) T).bytes (some s) nms ks
      | some o => ⟨(vT (ns ++ [s]) (b + ebP s) T).bytes, some o⟩
  | _, _ => ⟨b, none⟩
end
theorem entO_ok (prev : Option ByteArray) (s : ByteArray) (b : Int) (h : entO prev s b = 0) : chk s = 0 ∧ b + ebP s ≤ 1048576 := by
  have key : ∀ m s', entC m s' s b = 0 → chk s = 0 ∧ b + ebP s ≤ 1048576 := fun m s' h => by
    unfold entC at h
    split at h
    · rename_i h1; exact absurd h h1
    · rename_i h1
      split at h
      · exact absurd h (by decide)
      · split at h
        · exact absurd h (by decide)
        · rename_i h3
          exact ⟨by omega, by omega⟩
  cases prev with
  | none => exact key 1 s h
  | some s' => exact key 2 s' h

mutual
/-- A walk that gives nothing up has counted the tree's bytes. -/
theorem vT_bytes (ns : List ByteArray) (b : Int) : ∀ T : Tr, (vT ns b T).off = none → (vT ns b T).bytes = b + tbT T
  | .mk k e t nms ks => fun h => by
    rw [vT] at h ⊢
    split at h
    · cases h
    · rename_i h1
      rw [if_neg h1]
      split at h
      · cases h
      · rename_i h2
        rw [if_neg h2]
        split at h
        · cases h
        · rename_i h3
          rw [if_neg h3]
          have := vL_bytes ns (b + nbP k e t) none nms ks h
          rw [this, tbT]
          omega
theorem vL_bytes (ns : List ByteArray) (b : Int) (prev : Option ByteArray) : ∀ (nms : List ByteArray) (ks : List Tr), (vL ns b prev nms ks).off = none → (vL ns b prev nms ks).bytes = b + tbL nms ks
  | s :: nms, T :: ks => fun h => by
    rw [vL] at h ⊢
    split at h
    · cases h
    · rename_i h1
      rw [if_neg h1]
      cases hv : (vT (ns ++ [s]) (b + ebP s) T).off with
      | some o => rw [hv] at h; cases h
      | none =>
        rw [hv] at h
        have e1 := vT_bytes (ns ++ [s]) (b + ebP s) T hv
        have e2 := vL_bytes ns (vT (ns ++ [s]) (b + ebP s) T).bytes (some s) nms ks h
        show (vL ns (vT (ns ++ [s]) (b + ebP s) T).bytes (some s) nms ks).bytes = _
        rw [e2, e1, tbL]
        omega
  | [], _ => fun _ => by rw [vL, tbL] <;> simp
  | _ :: _, [] => fun _ => by rw [vL, tbL] <;> simp
end

end Go.Proofs.YtdjjleahfciipaaGreatDoor
