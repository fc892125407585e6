/- TcF TcG TvA, gathered (own text of the verifier). -/
import Derived.Test.YtcmdeiohnkbjlaaDoorXD
import Derived.Test.YtcmdeiohnkbjlaaDoorCmA
import Derived.Deep.QuietTactic
import Derived.BigQuiet
import Derived.Deep.AppendLies
import Derived.Laws.OwnMore
import Derived.OneCell
import Derived.Lib.OwnKind
namespace Go.Proofs.YtcmdeiohnkbjlaaDoor
open Go.RowKit

/-- Of the last of m entries: the one ahead of it is s'. -/
def entC (m : Nat) (s' s : ByteArray) (b : Int) : Int := if chk s ≠ 0 then chk s else if 1 < m ∧ 0 ≤ cmpB s' s then 64 else if 1048576 < b + ebP s then 2 else 0
theorem Wk.same {w w' : World} {g : Nat} {x : Option Addr} {c : Nat} {ns : List ByteArray} {b : Int} (W : Wk w g x c ns b) (hg : g < w.heap.size) (B : Below w.heap.size w w') : Wk w' g x c ns b := by
  refine ⟨(B.cell (p := ⟨g, 0, none⟩) hg).trans W.c0, (B.cell (p := ⟨g, 1, none⟩) hg).trans W.c1, (B.frozen (p := ⟨g, 0, none⟩) hg).trans W.f0, (B.frozen (p := ⟨g, 1, none⟩) hg).trans W.f1, fun k hk => ?_, W.len⟩
  obtain ⟨q, o, h1, h2, h3⟩ := W.row k hk
  exact ⟨q, o, h1, Nat.lt_of_lt_of_le h2 B.size, (B.cell (p := ⟨q, o + k, none⟩) h2).trans h3⟩
theorem Wk.drewN {w : World} {g : Nat} {x : Option Addr} {c : Nat} {ns : List ByteArray} {b : Int} (W : Wk w g x c ns b) (q : Nat) : Wk (w.drewN q) g x c ns b := ⟨W.c0, W.c1, W.f0, W.f1, W.row, W.len⟩
theorem Wk.lt {w : World} {g : Nat} {x : Option Addr} {c : Nat} {ns : List ByteArray} {b : Int} (W : Wk w g x c ns b) : g < w.heap.size := World.block_lt_of_cell? _ _ W.c0

set_option maxHeartbeats 1600000 in
theorem entry_name (JC : JoinC) (g : Nat) (x : Option Addr) (c : Nat) (ns : List ByteArray) (b : Int) (q o m cy : Nat) (s : ByteArray) (w : World) (W : Wk w g x c ns b) (hm : 1 ≤ m) (hm2 : m ≤ 1954687338211)
    (hs : w.cell? ⟨q, o + (m - 1) * 5, none⟩ = some (.string s)) (hl : ns.length ≤ 64) (hj : ∀ s ∈ ns, s.size ≤ 1048576) (hc : chk s ≠ 0) :
    Calls Tryd.prog 40 #[.pointer (some ⟨g, 0, none⟩), .slice (some ⟨q, o, none⟩) m cy] w fun e w' => e = .panicked [{ v := offV (joinB ns) (chk s), recovered := false }] ∧ Below w.heap.size w w' := by
  have CC := fun w => check_any s w
  have R := refuse_bad JC g x c ns b (chk s) w W hc hl hj
  obtain ⟨m', rfl⟩ : ∃ m', m = m' + 1 := ⟨m - 1, by omega⟩
  rw [Nat.add_sub_cancel] at hs
  generalize joinB ns = P at *
  generalize chk s = CK at *
  go_enter Tryd.func40, Tryd.ntmps40
  go_wp2_with fail
  refine (CC _).mono ?_
  rintro e w1 ⟨rfl, rfl⟩
  clear CC
  go_wp2_with fail
  refine R.mono ?_
  rintro e w1 ⟨rfl, b1⟩
  clear R
  go_wp2
  exact ⟨rfl, rfl, b1⟩

set_option maxHeartbeats 1600000 in
theorem entry_order (JC : JoinC) (g : Nat) (x : Option Addr) (c : Nat) (ns : List ByteArray) (b : Int) (q o m cy : Nat) (s' s : ByteArray) (w : World) (W : Wk w g x c ns b) (hm : 1 ≤ m) (hm2 : m ≤ 1954687338211) (hq : q < w.heap.size) 
    (hs : w.cell? ⟨q, o + (m - 1) * 5, none⟩ = some (.string s)) (hp : 1 < m → w.cell? ⟨q, o + (m - 2) * 5, none⟩ = some (.string s')) (hl : ns.length ≤ 64) (hj : ∀ s ∈ ns, s.size ≤ 1048576) (hc : chk s = 0) (ho : 1 < m ∧ 0 ≤ cmpB s' s) :
    Calls Tryd.prog 40 #[.pointer (some ⟨g, 0, none⟩), .slice (some ⟨q, o, none⟩) m cy] w fun e w' => e = .panicked [{ v := offV (joinB ns) 64, recovered := false }] ∧ Below w.heap.size w w' := by
  have CC := fun w => check_any s w
  rw [hc] at CC
  have CM := fun w => compare_any s' s w
  have R : Hid (∀ n, Calls Tryd.prog 36 #[.pointer (some ⟨g, 0, none⟩), .int .i64 64] (w.drewN n) fun e w' => e = .panicked [{ v := offV (joinB ns) 64, recovered := false }] ∧ Below (w.drewN n).heap.size (w.drewN n) w') := fun n => refuse_bad JC g x c ns b 64 _ (W.drewN n) (by decide) hl hj
  have RO := fun w => refuse_ok g w
  obtain ⟨m', rfl⟩ : ∃ m', m = m' + 2 := ⟨m - 2, by omega⟩
  have hs2 : w.cell? ⟨q, o + (m' + 1) * 5, none⟩ = some (.string s) := hs
  have hp2 : w.cell? ⟨q, o + m' * 5, none⟩ = some (.string s') := hp ho.1
  have hcm := ho.2
  have hcb := cmpB_bd s' s
  clear hs hp ho
  generalize joinB ns = P at *
  generalize cmpB s' s = CMP at *
  have g1 : decide (0 ≤ CMP) = true := by simpa using hcm
  have g2 : decide ((1 : Int) < (m' : Int) + 2) = true := by apply decide_eq_true; omega
  have g3 : (1 : Int) < (m' : Int) + 2 := by omega
  have g6 : IntKind.i64.wrap ((m' : Int) + 2 - 1 - 1) = (m' : Int) + 2 - 1 - 1 := by rw [IntKind.wrap_i64]; omega
  have g7 : ((m' : Int) + 2 - 1 - 1).toNat = m' := by omega
  have g8 : (0 : Int) ≤ (m' : Int) + 2 - 1 - 1 := by omega
  have g9 : (m' : Int) + 2 - 1 - 1 < (m' : Int) + 2 := by omega
  have g4 : IntKind.i64.wrap ((m' : Int) + 1 - 1) = (m' : Int) := by rw [IntKind.wrap_i64]; omega
  have g5 : (m' : Int) + 1 - 1 = (m' : Int) := by omega
  go_enter Tryd.func40, Tryd.ntmps40
  go_wp2_with fail
  refine (CC _).mono ?_
  rintro e w1 ⟨rfl, rfl⟩
  go_wp2_with fail
  refine (RO _).mono ?_
  rintro e w1 ⟨rfl, rfl⟩
  clear CC RO
  go_wp2
  go_quiet ((go_at_call 49; exact Calls.quiet_of_same (CM _)))
  clear CM
  have RN := R.out nq
  have BQ : Below w1.heap.size w1 (w1.drewN nq) := ⟨rfl, rfl, rfl, Nat.le_refl _, fun _ _ => rfl⟩
  generalize w1.drewN nq = wq at *
  go_wp2_with fail
  refine RN.mono ?_
  rintro e w2 ⟨rfl, b2⟩
  clear RN
  go_wp2
  exact ⟨rfl, rfl, BQ.trans (b2.mono BQ.size)⟩

theorem ent_grown {w we : World} (h : Below w.heap.size w we) (g : Nat) (v : Value) : w.grownBy (we.setCell ⟨g, 1, none⟩ v) (some g) :=
  ⟨h.os, h.tape, h.output, by simpa using h.size, fun k hk hg => (Below.heap_setCell we _ _ k (fun e => hg (by rw [e]))).trans (h.block k hk)⟩

set_option maxHeartbeats 1600000 in
theorem entry_fine (g : Nat) (x : Option Addr) (c : Nat) (ns : List ByteArray) (b : Int) (q o m cy : Nat) (s' s : ByteArray) (w : World) (W : Wk w g x c ns b) (hx : ∀ q o, x = some ⟨q, o, none⟩ → q ≠ g) (hm : 1 ≤ m) (hm2 : m ≤ 1954687338211) (hq : q < w.heap.size) (hb0 : 0 ≤ b) (hb1 : b ≤ 1048576)
    (hs : w.cell? ⟨q, o + (m - 1) * 5, none⟩ = some (.string s)) (hp : 1 < m → w.cell? ⟨q, o + (m - 2) * 5, none⟩ = some (.string s')) (hsz : s.size ≤ 140737488351232) (hc : chk s = 0) (ho : ¬ (1 < m ∧ 0 ≤ cmpB s' s)) (hbb : b + ebP s ≤ 1048576) :
    Calls Tryd.prog 40 #[.pointer (some ⟨g, 0, none⟩), .slice (some ⟨q, o, none⟩) m cy] w fun e w' => e = .returned (.tuple #[]) ∧ Wk w' g x c ns (b + ebP s) ∧ w.grownBy w' (some g) := by
  have CC := fun w => check_any s w
  rw [hc] at CC
  have CM := fun w => compare_any s' s w
  have RO := fun w => refuse_ok g w
  have EBC := fun w => entryBytes_any s w hsz
  have heb := ebP_bd s
  have HW : Hid (Wk w g x c ns b) := W
  have hgl := W.lt
  clear W
  by_cases h1 : m = 1
  · subst h1
    have hs2 : w.cell? ⟨q, o, none⟩ = some (.string s) := by simpa using hs
    clear hs hp CM ho
    go_enter Tryd.func40, Tryd.ntmps40
    go_wp2_with fail
    refine (CC _).mono ?_
    rintro e w1 ⟨rfl, rfl⟩
    go_wp2_with fail
    refine (RO _).mono ?_
    rintro e w1 ⟨rfl, rfl⟩
    clear CC RO
    go_wp2
    go_quiet (fail)
    have BQ : Hid (Below w1.heap.size w1 (w1.drewN nq)) := ⟨rfl, rfl, rfl, Nat.le_refl _, fun _ _ => rfl⟩
    have hs3 : (w1.drewN nq).cell? ⟨q, o, none⟩ = some (.string s) := hs2
    have hzq : (w1.drewN nq).heap.size = w1.heap.size := rfl
    generalize w1.drewN nq = wq at *
    go_wp2_with fail
    refine (EBC _).mono ?_
    rintro e we ⟨rfl, be⟩
    have BE : Hid (Below w1.heap.size w1 we) := BQ.out.trans (be.mono BQ.out.size)
    have WE : Hid (Wk we g x c ns b) := HW.out.same hgl BE.out
    clear EBC be hzq
    have CO := count_ok g x c ns b (ebP s) we WE.out (by omega) (by omega)
    go_wp2_with fail
    refine CO.mono ?_
    rintro e w3 ⟨rfl, rfl⟩
    clear CO
    go_wp2
    go_end0
    exact ⟨rfl, WE.out.put (b + ebP s) hx, ent_grown BE.out g _⟩
  · obtain ⟨m', rfl⟩ : ∃ m', m = m' + 2 := ⟨m - 2, by omega⟩
    have hs2 : w.cell? ⟨q, o + (m' + 1) * 5, none⟩ = some (.string s) := hs
    have hp2 : w.cell? ⟨q, o + m' * 5, none⟩ = some (.string s') := hp (by omega)
    have hcm : cmpB s' s < 0 := by omega
    have hcb := cmpB_bd s' s
    clear hs hp ho
    generalize cmpB s' s = CMP at *
    have g1 : decide (0 ≤ CMP) = false := by apply decide_eq_false; omega
    have g2 : decide ((1 : Int) < (m' : Int) + 2) = true := by apply decide_eq_true; omega
    have g3 : (1 : Int) < (m' : Int) + 2 := by omega
    have g6 : IntKind.i64.wrap ((m' : Int) + 2 - 1 - 1) = (m' : Int) + 2 - 1 - 1 := by rw [IntKind.wrap_i64]; omega
    have g7 : ((m' : Int) + 2 - 1 - 1).toNat = m' := by omega
    have g8 : (0 : Int) ≤ (m' : Int) + 2 - 1 - 1 := by omega
    have g9 : (m' : Int) + 2 - 1 - 1 < (m' : Int) + 2 := by omega
    go_enter Tryd.func40, Tryd.ntmps40
    go_wp2_with fail
    refine (CC _).mono ?_
    rintro e w1 ⟨rfl, rfl⟩
    go_wp2_with fail
    refine (RO _).mono ?_
    rintro e w1 ⟨rfl, rfl⟩
    clear CC RO
    go_wp2
    go_quiet ((go_at_call 49; exact Calls.quiet_of_same (CM _)))
    clear CM
    have BQ : Hid (Below w1.heap.size w1 (w1.drewN nq)) := ⟨rfl, rfl, rfl, Nat.le_refl _, fun _ _ => rfl⟩
    have hs3 : (w1.drewN nq).cell? ⟨q, o + (m' + 1) * 5, none⟩ = some (.string s) := hs2
    have hzq : (w1.drewN nq).heap.size = w1.heap.size := rfl
    generalize w1.drewN nq = wq at *
    go_wp2_with fail
    refine (EBC _).mono ?_
    rintro e we ⟨rfl, be⟩
    have BE : Hid (Below w1.heap.size w1 we) := BQ.out.trans (be.mono BQ.out.size)
    have WE : Hid (Wk we g x c ns b) := HW.out.same hgl BE.out
    clear EBC be hzq
    have CO := count_ok g x c ns b (ebP s) we WE.out (by omega) (by omega)
    go_wp2_with fail
    refine CO.mono ?_
    rintro e w3 ⟨rfl, rfl⟩
    clear CO
    go_wp2
    go_end0
    exact ⟨rfl, WE.out.put (b + ebP s) hx, ent_grown BE.out g _⟩

set_option maxHeartbeats 1600000 in
theorem entry_big (JC : JoinC) (g : Nat) (x : Option Addr) (c : Nat) (ns : List ByteArray) (b : Int) (q o m cy : Nat) (s' s : ByteArray) (w : World) (W : Wk w g x c ns b) (hx : ∀ q o, x = some ⟨q, o, none⟩ → q ≠ g) (hm : 1 ≤ m) (hm2 : m ≤ 1954687338211) (hq : q < w.heap.size) (hb0 : 0 ≤ b) (hb1 : b ≤ 1048576)
    (hs : w.cell? ⟨q, o + (m - 1) * 5, none⟩ = some (.string s)) (hp : 1 < m → w.cell? ⟨q, o + (m - 2) * 5, none⟩ = some (.string s')) (hsz : s.size ≤ 140737488351232) (hl : ns.length ≤ 64) (hj : ∀ s ∈ ns, s.size ≤ 1048576) (hc : chk s = 0) (ho : ¬ (1 < m ∧ 0 ≤ cmpB s' s)) (hbb : 1048576 < b + ebP s) :
    Calls Tryd.prog 40 #[.pointer (some ⟨g, 0, none⟩), .slice (some ⟨q, o, none⟩) m cy] w fun e w' => e = .panicked [{ v := offV (joinB ns) 2, recovered := false }] ∧ Below (min g w.heap.size) w w' := by
  have CC := fun w => check_any s w
  rw [hc] at CC
  have CM := fun w => compare_any s' s w
  have RO := fun w => refuse_ok g w
  have EBC := fun w => entryBytes_any s w hsz
  have heb := ebP_bd s
  have HW : Hid (Wk w g x c ns b) := W
  have hgl := W.lt
  clear W
  by_cases h1 : m = 1
  · subst h1
    have hs2 : w.cell? ⟨q, o, none⟩ = some (.string s) := by simpa using hs
    clear hs hp CM ho
    go_enter Tryd.func40, Tryd.ntmps40
    go_wp2_with fail
    refine (CC _).mono ?_
    rintro e w1 ⟨rfl, rfl⟩
    go_wp2_with fail
    refine (RO _).mono ?_
    rintro e w1 ⟨rfl, rfl⟩
    clear CC RO
    go_wp2
    go_quiet (fail)
    have BQ : Hid (Below w1.heap.size w1 (w1.drewN nq)) := ⟨rfl, rfl, rfl, Nat.le_refl _, fun _ _ => rfl⟩
    have hs3 : (w1.drewN nq).cell? ⟨q, o, none⟩ = some (.string s) := hs2
    have hzq : (w1.drewN nq).heap.size = w1.heap.size := rfl
    generalize w1.drewN nq = wq at *
    go_wp2_with fail
    refine (EBC _).mono ?_
    rintro e we ⟨rfl, be⟩
    have BE : Hid (Below w1.heap.size w1 we) := BQ.out.trans (be.mono BQ.out.size)
    have WE : Hid (Wk we g x c ns b) := HW.out.same hgl BE.out
    clear EBC be hzq
    have CB := count_bad JC g x c ns b (ebP s) we WE.out hx (by omega) (by omega) hl hj (min g w1.heap.size) (Nat.min_le_left _ _) (Nat.le_trans (Nat.min_le_right _ _) BE.out.size)
    go_wp2_with fail
    refine CB.mono ?_
    rintro e w3 ⟨rfl, b3⟩
    clear CB
    go_wp2
    exact ⟨rfl, rfl, (BE.out.mono (Nat.min_le_right _ _)).trans b3⟩
  · obtain ⟨m', rfl⟩ : ∃ m', m = m' + 2 := ⟨m - 2, by omega⟩
    have hs2 : w.cell? ⟨q, o + (m' + 1) * 5, none⟩ = some (.string s) := hs
    have hp2 : w.cell? ⟨q, o + m' * 5, none⟩ = some (.string s') := hp (by omega)
    have hcm : cmpB s' s < 0 := by omega
    have hcb := cmpB_bd s' s
    clear hs hp ho
    generalize cmpB s' s = CMP at *
    have g1 : decide (0 ≤ CMP) = false := by apply decide_eq_false; omega
    have g2 : decide ((1 : Int) < (m' : Int) + 2) = true := by apply decide_eq_true; omega
    have g3 : (1 : Int) < (m' : Int) + 2 := by omega
    have g6 : IntKind.i64.wrap ((m' : Int) + 2 - 1 - 1) = (m' : Int) + 2 - 1 - 1 := by rw [IntKind.wrap_i64]; omega
    have g7 : ((m' : Int) + 2 - 1 - 1).toNat = m' := by omega
    have g8 : (0 : Int) ≤ (m' : Int) + 2 - 1 - 1 := by omega
    have g9 : (m' : Int) + 2 - 1 - 1 < (m' : Int) + 2 := by omega
    go_enter Tryd.func40, Tryd.ntmps40
    go_wp2_with fail
    refine (CC _).mono ?_
    rintro e w1 ⟨rfl, rfl⟩
    go_wp2_with fail
    refine (RO _).mono ?_
    rintro e w1 ⟨rfl, rfl⟩
    clear CC RO
    go_wp2
    go_quiet ((go_at_call 49; exact Calls.quiet_of_same (CM _)))
    clear CM
    have BQ : Hid (Below w1.heap.size w1 (w1.drewN nq)) := ⟨rfl, rfl, rfl, Nat.le_refl _, fun _ _ => rfl⟩
    have hs3 : (w1.drewN nq).cell? ⟨q, o + (m' + 1) * 5, none⟩ = some (.string s) := hs2
    have hzq : (w1.drewN nq).heap.size = w1.heap.size := rfl
    generalize w1.drewN nq = wq at *
    go_wp2_with fail
    refine (EBC _).mono ?_
    rintro e we ⟨rfl, be⟩
    have BE : Hid (Below w1.heap.size w1 we) := BQ.out.trans (be.mono BQ.out.size)
    have WE : Hid (Wk we g x c ns b) := HW.out.same hgl BE.out
    clear EBC be hzq
    have CB := count_bad JC g x c ns b (ebP s) we WE.out hx (by omega) (by omega) hl hj (min g w1.heap.size) (Nat.min_le_left _ _) (Nat.le_trans (Nat.min_le_right _ _) BE.out.size)
    go_wp2_with fail
    refine CB.mono ?_
    rintro e w3 ⟨rfl, b3⟩
    clear CB
    go_wp2
    exact ⟨rfl, rfl, (BE.out.mono (Nat.min_le_right _ _)).trans b3⟩

end Go.Proofs.YtcmdeiohnkbjlaaDoor
namespace Go.Proofs.YtcmdeiohnkbjlaaDoor
open Go.RowKit

/-- The bytes so far; what the walk gave up with. -/
structure VR where
  bytes : Int
  off : Option (ByteArray × Int)
/-- Of an entry: the name ahead of it, if there is one. -/
def entO (prev : Option ByteArray) (s : ByteArray) (b : Int) : Int := match prev with
  | none => entC 1 s s b
  | some s' => entC 2 s' s b
mutual
def vT (ns : List ByteArray) (b : Int) : Tr → VR
  | .mk k e t nms ks =>
    if 32 < 1 + ns.length then ⟨b, some (joinB ns, 61)⟩
    else if cfP k e t nms.length ≠ 0 then ⟨b, some (joinB ns, cfP k e t nms.length)⟩
    else if 1048576 < b + nbP k e t then ⟨b + nbP k e t, some (joinB ns, 2)⟩
    else vL ns (b + nbP k e t) none nms ks
def vL (ns : List ByteArray) (b : Int) (prev : Option ByteArray) : List ByteArray → List Tr → VR
  | s :: nms, T :: ks =>
    if entO prev s b ≠ 0 then ⟨b, some (joinB (ns ++ [s]), entO prev s b)⟩
    else match (vT (ns ++ [s]) (b + ebP s) T).off with
      | none => vL ns (vT (ns ++ [s]) (b + ebP s) T).bytes (some s) nms ks
      | some o => ⟨(vT (ns ++ [s]) (b + ebP s) T).bytes, some o⟩
  | _, _ => ⟨b, none⟩
end
theorem entO_ok (prev : Option ByteArray) (s : ByteArray) (b : Int) (h : entO prev s b = 0) : chk s = 0 ∧ b + ebP s ≤ 1048576 := by
  have key : ∀ m s', entC m s' s b = 0 → chk s = 0 ∧ b + ebP s ≤ 1048576 := fun m s' h => by
    unfold entC at h
    split at h
    · rename_i h1; exact absurd h h1
    · rename_i h1
      split at h
      · exact absurd h (by decide)
      · split at h
        · exact absurd h (by decide)
        · rename_i h3
          exact ⟨by omega, by omega⟩
  cases prev with
  | none => exact key 1 s h
  | some s' => exact key 2 s' h

mutual
/-- A walk that gives nothing up has counted the tree's bytes. -/
theorem vT_bytes (ns : List ByteArray) (b : Int) : ∀ T : Tr, (vT ns b T).off = none → (vT ns b T).bytes = b + tbT T
  | .mk k e t nms ks => fun h => by
    rw [vT] at h ⊢
    split at h
    · cases h
    · rename_i h1
      rw [if_neg h1]
      split at h
      · cases h
      · rename_i h2
        rw [if_neg h2]
        split at h
        · cases h
        · rename_i h3
          rw [if_neg h3]
          have := vL_bytes ns (b + nbP k e t) none nms ks h
          rw [this, tbT]
          omega
theorem vL_bytes (ns : List ByteArray) (b : Int) (prev : Option ByteArray) : ∀ (nms : List ByteArray) (ks : List Tr), (vL ns b prev nms ks).off = none → (vL ns b prev nms ks).bytes = b + tbL nms ks
  | s :: nms, T :: ks => fun h => by
    rw [vL] at h ⊢
    split at h
    · cases h
    · rename_i h1
      rw [if_neg h1]
      cases hv : (vT (ns ++ [s]) (b + ebP s) T).off with
      | some o => rw [hv] at h; cases h
      | none =>
        rw [hv] at h
        have e1 := vT_bytes (ns ++ [s]) (b + ebP s) T hv
        have e2 := vL_bytes ns (vT (ns ++ [s]) (b + ebP s) T).bytes (some s) nms ks h
        show (vL ns (vT (ns ++ [s]) (b + ebP s) T).bytes (some s) nms ks).bytes = _
        rw [e2, e1, tbL]
        omega
  | [], _ => fun _ => by rw [vL, tbL] <;> simp
  | _ :: _, [] => fun _ => by rw [vL, tbL] <;> simp
end

end Go.Proofs.YtcmdeiohnkbjlaaDoor
namespace Go.Proofs.YtcmdeiohnkbjlaaDoor
open Go.RowKit

structure Wo (w : World) (g : Nat) (v : Value) (ns : List ByteArray) (b : Int) : Prop where
  c0 : w.cell? ⟨g, 0, none⟩ = some v
  c1 : w.cell? ⟨g, 1, none⟩ = some (.int .i64 b)
  f0 : w.frozen? ⟨g, 0, none⟩ = false
  f1 : w.frozen? ⟨g, 1, none⟩ = false
  own : w.ownsRow (g + 1) 9 1 v ns.length (ns.map Value.string)
/-- From w to w' nothing has turned but block g, rows of texts above it, and new blocks. -/
structure Fr (g : Nat) (w w' : World) : Prop where
  os : w'.os = w.os
  tape : w'.tape = w.tape
  output : w'.output = w.output
  size : w.heap.size ≤ w'.heap.size
  low : ∀ k, k < g → w'.heap[k]? = w.heap[k]?
  mid : ∀ k C T fz, w.heap[k]? = some (.cells C T fz) → T ≠ 9 → k ≠ g → w'.heap[k]? = w.heap[k]?
theorem Fr.refl (g : Nat) (w : World) : Fr g w w := ⟨rfl, rfl, rfl, Nat.le_refl _, fun _ _ => rfl, fun _ _ _ _ _ _ _ => rfl⟩
theorem Fr.trans {g : Nat} {a b c : World} (h : Fr g a b) (k : Fr g b c) : Fr g a c :=
  ⟨k.os.trans h.os, k.tape.trans h.tape, k.output.trans h.output, Nat.le_trans h.size k.size, fun i hi => (k.low i hi).trans (h.low i hi), fun i C T fz e1 e2 e3 => (k.mid i C T fz ((h.mid i C T fz e1 e2 e3).trans e1) e2 e3).trans (h.mid i C T fz e1 e2 e3)⟩
theorem heap_lt {w : World} {k : Nat} {o : Obj} (h : w.heap[k]? = some o) : k < w.heap.size := (Array.getElem?_eq_some_iff.1 h).1
theorem Fr.of_below {g : Nat} {w w' : World} (h : Below w.heap.size w w') (hg : g ≤ w.heap.size) : Fr g w w' :=
  ⟨h.os, h.tape, h.output, h.size, fun k hk => h.block k (by omega), fun k _ _ _ e _ _ => h.block k (heap_lt e)⟩
theorem Fr.of_grown {g : Nat} {w w' : World} (h : w.grownBy w' (some g)) (hg : g ≤ w.heap.size) : Fr g w w' :=
  ⟨h.os, h.tape, h.output, h.size, fun k hk => h.block k (by omega) (fun e => by injection e; omega), fun k _ _ _ e _ hn => h.block k (heap_lt e) (fun e => hn (by injection e))⟩
theorem Fr.drew {g : Nat} {a w : World} (h : Fr g a w) : Fr g a w.drew := ⟨h.os, h.tape, h.output, h.size, h.low, h.mid⟩
theorem Fr.drewN {g : Nat} {a w : World} (h : Fr g a w) (n : Nat) : Fr g a (w.drewN n) := ⟨h.os, h.tape, h.output, h.size, h.low, h.mid⟩
theorem Fr.setCell {g : Nat} {a w : World} (h : Fr g a w) (j : Nat) (u : Value) : Fr g a (w.setCell ⟨g, j, none⟩ u) :=
  h.trans ⟨rfl, rfl, rfl, by rw [World.size_setCell]; exact Nat.le_refl _, fun k hk => Below.heap_setCell _ _ _ k (by show k ≠ g; omega), fun k _ _ _ _ _ hn => Below.heap_setCell _ _ _ k hn⟩
theorem Fr.alloc {g : Nat} {a w : World} (h : Fr g a w) (hg : g ≤ w.heap.size) (o : Obj) : Fr g a (w.alloc o) := h.trans (Fr.of_below ((Below.refl _ _).alloc (Nat.le_refl _) o) hg)
theorem Fr.below {g : Nat} {w w' : World} (h : Fr g w w') : Below g w w' := ⟨h.os, h.tape, h.output, h.size, h.low⟩

theorem Wo.lt {w : World} {g : Nat} {v : Value} {ns : List ByteArray} {b : Int} (h : Wo w g v ns b) : g < w.heap.size := World.block_lt_of_cell? _ _ h.c0
theorem Wo.wk {w : World} {g : Nat} {v : Value} {ns : List ByteArray} {b : Int} (h : Wo w g v ns b) : ∃ x c, v = .slice x ns.length c ∧ Wk w g x c ns b ∧ ∀ q o, x = some ⟨q, o, none⟩ → q ≠ g := by
  rcases h.own.2 with ⟨hv, h0⟩ | ⟨q, cap, cur, hv, hq, hh, hn, _, hs, ht⟩
  · refine ⟨none, 0, by rw [hv, h0], ⟨by rw [h.c0, hv, h0], h.c1, h.f0, h.f1, fun k hk => absurd hk (by omega), by omega⟩, fun q o e => by cases e⟩
  · refine ⟨some ⟨q, 0, none⟩, cap, hv, ⟨by rw [h.c0, hv], h.c1, h.f0, h.f1, fun k hk => ⟨q, 0, rfl, heap_lt hh, ?_⟩, hn⟩, fun q' o e => by injection e with e; injection e; omega⟩
    have := h.own.cells (g := q) (by rw [hv]; rfl) k (.string ns[k]) (by rw [List.getElem?_map, List.getElem?_eq_getElem hk]; rfl)
    rw [Addr.add_lit] at this
    exact this
theorem Wo.own_ne {w : World} {g : Nat} {v : Value} {ns : List ByteArray} {b : Int} (h : Wo w g v ns b) : v.ownBlock ≠ some g := fun e => by have := (h.own.lt g e).1; omega
/-- Behind what turns block g alone, its second cell. -/
theorem Wo.back {w w' : World} {g : Nat} {x : Option Addr} {c : Nat} {ns : List ByteArray} {b b' : Int} (h : Wo w g (.slice x ns.length c) ns b) (k : Wk w' g x c ns b') (hg : w.grownBy w' (some g)) : Wo w' g (.slice x ns.length c) ns b' :=
  ⟨k.c0, k.c1, k.f0, k.f1, h.own.kept hg (.inr h.own_ne)⟩
theorem Wo.keep {w w' : World} {g : Nat} {v : Value} {ns : List ByteArray} {b : Int} (h : Wo w g v ns b) (hb : Below w.heap.size w w') : Wo w' g v ns b :=
  ⟨(hb.cell (p := ⟨g, 0, none⟩) h.lt).trans h.c0, (hb.cell (p := ⟨g, 1, none⟩) h.lt).trans h.c1, (hb.frozen (p := ⟨g, 0, none⟩) h.lt).trans h.f0, (hb.frozen (p := ⟨g, 1, none⟩) h.lt).trans h.f1,
    h.own.kept (row := none) ⟨hb.os, hb.tape, hb.output, hb.size, fun k hk _ => hb.block k hk⟩ (by cases v.ownBlock <;> simp)⟩

theorem hinfo9 : (Tryd.prog.info? 9).map (fun i => (i.zero, i.size, i.bytes)) = some (some (.string ⟨#[]⟩), 1, 16) := by kernel_rfl
theorem undLS : Tryd.prog.underlying 35 = some (.slice 9) := by kernel_rfl
/-- A name more. -/
theorem Wo.push {w : World} {g : Nat} {v : Value} {ns : List ByteArray} {b : Int} (h : Wo w g v ns b) (s : ByteArray) (hl : ns.length ≤ 64) :
    ∃ q cap w', (Builtin.append_ #[35, 35] 35 #[v, .slice (some ⟨w.heap.size, 0, none⟩) 1 1]).run Tryd.prog ((w.alloc (.cells #[.string s] 9)).drew) = .ok (.slice (some ⟨q, 0, none⟩) (ns.length + 1) cap) w' ∧
      w'.cell? ⟨g, 0, none⟩ = some v ∧ w'.frozen? ⟨g, 0, none⟩ = false ∧ ns.length + 1 ≤ cap ∧
      Wo (w'.setCell ⟨g, 0, none⟩ (.slice (some ⟨q, 0, none⟩) (ns.length + 1) cap)) g (.slice (some ⟨q, 0, none⟩) (ns.length + 1) cap) (ns ++ [s]) b ∧ Fr g w (w'.setCell ⟨g, 0, none⟩ (.slice (some ⟨q, 0, none⟩) (ns.length + 1) cap)) := by
  obtain ⟨i0, hi, hz0, hz1, hz2⟩ := info_parts hinfo9
  have hgl := h.lt
  have hown : ((w.alloc (.cells #[.string s] 9)).drew).ownsRow (g + 1) 9 1 v ns.length (ns.map Value.string) := (World.ownsRow.alloc h.own _).drew
  obtain ⟨q, cap, w', hr, ho, hg, hat, hlt⟩ := run_append_lies (P := Tryd.prog) ((w.alloc (.cells #[.string s] 9)).drew) 35 35 (g + 1) 9 i0 (.string ⟨#[]⟩) 1 16 undLS hi hz0 hz1 hz2 rfl (by decide) v ns.length (ns.map Value.string) hown ⟨w.heap.size, 0, none⟩ 1 1 [.string s] rfl (fun j u hj => by
      rw [Addr.add_lit, Nat.zero_add]
      match j, hj with
      | 0, hj => exact (World.cell?_alloc_new w _ _ 0).trans hj) (by intro u hu; simp at hu; subst hu; rfl) (by decide) (by unfold maxLen; omega) (by omega) (by show _ ≤ (w.alloc _).heap.size; rw [World.size_alloc]; omega) _ rfl
  have hne : v.ownBlock ≠ some g := h.own_ne
  have e0 : w'.heap[g]? = w.heap[g]? := (hg.block g (by show _ < (w.alloc _).heap.size; rw [World.size_alloc]; omega) (fun e => hne e.symm)).trans (Below.heap_alloc w _ g hgl)
  have c0 : w'.cell? ⟨g, 0, none⟩ = some v := (World.cell?_of_block (w := w) (a := ⟨g, 0, none⟩) e0).trans h.c0
  have c1 : w'.cell? ⟨g, 1, none⟩ = some (.int .i64 b) := (World.cell?_of_block (w := w) (a := ⟨g, 1, none⟩) e0).trans h.c1
  have f0 : w'.frozen? ⟨g, 0, none⟩ = false := (World.frozen?_of_block (w := w) (a := ⟨g, 0, none⟩) e0).trans h.f0
  have f1 : w'.frozen? ⟨g, 1, none⟩ = false := (World.frozen?_of_block (w := w) (a := ⟨g, 1, none⟩) e0).trans h.f1
  have hq := (ho.lt q rfl).1
  have hcap : ns.length + 1 ≤ cap := by
    rcases ho.2 with ⟨e, _⟩ | ⟨_, cap', _, e, _, _, hn, _⟩
    · cases e
    · injection e with _ _ e; subst e; exact hn
  have F1 : Fr g w w' := by
    have b1 : Below w.heap.size w ((w.alloc (.cells #[.string s] 9)).drew) := ((Below.refl _ _).alloc (Nat.le_refl _) _).drew
    refine (Fr.of_below b1 (by omega)).trans ⟨hg.os, hg.tape, hg.output, hg.size, fun k hk => ?_, fun k C T fz e1 e2 e3 => ?_⟩
    · exact hg.block k (by show _ < (w.alloc _).heap.size; rw [World.size_alloc]; omega) (fun e => by have := (h.own.lt k e.symm).1; omega)
    · refine hg.block k (heap_lt e1) (fun e => ?_)
      obtain ⟨c', fz', hk⟩ := Lib.ownsRow_kind hown k e.symm
      rw [hk] at e1
      injection e1 with e1
      injection e1 with _ e1
      exact e2 e1.symm
  refine ⟨q, cap, w', hr, c0, f0, hcap, ⟨World.cell?_setCell_same _ _ _ c0, ?_, ?_, ?_, ?_⟩, F1.setCell 0 _⟩
  · rw [World.cell?_setCell_other _ _ _ _ (fun e => by cases e)]; exact c1
  · rw [World.frozen?_setCell]; exact f0
  · rw [World.frozen?_setCell]; exact f1
  · refine ownsRow_setCell_other ?_ (by simp [Value.ownBlock]; omega) _
    rw [List.length_append, List.map_append]
    exact ho
/-- A name less. -/
theorem Wo.pop {w : World} {g q cap : Nat} {ns : List ByteArray} {s : ByteArray} {b : Int} (h : Wo w g (.slice (some ⟨q, 0, none⟩) (ns.length + 1) cap) (ns ++ [s]) b) : Wo (w.setCell ⟨g, 0, none⟩ (.slice (some ⟨q, 0, none⟩) ns.length cap)) g (.slice (some ⟨q, 0, none⟩) ns.length cap) ns b := by
  refine ⟨World.cell?_setCell_same _ _ _ h.c0, ?_, ?_, ?_, ?_⟩
  · rw [World.cell?_setCell_other _ _ _ _ (fun e => by cases e)]; exact h.c1
  · rw [World.frozen?_setCell]; exact h.f0
  · rw [World.frozen?_setCell]; exact h.f1
  · have hne := h.own_ne
    refine ownsRow_setCell_other ?_ (by simpa [Value.ownBlock] using hne) _
    refine ⟨by simp, ?_⟩
    rcases h.own.2 with ⟨e, _⟩ | ⟨q', cap', cur, e, hb, hh, hn, hm, hs, ht⟩
    · cases e
    · injection e with e1 _ e3
      injection e1 with e1
      injection e1 with e1
      subst e1 e3
      refine .inr ⟨q, cap, cur, rfl, hb, hh, by rw [List.length_append] at hn; simp at hn; omega, hm, hs, ?_⟩
      have := congrArg (List.take ns.length) ht
      have e4 : min ns.length ((ns ++ [s]).length * 1) = ns.length * 1 := by rw [List.length_append]; omega
      have e5 : List.take ns.length (List.map Value.string ns) = List.map Value.string ns := List.take_of_length_le (by rw [List.length_map]; exact Nat.le_refl _)
      rw [List.take_take, List.map_append, List.take_append_of_le_length (by rw [List.length_map]; exact Nat.le_refl _), e4, e5] at this
      exact this
end Go.Proofs.YtcmdeiohnkbjlaaDoor
