/- Gathered: Na1 TvF TvG. -/
import Derived.Lib.Strings
import Derived.BigQuiet
import Derived.Test.YtdjjleahfciipaaGreatDoorQb
import Derived.Test.YtdjjleahfciipaaGreatDoorQc
import Derived.Test.YtdjjleahfciipaaGreatDoorQd
import Derived.Test.YtdjjleahfciipaaGreatDoorQf
import Derived.Test.YtdjjleahfciipaaGreatDoorQk
/- NaP NaH NaI NaJ NaX NaM, joined (own text of the verifier). -/
namespace Go.Proofs.YtdjjleahfciipaaGreatDoor
open Go.RowKit

def wOpen : ByteArray := ⟨#[40]⟩
def wClose : ByteArray := ⟨#[41]⟩
def wType : ByteArray := ⟨#[116, 121, 112, 101]⟩
def wRegular : ByteArray := ⟨#[114, 101, 103, 117, 108, 97, 114]⟩
def wExec : ByteArray := ⟨#[101, 120, 101, 99, 117, 116, 97, 98, 108, 101]⟩
def wNone : ByteArray := ⟨#[]⟩
def wContents : ByteArray := ⟨#[99, 111, 110, 116, 101, 110, 116, 115]⟩
def wSymlink : ByteArray := ⟨#[115, 121, 109, 108, 105, 110, 107]⟩
def wTarget : ByteArray := ⟨#[116, 97, 114, 103, 101, 116]⟩
def wDirectory : ByteArray := ⟨#[100, 105, 114, 101, 99, 116, 111, 114, 121]⟩
def wEntry : ByteArray := ⟨#[101, 110, 116, 114, 121]⟩
def wName : ByteArray := ⟨#[110, 97, 109, 101]⟩
def wNode : ByteArray := ⟨#[110, 111, 100, 101]⟩
def wMagic : ByteArray := ⟨#[100, 101, 112, 111, 116, 45, 97, 114, 99, 104, 105, 118, 101, 45, 49]⟩
/-- Framed words, one behind the other. -/
def frm : List ByteArray → List UInt8
  | [] => []
  | s :: l => (txt s).data.toList ++ frm l
theorem frm_app (a b : List ByteArray) : frm (a ++ b) = frm a ++ frm b := by
  induction a with
  | nil => rfl
  | cons s a ih => show _ ++ frm (a ++ b) = _ ++ frm a ++ frm b; rw [ih, List.append_assoc]
mutual
/-- A tree's words. -/
def wdT : Tr → List ByteArray
  | .mk k e t nms ks => [wOpen, wType] ++ (if k = 1 then [wRegular] ++ (if e then [wExec, wNone] else []) ++ [wContents, t] else if k = 2 then [wSymlink, wTarget, t] else [wDirectory] ++ wdL nms ks) ++ [wClose]
def wdL : List ByteArray → List Tr → List ByteArray
  | s :: nms, T :: ks => [wEntry, wOpen, wName, s, wNode] ++ wdT T ++ [wClose] ++ wdL nms ks
  | _, _ => []
end
theorem txt_len (s : ByteArray) : (txt s).data.toList.length = 8 + s.size + padN s.size := by
  rw [Array.length_toList]
  show (txt s).size = _
  unfold txt
  rw [strFn_size]
/-- The bytes of words. -/
def fwS : List ByteArray → Nat
  | [] => 0
  | s :: l => 8 + s.size + padN s.size + fwS l
theorem frm_len (l : List ByteArray) : (frm l).length = fwS l := by
  induction l with
  | nil => rfl
  | cons s l ih => show (_ ++ frm l).length = _; rw [List.length_append, txt_len, ih]; rfl
theorem fwS_app (a b : List ByteArray) : fwS (a ++ b) = fwS a + fwS b := by
  induction a with
  | nil => show fwS b = 0 + fwS b; omega
  | cons s a ih => show _ + fwS (a ++ b) = _ + fwS a + fwS b; rw [ih]; omega
mutual
/-- All kinds are 1, 2 or 3, what is no directory has no kids, texts are small. -/
def okT : Tr → Prop
  | .mk k _ t nms ks => (k = 1 ∨ k = 2 ∨ k = 3) ∧ (k ≠ 3 → nms = [] ∧ ks = []) ∧ t.size ≤ 1048576 ∧ okL nms ks
def okL : List ByteArray → List Tr → Prop
  | s :: nms, T :: ks => s.size ≤ 1048576 ∧ okT T ∧ okL nms ks
  | _, _ => True
end
mutual
theorem fw_tree : ∀ (T : Tr), okT T → (fwS (wdT T) : Int) = tbT T
  | .mk k e t nms ks, h => by
    rw [okT] at h
    obtain ⟨hk, hn, ht, hL⟩ := h
    have hft := fr_in t.size (by omega)
    rw [wdT, fwS_app, fwS_app]
    have h2 : fwS [wOpen, wType] = 32 := by decide +kernel
    have h1 : fwS [wClose] = 16 := by decide +kernel
    rw [h2, h1]
    rw [tbT]
    unfold nbP
    rcases hk with rfl | rfl | rfl
    · obtain ⟨rfl, rfl⟩ := hn (by decide)
      rw [if_pos rfl, if_pos rfl, fwS_app, fwS_app]
      have h3 : fwS [wRegular] = 16 := by decide +kernel
      have h4 : fwS [wContents, t] = 16 + (8 + t.size + padN t.size) := by
        show 8 + wContents.size + padN wContents.size + (8 + t.size + padN t.size + 0) = _
        have : 8 + wContents.size + padN wContents.size = 16 := by decide +kernel
        omega
      have h5 : fwS (if e then [wExec, wNone] else []) = if e then 32 else 0 := by cases e <;> decide +kernel
      rw [h3, h4, h5, hft, tbL]
      · cases e
        · simp; omega
        · simp; omega
      all_goals simp
    · obtain ⟨rfl, rfl⟩ := hn (by decide)
      rw [if_neg (by decide), if_pos rfl, if_neg (by decide), if_pos rfl]
      have h4 : fwS [wSymlink, wTarget, t] = 32 + (8 + t.size + padN t.size) := by
        show 8 + wSymlink.size + padN wSymlink.size + (8 + wTarget.size + padN wTarget.size + (8 + t.size + padN t.size + 0)) = _
        have : 8 + wSymlink.size + padN wSymlink.size = 16 := by decide +kernel
        have : 8 + wTarget.size + padN wTarget.size = 16 := by decide +kernel
        omega
      rw [h4, hft, tbL]
      · omega
      all_goals simp
    · rw [if_neg (by decide), if_neg (by decide), if_neg (by decide), if_neg (by decide), if_pos rfl, fwS_app]
      have h3 : fwS [wDirectory] = 24 := by decide +kernel
      have := fw_kids nms ks hL
      rw [h3]
      omega
theorem fw_kids : ∀ (nms : List ByteArray) (ks : List Tr), okL nms ks → (fwS (wdL nms ks) : Int) = tbL nms ks
  | s :: nms, T :: ks, h => by
    rw [okL] at h
    have h1 := fw_tree T h.2.1
    have h2 := fw_kids nms ks h.2.2
    have hfs := fr_in s.size (by omega)
    rw [wdL, fwS_app, fwS_app, fwS_app, tbL]
    have h3 : fwS [wEntry, wOpen, wName, s, wNode] = 64 + (8 + s.size + padN s.size) := by
      show 8 + wEntry.size + padN wEntry.size + (8 + wOpen.size + padN wOpen.size + (8 + wName.size + padN wName.size + (8 + s.size + padN s.size + (8 + wNode.size + padN wNode.size + 0)))) = _
      have : 8 + wEntry.size + padN wEntry.size = 16 := by decide +kernel
      have : 8 + wOpen.size + padN wOpen.size = 16 := by decide +kernel
      have : 8 + wName.size + padN wName.size = 16 := by decide +kernel
      have : 8 + wNode.size + padN wNode.size = 16 := by decide +kernel
      omega
    have h4 : fwS [wClose] = 16 := by decide +kernel
    rw [h3, h4]
    unfold ebP
    omega
  | [], [], _ => by rw [wdL, tbL] <;> simp [fwS]
  | [], _ :: _, _ => by rw [wdL, tbL] <;> simp [fwS]
  | _ :: _, [], _ => by rw [wdL, tbL] <;> simp [fwS]
end
end Go.Proofs.YtdjjleahfciipaaGreatDoor

namespace Go.Proofs.YtdjjleahfciipaaGreatDoor
open Go.RowKit

def kdP (s : ByteArray) : Int := if s = wRegular then 1 else if s = wSymlink then 2 else 3

set_option maxHeartbeats 2000000 in
theorem kindof_any (s : ByteArray) (w : World) : Calls Tryz.prog 134 #[.string s] w fun e w' => e = .returned (.int .i64 (kdP s)) ∧ w' = w := by
  by_cases h0 : s = wRegular
  · have HB : Hid (kdP s = 1) := by subst h0; unfold Hid; decide +kernel
    have p : s.toList = [114, 101, 103, 117, 108, 97, 114] := by subst h0; rw [Lib.toList_data]; rfl
    clear h0
    go_enter Tryz.func134, Tryz.ntmps134
    go_wp2
    go_ret
    exact ⟨by rw [HB.out]; rfl, rfl⟩
  have n0 : (s.toList == [114, 101, 103, 117, 108, 97, 114]) = false := beq_eq_false_iff_ne.2 fun h => h0 (ByteArray.ext (Array.toList_inj.1 (by rw [← Lib.toList_data, h]; rfl)))
  by_cases h1 : s = wSymlink
  · have HB : Hid (kdP s = 2) := by subst h1; unfold Hid; decide +kernel
    have p : s.toList = [115, 121, 109, 108, 105, 110, 107] := by subst h1; rw [Lib.toList_data]; rfl
    clear h0 h1 n0
    go_enter Tryz.func134, Tryz.ntmps134
    go_wp2
    go_ret
    exact ⟨by rw [HB.out]; rfl, rfl⟩
  have n1 : (s.toList == [115, 121, 109, 108, 105, 110, 107]) = false := beq_eq_false_iff_ne.2 fun h => h1 (ByteArray.ext (Array.toList_inj.1 (by rw [← Lib.toList_data, h]; rfl)))
  have HB : Hid (kdP s = 3) := by simp [Hid, kdP, h0, h1]
  clear h0 h1
  go_enter Tryz.func134, Tryz.ntmps134
  go_wp2
  go_ret
  exact ⟨by rw [HB.out]; rfl, rfl⟩

set_option maxHeartbeats 1000000 in
theorem whole_any (g : Nat) (x : Int) (w : World) (h : w.cell? ⟨g, 6, none⟩ = some (.int .i64 x)) : Calls Tryz.prog 63 #[.pointer (some ⟨g, 0, none⟩)] w fun e w' => e = .returned (.bool (x == 17)) ∧ w' = w := by
  go_enter Tryz.func63, Tryz.ntmps63
  go_wp2
  go_ret
  exact ⟨rfl, rfl⟩

set_option maxHeartbeats 1000000 in
theorem newparser_any (w : World) : Calls Tryz.prog 38 #[] w fun e w' => e = .returned (.pointer (some ⟨w.heap.size, 0, none⟩)) ∧ w' = w.alloc (.cells #[.int .i64 0, .int .i64 0, .int .i64 0, .int .i64 0, .bool false, .bool false, .int .i64 0, .int .u64 0, .slice none 0 0, .slice none 0 0, .int .i64 0, .bool false, .string ⟨#[]⟩, .slice none 0 0] 134) := by
  go_enter Tryz.func38, Tryz.ntmps38
  go_wp2
  go_ret
  exact ⟨rfl, rfl⟩

end Go.Proofs.YtdjjleahfciipaaGreatDoor

namespace Go.Proofs.YtdjjleahfciipaaGreatDoor
open Go.RowKit

set_option maxHeartbeats 2000000 in
theorem last_any (g p o n c : Nat) (w : World) (h : w.cell? ⟨g, 9, none⟩ = some (.slice (some ⟨p, o, none⟩) (n + 1) c)) (hn : n ≤ 1048576) :
    Calls Tryz.prog 117 #[.pointer (some ⟨g, 0, none⟩)] w fun e w' => e = .returned (.pointer (some ⟨p, o + n * 5, none⟩)) ∧ ∃ q, w' = w.drewN q := by
  go_enter Tryz.func117, Tryz.ntmps117
  go_upto_region 1 with fail
  go_quiet (fail)
  go_wp2
  go_ret
  exact ⟨rfl, _, rfl⟩
end Go.Proofs.YtdjjleahfciipaaGreatDoor

namespace Go.Proofs.YtdjjleahfciipaaGreatDoor
open Go.RowKit

/-- May an entry of the name s come behind prev? -/
def ceP (prev : Option ByteArray) (s : ByteArray) : Int := if chk s ≠ 0 then chk s else match prev with
  | none => 0
  | some s' => if 0 ≤ cmpB s' s then 64 else 0
set_option maxHeartbeats 4000000 in
theorem chkent_none (p o c : Nat) (x : Option Addr) (s : ByteArray) (w : World) (h3 : w.cell? ⟨p, o + 3, none⟩ = some (.slice x 0 c)) :
    Calls Tryz.prog 118 #[.pointer (some ⟨p, o, none⟩), .string s] w fun e w' => e = .returned (.int .i64 (ceP none s)) ∧ w' = w := by
  have CK := check_any s w
  obtain ⟨R, hR⟩ : ∃ R, ceP none s = R := ⟨_, rfl⟩
  have HR : Hid (R = ceP none s) := hR.symm
  rw [hR]
  clear hR
  obtain ⟨C, hC⟩ : ∃ C, chk s = C := ⟨_, rfl⟩
  have HC : Hid (chk s = C) := hC
  rw [hC] at CK
  clear hC
  by_cases hz : C = 0
  · subst hz
    have HE : Hid (R = 0) := by rw [Hid, HR.out]; unfold ceP; rw [if_neg (by rw [HC.out]; decide)]
    go_enter Tryz.func118, Tryz.ntmps118
    go_wp2_with fail
    refine CK.mono ?_
    rintro e1 w1 ⟨rfl, rfl⟩
    clear CK
    go_wp2
    go_ret
    exact ⟨by rw [HE.out]; rfl, rfl⟩
  · have HE : Hid (R = C) := by rw [Hid, HR.out]; unfold ceP; rw [if_pos (by rw [HC.out]; exact hz), HC.out]
    have hne : (C == 0) = false := by simp [hz]
    go_enter Tryz.func118, Tryz.ntmps118
    go_wp2_with fail
    refine CK.mono ?_
    rintro e1 w1 ⟨rfl, rfl⟩
    clear CK
    go_wp2
    go_ret
    exact ⟨by rw [HE.out]; rfl, rfl⟩
set_option maxHeartbeats 4000000 in
theorem chkent_some (p o c n g k : Nat) (s' s : ByteArray) (w : World) (hn : n ≤ 1048576) (h3 : w.cell? ⟨p, o + 3, none⟩ = some (.slice (some ⟨g, k, none⟩) (n + 1) c)) (h4 : w.cell? ⟨g, k + n * 5, none⟩ = some (.string s')) :
    Calls Tryz.prog 118 #[.pointer (some ⟨p, o, none⟩), .string s] w fun e w' => e = .returned (.int .i64 (ceP (some s') s)) ∧ w' = w := by
  have CK := check_any s w
  have CM := compare_any s' s w
  obtain ⟨R, hR⟩ : ∃ R, ceP (some s') s = R := ⟨_, rfl⟩
  have HR : Hid (R = ceP (some s') s) := hR.symm
  rw [hR]
  clear hR
  obtain ⟨C, hC⟩ : ∃ C, chk s = C := ⟨_, rfl⟩
  have HC : Hid (chk s = C) := hC
  rw [hC] at CK
  clear hC
  obtain ⟨D, hD⟩ : ∃ D, cmpB s' s = D := ⟨_, rfl⟩
  have HD : Hid (cmpB s' s = D) := hD
  rw [hD] at CM
  clear hD
  by_cases hz : C = 0
  · subst hz
    by_cases hd : 0 ≤ D
    · have HE : Hid (R = 64) := by rw [Hid, HR.out]; unfold ceP; rw [if_neg (by rw [HC.out]; decide)]; show (if 0 ≤ cmpB s' s then (64 : Int) else 0) = 64; rw [HD.out, if_pos hd]
      have hq : decide (D ≥ 0) = true := by simp [hd]
      go_enter Tryz.func118, Tryz.ntmps118
      go_wp2_with fail
      refine CK.mono ?_
      rintro e1 w1 ⟨rfl, rfl⟩
      clear CK
      go_wp2_with fail
      refine CM.mono ?_
      rintro e1 w1 ⟨rfl, rfl⟩
      clear CM
      go_wp2
      go_ret
      exact ⟨by rw [HE.out]; rfl, rfl⟩
    · have HE : Hid (R = 0) := by rw [Hid, HR.out]; unfold ceP; rw [if_neg (by rw [HC.out]; decide)]; show (if 0 ≤ cmpB s' s then (64 : Int) else 0) = 0; rw [HD.out, if_neg hd]
      have hq : decide (D ≥ 0) = false := by simp; omega
      go_enter Tryz.func118, Tryz.ntmps118
      go_wp2_with fail
      refine CK.mono ?_
      rintro e1 w1 ⟨rfl, rfl⟩
      clear CK
      go_wp2_with fail
      refine CM.mono ?_
      rintro e1 w1 ⟨rfl, rfl⟩
      clear CM
      go_wp2
      go_ret
      exact ⟨by rw [HE.out]; rfl, rfl⟩
  · have HE : Hid (R = C) := by rw [Hid, HR.out]; unfold ceP; rw [if_pos (by rw [HC.out]; exact hz), HC.out]
    have hne : (C == 0) = false := by simp [hz]
    clear CM
    go_enter Tryz.func118, Tryz.ntmps118
    go_wp2_with fail
    refine CK.mono ?_
    rintro e1 w1 ⟨rfl, rfl⟩
    clear CK
    go_wp2
    go_ret
    exact ⟨by rw [HE.out]; rfl, rfl⟩
end Go.Proofs.YtdjjleahfciipaaGreatDoor

namespace Go.Proofs.YtdjjleahfciipaaGreatDoor
open Go.RowKit

def bhP (a : Int) (s : ByteArray) : Int × Bool :=
  if a = 0 ∧ s = wMagic then (1, true) else
  if a = 15 ∧ s = wNode then (1, true) else
  if a = 1 ∧ s = wOpen then (2, true) else
  if a = 2 ∧ s = wType then (3, true) else
  if a = 3 ∧ s = wRegular then (4, true) else
  if a = 3 ∧ s = wSymlink then (8, true) else
  if a = 3 ∧ s = wDirectory then (11, true) else
  if a = 16 ∧ s = wClose then (11, true) else
  if a = 4 ∧ s = wExec then (5, true) else
  if a = 5 ∧ s = wNone then (6, true) else
  if a = 4 ∧ s = wContents then (7, true) else
  if a = 6 ∧ s = wContents then (7, true) else
  if a = 8 ∧ s = wTarget then (9, true) else
  if a = 10 ∧ s = wClose then (16, true) else
  if a = 11 ∧ s = wClose then (16, true) else
  if a = 11 ∧ s = wEntry then (12, true) else
  if a = 12 ∧ s = wOpen then (13, true) else
  if a = 13 ∧ s = wName then (14, true) else
  (0, false)

end Go.Proofs.YtdjjleahfciipaaGreatDoor

namespace Go.Proofs.YtdjjleahfciipaaGreatDoor
open Go.RowKit

/-- A node whose end has not come. -/
structure ON where
  k : Int
  e : Bool
  t : ByteArray
  nms : List ByteArray
  ks : List Tr
  en : ByteArray
def ON.tr (o : ON) : Tr := .mk o.k o.e o.t o.nms o.ks
def ON.new : ON := ⟨0, false, ⟨#[]⟩, [], [], ⟨#[]⟩⟩
/-- The holder with one kid more. -/
def ON.kid (h : ON) (T : Tr) : ON := ⟨h.k, h.e, h.t, h.nms ++ [h.en], h.ks ++ [T], h.en⟩
/-- What is open, the last first; which word comes next; the root once it is closed. -/
structure PC where
  next : Int
  op : List ON
  root : Tr
def PC.new : PC := ⟨0, [], .mk 0 false ⟨#[]⟩ [] []⟩
/-- The node that was opened last, turned. -/
def PC.last (c : PC) (f : ON → ON) : PC := match c.op with
  | [] => c
  | o :: R => ⟨c.next, f o :: R, c.root⟩
def PC.to (c : PC) (n : Int) : PC := ⟨n, c.op, c.root⟩
def PC.close (c : PC) : PC := match c.op with
  | [] => c
  | [o] => ⟨17, [], o.tr⟩
  | o :: h :: R => ⟨16, h.kid o.tr :: R, c.root⟩
def PC.fixed (c : PC) (s : ByteArray) : Int × PC :=
  if (bhP c.next s).2 = false then (70, c) else
  if c.next = 1 ∧ c.op.length = 32 then (61, c) else
  if c.next = 1 then (0, ⟨(bhP c.next s).1, ON.new :: c.op, c.root⟩) else
  if c.next = 3 then (0, (c.last (fun o => ⟨kdP s, o.e, o.t, o.nms, o.ks, o.en⟩)).to (bhP c.next s).1) else
  if s = wExec then (0, (c.last (fun o => ⟨o.k, true, o.t, o.nms, o.ks, o.en⟩)).to (bhP c.next s).1) else
  if (bhP c.next s).1 = 16 then (0, c.close) else
  (0, c.to (bhP c.next s).1)
def PC.accept (c : PC) (s : ByteArray) : Int × PC :=
  if c.next = 7 then (0, (c.last (fun o => ⟨o.k, o.e, s, o.nms, o.ks, o.en⟩)).to 10) else
  if c.next = 9 then (if tgt s ≠ 0 then (tgt s, c) else (0, (c.last (fun o => ⟨o.k, o.e, s, o.nms, o.ks, o.en⟩)).to 10)) else
  if c.next = 14 then (match c.op with
    | [] => (0, c)
    | o :: _ => if ceP o.nms.getLast? s ≠ 0 then (ceP o.nms.getLast? s, c) else (0, (c.last (fun o => ⟨o.k, o.e, o.t, o.nms, o.ks, s⟩)).to 15)) else
  c.fixed s
/-- A parser. -/
structure PS where
  taken : Nat
  held : Nat
  code : Int
  fat : Int
  part : Bool
  closed : Bool
  len : Nat
  text : List UInt8
  c : PC
def PS.new (part : Bool) : PS := ⟨0, 0, 0, 0, part, false, 0, [], PC.new⟩
def PS.sc (p : PS) (c : PC) : PS := ⟨p.taken, p.held, p.code, p.fat, p.part, p.closed, p.len, p.text, c⟩
def PS.sl (p : PS) (n : Nat) : PS := ⟨p.taken, p.held, p.code, p.fat, p.part, p.closed, n, p.text, p.c⟩
def PS.st (p : PS) (l : List UInt8) : PS := ⟨p.taken, p.held, p.code, p.fat, p.part, p.closed, p.len, l, p.c⟩
def PS.sh (p : PS) (n : Nat) : PS := ⟨p.taken, n, p.code, p.fat, p.part, p.closed, p.len, p.text, p.c⟩
def PS.sk (p : PS) (n : Nat) : PS := ⟨n, p.held, p.code, p.fat, p.part, p.closed, p.len, p.text, p.c⟩
def PS.sf (p : PS) (c a : Int) : PS := ⟨p.taken, p.held, c, a, p.part, p.closed, p.len, p.text, p.c⟩
def PS.shut (p : PS) : PS := ⟨p.taken, p.held, p.code, p.fat, p.part, true, p.len, p.text, p.c⟩
/-- The length with the byte b. -/
def PS.nl (p : PS) (b : UInt8) : Nat := p.len + b.toNat * 2 ^ (8 * p.held)
/-- A byte that is put to its word: what is wrong with it (0: nothing) and where, and the parser behind it. -/
def PS.put (p : PS) (b : UInt8) : (Int × Int) × PS :=
  if p.held < 8 then
    (if p.held = 7 ∧ 1048576 < p.nl b then ((6, (p.taken : Int) - p.held), p.sl (p.nl b)) else ((0, 0), p.sl (p.nl b)))
  else if p.text.length < p.len then ((0, 0), p.st (p.text ++ [b]))
  else if b ≠ 0 then ((7, (p.taken : Int)), p) else ((0, 0), p)
/-- Behind a byte that was put: the word goes on, or is whole. -/
def PS.ends (p : PS) : (Int × Int) × PS :=
  if p.held + 1 ≠ 8 + p.len + padN p.len then ((0, 0), p.sh (p.held + 1)) else
  if (p.c.accept (NB.ba p.text)).1 ≠ 0 then (((p.c.accept (NB.ba p.text)).1, (p.taken : Int) - p.held), p.sc (p.c.accept (NB.ba p.text)).2) else
  ((0, 0), (((p.sc (p.c.accept (NB.ba p.text)).2).sh 0).sl 0).st [])
def PS.take (p : PS) (b : UInt8) : (Int × Int) × PS :=
  if p.c.next = 17 then ((5, (p.taken : Int)), p) else
  if p.taken = 1048576 then ((2, (p.taken : Int)), p) else
  if (p.put b).1.1 ≠ 0 then p.put b else (p.put b).2.ends
/-- One byte of Feed's. -/
def PS.step (p : PS) (b : UInt8) : PS :=
  if (p.take b).1.1 ≠ 0 then (p.take b).2.sf (p.take b).1.1 (p.take b).1.2 else ((p.take b).2.sf 0 0).sk (p.taken + 1)
/-- Feed's bytes, one by one. -/
def PS.run : PS → List UInt8 → PS
  | p, [] => p
  | p, b :: l => if p.part = true ∧ p.c.next = 17 then p else if (p.step b).code ≠ 0 then p.step b else (p.step b).run l
def PS.feed (p : PS) (l : List UInt8) : PS := if p.closed = true ∨ p.code ≠ 0 then p else p.run l
end Go.Proofs.YtdjjleahfciipaaGreatDoor
/- Rows of a walk; what the document's walk leaves alone. -/
namespace Go.Proofs.YtdjjleahfciipaaGreatDoor
open Go.RowKit

/-- A row: path, kind, mark, text. -/
abbrev RW := ByteArray × Int × Bool × ByteArray
def rwC (r : RW) : List Value := [.string r.1, .int .i64 r.2.1, .bool r.2.2.1, .string r.2.2.2]
mutual
def rwT (ns : List ByteArray) : Tr → List RW
  | .mk k e t nms ks => (joinB ns, k, e, t) :: rwL ns nms ks
def rwL (ns : List ByteArray) : List ByteArray → List Tr → List RW
  | s :: nms, T :: ks => rwT (ns ++ [s]) T ++ rwL ns nms ks
  | _, _ => []
end
theorem rwL_take (ns : List ByteArray) (nms : List ByteArray) : ∀ (ks : List Tr) (i : Nat) (s : ByteArray) (T : Tr), nms[i]? = some s → ks[i]? = some T → rwL ns (nms.take (i + 1)) (ks.take (i + 1)) = rwL ns (nms.take i) (ks.take i) ++ rwT (ns ++ [s]) T := by
  induction nms with
  | nil => intro ks i s T h; simp at h
  | cons a nms ih =>
    intro ks i s T h1 h2
    cases ks with
    | nil => simp at h2
    | cons K ks =>
      cases i with
      | zero =>
        simp at h1 h2
        subst h1 h2
        simp [rwL]
      | succ i =>
        have := ih ks i s T (by simpa using h1) (by simpa using h2)
        rw [List.take_succ_cons, List.take_succ_cons, List.take_succ_cons, List.take_succ_cons, rwL, rwL, this, List.append_assoc]
theorem nbP_pos (k : Int) (e : Bool) (t : ByteArray) : 48 ≤ nbP k e t := by
  have := fr_bd t.size
  unfold nbP
  split
  · cases e <;> simp <;> omega
  · split
    · omega
    · split <;> omega

/-- From w to w' nothing has turned but rows of cells of type ty from B on, and new blocks. -/
structure Fk (B : Nat) (ty : TypeId) (w w' : World) : Prop where
  os : w'.os = w.os
  tape : w'.tape = w.tape
  output : w'.output = w.output
  size : w.heap.size ≤ w'.heap.size
  low : ∀ k, k < B → w'.heap[k]? = w.heap[k]?
  mid : ∀ (k : Nat) (C : Array Value) (T : TypeId) (fz : Nat × Nat), w.heap[k]? = some (Obj.cells C T fz) → T ≠ ty → w'.heap[k]? = w.heap[k]?
theorem Fk.refl (B : Nat) (ty : TypeId) (w : World) : Fk B ty w w := ⟨rfl, rfl, rfl, Nat.le_refl _, fun _ _ => rfl, fun _ _ _ _ _ _ => rfl⟩
theorem Fk.trans {B : Nat} {ty : TypeId} {a b c : World} (h : Fk B ty a b) (k : Fk B ty b c) : Fk B ty a c :=
  ⟨k.os.trans h.os, k.tape.trans h.tape, k.output.trans h.output, Nat.le_trans h.size k.size, fun i hi => (k.low i hi).trans (h.low i hi), fun i C T fz e1 e2 => (k.mid i C T fz ((h.mid i C T fz e1 e2).trans e1) e2).trans (h.mid i C T fz e1 e2)⟩
theorem Fk.of_below {B : Nat} {ty : TypeId} {w w' : World} (h : Below w.heap.size w w') (hB : B ≤ w.heap.size) : Fk B ty w w' :=
  ⟨h.os, h.tape, h.output, h.size, fun k hk => h.block k (by omega), fun k _ _ _ e _ => h.block k (heap_lt e)⟩
theorem Fk.below {B : Nat} {ty : TypeId} {w w' : World} (h : Fk B ty w w') : Below B w w' := ⟨h.os, h.tape, h.output, h.size, h.low⟩
theorem Fk.drewN {B : Nat} {ty : TypeId} {a w : World} (h : Fk B ty a w) (n : Nat) : Fk B ty a (w.drewN n) := ⟨h.os, h.tape, h.output, h.size, h.low, h.mid⟩
/-- A store into a block that is new since a. -/
theorem Fk.over {B : Nat} {ty : TypeId} {a w : World} (h : Fk B ty a w) (hB : B ≤ a.heap.size) (g j : Nat) (u : Value) (hg : a.heap.size ≤ g) : Fk B ty a (w.setCell ⟨g, j, none⟩ u) :=
  ⟨h.os, h.tape, h.output, by rw [World.size_setCell]; exact h.size, fun k hk => (Below.heap_setCell _ _ _ k (by show k ≠ g; omega)).trans (h.low k hk), fun k C T fz e1 e2 => (Below.heap_setCell _ _ _ k (by have := heap_lt e1; show k ≠ g; omega)).trans (h.mid k C T fz e1 e2)⟩
/-- Behind an append onto a row of type ty. -/
theorem Fk.grown {B size n : Nat} {ty : TypeId} {v : Value} {xs : List Value} {w w' : World} (hown : w.ownsRow B ty size v n xs) (hg : w.grownBy w' v.ownBlock) (hB : B ≤ w.heap.size) : Fk B ty w w' :=
  ⟨hg.os, hg.tape, hg.output, hg.size, fun k hk => hg.block k (by omega) (fun e => by have := (hown.lt k e.symm).1; omega), fun k C T fz e1 e2 => hg.block k (heap_lt e1) (fun e => by
    obtain ⟨c', fz', hk⟩ := Lib.ownsRow_kind hown k e.symm
    rw [hk] at e1
    injection e1 with e1
    injection e1 with _ e1
    exact e2 e1.symm)⟩

theorem wpList_app_is {w : World} {ops : Array Oper} {rest : List Oper} {o : Oper} {a : Act} {Q : Exit → Act → World → Prop} (hgd : o.guard = none) (t u : TypeId) (s x : Operand)
    (ho : o.op = .call { callee := .builtin .append, args := #[s, x], argTypes := #[t, u] }) (v y v' : Value) (w' : World) (hs : a.eval s = v) (hx : a.eval x = y)
    (hr : (Builtin.append_ #[t, u] o.type #[v, y]).run Tryz.prog w = .ok v' w') (h : wpList Tryz.prog ops Q rest (a.put o.dst v') w') : wpList Tryz.prog ops Q (o :: rest) a w := by
  refine wpList_plain hgd fun K hK' => ?_
  unfold Oper.wp
  simp [execOp, ho, resolve, invoke, builtin, hs, hx, hr, Result.andThen]
  exact hK' _ _ h

/-- v is a slice of these rows, which the call itself made from block B on; ty: the rows' type. -/
def Rws (ty : TypeId) (w : World) (B : Nat) (v : Value) (L : List RW) : Prop := w.ownsRow B ty 4 v L.length (L.flatMap rwC)
theorem Rws.shape {ty : TypeId} {w : World} {B : Nat} {v : Value} {L : List RW} (h : Rws ty w B v L) : ∃ x c, v = .slice x L.length c := by
  rcases h.2 with ⟨hv, h0⟩ | ⟨q, cap, cur, hv, _⟩
  · exact ⟨none, 0, by rw [hv, h0]⟩
  · exact ⟨_, _, hv⟩
theorem Rws.same {ty : TypeId} {w w' : World} {B : Nat} {v : Value} {L : List RW} (h : Rws ty w B v L) (e : ∀ k, v.ownBlock = some k → w'.heap[k]? = w.heap[k]?) : Rws ty w' B v L := by
  refine ⟨h.1, ?_⟩
  rcases h.2 with hn | ⟨g, cap, cur, rfl, hb, hg, rest⟩
  · exact .inl hn
  · exact .inr ⟨g, cap, cur, rfl, hb, (e g rfl).trans hg, rest⟩
theorem Rws.below {ty : TypeId} {w w' : World} {B : Nat} {v : Value} {L : List RW} (h : Rws ty w B v L) (b : Below w.heap.size w w') : Rws ty w' B v L := h.same fun k hk => b.block k (World.ownsRow.lt h k hk).2
/-- A store elsewhere: into a block of another type. -/
theorem Rws.over {ty : TypeId} {w : World} {B : Nat} {v : Value} {L : List RW} (h : Rws ty w B v L) {g : Nat} {C : Array Value} {T : TypeId} {fz : Nat × Nat} (hg : w.heap[g]? = some (.cells C T fz)) (hT : T ≠ ty) (j : Nat) (u : Value) : Rws ty (w.setCell ⟨g, j, none⟩ u) B v L :=
  h.same fun k hk => Below.heap_setCell _ _ _ k (by
    show k ≠ g
    intro e
    subst e
    obtain ⟨c', fz', hh⟩ := Lib.ownsRow_kind h k hk
    rw [hg] at hh
    injection hh with hh
    injection hh with _ hh
    exact hT hh)
theorem flat_rw (L : List RW) : ∀ (i : Nat) (r : RW), L[i]? = some r → (L.flatMap rwC)[i * 4]? = some (.string r.1) ∧ (L.flatMap rwC)[i * 4 + 1]? = some (.int .i64 r.2.1) ∧ (L.flatMap rwC)[i * 4 + 2]? = some (.bool r.2.2.1) ∧ (L.flatMap rwC)[i * 4 + 3]? = some (.string r.2.2.2) := by
  induction L with
  | nil => intro i r h; simp at h
  | cons a L ih =>
    intro i r h
    cases i with
    | zero =>
      simp at h
      subst h
      exact ⟨rfl, rfl, rfl, rfl⟩
    | succ i =>
      have := ih i r (by simpa using h)
      have e : ∀ j, ((a :: L).flatMap rwC)[(i + 1) * 4 + j]? = (L.flatMap rwC)[i * 4 + j]? := fun j => by
        rw [List.flatMap_cons, List.getElem?_append_right (by show 4 ≤ _; omega)]
        congr 1
        show (i + 1) * 4 + j - 4 = _
        omega
      exact ⟨(e 0).trans this.1, (e 1).trans this.2.1, (e 2).trans this.2.2.1, (e 3).trans this.2.2.2⟩
/-- The cells of a row of rows. -/
theorem Rws.at {ty : TypeId} {w : World} {B : Nat} {v : Value} {L : List RW} (h : Rws ty w B v L) {i : Nat} {r : RW} (hr : L[i]? = some r) : ∃ g c, v = .slice (some ⟨g, 0, none⟩) L.length c ∧ B ≤ g ∧ g < w.heap.size ∧ w.cell? ⟨g, i * 4, none⟩ = some (.string r.1) ∧ w.cell? ⟨g, i * 4 + 1, none⟩ = some (.int .i64 r.2.1) ∧ w.cell? ⟨g, i * 4 + 2, none⟩ = some (.bool r.2.2.1) ∧ w.cell? ⟨g, i * 4 + 3, none⟩ = some (.string r.2.2.2) := by
  have hi : i < L.length := (List.getElem?_eq_some_iff.1 hr).1
  obtain ⟨g, c, rfl, hb, hl⟩ := World.ownsRow.form h (by omega)
  have f := flat_rw L i r hr
  exact ⟨g, c, rfl, hb, hl, (World.ownsRow.cellAt h _ (by omega)).trans f.1, (World.ownsRow.cellAt h _ (by omega)).trans f.2.1, (World.ownsRow.cellAt h _ (by omega)).trans f.2.2.1, (World.ownsRow.cellAt h _ (by omega)).trans f.2.2.2⟩
/-- A row more. -/
theorem Rws.app {ty lty : TypeId} {w : World} {B : Nat} {v : Value} {L : List RW} (h : Rws ty w B v L) (hinf : (Tryz.prog.info? ty).map (fun i => (i.zero, i.size, i.bytes)) = some (some (.agg #[.string ⟨#[]⟩, .int .i64 0, .bool false, .string ⟨#[]⟩]), 4, 48)) (hund : Tryz.prog.underlying lty = some (.slice ty)) (r : RW) (hB : B ≤ w.heap.size) (hl : L.length ≤ 1073741824) :
    ∃ p c w', (Builtin.append_ #[lty, lty] lty #[v, .slice (some ⟨w.heap.size, 0, none⟩) 1 1]).run Tryz.prog (w.alloc (.cells #[.string r.1, .int .i64 r.2.1, .bool r.2.2.1, .string r.2.2.2] ty)) = .ok (.slice p (L.length + 1) c) w' ∧ Rws ty w' B (.slice p (L.length + 1) c) (L ++ [r]) ∧ Fk B ty w w' := by
  obtain ⟨i0, hi, hz0, hz1, hz2⟩ := info_parts hinf
  have hown : (w.alloc (.cells #[.string r.1, .int .i64 r.2.1, .bool r.2.2.1, .string r.2.2.2] ty)).ownsRow B ty 4 v L.length (L.flatMap rwC) := World.ownsRow.alloc h _
  obtain ⟨g, cap, w', hr, ho, hg, hat, hlt⟩ := run_append_lies (P := Tryz.prog) (w.alloc (.cells #[.string r.1, .int .i64 r.2.1, .bool r.2.2.1, .string r.2.2.2] ty)) lty lty B ty i0 (.agg #[.string ⟨#[]⟩, .int .i64 0, .bool false, .string ⟨#[]⟩]) 4 48 hund hi hz0 hz1 hz2 rfl (by decide) v L.length (L.flatMap rwC) hown ⟨w.heap.size, 0, none⟩ 1 1 (rwC r) rfl (fun j u hj => by
      rw [Addr.add_lit, Nat.zero_add]
      match j, hj with
      | 0, hj => exact (World.cell?_alloc_new w _ _ 0).trans hj
      | 1, hj => exact (World.cell?_alloc_new w _ _ 1).trans hj
      | 2, hj => exact (World.cell?_alloc_new w _ _ 2).trans hj
      | 3, hj => exact (World.cell?_alloc_new w _ _ 3).trans hj) (by intro u hu; simp [rwC] at hu; rcases hu with rfl | rfl | rfl | rfl <;> rfl) (by decide) (by unfold maxLen; omega) (by omega) (by rw [World.size_alloc]; omega) _ rfl
  refine ⟨some ⟨g, 0, none⟩, cap, w', hr, ?_, ?_⟩
  · unfold Rws
    rw [List.length_append, List.flatMap_append]
    have : [r].flatMap rwC = rwC r := by simp
    rw [this]
    exact ho
  · exact (Fk.of_below ((Below.refl _ _).alloc (Nat.le_refl _) _) hB).trans (Fk.grown hown hg (by rw [World.size_alloc]; omega))

end Go.Proofs.YtdjjleahfciipaaGreatDoor
/- The document's walk of a tree: its two blocks and what it leaves. -/
namespace Go.Proofs.YtdjjleahfciipaaGreatDoor
open Go.RowKit

theorem joinB_size (ns : List ByteArray) (h : ∀ s ∈ ns, s.size ≤ 1048576) : (joinB ns).size ≤ 1048577 * ns.length := by
  induction ns with
  | nil => exact Nat.le_refl _
  | cons a ns ih =>
    have ha := h a (by simp)
    cases ns with
    | nil => show a.size ≤ _; simp; omega
    | cons s ns =>
      have := ih (fun z hz => h z (by simp [hz]))
      show (a ++ ⟨#[47]⟩ ++ joinB (s :: ns)).size ≤ _
      rw [ByteArray.size_append, ByteArray.size_append]
      have e : (⟨#[47]⟩ : ByteArray).size = 1 := rfl
      simp at this ⊢
      omega

mutual
/-- Each row is paid for by a byte. -/
theorem rw_le (ns : List ByteArray) (b : Int) : ∀ T : Tr, (vT ns b T).off = none → ((rwT ns T).length : Int) + b ≤ (vT ns b T).bytes
  | .mk k e t nms ks => fun h => by
    have hn := nbP_pos k e t
    rw [vT] at h ⊢
    rw [rwT]
    split at h
    · cases h
    · rename_i h1
      rw [if_neg h1]
      split at h
      · cases h
      · rename_i h2
        rw [if_neg h2]
        split at h
        · cases h
        · rename_i h3
          rw [if_neg h3]
          have := rwL_le ns (b + nbP k e t) none nms ks h
          rw [List.length_cons]
          omega
theorem rwL_le (ns : List ByteArray) (b : Int) (prev : Option ByteArray) : ∀ (nms : List ByteArray) (ks : List Tr), (vL ns b prev nms ks).off = none → ((rwL ns nms ks).length : Int) + b ≤ (vL ns b prev nms ks).bytes
  | s :: nms, T :: ks => fun h => by
    rw [vL] at h ⊢
    rw [rwL]
    split at h
    · cases h
    · rename_i h2
      rw [if_neg h2]
      have hb := ebP_bd s
      cases hv : (vT (ns ++ [s]) (b + ebP s) T).off with
      | some o => rw [hv] at h; cases h
      | none =>
        rw [hv] at h
        have e1 := rw_le (ns ++ [s]) (b + ebP s) T hv
        have e2 := rwL_le ns (vT (ns ++ [s]) (b + ebP s) T).bytes (some s) nms ks h
        rw [List.length_append]
        show _ ≤ (vL ns (vT (ns ++ [s]) (b + ebP s) T).bytes (some s) nms ks).bytes
        omega
  | [], ks => fun _ => by rw [vL_end, rwL] <;> simp
  | s :: nms, [] => fun _ => by
    have h9 : vL ns b prev (s :: nms) [] = ⟨b, none⟩ := by rw [vL]; simp
    rw [h9, rwL] <;> simp
end

end Go.Proofs.YtdjjleahfciipaaGreatDoor
