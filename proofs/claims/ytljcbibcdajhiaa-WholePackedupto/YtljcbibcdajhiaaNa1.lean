/- NaP NaH NaI NaJ NaX NaM, joined (own text of the verifier). -/
import Derived.Test.YtljcbibcdajhiaaWwB
import Derived.Test.YtljcbibcdajhiaaTvE
import Derived.Lib.Strings
import Derived.BigQuiet
import Derived.Test.YtljcbibcdajhiaaCkB
import Derived.Test.YtljcbibcdajhiaaCmA
import Derived.Test.YtljcbibcdajhiaaNb1
import Derived.Test.YtljcbibcdajhiaaTcB
namespace Go.Proofs.Ytljcbibcdajhiaa
open Go.RowKit

def wOpen : ByteArray := ⟨#[40]⟩
def wClose : ByteArray := ⟨#[41]⟩
def wType : ByteArray := ⟨#[116, 121, 112, 101]⟩
def wRegular : ByteArray := ⟨#[114, 101, 103, 117, 108, 97, 114]⟩
def wExec : ByteArray := ⟨#[101, 120, 101, 99, 117, 116, 97, 98, 108, 101]⟩
def wNone : ByteArray := ⟨#[]⟩
def wContents : ByteArray := ⟨#[99, 111, 110, 116, 101, 110, 116, 115]⟩
def wSymlink : ByteArray := ⟨#[115, 121, 109, 108, 105, 110, 107]⟩
def wTarget : ByteArray := ⟨#[116, 97, 114, 103, 101, 116]⟩
def wDirectory : ByteArray := ⟨#[100, 105, 114, 101, 99, 116, 111, 114, 121]⟩
def wEntry : ByteArray := ⟨#[101, 110, 116, 114, 121]⟩
def wName : ByteArray := ⟨#[110, 97, 109, 101]⟩
def wNode : ByteArray := ⟨#[110, 111, 100, 101]⟩
def wMagic : ByteArray := ⟨#[100, 101, 112, 111, 116, 45, 97, 114, 99, 104, 105, 118, 101, 45, 49]⟩
/-- Framed words, one behind the other. -/
def frm : List ByteArray → List UInt8
  | [] => []
  | s :: l => (txt s).data.toList ++ frm l
theorem frm_app (a b : List ByteArray) : frm (a ++ b) = frm a ++ frm b := by
  induction a with
  | nil => rfl
  | cons s a ih => show _ ++ frm (a ++ b) = _ ++ frm a ++ frm b; rw [ih, List.append_assoc]
mutual
/-- A tree's words. -/
def wdT : Tr → List ByteArray
  | .mk k e t nms ks => [wOpen, wType] ++ (if k = 1 then [wRegular] ++ (if e then [wExec, wNone] else []) ++ [wContents, t] else if k = 2 then [wSymlink, wTarget, t] else [wDirectory] ++ wdL nms ks) ++ [wClose]
def wdL : List ByteArray → List Tr → List ByteArray
  | s :: nms, T :: ks => [wEntry, wOpen, wName, s, wNode] ++ wdT T ++ [wClose] ++ wdL nms ks
  | _, _ => []
end
theorem txt_len (s : ByteArray) : (txt s).data.toList.length = 8 + s.size + padN s.size := by
  rw [Array.length_toList]
  show (txt s).size = _
  unfold txt
  rw [strFn_size]
/-- The bytes of words. -/
def fwS : List ByteArray → Nat
  | [] => 0
  | s :: l => 8 + s.size + padN s.size + fwS l
theorem frm_len (l : List ByteArray) : (frm l).length = fwS l := by
  induction l with
  | nil => rfl
  | cons s l ih => show (_ ++ frm l).length = _; rw [List.length_append, txt_len, ih]; rfl
theorem fwS_app (a b : List ByteArray) : fwS (a ++ b) = fwS a + fwS b := by
  induction a with
  | nil => show fwS b = 0 + fwS b; omega
  | cons s a ih => show _ + fwS (a ++ b) = _ + fwS a + fwS b; rw [ih]; omega
mutual
/-- All kinds are 1, 2 or 3, what is no directory has no kids, texts are small. -/
def okT : Tr → Prop
  | .mk k _ t nms ks => (k = 1 ∨ k = 2 ∨ k = 3) ∧ (k ≠ 3 → nms = [] ∧ ks = []) ∧ t.size ≤ 1048576 ∧ okL nms ks
def okL : List ByteArray → List Tr → Prop
  | s :: nms, T :: ks => s.size ≤ 1048576 ∧ okT T ∧ okL nms ks
  | _, _ => True
end
mutual
theorem fw_tree : ∀ (T : Tr), okT T → (fwS (wdT T) : Int) = tbT T
  | .mk k e t nms ks, h => by
    rw [okT] at h
    obtain ⟨hk, hn, ht, hL⟩ := h
    have hft := fr_in t.size (by omega)
    rw [wdT, fwS_app, fwS_app]
    have h2 : fwS [wOpen, wType] = 32 := by decide +kernel
    have h1 : fwS [wClose] = 16 := by decide +kernel
    rw [h2, h1]
    rw [tbT]
    unfold nbP
    rcases hk with rfl | rfl | rfl
    · obtain ⟨rfl, rfl⟩ := hn (by decide)
      rw [if_pos rfl, if_pos rfl, fwS_app, fwS_app]
      have h3 : fwS [wRegular] = 16 := by decide +kernel
      have h4 : fwS [wContents, t] = 16 + (8 + t.size + padN t.size) := by
        show 8 + wContents.size + padN wContents.size + (8 + t.size + padN t.size + 0) = _
        have : 8 + wContents.size + padN wContents.size = 16 := by decide +kernel
        omega
      have h5 : fwS (if e then [wExec, wNone] else []) = if e then 32 else 0 := by cases e <;> decide +kernel
      rw [h3, h4, h5, hft, tbL]
      · cases e
        · simp; omega
        · simp; omega
      all_goals simp
    · obtain ⟨rfl, rfl⟩ := hn (by decide)
      rw [if_neg (by decide), if_pos rfl, if_neg (by decide), if_pos rfl]
      have h4 : fwS [wSymlink, wTarget, t] = 32 + (8 + t.size + padN t.size) := by
        show 8 + wSymlink.size + padN wSymlink.size + (8 + wTarget.size + padN wTarget.size + (8 + t.size + padN t.size + 0)) = _
        have : 8 + wSymlink.size + padN wSymlink.size = 16 := by decide +kernel
        have : 8 + wTarget.size + padN wTarget.size = 16 := by decide +kernel
        omega
      rw [h4, hft, tbL]
      · omega
      all_goals simp
    · rw [if_neg (by decide), if_neg (by decide), if_neg (by decide), if_neg (by decide), if_pos rfl, fwS_app]
      have h3 : fwS [wDirectory] = 24 := by decide +kernel
      have := fw_kids nms ks hL
      rw [h3]
      omega
theorem fw_kids : ∀ (nms : List ByteArray) (ks : List Tr), okL nms ks → (fwS (wdL nms ks) : Int) = tbL nms ks
  | s :: nms, T :: ks, h => by
    rw [okL] at h
    have h1 := fw_tree T h.2.1
    have h2 := fw_kids nms ks h.2.2
    have hfs := fr_in s.size (by omega)
    rw [wdL, fwS_app, fwS_app, fwS_app, tbL]
    have h3 : fwS [wEntry, wOpen, wName, s, wNode] = 64 + (8 + s.size + padN s.size) := by
      show 8 + wEntry.size + padN wEntry.size + (8 + wOpen.size + padN wOpen.size + (8 + wName.size + padN wName.size + (8 + s.size + padN s.size + (8 + wNode.size + padN wNode.size + 0)))) = _
      have : 8 + wEntry.size + padN wEntry.size = 16 := by decide +kernel
      have : 8 + wOpen.size + padN wOpen.size = 16 := by decide +kernel
      have : 8 + wName.size + padN wName.size = 16 := by decide +kernel
      have : 8 + wNode.size + padN wNode.size = 16 := by decide +kernel
      omega
    have h4 : fwS [wClose] = 16 := by decide +kernel
    rw [h3, h4]
    unfold ebP
    omega
  | [], [], _ => by rw [wdL, tbL] <;> simp [fwS]
  | [], _ :: _, _ => by rw [wdL, tbL] <;> simp [fwS]
  | _ :: _, [], _ => by rw [wdL, tbL] <;> simp [fwS]
end
end Go.Proofs.Ytljcbibcdajhiaa

namespace Go.Proofs.Ytljcbibcdajhiaa
open Go.RowKit

def kdP (s : ByteArray) : Int := if s = wRegular then 1 else if s = wSymlink then 2 else 3

set_option maxHeartbeats 2000000 in
theorem kindof_any (s : ByteArray) (w : World) : Calls Try.prog 67 #[.string s] w fun e w' => e = .returned (.int .i64 (kdP s)) ∧ w' = w := by
  by_cases h0 : s = wRegular
  · have HB : Hid (kdP s = 1) := by subst h0; unfold Hid; decide +kernel
    have p : s.toList = [114, 101, 103, 117, 108, 97, 114] := by subst h0; rw [Lib.toList_data]; rfl
    clear h0
    go_enter Try.func67, Try.ntmps67
    go_wp2
    go_ret
    exact ⟨by rw [HB.out]; rfl, rfl⟩
  have n0 : (s.toList == [114, 101, 103, 117, 108, 97, 114]) = false := beq_eq_false_iff_ne.2 fun h => h0 (ByteArray.ext (Array.toList_inj.1 (by rw [← Lib.toList_data, h]; rfl)))
  by_cases h1 : s = wSymlink
  · have HB : Hid (kdP s = 2) := by subst h1; unfold Hid; decide +kernel
    have p : s.toList = [115, 121, 109, 108, 105, 110, 107] := by subst h1; rw [Lib.toList_data]; rfl
    clear h0 h1 n0
    go_enter Try.func67, Try.ntmps67
    go_wp2
    go_ret
    exact ⟨by rw [HB.out]; rfl, rfl⟩
  have n1 : (s.toList == [115, 121, 109, 108, 105, 110, 107]) = false := beq_eq_false_iff_ne.2 fun h => h1 (ByteArray.ext (Array.toList_inj.1 (by rw [← Lib.toList_data, h]; rfl)))
  have HB : Hid (kdP s = 3) := by simp [Hid, kdP, h0, h1]
  clear h0 h1
  go_enter Try.func67, Try.ntmps67
  go_wp2
  go_ret
  exact ⟨by rw [HB.out]; rfl, rfl⟩

set_option maxHeartbeats 1000000 in
theorem whole_any (g : Nat) (x : Int) (w : World) (h : w.cell? ⟨g, 6, none⟩ = some (.int .i64 x)) : Calls Try.prog 43 #[.pointer (some ⟨g, 0, none⟩)] w fun e w' => e = .returned (.bool (x == 17)) ∧ w' = w := by
  go_enter Try.func43, Try.ntmps43
  go_wp2
  go_ret
  exact ⟨rfl, rfl⟩

set_option maxHeartbeats 1000000 in
theorem newparser_any (w : World) : Calls Try.prog 28 #[] w fun e w' => e = .returned (.pointer (some ⟨w.heap.size, 0, none⟩)) ∧ w' = w.alloc (.cells #[.int .i64 0, .int .i64 0, .int .i64 0, .int .i64 0, .bool false, .bool false, .int .i64 0, .int .u64 0, .slice none 0 0, .slice none 0 0, .int .i64 0, .bool false, .string ⟨#[]⟩, .slice none 0 0] 105) := by
  go_enter Try.func28, Try.ntmps28
  go_wp2
  go_ret
  exact ⟨rfl, rfl⟩

end Go.Proofs.Ytljcbibcdajhiaa

namespace Go.Proofs.Ytljcbibcdajhiaa
open Go.RowKit

set_option maxHeartbeats 2000000 in
theorem last_any (g p o n c : Nat) (w : World) (h : w.cell? ⟨g, 9, none⟩ = some (.slice (some ⟨p, o, none⟩) (n + 1) c)) (hn : n ≤ 1048576) :
    Calls Try.prog 60 #[.pointer (some ⟨g, 0, none⟩)] w fun e w' => e = .returned (.pointer (some ⟨p, o + n * 5, none⟩)) ∧ ∃ q, w' = w.drewN q := by
  go_enter Try.func60, Try.ntmps60
  go_upto_region 1 with fail
  go_quiet (fail)
  go_wp2
  go_ret
  exact ⟨rfl, _, rfl⟩
end Go.Proofs.Ytljcbibcdajhiaa

namespace Go.Proofs.Ytljcbibcdajhiaa
open Go.RowKit

/-- May an entry of the name s come behind prev? -/
def ceP (prev : Option ByteArray) (s : ByteArray) : Int := if chk s ≠ 0 then chk s else match prev with
  | none => 0
  | some s' => if 0 ≤ cmpB s' s then 64 else 0
set_option maxHeartbeats 4000000 in
theorem chkent_none (p o c : Nat) (x : Option Addr) (s : ByteArray) (w : World) (h3 : w.cell? ⟨p, o + 3, none⟩ = some (.slice x 0 c)) :
    Calls Try.prog 61 #[.pointer (some ⟨p, o, none⟩), .string s] w fun e w' => e = .returned (.int .i64 (ceP none s)) ∧ w' = w := by
  have CK := check_any s w
  obtain ⟨R, hR⟩ : ∃ R, ceP none s = R := ⟨_, rfl⟩
  have HR : Hid (R = ceP none s) := hR.symm
  rw [hR]
  clear hR
  obtain ⟨C, hC⟩ : ∃ C, chk s = C := ⟨_, rfl⟩
  have HC : Hid (chk s = C) := hC
  rw [hC] at CK
  clear hC
  by_cases hz : C = 0
  · subst hz
    have HE : Hid (R = 0) := by rw [Hid, HR.out]; unfold ceP; rw [if_neg (by rw [HC.out]; decide)]
    go_enter Try.func61, Try.ntmps61
    go_wp2_with fail
    refine CK.mono ?_
    rintro e1 w1 ⟨rfl, rfl⟩
    clear CK
    go_wp2
    go_ret
    exact ⟨by rw [HE.out]; rfl, rfl⟩
  · have HE : Hid (R = C) := by rw [Hid, HR.out]; unfold ceP; rw [if_pos (by rw [HC.out]; exact hz), HC.out]
    have hne : (C == 0) = false := by simp [hz]
    go_enter Try.func61, Try.ntmps61
    go_wp2_with fail
    refine CK.mono ?_
    rintro e1 w1 ⟨rfl, rfl⟩
    clear CK
    go_wp2
    go_ret
    exact ⟨by rw [HE.out]; rfl, rfl⟩
set_option maxHeartbeats 4000000 in
theorem chkent_some (p o c n g k : Nat) (s' s : ByteArray) (w : World) (hn : n ≤ 1048576) (h3 : w.cell? ⟨p, o + 3, none⟩ = some (.slice (some ⟨g, k, none⟩) (n + 1) c)) (h4 : w.cell? ⟨g, k + n * 5, none⟩ = some (.string s')) :
    Calls Try.prog 61 #[.pointer (some ⟨p, o, none⟩), .string s] w fun e w' => e = .returned (.int .i64 (ceP (some s') s)) ∧ w' = w := by
  have CK := check_any s w
  have CM := compare_any s' s w
  obtain ⟨R, hR⟩ : ∃ R, ceP (some s') s = R := ⟨_, rfl⟩
  have HR : Hid (R = ceP (some s') s) := hR.symm
  rw [hR]
  clear hR
  obtain ⟨C, hC⟩ : ∃ C, chk s = C := ⟨_, rfl⟩
  have HC : Hid (chk s = C) := hC
  rw [hC] at CK
  clear hC
  obtain ⟨D, hD⟩ : ∃ D, cmpB s' s = D := ⟨_, rfl⟩
  have HD : Hid (cmpB s' s = D) := hD
  rw [hD] at CM
  clear hD
  by_cases hz : C = 0
  · subst hz
    by_cases hd : 0 ≤ D
    · have HE : Hid (R = 64) := by rw [Hid, HR.out]; unfold ceP; rw [if_neg (by rw [HC.out]; decide)]; show (if 0 ≤ cmpB s' s then (64 : Int) else 0) = 64; rw [HD.out, if_pos hd]
      have hq : decide (D ≥ 0) = true := by simp [hd]
      go_enter Try.func61, Try.ntmps61
      go_wp2_with fail
      refine CK.mono ?_
      rintro e1 w1 ⟨rfl, rfl⟩
      clear CK
      go_wp2_with fail
      refine CM.mono ?_
      rintro e1 w1 ⟨rfl, rfl⟩
      clear CM
      go_wp2
      go_ret
      exact ⟨by rw [HE.out]; rfl, rfl⟩
    · have HE : Hid (R = 0) := by rw [Hid, HR.out]; unfold ceP; rw [if_neg (by rw [HC.out]; decide)]; show (if 0 ≤ cmpB s' s then (64 : Int) else 0) = 0; rw [HD.out, if_neg hd]
      have hq : decide (D ≥ 0) = false := by simp; omega
      go_enter Try.func61, Try.ntmps61
      go_wp2_with fail
      refine CK.mono ?_
      rintro e1 w1 ⟨rfl, rfl⟩
      clear CK
      go_wp2_with fail
      refine CM.mono ?_
      rintro e1 w1 ⟨rfl, rfl⟩
      clear CM
      go_wp2
      go_ret
      exact ⟨by rw [HE.out]; rfl, rfl⟩
  · have HE : Hid (R = C) := by rw [Hid, HR.out]; unfold ceP; rw [if_pos (by rw [HC.out]; exact hz), HC.out]
    have hne : (C == 0) = false := by simp [hz]
    clear CM
    go_enter Try.func61, Try.ntmps61
    go_wp2_with fail
    refine CK.mono ?_
    rintro e1 w1 ⟨rfl, rfl⟩
    clear CK
    go_wp2
    go_ret
    exact ⟨by rw [HE.out]; rfl, rfl⟩
end Go.Proofs.Ytljcbibcdajhiaa

namespace Go.Proofs.Ytljcbibcdajhiaa
open Go.RowKit

def bhP (a : Int) (s : ByteArray) : Int × Bool :=
  if a = 0 ∧ s = wMagic then (1, true) else
  if a = 15 ∧ s = wNode then (1, true) else
  if a = 1 ∧ s = wOpen then (2, true) else
  if a = 2 ∧ s = wType then (3, true) else
  if a = 3 ∧ s = wRegular then (4, true) else
  if a = 3 ∧ s = wSymlink then (8, true) else
  if a = 3 ∧ s = wDirectory then (11, true) else
  if a = 16 ∧ s = wClose then (11, true) else
  if a = 4 ∧ s = wExec then (5, true) else
  if a = 5 ∧ s = wNone then (6, true) else
  if a = 4 ∧ s = wContents then (7, true) else
  if a = 6 ∧ s = wContents then (7, true) else
  if a = 8 ∧ s = wTarget then (9, true) else
  if a = 10 ∧ s = wClose then (16, true) else
  if a = 11 ∧ s = wClose then (16, true) else
  if a = 11 ∧ s = wEntry then (12, true) else
  if a = 12 ∧ s = wOpen then (13, true) else
  if a = 13 ∧ s = wName then (14, true) else
  (0, false)

end Go.Proofs.Ytljcbibcdajhiaa

namespace Go.Proofs.Ytljcbibcdajhiaa
open Go.RowKit

/-- A node whose end has not come. -/
structure ON where
  k : Int
  e : Bool
  t : ByteArray
  nms : List ByteArray
  ks : List Tr
  en : ByteArray
def ON.tr (o : ON) : Tr := .mk o.k o.e o.t o.nms o.ks
def ON.new : ON := ⟨0, false, ⟨#[]⟩, [], [], ⟨#[]⟩⟩
/-- The holder with one kid more. -/
def ON.kid (h : ON) (T : Tr) : ON := ⟨h.k, h.e, h.t, h.nms ++ [h.en], h.ks ++ [T], h.en⟩
/-- What is open, the last first; which word comes next; the root once it is closed. -/
structure PC where
  next : Int
  op : List ON
  root : Tr
def PC.new : PC := ⟨0, [], .mk 0 false ⟨#[]⟩ [] []⟩
/-- The node that was opened last, turned. -/
def PC.last (c : PC) (f : ON → ON) : PC := match c.op with
  | [] => c
  | o :: R => ⟨c.next, f o :: R, c.root⟩
def PC.to (c : PC) (n : Int) : PC := ⟨n, c.op, c.root⟩
def PC.close (c : PC) : PC := match c.op with
  | [] => c
  | [o] => ⟨17, [], o.tr⟩
  | o :: h :: R => ⟨16, h.kid o.tr :: R, c.root⟩
def PC.fixed (c : PC) (s : ByteArray) : Int × PC :=
  if (bhP c.next s).2 = false then (70, c) else
  if c.next = 1 ∧ c.op.length = 32 then (61, c) else
  if c.next = 1 then (0, ⟨(bhP c.next s).1, ON.new :: c.op, c.root⟩) else
  if c.next = 3 then (0, (c.last (fun o => ⟨kdP s, o.e, o.t, o.nms, o.ks, o.en⟩)).to (bhP c.next s).1) else
  if s = wExec then (0, (c.last (fun o => ⟨o.k, true, o.t, o.nms, o.ks, o.en⟩)).to (bhP c.next s).1) else
  if (bhP c.next s).1 = 16 then (0, c.close) else
  (0, c.to (bhP c.next s).1)
def PC.accept (c : PC) (s : ByteArray) : Int × PC :=
  if c.next = 7 then (0, (c.last (fun o => ⟨o.k, o.e, s, o.nms, o.ks, o.en⟩)).to 10) else
  if c.next = 9 then (if tgt s ≠ 0 then (tgt s, c) else (0, (c.last (fun o => ⟨o.k, o.e, s, o.nms, o.ks, o.en⟩)).to 10)) else
  if c.next = 14 then (match c.op with
    | [] => (0, c)
    | o :: _ => if ceP o.nms.getLast? s ≠ 0 then (ceP o.nms.getLast? s, c) else (0, (c.last (fun o => ⟨o.k, o.e, o.t, o.nms, o.ks, s⟩)).to 15)) else
  c.fixed s
/-- A parser. -/
structure PS where
  taken : Nat
  held : Nat
  code : Int
  fat : Int
  part : Bool
  closed : Bool
  len : Nat
  text : List UInt8
  c : PC
def PS.new (part : Bool) : PS := ⟨0, 0, 0, 0, part, false, 0, [], PC.new⟩
def PS.sc (p : PS) (c : PC) : PS := ⟨p.taken, p.held, p.code, p.fat, p.part, p.closed, p.len, p.text, c⟩
def PS.sl (p : PS) (n : Nat) : PS := ⟨p.taken, p.held, p.code, p.fat, p.part, p.closed, n, p.text, p.c⟩
def PS.st (p : PS) (l : List UInt8) : PS := ⟨p.taken, p.held, p.code, p.fat, p.part, p.closed, p.len, l, p.c⟩
def PS.sh (p : PS) (n : Nat) : PS := ⟨p.taken, n, p.code, p.fat, p.part, p.closed, p.len, p.text, p.c⟩
def PS.sk (p : PS) (n : Nat) : PS := ⟨n, p.held, p.code, p.fat, p.part, p.closed, p.len, p.text, p.c⟩
def PS.sf (p : PS) (c a : Int) : PS := ⟨p.taken, p.held, c, a, p.part, p.closed, p.len, p.text, p.c⟩
def PS.shut (p : PS) : PS := ⟨p.taken, p.held, p.code, p.fat, p.part, true, p.len, p.text, p.c⟩
/-- The length with the byte b. -/
def PS.nl (p : PS) (b : UInt8) : Nat := p.len + b.toNat * 2 ^ (8 * p.held)
/-- A byte that is put to its word: what is wrong with it (0: nothing) and where, and the parser behind it. -/
def PS.put (p : PS) (b : UInt8) : (Int × Int) × PS :=
  if p.held < 8 then
    (if p.held = 7 ∧ 1048576 < p.nl b then ((6, (p.taken : Int) - p.held), p.sl (p.nl b)) else ((0, 0), p.sl (p.nl b)))
  else if p.text.length < p.len then ((0, 0), p.st (p.text ++ [b]))
  else if b ≠ 0 then ((7, (p.taken : Int)), p) else ((0, 0), p)
/-- Behind a byte that was put: the word goes on, or is whole. -/
def PS.ends (p : PS) : (Int × Int) × PS :=
  if p.held + 1 ≠ 8 + p.len + padN p.len then ((0, 0), p.sh (p.held + 1)) else
  if (p.c.accept (NB.ba p.text)).1 ≠ 0 then (((p.c.accept (NB.ba p.text)).1, (p.taken : Int) - p.held), p.sc (p.c.accept (NB.ba p.text)).2) else
  ((0, 0), (((p.sc (p.c.accept (NB.ba p.text)).2).sh 0).sl 0).st [])
def PS.take (p : PS) (b : UInt8) : (Int × Int) × PS :=
  if p.c.next = 17 then ((5, (p.taken : Int)), p) else
  if p.taken = 1048576 then ((2, (p.taken : Int)), p) else
  if (p.put b).1.1 ≠ 0 then p.put b else (p.put b).2.ends
/-- One byte of Feed's. -/
def PS.step (p : PS) (b : UInt8) : PS :=
  if (p.take b).1.1 ≠ 0 then (p.take b).2.sf (p.take b).1.1 (p.take b).1.2 else ((p.take b).2.sf 0 0).sk (p.taken + 1)
/-- Feed's bytes, one by one. -/
def PS.run : PS → List UInt8 → PS
  | p, [] => p
  | p, b :: l => if p.part = true ∧ p.c.next = 17 then p else if (p.step b).code ≠ 0 then p.step b else (p.step b).run l
def PS.feed (p : PS) (l : List UInt8) : PS := if p.closed = true ∨ p.code ≠ 0 then p else p.run l
end Go.Proofs.Ytljcbibcdajhiaa
