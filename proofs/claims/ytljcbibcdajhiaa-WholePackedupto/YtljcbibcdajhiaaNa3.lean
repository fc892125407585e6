/- NaA NaB NaC, joined (own text of the verifier). -/
import Derived.Test.YtljcbibcdajhiaaNa1
import Derived.Test.YtljcbibcdajhiaaNb1
import Derived.Deep.RegionHeld3
import Derived.Test.YtljcbibcdajhiaaTqA
import Derived.Test.YtljcbibcdajhiaaTvD
import Derived.Test.YtljcbibcdajhiaaTwB
namespace Go.Proofs.Ytljcbibcdajhiaa
open Go.RowKit

/-- A row of texts beside block g. -/
def TxW (w : World) (g : Nat) (x : Option Addr) (Ws : List ByteArray) : Prop := ∃ gx C, x = some ⟨gx, 0, none⟩ ∧ w.heap[gx]? = some (.cells C 9 (0, 0)) ∧ gx ≠ g ∧ ∀ (i : Nat) (s : ByteArray), Ws[i]? = some s → C[i]? = some (.string s)
theorem TxW.keep {w w' : World} {g : Nat} {x : Option Addr} {Ws : List ByteArray} (h : TxW w g x Ws) (k : NB.Bk g w w') : TxW w' g x Ws := by
  obtain ⟨gx, C, h1, h2, h3, h4⟩ := h
  exact ⟨gx, C, h1, (k.keep gx (heap_lt h2) h3 (fun cur fz e => by rw [h2] at e; cases e)).trans h2, h3, h4⟩
theorem txt_ba (s : ByteArray) : txt s = NB.ba (txt s).data.toList := (NB.ba_list _).symm
/-- What a write leaves. -/
def WrP (g : Nat) (l : List UInt8) (w : World) (e : Ending) (w' : World) : Prop := e = .returned (.tuple #[]) ∧ NB.Bd 53 w' g l ∧ Below g w w' ∧ NB.Bk g w w'
theorem bk_drewN {g : Nat} {w w' : World} (h : NB.Bk g w w') : NB.Bk g w w'.drew := h.trans (NB.Bk.drew g w')

set_option maxHeartbeats 4000000 in
set_option maxRecDepth 10000 in
theorem words_any (g : Nat) (l : List UInt8) (x : Option Addr) (n c : Nat) (Ws : List ByteArray) (w : World) (hB : NB.Bd 53 w g l) (hX : TxW w g x Ws) (hn : Ws.length = n) (hn2 : n ≤ 64) (hs : ∀ s ∈ Ws, s.size ≤ 1048576) (hl : l.length + fwS Ws ≤ 1073741824) :
    Calls Try.prog 15 #[.pointer (some ⟨g, 0, none⟩), .slice x n c] w (WrP g (l ++ frm Ws) w) := by
  have HX : Hid (TxW w g x Ws ∧ Ws.length = n ∧ (∀ s ∈ Ws, s.size ≤ 1048576) ∧ l.length + fwS Ws ≤ 1073741824) := ⟨hX, hn, hs, hl⟩
  have HB0 : Hid (NB.Bd 53 w g l) := hB
  obtain ⟨R, hR⟩ : ∃ R, l ++ frm Ws = R := ⟨_, rfl⟩
  have HR : Hid (l ++ frm Ws = R) := hR
  rw [hR]
  clear hX hn hs hl hB hR
  go_enter Try.func15, Try.ntmps15
  go_wp2
  go_loopw [8] (fun xi wr => ∃ (i : Nat) (lo : List UInt8), i ≤ n ∧ xi = .int .i64 i ∧ Hid (lo = l ++ frm (Ws.take i)) ∧ Hid (NB.Bd 53 wr g lo ∧ Below g w wr ∧ NB.Bk g w wr)) (fun i _ => n - (intOf i).toNat)
  case atStart => exact ⟨0, l, Nat.zero_le _, rfl, by rw [Hid, List.take_zero]; show l = l ++ []; rw [List.append_nil], HB0.out, Below.refl _ _, NB.Bk.refl _ _⟩
  case round =>
    obtain ⟨i, lo, hi, rfl, HL, HO⟩ := hrel
    by_cases hlt : i < n
    · obtain ⟨s, hs⟩ : ∃ s, Ws[i]? = some s := ⟨_, List.getElem?_eq_getElem (by rw [HX.out.2.1]; exact hlt)⟩
      obtain ⟨gx, C, rfl, hC, _, hCs⟩ := HX.out.1.keep HO.out.2.2
      have c0 : wr.cell? ⟨gx, i, none⟩ = some (.string s) := by rw [Lib.cell_of_heap hC]; exact hCs i s hs
      have hss := HX.out.2.2.1 s (List.mem_of_getElem? hs)
      have HLN : Hid (lo ++ (txt s).data.toList = l ++ frm (Ws.take (i + 1))) := by
        rw [Hid, List.take_add_one, hs, show (some s).toList = [s] from rfl, frm_app, HL.out, List.append_assoc]
        show _ ++ (_ ++ (txt s).data.toList) = _ ++ (_ ++ ((txt s).data.toList ++ []))
        rw [List.append_nil]
      have hlen : lo.length + (txt s).data.toList.length ≤ 1073741824 := by
        have h1 : (lo ++ (txt s).data.toList).length = (l ++ frm (Ws.take (i + 1))).length := by rw [HLN.out]
        have h2 : fwS (Ws.take (i + 1)) ≤ fwS Ws := by
          conv => rhs; rw [← List.take_append_drop (i + 1) Ws, fwS_app]
          omega
        rw [List.length_append, List.length_append, frm_len] at h1
        have := HX.out.2.2.2
        omega
      clear hs hCs hC
      have CT := text_any s wr.drew (by omega)
      obtain ⟨tl, htl⟩ : ∃ tl, (txt s).data.toList = tl := ⟨_, rfl⟩
      have hts : txt s = NB.ba tl := by rw [← htl]; exact txt_ba s
      rw [hts] at CT
      rw [htl] at HLN hlen
      have HO2 : Hid (NB.Bd 53 wr.drew g lo ∧ Below g w wr.drew ∧ NB.Bk g w wr.drew) := ⟨HO.out.1.below ⟨rfl, rfl, rfl, Nat.le_refl _, fun _ _ => rfl⟩, HO.out.2.1.trans ⟨rfl, rfl, rfl, Nat.le_refl _, fun _ _ => rfl⟩, bk_drewN HO.out.2.2⟩
      clear htl hts HO
      go_upto_region 3 with fail
      go_region_held3 (fun _ => True) (trivial) (first | (go_at_call 35; refine CT.mono ?_; rintro e5 w5 ⟨rfl, b5⟩; have HO5 : Hid (NB.Bd 53 w5 g lo ∧ Below g w w5 ∧ NB.Bk g w w5) := ⟨HO2.out.1.below b5, HO2.out.2.1.trans (b5.mono (Nat.le_of_lt HO2.out.1.lt)), HO2.out.2.2.trans (NB.Bk.below b5)⟩) | (go_at_call 18; refine (NB.wstrK_any 53 (Or.inr rfl) g lo tl w5 HO5.out.1 hlen).mono ?_; rintro e6 w6 ⟨rfl, h6, b6, k6⟩; have HO6 : Hid (NB.Bd 53 w6 g (lo ++ tl) ∧ Below g w w6 ∧ NB.Bk g w w6) := ⟨h6, HO5.out.2.1.trans b6, HO5.out.2.2.trans k6⟩))
      go_wp2
      go_roundw
      case rel => exact ⟨i + 1, lo ++ tl, by omega, by go_num, HLN, HO6⟩
      case measure => simp [intOf]; omega
    · obtain rfl : i = n := by omega
      have hF : lo = R := by rw [HL.out, ← HR.out, List.take_of_length_le (by rw [HX.out.2.1]; exact Nat.le_refl _)]
      subst hF
      go_wp2
      go_end0
      exact ⟨rfl, HO.out⟩
end Go.Proofs.Ytljcbibcdajhiaa

namespace Go.Proofs.Ytljcbibcdajhiaa
open Go.RowKit

theorem WrP.lit {g : Nat} {l : List UInt8} {W : World} {o : Obj} {e : Ending} {w' : World} (hg : g < W.heap.size) (h : WrP g l (W.alloc o) e w') : WrP g l W e w' := by
  obtain ⟨h1, h2, h3, h4⟩ := h
  have b : Below W.heap.size W (W.alloc o) := (Below.refl _ _).alloc (Nat.le_refl _) _
  exact ⟨h1, h2, (b.mono (Nat.le_of_lt hg)).trans h3, (NB.Bk.below b).trans h4⟩
/-- words over a row of texts that was just laid. -/
theorem words_lit (g : Nat) (l : List UInt8) (Ws : List ByteArray) (W : World) (hB : NB.Bd 53 W g l) (hn2 : Ws.length ≤ 64) (hs : ∀ s ∈ Ws, s.size ≤ 1048576) (hl : l.length + fwS Ws ≤ 1073741824) :
    Calls Try.prog 15 #[.pointer (some ⟨g, 0, none⟩), .slice (some ⟨W.heap.size, 0, none⟩) Ws.length Ws.length] (W.alloc (.cells (Ws.map Value.string).toArray 9)) (WrP g (l ++ frm Ws) W) := by
  have b : Below W.heap.size W (W.alloc (.cells (Ws.map Value.string).toArray 9)) := (Below.refl _ _).alloc (Nat.le_refl _) _
  refine (words_any g l _ _ Ws.length Ws _ (hB.below b) ⟨W.heap.size, (Ws.map Value.string).toArray, rfl, heap_alloc_new _ _, by have := hB.lt; omega, fun i s hi => ?_⟩ rfl hn2 hs hl).mono fun e w' h => h.lit hB.lt
  rw [← Array.getElem?_toList, List.getElem?_map, hi]
  rfl
theorem cell4n {w : World} {R : Nat} {a b c d : Value} {ty : TypeId} (h : w.heap[R]? = some (.cells #[a, b, c, d] ty (0, 0))) : w.cell? ⟨R, 0, none⟩ = some a ∧ w.cell? ⟨R, 1, none⟩ = some b ∧ w.cell? ⟨R, 2, none⟩ = some c ∧ w.cell? ⟨R, 3, none⟩ = some d ∧ ∀ i, w.frozen? ⟨R, i, none⟩ = false :=
  ⟨by rw [Lib.cell_of_heap h]; rfl, by rw [Lib.cell_of_heap h]; rfl, by rw [Lib.cell_of_heap h]; rfl, by rw [Lib.cell_of_heap h]; rfl, fun i => by unfold World.frozen?; rw [h]; simp⟩
theorem words_step (g : Nat) (l : List UInt8) (P Ws : List ByteArray) (W : World) (hB : NB.Bd 53 W g (l ++ frm P)) (hn2 : Ws.length ≤ 64) (hs : ∀ s ∈ Ws, s.size ≤ 1048576) (hl : l.length + fwS (P ++ Ws) ≤ 1073741824) :
    Calls Try.prog 15 #[.pointer (some ⟨g, 0, none⟩), .slice (some ⟨W.heap.size, 0, none⟩) Ws.length Ws.length] (W.alloc (.cells (Ws.map Value.string).toArray 9)) (WrP g (l ++ frm (P ++ Ws)) W) := by
  have h := words_lit g (l ++ frm P) Ws W hB hn2 hs (by rw [List.length_append, frm_len]; rw [fwS_app] at hl; omega)
  rw [List.append_assoc, ← frm_app] at h
  exact h
theorem wdL_take : ∀ (nms : List ByteArray) (ks : List Tr) (i : Nat) (s : ByteArray) (K : Tr), nms[i]? = some s → ks[i]? = some K → wdL (nms.take (i + 1)) (ks.take (i + 1)) = wdL (nms.take i) (ks.take i) ++ ([wEntry, wOpen, wName, s, wNode] ++ wdT K ++ [wClose])
  | [], ks, i, s, K, h, _ => by simp at h
  | a :: nms, [], i, s, K, _, h => by simp at h
  | a :: nms, T :: ks, 0, s, K, h1, h2 => by
    simp at h1 h2
    subst h1 h2
    simp [wdL]
  | a :: nms, T :: ks, i + 1, s, K, h1, h2 => by
    have := wdL_take nms ks i s K (by simpa using h1) (by simpa using h2)
    rw [List.take_succ_cons, List.take_succ_cons, List.take_succ_cons, List.take_succ_cons, wdL, wdL, this]
    simp only [List.append_assoc]
theorem okL_at : ∀ (nms : List ByteArray) (ks : List Tr) (i : Nat) (s : ByteArray) (K : Tr), okL nms ks → nms[i]? = some s → ks[i]? = some K → s.size ≤ 1048576 ∧ okT K
  | [], ks, i, s, K, _, h, _ => by simp at h
  | a :: nms, [], i, s, K, _, _, h => by simp at h
  | a :: nms, T :: ks, 0, s, K, h, h1, h2 => by
    rw [okL] at h
    simp at h1 h2
    subst h1 h2
    exact ⟨h.1, h.2.1⟩
  | a :: nms, T :: ks, i + 1, s, K, h, h1, h2 => by
    rw [okL] at h
    exact okL_at nms ks i s K h.2.2 (by simpa using h1) (by simpa using h2)
theorem wdL_le (nms : List ByteArray) (ks : List Tr) (i : Nat) (hl : nms.length = ks.length) : fwS (wdL (nms.take i) (ks.take i)) ≤ fwS (wdL nms ks) := by
  have h : ∀ (nms : List ByteArray) (ks : List Tr) (i : Nat), nms.length = ks.length → ∃ X, wdL nms ks = wdL (nms.take i) (ks.take i) ++ X := by
    intro nms
    induction nms with
    | nil => intro ks i h; exact ⟨[], by cases ks with | nil => simp [wdL] | cons _ _ => simp at h⟩
    | cons a nms ih =>
      intro ks i h
      cases ks with
      | nil => simp at h
      | cons T ks =>
        cases i with
        | zero => exact ⟨wdL (a :: nms) (T :: ks), by simp [wdL]⟩
        | succ i =>
          obtain ⟨X, hX⟩ := ih ks i (by simpa using h)
          refine ⟨X, ?_⟩
          rw [List.take_succ_cons, List.take_succ_cons, wdL, wdL, hX]
          simp only [List.append_assoc]
  obtain ⟨X, hX⟩ := h nms ks i hl
  rw [hX, fwS_app]
  omega

set_option maxHeartbeats 8000000 in
set_option maxRecDepth 10000 in
theorem nnode_any (m : Nat) : ∀ (v : Value) (T : Tr) (w0 w : World) (g : Nat) (l : List UInt8), At w0 m v T → w0.heap.size ≤ g → Below w0.heap.size w0 w → NB.Bd 53 w g l → okT T → l.length + fwS (wdT T) ≤ 1073741824 →
    Calls Try.prog 16 #[.pointer (some ⟨g, 0, none⟩), v] w (WrP g (l ++ frm (wdT T)) w) := by
  induction m with
  | zero => intro v T w0 w g l h; exact h.elim
  | succ m IH =>
    rintro v ⟨k, e, t, ns, ks⟩ w0 w g l ⟨x, n, c, rfl, l1, l2, l3, l4, hx⟩ hg hb hB hok hlen
    have EX : Hid (Ents w0 m x n ns ks) := At.ents hx
    have hok' := hok
    rw [okT] at hok'
    obtain ⟨hk, hkn, hts, hoL⟩ := hok'
    have HLL : Hid (ns.length = n ∧ ks.length = n ∧ okL ns ks ∧ l.length + fwS (wdT (.mk k e t ns ks)) ≤ 1073741824 ∧ (k ≠ 3 → ns = [] ∧ ks = [])) := ⟨l1, l2, hoL, hlen, hkn⟩
    have HB0 : Hid (NB.Bd 53 w g l ∧ w0.heap.size ≤ g ∧ Below w0.heap.size w0 w) := ⟨hB, hg, hb⟩
    have HFW : Hid (∀ Z, wdT (.mk k e t ns ks) = Z → l.length + fwS Z ≤ 1073741824) := fun Z hZ => by rw [← hZ]; exact hlen
    clear hx l1 l2 hok hlen hoL hg hb hB hkn
    have bA : Below w.heap.size w (w.alloc (Obj.cells #[Value.int IntKind.i64 k, Value.bool e, Value.string t, Value.slice x n c] 25)) := (Below.refl _ _).alloc (Nat.le_refl _) _
    have HG0 : (w.alloc (Obj.cells #[Value.int IntKind.i64 k, Value.bool e, Value.string t, Value.slice x n c] 25)).heap[w.heap.size]? = some (.cells #[Value.int IntKind.i64 k, Value.bool e, Value.string t, Value.slice x n c] 25 (0, 0)) := heap_alloc_new _ _
    have hz : w.heap.size < (w.alloc (Obj.cells #[Value.int IntKind.i64 k, Value.bool e, Value.string t, Value.slice x n c] 25)).heap.size := by rw [World.size_alloc]; omega
    have HG : Hid ((w.alloc (Obj.cells #[Value.int IntKind.i64 k, Value.bool e, Value.string t, Value.slice x n c] 25)).heap[w.heap.size]? = some (.cells #[Value.int IntKind.i64 k, Value.bool e, Value.string t, Value.slice x n c] 25 (0, 0)) ∧ w.heap.size < (w.alloc (Obj.cells #[Value.int IntKind.i64 k, Value.bool e, Value.string t, Value.slice x n c] 25)).heap.size ∧ w.heap.size ≠ g) := ⟨HG0, hz, by have := HB0.out.1.lt; omega⟩
    have HBD : Hid (∀ P X, wdT (.mk k e t ns ks) = P ++ X → l.length + fwS P ≤ 1073741824) := fun P X h => by
      have := HLL.out.2.2.2.1
      rw [h, fwS_app] at this
      omega
    have H1 : Hid (NB.Bd 53 (w.alloc (Obj.cells #[Value.int IntKind.i64 k, Value.bool e, Value.string t, Value.slice x n c] 25)) g (l ++ frm []) ∧ Below g w (w.alloc (Obj.cells #[Value.int IntKind.i64 k, Value.bool e, Value.string t, Value.slice x n c] 25)) ∧ NB.Bk g (w.alloc (Obj.cells #[Value.int IntKind.i64 k, Value.bool e, Value.string t, Value.slice x n c] 25)) (w.alloc (Obj.cells #[Value.int IntKind.i64 k, Value.bool e, Value.string t, Value.slice x n c] 25))) := ⟨by rw [show l ++ frm [] = l from List.append_nil l]; exact HB0.out.1.below bA, bA.mono (Nat.le_of_lt HB0.out.1.lt), NB.Bk.refl _ _⟩
    clear HG0 hz
    go_enter Try.func16, Try.ntmps16
    go_upto_region 1 with fail
    generalize w.alloc (Obj.cells #[Value.int IntKind.i64 k, Value.bool e, Value.string t, Value.slice x n c] 25) = wq0 at *
    rcases hk with rfl | rfl | rfl
    · obtain ⟨rfl, rfl⟩ := HLL.out.2.2.2.2 (by decide)
      cases e with
      | false =>
        have HWD : Hid (wdT (.mk 1 false t [] []) = [wOpen, wType, wRegular, wContents, t, wClose]) := by rw [Hid, wdT]; rfl
        have CW := words_step g l ([]) [wOpen, wType] wq0 H1.out.1 (by simp) (by intro z hz; simp at hz; rcases hz with rfl | rfl <;> first | decide | exact hts | exact hss) (HBD.out _ ([wRegular, wContents, t, wClose]) (by rw [HWD.out]; simp))
        rw [show ([]) ++ [wOpen, wType] = [wOpen, wType] by simp] at CW
        go_wp2_with fail
        refine CW.mono ?_
        rintro e1 wq1 ⟨rfl, hB1, hb1, hk1⟩
        have HQ1 : Hid (NB.Bd 53 wq1 g (l ++ frm ([wOpen, wType])) ∧ Below g w wq1 ∧ NB.Bk g wq0 wq1) := ⟨hB1, H1.out.2.1.trans hb1, H1.out.2.2.trans hk1⟩
        clear hB1 hb1 hk1 CW H1
        obtain ⟨u0, u1, u2, u3, _⟩ := cell4n ((HQ1.out.2.2.keep w.heap.size HG.out.2.1 HG.out.2.2 (fun cur fz e => by rw [HG.out.1] at e; cases e)).trans HG.out.1)
        have CW := words_step g l ([wOpen, wType]) [wRegular] wq1 HQ1.out.1 (by simp) (by intro z hz; simp at hz; subst hz; first | decide | exact hts | exact hss) (HBD.out _ ([wContents, t, wClose]) (by rw [HWD.out]; simp))
        rw [show ([wOpen, wType]) ++ [wRegular] = [wOpen, wType, wRegular] by simp] at CW
        go_wp2_with fail
        refine CW.mono ?_
        rintro e2 wq2 ⟨rfl, hB2, hb2, hk2⟩
        have HQ2 : Hid (NB.Bd 53 wq2 g (l ++ frm ([wOpen, wType, wRegular])) ∧ Below g w wq2 ∧ NB.Bk g wq0 wq2) := ⟨hB2, HQ1.out.2.1.trans hb2, HQ1.out.2.2.trans hk2⟩
        clear hB2 hb2 hk2 CW HQ1
        obtain ⟨u0, u1, u2, u3, _⟩ := cell4n ((HQ2.out.2.2.keep w.heap.size HG.out.2.1 HG.out.2.2 (fun cur fz e => by rw [HG.out.1] at e; cases e)).trans HG.out.1)
        have CW := words_step g l ([wOpen, wType, wRegular]) [wContents, t] wq2 HQ2.out.1 (by simp) (by intro z hz; simp at hz; rcases hz with rfl | rfl <;> first | decide | exact hts | exact hss) (HBD.out _ ([wClose]) (by rw [HWD.out]; simp))
        rw [show ([wOpen, wType, wRegular]) ++ [wContents, t] = [wOpen, wType, wRegular, wContents, t] by simp] at CW
        go_wp2_with fail
        refine CW.mono ?_
        rintro e3 wq3 ⟨rfl, hB3, hb3, hk3⟩
        have HQ3 : Hid (NB.Bd 53 wq3 g (l ++ frm ([wOpen, wType, wRegular, wContents, t])) ∧ Below g w wq3 ∧ NB.Bk g wq0 wq3) := ⟨hB3, HQ2.out.2.1.trans hb3, HQ2.out.2.2.trans hk3⟩
        clear hB3 hb3 hk3 CW HQ2
        have CW := words_step g l ([wOpen, wType, wRegular, wContents, t]) [wClose] wq3 HQ3.out.1 (by simp) (by intro z hz; simp at hz; subst hz; first | decide | exact hts | exact hss) (HBD.out _ ([]) (by rw [HWD.out]; simp))
        rw [show ([wOpen, wType, wRegular, wContents, t]) ++ [wClose] = [wOpen, wType, wRegular, wContents, t, wClose] by simp] at CW
        go_wp2_with fail
        refine CW.mono ?_
        rintro e4 wq4 ⟨rfl, hB4, hb4, hk4⟩
        have HQ4 : Hid (NB.Bd 53 wq4 g (l ++ frm ([wOpen, wType, wRegular, wContents, t, wClose])) ∧ Below g w wq4 ∧ NB.Bk g wq0 wq4) := ⟨hB4, HQ3.out.2.1.trans hb4, HQ3.out.2.2.trans hk4⟩
        clear hB4 hb4 hk4 CW HQ3
        go_wp2
        go_end0
        refine ⟨rfl, ?_, HQ4.out.2.1, (NB.Bk.below bA).trans HQ4.out.2.2⟩
        rw [HWD.out]
        exact HQ4.out.1
      | true =>
        have HWD : Hid (wdT (.mk 1 true t [] []) = [wOpen, wType, wRegular, wExec, wNone, wContents, t, wClose]) := by rw [Hid, wdT]; rfl
        have CW := words_step g l ([]) [wOpen, wType] wq0 H1.out.1 (by simp) (by intro z hz; simp at hz; rcases hz with rfl | rfl <;> first | decide | exact hts | exact hss) (HBD.out _ ([wRegular, wExec, wNone, wContents, t, wClose]) (by rw [HWD.out]; simp))
        rw [show ([]) ++ [wOpen, wType] = [wOpen, wType] by simp] at CW
        go_wp2_with fail
        refine CW.mono ?_
        rintro e5 wq5 ⟨rfl, hB5, hb5, hk5⟩
        have HQ5 : Hid (NB.Bd 53 wq5 g (l ++ frm ([wOpen, wType])) ∧ Below g w wq5 ∧ NB.Bk g wq0 wq5) := ⟨hB5, H1.out.2.1.trans hb5, H1.out.2.2.trans hk5⟩
        clear hB5 hb5 hk5 CW H1
        obtain ⟨u0, u1, u2, u3, _⟩ := cell4n ((HQ5.out.2.2.keep w.heap.size HG.out.2.1 HG.out.2.2 (fun cur fz e => by rw [HG.out.1] at e; cases e)).trans HG.out.1)
        have CW := words_step g l ([wOpen, wType]) [wRegular] wq5 HQ5.out.1 (by simp) (by intro z hz; simp at hz; subst hz; first | decide | exact hts | exact hss) (HBD.out _ ([wExec, wNone, wContents, t, wClose]) (by rw [HWD.out]; simp))
        rw [show ([wOpen, wType]) ++ [wRegular] = [wOpen, wType, wRegular] by simp] at CW
        go_wp2_with fail
        refine CW.mono ?_
        rintro e6 wq6 ⟨rfl, hB6, hb6, hk6⟩
        have HQ6 : Hid (NB.Bd 53 wq6 g (l ++ frm ([wOpen, wType, wRegular])) ∧ Below g w wq6 ∧ NB.Bk g wq0 wq6) := ⟨hB6, HQ5.out.2.1.trans hb6, HQ5.out.2.2.trans hk6⟩
        clear hB6 hb6 hk6 CW HQ5
        obtain ⟨u0, u1, u2, u3, _⟩ := cell4n ((HQ6.out.2.2.keep w.heap.size HG.out.2.1 HG.out.2.2 (fun cur fz e => by rw [HG.out.1] at e; cases e)).trans HG.out.1)
        have CW := words_step g l ([wOpen, wType, wRegular]) [wExec, wNone] wq6 HQ6.out.1 (by simp) (by intro z hz; simp at hz; rcases hz with rfl | rfl <;> first | decide | exact hts | exact hss) (HBD.out _ ([wContents, t, wClose]) (by rw [HWD.out]; simp))
        rw [show ([wOpen, wType, wRegular]) ++ [wExec, wNone] = [wOpen, wType, wRegular, wExec, wNone] by simp] at CW
        go_wp2_with fail
        refine CW.mono ?_
        rintro e7 wq7 ⟨rfl, hB7, hb7, hk7⟩
        have HQ7 : Hid (NB.Bd 53 wq7 g (l ++ frm ([wOpen, wType, wRegular, wExec, wNone])) ∧ Below g w wq7 ∧ NB.Bk g wq0 wq7) := ⟨hB7, HQ6.out.2.1.trans hb7, HQ6.out.2.2.trans hk7⟩
        clear hB7 hb7 hk7 CW HQ6
        obtain ⟨u0, u1, u2, u3, _⟩ := cell4n ((HQ7.out.2.2.keep w.heap.size HG.out.2.1 HG.out.2.2 (fun cur fz e => by rw [HG.out.1] at e; cases e)).trans HG.out.1)
        have CW := words_step g l ([wOpen, wType, wRegular, wExec, wNone]) [wContents, t] wq7 HQ7.out.1 (by simp) (by intro z hz; simp at hz; rcases hz with rfl | rfl <;> first | decide | exact hts | exact hss) (HBD.out _ ([wClose]) (by rw [HWD.out]; simp))
        rw [show ([wOpen, wType, wRegular, wExec, wNone]) ++ [wContents, t] = [wOpen, wType, wRegular, wExec, wNone, wContents, t] by simp] at CW
        go_wp2_with fail
        refine CW.mono ?_
        rintro e8 wq8 ⟨rfl, hB8, hb8, hk8⟩
        have HQ8 : Hid (NB.Bd 53 wq8 g (l ++ frm ([wOpen, wType, wRegular, wExec, wNone, wContents, t])) ∧ Below g w wq8 ∧ NB.Bk g wq0 wq8) := ⟨hB8, HQ7.out.2.1.trans hb8, HQ7.out.2.2.trans hk8⟩
        clear hB8 hb8 hk8 CW HQ7
        have CW := words_step g l ([wOpen, wType, wRegular, wExec, wNone, wContents, t]) [wClose] wq8 HQ8.out.1 (by simp) (by intro z hz; simp at hz; subst hz; first | decide | exact hts | exact hss) (HBD.out _ ([]) (by rw [HWD.out]; simp))
        rw [show ([wOpen, wType, wRegular, wExec, wNone, wContents, t]) ++ [wClose] = [wOpen, wType, wRegular, wExec, wNone, wContents, t, wClose] by simp] at CW
        go_wp2_with fail
        refine CW.mono ?_
        rintro e9 wq9 ⟨rfl, hB9, hb9, hk9⟩
        have HQ9 : Hid (NB.Bd 53 wq9 g (l ++ frm ([wOpen, wType, wRegular, wExec, wNone, wContents, t, wClose])) ∧ Below g w wq9 ∧ NB.Bk g wq0 wq9) := ⟨hB9, HQ8.out.2.1.trans hb9, HQ8.out.2.2.trans hk9⟩
        clear hB9 hb9 hk9 CW HQ8
        go_wp2
        go_end0
        refine ⟨rfl, ?_, HQ9.out.2.1, (NB.Bk.below bA).trans HQ9.out.2.2⟩
        rw [HWD.out]
        exact HQ9.out.1
    · obtain ⟨rfl, rfl⟩ := HLL.out.2.2.2.2 (by decide)
      have HWD : Hid (wdT (.mk 2 e t [] []) = [wOpen, wType, wSymlink, wTarget, t, wClose]) := by rw [Hid, wdT]; rfl
      have CW := words_step g l ([]) [wOpen, wType] wq0 H1.out.1 (by simp) (by intro z hz; simp at hz; rcases hz with rfl | rfl <;> first | decide | exact hts | exact hss) (HBD.out _ ([wSymlink, wTarget, t, wClose]) (by rw [HWD.out]; simp))
      rw [show ([]) ++ [wOpen, wType] = [wOpen, wType] by simp] at CW
      go_wp2_with fail
      refine CW.mono ?_
      rintro e10 wq10 ⟨rfl, hB10, hb10, hk10⟩
      have HQ10 : Hid (NB.Bd 53 wq10 g (l ++ frm ([wOpen, wType])) ∧ Below g w wq10 ∧ NB.Bk g wq0 wq10) := ⟨hB10, H1.out.2.1.trans hb10, H1.out.2.2.trans hk10⟩
      clear hB10 hb10 hk10 CW H1
      obtain ⟨u0, u1, u2, u3, _⟩ := cell4n ((HQ10.out.2.2.keep w.heap.size HG.out.2.1 HG.out.2.2 (fun cur fz e => by rw [HG.out.1] at e; cases e)).trans HG.out.1)
      have CW := words_step g l ([wOpen, wType]) [wSymlink, wTarget, t] wq10 HQ10.out.1 (by simp) (by intro z hz; simp at hz; rcases hz with rfl | rfl | rfl <;> first | decide | exact hts | exact hss) (HBD.out _ ([wClose]) (by rw [HWD.out]; simp))
      rw [show ([wOpen, wType]) ++ [wSymlink, wTarget, t] = [wOpen, wType, wSymlink, wTarget, t] by simp] at CW
      go_wp2_with fail
      refine CW.mono ?_
      rintro e11 wq11 ⟨rfl, hB11, hb11, hk11⟩
      have HQ11 : Hid (NB.Bd 53 wq11 g (l ++ frm ([wOpen, wType, wSymlink, wTarget, t])) ∧ Below g w wq11 ∧ NB.Bk g wq0 wq11) := ⟨hB11, HQ10.out.2.1.trans hb11, HQ10.out.2.2.trans hk11⟩
      clear hB11 hb11 hk11 CW HQ10
      have CW := words_step g l ([wOpen, wType, wSymlink, wTarget, t]) [wClose] wq11 HQ11.out.1 (by simp) (by intro z hz; simp at hz; subst hz; first | decide | exact hts | exact hss) (HBD.out _ ([]) (by rw [HWD.out]; simp))
      rw [show ([wOpen, wType, wSymlink, wTarget, t]) ++ [wClose] = [wOpen, wType, wSymlink, wTarget, t, wClose] by simp] at CW
      go_wp2_with fail
      refine CW.mono ?_
      rintro e12 wq12 ⟨rfl, hB12, hb12, hk12⟩
      have HQ12 : Hid (NB.Bd 53 wq12 g (l ++ frm ([wOpen, wType, wSymlink, wTarget, t, wClose])) ∧ Below g w wq12 ∧ NB.Bk g wq0 wq12) := ⟨hB12, HQ11.out.2.1.trans hb12, HQ11.out.2.2.trans hk12⟩
      clear hB12 hb12 hk12 CW HQ11
      go_wp2
      go_end0
      refine ⟨rfl, ?_, HQ12.out.2.1, (NB.Bk.below bA).trans HQ12.out.2.2⟩
      rw [HWD.out]
      exact HQ12.out.1
    · have HWD : Hid (wdT (.mk 3 e t ns ks) = [wOpen, wType, wDirectory] ++ (wdL ns ks ++ [wClose])) := by
        rw [Hid, wdT]
        simp
      have CW := words_step g l ([]) [wOpen, wType] wq0 H1.out.1 (by simp) (by intro z hz; simp at hz; rcases hz with rfl | rfl <;> first | decide | exact hts | exact hss) (HBD.out _ ([wDirectory] ++ (wdL ns ks ++ [wClose])) (by rw [HWD.out]; simp))
      rw [show ([]) ++ [wOpen, wType] = [wOpen, wType] by simp] at CW
      go_wp2_with fail
      refine CW.mono ?_
      rintro e13 wq13 ⟨rfl, hB13, hb13, hk13⟩
      have HQ13 : Hid (NB.Bd 53 wq13 g (l ++ frm ([wOpen, wType])) ∧ Below g w wq13 ∧ NB.Bk g wq0 wq13) := ⟨hB13, H1.out.2.1.trans hb13, H1.out.2.2.trans hk13⟩
      clear hB13 hb13 hk13 CW H1
      obtain ⟨u0, u1, u2, u3, _⟩ := cell4n ((HQ13.out.2.2.keep w.heap.size HG.out.2.1 HG.out.2.2 (fun cur fz e => by rw [HG.out.1] at e; cases e)).trans HG.out.1)
      have CW := words_step g l ([wOpen, wType]) [wDirectory] wq13 HQ13.out.1 (by simp) (by intro z hz; simp at hz; subst hz; first | decide | exact hts | exact hss) (HBD.out _ (wdL ns ks ++ [wClose]) (by rw [HWD.out]; simp))
      rw [show ([wOpen, wType]) ++ [wDirectory] = [wOpen, wType, wDirectory] by simp] at CW
      go_wp2_with fail
      refine CW.mono ?_
      rintro e14 wq14 ⟨rfl, hB14, hb14, hk14⟩
      have HQ14 : Hid (NB.Bd 53 wq14 g (l ++ frm ([wOpen, wType, wDirectory])) ∧ Below g w wq14 ∧ NB.Bk g wq0 wq14) := ⟨hB14, HQ13.out.2.1.trans hb14, HQ13.out.2.2.trans hk14⟩
      clear hB14 hb14 hk14 CW HQ13
      obtain ⟨u0, u1, u2, u3, _⟩ := cell4n ((HQ14.out.2.2.keep w.heap.size HG.out.2.1 HG.out.2.2 (fun cur fz e => by rw [HG.out.1] at e; cases e)).trans HG.out.1)
      have HL0 : Hid (NB.Bd 53 wq14 g (l ++ frm ([wOpen, wType, wDirectory] ++ wdL (ns.take 0) (ks.take 0))) ∧ Below g w wq14 ∧ NB.Bk g wq0 wq14) := by
        have := HQ14.out
        rw [Hid, List.take_zero, List.take_zero, show wdL [] [] = [] by rw [wdL]; simp, List.append_nil]
        exact this
      go_wp2
      go_loopw [41] (fun xi wr => ∃ (i : Nat), i ≤ n ∧ xi = .int .i64 i ∧ Hid (NB.Bd 53 wr g (l ++ frm ([wOpen, wType, wDirectory] ++ wdL (ns.take i) (ks.take i))) ∧ Below g w wr ∧ NB.Bk g wq0 wr)) (fun i _ => n - (intOf i).toNat)
      case atStart => exact ⟨0, Nat.zero_le _, rfl, HL0⟩
      case round =>
        obtain ⟨i, hi, rfl, HO⟩ := hrel
        by_cases hlt : i < n
        · obtain ⟨s, hs⟩ : ∃ s, ns[i]? = some s := ⟨_, List.getElem?_eq_getElem (by rw [HLL.out.1]; omega)⟩
          obtain ⟨K, hK⟩ : ∃ s, ks[i]? = some s := ⟨_, List.getElem?_eq_getElem (by rw [HLL.out.2.1]; omega)⟩
          obtain ⟨hss, hoK⟩ := okL_at ns ks i s K HLL.out.2.2.1 hs hK
          obtain ⟨gk, ok, a, b, d, f, p, q, rfl, hg, c0, c1, c2, c3, c4, hA⟩ := EX.out i s K hlt hs hK
          have b0 : Below w0.heap.size w0 wr := HB0.out.2.2.trans (HO.out.2.1.mono HB0.out.2.1)
          have d0 := (b0.cell (p := ⟨gk, ok + i * 5, none⟩) hg).trans c0
          have d1 := (b0.cell (p := ⟨gk, ok + i * 5 + 1, none⟩) hg).trans c1
          have d2 := (b0.cell (p := ⟨gk, ok + i * 5 + 2, none⟩) hg).trans c2
          have d3 := (b0.cell (p := ⟨gk, ok + i * 5 + 3, none⟩) hg).trans c3
          have d4 := (b0.cell (p := ⟨gk, ok + i * 5 + 4, none⟩) hg).trans c4
          have HA : Hid (At w0 m (.agg #[.int .i64 a, .bool b, .string d, .slice f p q]) K ∧ okT K) := ⟨hA, hoK⟩
          have HT : Hid (wdL (ns.take (i + 1)) (ks.take (i + 1)) = wdL (ns.take i) (ks.take i) ++ ([wEntry, wOpen, wName, s, wNode] ++ wdT K ++ [wClose])) := wdL_take ns ks i s K hs hK
          have HBI : Hid (l.length + (fwS [wOpen, wType, wDirectory] + (fwS (wdL (ns.take i) (ks.take i)) + (fwS [wEntry, wOpen, wName, s, wNode] + fwS (wdT K) + fwS [wClose]))) ≤ 1073741824) := by
            have h1 := HLL.out.2.2.2.1
            rw [HWD.out, fwS_app, fwS_app] at h1
            have h2 := wdL_le ns ks (i + 1) (by rw [HLL.out.1, HLL.out.2.1])
            rw [HT.out, fwS_app, fwS_app, fwS_app] at h2
            rw [Hid]
            omega
          have bE : Below wr.heap.size wr (wr.alloc (Obj.cells #[Value.string s, Value.int IntKind.i64 a, Value.bool b, Value.string d, Value.slice f p q] 83)) := (Below.refl _ _).alloc (Nat.le_refl _) _
          have HE : Hid ((wr.alloc (Obj.cells #[Value.string s, Value.int IntKind.i64 a, Value.bool b, Value.string d, Value.slice f p q] 83)).heap[wr.heap.size]? = some (.cells #[Value.string s, Value.int IntKind.i64 a, Value.bool b, Value.string d, Value.slice f p q] 83 (0, 0)) ∧ wr.heap.size < (wr.alloc (Obj.cells #[Value.string s, Value.int IntKind.i64 a, Value.bool b, Value.string d, Value.slice f p q] 83)).heap.size ∧ wr.heap.size ≠ g) := ⟨heap_alloc_new _ _, by rw [World.size_alloc]; omega, by have := HO.out.1.lt; omega⟩
          have HOE : Hid (NB.Bd 53 (wr.alloc (Obj.cells #[Value.string s, Value.int IntKind.i64 a, Value.bool b, Value.string d, Value.slice f p q] 83)) g (l ++ frm ([wOpen, wType, wDirectory] ++ wdL (ns.take i) (ks.take i))) ∧ Below g w (wr.alloc (Obj.cells #[Value.string s, Value.int IntKind.i64 a, Value.bool b, Value.string d, Value.slice f p q] 83)) ∧ NB.Bk g wq0 (wr.alloc (Obj.cells #[Value.string s, Value.int IntKind.i64 a, Value.bool b, Value.string d, Value.slice f p q] 83))) := ⟨HO.out.1.below bE, HO.out.2.1.trans (bE.mono (Nat.le_of_lt HO.out.1.lt)), HO.out.2.2.trans (NB.Bk.below bE)⟩
          clear hs hK hoK hA c0 c1 c2 c3 c4 b0 bE
          go_upto_region 15 with fail
          clear d0 d1 d2 d3 d4 HO hg
          obtain ⟨E, hE⟩ : ∃ E, wr.heap.size = E := ⟨_, rfl⟩
          generalize wr.alloc (Obj.cells #[Value.string s, Value.int IntKind.i64 a, Value.bool b, Value.string d, Value.slice f p q] 83) = wa at *
          rw [hE] at HE ⊢
          clear hE
          have e0 : wa.cell? ⟨E, 0, none⟩ = some (.string s) := by rw [Lib.cell_of_heap HE.out.1]; rfl
          have CW := words_step g l ([wOpen, wType, wDirectory] ++ wdL (ns.take i) (ks.take i)) [wEntry, wOpen, wName, s, wNode] wa HOE.out.1 (by simp) (by intro z hz; simp at hz; rcases hz with rfl | rfl | rfl | rfl | rfl <;> first | decide | exact hss) (by rw [fwS_app, fwS_app]; have := HBI.out; omega)
          go_wp2_with fail
          refine CW.mono ?_
          rintro eb wb ⟨rfl, hBb, hbb, hkb⟩
          have HOB : Hid (NB.Bd 53 wb g (l ++ frm ([wOpen, wType, wDirectory] ++ wdL (ns.take i) (ks.take i) ++ [wEntry, wOpen, wName, s, wNode])) ∧ Below g w wb ∧ NB.Bk g wq0 wb) := ⟨hBb, HOE.out.2.1.trans hbb, HOE.out.2.2.trans hkb⟩
          have hEb := (hkb.keep E HE.out.2.1 HE.out.2.2 (fun cur fz e => by rw [HE.out.1] at e; cases e)).trans HE.out.1
          have f1 : wb.cell? ⟨E, 1, none⟩ = some (.int .i64 a) := by rw [Lib.cell_of_heap hEb]; rfl
          have f2 : wb.cell? ⟨E, 2, none⟩ = some (.bool b) := by rw [Lib.cell_of_heap hEb]; rfl
          have f3 : wb.cell? ⟨E, 3, none⟩ = some (.string d) := by rw [Lib.cell_of_heap hEb]; rfl
          have f4 : wb.cell? ⟨E, 4, none⟩ = some (.slice f p q) := by rw [Lib.cell_of_heap hEb]; rfl
          have CN := IH _ K w0 wb g _ HA.out.1 HB0.out.2.1 (HB0.out.2.2.trans (HOB.out.2.1.mono HB0.out.2.1)) HOB.out.1 HA.out.2 (by rw [List.length_append, frm_len, fwS_app, fwS_app]; have := HBI.out; omega)
          rw [List.append_assoc, ← frm_app] at CN
          clear CW hBb hbb hkb hEb HOE HE e0
          go_wp2_with fail
          refine CN.mono ?_
          rintro ec wc ⟨rfl, hBc, hbc, hkc⟩
          have HOC : Hid (NB.Bd 53 wc g (l ++ frm ([wOpen, wType, wDirectory] ++ wdL (ns.take i) (ks.take i) ++ [wEntry, wOpen, wName, s, wNode] ++ wdT K)) ∧ Below g w wc ∧ NB.Bk g wq0 wc) := ⟨hBc, HOB.out.2.1.trans hbc, HOB.out.2.2.trans hkc⟩
          clear CN hBc hbc hkc HOB f1 f2 f3 f4
          have CX := words_step g l ([wOpen, wType, wDirectory] ++ wdL (ns.take i) (ks.take i) ++ [wEntry, wOpen, wName, s, wNode] ++ wdT K) [wClose] wc HOC.out.1 (by simp) (by intro z hz; simp at hz; subst hz; decide) (by rw [fwS_app, fwS_app, fwS_app, fwS_app]; have := HBI.out; omega)
          rw [show [wOpen, wType, wDirectory] ++ wdL (ns.take i) (ks.take i) ++ [wEntry, wOpen, wName, s, wNode] ++ wdT K ++ [wClose] = [wOpen, wType, wDirectory] ++ wdL (ns.take (i + 1)) (ks.take (i + 1)) by rw [HT.out]; simp only [List.append_assoc]] at CX
          go_wp2_with fail
          refine CX.mono ?_
          rintro ed wd ⟨rfl, hBd, hbd, hkd⟩
          have HOD : Hid (NB.Bd 53 wd g (l ++ frm ([wOpen, wType, wDirectory] ++ wdL (ns.take (i + 1)) (ks.take (i + 1)))) ∧ Below g w wd ∧ NB.Bk g wq0 wd) := ⟨hBd, HOC.out.2.1.trans hbd, HOC.out.2.2.trans hkd⟩
          clear CX hBd hbd hkd HOC
          go_wp2
          go_roundw
          case rel => exact ⟨i + 1, by omega, by go_num, HOD⟩
          case measure => simp [intOf]; omega
        · obtain rfl : i = n := by omega
          have HOF : Hid (NB.Bd 53 wr g (l ++ frm ([wOpen, wType, wDirectory] ++ wdL ns ks)) ∧ Below g w wr ∧ NB.Bk g wq0 wr) := by
            have h := HO.out
            rw [List.take_of_length_le (by rw [HLL.out.1]; exact Nat.le_refl _), List.take_of_length_le (by rw [HLL.out.2.1]; exact Nat.le_refl _)] at h
            exact h
          have CX := words_step g l ([wOpen, wType, wDirectory] ++ wdL ns ks) [wClose] wr HOF.out.1 (by simp) (by intro z hz; simp at hz; subst hz; decide) (HBD.out _ [] (by rw [HWD.out]; simp))
          clear HO
          go_wp2_with fail
          refine CX.mono ?_
          rintro ed wd ⟨rfl, hBd, hbd, hkd⟩
          have HOD : Hid (NB.Bd 53 wd g (l ++ frm ([wOpen, wType, wDirectory] ++ wdL ns ks ++ [wClose])) ∧ Below g w wd ∧ NB.Bk g wq0 wd) := ⟨hBd, HOF.out.2.1.trans hbd, HOF.out.2.2.trans hkd⟩
          clear CX hBd hbd hkd HOF
          go_wp2
          go_end0
          refine ⟨rfl, ?_, HOD.out.2.1, (NB.Bk.below bA).trans HOD.out.2.2⟩
          rw [HWD.out, ← List.append_assoc]
          exact HOD.out.1
end Go.Proofs.Ytljcbibcdajhiaa

namespace Go.Proofs.Ytljcbibcdajhiaa.NS
open Go.RowKit Go.Proofs.Ytljcbibcdajhiaa

theorem vT_parts {ns : List ByteArray} {b : Int} {k : Int} {e : Bool} {t : ByteArray} {nms : List ByteArray} {ks : List Tr} (h : (vT ns b (.mk k e t nms ks)).off = none) : 1 + ns.length ≤ 32 ∧ cfP k e t nms.length = 0 ∧ b + nbP k e t ≤ 1048576 ∧ (vL ns (b + nbP k e t) none nms ks).off = none := by
  rw [vT] at h
  by_cases h1 : 32 < 1 + ns.length
  · rw [if_pos h1] at h; cases h
  · rw [if_neg h1] at h
    by_cases h2 : cfP k e t nms.length ≠ 0
    · rw [if_pos h2] at h; cases h
    · rw [if_neg h2] at h
      by_cases h3 : 1048576 < b + nbP k e t
      · rw [if_pos h3] at h; cases h
      · rw [if_neg h3] at h
        exact ⟨by omega, by omega, by omega, h⟩
theorem vL_parts {ns : List ByteArray} {b : Int} {prev : Option ByteArray} {s : ByteArray} {T : Tr} {nms : List ByteArray} {ks : List Tr} (h : (vL ns b prev (s :: nms) (T :: ks)).off = none) : chk s = 0 ∧ (∀ s', prev = some s' → cmpB s' s < 0) ∧ b + ebP s ≤ 1048576 ∧ (vT (ns ++ [s]) (b + ebP s) T).off = none ∧ (vL ns (b + ebP s + tbT T) (some s) nms ks).off = none := by
  rw [vL] at h
  by_cases h1 : entO prev s b ≠ 0
  · rw [if_pos h1] at h; cases h
  · rw [if_neg h1] at h
    obtain ⟨p1, p2, p3⟩ := entO_parts (by omega : entO prev s b = 0)
    cases hv : (vT (ns ++ [s]) (b + ebP s) T).off with
    | some o => rw [hv] at h; cases h
    | none =>
      rw [hv] at h
      have := vT_bytes _ _ T hv
      rw [this] at h
      exact ⟨p1, p2, p3, rfl, h⟩
theorem cfP_kind {k : Int} {e : Bool} {t : ByteArray} {n : Nat} (h : cfP k e t n = 0) : k = 1 ∨ k = 2 ∨ k = 3 := by
  unfold cfP at h
  by_cases h1 : k = 1
  · exact .inl h1
  by_cases h2 : k = 2
  · exact .inr (.inl h2)
  by_cases h3 : k = 3
  · exact .inr (.inr h3)
  rw [if_neg h1, if_neg h2, if_neg h3] at h
  cases h
mutual
/-- A tree that passes Check and has small texts has words. -/
theorem ok_tree : ∀ (T : Tr) (ns : List ByteArray) (b : Int), (vT ns b T).off = none → smT T → wfT T → okT T
  | .mk k e t nms ks, ns, b, h, hs, hw => by
    obtain ⟨_, h2, _, h4⟩ := vT_parts h
    rw [smT] at hs
    rw [wfT] at hw
    rw [okT]
    refine ⟨cfP_kind h2, fun h3 => ?_, hs.1, ok_kids nms ks ns _ _ h4 hs.2 hw⟩
    have h0 := (cfP_kids h2).2 h3
    have hn : nms = [] := List.length_eq_zero_iff.1 h0
    subst hn
    cases ks with
    | nil => exact ⟨rfl, rfl⟩
    | cons T ks => exact absurd (wfL_len _ _ hw) (by simp)
theorem ok_kids : ∀ (nms : List ByteArray) (ks : List Tr) (ns : List ByteArray) (b : Int) (prev : Option ByteArray), (vL ns b prev nms ks).off = none → smL nms ks → wfL nms ks → okL nms ks
  | s :: nms, T :: ks, ns, b, prev, h, hs, hw => by
    obtain ⟨_, _, _, h4, h5⟩ := vL_parts h
    rw [smL] at hs
    rw [wfL] at hw
    rw [okL]
    exact ⟨hs.1, ok_tree T _ _ h4 hs.2.1 hw.1, ok_kids nms ks _ _ _ h5 hs.2.2 hw.2⟩
  | [], [], _, _, _, _, _, _ => by rw [okL] <;> simp
  | [], _ :: _, _, _, _, _, _, _ => by rw [okL] <;> simp
  | _ :: _, [], _, _, _, _, _, _ => by rw [okL] <;> simp
end
end Go.Proofs.Ytljcbibcdajhiaa.NS
namespace Go.Proofs.Ytljcbibcdajhiaa
open Go.RowKit

theorem ckT_off {T : Tr} (h : (ckT T).2 = 0) : (vT [] 24 T).off = none := by
  cases ho : (vT [] 24 T).off with
  | none => rfl
  | some o =>
    exfalso
    unfold ckT at h
    rw [ho] at h
    exact vT_code _ _ _ _ ho h
/-- The archive of a tree. -/
def arcT (T : Tr) : List UInt8 := frm (wMagic :: wdT T)
def serT (T : Tr) : ByteArray × Int := if (ckT T).2 ≠ 0 then (⟨#[]⟩, (ckT T).2) else (NB.ba (arcT T), 0)
theorem arc_le {T : Tr} (hs : smT T) (hw : wfT T) (h : (ckT T).2 = 0) : okT T ∧ fwS (wMagic :: wdT T) ≤ 1048600 := by
  have hoff := ckT_off h
  have ho := NS.ok_tree T [] 24 hoff hs hw
  refine ⟨ho, ?_⟩
  have h1 := fw_tree T ho
  have h2 := tb_le hoff
  have h3 : 8 + wMagic.size + padN wMagic.size = 24 := by decide +kernel
  show 8 + wMagic.size + padN wMagic.size + fwS (wdT T) ≤ _
  omega

set_option maxHeartbeats 4000000 in
set_option maxRecDepth 10000 in
theorem nserial_any (m : Nat) (k : Int) (e : Bool) (t : ByteArray) (x : Option Addr) (n c : Nat) (T : Tr) (w : World) (hA : At w m (.agg #[Value.int IntKind.i64 k, Value.bool e, Value.string t, Value.slice x n c]) T) (hS : smT T) (hW : wfT T) :
    Calls Try.prog 5 #[.agg #[Value.int IntKind.i64 k, Value.bool e, Value.string t, Value.slice x n c]] w fun en w' => en = .returned (.tuple #[.string (serT T).1, .int .i64 (serT T).2]) ∧ Below w.heap.size w w' := by
  have HH : Hid (At w m (.agg #[Value.int IntKind.i64 k, Value.bool e, Value.string t, Value.slice x n c]) T ∧ smT T ∧ wfT T) := ⟨hA, hS, hW⟩
  clear hA hS hW
  obtain ⟨R, hR⟩ : ∃ R, serT T = R := ⟨_, rfl⟩
  have HR : Hid (serT T = R) := hR
  rw [hR]
  clear hR
  have bA : Below w.heap.size w (w.alloc (Obj.cells #[Value.int IntKind.i64 k, Value.bool e, Value.string t, Value.slice x n c] 25)) := (Below.refl _ _).alloc (Nat.le_refl _) _
  have HG : Hid ((w.alloc (Obj.cells #[Value.int IntKind.i64 k, Value.bool e, Value.string t, Value.slice x n c] 25)).heap[w.heap.size]? = some (.cells #[Value.int IntKind.i64 k, Value.bool e, Value.string t, Value.slice x n c] 25 (0, 0)) ∧ Below w.heap.size w (w.alloc (Obj.cells #[Value.int IntKind.i64 k, Value.bool e, Value.string t, Value.slice x n c] 25))) := ⟨heap_alloc_new _ _, bA⟩
  clear bA
  go_enter Try.func5, Try.ntmps5
  go_upto_region 1 with fail
  obtain ⟨G, hG⟩ : ∃ G, w.heap.size = G := ⟨_, rfl⟩
  have HGe : Hid (w.heap.size = G) := hG
  generalize w.alloc (Obj.cells #[Value.int IntKind.i64 k, Value.bool e, Value.string t, Value.slice x n c] 25) = w1 at *
  have CK := check_tree m _ T w1 (HH.out.1.below HG.out.2) HH.out.2.1
  rw [hG] at HG ⊢
  clear hG
  obtain ⟨u0, u1, u2, u3, _⟩ := cell4n HG.out.1
  go_wp2_with fail
  refine CK.mono ?_
  rintro e2 w2 ⟨rfl, b2⟩
  have HG2 : Hid (w2.heap[G]? = some (.cells #[Value.int IntKind.i64 k, Value.bool e, Value.string t, Value.slice x n c] 25 (0, 0)) ∧ Below w.heap.size w w2) := ⟨(b2.block _ (heap_lt HG.out.1)).trans HG.out.1, by rw [HGe.out]; exact HG.out.2.trans (b2.mono (by rw [← HGe.out]; exact (by rw [HGe.out]; exact Nat.le_of_lt (heap_lt HG.out.1))))⟩
  obtain ⟨C, hC⟩ : ∃ C, (ckT T).2 = C := ⟨_, rfl⟩
  have HC : Hid ((ckT T).2 = C) := hC
  rw [hC]
  clear hC b2 CK HG u0 u1 u2 u3
  by_cases hz : C = 0
  · subst hz
    obtain ⟨hok, hfw⟩ := arc_le HH.out.2.1 HH.out.2.2 HC.out
    have HOK : Hid (okT T ∧ fwS (wMagic :: wdT T) ≤ 1048600) := ⟨hok, hfw⟩
    have HSR : Hid (R = (NB.ba (arcT T), 0)) := by rw [Hid, ← HR.out]; unfold serT; rw [if_neg (by rw [HC.out]; decide)]
    clear hok hfw
    have b3 : Below w2.heap.size w2 (w2.alloc (Obj.cells #[Value.pointer none, Value.slice none 0 0] 53)) := (Below.refl _ _).alloc (Nat.le_refl _) _
    have HW3 : Hid (NB.Bd 53 (w2.alloc (Obj.cells #[Value.pointer none, Value.slice none 0 0] 53)) w2.heap.size ([] ++ frm []) ∧ w.heap.size ≤ w2.heap.size ∧ (w2.alloc (Obj.cells #[Value.pointer none, Value.slice none 0 0] 53)).heap[G]? = some (.cells #[Value.int IntKind.i64 k, Value.bool e, Value.string t, Value.slice x n c] 25 (0, 0)) ∧ Below w.heap.size w (w2.alloc (Obj.cells #[Value.pointer none, Value.slice none 0 0] 53)) ∧ G < w2.heap.size) := ⟨NB.Bd.new 53 w2, HG2.out.2.size, (b3.block _ (heap_lt HG2.out.1)).trans HG2.out.1, HG2.out.2.trans (b3.mono HG2.out.2.size), heap_lt HG2.out.1⟩
    go_upto_region 5 with fail
    obtain ⟨g, hg⟩ : ∃ g, w2.heap.size = g := ⟨_, rfl⟩
    generalize w2.alloc (Obj.cells #[Value.pointer none, Value.slice none 0 0] 53) = w3 at *
    rw [hg] at HW3 ⊢
    clear hg b3 HG2
    have CW := words_step g [] [] [wMagic] w3 HW3.out.1 (by simp) (by intro z hz; simp at hz; subst hz; decide) (by have := HOK.out.2; show 0 + (_ + 0) ≤ _; change _ + fwS (wdT T) ≤ _ at this; omega)
    go_wp2_with fail
    refine CW.mono ?_
    rintro e4 w4 ⟨rfl, hB4, b4, k4⟩
    have HG4 : Hid (w4.heap[G]? = some (.cells #[Value.int IntKind.i64 k, Value.bool e, Value.string t, Value.slice x n c] 25 (0, 0)) ∧ Below w.heap.size w w4 ∧ NB.Bd 53 w4 g (frm [wMagic])) := ⟨(b4.block _ HW3.out.2.2.2.2).trans HW3.out.2.2.1, HW3.out.2.2.2.1.trans (b4.mono HW3.out.2.1), hB4⟩
    clear CW hB4 b4 k4
    obtain ⟨u0, u1, u2, u3, _⟩ := cell4n HG4.out.1
    have CN := nnode_any m _ T w w4 g (frm [wMagic]) HH.out.1 HW3.out.2.1 HG4.out.2.1 HG4.out.2.2 HOK.out.1 (by rw [frm_len]; have := HOK.out.2; show _ + 0 + _ ≤ _; change _ + fwS (wdT T) ≤ _ at this; omega)
    go_wp2_with fail
    refine CN.mono ?_
    rintro e5 w5 ⟨rfl, hB5, b5, k5⟩
    have HG5 : Hid (Below w.heap.size w w5 ∧ NB.Bd 53 w5 g (arcT T) ∧ w.heap.size ≤ g) := ⟨HG4.out.2.1.trans (b5.mono HW3.out.2.1), by
      rw [← frm_app] at hB5
      exact hB5, HW3.out.2.1⟩
    clear CN hB5 b5 k5 HG4 HW3 u0 u1 u2 u3
    have CS := NB.bstr_any 53 g (arcT T) w5 HG5.out.2.1
    go_wp2_with fail
    refine CS.mono ?_
    rintro e6 w6 ⟨rfl, b6⟩
    have HG6 : Hid (Below w.heap.size w w6) := HG5.out.1.trans (b6.mono HG5.out.2.2)
    clear CS b6 HG5
    go_wp2
    go_ret2
    exact ⟨by rw [HSR.out]; rfl, HG6.out⟩
  · have HSR : Hid (R = (⟨#[]⟩, C)) := by rw [Hid, ← HR.out]; unfold serT; rw [if_pos (by rw [HC.out]; exact hz), HC.out]
    have hne : (C == 0) = false := by simp [hz]
    go_wp2
    go_ret2
    exact ⟨by rw [HSR.out]; rfl, HG2.out.2⟩
end Go.Proofs.Ytljcbibcdajhiaa
