/- LsQ LsF LsG NxL TvK TvH LsH LsI LsJ LsK, gathered (own text of the verifier). -/
import Derived.Test.YthlioedahoiahaaXQ
import Derived.Test.YthlioedahoiahaaXL
import Derived.Laws.OwnMore
import Derived.Lib.AppendZeros
import Derived.Test.YthlioedahoiahaaNxKx
import Derived.Test.YthlioedahoiahaaTvG
import Derived.Deep.RegionHeld3
import Derived.Deep.CutRange
import Derived.Deep.QuietTactic
import Derived.BigQuiet
namespace Go.Proofs.Ythlioedahoiahaa.Ls
open Go.RowKit Go.Proofs.Ythlioedahoiahaa

theorem fr8_head {s R : List UInt8} (h : s.length ≤ 1048576) : leN ((fr8 s ++ R).take 8) = s.length := by
  rw [List.take_append_of_le_length (by rw [fr8_len]; omega), fr8_take8, leN_lek8 _ h]
theorem fr8_inj {s s' A B : List UInt8} (h : s.length ≤ 1048576) (h' : s'.length ≤ 1048576) (e : fr8 s ++ A = fr8 s' ++ B) : s = s' ∧ A = B := by
  have hl : s.length = s'.length := by rw [← fr8_head (R := A) h, e, fr8_head h']
  have h2 : fr8 s = fr8 s' ∧ A = B := List.append_inj e (by rw [fr8_len, fr8_len, hl])
  refine ⟨?_, h2.2⟩
  have h3 : (fr8 s).drop 8 = (fr8 s').drop 8 := by rw [h2.1]
  rw [fr8_drop8, fr8_drop8] at h3
  exact (List.append_inj h3 hl).1
theorem noFr_fr8 {s R : List UInt8} (h : s.length ≤ 1048576) {n : Nat} {c a : Int} (hn : NoFr (fr8 s ++ R) n c a) : False := by
  have hh := fr8_head (R := R) h
  have hlen : (fr8 s ++ R).length = 8 + s.length + padN s.length + R.length := by rw [List.length_append, fr8_len]
  generalize hv : fr8 s ++ R = v at *
  cases hn with
  | short h1 => omega
  | long h1 h2 => omega
  | pad n z h1 h2 h3 h4 h5 h6 h7 =>
    rw [hh] at h2
    subst h2
    refine h7 0 ?_ rfl
    rw [← hv, List.getElem?_append_left (by rw [fr8_len]; omega)]
    have h8 : (fr8 s)[8 + (s.length + z)]? = some 0 := by
      rw [← List.getElem?_drop, fr8_drop8, List.getElem?_append_right (by omega), List.getElem?_replicate, if_pos (by omega)]
    rw [← h8, Nat.add_assoc]
  | part n h1 h2 h3 h4 h5 =>
    rw [hh] at h2
    subst h2
    omega
theorem frm_cons (s : ByteArray) (W : List ByteArray) : frm (s :: W) = fr8 s.data.toList ++ frm W := by
  show (txt s).data.toList ++ frm W = _
  rw [txt_list]
theorem sz_list (s : ByteArray) : s.data.toList.length = s.size := by rw [Array.length_toList]; rfl
theorem frm_uniq : ∀ (W W' : List ByteArray) (u : List UInt8) (n : Nat) (c a : Int), frm W ++ u = frm W' → NoFr u n c a → (∀ s ∈ W, s.size ≤ 1048576) → (∀ s ∈ W', s.size ≤ 1048576) → W = W' ∧ u = []
  | [], [], u, n, c, a, h, _, _, _ => ⟨rfl, h⟩
  | [], s :: W', u, n, c, a, h, hn, _, h' => by
    have h2 : u = fr8 s.data.toList ++ frm W' := h.trans (frm_cons s W')
    subst h2
    exact (noFr_fr8 (by rw [sz_list]; exact h' s (by simp)) hn).elim
  | s :: W, [], u, n, c, a, h, _, _, _ => by
    rw [frm_cons] at h
    have : (fr8 s.data.toList ++ frm W ++ u).length = 0 := by rw [h]; rfl
    rw [List.length_append, List.length_append, fr8_len] at this
    omega
  | s :: W, s' :: W', u, n, c, a, h, hn, h1, h2 => by
    rw [frm_cons, frm_cons, List.append_assoc] at h
    obtain ⟨e1, e2⟩ := fr8_inj (by rw [sz_list]; exact h1 s (by simp)) (by rw [sz_list]; exact h2 s' (by simp)) h
    obtain ⟨e3, e4⟩ := frm_uniq W W' u n c a e2 hn (fun z hz => h1 z (by simp [hz])) (fun z hz => h2 z (by simp [hz]))
    have e5 : s = s' := ByteArray.ext (Array.toList_inj.1 e1)
    exact ⟨by rw [e5, e3], e4⟩
/-- What Frames finds in an archive. -/
theorem frm_archive {W' : List ByteArray} {w : World} {e : Ending} {w' : World} (h' : ∀ s ∈ W', s.size ≤ 1048576) (h : FrmP (frm W') w e w') : ∃ (a b c : Int) (v : Value), e = .returned (.tuple #[v, .int .i64 a, .int .i64 b, .int .i64 c]) ∧ FR w' v W' ∧ Below w.heap.size w w' := by
  obtain ⟨W, n, c, a, P, v, rfl, hF, ⟨u, hu, hn⟩, -, -, hs, hb⟩ := h
  obtain ⟨rfl, -⟩ := frm_uniq W W' u n c a hu.symm hn hs h'
  exact ⟨c, P, _, v, rfl, hF, hb⟩

end Go.Proofs.Ythlioedahoiahaa.Ls
namespace Go.Proofs.Ythlioedahoiahaa.Ls
open Go.RowKit Go.Proofs.Ythlioedahoiahaa

/-- A row of numbers that was made. -/
def Ins (w : World) (B : Nat) (v : Value) (xs : List Nat) : Prop := w.ownsRow B 3 1 v xs.length (xs.map fun (x : Nat) => Value.int .i64 (x : Int))
theorem Ins.shape {w : World} {B : Nat} {v : Value} {xs : List Nat} (h : Ins w B v xs) : ∃ x c, v = .slice x xs.length c := by
  rcases h.2 with ⟨hv, h0⟩ | ⟨g, cap, cur, hv, -⟩
  · exact ⟨none, 0, by rw [hv, h0]⟩
  · exact ⟨_, cap, hv⟩
theorem Ins.at {w : World} {B : Nat} {x : Option Addr} {n c : Nat} {xs : List Nat} (h : Ins w B (.slice x n c) xs) (i : Nat) (y : Nat) (hy : xs[i]? = some y) : ∃ g, x = some ⟨g, 0, none⟩ ∧ B ≤ g ∧ g < w.heap.size ∧ w.cell? ⟨g, i, none⟩ = some (.int .i64 (y : Int)) := by
  have hi := (List.getElem?_eq_some_iff.1 hy).1
  rcases h.2 with ⟨hv, h0⟩ | ⟨g, cap, cur, hv, hb, hg, hn, hm, hs, ht⟩
  · omega
  · injection hv with h1 h2 h3
    refine ⟨g, h1, hb, heap_lt hg, ?_⟩
    rw [Lib.cell_of_heap hg]
    have e : (cur.toList.take (xs.length * 1))[i]? = some (.int .i64 (y : Int)) := by rw [ht, List.getElem?_map, hy]; rfl
    rw [List.getElem?_take_of_lt (by omega), Array.getElem?_toList] at e
    exact e
theorem Ins.below {w w' : World} {B : Nat} {v : Value} {xs : List Nat} (h : Ins w B v xs) (b : Below w.heap.size w w') : Ins w' B v xs :=
  own_same h (fun q hq => by
    obtain ⟨hl, ⟨hv, h0⟩ | ⟨g, cap, cur, hv, hb, hg, -⟩⟩ := h
    · rw [hv] at hq; simp [blkL, Value.ownBlock] at hq
    · rw [hv] at hq; simp [blkL, Value.ownBlock] at hq; subst hq; exact b.block _ (heap_lt hg))
theorem Ins.low {w : World} {B B' : Nat} {v : Value} {xs : List Nat} (h : Ins w B v xs) (hb : B' ≤ B) : Ins w B' v xs := ⟨h.1, h.2.imp id fun ⟨g, cap, cur, a, b, r⟩ => ⟨g, cap, cur, a, Nat.le_trans hb b, r⟩⟩
theorem Ins.lit (w : World) (x : Nat) : Ins (w.alloc (.cells #[.int .i64 (x : Int)] 3)) w.heap.size (.slice (some ⟨w.heap.size, 0, none⟩) 1 1) [x] :=
  ⟨rfl, .inr ⟨w.heap.size, 1, _, rfl, Nat.le_refl _, heap_alloc_new _ _, Nat.le_refl _, by unfold maxLen; omega, rfl, rfl⟩⟩
theorem infoI : (Try.prog.info? 3).map (fun i => (i.zero, i.size, i.bytes)) = some (some (.int .i64 0), 1, 8) := by kernel_rfl
/-- append(all, below...). -/
theorem ins_app (w : World) (B B2 : Nat) (v u : Value) (xs ys : List Nat) (h : Ins w B v xs) (k : Ins w B2 u ys) (hl : xs.length + ys.length ≤ 1073741824) (hB : B ≤ w.heap.size) : ∃ v' w', (Builtin.append_ #[56, 56] 56 #[v, u]).run Try.prog w = .ok v' w' ∧ Ins w' B v' (xs ++ ys) ∧ w.grownBy w' v.ownBlock := by
  obtain ⟨i0, hi, hz0, hz1, hz2⟩ := info_parts infoI
  rcases k.2 with ⟨hv, h0⟩ | ⟨g, cap, cur, hv, hb, hg, hn, hm, hs, ht⟩
  · have h0' : ys = [] := List.length_eq_zero_iff.1 h0
    subst hv h0'
    rw [List.append_nil]
    exact ⟨v, w, run_append_owned_none (P := Try.prog) w B 56 56 3 i0 1 Try.underlying56 hi v xs.length _ h, h, ⟨rfl, rfl, rfl, Nat.le_refl _, fun _ _ _ => rfl⟩⟩
  · subst hv
    obtain ⟨v', w', hr, ho, hgr, -⟩ := run_append_own (P := Try.prog) w B 56 56 3 i0 _ 1 8 Try.underlying56 hi hz0 hz1 hz2 rfl (by decide) v xs.length _ h ⟨g, 0, none⟩ ys.length cap
      (ys.map fun (x : Nat) => Value.int .i64 (x : Int)) (by simp) (fun j z hz => by
        have hj : j < ys.length := by have := (List.getElem?_eq_some_iff.1 hz).1; simpa using this
        rw [Addr.add_lit, Nat.zero_add, Lib.cell_of_heap hg, ← hz, ← ht, List.getElem?_take_of_lt (by omega), Array.getElem?_toList]) (by intro z hz; simp at hz; obtain ⟨a, _, rfl⟩ := hz; rfl) (by unfold maxLen; omega) (by omega) hB
    refine ⟨v', w', hr, ?_, hgr⟩
    unfold Ins
    rw [List.length_append, List.map_append]
    exact ho
/-- What places answers. -/
def PlP (xs : List Nat) (nx : Nat) (w : World) (e : Ending) (w' : World) : Prop := Below w.heap.size w w' ∧ ∃ x n c, e = .returned (.tuple #[.slice x n c, .int .i64 (nx : Int)]) ∧ n = xs.length ∧ Ins w' w.heap.size (.slice x n c) xs

end Go.Proofs.Ythlioedahoiahaa.Ls
namespace Go.Proofs.Ythlioedahoiahaa.Ls
open Go.RowKit Go.Proofs.Ythlioedahoiahaa

def plF (p : Nat) (T : Tr) : List Nat := (plT p T).map (·.1)
theorem grown_own {w w' : World} {B : Nat} {v : Value} {xs : List Nat} (h : Ins w B v xs) (k : w.grownBy w' v.ownBlock) (hB : B ≤ w.heap.size) : Below B w w' :=
  ⟨k.os, k.tape, k.output, k.size, fun i hi => k.block i (by omega) (fun e => by
    obtain ⟨hl, ⟨hv, h0⟩ | ⟨g, cap, cur, hv, hb, hg, -⟩⟩ := h
    · rw [hv] at e; cases e
    · rw [hv] at e; injection e with e; subst e; omega)⟩
theorem fr_at {w : World} {v : Value} {W : List ByteArray} (h : FR w v W) (i : Nat) (hi : i < W.length) : ∃ g c, v = .slice (some ⟨g, 0, none⟩) W.length c ∧ g < w.heap.size ∧ w.cell? ⟨g, i * 3 + 1, none⟩ = some (.int .i64 (fwS (W.take i) : Int)) := by
  obtain ⟨x, c, rfl, hx⟩ := h
  obtain ⟨g, rfl, hg, -, h1, -⟩ := hx i _ (List.getElem?_eq_getElem hi)
  exact ⟨g, c, rfl, hg, h1⟩

mutual
theorem plT_le (p : Nat) : ∀ T : Tr, (plT p T).length ≤ (wdT T).length
  | .mk k e t nms ks => by
    rw [plT, wdT]
    by_cases h1 : k = 1
    · rw [if_pos h1, if_pos h1]; simp
    · rw [if_neg h1, if_neg h1]
      by_cases h2 : k = 2
      · rw [if_pos h2, if_pos h2]; simp
      · rw [if_neg h2, if_neg h2]
        have := plL_le (p + fwS [wOpen, wType, wDirectory]) nms ks
        simp only [List.length_append, List.length_cons, List.length_nil]
        omega
theorem plL_le (p : Nat) : ∀ (nms : List ByteArray) (ks : List Tr), (plL p nms ks).length ≤ (wdL nms ks).length
  | s :: nms, T :: ks => by
    rw [plL, wdL]
    have h1 := plT_le (p + fwS [wEntry, wOpen, wName, s, wNode]) T
    have h2 := plL_le (p + fwS [wEntry, wOpen, wName, s, wNode] + fwS (wdT T) + fwS [wClose]) nms ks
    simp only [List.length_append, List.length_cons, List.length_nil]
    omega
  | [], ks => by rw [plL] <;> simp
  | _ :: _, [] => by rw [plL] <;> simp
end
theorem wdL_split : ∀ (nms : List ByteArray) (ks : List Tr) (i : Nat), nms.length = ks.length → ∃ Z, wdL nms ks = wdL (nms.take i) (ks.take i) ++ Z := by
  intro nms
  induction nms with
  | nil => intro ks i h; exact ⟨[], by cases ks with | nil => simp [wdL] | cons _ _ => simp at h⟩
  | cons a nms ih =>
    intro ks i h
    cases ks with
    | nil => simp at h
    | cons T ks =>
      cases i with
      | zero => exact ⟨wdL (a :: nms) (T :: ks), by simp [wdL]⟩
      | succ i =>
        obtain ⟨X, hX⟩ := ih ks i (by simpa using h)
        refine ⟨X, ?_⟩
        rw [List.take_succ_cons, List.take_succ_cons, wdL, wdL, hX]
        simp only [List.append_assoc]

set_option maxHeartbeats 8000000 in
set_option maxRecDepth 10000 in
theorem rplaces_any (m : Nat) : ∀ (v : Value) (T : Tr) (w0 w : World) (W X Y : List ByteArray) (vF : Value), At w0 m v T → Below w0.heap.size w0 w → FR w vF W → W = X ++ (wdT T ++ Y) → okT T → W.length ≤ 1048576 → fwS W ≤ 1073741824 →
    Calls Try.prog 15 #[v, vF, .int .i64 (X.length : Int)] w (PlP (plF (fwS X) T) (X.length + (wdT T).length) w) := by
  induction m with
  | zero => intro v T w0 w W X Y vF h; exact h.elim
  | succ m IH =>
    rintro v ⟨k, e, t, ns, ks⟩ w0 w W X Y vF ⟨x, n, c, rfl, l1, l2, l3, l4, hx⟩ hb hF hW hok hWl hWf
    have EX : Hid (Ents w0 m x n ns ks) := At.ents hx
    have hok' := hok
    rw [okT] at hok'
    obtain ⟨hk, hkn, hts, hoL⟩ := hok'
    have HLL : Hid (ns.length = n ∧ ks.length = n ∧ okL ns ks ∧ (k ≠ 3 → ns = [] ∧ ks = [])) := ⟨l1, l2, hoL, hkn⟩
    have HB0 : Hid (Below w0.heap.size w0 w) := hb
    have HF0 : Hid (FR w vF W ∧ W = X ++ (wdT (.mk k e t ns ks) ++ Y) ∧ fwS W ≤ 1073741824 ∧ W.length ≤ 1048576) := ⟨hF, hW, hWf, hWl⟩
    have hXl : X.length + (wdT (.mk k e t ns ks)).length ≤ 1048576 := by
      rw [hW, List.length_append, List.length_append] at hWl
      omega
    clear hx l1 l2 hok hoL hb hkn hF hW hWf hWl
    have HG : Hid ((w.alloc (Obj.cells #[Value.int IntKind.i64 k, Value.bool e, Value.string t, Value.slice x n c] 37)).heap[w.heap.size]? = some (.cells #[Value.int IntKind.i64 k, Value.bool e, Value.string t, Value.slice x n c] 37 (0, 0)) ∧ Below w.heap.size w (w.alloc (Obj.cells #[Value.int IntKind.i64 k, Value.bool e, Value.string t, Value.slice x n c] 37)) ∧ (w.alloc (Obj.cells #[Value.int IntKind.i64 k, Value.bool e, Value.string t, Value.slice x n c] 37)).heap.size = w.heap.size + 1) := ⟨heap_alloc_new _ _, (Below.refl _ _).alloc (Nat.le_refl _) _, World.size_alloc _ _⟩
    go_enter Try.func15, Try.ntmps15
    go_upto_region 1 with fail
    obtain ⟨E, hE⟩ : ∃ E, w.heap.size = E := ⟨_, rfl⟩
    have HE : Hid (w.heap.size = E) := hE
    generalize w.alloc (Obj.cells #[Value.int IntKind.i64 k, Value.bool e, Value.string t, Value.slice x n c] 37) = wq at *
    rw [hE] at HG ⊢
    clear hE
    obtain ⟨u0, u1, u2, u3, _⟩ := cell4n HG.out.1
    rcases hk with rfl | rfl | rfl
    · obtain ⟨rfl, rfl⟩ := HLL.out.2.2.2 (by decide)
      cases e with
      | false =>
        have HWD : Hid (wdT (.mk 1 false t [] []) = [wOpen, wType, wRegular, wContents, t, wClose]) := by rw [Hid, wdT]; rfl
        have HPT : Hid (plF (fwS X) (.mk 1 false t [] []) = [fwS (X ++ [wOpen, wType, wRegular, wContents]) + 8]) := by rw [Hid, plF, plT, fwS_app X]; rfl
        have hX2 : X.length + 6 ≤ 1048576 := by have := hXl; rw [HWD.out] at this; exact this
        have HWW := HF0.out.2.1
        rw [HWD.out] at HWW
        obtain ⟨gf, cf, hvF, hgf, f1⟩ := fr_at HF0.out.1 (X.length + 4) (by rw [HWW]; simp)
        have HTK : W.take (X.length + 4) = X ++ [wOpen, wType, wRegular, wContents] := by rw [HWW, List.take_append, List.take_of_length_le (by omega)]; simp
        rw [HTK] at f1
        have hwl : X.length + 4 < W.length := by rw [HWW]; simp
        have f2 := (HG.out.2.1.cell (p := ⟨gf, (X.length + 4) * 3 + 1, none⟩) (by rw [← HE.out]; exact hgf)).trans f1
        have hPb : fwS (X ++ [wOpen, wType, wRegular, wContents]) ≤ 1073741824 := by
          have := HF0.out.2.2.1
          rw [← List.take_append_drop (X.length + 4) W, fwS_app, HTK] at this
          omega
        have hWl := HF0.out.2.2.2
        subst hvF
        clear HTK f1 HWW hXl HF0
        generalize fwS (X ++ [wOpen, wType, wRegular, wContents]) = PB at *
        generalize W.length = WL at *
        have HEND : Hid (Ins (wq.alloc (.cells #[.int .i64 ((PB : Int) + 8)] 3)) wq.heap.size (.slice (some ⟨wq.heap.size, 0, none⟩) 1 1) [PB + 8]) := by
          have := Ins.lit wq (PB + 8)
          rw [show ((PB + 8 : Nat) : Int) = (PB : Int) + 8 by omega] at this
          exact this
        have hb2 : Below E wq (wq.alloc (.cells #[.int .i64 ((PB : Int) + 8)] 3)) := ((Below.refl _ _).alloc (Nat.le_refl _) _).mono (by have := HG.out.2.2; omega)
        have HBB : Hid (Below w.heap.size w (wq.alloc (.cells #[.int .i64 ((PB : Int) + 8)] 3)) ∧ w.heap.size ≤ wq.heap.size) := by
          rw [HE.out]
          exact ⟨HG.out.2.1.trans hb2, by have := HG.out.2.2; omega⟩
        clear hb2
        go_wp2
        go_ret2
        rw [HWD.out, HPT.out]
        exact ⟨HBB.out.1, _, 1, 1, rfl, rfl, HEND.out.low HBB.out.2⟩
      | true =>
        have HWD : Hid (wdT (.mk 1 true t [] []) = [wOpen, wType, wRegular, wExec, wNone, wContents, t, wClose]) := by rw [Hid, wdT]; rfl
        have HPT : Hid (plF (fwS X) (.mk 1 true t [] []) = [fwS (X ++ [wOpen, wType, wRegular, wExec, wNone, wContents]) + 8]) := by rw [Hid, plF, plT, fwS_app X]; rfl
        have hX2 : X.length + 8 ≤ 1048576 := by have := hXl; rw [HWD.out] at this; exact this
        have HWW := HF0.out.2.1
        rw [HWD.out] at HWW
        obtain ⟨gf, cf, hvF, hgf, f1⟩ := fr_at HF0.out.1 (X.length + 6) (by rw [HWW]; simp)
        have HTK : W.take (X.length + 6) = X ++ [wOpen, wType, wRegular, wExec, wNone, wContents] := by rw [HWW, List.take_append, List.take_of_length_le (by omega)]; simp
        rw [HTK] at f1
        have hwl : X.length + 6 < W.length := by rw [HWW]; simp
        have f2 := (HG.out.2.1.cell (p := ⟨gf, (X.length + 6) * 3 + 1, none⟩) (by rw [← HE.out]; exact hgf)).trans f1
        have hPb : fwS (X ++ [wOpen, wType, wRegular, wExec, wNone, wContents]) ≤ 1073741824 := by
          have := HF0.out.2.2.1
          rw [← List.take_append_drop (X.length + 6) W, fwS_app, HTK] at this
          omega
        have hWl := HF0.out.2.2.2
        subst hvF
        clear HTK f1 HWW hXl HF0
        generalize fwS (X ++ [wOpen, wType, wRegular, wExec, wNone, wContents]) = PB at *
        generalize W.length = WL at *
        have HEND : Hid (Ins (wq.alloc (.cells #[.int .i64 ((PB : Int) + 8)] 3)) wq.heap.size (.slice (some ⟨wq.heap.size, 0, none⟩) 1 1) [PB + 8]) := by
          have := Ins.lit wq (PB + 8)
          rw [show ((PB + 8 : Nat) : Int) = (PB : Int) + 8 by omega] at this
          exact this
        have hb2 : Below E wq (wq.alloc (.cells #[.int .i64 ((PB : Int) + 8)] 3)) := ((Below.refl _ _).alloc (Nat.le_refl _) _).mono (by have := HG.out.2.2; omega)
        have HBB : Hid (Below w.heap.size w (wq.alloc (.cells #[.int .i64 ((PB : Int) + 8)] 3)) ∧ w.heap.size ≤ wq.heap.size) := by
          rw [HE.out]
          exact ⟨HG.out.2.1.trans hb2, by have := HG.out.2.2; omega⟩
        clear hb2
        go_wp2
        go_ret2
        rw [HWD.out, HPT.out]
        exact ⟨HBB.out.1, _, 1, 1, rfl, rfl, HEND.out.low HBB.out.2⟩
    · obtain ⟨rfl, rfl⟩ := HLL.out.2.2.2 (by decide)
      have HWD : Hid (wdT (.mk 2 e t [] []) = [wOpen, wType, wSymlink, wTarget, t, wClose]) := by rw [Hid, wdT]; rfl
      have HPT : Hid (plF (fwS X) (.mk 2 e t [] []) = [0]) := by rw [Hid, plF, plT]; rfl
      have hX2 : X.length + 6 ≤ 1048576 := by have := hXl; rw [HWD.out] at this; exact this
      have HEND : Hid (Ins (wq.alloc (.cells #[.int .i64 0] 3)) wq.heap.size (.slice (some ⟨wq.heap.size, 0, none⟩) 1 1) [0]) := Ins.lit wq 0
      have hb2 : Below E wq (wq.alloc (.cells #[.int .i64 0] 3)) := ((Below.refl _ _).alloc (Nat.le_refl _) _).mono (by have := HG.out.2.2; omega)
      have HBB : Hid (Below w.heap.size w (wq.alloc (.cells #[.int .i64 0] 3)) ∧ w.heap.size ≤ wq.heap.size) := by
        rw [HE.out]
        exact ⟨HG.out.2.1.trans hb2, by have := HG.out.2.2; omega⟩
      clear hb2 hXl
      go_wp2
      go_ret2
      rw [HWD.out, HPT.out]
      exact ⟨HBB.out.1, _, 1, 1, rfl, rfl, HEND.out.low HBB.out.2⟩
    · have HWD : Hid (wdT (.mk 3 e t ns ks) = [wOpen, wType, wDirectory] ++ (wdL ns ks ++ [wClose])) := by
        rw [Hid, wdT]
        simp
      have HPT : Hid (plT (fwS X) (.mk 3 e t ns ks) = (0, 0) :: plL (fwS X + fwS [wOpen, wType, wDirectory]) ns ks) := by rw [Hid, plT]; rfl
      have hXb : X.length + 3 ≤ 1048576 := by have := hXl; rw [HWD.out, List.length_append] at this; simp only [List.length_cons, List.length_nil] at this; omega
      have HXL : Hid (X.length + ([wOpen, wType, wDirectory] ++ (wdL ns ks ++ [wClose])).length ≤ 1048576) := by have := hXl; rw [HWD.out] at this; exact this
      have I0 : Hid (Ins (wq.alloc (.cells #[.int .i64 0] 3)) (E + 1) (.slice (some ⟨wq.heap.size, 0, none⟩) 1 1) [0] ∧ Below (E + 1) wq (wq.alloc (.cells #[.int .i64 0] 3))) :=
        ⟨(Ins.lit wq 0).low (by have := HG.out.2.2; omega), ((Below.refl _ _).alloc (Nat.le_refl _) _).mono (by have := HG.out.2.2; omega)⟩
      have HBQ : Hid (∀ wr, Below (E + 1) wq wr → Below w.heap.size w wr ∧ wr.heap[E]? = some (.cells #[Value.int IntKind.i64 3, Value.bool e, Value.string t, Value.slice x n c] 37 (0, 0))) := fun wr b => by
        rw [HE.out]
        exact ⟨HG.out.2.1.trans (b.mono (by omega)), (b.block E (by omega)).trans HG.out.1⟩
      have HZQ : Hid (wq.heap.size = E + 1) := HG.out.2.2
      clear hXl HG
      go_upto_region 9 with fail
      clear u0 u1 u2 u3
      generalize hwa : wq.alloc (.cells #[.int .i64 0] 3) = wa at *
      clear hwa
      go_wp2
      go_loopw [2, 8, 9] (fun v2 v8 v9 wr => ∃ (i A : Nat) (v : Value) (XS : List Nat), i ≤ n ∧ v9 = .int .i64 i ∧ v2 = .int .i64 A ∧ v8 = v ∧ Hid (A = X.length + ([wOpen, wType, wDirectory] ++ wdL (ns.take i) (ks.take i)).length) ∧ Hid (XS = 0 :: (plL (fwS X + fwS [wOpen, wType, wDirectory]) (ns.take i) (ks.take i)).map (·.1)) ∧ Hid (Ins wr (E + 1) v XS ∧ Below (E + 1) wq wr)) (fun _ _ ix _ => n - (intOf ix).toNat)
      case atStart => exact ⟨0, X.length + 3, _, [0], Nat.zero_le _, rfl, by go_num, rfl, by rw [Hid, List.take_zero, List.take_zero, show wdL [] [] = [] by rw [wdL]; simp]; rfl, by rw [Hid, List.take_zero, List.take_zero, show plL (fwS X + fwS [wOpen, wType, wDirectory]) [] [] = [] by rw [plL]; simp]; rfl, I0⟩
      case round =>
        obtain ⟨i, A, v, XS, hi, rfl, rfl, rfl, HA, HXS, HO⟩ := hrel
        clear I0
        obtain ⟨bw, hEb⟩ := HBQ.out wr HO.out.2
        obtain ⟨u0, u1, u2, u3, _⟩ := cell4n hEb
        by_cases hlt : i < n
        · obtain ⟨s, hs⟩ : ∃ s, ns[i]? = some s := ⟨_, List.getElem?_eq_getElem (by rw [HLL.out.1]; omega)⟩
          obtain ⟨K, hK⟩ : ∃ s, ks[i]? = some s := ⟨_, List.getElem?_eq_getElem (by rw [HLL.out.2.1]; omega)⟩
          obtain ⟨hss, hoK⟩ := okL_at ns ks i s K HLL.out.2.2.1 hs hK
          obtain ⟨gk, ok, a', b', d', f', p', q', rfl, hgk, c0, c1, c2, c3, c4, hAt⟩ := EX.out i s K hlt hs hK
          have b0 : Below w0.heap.size w0 wr := HB0.out.trans (bw.mono HB0.out.size)
          have d1 := (b0.cell (p := ⟨gk, ok + i * 5 + 1, none⟩) hgk).trans c1
          have d2 := (b0.cell (p := ⟨gk, ok + i * 5 + 2, none⟩) hgk).trans c2
          have d3 := (b0.cell (p := ⟨gk, ok + i * 5 + 3, none⟩) hgk).trans c3
          have d4 := (b0.cell (p := ⟨gk, ok + i * 5 + 4, none⟩) hgk).trans c4
          have hwt := wdL_take ns ks i s K hs hK
          obtain ⟨Z, hZ⟩ := wdL_split ns ks (i + 1) (by rw [HLL.out.1, HLL.out.2.1])
          have hlen : X.length + ([wOpen, wType, wDirectory] ++ wdL (ns.take (i + 1)) (ks.take (i + 1))).length ≤ 1048576 := by
            have := HXL.out
            rw [hZ] at this
            simp only [List.length_append] at this ⊢
            omega
          have hWK : W = (X ++ ([wOpen, wType, wDirectory] ++ wdL (ns.take i) (ks.take i)) ++ [wEntry, wOpen, wName, s, wNode]) ++ (wdT K ++ ([wClose] ++ (Z ++ [wClose] ++ Y))) := by
            rw [HF0.out.2.1, HWD.out, hZ, hwt]
            simp only [List.append_assoc]
          have hAL : X.length + ([wOpen, wType, wDirectory] ++ wdL (ns.take (i + 1)) (ks.take (i + 1))).length = A + 5 + (wdT K).length + 1 := by
            rw [hwt, HA.out]
            simp only [List.length_append, List.length_cons, List.length_nil]
            (try omega)
          have CN := IH _ K w0 wr W _ _ vF hAt b0 (HF0.out.1.below bw) hWK hoK HF0.out.2.2.2 HF0.out.2.2.1
          have e1 : (X ++ ([wOpen, wType, wDirectory] ++ wdL (ns.take i) (ks.take i)) ++ [wEntry, wOpen, wName, s, wNode]).length = A + 5 := by
            rw [HA.out]
            simp only [List.length_append, List.length_cons, List.length_nil]
            (try omega)
          rw [e1] at CN
          obtain ⟨YS, hYS⟩ : ∃ YS, plF (fwS (X ++ ([wOpen, wType, wDirectory] ++ wdL (ns.take i) (ks.take i)) ++ [wEntry, wOpen, wName, s, wNode])) K = YS := ⟨_, rfl⟩
          rw [hYS] at CN
          have HPK : Hid (0 :: (plL (fwS X + fwS [wOpen, wType, wDirectory]) (ns.take (i + 1)) (ks.take (i + 1))).map (·.1) = XS ++ YS) := by
            rw [Hid, plL_take ns ks _ i s K hs hK, List.map_append, ← hYS, HXS.out, fwS_app, fwS_app, fwS_app]
            unfold plF
            rw [show fwS X + fwS [wOpen, wType, wDirectory] + fwS (wdL (List.take i ns) (List.take i ks)) + fwS [wEntry, wOpen, wName, s, wNode] = fwS X + (fwS [wOpen, wType, wDirectory] + fwS (wdL (List.take i ns) (List.take i ks))) + fwS [wEntry, wOpen, wName, s, wNode] by omega]
            rfl
          have hPN : XS.length + YS.length ≤ 1048577 := by
            rw [← List.length_append, ← HPK.out, List.length_cons, List.length_map]
            have h1 := plL_le (fwS X + fwS [wOpen, wType, wDirectory]) (ns.take (i + 1)) (ks.take (i + 1))
            rw [List.length_append] at hlen
            omega
          obtain ⟨WK, hWKl⟩ : ∃ n, (wdT K).length = n := ⟨_, rfl⟩
          rw [hWKl] at CN hAL
          rw [hAL] at hlen
          have HAL : Hid (X.length + ([wOpen, wType, wDirectory] ++ wdL (ns.take (i + 1)) (ks.take (i + 1))).length = A + 5 + WK + 1) := hAL
          have cA : ((A + 5 : Nat) : Int) = (A : Int) + 5 := by omega
          rw [cA] at CN
          obtain ⟨xv, cv, hv⟩ := HO.out.1.shape
          subst hv
          clear hs hK hoK c0 c1 c2 c3 c4 b0 hwt hZ hWK e1 cA hYS hWKl hAL bw hEb
          go_wp2_with fail
          refine CN.mono ?_
          rintro e5 w5 ⟨b5, x5, n5, c5, rfl, hn5, I5⟩
          clear CN hn5
          have I5x := HO.out.1.below b5
          obtain ⟨v6, w6, hap, I6, G6⟩ := ins_app w5 (E + 1) wr.heap.size _ _ XS YS I5x I5 (by omega) (by have := HO.out.2.size; have := HZQ.out; have := b5.size; omega)
          have HR6 : Hid _ := hap
          have HO6 : Hid (Ins w6 (E + 1) v6 (XS ++ YS) ∧ Below (E + 1) wq w6) := ⟨I6, HO.out.2.trans ((b5.mono (by have := HO.out.2.size; have := HZQ.out; omega)).trans (grown_own I5x G6 (by have := HO.out.2.size; have := HZQ.out; have := b5.size; omega)))⟩
          clear hap I6 G6 I5x I5 b5 HO
          have hA1 : (0 : Int) ≤ (A : Int) := by omega
          go_wp2_with (at_builtin; refine Lib.wpList_append_run _ rfl _ _ _ _ rfl _ _ rfl rfl _ _ HR6.out ?_)
          exact ⟨⟨i + 1, A + 5 + WK + 1, v6, XS ++ YS, by omega, by go_num, by go_num, rfl, HAL.out.symm, HPK.out.symm, HO6⟩, by simp [intOf]; omega⟩
        · obtain rfl : i = n := by omega
          have hAX : A + 1 = X.length + ([wOpen, wType, wDirectory] ++ (wdL ns ks ++ [wClose])).length := by
            have h := HA.out
            rw [List.take_of_length_le (by rw [HLL.out.1]; exact Nat.le_refl _), List.take_of_length_le (by rw [HLL.out.2.1]; exact Nat.le_refl _)] at h
            rw [h]
            simp only [List.length_append, List.length_cons, List.length_nil]
            (try omega)
          have hA2 : A + 1 ≤ 1048576 := by rw [hAX]; exact HXL.out
          have HAX : Hid (A + 1 = X.length + ([wOpen, wType, wDirectory] ++ (wdL ns ks ++ [wClose])).length) := hAX
          have HXE : Hid (XS = plF (fwS X) (.mk 3 e t ns ks)) := by
            have h := HXS.out
            rw [List.take_of_length_le (by rw [HLL.out.1]; exact Nat.le_refl _), List.take_of_length_le (by rw [HLL.out.2.1]; exact Nat.le_refl _)] at h
            rw [Hid, h]
            unfold plF
            rw [HPT.out]
            rfl
          obtain ⟨xv, cv, hv⟩ := HO.out.1.shape
          subst hv
          have HBW : Hid (Below w.heap.size w wr) := bw
          clear hAX bw hEb HA
          go_wp2
          go_ret2
          rw [HWD.out, ← HXE.out, ← HAX.out]
          exact ⟨HBW.out, xv, _, cv, by simp, rfl, HO.out.1.low (by have := HE.out; omega)⟩

end Go.Proofs.Ythlioedahoiahaa.Ls
namespace Go.Proofs.Ythlioedahoiahaa
open Go.RowKit

theorem ret_nii {f : Func} {tmps : Array Value} {W : World} {K1 : Nat} {i j m : Nat} {k : Int} {e : Bool} {t : ByteArray} {v : Value} {a b : Int} {R : Ending → World → Prop} (hf : f.results = #[.cell i 37, .tmp j, .tmp m]) (h1 : tmps[i]?.getD undef = .pointer (some ⟨K1, 0, none⟩)) (h2 : tmps[j]?.getD undef = .int .i64 a) (h3 : tmps[m]?.getD undef = .int .i64 b)
    (q : St W K1 [.int .i64 k, .bool e, .string t, v]) (hR : R (.returned (.tuple #[.agg #[.int .i64 k, .bool e, .string t, v], .int .i64 a, .int .i64 b])) W) :
    bodyPost Try.prog f R .ret { tmps := tmps, defers := [] } W := by
  have q0 := q.get 0 _ rfl
  have q1 := q.get 1 _ rfl
  have q2 := q.get 2 _ rfl
  have q3 := q.get 3 _ rfl
  exact bodyPost_ret (v := .tuple #[.agg #[.int .i64 k, .bool e, .string t, v], .int .i64 a, .int .i64 b]) (by simp [results, hf, go_sem, h1, h2, h3, q0, q1, q2, q3]) rfl hR
theorem set4_below {W w : World} {B G : Nat} (hB : Below B w W) (hG : B ≤ G) (k : Int) (e : Bool) (t : ByteArray) (v : Value) : Below B w (set4 W G 0 k e t v) :=
  (((hB.setCell (p := ⟨G, 0, none⟩) hG _).setCell (p := ⟨G, 0 + 1, none⟩) hG _).setCell (p := ⟨G, 0 + 2, none⟩) hG _).setCell (p := ⟨G, 0 + 3, none⟩) hG _
/-- What the document's Parse answers. -/
def RPaP (l : List UInt8) (w : World) (en : Ending) (w' : World) : Prop := ∃ (x : Option Addr) (n c : Nat) (fr : List Nat), en = .returned (.tuple #[.agg #[.int .i64 (prs l).ansT.k, .bool (prs l).ansT.e, .string (prs l).ansT.t, .slice x n c], .int .i64 (prs l).ansF.1, .int .i64 (prs l).ansF.2]) ∧ TrV w' w.heap.size (prs l).ansT (.slice x n c) fr ∧ Below w.heap.size w w'

set_option maxHeartbeats 16000000 in
set_option maxRecDepth 10000 in
theorem rparse_any (l : List UInt8) (w : World) (hl : l.length ≤ 1048576) : Calls Try.prog 13 #[.string (NB.ba l)] w (RPaP l w) := by
  have bA : Hid (Below w.heap.size w (w.alloc (.cells #[.int .i64 0, .bool false, .string ⟨#[]⟩, .slice none 0 0] 37))) := (Below.refl _ _).alloc (Nat.le_refl _) _
  have s1 : Hid (St (w.alloc (.cells #[.int .i64 0, .bool false, .string ⟨#[]⟩, .slice none 0 0] 37)) w.heap.size [.int .i64 0, .bool false, .string ⟨#[]⟩, .slice none 0 0]) := St.new w _ _
  have hq : (PS.new (!true)).run l = prs l := (prs_run l).symm
  go_enter Try.func13, Try.ntmps13
  go_upto_region 1 with fail
  obtain ⟨G, hG⟩ : ∃ G, w.heap.size = G := ⟨_, rfl⟩
  have HG : Hid (w.heap.size = G) := hG
  rw [hG] at bA s1 ⊢
  clear hG
  generalize w.alloc (.cells _ 37) = w1 at *
  have CR := rread_any l true w1 hl
  unfold RdP at CR
  rw [hq] at CR
  clear hq
  by_cases hc : (prs l).code = 0
  · by_cases hn : (prs l).c.next = 17
    · obtain ⟨a1, a2⟩ := fin_whole hc hn
      have HA : Hid ((prs l).ansT = (prs l).c.root ∧ (prs l).ansF = (0, 0) ∧ (prs l).c.next = 17) := ⟨a1, a2, hn⟩
      rw [hc, hn] at CR
      go_wp2_with fail
      refine CR.mono ?_
      rintro e2 w2 ⟨k, e, t, x, n, c, rfl, b2, hW, hN⟩
      clear CR
      unfold gotV
      simp only [decide_true]
      have f1 : Hid (St w2 G [.int .i64 0, .bool false, .string ⟨#[]⟩, .slice none 0 0]) := s1.out.bel b2
      have FB : Hid (Below G w w2) := bA.out.trans (b2.mono (by have := s1.out.lt; omega))
      have hG1 : Hid (G < w1.heap.size) := s1.out.lt
      have bE : Below w2.heap.size w2 (w2.alloc (.cells (gotC k e t (.slice x n c) true 0 ((prs l).fat) ((prs l).taken : Int) ((prs l).c.op.length : Int) ((prs l).held : Int)).toArray 86)) := (Below.refl _ _).alloc (Nat.le_refl _) _
      have eE : Hid (St (w2.alloc (.cells (gotC k e t (.slice x n c) true 0 ((prs l).fat) ((prs l).taken : Int) ((prs l).c.op.length : Int) ((prs l).held : Int)).toArray 86)) w2.heap.size (gotC k e t (.slice x n c) true 0 ((prs l).fat) ((prs l).taken : Int) ((prs l).c.op.length : Int) ((prs l).held : Int))) := St.new w2 _ _
      have gG : Hid (St (w2.alloc (.cells (gotC k e t (.slice x n c) true 0 ((prs l).fat) ((prs l).taken : Int) ((prs l).c.op.length : Int) ((prs l).held : Int)).toArray 86)) G [.int .i64 0, .bool false, .string ⟨#[]⟩, .slice none 0 0]) := f1.out.bel bE
      have BE : Hid (Below G w (w2.alloc (.cells (gotC k e t (.slice x n c) true 0 ((prs l).fat) ((prs l).taken : Int) ((prs l).c.op.length : Int) ((prs l).held : Int)).toArray 86)) ∧ Below w2.heap.size w2 (w2.alloc (.cells (gotC k e t (.slice x n c) true 0 ((prs l).fat) ((prs l).taken : Int) ((prs l).c.op.length : Int) ((prs l).held : Int)).toArray 86))) := ⟨FB.out.trans (bE.mono (by have := f1.out.lt; omega)), bE⟩
      have hGl : Hid (G < w2.heap.size) := f1.out.lt
      clear bE f1 FB s1 bA
      unfold gotC at eE
      unfold gotC at BE
      unfold gotC at gG
      go_upto_region 2 with fail
      obtain ⟨E, hE⟩ : ∃ E, w2.heap.size = E := ⟨_, rfl⟩
      have hEE : Hid (w2.heap.size = E) := hE
      rw [hE] at eE BE hGl ⊢
      clear hE
      generalize w2.alloc (.cells _ 86) = w3 at *
      have pe := eE.out
      have p1 := gG
      have hGE : G ≠ E := by have := hGl.out; omega
      have e0 := pe.get 0 _ rfl
      have e1 := pe.get 1 _ rfl
      have e2 := pe.get 2 _ rfl
      have e3 := pe.get 3 _ rfl
      have e4 := pe.get 4 _ rfl
      have e5 := pe.get 5 _ rfl
      have e6 := pe.get 6 _ rfl
      have e7 := pe.get 7 _ rfl
      have e8 := pe.get 8 _ rfl
      have e9 := pe.get 9 _ rfl
      have v0 := p1.out.fr 0 (by show 0 < 4; decide)
      have v1 := p1.out.fr 1 (by show 1 < 4; decide)
      have v2 := p1.out.fr 2 (by show 2 < 4; decide)
      have v3 := p1.out.fr 3 (by show 3 < 4; decide)
      have u0 := p1.out.get 0 _ rfl
      have u1 := p1.out.get 1 _ rfl
      have u2 := p1.out.get 2 _ rfl
      have u3 := p1.out.get 3 _ rfl
      go_wp2
      have hst0 : St (set4 w3 G 0 k e t (.slice x n c)) G [.int .i64 k, .bool e, .string t, (.slice x n c)] := ((((p1.out.set 0 (.int .i64 k) (by show 0 < 4; decide)).set 1 (.bool e) (by show 1 < 4; decide)).set 2 (.string t) (by show 2 < 4; decide)).set 3 ((.slice x n c)) (by show 3 < 4; decide)).cast rfl
      have hst : St (set4 w3 G 0 k e t (.slice x n c)) G [.int .i64 k, .bool e, .string t, (.slice x n c)] := hst0
      have hb0 : Below G w (set4 w3 G 0 k e t (.slice x n c)) := set4_below BE.out.1 (Nat.le_refl G) k e t (.slice x n c)
      have hbel : Below w.heap.size w (set4 w3 G 0 k e t (.slice x n c)) := by rw [HG.out]; exact hb0
      have hoth : ∀ b, b ≠ G → (set4 w3 G 0 k e t (.slice x n c)).heap[b]? = w3.heap[b]? := fun b hb => set4_other w3 G 0 k e t (.slice x n c) b hb
      change bodyPost Try.prog _ _ _ _ (set4 w3 G 0 k e t (.slice x n c))
      generalize (set4 w3 G 0 k e t (.slice x n c)) = wq at *
      refine ret_nii rfl rfl rfl rfl hst ?_
      obtain ⟨fr, r1, r2, r3, r4, r5⟩ := hW (by first | rfl | trivial)
      have hTF : TrV wq w.heap.size (prs l).c.root (.slice x n c) fr := TrV.low (by have := HG.out; have := hG1.out; omega) _ _ _ (TrV.same _ _ _ r4 (fun b hb => (hoth b (by have := (TrV.lt _ _ _ r4 b hb).1; have := hG1.out; omega)).trans (BE.out.2.block b (by have := (TrV.lt _ _ _ r4 b hb).2; have := hEE.out; omega))))
      refine ⟨x, n, c, fr, ?_, by rw [HA.out.1]; exact hTF, hbel⟩
      rw [HA.out.1, HA.out.2.1, r1, r2, r3]
    · have e0 : (prs l).fin = ((prs l).sf 4 (prs l).taken).shut := by unfold PS.fin; rw [if_pos ⟨hc, hn⟩]
      have hc4 : (prs l).fin.code ≠ 0 := by rw [e0]; show (4 : Int) ≠ 0; decide
      have HA : Hid ((prs l).ansT = .mk 0 false ⟨#[]⟩ [] [] ∧ (prs l).ansF = (4, ((prs l).taken : Int))) := ⟨by unfold PS.ansT; rw [if_pos hc4], by unfold PS.ansF; rw [if_pos hc4, e0]; rfl⟩
      clear e0 hc4
      rw [hc, decide_eq_false hn] at CR
      go_wp2_with fail
      refine CR.mono ?_
      rintro e2 w2 ⟨k, e, t, x, n, c, rfl, b2, hW, hN⟩
      clear CR
      unfold gotV
      obtain ⟨rfl, rfl, rfl, rfl, rfl, rfl⟩ := hN (by first | exact hn | trivial)
      clear hN hW
      have f1 : Hid (St w2 G [.int .i64 0, .bool false, .string ⟨#[]⟩, .slice none 0 0]) := s1.out.bel b2
      have FB : Hid (Below G w w2) := bA.out.trans (b2.mono (by have := s1.out.lt; omega))
      have hG1 : Hid (G < w1.heap.size) := s1.out.lt
      have bE : Below w2.heap.size w2 (w2.alloc (.cells (gotC 0 false ⟨#[]⟩ (.slice none 0 0) false 0 ((prs l).fat) ((prs l).taken : Int) ((prs l).c.op.length : Int) ((prs l).held : Int)).toArray 86)) := (Below.refl _ _).alloc (Nat.le_refl _) _
      have eE : Hid (St (w2.alloc (.cells (gotC 0 false ⟨#[]⟩ (.slice none 0 0) false 0 ((prs l).fat) ((prs l).taken : Int) ((prs l).c.op.length : Int) ((prs l).held : Int)).toArray 86)) w2.heap.size (gotC 0 false ⟨#[]⟩ (.slice none 0 0) false 0 ((prs l).fat) ((prs l).taken : Int) ((prs l).c.op.length : Int) ((prs l).held : Int))) := St.new w2 _ _
      have gG : Hid (St (w2.alloc (.cells (gotC 0 false ⟨#[]⟩ (.slice none 0 0) false 0 ((prs l).fat) ((prs l).taken : Int) ((prs l).c.op.length : Int) ((prs l).held : Int)).toArray 86)) G [.int .i64 0, .bool false, .string ⟨#[]⟩, .slice none 0 0]) := f1.out.bel bE
      have BE : Hid (Below G w (w2.alloc (.cells (gotC 0 false ⟨#[]⟩ (.slice none 0 0) false 0 ((prs l).fat) ((prs l).taken : Int) ((prs l).c.op.length : Int) ((prs l).held : Int)).toArray 86)) ∧ Below w2.heap.size w2 (w2.alloc (.cells (gotC 0 false ⟨#[]⟩ (.slice none 0 0) false 0 ((prs l).fat) ((prs l).taken : Int) ((prs l).c.op.length : Int) ((prs l).held : Int)).toArray 86))) := ⟨FB.out.trans (bE.mono (by have := f1.out.lt; omega)), bE⟩
      have hGl : Hid (G < w2.heap.size) := f1.out.lt
      clear bE f1 FB s1 bA
      unfold gotC at eE
      unfold gotC at BE
      unfold gotC at gG
      go_upto_region 2 with fail
      obtain ⟨E, hE⟩ : ∃ E, w2.heap.size = E := ⟨_, rfl⟩
      have hEE : Hid (w2.heap.size = E) := hE
      rw [hE] at eE BE hGl ⊢
      clear hE
      generalize w2.alloc (.cells _ 86) = w3 at *
      have pe := eE.out
      have p1 := gG
      have hGE : G ≠ E := by have := hGl.out; omega
      have e0 := pe.get 0 _ rfl
      have e1 := pe.get 1 _ rfl
      have e2 := pe.get 2 _ rfl
      have e3 := pe.get 3 _ rfl
      have e4 := pe.get 4 _ rfl
      have e5 := pe.get 5 _ rfl
      have e6 := pe.get 6 _ rfl
      have e7 := pe.get 7 _ rfl
      have e8 := pe.get 8 _ rfl
      have e9 := pe.get 9 _ rfl
      have v0 := p1.out.fr 0 (by show 0 < 4; decide)
      have v1 := p1.out.fr 1 (by show 1 < 4; decide)
      have v2 := p1.out.fr 2 (by show 2 < 4; decide)
      have v3 := p1.out.fr 3 (by show 3 < 4; decide)
      have u0 := p1.out.get 0 _ rfl
      have u1 := p1.out.get 1 _ rfl
      have u2 := p1.out.get 2 _ rfl
      have u3 := p1.out.get 3 _ rfl
      go_upto_region 3 with fail
      go_region
      go_wp2
      have hst0 : St (set4 w3 G 0 0 false ⟨#[]⟩ (.slice none 0 0)) G [.int .i64 0, .bool false, .string ⟨#[]⟩, (.slice none 0 0)] := ((((p1.out.set 0 (.int .i64 0) (by show 0 < 4; decide)).set 1 (.bool false) (by show 1 < 4; decide)).set 2 (.string ⟨#[]⟩) (by show 2 < 4; decide)).set 3 ((.slice none 0 0)) (by show 3 < 4; decide)).cast rfl
      have hst : St (set4 w3 G 0 0 false ⟨#[]⟩ (.slice none 0 0)).drew G [.int .i64 0, .bool false, .string ⟨#[]⟩, (.slice none 0 0)] := hst0.drew
      have hb0 : Below G w (set4 w3 G 0 0 false ⟨#[]⟩ (.slice none 0 0)).drew := belR_drewN (set4_below BE.out.1 (Nat.le_refl G) 0 false ⟨#[]⟩ (.slice none 0 0)) 1
      have hbel : Below w.heap.size w (set4 w3 G 0 0 false ⟨#[]⟩ (.slice none 0 0)).drew := by rw [HG.out]; exact hb0
      have hoth : ∀ b, b ≠ G → (set4 w3 G 0 0 false ⟨#[]⟩ (.slice none 0 0)).drew.heap[b]? = w3.heap[b]? := fun b hb => (drew_at _ b).trans (set4_other w3 G 0 0 false ⟨#[]⟩ (.slice none 0 0) b hb)
      change bodyPost Try.prog _ _ _ _ (set4 w3 G 0 0 false ⟨#[]⟩ (.slice none 0 0)).drew
      generalize (set4 w3 G 0 0 false ⟨#[]⟩ (.slice none 0 0)).drew = wq at *
      refine ret_nii rfl rfl rfl rfl hst ?_
      refine ⟨none, 0, 0, [], ?_, by rw [HA.out.1]; exact leafV _ _ _ _ _, hbel⟩
      rw [HA.out.1, HA.out.2]
      rfl
  · have e0 : (prs l).fin = (prs l).shut := by unfold PS.fin; rw [if_neg (fun h => hc h.1)]
    have hc4 : (prs l).fin.code ≠ 0 := by rw [e0]; exact hc
    have HA : Hid ((prs l).ansT = .mk 0 false ⟨#[]⟩ [] [] ∧ (prs l).ansF = ((prs l).code, (prs l).fat)) := ⟨by unfold PS.ansT; rw [if_pos hc4], by unfold PS.ansF; rw [if_pos hc4, e0]; rfl⟩
    clear e0 hc4
    go_wp2_with fail
    refine CR.mono ?_
    rintro e2 w2 ⟨k, e, t, x, n, c, rfl, b2, hW, hN⟩
    clear CR
    unfold gotV
    clear hN hW
    have f1 : Hid (St w2 G [.int .i64 0, .bool false, .string ⟨#[]⟩, .slice none 0 0]) := s1.out.bel b2
    have FB : Hid (Below G w w2) := bA.out.trans (b2.mono (by have := s1.out.lt; omega))
    have hG1 : Hid (G < w1.heap.size) := s1.out.lt
    have bE : Below w2.heap.size w2 (w2.alloc (.cells (gotC k e t (.slice x n c) (decide ((prs l).c.next = 17)) ((prs l).code) ((prs l).fat) ((prs l).taken : Int) ((prs l).c.op.length : Int) ((prs l).held : Int)).toArray 86)) := (Below.refl _ _).alloc (Nat.le_refl _) _
    have eE : Hid (St (w2.alloc (.cells (gotC k e t (.slice x n c) (decide ((prs l).c.next = 17)) ((prs l).code) ((prs l).fat) ((prs l).taken : Int) ((prs l).c.op.length : Int) ((prs l).held : Int)).toArray 86)) w2.heap.size (gotC k e t (.slice x n c) (decide ((prs l).c.next = 17)) ((prs l).code) ((prs l).fat) ((prs l).taken : Int) ((prs l).c.op.length : Int) ((prs l).held : Int))) := St.new w2 _ _
    have gG : Hid (St (w2.alloc (.cells (gotC k e t (.slice x n c) (decide ((prs l).c.next = 17)) ((prs l).code) ((prs l).fat) ((prs l).taken : Int) ((prs l).c.op.length : Int) ((prs l).held : Int)).toArray 86)) G [.int .i64 0, .bool false, .string ⟨#[]⟩, .slice none 0 0]) := f1.out.bel bE
    have BE : Hid (Below G w (w2.alloc (.cells (gotC k e t (.slice x n c) (decide ((prs l).c.next = 17)) ((prs l).code) ((prs l).fat) ((prs l).taken : Int) ((prs l).c.op.length : Int) ((prs l).held : Int)).toArray 86)) ∧ Below w2.heap.size w2 (w2.alloc (.cells (gotC k e t (.slice x n c) (decide ((prs l).c.next = 17)) ((prs l).code) ((prs l).fat) ((prs l).taken : Int) ((prs l).c.op.length : Int) ((prs l).held : Int)).toArray 86))) := ⟨FB.out.trans (bE.mono (by have := f1.out.lt; omega)), bE⟩
    have hGl : Hid (G < w2.heap.size) := f1.out.lt
    clear bE f1 FB s1 bA
    unfold gotC at eE
    unfold gotC at BE
    unfold gotC at gG
    go_upto_region 2 with fail
    obtain ⟨E, hE⟩ : ∃ E, w2.heap.size = E := ⟨_, rfl⟩
    have hEE : Hid (w2.heap.size = E) := hE
    rw [hE] at eE BE hGl ⊢
    clear hE
    generalize w2.alloc (.cells _ 86) = w3 at *
    have pe := eE.out
    have p1 := gG
    have hGE : G ≠ E := by have := hGl.out; omega
    have e0 := pe.get 0 _ rfl
    have e1 := pe.get 1 _ rfl
    have e2 := pe.get 2 _ rfl
    have e3 := pe.get 3 _ rfl
    have e4 := pe.get 4 _ rfl
    have e5 := pe.get 5 _ rfl
    have e6 := pe.get 6 _ rfl
    have e7 := pe.get 7 _ rfl
    have e8 := pe.get 8 _ rfl
    have e9 := pe.get 9 _ rfl
    have v0 := p1.out.fr 0 (by show 0 < 4; decide)
    have v1 := p1.out.fr 1 (by show 1 < 4; decide)
    have v2 := p1.out.fr 2 (by show 2 < 4; decide)
    have v3 := p1.out.fr 3 (by show 3 < 4; decide)
    have u0 := p1.out.get 0 _ rfl
    have u1 := p1.out.get 1 _ rfl
    have u2 := p1.out.get 2 _ rfl
    have u3 := p1.out.get 3 _ rfl
    have hcb : ((prs l).code == 0) = false := by simp [hc]
    have hcn : ((prs l).code != 0) = true := by simp [hc]
    go_upto_region 5 with fail
    go_region
    go_wp2
    have hst0 : St (set4 w3 G 0 0 false ⟨#[]⟩ (.slice none 0 0)) G [.int .i64 0, .bool false, .string ⟨#[]⟩, (.slice none 0 0)] := ((((p1.out.set 0 (.int .i64 0) (by show 0 < 4; decide)).set 1 (.bool false) (by show 1 < 4; decide)).set 2 (.string ⟨#[]⟩) (by show 2 < 4; decide)).set 3 ((.slice none 0 0)) (by show 3 < 4; decide)).cast rfl
    have hst : St (set4 w3 G 0 0 false ⟨#[]⟩ (.slice none 0 0)).drew G [.int .i64 0, .bool false, .string ⟨#[]⟩, (.slice none 0 0)] := hst0.drew
    have hb0 : Below G w (set4 w3 G 0 0 false ⟨#[]⟩ (.slice none 0 0)).drew := belR_drewN (set4_below BE.out.1 (Nat.le_refl G) 0 false ⟨#[]⟩ (.slice none 0 0)) 1
    have hbel : Below w.heap.size w (set4 w3 G 0 0 false ⟨#[]⟩ (.slice none 0 0)).drew := by rw [HG.out]; exact hb0
    have hoth : ∀ b, b ≠ G → (set4 w3 G 0 0 false ⟨#[]⟩ (.slice none 0 0)).drew.heap[b]? = w3.heap[b]? := fun b hb => (drew_at _ b).trans (set4_other w3 G 0 0 false ⟨#[]⟩ (.slice none 0 0) b hb)
    change bodyPost Try.prog _ _ _ _ (set4 w3 G 0 0 false ⟨#[]⟩ (.slice none 0 0)).drew
    generalize (set4 w3 G 0 0 false ⟨#[]⟩ (.slice none 0 0)).drew = wq at *
    refine ret_nii rfl rfl rfl rfl hst ?_
    refine ⟨none, 0, 0, [], ?_, by rw [HA.out.1]; exact leafV _ _ _ _ _, hbel⟩
    rw [HA.out.1, HA.out.2]
    rfl

end Go.Proofs.Ythlioedahoiahaa
namespace Go.Proofs.Ythlioedahoiahaa
open Go.RowKit

/-- The value that visit hands back at the root. -/
def SeenV (r : VR) (M : List RW) (B : Nat) (w : World) (x : Option Addr) (n c : Nat) (b code : Int) (p : ByteArray) : Prop := match r.off with
  | none => n = M.length ∧ b = r.bytes ∧ code = 0 ∧ Rws 64 w B (.slice x n c) M
  | some o => code = o.2 ∧ p = o.1
theorem VsR.seen {r : VR} {B : Nat} {M : List RW} {w w' : World} {e : Ending} (h : VsR r B M w e w') : ∃ x n c b code p, e = .returned (.agg #[.slice x n c, .int .i64 b, .int .i64 code, .string p]) ∧ SeenV r M B w' x n c b code p ∧ Fk B 64 w w' := by
  obtain ⟨h1, h2⟩ := h
  unfold SeenV
  cases hX : r.off with
  | none =>
    rw [hX] at h1
    obtain ⟨x, c, p, rfl, hr⟩ := h1
    exact ⟨x, _, c, _, _, p, rfl, ⟨rfl, rfl, rfl, hr⟩, h2⟩
  | some o =>
    rw [hX] at h1
    obtain ⟨x, n, c, b, rfl⟩ := h1
    exact ⟨x, n, c, b, _, _, rfl, ⟨rfl, rfl⟩, h2⟩
theorem SeenV.same {r : VR} {B : Nat} {M : List RW} {w w' : World} {x : Option Addr} {n c : Nat} {b code : Int} {p : ByteArray} (h : SeenV r M B w x n c b code p) (e : ∀ (k : Nat) (C : Array Value) (fz : Nat × Nat), w.heap[k]? = some (Obj.cells C 64 fz) → w'.heap[k]? = w.heap[k]?) : SeenV r M B w' x n c b code p := by
  unfold SeenV at h ⊢
  cases hX : r.off with
  | none =>
    rw [hX] at h
    obtain ⟨h1, h2, h3, h4⟩ := h
    refine ⟨h1, h2, h3, h4.same fun k hk => ?_⟩
    obtain ⟨c', fz', hh⟩ := Lib.ownsRow_kind h4 k hk
    exact e k _ _ hh
  | some o =>
    rw [hX] at h
    exact h

theorem keep4 {W : World} {K : Nat} {a b c d : Value} (o : Obj) (h : W.cell? ⟨K, 0, none⟩ = some a ∧ W.cell? ⟨K, 1, none⟩ = some b ∧ W.cell? ⟨K, 2, none⟩ = some c ∧ W.cell? ⟨K, 3, none⟩ = some d) : (W.alloc o).cell? ⟨K, 0, none⟩ = some a ∧ (W.alloc o).cell? ⟨K, 1, none⟩ = some b ∧ (W.alloc o).cell? ⟨K, 2, none⟩ = some c ∧ (W.alloc o).cell? ⟨K, 3, none⟩ = some d := by
  have e : (W.alloc o).heap[K]? = W.heap[K]? := Below.heap_alloc W o K (World.block_lt_of_cell? _ _ h.1)
  exact ⟨(World.cell?_of_block (w := W) (a := ⟨K, 0, none⟩) e).trans h.1, (World.cell?_of_block (w := W) (a := ⟨K, 1, none⟩) e).trans h.2.1, (World.cell?_of_block (w := W) (a := ⟨K, 2, none⟩) e).trans h.2.2.1, (World.cell?_of_block (w := W) (a := ⟨K, 3, none⟩) e).trans h.2.2.2⟩
/-- What Look leaves. -/
def LkR (T : Tr) (w : World) (e : Ending) (w' : World) : Prop := (if (ckT T).2 ≠ 0 then e = .returned (.agg #[.slice none 0 0, .int .i64 0, .int .i64 (ckT T).2, .string (ckT T).1]) else ∃ x c, e = .returned (.agg #[.slice x (rwT [] T).length c, .int .i64 (24 + tbT T), .int .i64 0, .string ⟨#[]⟩]) ∧ Rws 64 w' w.heap.size (.slice x (rwT [] T).length c) (rwT [] T)) ∧ Below w.heap.size w w'
theorem Rws.up {ty : TypeId} {w : World} {B B' : Nat} {v : Value} {L : List RW} (h : Rws ty w B v L) (hb : B' ≤ B) : Rws ty w B' v L := ⟨h.1, h.2.imp id fun ⟨g, cap, cur, a, b, r⟩ => ⟨g, cap, cur, a, Nat.le_trans hb b, r⟩⟩

theorem exit_look {W : World} {Z : Nat} {a0 a1 a2 a3 a b c d : Value} {tmps : Array Value} {R : Ending → World → Prop} (h : W.heap[Z]? = some (.cells #[a0, a1, a2, a3] 61 (0, 0))) (ht : tmps[2]?.getD undef = .pointer (some ⟨Z, 0, none⟩))
    (hR : R (.returned (.agg #[a, b, c, d])) ((((W.setCell ⟨Z, 0, none⟩ a).setCell ⟨Z, 1, none⟩ b).setCell ⟨Z, 2, none⟩ c).setCell ⟨Z, 3, none⟩ d)) :
    bodyPost Try.prog Try.f16 R .ret { tmps := tmps, defers := [] } ((((W.setCell ⟨Z, 0, none⟩ a).setCell ⟨Z, 1, none⟩ b).setCell ⟨Z, 2, none⟩ c).setCell ⟨Z, 3, none⟩ d) := by
  have q := four_set (a := a) (b := b) (c := c) (d := d) h
  generalize (((W.setCell ⟨Z, 0, none⟩ a).setCell ⟨Z, 1, none⟩ b).setCell ⟨Z, 2, none⟩ c).setCell ⟨Z, 3, none⟩ d = W4 at q hR ⊢
  have q0 : W4.cell? ⟨Z, 0, none⟩ = some a := by rw [Lib.cell_of_heap q]; rfl
  have q1 : W4.cell? ⟨Z, 1, none⟩ = some b := by rw [Lib.cell_of_heap q]; rfl
  have q2 : W4.cell? ⟨Z, 2, none⟩ = some c := by rw [Lib.cell_of_heap q]; rfl
  have q3 : W4.cell? ⟨Z, 3, none⟩ = some d := by rw [Lib.cell_of_heap q]; rfl
  exact bodyPost_ret (v := .agg #[a, b, c, d]) (by simp [results, Try.results16, go_sem, ht, q0, q1, q2, q3]) rfl hR

set_option maxHeartbeats 16000000 in
theorem look_any (VA : ∀ f, VsAt f) (f : Nat) (u : Value) (T : Tr) (w : World) (hA : At w f u T) (hsm : smT T) :
    Calls Try.prog 16 #[u] w fun e w' => LkR T w e w' := by
  obtain ⟨k, e, t, nms, ks⟩ := T
  cases f with
  | zero => exact hA.elim
  | succ f =>
  obtain ⟨x, n, c, rfl, hrest⟩ := hA
  have HA : Hid (At w (f + 1) (.agg #[.int .i64 k, .bool e, .string t, .slice x n c]) (.mk k e t nms ks)) := ⟨x, n, c, rfl, hrest⟩
  clear hrest
  generalize (Tr.mk k e t nms ks) = T at HA hsm ⊢
  have e1 : (w.alloc (.cells #[.int .i64 k, .bool e, .string t, .slice x n c] 37)).heap.size = w.heap.size + 1 := World.size_alloc _ _
  have b1 : Below w.heap.size w ((w.alloc (.cells #[.int .i64 k, .bool e, .string t, .slice x n c] 37)).alloc (.cells #[.slice none 0 0, .int .i64 0, .int .i64 0, .string ⟨#[]⟩] 61)) := ((Below.refl _ _).alloc (Nat.le_refl _) _).alloc (by rw [e1]; omega) _
  have HN1 : Hid (NB ((w.alloc (.cells #[.int .i64 k, .bool e, .string t, .slice x n c] 37)).alloc (.cells #[.slice none 0 0, .int .i64 0, .int .i64 0, .string ⟨#[]⟩] 61)) w.heap.size k e t x n c) := (Below.heap_alloc _ _ _ (by rw [e1]; omega)).trans (NB.new w k e t x n c)
  have HZ1 : Hid (((w.alloc (.cells #[.int .i64 k, .bool e, .string t, .slice x n c] 37)).alloc (.cells #[.slice none 0 0, .int .i64 0, .int .i64 0, .string ⟨#[]⟩] 61)).heap[w.heap.size + 1]? = some (.cells #[.slice none 0 0, .int .i64 0, .int .i64 0, .string ⟨#[]⟩] 61 (0, 0))) := by
    unfold Hid
    rw [← e1]
    exact Array.getElem?_push_size
  have HB1 : Hid (Below w.heap.size w ((w.alloc (.cells #[.int .i64 k, .bool e, .string t, .slice x n c] 37)).alloc (.cells #[.slice none 0 0, .int .i64 0, .int .i64 0, .string ⟨#[]⟩] 61))) := b1
  have HSM : Hid (smT T) := hsm
  clear b1 e1 hsm
  go_enter Try.func16, Try.ntmps16
  go_upto_region 1 with fail
  generalize (w.alloc (.cells #[.int .i64 k, .bool e, .string t, .slice x n c] 37)).alloc (.cells #[.slice none 0 0, .int .i64 0, .int .i64 0, .string ⟨#[]⟩] 61) = w1 at *
  obtain ⟨K, hK⟩ : ∃ K, K = w.heap.size := ⟨_, rfl⟩
  obtain ⟨Z, hZ⟩ : ∃ Z, Z = K + 1 := ⟨_, rfl⟩
  rw [← hK, ← hZ] at HZ1
  rw [← hK] at HN1
  rw [← hK, ← hZ]
  have HKZ : Hid (K = w.heap.size ∧ Z = w.heap.size + 1) := by unfold Hid; omega
  have hKZ : K ≠ Z := by omega
  clear hK hZ
  have VC : Hid (∀ W, Below w1.heap.size w1 W → Calls Try.prog 29 #[.agg #[.slice none 0 0, .int .i64 24, .int .i64 0, .string ⟨#[]⟩], .string ⟨#[]⟩, .agg #[.int .i64 k, .bool e, .string t, .slice x n c], .int .i64 1] W fun e w' => ∃ x n c b code p, e = .returned (.agg #[.slice x n c, .int .i64 b, .int .i64 code, .string p]) ∧ SeenV (vT [] 24 T) (rwT [] T) w1.heap.size w' x n c b code p ∧ Fk w1.heap.size 64 W w') := fun W hW =>
    (VA (f + 1) _ T [] 24 none 0 [] ⟨#[]⟩ w1.heap.size w W HA.out HSM.out (HB1.out.trans (hW.mono HB1.out.size)) HB1.out.size hW.size (World.ownsRow_nil _ _ _ _) (by decide) (by decide) (by intro s hs; cases hs) (by decide) (by decide)).mono fun e w' h => h.seen
  have y0 := HN1.out.c0
  have y1 := HN1.out.c1
  have y2 := HN1.out.c2
  have y3 := HN1.out.c3
  have hKl := heap_lt HN1.out
  have bA : Below w1.heap.size w1 w1.drew := (Below.refl _ _).drew
  have bB : Below w1.heap.size w1 (w1.alloc (.cells #[.slice none 0 0, .int .i64 0, .int .i64 0, .string ⟨#[]⟩] 61)).drew := ((Below.refl _ _).alloc (Nat.le_refl _) _).drew
  have tB : (w1.alloc (.cells #[.slice none 0 0, .int .i64 0, .int .i64 0, .string ⟨#[]⟩] 61)).drew.heap[w1.heap.size]? = some (.cells #[.slice none 0 0, .int .i64 0, .int .i64 0, .string ⟨#[]⟩] 61 (0, 0)) := Array.getElem?_push_size
  have hlB : w1.heap.size < (w1.alloc (.cells #[.slice none 0 0, .int .i64 0, .int .i64 0, .string ⟨#[]⟩] 61)).drew.heap.size := heap_lt tB
  go_cut [3] from 4 to 17 (fun v3 wx => ∃ G x n c b code p, v3 = .pointer (some ⟨G, 0, none⟩) ∧ Hid (wx.heap[G]? = some (.cells #[.slice x n c, .int .i64 b, .int .i64 code, .string p] 61 (0, 0))) ∧ Hid (SeenV (vT [] 24 T) (rwT [] T) w1.heap.size wx x n c b code p) ∧ Hid (Below w1.heap.size w1 wx) ∧ w1.heap.size ≤ G)
  case first =>
    refine wp_region_held_drew (S := (fun W : World => W.cell? ⟨K, 0, none⟩ = some (.int .i64 k) ∧ W.cell? ⟨K, 1, none⟩ = some (.bool e) ∧ W.cell? ⟨K, 2, none⟩ = some (.string t) ∧ W.cell? ⟨K, 3, none⟩ = some (.slice x n c))) (by kernel_rfl) ⟨y0, y1, y2, y3⟩ (fun _ => ?_)
    have N0 : (fun W : World => W.cell? ⟨K, 0, none⟩ = some (.int .i64 k) ∧ W.cell? ⟨K, 1, none⟩ = some (.bool e) ∧ W.cell? ⟨K, 2, none⟩ = some (.string t) ∧ W.cell? ⟨K, 3, none⟩ = some (.slice x n c)) w1.drew := ⟨y0, y1, y2, y3⟩
    generalize w1.drew = W1 at bA N0 ⊢
    clear bB tB hlB
    refine wpAnyH_take (i := 2) (oi := { dst := some 6, op := Op.load 37 (Operand.tmp 1), type := 37, pos := "ref.go:170", after := #[], guard := none }) (v := .agg #[.int .i64 k, .bool e, .string t, .slice x n c]) rfl (by kernel_rfl) (by kernel_rfl) (by kernel_rfl) (fun _ _ _ h => h) (Or.inl ⟨by rfl, by rintro w ⟨s0, s1, s2, s3⟩; go_simp⟩) N0 ?_
    try simp only [Act.put, List.setIfInBounds_toArray, List.set_cons_zero, List.set_cons_succ]
    refine wpAnyH_ready (rs := [0, 4]) (by kernel_rfl) (by decide) (AllReadyH.cons rfl (fun K1 hK1 => ?_) (AllReadyH.cons rfl (fun K1 hK1 => ?_) AllReadyH.nil))
    · rw [if_pos (by rfl)]
      go_simp
      refine (magic_any W1).mono ?_
      rintro e5 w5 ⟨rfl, b5⟩
      have B5 : Below w1.heap.size w1 w5 := bA.trans (b5.mono bA.size)
      have N5 : (fun W : World => W.cell? ⟨K, 0, none⟩ = some (.int .i64 k) ∧ W.cell? ⟨K, 1, none⟩ = some (.bool e) ∧ W.cell? ⟨K, 2, none⟩ = some (.string t) ∧ W.cell? ⟨K, 3, none⟩ = some (.slice x n c)) w5 := ⟨(B5.cell (p := ⟨K, 0, none⟩) hKl).trans y0, (B5.cell (p := ⟨K, 1, none⟩) hKl).trans y1, (B5.cell (p := ⟨K, 2, none⟩) hKl).trans y2, (B5.cell (p := ⟨K, 3, none⟩) hKl).trans y3⟩
      go_wp2_with fail
      refine hK1.out _ _ N5 (fun _ => ?_)
      clear hK1 K1
      try simp only [Act.put, List.setIfInBounds_toArray, List.set_cons_zero, List.set_cons_succ]
      refine wpAnyH_take (i := 1) (oi := { dst := some 5, op := Op.build 61 #[(1, Operand.tmp 4)], type := 61, pos := "ref.go:170", after := #[{ on := 0, ground := Ground.data }], guard := none }) (v := .agg #[.slice none 0 0, .int .i64 24, .int .i64 0, .string ⟨#[]⟩]) rfl (by kernel_rfl) (by kernel_rfl) (by kernel_rfl) (fun _ _ _ h => h) (Or.inl ⟨by rfl, by intro w _; go_simp⟩) N5 ?_
      try simp only [Act.put, List.setIfInBounds_toArray, List.set_cons_zero, List.set_cons_succ]
      refine wpAnyH_ready (rs := [3, 4]) (by kernel_rfl) (by decide) (AllReadyH.cons rfl (fun K1 hK1 => ?_) (AllReadyH.cons rfl (fun K1 hK1 => ?_) AllReadyH.nil))
      · rw [if_pos (by rfl)]
        go_simp
        refine (VC.out w5 B5).mono ?_
        rintro e6 w6 ⟨x6, n6, c6, b6, code6, p6, rfl, S6, F6⟩
        have B6 : Below w1.heap.size w1 w6 := B5.trans F6.below
        have N6 : (fun W : World => W.cell? ⟨K, 0, none⟩ = some (.int .i64 k) ∧ W.cell? ⟨K, 1, none⟩ = some (.bool e) ∧ W.cell? ⟨K, 2, none⟩ = some (.string t) ∧ W.cell? ⟨K, 3, none⟩ = some (.slice x n c)) w6 := ⟨(B6.cell (p := ⟨K, 0, none⟩) hKl).trans y0, (B6.cell (p := ⟨K, 1, none⟩) hKl).trans y1, (B6.cell (p := ⟨K, 2, none⟩) hKl).trans y2, (B6.cell (p := ⟨K, 3, none⟩) hKl).trans y3⟩
        go_wp2_with fail
        refine hK1.out _ _ N6 (fun _ => ?_)
        clear hK1 K1
        try simp only [Act.put, List.setIfInBounds_toArray, List.set_cons_zero, List.set_cons_succ]
        have B7 : Below w1.heap.size w1 (w6.alloc (.cells #[.slice x6 n6 c6, .int .i64 b6, .int .i64 code6, .string p6] 61)) := B6.alloc B6.size _
        have S7 : SeenV (vT [] 24 T) (rwT [] T) w1.heap.size (w6.alloc (.cells #[.slice x6 n6 c6, .int .i64 b6, .int .i64 code6, .string p6] 61)) x6 n6 c6 b6 code6 p6 := S6.same (fun j C fz hj => Below.heap_alloc _ _ j (heap_lt hj))
        have q6 : (w6.alloc (.cells #[.slice x6 n6 c6, .int .i64 b6, .int .i64 code6, .string p6] 61)).heap[w6.heap.size]? = some (.cells #[.slice x6 n6 c6, .int .i64 b6, .int .i64 code6, .string p6] 61 (0, 0)) := Array.getElem?_push_size
        have N7 : (fun W : World => W.cell? ⟨K, 0, none⟩ = some (.int .i64 k) ∧ W.cell? ⟨K, 1, none⟩ = some (.bool e) ∧ W.cell? ⟨K, 2, none⟩ = some (.string t) ∧ W.cell? ⟨K, 3, none⟩ = some (.slice x n c)) (w6.alloc (.cells #[.slice x6 n6 c6, .int .i64 b6, .int .i64 code6, .string p6] 61)) := ⟨(B7.cell (p := ⟨K, 0, none⟩) hKl).trans y0, (B7.cell (p := ⟨K, 1, none⟩) hKl).trans y1, (B7.cell (p := ⟨K, 2, none⟩) hKl).trans y2, (B7.cell (p := ⟨K, 3, none⟩) hKl).trans y3⟩
        have B8 : Below w1.heap.size w1 (w6.alloc (.cells #[.slice none 0 0, .int .i64 0, .int .i64 0, .string ⟨#[]⟩] 61)) := B6.alloc B6.size _
        have N8 : (fun W : World => W.cell? ⟨K, 0, none⟩ = some (.int .i64 k) ∧ W.cell? ⟨K, 1, none⟩ = some (.bool e) ∧ W.cell? ⟨K, 2, none⟩ = some (.string t) ∧ W.cell? ⟨K, 3, none⟩ = some (.slice x n c)) (w6.alloc (.cells #[.slice none 0 0, .int .i64 0, .int .i64 0, .string ⟨#[]⟩] 61)) := ⟨(B8.cell (p := ⟨K, 0, none⟩) hKl).trans y0, (B8.cell (p := ⟨K, 1, none⟩) hKl).trans y1, (B8.cell (p := ⟨K, 2, none⟩) hKl).trans y2, (B8.cell (p := ⟨K, 3, none⟩) hKl).trans y3⟩
        refine wpAnyH_ready (rs := [4]) (by kernel_rfl) (by decide) (AllReadyH.cons rfl (fun K1 hK1 => ?_) AllReadyH.nil)
        rw [if_pos (by rfl)]
        go_simp
        refine hK1.out _ _ N8 (fun _ => ?_)
        clear hK1 K1
        try simp only [Act.put, List.setIfInBounds_toArray, List.set_cons_zero, List.set_cons_succ]
        refine wpAnyH_ready (rs := [5]) (by kernel_rfl) (by decide) (AllReadyH.cons rfl (fun K1 hK1 => ?_) AllReadyH.nil)
        rw [if_pos (by rfl)]
        go_simp
        refine hK1.out _ _ N7 (fun _ => ?_)
        clear hK1 K1
        refine wpAnyH_done (by kernel_rfl) ?_ _
        (try go_wp2_with fail)
        go_meet
        exact ⟨w6.heap.size, x6, n6, c6, b6, code6, p6, rfl, q6, S7, B7, B6.size⟩
      · rw [if_pos (by rfl)]
        have B9 : Below w1.heap.size w1 (w5.alloc (.cells #[.slice none 0 0, .int .i64 0, .int .i64 0, .string ⟨#[]⟩] 61)) := B5.alloc B5.size _
        have N9 : (fun W : World => W.cell? ⟨K, 0, none⟩ = some (.int .i64 k) ∧ W.cell? ⟨K, 1, none⟩ = some (.bool e) ∧ W.cell? ⟨K, 2, none⟩ = some (.string t) ∧ W.cell? ⟨K, 3, none⟩ = some (.slice x n c)) (w5.alloc (.cells #[.slice none 0 0, .int .i64 0, .int .i64 0, .string ⟨#[]⟩] 61)) := ⟨(B9.cell (p := ⟨K, 0, none⟩) hKl).trans y0, (B9.cell (p := ⟨K, 1, none⟩) hKl).trans y1, (B9.cell (p := ⟨K, 2, none⟩) hKl).trans y2, (B9.cell (p := ⟨K, 3, none⟩) hKl).trans y3⟩
        go_simp
        refine hK1.out _ _ N9 (fun _ => ?_)
        clear hK1 K1
        try simp only [Act.put, List.setIfInBounds_toArray, List.set_cons_zero, List.set_cons_succ]
        refine wpAnyH_ready (rs := [3]) (by kernel_rfl) (by decide) (AllReadyH.cons rfl (fun K1 hK1 => ?_) AllReadyH.nil)
        rw [if_pos (by rfl)]
        go_simp
        refine (VC.out (w5.alloc (.cells #[.slice none 0 0, .int .i64 0, .int .i64 0, .string ⟨#[]⟩] 61)) B9).mono ?_
        rintro e6 w6 ⟨x6, n6, c6, b6, code6, p6, rfl, S6, F6⟩
        have B6 : Below w1.heap.size w1 w6 := B9.trans F6.below
        have N6 : (fun W : World => W.cell? ⟨K, 0, none⟩ = some (.int .i64 k) ∧ W.cell? ⟨K, 1, none⟩ = some (.bool e) ∧ W.cell? ⟨K, 2, none⟩ = some (.string t) ∧ W.cell? ⟨K, 3, none⟩ = some (.slice x n c)) w6 := ⟨(B6.cell (p := ⟨K, 0, none⟩) hKl).trans y0, (B6.cell (p := ⟨K, 1, none⟩) hKl).trans y1, (B6.cell (p := ⟨K, 2, none⟩) hKl).trans y2, (B6.cell (p := ⟨K, 3, none⟩) hKl).trans y3⟩
        go_wp2_with fail
        refine hK1.out _ _ N6 (fun _ => ?_)
        clear hK1 K1
        try simp only [Act.put, List.setIfInBounds_toArray, List.set_cons_zero, List.set_cons_succ]
        have t6 : w6.heap[w5.heap.size]? = some (.cells #[.slice none 0 0, .int .i64 0, .int .i64 0, .string ⟨#[]⟩] 61 (0, 0)) := (F6.mid w5.heap.size _ _ _ Array.getElem?_push_size (by decide)).trans Array.getElem?_push_size
        have u0 : w6.cell? ⟨w5.heap.size, 0, none⟩ = some (.slice none 0 0) := by rw [Lib.cell_of_heap t6]; rfl
        have v0 := Lib.frozen_of_heap t6 0
        have u1 : w6.cell? ⟨w5.heap.size, 1, none⟩ = some (.int .i64 0) := by rw [Lib.cell_of_heap t6]; rfl
        have v1 := Lib.frozen_of_heap t6 1
        have u2 : w6.cell? ⟨w5.heap.size, 2, none⟩ = some (.int .i64 0) := by rw [Lib.cell_of_heap t6]; rfl
        have v2 := Lib.frozen_of_heap t6 2
        have u3 : w6.cell? ⟨w5.heap.size, 3, none⟩ = some (.string ⟨#[]⟩) := by rw [Lib.cell_of_heap t6]; rfl
        have v3 := Lib.frozen_of_heap t6 3
        have q6 := four_set (a := .slice x6 n6 c6) (b := .int .i64 b6) (c := .int .i64 code6) (d := .string p6) t6
        have hs6 : ∀ j, j ≠ w5.heap.size → ((((w6.setCell ⟨w5.heap.size, 0, none⟩ (.slice x6 n6 c6)).setCell ⟨w5.heap.size, 1, none⟩ (.int .i64 b6)).setCell ⟨w5.heap.size, 2, none⟩ (.int .i64 code6)).setCell ⟨w5.heap.size, 3, none⟩ (.string p6)).heap[j]? = w6.heap[j]? := fun j hj => (Below.heap_setCell _ ⟨w5.heap.size, 3, none⟩ _ j hj).trans ((Below.heap_setCell _ ⟨w5.heap.size, 2, none⟩ _ j hj).trans ((Below.heap_setCell _ ⟨w5.heap.size, 1, none⟩ _ j hj).trans (Below.heap_setCell _ ⟨w5.heap.size, 0, none⟩ _ j hj)))
        have B7 : Below w1.heap.size w1 ((((w6.setCell ⟨w5.heap.size, 0, none⟩ (.slice x6 n6 c6)).setCell ⟨w5.heap.size, 1, none⟩ (.int .i64 b6)).setCell ⟨w5.heap.size, 2, none⟩ (.int .i64 code6)).setCell ⟨w5.heap.size, 3, none⟩ (.string p6)) := (((B6.setCell (p := ⟨w5.heap.size, 0, none⟩) B5.size _).setCell (p := ⟨w5.heap.size, 1, none⟩) B5.size _).setCell (p := ⟨w5.heap.size, 2, none⟩) B5.size _).setCell (p := ⟨w5.heap.size, 3, none⟩) B5.size _
        have S7 : SeenV (vT [] 24 T) (rwT [] T) w1.heap.size ((((w6.setCell ⟨w5.heap.size, 0, none⟩ (.slice x6 n6 c6)).setCell ⟨w5.heap.size, 1, none⟩ (.int .i64 b6)).setCell ⟨w5.heap.size, 2, none⟩ (.int .i64 code6)).setCell ⟨w5.heap.size, 3, none⟩ (.string p6)) x6 n6 c6 b6 code6 p6 := S6.same (fun j C fz hj => hs6 j (fun e9 => by subst e9; rw [t6] at hj; injection hj with hj; injection hj with _ hj; exact absurd hj (by decide)))
        have N7 : (fun W : World => W.cell? ⟨K, 0, none⟩ = some (.int .i64 k) ∧ W.cell? ⟨K, 1, none⟩ = some (.bool e) ∧ W.cell? ⟨K, 2, none⟩ = some (.string t) ∧ W.cell? ⟨K, 3, none⟩ = some (.slice x n c)) ((((w6.setCell ⟨w5.heap.size, 0, none⟩ (.slice x6 n6 c6)).setCell ⟨w5.heap.size, 1, none⟩ (.int .i64 b6)).setCell ⟨w5.heap.size, 2, none⟩ (.int .i64 code6)).setCell ⟨w5.heap.size, 3, none⟩ (.string p6)) := ⟨(B7.cell (p := ⟨K, 0, none⟩) hKl).trans y0, (B7.cell (p := ⟨K, 1, none⟩) hKl).trans y1, (B7.cell (p := ⟨K, 2, none⟩) hKl).trans y2, (B7.cell (p := ⟨K, 3, none⟩) hKl).trans y3⟩
        refine wpAnyH_ready (rs := [5]) (by kernel_rfl) (by decide) (AllReadyH.cons rfl (fun K1 hK1 => ?_) AllReadyH.nil)
        rw [if_pos (by rfl)]
        go_simp
        refine hK1.out _ _ N7 (fun _ => ?_)
        clear hK1 K1
        refine wpAnyH_done (by kernel_rfl) ?_ _
        (try go_wp2_with fail)
        go_meet
        exact ⟨w5.heap.size, x6, n6, c6, b6, code6, p6, rfl, q6, S7, B7, B5.size⟩
    · rw [if_pos (by rfl)]
      have B9 : Below w1.heap.size w1 (W1.alloc (.cells #[.slice none 0 0, .int .i64 0, .int .i64 0, .string ⟨#[]⟩] 61)) := bA.alloc bA.size _
      have N9 : (fun W : World => W.cell? ⟨K, 0, none⟩ = some (.int .i64 k) ∧ W.cell? ⟨K, 1, none⟩ = some (.bool e) ∧ W.cell? ⟨K, 2, none⟩ = some (.string t) ∧ W.cell? ⟨K, 3, none⟩ = some (.slice x n c)) (W1.alloc (.cells #[.slice none 0 0, .int .i64 0, .int .i64 0, .string ⟨#[]⟩] 61)) := ⟨(B9.cell (p := ⟨K, 0, none⟩) hKl).trans y0, (B9.cell (p := ⟨K, 1, none⟩) hKl).trans y1, (B9.cell (p := ⟨K, 2, none⟩) hKl).trans y2, (B9.cell (p := ⟨K, 3, none⟩) hKl).trans y3⟩
      have hlt9 : W1.heap.size < (W1.alloc (.cells #[.slice none 0 0, .int .i64 0, .int .i64 0, .string ⟨#[]⟩] 61)).heap.size := by rw [World.size_alloc]; omega
      have t9 : (W1.alloc (.cells #[.slice none 0 0, .int .i64 0, .int .i64 0, .string ⟨#[]⟩] 61)).heap[W1.heap.size]? = some (.cells #[.slice none 0 0, .int .i64 0, .int .i64 0, .string ⟨#[]⟩] 61 (0, 0)) := Array.getElem?_push_size
      go_simp
      refine hK1.out _ _ N9 (fun _ => ?_)
      clear hK1 K1
      try simp only [Act.put, List.setIfInBounds_toArray, List.set_cons_zero, List.set_cons_succ]
      refine wpAnyH_ready (rs := [0]) (by kernel_rfl) (by decide) (AllReadyH.cons rfl (fun K1 hK1 => ?_) AllReadyH.nil)
      rw [if_pos (by rfl)]
      go_simp
      refine (magic_any (W1.alloc (.cells #[.slice none 0 0, .int .i64 0, .int .i64 0, .string ⟨#[]⟩] 61))).mono ?_
      rintro e5 w5 ⟨rfl, b5⟩
      have B5 : Below w1.heap.size w1 w5 := B9.trans (b5.mono B9.size)
      have N5 : (fun W : World => W.cell? ⟨K, 0, none⟩ = some (.int .i64 k) ∧ W.cell? ⟨K, 1, none⟩ = some (.bool e) ∧ W.cell? ⟨K, 2, none⟩ = some (.string t) ∧ W.cell? ⟨K, 3, none⟩ = some (.slice x n c)) w5 := ⟨(B5.cell (p := ⟨K, 0, none⟩) hKl).trans y0, (B5.cell (p := ⟨K, 1, none⟩) hKl).trans y1, (B5.cell (p := ⟨K, 2, none⟩) hKl).trans y2, (B5.cell (p := ⟨K, 3, none⟩) hKl).trans y3⟩
      go_wp2_with fail
      refine hK1.out _ _ N5 (fun _ => ?_)
      clear hK1 K1
      try simp only [Act.put, List.setIfInBounds_toArray, List.set_cons_zero, List.set_cons_succ]
      have t5 := (b5.block W1.heap.size hlt9).trans t9
      refine wpAnyH_take (i := 1) (oi := { dst := some 5, op := Op.build 61 #[(1, Operand.tmp 4)], type := 61, pos := "ref.go:170", after := #[{ on := 0, ground := Ground.data }], guard := none }) (v := .agg #[.slice none 0 0, .int .i64 24, .int .i64 0, .string ⟨#[]⟩]) rfl (by kernel_rfl) (by kernel_rfl) (by kernel_rfl) (fun _ _ _ h => h) (Or.inl ⟨by rfl, by intro w _; go_simp⟩) N5 ?_
      try simp only [Act.put, List.setIfInBounds_toArray, List.set_cons_zero, List.set_cons_succ]
      refine wpAnyH_ready (rs := [3]) (by kernel_rfl) (by decide) (AllReadyH.cons rfl (fun K1 hK1 => ?_) AllReadyH.nil)
      rw [if_pos (by rfl)]
      go_simp
      refine (VC.out w5 B5).mono ?_
      rintro e6 w6 ⟨x6, n6, c6, b6, code6, p6, rfl, S6, F6⟩
      have B6 : Below w1.heap.size w1 w6 := B5.trans F6.below
      have N6 : (fun W : World => W.cell? ⟨K, 0, none⟩ = some (.int .i64 k) ∧ W.cell? ⟨K, 1, none⟩ = some (.bool e) ∧ W.cell? ⟨K, 2, none⟩ = some (.string t) ∧ W.cell? ⟨K, 3, none⟩ = some (.slice x n c)) w6 := ⟨(B6.cell (p := ⟨K, 0, none⟩) hKl).trans y0, (B6.cell (p := ⟨K, 1, none⟩) hKl).trans y1, (B6.cell (p := ⟨K, 2, none⟩) hKl).trans y2, (B6.cell (p := ⟨K, 3, none⟩) hKl).trans y3⟩
      go_wp2_with fail
      refine hK1.out _ _ N6 (fun _ => ?_)
      clear hK1 K1
      try simp only [Act.put, List.setIfInBounds_toArray, List.set_cons_zero, List.set_cons_succ]
      have t6 := (F6.mid W1.heap.size _ _ _ t5 (by decide)).trans t5
      have u0 : w6.cell? ⟨W1.heap.size, 0, none⟩ = some (.slice none 0 0) := by rw [Lib.cell_of_heap t6]; rfl
      have v0 := Lib.frozen_of_heap t6 0
      have u1 : w6.cell? ⟨W1.heap.size, 1, none⟩ = some (.int .i64 0) := by rw [Lib.cell_of_heap t6]; rfl
      have v1 := Lib.frozen_of_heap t6 1
      have u2 : w6.cell? ⟨W1.heap.size, 2, none⟩ = some (.int .i64 0) := by rw [Lib.cell_of_heap t6]; rfl
      have v2 := Lib.frozen_of_heap t6 2
      have u3 : w6.cell? ⟨W1.heap.size, 3, none⟩ = some (.string ⟨#[]⟩) := by rw [Lib.cell_of_heap t6]; rfl
      have v3 := Lib.frozen_of_heap t6 3
      have q6 := four_set (a := .slice x6 n6 c6) (b := .int .i64 b6) (c := .int .i64 code6) (d := .string p6) t6
      have hs6 : ∀ j, j ≠ W1.heap.size → ((((w6.setCell ⟨W1.heap.size, 0, none⟩ (.slice x6 n6 c6)).setCell ⟨W1.heap.size, 1, none⟩ (.int .i64 b6)).setCell ⟨W1.heap.size, 2, none⟩ (.int .i64 code6)).setCell ⟨W1.heap.size, 3, none⟩ (.string p6)).heap[j]? = w6.heap[j]? := fun j hj => (Below.heap_setCell _ ⟨W1.heap.size, 3, none⟩ _ j hj).trans ((Below.heap_setCell _ ⟨W1.heap.size, 2, none⟩ _ j hj).trans ((Below.heap_setCell _ ⟨W1.heap.size, 1, none⟩ _ j hj).trans (Below.heap_setCell _ ⟨W1.heap.size, 0, none⟩ _ j hj)))
      have B7 : Below w1.heap.size w1 ((((w6.setCell ⟨W1.heap.size, 0, none⟩ (.slice x6 n6 c6)).setCell ⟨W1.heap.size, 1, none⟩ (.int .i64 b6)).setCell ⟨W1.heap.size, 2, none⟩ (.int .i64 code6)).setCell ⟨W1.heap.size, 3, none⟩ (.string p6)) := (((B6.setCell (p := ⟨W1.heap.size, 0, none⟩) bA.size _).setCell (p := ⟨W1.heap.size, 1, none⟩) bA.size _).setCell (p := ⟨W1.heap.size, 2, none⟩) bA.size _).setCell (p := ⟨W1.heap.size, 3, none⟩) bA.size _
      have S7 : SeenV (vT [] 24 T) (rwT [] T) w1.heap.size ((((w6.setCell ⟨W1.heap.size, 0, none⟩ (.slice x6 n6 c6)).setCell ⟨W1.heap.size, 1, none⟩ (.int .i64 b6)).setCell ⟨W1.heap.size, 2, none⟩ (.int .i64 code6)).setCell ⟨W1.heap.size, 3, none⟩ (.string p6)) x6 n6 c6 b6 code6 p6 := S6.same (fun j C fz hj => hs6 j (fun e9 => by subst e9; rw [t6] at hj; injection hj with hj; injection hj with _ hj; exact absurd hj (by decide)))
      have N7 : (fun W : World => W.cell? ⟨K, 0, none⟩ = some (.int .i64 k) ∧ W.cell? ⟨K, 1, none⟩ = some (.bool e) ∧ W.cell? ⟨K, 2, none⟩ = some (.string t) ∧ W.cell? ⟨K, 3, none⟩ = some (.slice x n c)) ((((w6.setCell ⟨W1.heap.size, 0, none⟩ (.slice x6 n6 c6)).setCell ⟨W1.heap.size, 1, none⟩ (.int .i64 b6)).setCell ⟨W1.heap.size, 2, none⟩ (.int .i64 code6)).setCell ⟨W1.heap.size, 3, none⟩ (.string p6)) := ⟨(B7.cell (p := ⟨K, 0, none⟩) hKl).trans y0, (B7.cell (p := ⟨K, 1, none⟩) hKl).trans y1, (B7.cell (p := ⟨K, 2, none⟩) hKl).trans y2, (B7.cell (p := ⟨K, 3, none⟩) hKl).trans y3⟩
      refine wpAnyH_ready (rs := [5]) (by kernel_rfl) (by decide) (AllReadyH.cons rfl (fun K1 hK1 => ?_) AllReadyH.nil)
      rw [if_pos (by rfl)]
      go_simp
      refine hK1.out _ _ N7 (fun _ => ?_)
      clear hK1 K1
      refine wpAnyH_done (by kernel_rfl) ?_ _
      (try go_wp2_with fail)
      go_meet
      exact ⟨W1.heap.size, x6, n6, c6, b6, code6, p6, rfl, q6, S7, B7, bA.size⟩
  case rest =>
    obtain ⟨G, x2, n2, c2, b2, code2, p2, rfl, HG, HSV, HBw, hG⟩ := hcut
    have hGZ : G ≠ Z := fun e9 => by have := heap_lt HZ1.out; omega
    have hZG : Z ≠ G := fun e9 => hGZ e9.symm
    have HZw : Hid (wc.heap[Z]? = some (.cells #[.slice none 0 0, .int .i64 0, .int .i64 0, .string ⟨#[]⟩] 61 (0, 0))) := (HBw.out.block Z (heap_lt HZ1.out)).trans HZ1.out
    have HBx : Hid (Below w.heap.size w wc) := HB1.out.trans (HBw.out.mono HB1.out.size)
    have hzw : w.heap.size ≤ Z := by have := HKZ.out; omega
    have hzl := heap_lt HZ1.out
    clear bA bB tB hlB y0 y1 y2 y3 hKl VC HN1 HZ1 HB1 HBw
    have g0 : wc.cell? ⟨G, 0, none⟩ = some (.slice x2 n2 c2) := by rw [Lib.cell_of_heap HG.out]; rfl
    have g1 : wc.cell? ⟨G, 1, none⟩ = some (.int .i64 b2) := by rw [Lib.cell_of_heap HG.out]; rfl
    have g2 : wc.cell? ⟨G, 2, none⟩ = some (.int .i64 code2) := by rw [Lib.cell_of_heap HG.out]; rfl
    have g3 : wc.cell? ⟨G, 3, none⟩ = some (.string p2) := by rw [Lib.cell_of_heap HG.out]; rfl
    have gf3 := Lib.frozen_of_heap HG.out 3
    have z0 : wc.cell? ⟨Z, 0, none⟩ = some (.slice none 0 0) := by rw [Lib.cell_of_heap HZw.out]; rfl
    have z1 : wc.cell? ⟨Z, 1, none⟩ = some (.int .i64 0) := by rw [Lib.cell_of_heap HZw.out]; rfl
    have z2 : wc.cell? ⟨Z, 2, none⟩ = some (.int .i64 0) := by rw [Lib.cell_of_heap HZw.out]; rfl
    have z3 : wc.cell? ⟨Z, 3, none⟩ = some (.string ⟨#[]⟩) := by rw [Lib.cell_of_heap HZw.out]; rfl
    have zf0 := Lib.frozen_of_heap HZw.out 0
    have zf1 := Lib.frozen_of_heap HZw.out 1
    have zf2 := Lib.frozen_of_heap HZw.out 2
    have zf3 := Lib.frozen_of_heap HZw.out 3
    have BZ : ∀ (W : World) (a b c d : Value), Below w.heap.size w W → Below w.heap.size w ((((W.setCell ⟨Z, 0, none⟩ a).setCell ⟨Z, 1, none⟩ b).setCell ⟨Z, 2, none⟩ c).setCell ⟨Z, 3, none⟩ d) := fun W a b c d h => (((h.setCell (p := ⟨Z, 0, none⟩) hzw _).setCell (p := ⟨Z, 1, none⟩) hzw _).setCell (p := ⟨Z, 2, none⟩) hzw _).setCell (p := ⟨Z, 3, none⟩) hzw _
    cases hX : (vT [] 24 T).off with
    | some oo =>
      have hs := HSV.out
      unfold SeenV at hs
      rw [hX] at hs
      obtain ⟨op, oc⟩ := oo
      dsimp only at hs
      obtain ⟨rfl, rfl⟩ := hs
      have hoc : code2 ≠ 0 := vT_code [] 24 T _ hX
      have q1 : (code2 != 0) = true := by simpa using hoc
      have HCK : Hid (ckT T = (p2, code2)) := by unfold Hid ckT; rw [hX]
      have HBZ : Hid (Below w.heap.size w ((((wc.setCell ⟨Z, 0, none⟩ (.slice none 0 0)).setCell ⟨Z, 1, none⟩ (.int .i64 0)).setCell ⟨Z, 2, none⟩ (.int .i64 code2)).setCell ⟨Z, 3, none⟩ (.string p2))) := BZ wc _ _ _ _ HBx.out
      clear hX
      go_wp2
      refine exit_look HZw.out rfl ?_
      refine ⟨?_, HBZ.out⟩
      rw [HCK.out, if_pos hoc]
    | none =>
      have hs := HSV.out
      unfold SeenV at hs
      rw [hX] at hs
      obtain ⟨rfl, rfl, rfl, RR⟩ := hs
      have HCK : Hid ((ckT T).2 = 0) := by unfold Hid ckT; rw [hX]
      have HBY : Hid ((vT [] 24 T).bytes = 24 + tbT T) := vT_bytes [] 24 T hX
      have HRR : Hid (Rws 64 (wc.setCell ⟨G, 3, none⟩ (.string ⟨#[]⟩)) w1.heap.size (.slice x2 (rwT [] T).length c2) (rwT [] T)) := RR.over HG.out (by decide) 3 _
      have HG3 : Hid ((wc.setCell ⟨G, 3, none⟩ (.string ⟨#[]⟩)).heap[G]? = some (.cells #[.slice x2 (rwT [] T).length c2, .int .i64 (vT [] 24 T).bytes, .int .i64 0, .string ⟨#[]⟩] 61 (0, 0))) := by
        have := HG.out
        unfold Hid
        simp [World.setCell, Array.getElem?_modify, this]
      have HZ3 : Hid ((wc.setCell ⟨G, 3, none⟩ (.string ⟨#[]⟩)).heap[Z]? = some (.cells #[.slice none 0 0, .int .i64 0, .int .i64 0, .string ⟨#[]⟩] 61 (0, 0))) := (Below.heap_setCell _ _ _ Z hZG).trans HZw.out
      have HB3 : Hid (Below w.heap.size w (wc.setCell ⟨G, 3, none⟩ (.string ⟨#[]⟩))) := HBx.out.setCell (p := ⟨G, 3, none⟩) (by show _ ≤ G; omega) _
      clear hX RR HSV
      go_upto_region 5 with fail
      generalize wc.setCell ⟨G, 3, none⟩ (.string ⟨#[]⟩) = w3 at *
      clear g0 g1 g2 g3 gf3 z0 z1 z2 z3 zf0 zf1 zf2 zf3
      generalize (vT [] 24 T).bytes = BY at *
      have g0 : w3.cell? ⟨G, 0, none⟩ = some (.slice x2 (rwT [] T).length c2) := by rw [Lib.cell_of_heap HG3.out]; rfl
      have g1 : w3.cell? ⟨G, 1, none⟩ = some (.int .i64 BY) := by rw [Lib.cell_of_heap HG3.out]; rfl
      have g2 : w3.cell? ⟨G, 2, none⟩ = some (.int .i64 0) := by rw [Lib.cell_of_heap HG3.out]; rfl
      have g3 : w3.cell? ⟨G, 3, none⟩ = some (.string ⟨#[]⟩) := by rw [Lib.cell_of_heap HG3.out]; rfl
      have z0 : w3.cell? ⟨Z, 0, none⟩ = some (.slice none 0 0) := by rw [Lib.cell_of_heap HZ3.out]; rfl
      have z1 : w3.cell? ⟨Z, 1, none⟩ = some (.int .i64 0) := by rw [Lib.cell_of_heap HZ3.out]; rfl
      have z2 : w3.cell? ⟨Z, 2, none⟩ = some (.int .i64 0) := by rw [Lib.cell_of_heap HZ3.out]; rfl
      have z3 : w3.cell? ⟨Z, 3, none⟩ = some (.string ⟨#[]⟩) := by rw [Lib.cell_of_heap HZ3.out]; rfl
      have zf0 := Lib.frozen_of_heap HZ3.out 0
      have zf1 := Lib.frozen_of_heap HZ3.out 1
      have zf2 := Lib.frozen_of_heap HZ3.out 2
      have zf3 := Lib.frozen_of_heap HZ3.out 3
      have HBZ : Hid (Below w.heap.size w ((((w3.setCell ⟨Z, 0, none⟩ (.slice x2 (rwT [] T).length c2)).setCell ⟨Z, 1, none⟩ (.int .i64 BY)).setCell ⟨Z, 2, none⟩ (.int .i64 0)).setCell ⟨Z, 3, none⟩ (.string ⟨#[]⟩))) := BZ w3 _ _ _ _ HB3.out
      have HRZ : Hid (Rws 64 ((((w3.setCell ⟨Z, 0, none⟩ (.slice x2 (rwT [] T).length c2)).setCell ⟨Z, 1, none⟩ (.int .i64 BY)).setCell ⟨Z, 2, none⟩ (.int .i64 0)).setCell ⟨Z, 3, none⟩ (.string ⟨#[]⟩)) w.heap.size (.slice x2 (rwT [] T).length c2) (rwT [] T)) := by
        refine Rws.up (B := w1.heap.size) (HRR.out.same fun kk hk => ?_) (by omega)
        have hne : kk ≠ Z := fun e9 => by have := (World.ownsRow.lt HRR.out kk hk).1; omega
        exact (Below.heap_setCell _ ⟨Z, 3, none⟩ _ kk hne).trans ((Below.heap_setCell _ ⟨Z, 2, none⟩ _ kk hne).trans ((Below.heap_setCell _ ⟨Z, 1, none⟩ _ kk hne).trans (Below.heap_setCell _ ⟨Z, 0, none⟩ _ kk hne)))
      go_wp2
      refine exit_look HZ3.out rfl ?_
      refine ⟨?_, HBZ.out⟩
      rw [if_neg (by rw [HCK.out]; decide), ← HBY.out]
      exact ⟨x2, c2, rfl, HRZ.out⟩

end Go.Proofs.Ythlioedahoiahaa
namespace Go.Proofs.Ythlioedahoiahaa
open Go.RowKit

set_option maxHeartbeats 64000000 in
set_option maxRecDepth 10000 in
theorem visit_any (f : Nat) : VsAt f := by
  induction f with
  | zero => intro u T ns b xv cv L p0 B w0 w h; exact h.elim
  | succ f IH =>
    rintro u ⟨k, e, t, nms, ks⟩ ns b xv cv L p0 B w0 w ⟨x, n, c, rfl, l1, l2, l3, l4, hx⟩ hsm hB0 hw0 hBw hR hLb hnl hns hb0 hb1
    have EX : Hid (Ents w0 f x n nms ks) := At.ents hx
    have LL : Hid (nms.length = n ∧ ks.length = n) := ⟨l1, l2⟩
    have HSL : Hid (smL nms ks) := by unfold Hid; rw [smT] at hsm; exact hsm.2
    have htz : t.size ≤ 140737488351232 := by rw [smT] at hsm; omega
    have HNS : Hid (∀ s ∈ ns, s.size ≤ 1048576) := hns
    have HIH : Hid (VsAt f) := IH
    have HB0 : Hid (Below w0.heap.size w0 w) := hB0
    have hV : vT ns b (.mk k e t nms ks) = if 32 < 1 + ns.length then ⟨b, some (joinB ns, 61)⟩
      else if cfP k e t n ≠ 0 then ⟨b, some (joinB ns, cfP k e t n)⟩
      else if 1048576 < b + nbP k e t then ⟨b + nbP k e t, some (joinB ns, 2)⟩
      else vL ns (b + nbP k e t) none nms ks := by rw [vT, l1]
    have HM : Hid (rwT ns (.mk k e t nms ks) = (joinB ns, k, e, t) :: rwL ns nms ks) := by unfold Hid; rw [rwT]
    generalize vT ns b (.mk k e t nms ks) = R at hV ⊢
    generalize rwT ns (.mk k e t nms ks) = MM at HM ⊢
    have hjs := joinB_size ns hns
    have HJ : Hid (∀ s, joinB (ns ++ [s]) = if ns.length = 0 then s else joinB ns ++ ⟨#[47]⟩ ++ s) := fun s => by
      by_cases h0 : ns.length = 0
      · rw [if_pos h0, List.eq_nil_of_length_eq_zero h0]; rfl
      · rw [if_neg h0]; exact joinB_snoc ns s (fun e => h0 (by rw [e]; rfl))
    have hJN : Hid (∃ JN, JN = joinB ns) := ⟨_, rfl⟩
    obtain ⟨JN, hJN⟩ := hJN.out
    rw [← hJN] at hV HM hjs HJ ⊢
    have HJN : Hid (JN = joinB ns) := hJN
    have e1 : (w.alloc (.cells #[.slice xv L.length cv, .int .i64 b, .int .i64 0, .string p0] 61)).heap.size = w.heap.size + 1 := World.size_alloc _ _
    have e2 : ((w.alloc (.cells #[.slice xv L.length cv, .int .i64 b, .int .i64 0, .string p0] 61)).alloc (.cells #[.int .i64 k, .bool e, .string t, .slice x n c] 37)).heap.size = w.heap.size + 1 + 1 := by rw [World.size_alloc, e1]
    have b0 : Below w.heap.size w (((w.alloc (.cells #[.slice xv L.length cv, .int .i64 b, .int .i64 0, .string p0] 61)).alloc (.cells #[.int .i64 k, .bool e, .string t, .slice x n c] 37)).alloc (.cells #[.slice none 0 0, .int .i64 0, .int .i64 0, .string ⟨#[]⟩] 61)) := (((Below.refl _ _).alloc (Nat.le_refl _) _).alloc (by rw [e1]; omega) _).alloc (by rw [e2]; omega) _
    have V0 : VS (((w.alloc (.cells #[.slice xv L.length cv, .int .i64 b, .int .i64 0, .string p0] 61)).alloc (.cells #[.int .i64 k, .bool e, .string t, .slice x n c] 37)).alloc (.cells #[.slice none 0 0, .int .i64 0, .int .i64 0, .string ⟨#[]⟩] 61)) w.heap.size (w.heap.size + 1) (w.heap.size + 1 + 1) (.slice xv L.length cv) b 0 p0 k e t x n c := by
      refine ⟨(Below.heap_alloc _ _ _ (by rw [e2]; omega)).trans ((Below.heap_alloc _ _ _ (by rw [e1]; omega)).trans Array.getElem?_push_size), (Below.heap_alloc _ _ _ (by rw [e2]; omega)).trans ?_, ?_⟩
      · have h := NB.new (w.alloc (.cells #[.slice xv L.length cv, .int .i64 b, .int .i64 0, .string p0] 61)) k e t x n c
        rw [e1] at h
        exact h
      · rw [← e2]
        exact Array.getElem?_push_size
    have HF1 : Hid (Fk B 64 w (((w.alloc (.cells #[.slice xv L.length cv, .int .i64 b, .int .i64 0, .string p0] 61)).alloc (.cells #[.int .i64 k, .bool e, .string t, .slice x n c] 37)).alloc (.cells #[.slice none 0 0, .int .i64 0, .int .i64 0, .string ⟨#[]⟩] 61))) := Fk.of_below b0 hBw
    have HR1 : Hid (Rws 64 (((w.alloc (.cells #[.slice xv L.length cv, .int .i64 b, .int .i64 0, .string p0] 61)).alloc (.cells #[.int .i64 k, .bool e, .string t, .slice x n c] 37)).alloc (.cells #[.slice none 0 0, .int .i64 0, .int .i64 0, .string ⟨#[]⟩] 61)) B (.slice xv L.length cv) L) := hR.below b0
    have HV1 : Hid (VS (((w.alloc (.cells #[.slice xv L.length cv, .int .i64 b, .int .i64 0, .string p0] 61)).alloc (.cells #[.int .i64 k, .bool e, .string t, .slice x n c] 37)).alloc (.cells #[.slice none 0 0, .int .i64 0, .int .i64 0, .string ⟨#[]⟩] 61)) w.heap.size (w.heap.size + 1) (w.heap.size + 1 + 1) (.slice xv L.length cv) b 0 p0 k e t x n c) := V0
    clear e1 e2 b0 V0 hx hsm IH hns hB0 l1 l2 hR hJN
    go_enter Try.func29, Try.ntmps29
    go_upto_region 1 with fail
    generalize (((w.alloc (.cells #[.slice xv L.length cv, .int .i64 b, .int .i64 0, .string p0] 61)).alloc (.cells #[.int .i64 k, .bool e, .string t, .slice x n c] 37)).alloc (.cells #[.slice none 0 0, .int .i64 0, .int .i64 0, .string ⟨#[]⟩] 61)) = w1 at HF1 HR1 HV1 ⊢
    obtain ⟨P, hP⟩ : ∃ P, P = w.heap.size := ⟨_, rfl⟩
    obtain ⟨N, hN⟩ : ∃ P', P' = P + 1 := ⟨_, rfl⟩
    obtain ⟨Z, hZ⟩ : ∃ P', P' = N + 1 := ⟨_, rfl⟩
    rw [← hP, ← hN, ← hZ] at HV1
    rw [← hP, ← hN, ← hZ]
    have HP : Hid (P = w.heap.size) := hP
    have hNP : N ≠ P := by omega
    have hPN : P ≠ N := by omega
    have hZP : Z ≠ P := by omega
    have hPZ : P ≠ Z := by omega
    have hZN : Z ≠ N := by omega
    have hNZ : N ≠ Z := by omega
    have hgP : Hid (w.heap.size ≤ P ∧ w.heap.size ≤ N ∧ w.heap.size ≤ Z) := by unfold Hid; omega
    clear hP hN hZ
    have y3 := HV1.out.p3
    have y3f := HV1.out.pf 3
    have HV2 : Hid (VS (w1.setCell ⟨P, 3, none⟩ (.string JN)) P N Z (.slice xv L.length cv) b 0 JN k e t x n c) := HV1.out.set3 hNP hZP JN
    have HR2 : Hid (Rws 64 (w1.setCell ⟨P, 3, none⟩ (.string JN)) B (.slice xv L.length cv) L) := HR1.out.over HV1.out.hp (by decide) 3 _
    have HF2 : Hid (Fk B 64 w (w1.setCell ⟨P, 3, none⟩ (.string JN))) := HF1.out.over hBw P 3 _ hgP.out.1
    clear HV1 HR1 HF1
    go_upto_region 2 with fail
    generalize w1.setCell ⟨P, 3, none⟩ (.string JN) = w2 at HV2 HR2 HF2 ⊢
    clear y3 y3f
    -- an exit: the code is stored, what was seen is handed back
    have EXIT : Hid (∀ (W : World) (x' : Option Addr) (n' c' : Nat) (b' code' code : Int) (p : ByteArray), R.off = some (p, code) → VS W P N Z (.slice x' n' c') b' code p k e t x n c → Fk B 64 w W →
        VsR R B (L ++ MM) w (.returned (.agg #[.slice x' n' c', .int .i64 b', .int .i64 code, .string p])) ((((W.setCell ⟨Z, 0, none⟩ (.slice x' n' c')).setCell ⟨Z, 1, none⟩ (.int .i64 b')).setCell ⟨Z, 2, none⟩ (.int .i64 code)).setCell ⟨Z, 3, none⟩ (.string p))) := fun W x' n' c' b' code' code p h1 h2 h3 =>
      VsR.bad h1 ((((h3.over hBw Z 0 _ hgP.out.2.2).over hBw Z 1 _ hgP.out.2.2).over hBw Z 2 _ hgP.out.2.2).over hBw Z 3 _ hgP.out.2.2)
    -- @1
    by_cases hd : 32 < 1 + ns.length
    · rw [if_pos hd] at hV
      have hdI : (32 : Int) < (ns.length : Int) + 1 := by omega
      have HO : Hid (R.off = some (JN, 61)) := by unfold Hid; rw [hV]
      clear hV
      have a0 := HV2.out.p0
      have a1 := HV2.out.p1
      have a2 := HV2.out.p2
      have a3 := HV2.out.p3
      have af := HV2.out.pf 2
      have HV9 : Hid (VS (w2.setCell ⟨P, 2, none⟩ (.int .i64 61)) P N Z (.slice xv L.length cv) b 61 JN k e t x n c) := HV2.out.set2 hNP hZP 61
      have HF9 : Hid (Fk B 64 w (w2.setCell ⟨P, 2, none⟩ (.int .i64 61))) := HF2.out.over hBw P 2 _ hgP.out.1
      go_upto_region 4 with fail
      generalize w2.setCell ⟨P, 2, none⟩ (.int .i64 61) = w3 at HV9 HF9 ⊢
      clear a0 a1 a2 a3 af
      have a0 := HV9.out.p0
      have a1 := HV9.out.p1
      have a2 := HV9.out.p2
      have a3 := HV9.out.p3
      have z0 := HV9.out.z0
      have z1 := HV9.out.z1
      have z2 := HV9.out.z2
      have z3 := HV9.out.z3
      have zf0 := HV9.out.zf 0
      have zf1 := HV9.out.zf 1
      have zf2 := HV9.out.zf 2
      have zf3 := HV9.out.zf 3
      go_wp2
      refine exit_seen HV9.out.hz rfl ?_
      exact EXIT.out w3 _ _ _ _ 0 _ _ HO.out HV9.out HF9.out
    rw [if_neg hd] at hV
    have hdI : ¬ (32 : Int) < (ns.length : Int) + 1 := by omega
    have OC := own_any k e t x n c w2 htz
    unfold ndV at OC
    have n0 := HV2.out.hn.c0
    have n1 := HV2.out.hn.c1
    have n2 := HV2.out.hn.c2
    have n3 := HV2.out.hn.c3
    go_wp2_with fail
    refine OC.mono ?_
    rintro e5 w3 ⟨rfl, b3⟩
    have HV3 : Hid (VS w3 P N Z (.slice xv L.length cv) b 0 JN k e t x n c) := HV2.out.below b3
    have HR3 : Hid (Rws 64 w3 B (.slice xv L.length cv) L) := HR2.out.below b3
    have HF3 : Hid (Fk B 64 w w3) := HF2.out.trans (Fk.of_below b3 (Nat.le_trans hBw HF2.out.size))
    clear OC b3 HV2 HR2 HF2 n0 n1 n2 n3
    by_cases hc : cfP k e t n ≠ 0
    · rw [if_pos hc] at hV
      have HO : Hid (R.off = some (JN, cfP k e t n)) := by unfold Hid; rw [hV]
      clear hV
      generalize cfP k e t n = CFV at *
      have q1 : (CFV != 0) = true := by simpa using hc
      have a0 := HV3.out.p0
      have a1 := HV3.out.p1
      have a2 := HV3.out.p2
      have a3 := HV3.out.p3
      have af := HV3.out.pf 2
      have HV9 : Hid (VS (w3.setCell ⟨P, 2, none⟩ (.int .i64 CFV)) P N Z (.slice xv L.length cv) b CFV JN k e t x n c) := HV3.out.set2 hNP hZP CFV
      have HF9 : Hid (Fk B 64 w (w3.setCell ⟨P, 2, none⟩ (.int .i64 CFV))) := HF3.out.over hBw P 2 _ hgP.out.1
      go_upto_region 8 with fail
      generalize w3.setCell ⟨P, 2, none⟩ (.int .i64 CFV) = w4 at HV9 HF9 ⊢
      clear a0 a1 a2 a3 af
      have a0 := HV9.out.p0
      have a1 := HV9.out.p1
      have a2 := HV9.out.p2
      have a3 := HV9.out.p3
      have z0 := HV9.out.z0
      have z1 := HV9.out.z1
      have z2 := HV9.out.z2
      have z3 := HV9.out.z3
      have zf0 := HV9.out.zf 0
      have zf1 := HV9.out.zf 1
      have zf2 := HV9.out.zf 2
      have zf3 := HV9.out.zf 3
      go_wp2
      refine exit_seen HV9.out.hz rfl ?_
      exact EXIT.out w4 _ _ _ _ 0 _ _ HO.out HV9.out HF9.out
    rw [if_neg hc] at hV
    have hc0 : cfP k e t n = 0 := by omega
    have how : ownB k e t n = nbP k e t := by unfold ownB; rw [if_pos hc0]
    rw [hc0, how]
    clear hc hc0 how
    have hnb := nbP_bd k e t
    have hnp := nbP_pos k e t
    generalize nbP k e t = NBV at *
    have a1 := HV3.out.p1
    have af := HV3.out.pf 1
    have HV4 : Hid (VS (w3.setCell ⟨P, 1, none⟩ (.int .i64 (b + NBV))) P N Z (.slice xv L.length cv) (b + NBV) 0 JN k e t x n c) := HV3.out.set1 hNP hZP (b + NBV)
    have HR4 : Hid (Rws 64 (w3.setCell ⟨P, 1, none⟩ (.int .i64 (b + NBV))) B (.slice xv L.length cv) L) := HR3.out.over HV3.out.hp (by decide) 1 _
    have HF4 : Hid (Fk B 64 w (w3.setCell ⟨P, 1, none⟩ (.int .i64 (b + NBV)))) := HF3.out.over hBw P 1 _ hgP.out.1
    clear HV3 HR3 HF3
    go_upto_region 10 with fail
    generalize w3.setCell ⟨P, 1, none⟩ (.int .i64 (b + NBV)) = w4 at HV4 HR4 HF4 ⊢
    clear a1 af
    have hLn : ((L.length : Int) + 1) ≤ b + NBV := by omega
    have hb4 : 0 ≤ b + NBV := by omega
    obtain ⟨b4, hb4e⟩ : ∃ b4, b4 = b + NBV := ⟨_, rfl⟩
    rw [← hb4e] at HV4 hV hLn hb4
    clear hb4e
    by_cases hq : 1048576 < b4
    · rw [if_pos hq] at hV
      have HO : Hid (R.off = some (JN, 2)) := by unfold Hid; rw [hV]
      clear hV
      have a0 := HV4.out.p0
      have a1 := HV4.out.p1
      have a2 := HV4.out.p2
      have a3 := HV4.out.p3
      have af := HV4.out.pf 2
      have HV9 : Hid (VS (w4.setCell ⟨P, 2, none⟩ (.int .i64 2)) P N Z (.slice xv L.length cv) b4 2 JN k e t x n c) := HV4.out.set2 hNP hZP 2
      have HF9 : Hid (Fk B 64 w (w4.setCell ⟨P, 2, none⟩ (.int .i64 2))) := HF4.out.over hBw P 2 _ hgP.out.1
      go_upto_region 12 with fail
      generalize w4.setCell ⟨P, 2, none⟩ (.int .i64 2) = w5 at HV9 HF9 ⊢
      clear a0 a1 a2 a3 af
      have a0 := HV9.out.p0
      have a1 := HV9.out.p1
      have a2 := HV9.out.p2
      have a3 := HV9.out.p3
      have z0 := HV9.out.z0
      have z1 := HV9.out.z1
      have z2 := HV9.out.z2
      have z3 := HV9.out.z3
      have zf0 := HV9.out.zf 0
      have zf1 := HV9.out.zf 1
      have zf2 := HV9.out.zf 2
      have zf3 := HV9.out.zf 3
      go_wp2
      refine exit_seen HV9.out.hz rfl ?_
      exact EXIT.out w5 _ _ _ _ 0 _ _ HO.out HV9.out HF9.out
    rw [if_neg hq] at hV
    have hq4 : b4 ≤ 1048576 := by omega
    -- @2
    obtain ⟨p5, c5, w5, hr5, T5, F5⟩ := HR4.out.app infoRROW undLRROW (JN, k, e, t) (Nat.le_trans hBw HF4.out.size) (by omega)
    dsimp only at hr5
    have HV5 : Hid (VS w5 P N Z (.slice xv L.length cv) b4 0 JN k e t x n c) := HV4.out.fk F5
    have HV6 : Hid (VS (w5.setCell ⟨P, 0, none⟩ (.slice p5 (L.length + 1) c5)) P N Z (.slice p5 (L.length + 1) c5) b4 0 JN k e t x n c) := HV5.out.set0 hNP hZP _
    have HR6 : Hid (Rws 64 (w5.setCell ⟨P, 0, none⟩ (.slice p5 (L.length + 1) c5)) B (.slice p5 (L.length + 1) c5) (L ++ [(JN, k, e, t)])) := T5.over HV5.out.hp (by decide) 0 _
    have HF6 : Hid (Fk B 64 w (w5.setCell ⟨P, 0, none⟩ (.slice p5 (L.length + 1) c5))) := (HF4.out.trans F5).over hBw P 0 _ hgP.out.1
    have a0 := HV4.out.p0
    have a1 := HV4.out.p1
    have n0 := HV4.out.hn.c0
    have n1 := HV4.out.hn.c1
    have n2 := HV4.out.hn.c2
    have n3 := HV4.out.hn.c3
    have d0 := HV5.out.p0
    have df := HV5.out.pf 0
    have hqI : ¬ (1048576 : Int) < b4 := hq
    clear T5 F5
    go_upto_region 13 with fail
    go_wp2_with (first | (refine wpList_app_is (by rfl) 59 59 (.tmp 40) (.tmp 49) (by rfl) _ _ _ _ (by rfl) (by rfl) hr5 ?_))
    clear hr5 a0 a1 n0 n1 n2 n3 d0 df HV4 HV5 HR4 HF4
    generalize w5.setCell ⟨P, 0, none⟩ (.slice p5 (L.length + 1) c5) = w6 at HV6 HR6 HF6 ⊢
    have HVL : Hid (R = vL ns b4 none nms ks) := hV
    have HMM : Hid (MM = (JN, k, e, t) :: rwL ns nms ks) := HM.out
    clear hV
    go_loopw [11, 12] (fun ix _ wr => ∃ (i : Nat) (bi : Int) (x' : Option Addr) (c' : Nat) (M : List RW) (p' : ByteArray) (prev : Option ByteArray), i ≤ n ∧ ix = .int .i64 i ∧ 0 ≤ bi ∧ bi ≤ 1048576 ∧ ((M.length : Int) ≤ bi) ∧ Hid (M = L ++ (JN, k, e, t) :: rwL ns (nms.take i) (ks.take i)) ∧ Hid (VS wr P N Z (.slice x' M.length c') bi 0 p' k e t x n c) ∧ Hid (Rws 64 wr B (.slice x' M.length c') M) ∧ Hid (Fk B 64 w wr) ∧ Hid (R = vL ns bi prev (nms.drop i) (ks.drop i)) ∧ Hid ((i = 0 ∧ prev = none) ∨ ∃ s', 0 < i ∧ prev = some s' ∧ nms[i - 1]? = some s')) (fun i _ _ => n - (intOf i).toNat)
    case atStart => exact ⟨0, b4, p5, c5, L ++ [(JN, k, e, t)], JN, none, Nat.zero_le _, rfl, hb4, hq4, by rw [List.length_append]; simp; omega, by unfold Hid; simp [rwL], by rw [List.length_append]; exact HV6, by rw [List.length_append]; exact HR6, HF6, HVL, Or.inl ⟨rfl, rfl⟩⟩
    case round =>
      obtain ⟨i, bi, x', c', M, p', prev, hi, rfl, hbi0, hbi1, hMl, hM, hVS, hRS, hFK, hV, hPV⟩ := hrel
      clear HV6 HR6 HF6 HVL
      by_cases hlt : i < n
      · obtain ⟨l1, l2⟩ := LL.out
        obtain ⟨s, hs⟩ : ∃ s, nms[i]? = some s := ⟨_, List.getElem?_eq_getElem (by omega)⟩
        obtain ⟨S, hS⟩ : ∃ s, ks[i]? = some s := ⟨_, List.getElem?_eq_getElem (by omega)⟩
        have hBr : Hid (Below w0.heap.size w0 wr) := HB0.out.trans (hFK.out.below.mono hw0)
        obtain ⟨q, o, a, b', d, fx, pp, q', rfl, hgq, d0, d1, d2, d3, d4, hA⟩ := EX.out i s S hlt hs hS
        have c0 : wr.cell? ⟨q, o + i * 5, none⟩ = some (.string s) := (hBr.out.cell (p := ⟨q, o + i * 5, none⟩) hgq).trans d0
        have c1 : wr.cell? ⟨q, o + i * 5 + 1, none⟩ = some (.int .i64 a) := (hBr.out.cell (p := ⟨q, o + i * 5 + 1, none⟩) hgq).trans d1
        have c2 : wr.cell? ⟨q, o + i * 5 + 2, none⟩ = some (.bool b') := (hBr.out.cell (p := ⟨q, o + i * 5 + 2, none⟩) hgq).trans d2
        have c3 : wr.cell? ⟨q, o + i * 5 + 3, none⟩ = some (.string d) := (hBr.out.cell (p := ⟨q, o + i * 5 + 3, none⟩) hgq).trans d3
        have c4 : wr.cell? ⟨q, o + i * 5 + 4, none⟩ = some (.slice fx pp q') := (hBr.out.cell (p := ⟨q, o + i * 5 + 4, none⟩) hgq).trans d4
        have HA : Hid (At w0 f (.agg #[.int .i64 a, .bool b', .string d, .slice fx pp q']) S) := hA
        obtain ⟨hsz, hST⟩ := smL_at nms ks i s S HSL.out hs hS
        have HST : Hid (smT S) := hST
        have VV := vL_at ns bi prev nms ks i s S hs hS
        rw [← hV.out] at VV
        obtain ⟨s', hP1, hP2⟩ : ∃ s', entO prev s bi = entC (i + 1) s' s bi ∧ Hid (1 < i + 1 → w0.cell? ⟨q, o + (i - 1) * 5, none⟩ = some (.string s') ∧ s'.size ≤ 1048576) := by
          rcases hPV.out with ⟨rfl, rfl⟩ | ⟨s', h0, rfl, hs'⟩
          · exact ⟨s, rfl, fun h => absurd h (by decide)⟩
          · refine ⟨s', ?_, fun _ => ?_⟩
            · show entC 2 s' s bi = entC (i + 1) s' s bi
              unfold entC
              simp [h0]
            · obtain ⟨S', hS'⟩ : ∃ s, ks[i - 1]? = some s := ⟨_, List.getElem?_eq_getElem (by omega)⟩
              obtain ⟨q9, o9, _, _, _, _, _, _, e9, _, d9, _⟩ := EX.out (i - 1) s' S' (by omega) hs' hS'
              injection e9 with e9
              injection e9 with e9 e8
              subst e9 e8
              exact ⟨d9, (smL_at nms ks (i - 1) s' S' HSL.out hs' hS').1⟩
        rw [hP1] at VV
        have HVV : Hid (R = if entC (i + 1) s' s bi ≠ 0 then ⟨bi, some (joinB (ns ++ [s]), entC (i + 1) s' s bi)⟩
            else match (vT (ns ++ [s]) (bi + ebP s) S).off with
              | none => vL ns (vT (ns ++ [s]) (bi + ebP s) S).bytes (some s) (nms.drop (i + 1)) (ks.drop (i + 1))
              | some o => ⟨(vT (ns ++ [s]) (bi + ebP s) S).bytes, some o⟩) := VV
        have HS9 : Hid (nms[i]? = some s) := hs
        have HM9 : Hid (M ++ rwT (ns ++ [s]) S = L ++ (JN, k, e, t) :: rwL ns (nms.take (i + 1)) (ks.take (i + 1))) := by
          unfold Hid
          rw [rwL_take ns nms ks i s S hs hS, hM.out]
          simp
        have n3 := hVS.out.hn.c3
        have HE : Hid ((wr.alloc (.cells #[.string s, .int .i64 a, .bool b', .string d, .slice fx pp q'] 78)).heap[wr.heap.size]? = some (.cells #[.string s, .int .i64 a, .bool b', .string d, .slice fx pp q'] 78 (0, 0))) := Array.getElem?_push_size
        have bE : Below wr.heap.size wr (wr.alloc (.cells #[.string s, .int .i64 a, .bool b', .string d, .slice fx pp q'] 78)) := (Below.refl _ _).alloc (Nat.le_refl _) _
        have HVE : Hid (VS (wr.alloc (.cells #[.string s, .int .i64 a, .bool b', .string d, .slice fx pp q'] 78)) P N Z (.slice x' M.length c') bi 0 p' k e t (some ⟨q, o, none⟩) n c) := hVS.out.below bE
        have HRE : Hid (Rws 64 (wr.alloc (.cells #[.string s, .int .i64 a, .bool b', .string d, .slice fx pp q'] 78)) B (.slice x' M.length c') M) := hRS.out.below bE
        have HFE : Hid (Fk B 64 w (wr.alloc (.cells #[.string s, .int .i64 a, .bool b', .string d, .slice fx pp q'] 78))) := hFK.out.trans (Fk.of_below bE (Nat.le_trans hBw hFK.out.size))
        have hPl : P < wr.heap.size := heap_lt hVS.out.hp
        have hNl : N < wr.heap.size := heap_lt hVS.out.hn
        have hZl : Z < wr.heap.size := heap_lt hVS.out.hz
        clear VV hV hPV hP1 hA hST hs hS d0 d1 d2 d3 d4 l1 l2 bE hVS hRS hFK
        go_upto_region 18 with fail
        generalize hEe : wr.heap.size = E at *
        generalize wr.alloc (.cells #[.string s, .int .i64 a, .bool b', .string d, .slice fx pp q'] 78) = wE at *
        have hEP : E ≠ P := by omega
        have hPE : P ≠ E := by omega
        have hEZ : E ≠ Z := by omega
        have hZE : Z ≠ E := by omega
        clear c0 c1 c2 c3 c4 n3 hBr hEe
        have e0 : wE.cell? ⟨E, 0, none⟩ = some (.string s) := by rw [Lib.cell_of_heap HE.out]; rfl
        have a3 := HVE.out.p3
        have af := HVE.out.pf 3
        have HVF : Hid (VS (wE.setCell ⟨P, 3, none⟩ (.string s)) P N Z (.slice x' M.length c') bi 0 s k e t (some ⟨q, o, none⟩) n c) := HVE.out.set3 hNP hZP s
        have HRF : Hid (Rws 64 (wE.setCell ⟨P, 3, none⟩ (.string s)) B (.slice x' M.length c') M) := HRE.out.over HVE.out.hp (by decide) 3 _
        have HFF : Hid (Fk B 64 w (wE.setCell ⟨P, 3, none⟩ (.string s))) := HFE.out.over hBw P 3 _ hgP.out.1
        have HEF : Hid ((wE.setCell ⟨P, 3, none⟩ (.string s)).heap[E]? = some (.cells #[.string s, .int .i64 a, .bool b', .string d, .slice fx pp q'] 78 (0, 0))) := (Below.heap_setCell _ _ _ E hEP).trans HE.out
        clear HVE HRE HFE HE
        go_upto_region 19 with fail
        generalize wE.setCell ⟨P, 3, none⟩ (.string s) = wF at *
        clear e0 a3 af
        go_upto_if 68 with fail
        go_cut [] from 52 to 123 (fun wx => Hid (VS wx P N Z (.slice x' M.length c') bi 0 (joinB (ns ++ [s])) k e t (some ⟨q, o, none⟩) n c) ∧ Hid (Rws 64 wx B (.slice x' M.length c') M) ∧ Hid (Fk B 64 w wx) ∧ Hid (wx.heap[E]? = some (.cells #[.string s, .int .i64 a, .bool b', .string d, .slice fx pp q'] 78 (0, 0))))
        case first =>
          by_cases h0 : ns.length = 0
          · have hj := HJ.out s
            rw [if_pos h0] at hj
            have hq0 : ¬ (1 : Int) < (ns.length : Int) + 1 := by omega
            have HJ2 : Hid (joinB (ns ++ [s]) = s) := hj
            clear hj h0
            go_wp2_with fail
            go_meet
            exact ⟨by rw [HJ2.out]; exact HVF, HRF, HFF, HEF⟩
          · have hj := HJ.out s
            rw [if_neg h0] at hj
            have hq0 : (1 : Int) < (ns.length : Int) + 1 := by omega
            have HJ2 : Hid (joinB (ns ++ [s]) = JN ++ ⟨#[47]⟩ ++ s) := hj
            clear h0
            have e0 : wF.cell? ⟨E, 0, none⟩ = some (.string s) := by rw [Lib.cell_of_heap HEF.out]; rfl
            have a3 := HVF.out.p3
            have af := HVF.out.pf 3
            have HVG : Hid (VS (wF.setCell ⟨P, 3, none⟩ (.string (JN ++ ⟨#[47]⟩ ++ s))) P N Z (.slice x' M.length c') bi 0 (JN ++ ⟨#[47]⟩ ++ s) k e t (some ⟨q, o, none⟩) n c) := HVF.out.set3 hNP hZP _
            have HRG : Hid (Rws 64 (wF.setCell ⟨P, 3, none⟩ (.string (JN ++ ⟨#[47]⟩ ++ s))) B (.slice x' M.length c') M) := HRF.out.over HVF.out.hp (by decide) 3 _
            have HFG : Hid (Fk B 64 w (wF.setCell ⟨P, 3, none⟩ (.string (JN ++ ⟨#[47]⟩ ++ s)))) := HFF.out.over hBw P 3 _ hgP.out.1
            have HEG : Hid ((wF.setCell ⟨P, 3, none⟩ (.string (JN ++ ⟨#[47]⟩ ++ s))).heap[E]? = some (.cells #[.string s, .int .i64 a, .bool b', .string d, .slice fx pp q'] 78 (0, 0))) := (Below.heap_setCell _ _ _ E hEP).trans HEF.out
            clear hj
            go_wp2_with fail
            go_meet
            exact ⟨by rw [HJ2.out]; exact HVG, HRG, HFG, HEG⟩
        case rest =>
          obtain ⟨HVG, HRG, HFG, HEG⟩ := hcut
          clear HVF HRF HFF HEF
          obtain ⟨PJ, hPJ⟩ : ∃ PJ, PJ = joinB (ns ++ [s]) := ⟨_, rfl⟩
          have HPJ : Hid (PJ = joinB (ns ++ [s])) := hPJ
          rw [← hPJ] at HVG HVV
          clear hPJ
          have e0 : wc.cell? ⟨E, 0, none⟩ = some (.string s) := by rw [Lib.cell_of_heap HEG.out]; rfl
          have a2 := HVG.out.p2
          have af := HVG.out.pf 2
          have RC := rcheck_any s wc
          have HVH : Hid (VS (wc.setCell ⟨P, 2, none⟩ (.int .i64 (chk s))) P N Z (.slice x' M.length c') bi (chk s) PJ k e t (some ⟨q, o, none⟩) n c) := HVG.out.set2 hNP hZP _
          have HRH : Hid (Rws 64 (wc.setCell ⟨P, 2, none⟩ (.int .i64 (chk s))) B (.slice x' M.length c') M) := HRG.out.over HVG.out.hp (by decide) 2 _
          have HFH : Hid (Fk B 64 w (wc.setCell ⟨P, 2, none⟩ (.int .i64 (chk s)))) := HFG.out.over hBw P 2 _ hgP.out.1
          have HEH : Hid ((wc.setCell ⟨P, 2, none⟩ (.int .i64 (chk s))).heap[E]? = some (.cells #[.string s, .int .i64 a, .bool b', .string d, .slice fx pp q'] 78 (0, 0))) := (Below.heap_setCell _ _ _ E hEP).trans HEG.out
          have HEC : Hid (entC (i + 1) s' s bi = if chk s ≠ 0 then chk s else if 1 < i + 1 ∧ 0 ≤ cmpB s' s then 64 else if 1048576 < bi + ebP s then 2 else 0) := rfl
          generalize chk s = CK at *
          go_wp2_with fail
          refine RC.mono ?_
          rintro e6 w6 ⟨rfl, rfl⟩
          clear RC HVG HRG HFG HEG
          go_upto_region 22 with fail
          generalize w6.setCell ⟨P, 2, none⟩ (.int .i64 CK) = w8 at *
          clear e0 a2 af
          by_cases hCK : CK ≠ 0
          · have hec := HEC.out
            rw [if_pos hCK] at hec
            have hv := HVV.out
            rw [hec, if_pos hCK] at hv
            have HO : Hid (R.off = some (PJ, CK)) := by unfold Hid; rw [hv]
            have q1 : (CK != 0) = true := by simpa using hCK
            clear hec hv HEC HVV
            have a0 := HVH.out.p0
            have a1 := HVH.out.p1
            have a2 := HVH.out.p2
            have a3 := HVH.out.p3
            have z0 := HVH.out.z0
            have z1 := HVH.out.z1
            have z2 := HVH.out.z2
            have z3 := HVH.out.z3
            have zf0 := HVH.out.zf 0
            have zf1 := HVH.out.zf 1
            have zf2 := HVH.out.zf 2
            have zf3 := HVH.out.zf 3
            go_upto_region 23 with fail
            rename_i kk ha
            go_hide hQ
            go_wp2
            subst hQ
            refine ha _ _ ?_
            go_hide hQ
            go_wp2
            subst hQ
            refine (show bodyPost Try.prog Try.f29 (fun e w' => VsR R B (L ++ MM) w e w') Exit.ret _ _ from ?_)
            refine exit_seen HVH.out.hz rfl ?_
            exact EXIT.out w8 _ _ _ _ 0 _ _ HO.out HVH.out HFH.out
          obtain rfl : CK = 0 := by omega
          have hec := HEC.out
          rw [if_neg hCK] at hec
          have HEC2 : Hid (entC (i + 1) s' s bi = if 1 < i + 1 ∧ 0 ≤ cmpB s' s then 64 else if 1048576 < bi + ebP s then 2 else 0) := hec
          clear hec HEC hCK
          -- @4
          have CM := fun (h : s'.size ≤ 140737488351232) w => rcompare_quiet s' s w h
          have hcb := cmpB_bd s' s
          have HCM : Hid (∀ (h : s'.size ≤ 140737488351232) w, Calls Try.prog 46 #[.string s', .string s] w fun e w' => e = .returned (.int .i64 (cmpB s' s)) ∧ ∃ q, w' = w.drewN q) := CM
          clear CM
          generalize cmpB s' s = CMP at *
          obtain ⟨BB, hBB⟩ : ∃ BB, BB = decide (1 < i + 1 ∧ 0 ≤ CMP) := ⟨_, rfl⟩
          have HBB : Hid (BB = decide (1 < i + 1 ∧ 0 ≤ CMP)) := hBB
          clear hBB
          have a2 := HVH.out.p2
          have e0 : w8.cell? ⟨E, 0, none⟩ = some (.string s) := by rw [Lib.cell_of_heap HEH.out]; rfl
          have n3 := HVH.out.hn.c3
          have hB8 : Hid (Below w0.heap.size w0 w8) := HB0.out.trans (HFH.out.below.mono hw0)
          go_upto_region 24 with fail
          go_cut [97] from 52 to 123 (fun v97 wx => v97 = .bool BB ∧ ∃ nq, wx = w8.drewN nq)
          case first =>
            by_cases h1 : 0 < i
            · obtain ⟨k5, hs5⟩ := hP2.out (by omega)
              have k0 : w8.cell? ⟨q, o + (i - 1) * 5, none⟩ = some (.string s') := (hB8.out.cell (p := ⟨q, o + (i - 1) * 5, none⟩) hgq).trans k5
              have CM := fun w => HCM.out (by omega) w
              have g2 : decide ((0 : Int) < (i : Int)) = true := by apply decide_eq_true; omega
              have g3 : (0 : Int) < (i : Int) := by omega
              have g6 : IntKind.i64.wrap ((i : Int) - 1) = (i : Int) - 1 := by rw [IntKind.wrap_i64]; omega
              have g7 : ((i : Int) - 1).toNat = i - 1 := by omega
              have g8 : (0 : Int) ≤ (i : Int) - 1 := by omega
              have g9 : (i : Int) - 1 < (n : Int) := by omega
              clear k5 a2
              by_cases hC : 0 ≤ CMP
              · have g1 : decide (0 ≤ CMP) = true := by simpa using hC
                have HB2 : Hid (BB = true) := by unfold Hid; rw [HBB.out]; apply decide_eq_true; exact ⟨by omega, hC⟩
                go_quiet ((go_at_call 46; exact Calls.quiet_of (CM _)))
                (try go_wp2_with fail)
                go_meet
                exact ⟨by rw [HB2.out], nq, rfl⟩
              · have g1 : decide (0 ≤ CMP) = false := by simpa using hC
                have HB2 : Hid (BB = false) := by unfold Hid; rw [HBB.out]; apply decide_eq_false; intro hh; exact hC hh.2
                go_quiet ((go_at_call 46; exact Calls.quiet_of (CM _)))
                (try go_wp2_with fail)
                go_meet
                exact ⟨by rw [HB2.out], nq, rfl⟩
            · have g2 : decide ((0 : Int) < (i : Int)) = false := by apply decide_eq_false; omega
              have g3 : ¬ (0 : Int) < (i : Int) := by omega
              have HB2 : Hid (BB = false) := by unfold Hid; rw [HBB.out]; apply decide_eq_false; intro hh; omega
              clear a2
              go_quiet (fail)
              (try go_wp2_with fail)
              go_meet
              exact ⟨by rw [HB2.out], nq, rfl⟩
          case rest =>
            obtain ⟨rfl, nq, rfl⟩ := hcut
            have HVI : Hid (VS (w8.drewN nq) P N Z (.slice x' M.length c') bi 0 PJ k e t (some ⟨q, o, none⟩) n c) := ⟨HVH.out.hp, HVH.out.hn, HVH.out.hz⟩
            have HRI : Hid (Rws 64 (w8.drewN nq) B (.slice x' M.length c') M) := HRH.out.same (fun _ _ => rfl)
            have HFI : Hid (Fk B 64 w (w8.drewN nq)) := HFH.out.drewN nq
            have HEI : Hid ((w8.drewN nq).heap[E]? = some (.cells #[.string s, .int .i64 a, .bool b', .string d, .slice fx pp q'] 78 (0, 0))) := HEH.out
            clear HVH HRH HFH HEH hB8 a2 e0 n3 HCM
            generalize w8.drewN nq = w9 at *
            have heb := ebP_bd s
            have EBC : Hid (∀ W, Calls Try.prog 47 #[.string s] W fun e w'' => e = .returned (.int .i64 (ebP s)) ∧ Below W.heap.size W w'') := fun W => rentry_any s W (by omega)
            generalize ebP s = EB at *
            cases BB with
            | true =>
              have hbb := of_decide_eq_true HBB.out.symm
              have hec := HEC2.out
              rw [if_pos hbb] at hec
              have hv := HVV.out
              rw [hec, if_pos (by decide)] at hv
              have HO : Hid (R.off = some (PJ, 64)) := by unfold Hid; rw [hv]
              clear hec hv HEC2 HVV hbb
              have a0 := HVI.out.p0
              have a1 := HVI.out.p1
              have a2 := HVI.out.p2
              have a3 := HVI.out.p3
              have af := HVI.out.pf 2
              have HV9 : Hid (VS (w9.setCell ⟨P, 2, none⟩ (.int .i64 64)) P N Z (.slice x' M.length c') bi 64 PJ k e t (some ⟨q, o, none⟩) n c) := HVI.out.set2 hNP hZP 64
              have HF9 : Hid (Fk B 64 w (w9.setCell ⟨P, 2, none⟩ (.int .i64 64))) := HFI.out.over hBw P 2 _ hgP.out.1
              go_upto_region 26 with fail
              generalize w9.setCell ⟨P, 2, none⟩ (.int .i64 64) = w10 at HV9 HF9 ⊢
              clear a0 a1 a2 a3 af
              have a0 := HV9.out.p0
              have a1 := HV9.out.p1
              have a2 := HV9.out.p2
              have a3 := HV9.out.p3
              have z0 := HV9.out.z0
              have z1 := HV9.out.z1
              have z2 := HV9.out.z2
              have z3 := HV9.out.z3
              have zf0 := HV9.out.zf 0
              have zf1 := HV9.out.zf 1
              have zf2 := HV9.out.zf 2
              have zf3 := HV9.out.zf 3
              rename_i kk ha
              go_hide hQ
              go_wp2
              subst hQ
              refine ha _ _ ?_
              go_hide hQ
              go_wp2
              subst hQ
              refine (show bodyPost Try.prog Try.f29 (fun e w' => VsR R B (L ++ MM) w e w') Exit.ret _ _ from ?_)
              refine exit_seen HV9.out.hz rfl ?_
              exact EXIT.out w10 _ _ _ _ 0 _ _ HO.out HV9.out HF9.out
            | false =>
              have hbb := of_decide_eq_false HBB.out.symm
              have hec := HEC2.out
              rw [if_neg hbb] at hec
              have HEC3 : Hid (entC (i + 1) s' s bi = if 1048576 < bi + EB then 2 else 0) := hec
              clear hec HEC2 hbb
              go_upto_region 27 with fail
              have a1 := HVI.out.p1
              have e0 : w9.cell? ⟨E, 0, none⟩ = some (.string s) := by rw [Lib.cell_of_heap HEI.out]; rfl
              have hPl9 : P < w9.heap.size := heap_lt HVI.out.hp
              have af := HVI.out.pf 1
              have hwr : IntKind.i64.wrap (bi + EB) = bi + EB := by rw [IntKind.wrap_i64]; omega
              go_cut [] from 52 to 123 (fun wx => Hid (VS wx P N Z (.slice x' M.length c') (bi + EB) 0 PJ k e t (some ⟨q, o, none⟩) n c) ∧ Hid (Rws 64 wx B (.slice x' M.length c') M) ∧ Hid (Fk B 64 w wx) ∧ Hid (wx.heap[E]? = some (.cells #[.string s, .int .i64 a, .bool b', .string d, .slice fx pp q'] 78 (0, 0))))
              case first =>
                go_region_with ((go_at_call 47; refine (EBC.out _).mono ?_; rintro e5 w5 ⟨rfl, b5⟩; have m1 : w5.cell? ⟨P, 1, none⟩ = some (.int .i64 bi) := (b5.cell (p := ⟨P, 1, none⟩) hPl9).trans a1; have mf : w5.frozen? ⟨P, 1, none⟩ = false := (b5.frozen (p := ⟨P, 1, none⟩) hPl9).trans af))
                all_goals (try go_wp2_with fail)
                all_goals go_meet
                all_goals (
                  have b6 : Below w9.heap.size w9 w5 := ⟨b5.os, b5.tape, b5.output, b5.size, b5.block⟩
                  have V5 := HVI.out.below b6
                  exact ⟨V5.set1 hNP hZP _, (HRI.out.below b6).over V5.hp (by decide) 1 _, (HFI.out.trans (Fk.of_below b6 (Nat.le_trans hBw HFI.out.size))).over hBw P 1 _ hgP.out.1, (Below.heap_setCell _ _ _ E hEP).trans ((b6.block E (heap_lt HEI.out)).trans HEI.out)⟩)
              case rest =>
                obtain ⟨HVK, HRK, HFK, HEK⟩ := hcut
                clear HVI HRI HFI HEI a1 e0 af EBC hwr hPl9
                have a1 := HVK.out.p1
                by_cases hq5 : 1048576 < bi + EB
                · have hec := HEC3.out
                  rw [if_pos hq5] at hec
                  have hv := HVV.out
                  rw [hec, if_pos (by decide)] at hv
                  have HO : Hid (R.off = some (PJ, 2)) := by unfold Hid; rw [hv]
                  have ha5 : 0 ≤ bi + EB := by omega
                  clear hec hv HEC3 HVV
                  obtain ⟨b7, hb7⟩ : ∃ b7, b7 = bi + EB := ⟨_, rfl⟩
                  rw [← hb7] at HVK a1 hq5
                  clear hb7
                  have a0 := HVK.out.p0
                  have a1 := HVK.out.p1
                  have a2 := HVK.out.p2
                  have a3 := HVK.out.p3
                  have af := HVK.out.pf 2
                  have HV9 : Hid (VS (wc.setCell ⟨P, 2, none⟩ (.int .i64 2)) P N Z (.slice x' M.length c') b7 2 PJ k e t (some ⟨q, o, none⟩) n c) := HVK.out.set2 hNP hZP 2
                  have HF9 : Hid (Fk B 64 w (wc.setCell ⟨P, 2, none⟩ (.int .i64 2))) := HFK.out.over hBw P 2 _ hgP.out.1
                  go_upto_region 30 with fail
                  generalize wc.setCell ⟨P, 2, none⟩ (.int .i64 2) = w10 at HV9 HF9 ⊢
                  clear a0 a1 a2 a3 af
                  have a0 := HV9.out.p0
                  have a1 := HV9.out.p1
                  have a2 := HV9.out.p2
                  have a3 := HV9.out.p3
                  have z0 := HV9.out.z0
                  have z1 := HV9.out.z1
                  have z2 := HV9.out.z2
                  have z3 := HV9.out.z3
                  have zf0 := HV9.out.zf 0
                  have zf1 := HV9.out.zf 1
                  have zf2 := HV9.out.zf 2
                  have zf3 := HV9.out.zf 3
                  rename_i kk ha
                  go_hide hQ
                  go_wp2
                  subst hQ
                  refine ha _ _ ?_
                  go_hide hQ
                  go_wp2
                  subst hQ
                  refine (show bodyPost Try.prog Try.f29 (fun e w' => VsR R B (L ++ MM) w e w') Exit.ret _ _ from ?_)
                  refine exit_seen HV9.out.hz rfl ?_
                  exact EXIT.out w10 _ _ _ _ 0 _ _ HO.out HV9.out HF9.out
                have hec := HEC3.out
                rw [if_neg hq5] at hec
                have hv := HVV.out
                rw [hec, if_neg (by decide)] at hv
                have HV7 : Hid (R = match (vT (ns ++ [s]) (bi + EB) S).off with
                  | none => vL ns (vT (ns ++ [s]) (bi + EB) S).bytes (some s) (nms.drop (i + 1)) (ks.drop (i + 1))
                  | some o => ⟨(vT (ns ++ [s]) (bi + EB) S).bytes, some o⟩) := hv
                clear hec hv HEC3 HVV
                obtain ⟨b7, hb7⟩ : ∃ b7, b7 = bi + EB := ⟨_, rfl⟩
                rw [← hb7] at HVK HV7 a1 hq5
                have hb70 : 0 ≤ b7 := by omega
                have hb71 : b7 ≤ 1048576 := by omega
                have hMl7 : (M.length : Int) ≤ b7 := by omega
                clear hb7
                have hBK : Below w0.heap.size w0 wc := HB0.out.trans (HFK.out.below.mono hw0)
                have g9 : (ns ++ [s]).length = ns.length + 1 := by rw [List.length_append]; rfl
                have g9I : ((ns ++ [s]).length : Int) + 1 = (ns.length : Int) + 1 + 1 := by rw [g9]; omega
                have hNS2 : ∀ s_1 ∈ ns ++ [s], s_1.size ≤ 1048576 := fun z hz => by
                  rcases List.mem_append.1 hz with hz | hz
                  · exact HNS.out z hz
                  · simp at hz; subst hz; exact hsz
                have NC := HIH.out _ S (ns ++ [s]) b7 x' c' M PJ B w0 wc HA.out HST.out hBK hw0 (Nat.le_trans hBw HFK.out.size) HRK.out hMl7 (by rw [g9]; omega) hNS2 hb70 hb71
                rw [g9I, ← HPJ.out] at NC
                have hbd := vT_bd (ns ++ [s]) b7 S
                have hcd := vT_code (ns ++ [s]) b7 S
                have a0 := HVK.out.p0
                have a2 := HVK.out.p2
                have a3 := HVK.out.p3
                have e1 : wc.cell? ⟨E, 1, none⟩ = some (.int .i64 a) := by rw [Lib.cell_of_heap HEK.out]; rfl
                have e2 : wc.cell? ⟨E, 2, none⟩ = some (.bool b') := by rw [Lib.cell_of_heap HEK.out]; rfl
                have e3 : wc.cell? ⟨E, 3, none⟩ = some (.string d) := by rw [Lib.cell_of_heap HEK.out]; rfl
                have e4 : wc.cell? ⟨E, 4, none⟩ = some (.slice fx pp q') := by rw [Lib.cell_of_heap HEK.out]; rfl
                have HBD : Hid ((vT (ns ++ [s]) b7 S).off = none → 0 ≤ b7 → b7 ≤ 1048576 → 0 ≤ (vT (ns ++ [s]) b7 S).bytes ∧ (vT (ns ++ [s]) b7 S).bytes ≤ 1048576) := hbd
                have HCD : Hid (∀ o, (vT (ns ++ [s]) b7 S).off = some o → o.2 ≠ 0) := hcd
                have HRL : Hid ((vT (ns ++ [s]) b7 S).off = none → ((rwT (ns ++ [s]) S).length : Int) + b7 ≤ (vT (ns ++ [s]) b7 S).bytes) := fun h => rw_le (ns ++ [s]) b7 S h
                generalize vT (ns ++ [s]) b7 S = RS at NC HBD HCD HRL HV7
                generalize rwT (ns ++ [s]) S = MS at NC HRL HM9
                clear hbd hcd hBK g9 g9I hNS2
                go_wp2_with fail
                refine NC.mono ?_
                rintro e6 w11 ⟨h6, F6⟩
                clear NC e1 e2 e3 e4 a0 a1 a2 a3
                have HV9 : Hid (VS w11 P N Z (.slice x' M.length c') b7 0 PJ k e t (some ⟨q, o, none⟩) n c) := HVK.out.fk F6
                have HF9 : Hid (Fk B 64 w w11) := HFK.out.trans F6
                have d0 := HV9.out.p0
                have d1 := HV9.out.p1
                have d2 := HV9.out.p2
                have d3 := HV9.out.p3
                have df0 := HV9.out.pf 0
                have df1 := HV9.out.pf 1
                have df2 := HV9.out.pf 2
                have df3 := HV9.out.pf 3
                clear HVK HRK HFK HEK F6
                cases hX : RS.off with
                | some oo =>
                  have hv := HV7.out
                  rw [hX] at h6 hv
                  obtain ⟨op, oc⟩ := oo
                  dsimp only at h6 hv
                  obtain ⟨x9, n9, c9, b9, rfl⟩ := h6
                  have HO : Hid (R.off = some (op, oc)) := by unfold Hid; rw [hv]
                  have hoc : oc ≠ 0 := HCD.out _ hX
                  have q1 : (oc != 0) = true := by simpa using hoc
                  have HVa : Hid (VS ((((w11.setCell ⟨P, 0, none⟩ (.slice x9 n9 c9)).setCell ⟨P, 1, none⟩ (.int .i64 b9)).setCell ⟨P, 2, none⟩ (.int .i64 oc)).setCell ⟨P, 3, none⟩ (.string op)) P N Z (.slice x9 n9 c9) b9 oc op k e t (some ⟨q, o, none⟩) n c) := (((HV9.out.set0 hNP hZP _).set1 hNP hZP _).set2 hNP hZP _).set3 hNP hZP _
                  have HFa : Hid (Fk B 64 w ((((w11.setCell ⟨P, 0, none⟩ (.slice x9 n9 c9)).setCell ⟨P, 1, none⟩ (.int .i64 b9)).setCell ⟨P, 2, none⟩ (.int .i64 oc)).setCell ⟨P, 3, none⟩ (.string op))) := (((HF9.out.over hBw P 0 _ hgP.out.1).over hBw P 1 _ hgP.out.1).over hBw P 2 _ hgP.out.1).over hBw P 3 _ hgP.out.1
                  clear hv HV7 hX HV9 HF9
                  go_upto_region 32 with fail
                  generalize (((w11.setCell ⟨P, 0, none⟩ (.slice x9 n9 c9)).setCell ⟨P, 1, none⟩ (.int .i64 b9)).setCell ⟨P, 2, none⟩ (.int .i64 oc)).setCell ⟨P, 3, none⟩ (.string op) = w12 at *
                  clear d0 d1 d2 d3 df0 df1 df2 df3
                  have a0 := HVa.out.p0
                  have a1 := HVa.out.p1
                  have a2 := HVa.out.p2
                  have a3 := HVa.out.p3
                  have z0 := HVa.out.z0
                  have z1 := HVa.out.z1
                  have z2 := HVa.out.z2
                  have z3 := HVa.out.z3
                  have zf0 := HVa.out.zf 0
                  have zf1 := HVa.out.zf 1
                  have zf2 := HVa.out.zf 2
                  have zf3 := HVa.out.zf 3
                  go_upto_region 33 with fail
                  rename_i kk ha
                  go_hide hQ
                  go_wp2
                  subst hQ
                  refine ha _ _ ?_
                  go_hide hQ
                  go_wp2
                  subst hQ
                  refine (show bodyPost Try.prog Try.f29 (fun e w' => VsR R B (L ++ MM) w e w') Exit.ret _ _ from ?_)
                  refine exit_seen HVa.out.hz rfl ?_
                  exact EXIT.out w12 _ _ _ _ 0 _ _ HO.out HVa.out HFa.out
                | none =>
                  have hv := HV7.out
                  rw [hX] at h6 hv
                  obtain ⟨x9, c9, p9, rfl, R9⟩ := h6
                  dsimp only at hv
                  obtain ⟨hbb0, hbb1⟩ := HBD.out hX hb70 hb71
                  have hll := HRL.out hX
                  have HV8 : Hid (R = vL ns RS.bytes (some s) (nms.drop (i + 1)) (ks.drop (i + 1))) := hv
                  have hl9 : ((M ++ MS).length : Int) ≤ RS.bytes := by rw [List.length_append]; omega
                  generalize RS.bytes = b9 at *
                  generalize M ++ MS = M9 at *
                  have V1 := HV9.out.set0 hNP hZP (.slice x9 M9.length c9)
                  have V2 := V1.set1 hNP hZP b9
                  have V3 := V2.set2 hNP hZP 0
                  have HVa : Hid (VS ((((w11.setCell ⟨P, 0, none⟩ (.slice x9 M9.length c9)).setCell ⟨P, 1, none⟩ (.int .i64 b9)).setCell ⟨P, 2, none⟩ (.int .i64 0)).setCell ⟨P, 3, none⟩ (.string p9)) P N Z (.slice x9 M9.length c9) b9 0 p9 k e t (some ⟨q, o, none⟩) n c) := V3.set3 hNP hZP _
                  have HFa : Hid (Fk B 64 w ((((w11.setCell ⟨P, 0, none⟩ (.slice x9 M9.length c9)).setCell ⟨P, 1, none⟩ (.int .i64 b9)).setCell ⟨P, 2, none⟩ (.int .i64 0)).setCell ⟨P, 3, none⟩ (.string p9))) := (((HF9.out.over hBw P 0 _ hgP.out.1).over hBw P 1 _ hgP.out.1).over hBw P 2 _ hgP.out.1).over hBw P 3 _ hgP.out.1
                  have HRa : Hid (Rws 64 ((((w11.setCell ⟨P, 0, none⟩ (.slice x9 M9.length c9)).setCell ⟨P, 1, none⟩ (.int .i64 b9)).setCell ⟨P, 2, none⟩ (.int .i64 0)).setCell ⟨P, 3, none⟩ (.string p9)) B (.slice x9 M9.length c9) M9) := (((R9.over HV9.out.hp (by decide) 0 _).over V1.hp (by decide) 1 _).over V2.hp (by decide) 2 _).over V3.hp (by decide) 3 _
                  clear hv HV7 hX HV9 HF9 V1 V2 V3 R9
                  go_upto_region 32 with fail
                  generalize (((w11.setCell ⟨P, 0, none⟩ (.slice x9 M9.length c9)).setCell ⟨P, 1, none⟩ (.int .i64 b9)).setCell ⟨P, 2, none⟩ (.int .i64 0)).setCell ⟨P, 3, none⟩ (.string p9) = w12 at *
                  clear d0 d1 d2 d3 df0 df1 df2 df3
                  have a2 := HVa.out.p2
                  go_wp2
                  go_roundw
                  case rel => exact ⟨i + 1, b9, x9, c9, M9, p9, some s, by omega, by go_num, hbb0, hbb1, hl9, HM9, HVa, HRa, HFa, HV8, Or.inr ⟨s, by omega, rfl, by rw [Nat.add_sub_cancel]; exact HS9.out⟩⟩
                  case measure => simp [intOf]; omega
      · obtain rfl : i = n := by omega
        obtain ⟨l1, l2⟩ := LL.out
        have hv := hV.out
        rw [List.drop_of_length_le (by omega), vL_end] at hv
        have HV : Hid (R.off = none ∧ R.bytes = bi) := by unfold Hid; rw [hv]; exact ⟨rfl, rfl⟩
        have HMe : Hid (M = L ++ MM) := by
          unfold Hid
          rw [hM.out, HMM.out, List.take_of_length_le (by omega), List.take_of_length_le (by omega)]
        clear hv l1 l2
        have n3 := hVS.out.hn.c3
        have a0 := hVS.out.p0
        have a1 := hVS.out.p1
        have a2 := hVS.out.p2
        have a3 := hVS.out.p3
        have z0 := hVS.out.z0
        have z1 := hVS.out.z1
        have z2 := hVS.out.z2
        have z3 := hVS.out.z3
        have zf0 := hVS.out.zf 0
        have zf1 := hVS.out.zf 1
        have zf2 := hVS.out.zf 2
        have zf3 := hVS.out.zf 3
        go_wp2
        refine exit_seen hVS.out.hz rfl ?_
        rw [← HMe.out, ← HV.out.2]
        refine VsR.fine HV.out.1 ((((hFK.out.over hBw Z 0 _ hgP.out.2.2).over hBw Z 1 _ hgP.out.2.2).over hBw Z 2 _ hgP.out.2.2).over hBw Z 3 _ hgP.out.2.2) ?_
        exact hRS.out.same fun kk hk => by
          have hne : kk ≠ Z := fun e9 => by
            subst e9
            obtain ⟨c9, fz9, hh⟩ := Lib.ownsRow_kind hRS.out kk hk
            rw [hVS.out.hz] at hh
            injection hh with hh
            injection hh with _ hh
            exact absurd hh (by decide)
          exact (Below.heap_setCell _ ⟨Z, 3, none⟩ _ kk hne).trans ((Below.heap_setCell _ ⟨Z, 2, none⟩ _ kk hne).trans ((Below.heap_setCell _ ⟨Z, 1, none⟩ _ kk hne).trans (Below.heap_setCell _ ⟨Z, 0, none⟩ _ kk hne)))

end Go.Proofs.Ythlioedahoiahaa
namespace Go.Proofs.Ythlioedahoiahaa.Ls
open Go.RowKit Go.Proofs.Ythlioedahoiahaa

/-- A row and its place and size, as the document has them. -/
abbrev ZR := RW × (Nat × Nat)
def zC (z : ZR) : List Value := [.string z.1.1, .int .i64 z.1.2.1, .bool z.1.2.2.1, .string z.1.2.2.2, .int .i64 (z.2.1 : Int), .int .i64 (z.2.2 : Int)]
/-- The size is the text's, of a file. -/
def SzOk (z : ZR) : Prop := z.2.2 = if z.1.2.1 = 1 then z.1.2.2.2.size else 0
mutual
theorem szT (q : Nat) (ns : List ByteArray) : ∀ T : Tr, okT T → ∀ z ∈ (rwT ns T).zip (plT q T), SzOk z
  | .mk k e t nms ks, h, z, hz => by
    rw [okT] at h
    obtain ⟨hk, hn, -, hL⟩ := h
    rw [plT, rwT] at hz
    rcases hk with rfl | rfl | rfl
    · obtain ⟨rfl, rfl⟩ := hn (by decide)
      rw [if_pos rfl] at hz
      simp [rwL] at hz
      rw [hz]; unfold SzOk; simp
    · obtain ⟨rfl, rfl⟩ := hn (by decide)
      rw [if_neg (by decide), if_pos rfl] at hz
      simp [rwL] at hz
      rw [hz]; unfold SzOk; simp
    · rw [if_neg (by decide), if_neg (by decide), List.zip_cons_cons, List.mem_cons] at hz
      rcases hz with hz | hz
      · rw [hz]; unfold SzOk; simp
      · exact szL _ ns nms ks hL z hz
theorem szL (q : Nat) (ns : List ByteArray) : ∀ (nms : List ByteArray) (ks : List Tr), okL nms ks → ∀ z ∈ (rwL ns nms ks).zip (plL q nms ks), SzOk z
  | s :: nms, T :: ks, h, z, hz => by
    rw [okL] at h
    rw [plL, rwL, List.zip_append (plT_len _ _ T h.2.1).symm, List.mem_append] at hz
    rcases hz with hz | hz
    · exact szT _ _ T h.2.1 z hz
    · exact szL _ ns nms ks h.2.2 z hz
  | [], ks, _, z, hz => by rw [show rwL ns [] ks = [] by rw [rwL] <;> simp] at hz; simp at hz
  | a :: l, [], _, z, hz => by rw [show rwL ns (a :: l) [] = [] by rw [rwL] <;> simp] at hz; simp at hz
end
/-- The document's rows in memory. -/
def ZRs (w : World) (B : Nat) (v : Value) (L : List ZR) : Prop := w.ownsRow B 66 6 v L.length (L.flatMap zC)
theorem flat_z (L : List ZR) : ∀ (i : Nat) (z : ZR), L[i]? = some z → (L.flatMap zC)[i * 6]? = some (.string z.1.1) ∧ (L.flatMap zC)[i * 6 + 1]? = some (.int .i64 z.1.2.1) ∧ (L.flatMap zC)[i * 6 + 2]? = some (.bool z.1.2.2.1) ∧ (L.flatMap zC)[i * 6 + 3]? = some (.string z.1.2.2.2) ∧ (L.flatMap zC)[i * 6 + 4]? = some (.int .i64 (z.2.1 : Int)) ∧ (L.flatMap zC)[i * 6 + 5]? = some (.int .i64 (z.2.2 : Int)) := by
  induction L with
  | nil => intro i z h; simp at h
  | cons a L ih =>
    intro i z h
    have hl : (zC a).length = 6 := rfl
    rw [List.flatMap_cons]
    cases i with
    | zero =>
      simp at h
      subst h
      exact ⟨rfl, rfl, rfl, rfl, rfl, rfl⟩
    | succ i =>
      have := ih i z (by simpa using h)
      have e : ∀ j, (zC a ++ L.flatMap zC)[(i + 1) * 6 + j]? = (L.flatMap zC)[i * 6 + j]? := fun j => by
        rw [List.getElem?_append_right (by rw [hl]; omega), hl, show (i + 1) * 6 + j - 6 = i * 6 + j by omega]
      refine ⟨(e 0).trans this.1, (e 1).trans this.2.1, (e 2).trans this.2.2.1, (e 3).trans this.2.2.2.1, (e 4).trans this.2.2.2.2.1, (e 5).trans this.2.2.2.2.2⟩
theorem flat_zl (L : List ZR) : (L.flatMap zC).length = L.length * 6 := by
  induction L with
  | nil => rfl
  | cons a L ih => rw [List.flatMap_cons, List.length_append, ih, List.length_cons]; show 6 + _ = _; omega
theorem zrs_at {w : World} {B : Nat} {x : Option Addr} {n c : Nat} {L : List ZR} (h : ZRs w B (.slice x n c) L) (i : Nat) (z : ZR) (hz : L[i]? = some z) : ∃ g, x = some ⟨g, 0, none⟩ ∧ B ≤ g ∧ g < w.heap.size ∧ w.cell? ⟨g, i * 6, none⟩ = some (.string z.1.1) ∧ w.cell? ⟨g, i * 6 + 1, none⟩ = some (.int .i64 z.1.2.1) ∧ w.cell? ⟨g, i * 6 + 2, none⟩ = some (.bool z.1.2.2.1) ∧ w.cell? ⟨g, i * 6 + 3, none⟩ = some (.string z.1.2.2.2) ∧ w.cell? ⟨g, i * 6 + 4, none⟩ = some (.int .i64 (z.2.1 : Int)) ∧ w.cell? ⟨g, i * 6 + 5, none⟩ = some (.int .i64 (z.2.2 : Int)) := by
  have hi := (List.getElem?_eq_some_iff.1 hz).1
  rcases h.2 with ⟨hv, h0⟩ | ⟨g, cap, cur, hv, hb, hg, hn, hm, hs, ht⟩
  · omega
  · injection hv with h1 h2 h3
    refine ⟨g, h1, hb, heap_lt hg, ?_⟩
    obtain ⟨f0, f1, f2, f3, f4, f5⟩ := flat_z L i z hz
    have key : ∀ j, j < L.length * 6 → w.cell? ⟨g, j, none⟩ = (L.flatMap zC)[j]? := fun j hj => by
      rw [Lib.cell_of_heap hg, ← ht, List.getElem?_take_of_lt hj, Array.getElem?_toList]
    exact ⟨(key _ (by omega)).trans f0, (key _ (by omega)).trans f1, (key _ (by omega)).trans f2, (key _ (by omega)).trans f3, (key _ (by omega)).trans f4, (key _ (by omega)).trans f5⟩
theorem ZRs.shape {w : World} {B : Nat} {v : Value} {L : List ZR} (h : ZRs w B v L) : ∃ x c, v = .slice x L.length c := by
  rcases h.2 with ⟨hv, h0⟩ | ⟨g, cap, cur, hv, -⟩
  · exact ⟨none, 0, by rw [hv, h0]⟩
  · exact ⟨_, cap, hv⟩
theorem ZRs.below {w w' : World} {B : Nat} {v : Value} {L : List ZR} (h : ZRs w B v L) (b : Below w.heap.size w w') : ZRs w' B v L :=
  own_same h (fun q hq => by
    obtain ⟨hl, ⟨hv, h0⟩ | ⟨g, cap, cur, hv, hb, hg, -⟩⟩ := h
    · rw [hv] at hq; simp [blkL, Value.ownBlock] at hq
    · rw [hv] at hq; simp [blkL, Value.ownBlock] at hq; subst hq; exact b.block _ (heap_lt hg))
theorem infoRLRW : (Try.prog.info? 66).map (fun i => (i.zero, i.size, i.bytes)) = some (some (.agg #[.string ByteArray.empty, .int .i64 0, .bool false, .string ByteArray.empty, .int .i64 0, .int .i64 0]), 6, 64) := by kernel_rfl
/-- append(rows, r), r just laid. -/
theorem zrs_app (w : World) (B : Nat) (v : Value) (L : List ZR) (z : ZR) (h : ZRs w B v L) (hl : L.length + 1 ≤ 1073741824) (hB : B ≤ w.heap.size) : ∃ v' w', (Builtin.append_ #[29, 29] 29 #[v, .slice (some ⟨w.heap.size, 0, none⟩) 1 1]).run Try.prog (w.alloc (.cells #[.string z.1.1, .int .i64 z.1.2.1, .bool z.1.2.2.1, .string z.1.2.2.2, .int .i64 (z.2.1 : Int), .int .i64 (z.2.2 : Int)] 66)) = .ok v' w' ∧ ZRs w' B v' (L ++ [z]) ∧ Below B w w' := by
  obtain ⟨i0, hi, hz0, hz1, hz2⟩ := info_parts infoRLRW
  have bA : Below w.heap.size w (w.alloc (.cells #[.string z.1.1, .int .i64 z.1.2.1, .bool z.1.2.2.1, .string z.1.2.2.2, .int .i64 (z.2.1 : Int), .int .i64 (z.2.2 : Int)] 66)) := (Below.refl _ _).alloc (Nat.le_refl _) _
  have h1 := h.below bA
  obtain ⟨v', w', hr, ho, hgr, -⟩ := run_append_own (P := Try.prog) (w.alloc (.cells #[.string z.1.1, .int .i64 z.1.2.1, .bool z.1.2.2.1, .string z.1.2.2.2, .int .i64 (z.2.1 : Int), .int .i64 (z.2.2 : Int)] 66)) B 29 29 66 i0 _ 6 64 Try.underlying29 hi hz0 hz1 hz2 rfl (by decide) v L.length _ h1 ⟨w.heap.size, 0, none⟩ 1 1
      (zC z) rfl (fun j u hu => by
        rw [Addr.add_lit, Nat.zero_add, World.cell?_alloc_new]
        simpa [zC] using hu) (by intro u hu; simp [zC] at hu; rcases hu with rfl | rfl | rfl | rfl | rfl | rfl <;> rfl) (by unfold maxLen; omega) (by omega) (by rw [World.size_alloc]; omega)
  refine ⟨v', w', hr, ?_, ?_⟩
  · unfold ZRs
    rw [List.length_append, List.flatMap_append]
    simp only [List.flatMap_cons, List.flatMap_nil, List.append_nil, List.length_cons, List.length_nil]
    exact ho
  · have hz := bA.size
    exact (bA.mono hB).trans ⟨hgr.os, hgr.tape, hgr.output, hgr.size, fun k hk => hgr.block k (by omega) (fun e => by
      obtain ⟨hl, ⟨hv, h0⟩ | ⟨g, cap, cur, hv, hb, hg, -⟩⟩ := h
      · rw [hv] at e; cases e
      · rw [hv] at e; injection e with e; subst e; omega)⟩

end Go.Proofs.Ythlioedahoiahaa.Ls
namespace Go.Proofs.Ythlioedahoiahaa.Ls
open Go.RowKit Go.Proofs.Ythlioedahoiahaa

/-- What the document's List answers. -/
def RlR (l : List UInt8) (w : World) (e : Ending) (w' : World) : Prop := Below w.heap.size w w' ∧
  (((prs l).ansF.1 ≠ 0 ∧ e = .returned (.tuple #[.slice none 0 0, .int .i64 (prs l).ansF.1, .int .i64 (prs l).ansF.2])) ∨
   ((prs l).ansF = (0, 0) ∧ ∃ v, e = .returned (.tuple #[v, .int .i64 0, .int .i64 0]) ∧ ZRs w' w.heap.size v ((rwT [] (prs l).c.root).zip (plT (fwS [wMagic]) (prs l).c.root))))
theorem rrws_at {w : World} {B : Nat} {x : Option Addr} {n c : Nat} {L : List RW} (h : Rws 64 w B (.slice x n c) L) (i : Nat) (r : RW) (hr : L[i]? = some r) : ∃ g, x = some ⟨g, 0, none⟩ ∧ B ≤ g ∧ g < w.heap.size ∧ w.cell? ⟨g, i * 4, none⟩ = some (.string r.1) ∧ w.cell? ⟨g, i * 4 + 1, none⟩ = some (.int .i64 r.2.1) ∧ w.cell? ⟨g, i * 4 + 2, none⟩ = some (.bool r.2.2.1) ∧ w.cell? ⟨g, i * 4 + 3, none⟩ = some (.string r.2.2.2) := by
  have hi := (List.getElem?_eq_some_iff.1 hr).1
  rcases h.2 with ⟨hv, h0⟩ | ⟨g, cap, cur, hv, hb, hg, hn, hm, hs, ht⟩
  · rw [h0] at hi; omega
  · injection hv with h1 h2 h3
    refine ⟨g, h1, hb, heap_lt hg, ?_⟩
    obtain ⟨f0, f1, f2, f3⟩ := flat_rw L i r hr
    have key : ∀ j, j < L.length * 4 → w.cell? ⟨g, j, none⟩ = (L.flatMap rwC)[j]? := fun j hj => by
      rw [Lib.cell_of_heap hg, ← ht, List.getElem?_take_of_lt hj, Array.getElem?_toList]
    exact ⟨(key _ (by omega)).trans f0, (key _ (by omega)).trans f1, (key _ (by omega)).trans f2, (key _ (by omega)).trans f3⟩
theorem field_seen (a b c d : Value) (w : World) : (Instr.field 61 (.agg #[a, b, c, d]) 0).run Try.prog w = .ok a w := by
  simp [Instr.field, run_underlying Try.underlying61, asAgg, part, isAgg, run_underlying Try.underlying59]

set_option maxHeartbeats 8000000 in
set_option maxRecDepth 10000 in
theorem rlist_any (l : List UInt8) (w : World) (hl : l.length ≤ 1048576) : Calls Try.prog 7 #[.string (NB.ba l)] w (RlR l w) := by
  go_enter Try.func7, Try.ntmps7
  have CP := rparse_any l w hl
  go_wp2_with fail
  refine CP.mono ?_
  rintro e2 w2 ⟨xx, nn, cc, fr, rfl, hTv, b2⟩
  clear CP
  have H3 : Hid (St (w2.alloc (.cells #[.int .i64 (prs l).ansT.k, .bool (prs l).ansT.e, .string (prs l).ansT.t, .slice xx nn cc] 37)) w2.heap.size [.int .i64 (prs l).ansT.k, .bool (prs l).ansT.e, .string (prs l).ansT.t, .slice xx nn cc] ∧ TrV (w2.alloc (.cells #[.int .i64 (prs l).ansT.k, .bool (prs l).ansT.e, .string (prs l).ansT.t, .slice xx nn cc] 37)) w.heap.size (prs l).ansT (.slice xx nn cc) fr ∧ Below w.heap.size w (w2.alloc (.cells #[.int .i64 (prs l).ansT.k, .bool (prs l).ansT.e, .string (prs l).ansT.t, .slice xx nn cc] 37))) := by
    have bb : Below w2.heap.size w2 (w2.alloc (.cells #[.int .i64 (prs l).ansT.k, .bool (prs l).ansT.e, .string (prs l).ansT.t, .slice xx nn cc] 37)) := (Below.refl _ _).alloc (Nat.le_refl _) _
    exact ⟨St.new w2 _ _, TrV.same _ _ _ hTv (fun b hb => bb.block b (TrV.lt _ _ _ hTv b hb).2), b2.trans (bb.mono b2.size)⟩
  clear hTv b2
  go_upto_region 2 with fail
  obtain ⟨D, hD⟩ : ∃ D, w2.heap.size = D := ⟨_, rfl⟩
  rw [hD] at H3 ⊢
  clear hD
  generalize w2.alloc (.cells #[.int .i64 (prs l).ansT.k, .bool (prs l).ansT.e, .string (prs l).ansT.t, .slice xx nn cc] 37) = w3 at *
  rcases prs_ans l with ⟨aF, aT, hla, hsm, hwf, hck, hln⟩ | ⟨aF, -, -, -⟩
  · have HAF : Hid ((prs l).ansF = (0, 0)) := aF
    have HT3 : Hid (St w3 D [.int .i64 (prs l).c.root.k, .bool (prs l).c.root.e, .string (prs l).c.root.t, .slice xx nn cc] ∧ TrV w3 w.heap.size (prs l).c.root (.slice xx nn cc) fr ∧ Below w.heap.size w w3) := by
      have h1 := H3.out.1
      have h2 := H3.out.2.1
      rw [aT] at h1 h2
      exact ⟨h1, h2, H3.out.2.2⟩
    rw [aT, aF]
    obtain ⟨T, hT⟩ : ∃ T, (prs l).c.root = T := ⟨_, rfl⟩
    have HTT : Hid ((prs l).c.root = T) := hT
    rw [hT] at hla hsm hwf hck hln HT3
    rw [hT]
    have HW : Hid (smT T ∧ wfT T ∧ (ckT T).2 = 0 ∧ lnT T) := ⟨hsm, hwf, hck, hln⟩
    obtain ⟨af1, af2, af3, af4⟩ := arc_facts hsm hwf hck
    have hok : okT T := NS.ok_tree T [] 24 (ckT_off hck) hsm hwf
    obtain ⟨M, hM⟩ := TrV.at T _ fr HT3.out.2.1 hln
    have HM : Hid (At w3 M (.agg #[.int .i64 T.k, .bool T.e, .string T.t, .slice xx nn cc]) T ∧ okT T ∧ fwS (wMagic :: wdT T) ≤ 1048576) := ⟨hM, hok, af3⟩
    have FC : Calls Try.prog 14 #[.string (NB.ba l)] w3 (fun e w' => ∃ (a b c : Int) (v : Value), e = .returned (.tuple #[v, .int .i64 a, .int .i64 b, .int .i64 c]) ∧ FR w' v (wMagic :: wdT T) ∧ Below w3.heap.size w3 w') := by
      refine (frames_any l w3 hl).mono fun e w' h => frm_archive af2 ?_
      rw [hla] at h
      exact h
    clear aF aT hla hsm hwf hck hln hM hT H3 af1 af2 af3 af4 hok
    go_wp2_with fail
    refine FC.mono ?_
    rintro e4 w4 ⟨fa, fb, fc, vF, rfl, FR4, b4⟩
    clear FC
    have H4 : Hid (St w4 D [.int .i64 T.k, .bool T.e, .string T.t, .slice xx nn cc] ∧ At w4 M (.agg #[.int .i64 T.k, .bool T.e, .string T.t, .slice xx nn cc]) T ∧ Below w.heap.size w w4) := ⟨HT3.out.1.same b4.size (b4.block _ HT3.out.1.lt), HM.out.1.below b4, HT3.out.2.2.trans (b4.mono HT3.out.2.2.size)⟩
    have PC := rplaces_any M _ T w4 w4 (wMagic :: wdT T) [wMagic] [] vF H4.out.2.1 (Below.refl _ _) FR4 (by simp) HM.out.2.1 (by have := fwS_len (wMagic :: wdT T); have := HM.out.2.2; omega) (by have := HM.out.2.2; omega)
    rw [show (([wMagic].length : Nat) : Int) = 1 from rfl] at PC
    have u0 := H4.out.1.get 0 _ rfl
    have u1 := H4.out.1.get 1 _ rfl
    have u2 := H4.out.1.get 2 _ rfl
    have u3 := H4.out.1.get 3 _ rfl
    clear b4 FR4 HT3
    go_wp2_with fail
    refine PC.mono ?_
    rintro e5 w5 ⟨b5, x5, n5, c5, rfl, hn5, I5⟩
    clear PC u0 u1 u2 u3
    have H5 : Hid (St w5 D [.int .i64 T.k, .bool T.e, .string T.t, .slice xx nn cc] ∧ At w5 M (.agg #[.int .i64 T.k, .bool T.e, .string T.t, .slice xx nn cc]) T ∧ Below w.heap.size w w5 ∧ Ins w5 w4.heap.size (.slice x5 n5 c5) (plF (fwS [wMagic]) T)) := ⟨H4.out.1.same b5.size (b5.block _ H4.out.1.lt), H4.out.2.1.below b5, H4.out.2.2.trans (b5.mono H4.out.2.2.size), I5⟩
    have LC := look_any visit_any M _ T w5 H5.out.2.1 HW.out.1
    have u0 := H5.out.1.get 0 _ rfl
    have u1 := H5.out.1.get 1 _ rfl
    have u2 := H5.out.1.get 2 _ rfl
    have u3 := H5.out.1.get 3 _ rfl
    clear b5 I5 H4 hn5
    go_wp2_with fail
    refine LC.mono ?_
    rintro e6 w6 ⟨hcase, b6⟩
    rw [if_neg (by have := HW.out.2.2.1; omega)] at hcase
    obtain ⟨x6, c6, rfl, R6⟩ := hcase
    clear LC u0 u1 u2 u3
    obtain ⟨N, hN⟩ : ∃ N, (rwT [] T).length = N := ⟨_, rfl⟩
    have hQ : (plT (fwS [wMagic]) T).length = N := by rw [plT_len _ [] T HM.out.2.1, hN]
    obtain ⟨n1, n2⟩ := rows_len HW.out.1 HW.out.2.1 HW.out.2.2.1
    rw [hN] at n1 n2 R6 ⊢
    have HN : Hid ((rwT [] T).length = N ∧ (plT (fwS [wMagic]) T).length = N) := ⟨hN, hQ⟩
    have H6 : Hid (Below w.heap.size w w6 ∧ Rws 64 w6 w5.heap.size (.slice x6 N c6) (rwT [] T) ∧ Ins w6 w4.heap.size (.slice x5 n5 c5) (plF (fwS [wMagic]) T)) := ⟨H5.out.2.2.1.trans (b6.mono H5.out.2.2.1.size), R6, H5.out.2.2.2.below b6⟩
    have HSZ : Hid (∀ z ∈ (rwT [] T).zip (plT (fwS [wMagic]) T), SzOk z) := szT _ _ T HM.out.2.1
    have hfs := field_seen (.slice x6 N c6) (.int .i64 (24 + tbT T)) (.int .i64 0) (.string ⟨#[]⟩) w6
    have Z0 : Hid (ZRs w6 w6.heap.size (.slice none 0 0) [] ∧ Below w6.heap.size w6 w6) := ⟨⟨rfl, .inl ⟨rfl, rfl⟩⟩, Below.refl _ _⟩
    clear hN hQ b6 R6 H5
    go_wp2
    clear hfs
    go_loopw [15, 16] (fun v15 v16 wr => ∃ (i : Nat) (v : Value), i ≤ N ∧ v16 = .int .i64 i ∧ v15 = v ∧ Hid (ZRs wr w6.heap.size v (((rwT [] T).zip (plT (fwS [wMagic]) T)).take i) ∧ Below w6.heap.size w6 wr)) (fun _ i _ => N - (intOf i).toNat)
    case atStart => exact ⟨0, _, Nat.zero_le _, rfl, rfl, Z0⟩
    case round =>
      obtain ⟨i, v, hi, rfl, rfl, HO⟩ := hrel
      clear Z0
      by_cases hlt : i < N
      · obtain ⟨r, hr⟩ : ∃ r, (rwT [] T)[i]? = some r := ⟨_, List.getElem?_eq_getElem (by rw [HN.out.1]; exact hlt)⟩
        obtain ⟨q, hq⟩ : ∃ r, (plT (fwS [wMagic]) T)[i]? = some r := ⟨_, List.getElem?_eq_getElem (by rw [HN.out.2]; exact hlt)⟩
        have hz : ((rwT [] T).zip (plT (fwS [wMagic]) T))[i]? = some (r, q) := List.getElem?_zip_eq_some.2 ⟨hr, hq⟩
        have hso : SzOk (r, q) := HSZ.out _ (List.mem_of_getElem? hz)
        have hxl : n5 = (plT (fwS [wMagic]) T).length := by
          obtain ⟨x', c', e⟩ := H6.out.2.2.shape
          injection e with _ e _
          rw [e]; unfold plF; rw [List.length_map]
        rw [HN.out.2] at hxl
        have HI6 := H6.out.2.2
        subst hxl
        obtain ⟨gx, rfl, -, hgx, c0, c1, c2, c3⟩ := rrws_at H6.out.2.1 i r hr
        obtain ⟨gp, rfl, -, hgp, c4⟩ := HI6.at i q.1 (by unfold plF; rw [List.getElem?_map, hq]; rfl)
        have d0 := (HO.out.2.cell (p := ⟨gx, i * 4, none⟩) hgx).trans c0
        have d1 := (HO.out.2.cell (p := ⟨gx, i * 4 + 1, none⟩) hgx).trans c1
        have d2 := (HO.out.2.cell (p := ⟨gx, i * 4 + 2, none⟩) hgx).trans c2
        have d3 := (HO.out.2.cell (p := ⟨gx, i * 4 + 3, none⟩) hgx).trans c3
        have d4 := (HO.out.2.cell (p := ⟨gp, i, none⟩) hgp).trans c4
        have HTK : Hid (((rwT [] T).zip (plT (fwS [wMagic]) T)).take (i + 1) = ((rwT [] T).zip (plT (fwS [wMagic]) T)).take i ++ [(r, q)]) := by
          rw [Hid, List.take_add_one, hz]; rfl
        have HSO : Hid (SzOk (r, q)) := hso
        have HTL : Hid ((((rwT [] T).zip (plT (fwS [wMagic]) T)).take i).length ≤ i) := by rw [Hid, List.length_take]; omega
        clear hr hq hz hso HI6 c0 c1 c2 c3 c4
        go_upto_region 11 with fail
        have D0 : wr.drew.cell? ⟨gx, i * 4, none⟩ = some (.string r.1) := d0
        have D1 : wr.drew.cell? ⟨gx, i * 4 + 1, none⟩ = some (.int .i64 r.2.1) := d1
        have D2 : wr.drew.cell? ⟨gx, i * 4 + 2, none⟩ = some (.bool r.2.2.1) := d2
        have D3 : wr.drew.cell? ⟨gx, i * 4 + 3, none⟩ = some (.string r.2.2.2) := d3
        have D4 : wr.drew.cell? ⟨gp, i, none⟩ = some (.int .i64 (q.1 : Int)) := d4
        have bb : ∀ o, Below wr.heap.size wr (wr.drew.alloc o) := fun o => (Below.refl _ _).drew.alloc (Nat.le_refl _) o
        have hgx2 : gx < wr.heap.size := Nat.lt_of_lt_of_le hgx HO.out.2.size
        have hgp2 : gp < wr.heap.size := Nat.lt_of_lt_of_le hgp HO.out.2.size
        go_region_held3 (fun W => W.cell? ⟨gx, i * 4, none⟩ = some (.string r.1) ∧ W.cell? ⟨gx, i * 4 + 1, none⟩ = some (.int .i64 r.2.1) ∧ W.cell? ⟨gx, i * 4 + 2, none⟩ = some (.bool r.2.2.1) ∧ W.cell? ⟨gx, i * 4 + 3, none⟩ = some (.string r.2.2.2) ∧ W.cell? ⟨gp, i, none⟩ = some (.int .i64 (q.1 : Int)))
          (first | exact ⟨D0, D1, D2, D3, D4⟩ | exact ⟨((bb _).cell (p := ⟨gx, i * 4, none⟩) hgx2).trans d0, ((bb _).cell (p := ⟨gx, i * 4 + 1, none⟩) hgx2).trans d1, ((bb _).cell (p := ⟨gx, i * 4 + 2, none⟩) hgx2).trans d2, ((bb _).cell (p := ⟨gx, i * 4 + 3, none⟩) hgx2).trans d3, ((bb _).cell (p := ⟨gp, i, none⟩) hgp2).trans d4⟩)
          (fail)
        clear d0 d1 d2 d3 d4 D0 D1 D2 D3 D4 bb hgx2 hgp2
        have S1 : Hid (St (wr.alloc (.cells #[.string r.1, .int .i64 r.2.1, .bool r.2.2.1, .string r.2.2.2, .int .i64 (q.1 : Int), .int .i64 0] 66)).drew wr.heap.size [.string r.1, .int .i64 r.2.1, .bool r.2.2.1, .string r.2.2.2, .int .i64 (q.1 : Int), .int .i64 0] ∧ Below wr.heap.size wr (wr.alloc (.cells #[.string r.1, .int .i64 r.2.1, .bool r.2.2.1, .string r.2.2.2, .int .i64 (q.1 : Int), .int .i64 0] 66)).drew) := ⟨(St.new wr _ _).drew, ((Below.refl _ _).alloc (Nat.le_refl _) _).drew⟩
        obtain ⟨K, hK⟩ : ∃ K, wr.heap.size = K := ⟨_, rfl⟩
        have HK : Hid (wr.heap.size = K) := hK
        generalize (wr.alloc (.cells #[.string r.1, .int .i64 r.2.1, .bool r.2.2.1, .string r.2.2.2, .int .i64 (q.1 : Int), .int .i64 0] 66)).drew = wx at *
        rw [hK] at S1 ⊢
        clear hK
        have k1 := S1.out.1.get 1 _ rfl
        by_cases hkd : r.2.1 = 1
        · have hq2 : q.2 = r.2.2.2.size := by have h := HSO.out; unfold SzOk at h; rw [if_pos hkd] at h; exact h
          have S2 := S1.out.1.set 5 (.int .i64 (r.2.2.2.size : Int)) (by show 5 < 6; decide)
          have b2 : Below wr.heap.size wr (wx.setCell ⟨K, 5, none⟩ (.int .i64 (r.2.2.2.size : Int))) := by
            rw [HK.out]
            exact S1.out.2.setCell (p := ⟨K, 5, none⟩) (Nat.le_refl _) _
          rw [← hq2] at S2 b2
          rw [hkd] at k1
          have k3 := S1.out.1.get 3 _ rfl
          have k5 := S1.out.1.get 5 _ rfl
          have y5 := S1.out.1.fr 5 (by show 5 < 6; decide)
          have hKl := S1.out.1.lt
          have hq3 : (r.2.2.2.size : Int) = (q.2 : Int) := by omega
          clear hq2 hkd
          go_upto_region 14 with fail
          clear k1 k3 k5 y5 hKl
          generalize wx.setCell ⟨K, 5, none⟩ (.int .i64 (q.2 : Int)) = wy at *
          clear hq3 S1
          have Z2 := HO.out.1.below b2
          obtain ⟨v3, w3', hap, Z3, b3⟩ := zrs_app wy w6.heap.size _ _ (r, q) Z2 (by have := HTL.out; omega) (by have := HO.out.2.size; have := b2.size; omega)
          have HR : Hid _ := hap
          have HO3 : Hid (ZRs w3' w6.heap.size v3 (((rwT [] T).zip (plT (fwS [wMagic]) T)).take (i + 1)) ∧ Below w6.heap.size w6 w3') := ⟨by rw [HTK.out]; exact Z3, HO.out.2.trans ((b2.mono HO.out.2.size).trans b3)⟩
          clear hap Z2 Z3 b3 b2
          have k0 := S2.get 0 _ rfl
          have k1 := S2.get 1 _ rfl
          have k2 := S2.get 2 _ rfl
          have k3 := S2.get 3 _ rfl
          have k4 := S2.get 4 _ rfl
          have k5 := S2.get 5 _ rfl
          have hKl := S2.lt
          clear S2
          go_wp2_with (at_builtin; refine Lib.wpList_append_run _ rfl _ _ _ _ rfl _ _ rfl rfl _ _ HR.out ?_)
          exact ⟨⟨i + 1, v3, by omega, by go_num, rfl, HO3⟩, by simp [intOf]; omega⟩
        · have hq2 : q.2 = 0 := by have h := HSO.out; unfold SzOk at h; rw [if_neg hkd] at h; exact h
          have hkb : (r.2.1 == 1) = false := by simpa using hkd
          have S2 := S1.out.1
          have b2 : Below wr.heap.size wr wx := by rw [HK.out]; exact S1.out.2
          rw [show (0 : Int) = (q.2 : Int) by omega] at S2
          clear hq2 hkd
          go_upto_region 14 with fail
          clear k1 hkb
          generalize hwy : wx = wy at *
          clear hwy S1
          have Z2 := HO.out.1.below b2
          obtain ⟨v3, w3', hap, Z3, b3⟩ := zrs_app wy w6.heap.size _ _ (r, q) Z2 (by have := HTL.out; omega) (by have := HO.out.2.size; have := b2.size; omega)
          have HR : Hid _ := hap
          have HO3 : Hid (ZRs w3' w6.heap.size v3 (((rwT [] T).zip (plT (fwS [wMagic]) T)).take (i + 1)) ∧ Below w6.heap.size w6 w3') := ⟨by rw [HTK.out]; exact Z3, HO.out.2.trans ((b2.mono HO.out.2.size).trans b3)⟩
          clear hap Z2 Z3 b3 b2
          have k0 := S2.get 0 _ rfl
          have k1 := S2.get 1 _ rfl
          have k2 := S2.get 2 _ rfl
          have k3 := S2.get 3 _ rfl
          have k4 := S2.get 4 _ rfl
          have k5 := S2.get 5 _ rfl
          have hKl := S2.lt
          clear S2
          go_wp2_with (at_builtin; refine Lib.wpList_append_run _ rfl _ _ _ _ rfl _ _ rfl rfl _ _ HR.out ?_)
          exact ⟨⟨i + 1, v3, by omega, by go_num, rfl, HO3⟩, by simp [intOf]; omega⟩
      · obtain rfl : i = N := by omega
        have HZ : Hid (ZRs wr w6.heap.size u15 ((rwT [] T).zip (plT (fwS [wMagic]) T))) := by
          have h := HO.out.1
          rw [List.take_of_length_le (by rw [List.length_zip, HN.out.1, HN.out.2]; omega)] at h
          exact h
        have HB : Hid (Below w.heap.size w wr) := H6.out.1.trans (HO.out.2.mono H6.out.1.size)
        clear HO
        go_wp2
        go_ret3
        refine ⟨HB.out, .inr ⟨HAF.out, _, rfl, ?_⟩⟩
        rw [HTT.out]
        exact ⟨HZ.out.1, HZ.out.2.imp id fun ⟨g, cap, cur, a, b, r⟩ => ⟨g, cap, cur, a, Nat.le_trans H6.out.1.size b, r⟩⟩
  · obtain ⟨F1, hF1⟩ : ∃ F, (prs l).ansF.1 = F := ⟨_, rfl⟩
    obtain ⟨F2, hF2⟩ : ∃ F, (prs l).ansF.2 = F := ⟨_, rfl⟩
    have HFF : Hid ((prs l).ansF.1 = F1 ∧ (prs l).ansF.2 = F2) := ⟨hF1, hF2⟩
    rw [hF1] at aF
    have hb : (F1 != 0) = true := by simpa using aF
    have HE : Hid (F1 ≠ 0) := aF
    rw [hF1, hF2]
    clear hF1 hF2 aF
    go_wp2
    go_ret3
    exact ⟨H3.out.2.2, .inl ⟨by rw [HFF.out.1]; exact HE.out, by rw [HFF.out.1, HFF.out.2]; rfl⟩⟩

end Go.Proofs.Ythlioedahoiahaa.Ls
namespace Go.Proofs.Ythlioedahoiahaa.Ls
open Go.RowKit Go.Proofs.Ythlioedahoiahaa

set_option maxHeartbeats 4000000 in
set_option maxRecDepth 10000 in
theorem alike_any (g N cp B : Nat) (L : List RW) (P : List (Nat × Nat)) (v : Value) (w : World) (hL : LR w g N cp L P) (hP : P.length = N) (hZ : ZRs w B v (L.zip P)) :
    Calls Try.prog 8 #[.slice (some ⟨g, 0, none⟩) N cp, v] w fun e w' => e = .returned (.bool true) ∧ Below w.heap.size w w' := by
  have HH : Hid (LR w g N cp L P ∧ P.length = N ∧ ZRs w B v (L.zip P)) := ⟨hL, hP, hZ⟩
  obtain ⟨x2, c2, hv⟩ := hZ.shape
  have hl : (L.zip P).length = N := by rw [List.length_zip, hL.len, hP]; omega
  rw [hl] at hv
  subst hv
  have hn := hL.nc
  have hcb := hL.cb
  clear hL hP hZ hl
  go_enter Try.func8, Try.ntmps8
  go_wp2
  go_loopw [15] (fun ix wr => ∃ i : Nat, i ≤ N ∧ ix = .int .i64 i ∧ Hid (Below w.heap.size w wr)) (fun i _ => N - (intOf i).toNat)
  case atStart => exact ⟨0, Nat.zero_le _, rfl, Below.refl _ _⟩
  case round =>
    obtain ⟨i, hi, rfl, HB⟩ := hrel
    by_cases hlt : i < N
    · obtain ⟨r, hr⟩ : ∃ r, L[i]? = some r := ⟨_, List.getElem?_eq_getElem (by rw [HH.out.1.len]; exact hlt)⟩
      obtain ⟨q, hq⟩ : ∃ r, P[i]? = some r := ⟨_, List.getElem?_eq_getElem (by rw [HH.out.2.1]; exact hlt)⟩
      have hz : (L.zip P)[i]? = some (r, q) := List.getElem?_zip_eq_some.2 ⟨hr, hq⟩
      obtain ⟨c0, c1, c2', c3, c4, c5⟩ := lr_at HH.out.1 i r q hr hq
      obtain ⟨gz, rfl, -, hgz, z0, z1, z2, z3, z4, z5⟩ := zrs_at HH.out.2.2 i (r, q) hz
      have hg := HH.out.1.lt
      have b := HB.out
      have d0 := (b.cell (p := ⟨g, i * 6, none⟩) hg).trans c0
      have d1 := (b.cell (p := ⟨g, i * 6 + 1, none⟩) hg).trans c1
      have d2 := (b.cell (p := ⟨g, i * 6 + 2, none⟩) hg).trans c2'
      have d3 := (b.cell (p := ⟨g, i * 6 + 3, none⟩) hg).trans c3
      have d4 := (b.cell (p := ⟨g, i * 6 + 4, none⟩) hg).trans c4
      have d5 := (b.cell (p := ⟨g, i * 6 + 5, none⟩) hg).trans c5
      have y0 := (b.cell (p := ⟨gz, i * 6, none⟩) hgz).trans z0
      have y1 := (b.cell (p := ⟨gz, i * 6 + 1, none⟩) hgz).trans z1
      have y2 := (b.cell (p := ⟨gz, i * 6 + 2, none⟩) hgz).trans z2
      have y3 := (b.cell (p := ⟨gz, i * 6 + 3, none⟩) hgz).trans z3
      have y4 := (b.cell (p := ⟨gz, i * 6 + 4, none⟩) hgz).trans z4
      have y5 := (b.cell (p := ⟨gz, i * 6 + 5, none⟩) hgz).trans z5
      have hgw := Nat.lt_of_lt_of_le hg b.size
      have hgzw := Nat.lt_of_lt_of_le hgz b.size
      have HEND : Hid (Below w.heap.size w ((wr.alloc (.cells #[.string r.1, .int .i64 r.2.1, .bool r.2.2.1, .string r.2.2.2, .int .i64 (q.1 : Int), .int .i64 (q.2 : Int)] 46)).alloc (.cells #[.string r.1, .int .i64 r.2.1, .bool r.2.2.1, .string r.2.2.2, .int .i64 (q.1 : Int), .int .i64 (q.2 : Int)] 66))) := (b.alloc b.size _).alloc (by rw [World.size_alloc]; have := b.size; omega) _
      have e1 : (r.2.1 != r.2.1) = false := by simp
      have e2 : (r.2.2.1 != r.2.2.1) = false := by simp
      have e4 : ((q.1 : Int) != (q.1 : Int)) = false := by simp
      have e5 : ((q.2 : Int) != (q.2 : Int)) = false := by simp
      clear hr hq hz c0 c1 c2' c3 c4 c5 z0 z1 z2 z3 z4 z5 b hg hgz
      go_wp2
      go_roundw
      case rel => exact ⟨i + 1, by omega, by go_num, HEND⟩
      case measure => simp [intOf]; omega
    · obtain rfl : i = N := by omega
      go_wp2
      go_ret
      exact ⟨rfl, HB.out⟩

set_option maxHeartbeats 1000000 in
theorem alike_none (w : World) : Calls Try.prog 8 #[.slice none 0 0, .slice none 0 0] w fun e w' => e = .returned (.bool true) ∧ Below w.heap.size w w' := by
  go_enter Try.func8, Try.ntmps8
  go_wp2
  go_loopw [15] (fun ix wr => ix = .int .i64 0 ∧ wr = w) (fun _ _ => 0)
  case atStart => exact ⟨rfl, rfl⟩
  case round =>
    obtain ⟨rfl, rfl⟩ := hrel
    go_wp2
    go_ret
    exact ⟨rfl, Below.refl _ _⟩

end Go.Proofs.Ythlioedahoiahaa.Ls
namespace Go.Proofs.Ythlioedahoiahaa.Ls
open Go.RowKit Go.Proofs.Ythlioedahoiahaa

set_option maxHeartbeats 4000000 in
set_option maxRecDepth 10000 in
theorem rows_walk (b : ByteArray) (w : World) (hb : b.size ≤ 1048576) :
    Calls Try.prog 3 #[.string b] w fun e w' => e = .returned (.bool true) ∧ Below w.heap.size w w' := by
  obtain ⟨l, rfl⟩ : ∃ l, b = NB.ba l := ⟨b.data.toList, (NB.ba_list b).symm⟩
  have hl : l.length ≤ 1048576 := by rw [NB.ba_size] at hb; exact hb
  clear hb
  go_enter Try.func3, Try.ntmps3
  have CW := lawake_any w
  go_wp2_with fail
  refine CW.mono ?_
  rintro e1 w1 ⟨rfl, b1⟩
  have HB1 : Hid (Below w.heap.size w w1) := b1
  have CL := list_any l w1 hl
  clear CW b1
  go_wp2_with fail
  refine CL.mono ?_
  rintro e2 w2 ⟨b2, hcase⟩
  have HB2 : Hid (Below w.heap.size w w2) := HB1.out.trans (b2.mono HB1.out.size)
  clear CL b2 HB1
  rcases hcase with ⟨hn, rfl⟩ | ⟨h0, g, rfl, hg, hL⟩
  · obtain ⟨F1, hF1⟩ : ∃ F, (prs l).ansF.1 = F := ⟨_, rfl⟩
    obtain ⟨F2, hF2⟩ : ∃ F, (prs l).ansF.2 = F := ⟨_, rfl⟩
    have HF : Hid ((prs l).ansF.1 = F1 ∧ (prs l).ansF.2 = F2) := ⟨hF1, hF2⟩
    rw [hF1, hF2]
    clear hF1 hF2
    have bA : Below w2.heap.size w2 (w2.alloc (.cells #[.int .i64 F1, .int .i64 F2] 26)) := (Below.refl _ _).alloc (Nat.le_refl _) _
    have H3 : Hid (St (w2.alloc (.cells #[.int .i64 F1, .int .i64 F2] 26)) w2.heap.size [.int .i64 F1, .int .i64 F2] ∧ Below w.heap.size w (w2.alloc (.cells #[.int .i64 F1, .int .i64 F2] 26)) ∧ Below w2.heap.size w2 (w2.alloc (.cells #[.int .i64 F1, .int .i64 F2] 26))) := ⟨St.new w2 _ _, HB2.out.trans (bA.mono HB2.out.size), bA⟩
    clear bA
    go_upto_region 4 with fail
    obtain ⟨D, hD⟩ : ∃ D, w2.heap.size = D := ⟨_, rfl⟩
    have HD : Hid (w2.heap.size = D) := hD
    rw [hD] at H3 ⊢
    clear hD
    generalize w2.alloc (.cells #[.int .i64 F1, .int .i64 F2] 26) = w3 at *
    have CR := rlist_any l w3 hl
    go_wp2_with fail
    refine CR.mono ?_
    rintro e4 w4 ⟨b4, hc4⟩
    clear CR
    rcases hc4 with ⟨hn4, rfl⟩ | ⟨h0, -⟩
    · have S4 := H3.out.1.same b4.size (b4.block _ H3.out.1.lt)
      have HB4 : Hid (Below w.heap.size w w4) := H3.out.2.1.trans (b4.mono H3.out.2.1.size)
      have s0 := S4.get 0 _ rfl
      have s1 := S4.get 1 _ rfl
      have hSl := S4.lt
      have CA := alike_none w4
      rw [HF.out.1, HF.out.2]
      have HS4 : Hid (St w4 D [.int .i64 F1, .int .i64 F2]) := S4
      clear hn4 b4 S4 s0 s1
      go_wp2_with fail
      refine CA.mono ?_
      rintro e5 w5 ⟨rfl, b5⟩
      have S5 := HS4.out.same b5.size (b5.block _ HS4.out.lt)
      have s0 := S5.get 0 _ rfl
      have s1 := S5.get 1 _ rfl
      have hSl5 := S5.lt
      have HB5 : Hid (Below w.heap.size w w5) := HB4.out.trans (b5.mono HB4.out.size)
      have e1 : (F1 == F1) = true := by simp
      have e2 : (F2 == F2) = true := by simp
      clear CA S5 b5
      go_wp2
      go_ret
      exact ⟨rfl, HB5.out⟩
    · rw [h0] at hn
      exact absurd rfl hn
  · have HL2 : Hid (w1.heap.size ≤ g ∧ LR w2 g (rwT [] (prs l).c.root).length (rwT [] (prs l).c.root).length (rwT [] (prs l).c.root) (plT (fwS [wMagic]) (prs l).c.root)) := ⟨hg, hL⟩
    clear hg hL
    have bA : Below w2.heap.size w2 (w2.alloc (.cells #[.int .i64 0, .int .i64 0] 26)) := (Below.refl _ _).alloc (Nat.le_refl _) _
    have H3 : Hid (St (w2.alloc (.cells #[.int .i64 0, .int .i64 0] 26)) w2.heap.size [.int .i64 0, .int .i64 0] ∧ Below w.heap.size w (w2.alloc (.cells #[.int .i64 0, .int .i64 0] 26)) ∧ Below w2.heap.size w2 (w2.alloc (.cells #[.int .i64 0, .int .i64 0] 26))) := ⟨St.new w2 _ _, HB2.out.trans (bA.mono HB2.out.size), bA⟩
    clear bA
    go_upto_region 4 with fail
    obtain ⟨D, hD⟩ : ∃ D, w2.heap.size = D := ⟨_, rfl⟩
    have HD : Hid (w2.heap.size = D) := hD
    rw [hD] at H3 ⊢
    clear hD
    generalize w2.alloc (.cells #[.int .i64 0, .int .i64 0] 26) = w3 at *
    have CR := rlist_any l w3 hl
    go_wp2_with fail
    refine CR.mono ?_
    rintro e4 w4 ⟨b4, hc4⟩
    clear CR
    rcases hc4 with ⟨hn4, -⟩ | ⟨-, v4, rfl, Z4⟩
    · rw [h0] at hn4
      exact absurd rfl hn4
    · have S4 := H3.out.1.same b4.size (b4.block _ H3.out.1.lt)
      have HB4 : Hid (Below w.heap.size w w4) := H3.out.2.1.trans (b4.mono H3.out.2.1.size)
      have L4 := (HL2.out.2.below (by rw [HD.out]; exact H3.out.2.2)).below b4
      have hok : okT (prs l).c.root := by
        rcases prs_ans l with ⟨-, -, -, q1, q2, q3, -⟩ | ⟨q, -⟩
        · exact NS.ok_tree _ [] 24 (ckT_off q3) q1 q2
        · rw [h0] at q; exact absurd rfl q
      have CA := alike_any g _ _ _ _ _ v4 w4 L4 (plT_len _ [] _ hok) Z4
      have HS4 : Hid (St w4 D [.int .i64 0, .int .i64 0]) := S4
      clear b4 S4 L4 Z4 hok h0 HL2
      generalize (rwT [] (prs l).c.root).length = N at *
      go_wp2_with fail
      refine CA.mono ?_
      rintro e5 w5 ⟨rfl, b5⟩
      have S5 := HS4.out.same b5.size (b5.block _ HS4.out.lt)
      have s0 := S5.get 0 _ rfl
      have s1 := S5.get 1 _ rfl
      have hSl5 := S5.lt
      have HB5 : Hid (Below w.heap.size w w5) := HB4.out.trans (b5.mono HB4.out.size)
      clear CA S5 b5
      go_wp2
      go_ret
      exact ⟨rfl, HB5.out⟩

end Go.Proofs.Ythlioedahoiahaa.Ls
