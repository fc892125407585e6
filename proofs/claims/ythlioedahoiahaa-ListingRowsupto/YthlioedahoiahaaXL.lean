/- LsP LsA LsB LsC LsD TvI TvJ LsE LsW, gathered (own text of the verifier). -/
import Derived.Test.YthlioedahoiahaaNa3
import Derived.Test.YthlioedahoiahaaNp1
import Derived.Test.YthlioedahoiahaaTvF
import Derived.Deep.RegionLaw
import Derived.Test.YthlioedahoiahaaNp5
import Derived.Test.YthlioedahoiahaaTvG
import Derived.Test.YthlioedahoiahaaXQ
namespace Go.Proofs.Ythlioedahoiahaa.Ls
open Go.RowKit Go.Proofs.Ythlioedahoiahaa

mutual
/-- A row for each node: where its contents lie, and their size; p bytes stand ahead of the node. -/
def plT (p : Nat) : Tr → List (Nat × Nat)
  | .mk k e t nms ks => if k = 1 then [(p + fwS ([wOpen, wType, wRegular] ++ (if e then [wExec, wNone] else []) ++ [wContents]) + 8, t.size)] else if k = 2 then [(0, 0)] else (0, 0) :: plL (p + fwS [wOpen, wType, wDirectory]) nms ks
def plL (p : Nat) : List ByteArray → List Tr → List (Nat × Nat)
  | s :: nms, T :: ks => plT (p + fwS [wEntry, wOpen, wName, s, wNode]) T ++ plL (p + fwS [wEntry, wOpen, wName, s, wNode] + fwS (wdT T) + fwS [wClose]) nms ks
  | _, _ => []
end
theorem plL_take : ∀ (nms : List ByteArray) (ks : List Tr) (p i : Nat) (s : ByteArray) (K : Tr), nms[i]? = some s → ks[i]? = some K → plL p (nms.take (i + 1)) (ks.take (i + 1)) = plL p (nms.take i) (ks.take i) ++ plT (p + fwS (wdL (nms.take i) (ks.take i)) + fwS [wEntry, wOpen, wName, s, wNode]) K
  | [], ks, p, i, s, K, h, _ => by simp at h
  | a :: nms, [], p, i, s, K, _, h => by simp at h
  | a :: nms, T :: ks, p, 0, s, K, h1, h2 => by
    simp at h1 h2
    subst h1 h2
    simp [plL, wdL, fwS]
  | a :: nms, T :: ks, p, i + 1, s, K, h1, h2 => by
    have := plL_take nms ks (p + fwS [wEntry, wOpen, wName, a, wNode] + fwS (wdT T) + fwS [wClose]) i s K (by simpa using h1) (by simpa using h2)
    rw [List.take_succ_cons, List.take_succ_cons, List.take_succ_cons, List.take_succ_cons, plL, plL, this, List.append_assoc, wdL, fwS_app, fwS_app, fwS_app]
    rw [show p + (fwS [wEntry, wOpen, wName, a, wNode] + fwS (wdT T) + fwS [wClose] + fwS (wdL (List.take i nms) (List.take i ks))) = p + fwS [wEntry, wOpen, wName, a, wNode] + fwS (wdT T) + fwS [wClose] + fwS (wdL (List.take i nms) (List.take i ks)) by omega]
mutual
theorem plT_len (p : Nat) (ns : List ByteArray) : ∀ T : Tr, okT T → (plT p T).length = (rwT ns T).length
  | .mk k e t nms ks, h => by
    rw [okT] at h
    obtain ⟨hk, hn, -, hL⟩ := h
    rw [plT, rwT]
    rcases hk with rfl | rfl | rfl
    · obtain ⟨rfl, rfl⟩ := hn (by decide)
      rw [if_pos rfl]; simp [rwL]
    · obtain ⟨rfl, rfl⟩ := hn (by decide)
      rw [if_neg (by decide), if_pos rfl]; simp [rwL]
    · rw [if_neg (by decide), if_neg (by decide), List.length_cons, List.length_cons, plL_len _ ns nms ks hL]
theorem plL_len (p : Nat) (ns : List ByteArray) : ∀ (nms : List ByteArray) (ks : List Tr), okL nms ks → (plL p nms ks).length = (rwL ns nms ks).length
  | s :: nms, T :: ks, h => by
    rw [okL] at h
    rw [plL, rwL, List.length_append, List.length_append, plT_len _ _ T h.2.1, plL_len _ ns nms ks h.2.2]
  | [], ks, _ => by rw [plL, rwL] <;> simp
  | _ :: _, [], _ => by rw [plL, rwL] <;> simp
end
theorem plT_pos (p : Nat) (T : Tr) : 1 ≤ (plT p T).length := by
  obtain ⟨k, e, t, nms, ks⟩ := T
  rw [plT]
  split
  · simp
  · split <;> simp
theorem plL_part (p : Nat) (nms : List ByteArray) (ks : List Tr) (i : Nat) : (plL p (nms.take i) (ks.take i)).length ≤ (plL p nms ks).length := by
  have h : ∀ (nms : List ByteArray) (ks : List Tr) (p i : Nat), ∃ X, plL p nms ks = plL p (nms.take i) (ks.take i) ++ X := by
    intro nms
    induction nms with
    | nil => intro ks p i; exact ⟨[], by rw [plL, List.take_nil, plL] <;> simp⟩
    | cons a nms ih =>
      intro ks p i
      cases ks with
      | nil => exact ⟨[], by rw [plL, List.take_nil, plL] <;> simp⟩
      | cons T ks =>
        cases i with
        | zero => exact ⟨plL p (a :: nms) (T :: ks), by simp [plL]⟩
        | succ i =>
          obtain ⟨X, hX⟩ := ih ks (p + fwS [wEntry, wOpen, wName, a, wNode] + fwS (wdT T) + fwS [wClose]) i
          refine ⟨X, ?_⟩
          rw [List.take_succ_cons, List.take_succ_cons, plL, plL, hX, List.append_assoc]
  obtain ⟨X, hX⟩ := h nms ks p i
  rw [hX, List.length_append]
  omega

/-- The ruler in block R, over the N rows in block g: those of P are measured, at bytes are passed. -/
structure RL (w : World) (R g N cp : Nat) (L : List RW) (P : List (Nat × Nat)) (at' : Nat) : Prop where
  st : ∃ x, St w R [.slice x (N - P.length) (cp - P.length), .int .i64 (at' : Int)] ∧ (P.length < N → x = some ⟨g, P.length * 6, none⟩)
  row : ∀ j r, L[j]? = some r → w.cell? ⟨g, j * 6, none⟩ = some (.string r.1) ∧ w.cell? ⟨g, j * 6 + 1, none⟩ = some (.int .i64 r.2.1) ∧ w.cell? ⟨g, j * 6 + 2, none⟩ = some (.bool r.2.2.1) ∧ w.cell? ⟨g, j * 6 + 3, none⟩ = some (.string r.2.2.2) ∧ w.cell? ⟨g, j * 6 + 4, none⟩ = some (.int .i64 ((P.getD j (0, 0)).1 : Int)) ∧ w.cell? ⟨g, j * 6 + 5, none⟩ = some (.int .i64 ((P.getD j (0, 0)).2 : Int))
  fr : ∀ j, j < N * 6 → w.frozen? ⟨g, j, none⟩ = false
  len : L.length = N
  pn : P.length ≤ N
  nc : N ≤ cp
  cb : cp ≤ 1073741824
  ne : R ≠ g
  lt : g < w.heap.size
theorem RL.ltR {w : World} {R g N cp : Nat} {L : List RW} {P : List (Nat × Nat)} {a : Nat} (h : RL w R g N cp L P a) : R < w.heap.size := by
  obtain ⟨x, S, -⟩ := h.st
  exact S.lt
theorem RL.same {w w' : World} {R g N cp : Nat} {L : List RW} {P : List (Nat × Nat)} {a : Nat} (h : RL w R g N cp L P a) (hs : w.heap.size ≤ w'.heap.size) (eR : w'.heap[R]? = w.heap[R]?) (eg : w'.heap[g]? = w.heap[g]?) : RL w' R g N cp L P a := by
  obtain ⟨x, S, hx⟩ := h.st
  have c : ∀ j, w'.cell? ⟨g, j, none⟩ = w.cell? ⟨g, j, none⟩ := fun j => World.cell?_of_block (w := w) (w' := w') (a := ⟨g, j, none⟩) eg
  refine ⟨⟨x, S.same hs eR, hx⟩, fun j r hr => ?_, fun j hj => ?_, h.len, h.pn, h.nc, h.cb, h.ne, Nat.lt_of_lt_of_le h.lt hs⟩
  · rw [c, c, c, c, c, c]; exact h.row j r hr
  · rw [World.frozen?_of_block (w := w) (w' := w') (a := ⟨g, j, none⟩) eg]; exact h.fr j hj
theorem RL.below {w w' : World} {R g N cp : Nat} {L : List RW} {P : List (Nat × Nat)} {a : Nat} (h : RL w R g N cp L P a) (b : Below w.heap.size w w') : RL w' R g N cp L P a :=
  h.same b.size (b.block R h.ltR) (b.block g h.lt)
/-- So many bytes are passed. -/
theorem RL.pass {w : World} {R g N cp : Nat} {L : List RW} {P : List (Nat × Nat)} {a : Nat} (h : RL w R g N cp L P a) (b : Nat) : RL (w.setCell ⟨R, 1, none⟩ (.int .i64 (b : Int))) R g N cp L P b := by
  obtain ⟨x, S, hx⟩ := h.st
  have eg : (w.setCell ⟨R, 1, none⟩ (.int .i64 (b : Int))).heap[g]? = w.heap[g]? := Below.heap_setCell _ _ _ g (fun e => h.ne e.symm)
  have c : ∀ j, (w.setCell ⟨R, 1, none⟩ (.int .i64 (b : Int))).cell? ⟨g, j, none⟩ = w.cell? ⟨g, j, none⟩ := fun j => World.cell?_of_block (w := w) (a := ⟨g, j, none⟩) eg
  refine ⟨⟨x, (S.set 1 (.int .i64 (b : Int)) (by show 1 < 2; decide)).cast rfl, hx⟩, fun j r hr => ?_, fun j hj => ?_, h.len, h.pn, h.nc, h.cb, h.ne, by rw [World.size_setCell]; exact h.lt⟩
  · rw [c, c, c, c, c, c]; exact h.row j r hr
  · rw [World.frozen?_of_block (w := w) (a := ⟨g, j, none⟩) eg]; exact h.fr j hj
theorem getD_snoc (P : List (Nat × Nat)) (j : Nat) : (P ++ [(0, 0)]).getD j (0, 0) = P.getD j (0, 0) := by
  rw [List.getD_eq_getElem?_getD, List.getD_eq_getElem?_getD]
  by_cases h : j < P.length
  · rw [List.getElem?_append_left h]
  · rw [List.getElem?_append_right (by omega), List.getElem?_eq_none (l := P) (by omega)]
    by_cases h2 : j = P.length
    · subst h2; simp
    · rw [List.getElem?_eq_none (by simp; omega)]
/-- A row is taken. -/
theorem RL.pop {w : World} {R g N cp : Nat} {L : List RW} {P : List (Nat × Nat)} {a : Nat} (h : RL w R g N cp L P a) (x' : Option Addr) (hn : P.length < N) (hx' : P.length + 1 < N → x' = some ⟨g, (P.length + 1) * 6, none⟩) : RL (w.setCell ⟨R, 0, none⟩ (.slice x' (N - (P.length + 1)) (cp - (P.length + 1)))) R g N cp L (P ++ [(0, 0)]) a := by
  obtain ⟨x, S, hx⟩ := h.st
  have eg : (w.setCell ⟨R, 0, none⟩ (.slice x' (N - (P.length + 1)) (cp - (P.length + 1)))).heap[g]? = w.heap[g]? := Below.heap_setCell _ _ _ g (fun e => h.ne e.symm)
  have c : ∀ j, (w.setCell ⟨R, 0, none⟩ (.slice x' (N - (P.length + 1)) (cp - (P.length + 1)))).cell? ⟨g, j, none⟩ = w.cell? ⟨g, j, none⟩ := fun j => World.cell?_of_block (w := w) (a := ⟨g, j, none⟩) eg
  have hl : (P ++ [(0, 0)]).length = P.length + 1 := by simp
  refine ⟨⟨x', by rw [hl]; exact (S.set 0 (.slice x' (N - (P.length + 1)) (cp - (P.length + 1))) (by show 0 < 2; decide)).cast rfl, by rw [hl]; exact hx'⟩, fun j r hr => ?_, fun j hj => ?_, h.len, by rw [hl]; omega, h.nc, h.cb, h.ne, by rw [World.size_setCell]; exact h.lt⟩
  · rw [c, c, c, c, c, c, getD_snoc]; exact h.row j r hr
  · rw [World.frozen?_of_block (w := w) (a := ⟨g, j, none⟩) eg]; exact h.fr j hj
/-- The last row that was taken is told its place and size. -/
theorem RL.put {w : World} {R g N cp : Nat} {L : List RW} {P : List (Nat × Nat)} {a : Nat} (h : RL w R g N cp L (P ++ [(0, 0)]) a) (u v : Nat) : RL ((w.setCell ⟨g, P.length * 6 + 4, none⟩ (.int .i64 (u : Int))).setCell ⟨g, P.length * 6 + 5, none⟩ (.int .i64 (v : Int))) R g N cp L (P ++ [(u, v)]) a := by
  obtain ⟨x, S, hx⟩ := h.st
  have hl : (P ++ [(0, 0)]).length = P.length + 1 := by simp
  have hl' : (P ++ [(u, v)]).length = P.length + 1 := by simp
  have hpn := h.pn
  rw [hl] at hpn hx S
  have hR : ((w.setCell ⟨g, P.length * 6 + 4, none⟩ (.int .i64 (u : Int))).setCell ⟨g, P.length * 6 + 5, none⟩ (.int .i64 (v : Int))).heap[R]? = w.heap[R]? := (Below.heap_setCell _ _ _ R h.ne).trans (Below.heap_setCell _ _ _ R h.ne)
  have hsz : ((w.setCell ⟨g, P.length * 6 + 4, none⟩ (.int .i64 (u : Int))).setCell ⟨g, P.length * 6 + 5, none⟩ (.int .i64 (v : Int))).heap.size = w.heap.size := by rw [World.size_setCell, World.size_setCell]
  obtain ⟨r0, hr0⟩ : ∃ r, L[P.length]? = some r := ⟨_, List.getElem?_eq_getElem (by rw [h.len]; omega)⟩
  have h0 := h.row P.length r0 hr0
  have oth : ∀ i, i ≠ P.length * 6 + 4 → i ≠ P.length * 6 + 5 → ((w.setCell ⟨g, P.length * 6 + 4, none⟩ (.int .i64 (u : Int))).setCell ⟨g, P.length * 6 + 5, none⟩ (.int .i64 (v : Int))).cell? ⟨g, i, none⟩ = w.cell? ⟨g, i, none⟩ := fun i h1 h2 => (cell_other _ g i _ _ h2).trans (cell_other _ g i _ _ h1)
  have s5 : ((w.setCell ⟨g, P.length * 6 + 4, none⟩ (.int .i64 (u : Int))).setCell ⟨g, P.length * 6 + 5, none⟩ (.int .i64 (v : Int))).cell? ⟨g, P.length * 6 + 5, none⟩ = some (.int .i64 (v : Int)) := World.cell?_setCell_same _ _ _ ((cell_other _ g _ _ _ (by omega)).trans h0.2.2.2.2.2)
  have s4 : ((w.setCell ⟨g, P.length * 6 + 4, none⟩ (.int .i64 (u : Int))).setCell ⟨g, P.length * 6 + 5, none⟩ (.int .i64 (v : Int))).cell? ⟨g, P.length * 6 + 4, none⟩ = some (.int .i64 (u : Int)) := (cell_other _ g _ _ _ (by omega)).trans (World.cell?_setCell_same _ _ _ h0.2.2.2.2.1)
  refine ⟨⟨x, by rw [hl']; exact S.same (by rw [hsz]; exact Nat.le_refl _) hR, by rw [hl']; exact hx⟩, fun j r hr => ?_, fun j hj => ?_, h.len, by rw [hl']; exact hpn, h.nc, h.cb, h.ne, by rw [hsz]; exact h.lt⟩
  · have hj := h.row j r hr
    rw [getD_snoc] at hj
    by_cases e : j = P.length
    · subst e
      rw [oth _ (by omega) (by omega), oth _ (by omega) (by omega), oth _ (by omega) (by omega), oth _ (by omega) (by omega), s4, s5]
      refine ⟨hj.1, hj.2.1, hj.2.2.1, hj.2.2.2.1, ?_, ?_⟩
      · rw [List.getD_eq_getElem?_getD, List.getElem?_append_right (Nat.le_refl _)]; simp
      · rw [List.getD_eq_getElem?_getD, List.getElem?_append_right (Nat.le_refl _)]; simp
    · rw [oth _ (by omega) (by omega), oth _ (by omega) (by omega), oth _ (by omega) (by omega), oth _ (by omega) (by omega), oth _ (by omega) (by omega), oth _ (by omega) (by omega)]
      have e2 : (P ++ [(u, v)]).getD j (0, 0) = P.getD j (0, 0) := by
        rw [List.getD_eq_getElem?_getD, List.getD_eq_getElem?_getD]
        by_cases h : j < P.length
        · rw [List.getElem?_append_left h]
        · rw [List.getElem?_append_right (by omega), List.getElem?_eq_none (l := P) (by omega), List.getElem?_eq_none (by simp; omega)]
      rw [e2]
      exact hj
  · rw [World.frozen?_setCell, World.frozen?_setCell]; exact h.fr j hj

end Go.Proofs.Ythlioedahoiahaa.Ls
namespace Go.Proofs.Ythlioedahoiahaa.Ls
open Go.RowKit Go.Proofs.Ythlioedahoiahaa

/-- What skip leaves. -/
def SkP (R g N cp : Nat) (L : List RW) (P : List (Nat × Nat)) (b : Nat) (w : World) (e : Ending) (w' : World) : Prop := e = .returned (.tuple #[]) ∧ RL w' R g N cp L P b ∧ Ff R [g] w w'
theorem ff_more {R g : Nat} {w w' : World} (h : Ff R [] w w') : Ff R [g] w w' := ⟨h.os, h.tape, h.output, h.size, fun i h1 h2 _ => h.keep i h1 h2 (by simp)⟩
theorem ff_below {g C : Nat} {fp : List Nat} {a b : World} (h : Ff g fp a b) (hC : C ≤ a.heap.size) (hg : C ≤ g) (hf : ∀ x ∈ fp, C ≤ x) : Below C a b :=
  ⟨h.os, h.tape, h.output, h.size, fun k hk => h.keep k (by omega) (by omega) (fun hm => by have := hf k hm; omega)⟩
theorem fwS_take (Ws : List ByteArray) (i : Nat) : fwS (Ws.take i) ≤ fwS Ws := by
  conv => rhs; rw [← List.take_append_drop i Ws, fwS_app]
  omega

set_option maxHeartbeats 4000000 in
set_option maxRecDepth 10000 in
theorem skip_any (R g N cp : Nat) (L : List RW) (P : List (Nat × Nat)) (a : Nat) (x : Option Addr) (n c : Nat) (Ws : List ByteArray) (w : World) (hB : RL w R g N cp L P a) (hX : TxW w R x Ws) (hn : Ws.length = n) (hn2 : n ≤ 64) (hs : ∀ s ∈ Ws, s.size ≤ 1048576) (hl : a + fwS Ws ≤ 1073741824) :
    Calls Try.prog 25 #[.pointer (some ⟨R, 0, none⟩), .slice x n c] w (SkP R g N cp L P (a + fwS Ws) w) := by
  have HX : Hid (TxW w R x Ws ∧ Ws.length = n ∧ (∀ s ∈ Ws, s.size ≤ 1048576) ∧ a + fwS Ws ≤ 1073741824) := ⟨hX, hn, hs, hl⟩
  have HB0 : Hid (RL w R g N cp L P a) := hB
  obtain ⟨F, hF⟩ : ∃ F, a + fwS Ws = F := ⟨_, rfl⟩
  have HF : Hid (a + fwS Ws = F) := hF
  rw [hF]
  clear hX hn hs hl hB hF
  go_enter Try.func25, Try.ntmps25
  go_wp2
  go_loopw [8] (fun xi wr => ∃ (i b : Nat), i ≤ n ∧ xi = .int .i64 i ∧ Hid (b = a + fwS (Ws.take i)) ∧ Hid (RL wr R g N cp L P b ∧ Ff R [] w wr)) (fun i _ => n - (intOf i).toNat)
  case atStart => exact ⟨0, a, Nat.zero_le _, rfl, by rw [Hid, List.take_zero]; rfl, HB0.out, Ff.refl _ _ _⟩
  case round =>
    obtain ⟨i, b, hi, rfl, HL, HO⟩ := hrel
    by_cases hlt : i < n
    · obtain ⟨s, hs⟩ : ∃ s, Ws[i]? = some s := ⟨_, List.getElem?_eq_getElem (by rw [HX.out.2.1]; exact hlt)⟩
      obtain ⟨gx, C, rfl, hC, hgx, hCs⟩ := HX.out.1
      have hC' := (HO.out.2.keep gx (heap_lt hC) hgx (by simp)).trans hC
      have c0 : wr.cell? ⟨gx, i, none⟩ = some (.string s) := by rw [Lib.cell_of_heap hC']; exact hCs i s hs
      have hss := HX.out.2.2.1 s (List.mem_of_getElem? hs)
      have HLN : Hid (b + (8 + s.size + padN s.size) = a + fwS (Ws.take (i + 1))) := by
        rw [Hid, List.take_add_one, hs, show (some s).toList = [s] from rfl, fwS_app, HL.out]
        show _ = a + (_ + (8 + s.size + padN s.size + 0))
        omega
      have hbb : b + (8 + s.size + padN s.size) ≤ 1073741824 := by
        have h1 := HLN.out
        have h2 := fwS_take Ws (i + 1)
        have := HX.out.2.2.2
        omega
      have HFR : Hid (fr (s.size : Int) = ((8 + s.size + padN s.size : Nat) : Int)) := by unfold Hid; rw [fr_in _ (by omega)]; omega
      have FC : Hid (∀ w, Calls Try.prog 39 #[.int .i64 (s.size : Int)] w fun e w' => e = .returned (.int .i64 ((8 + s.size + padN s.size : Nat) : Int)) ∧ w' = w) := fun w => by
        have := framed_any (s.size : Int) w (by omega) (by omega)
        rw [HFR.out] at this
        exact this
      obtain ⟨xx, S, -⟩ := HO.out.1.st
      have r1 := S.get 1 _ rfl
      have y1 := S.fr 1 (by show 1 < 2; decide)
      have hRl := S.lt
      clear hs hCs hC hC' S hgx HFR
      generalize 8 + s.size + padN s.size = D at *
      have hw : IntKind.i64.wrap ((b : Int) + (D : Int)) = ((b + D : Nat) : Int) := by rw [IntKind.wrap_i64]; omega
      have HO6 : Hid (RL (wr.setCell ⟨R, 1, none⟩ (.int .i64 ((b : Int) + (D : Int)))).drew R g N cp L P (b + D) ∧ Ff R [] w (wr.setCell ⟨R, 1, none⟩ (.int .i64 ((b : Int) + (D : Int)))).drew) := by
        rw [show (b : Int) + (D : Int) = ((b + D : Nat) : Int) by omega]
        exact ⟨(HO.out.1.pass (b + D)).same (Nat.le_refl _) rfl rfl, (HO.out.2.set R 1 _ (Or.inl rfl)).drewN 1⟩
      go_upto_region 3 with fail
      go_region_law (first | (rw [if_pos (by rfl)]; go_simp; refine (FC.out _).mono ?_; rintro e5 w5 ⟨rfl, rfl⟩))
      all_goals go_wp2
      all_goals go_roundw
      all_goals first
        | (case rel => exact ⟨i + 1, b + D, by omega, by go_num, HLN, HO6⟩)
        | skip
      all_goals (case measure => simp [intOf]; omega)
    · obtain rfl : i = n := by omega
      have hF2 : b = F := by rw [HL.out, ← HF.out, List.take_of_length_le (by rw [HX.out.2.1]; exact Nat.le_refl _)]
      subst hF2
      go_wp2
      go_end0
      exact ⟨rfl, HO.out.1, ff_more HO.out.2⟩

end Go.Proofs.Ythlioedahoiahaa.Ls
namespace Go.Proofs.Ythlioedahoiahaa.Ls
open Go.RowKit Go.Proofs.Ythlioedahoiahaa

theorem SkP.lit {R g N cp : Nat} {L : List RW} {P : List (Nat × Nat)} {b : Nat} {W : World} {o : Obj} {e : Ending} {w' : World} (h : SkP R g N cp L P b (W.alloc o) e w') : SkP R g N cp L P b W e w' :=
  ⟨h.1, h.2.1, ((Ff.refl R [g] W).alloc o).trans h.2.2 (fun _ hx => .inl hx)⟩
/-- skip over a row of texts that was just laid. -/
theorem skip_step (R g N cp : Nat) (L : List RW) (P : List (Nat × Nat)) (a : Nat) (Pw Ws : List ByteArray) (W : World) (hB : RL W R g N cp L P (a + fwS Pw)) (hn2 : Ws.length ≤ 64) (hs : ∀ s ∈ Ws, s.size ≤ 1048576) (hl : a + fwS (Pw ++ Ws) ≤ 1073741824) :
    Calls Try.prog 25 #[.pointer (some ⟨R, 0, none⟩), .slice (some ⟨W.heap.size, 0, none⟩) Ws.length Ws.length] (W.alloc (.cells (Ws.map Value.string).toArray 9)) (SkP R g N cp L P (a + fwS (Pw ++ Ws)) W) := by
  have b : Below W.heap.size W (W.alloc (.cells (Ws.map Value.string).toArray 9)) := (Below.refl _ _).alloc (Nat.le_refl _) _
  rw [fwS_app] at hl ⊢
  have h := (skip_any R g N cp L P (a + fwS Pw) _ Ws.length Ws.length Ws _ (hB.below b) ⟨W.heap.size, (Ws.map Value.string).toArray, rfl, heap_alloc_new _ _, by have := hB.ltR; omega, fun i s hi => by
    rw [← Array.getElem?_toList, List.getElem?_map, hi]
    rfl⟩ rfl hn2 hs (by omega)).mono fun e w' h => h.lit
  rw [Nat.add_assoc] at h
  exact h
theorem _root_.Go.Proofs.Ythlioedahoiahaa.Ff.box {R g : Nat} {w w' : World} {E : Nat} {a b c d : Value} {ty : TypeId} (h : Ff R [g] w w') (hE : w.heap[E]? = some (.cells #[a, b, c, d] ty (0, 0))) (h1 : E ≠ R) (h2 : E ≠ g) : w'.heap[E]? = some (.cells #[a, b, c, d] ty (0, 0)) :=
  (h.keep E (heap_lt hE) h1 (by simpa using h2)).trans hE
/-- What the ruler's node leaves. -/
def RnP (R g N cp : Nat) (L : List RW) (P : List (Nat × Nat)) (b : Nat) (w : World) (e : Ending) (w' : World) : Prop := e = .returned (.tuple #[]) ∧ RL w' R g N cp L P b ∧ Ff R [g] w w'

set_option maxHeartbeats 8000000 in
set_option maxRecDepth 10000 in
theorem rnode_any (m : Nat) : ∀ (v : Value) (T : Tr) (w0 w : World) (R g N cp : Nat) (L : List RW) (P : List (Nat × Nat)) (a : Nat), At w0 m v T → w0.heap.size ≤ R → w0.heap.size ≤ g → Below w0.heap.size w0 w → RL w R g N cp L P a → okT T → P.length + (plT a T).length ≤ N → a + fwS (wdT T) ≤ 1073741824 →
    Calls Try.prog 26 #[.pointer (some ⟨R, 0, none⟩), v] w (RnP R g N cp L (P ++ plT a T) (a + fwS (wdT T)) w) := by
  induction m with
  | zero => intro v T w0 w R g N cp L P a h; exact h.elim
  | succ m IH =>
    rintro v ⟨k, e, t, ns, ks⟩ w0 w R g N cp L P a ⟨x, n, c, rfl, l1, l2, l3, l4, hx⟩ hR hg hb hB hok hpl hlen
    have EX : Hid (Ents w0 m x n ns ks) := At.ents hx
    have hok' := hok
    rw [okT] at hok'
    obtain ⟨hk, hkn, hts, hoL⟩ := hok'
    have HLL : Hid (ns.length = n ∧ ks.length = n ∧ okL ns ks ∧ a + fwS (wdT (.mk k e t ns ks)) ≤ 1073741824 ∧ (k ≠ 3 → ns = [] ∧ ks = [])) := ⟨l1, l2, hoL, hlen, hkn⟩
    have HB0 : Hid (w0.heap.size ≤ R ∧ w0.heap.size ≤ g ∧ Below w0.heap.size w0 w) := ⟨hR, hg, hb⟩
    have HPL : Hid (P.length + (plT a (.mk k e t ns ks)).length ≤ N) := hpl
    have hpn : P.length < N := by have := plT_pos a (.mk k e t ns ks); omega
    clear hx l1 l2 hok hlen hoL hg hb hR hkn hpl
    have HG : Hid ((w.alloc (Obj.cells #[Value.int IntKind.i64 k, Value.bool e, Value.string t, Value.slice x n c] 37)).heap[w.heap.size]? = some (.cells #[Value.int IntKind.i64 k, Value.bool e, Value.string t, Value.slice x n c] 37 (0, 0)) ∧ w.heap.size ≠ R ∧ w.heap.size ≠ g) := ⟨heap_alloc_new _ _, by have := hB.ltR; omega, by have := hB.lt; omega⟩
    have HBD : Hid (∀ Q X, wdT (.mk k e t ns ks) = Q ++ X → a + fwS Q ≤ 1073741824) := fun Q X h => by
      have := HLL.out.2.2.2.1
      rw [h, fwS_app] at this
      omega
    have H0 : Hid (RL (w.alloc (Obj.cells #[Value.int IntKind.i64 k, Value.bool e, Value.string t, Value.slice x n c] 37)) R g N cp L P a ∧ Ff R [g] w (w.alloc (Obj.cells #[Value.int IntKind.i64 k, Value.bool e, Value.string t, Value.slice x n c] 37))) := ⟨hB.below ((Below.refl _ _).alloc (Nat.le_refl _) _), (Ff.refl _ _ _).alloc _⟩
    clear hB
    go_enter Try.func26, Try.ntmps26
    go_upto_region 1 with fail
    generalize w.alloc (Obj.cells #[Value.int IntKind.i64 k, Value.bool e, Value.string t, Value.slice x n c] 37) = wq at *
    obtain ⟨xr, SR, hxr⟩ := H0.out.1.st
    obtain rfl := hxr hpn
    have r0 := SR.get 0 _ rfl
    have y0 := SR.fr 0 (by show 0 < 2; decide)
    have hRl := SR.lt
    have hnc := H0.out.1.nc
    have hcb := H0.out.1.cb
    have hi1 : (0 : Int) < ((N - P.length : Nat) : Int) := by omega
    have hi2 : 0 < N - P.length := by omega
    have hi3 : 1 ≤ N - P.length := by omega
    have hi4 : N - P.length ≤ cp - P.length := by omega
    clear SR hxr
    obtain ⟨ro, hr0'⟩ : ∃ r, L[P.length]? = some r := ⟨_, List.getElem?_eq_getElem (by rw [H0.out.1.len]; omega)⟩
    have hr0 : Hid (L[P.length]? = some ro) := hr0'
    clear hr0'
    obtain ⟨x', hx'⟩ : ∃ x' : Option Addr, (if cp - P.length = 1 then some ⟨g, P.length * 6, none⟩ else some ⟨g, P.length * 6 + 6, none⟩) = x' := ⟨_, rfl⟩
    have HX1 : Hid (P.length + 1 < N → x' = some ⟨g, (P.length + 1) * 6, none⟩) := fun h => by
      rw [← hx', if_neg (by omega)]
      rw [show (P.length + 1) * 6 = P.length * 6 + 6 by omega]
    go_upto_region 3 with fail
    clear hx' r0 y0
    have H1 : Hid (RL (wq.setCell ⟨R, 0, none⟩ (.slice x' (N - P.length - 1) (cp - P.length - 1))) R g N cp L (P ++ [(0, 0)]) (a + fwS []) ∧ Ff R [g] wq (wq.setCell ⟨R, 0, none⟩ (.slice x' (N - P.length - 1) (cp - P.length - 1)))) := by
      refine ⟨?_, (Ff.refl _ _ _).set R 0 _ (Or.inl rfl)⟩
      rw [Nat.sub_sub, Nat.sub_sub]
      exact H0.out.1.pop x' hpn HX1.out
    have HQ0 : Hid (Ff R [g] w wq) := H0.out.2
    clear H0 HX1
    generalize wq.setCell ⟨R, 0, none⟩ (.slice x' (N - P.length - 1) (cp - P.length - 1)) = wq1 at *
    obtain ⟨u0, u1, u2, u3, _⟩ := cell4n (H1.out.2.box HG.out.1 HG.out.2.1 HG.out.2.2)
    rcases hk with rfl | rfl | rfl
    · obtain ⟨rfl, rfl⟩ := HLL.out.2.2.2.2 (by decide)
      have hts2 : t.size ≤ 9223372036854775807 := by omega
      cases e with
      | false =>
        have HWD : Hid (wdT (.mk 1 false t [] []) = [wOpen, wType, wRegular, wContents, t, wClose]) := by rw [Hid, wdT]; rfl
        have HPT : Hid (plT a (.mk 1 false t [] []) = [(a + fwS [wOpen, wType, wRegular, wContents] + 8, t.size)]) := by rw [Hid, plT]; rfl
        have CW := skip_step R g N cp L (P ++ [(0, 0)]) a ([]) [wOpen, wType] wq1 H1.out.1 (by simp) (by intro z hz; simp at hz; rcases hz with rfl | rfl <;> first | decide | exact hts) (HBD.out _ ([wRegular, wContents, t, wClose]) (by rw [HWD.out]; simp))
        rw [show ([] : List ByteArray) ++ [wOpen, wType] = [wOpen, wType] by simp] at CW
        go_wp2_with fail
        refine CW.mono ?_
        rintro e1 wk1 ⟨rfl, hR1, hF1⟩
        have HK1 : Hid (RL wk1 R g N cp L (P ++ [(0, 0)]) (a + fwS [wOpen, wType]) ∧ Ff R [g] wq wk1) := ⟨hR1, H1.out.2.trans hF1 (fun _ hx => .inl hx)⟩
        clear hR1 hF1 CW H1
        obtain ⟨u0, u1, u2, u3, _⟩ := cell4n (HK1.out.2.box HG.out.1 HG.out.2.1 HG.out.2.2)
        have CW := skip_step R g N cp L (P ++ [(0, 0)]) a ([wOpen, wType]) [wRegular] wk1 HK1.out.1 (by simp) (by intro z hz; simp at hz; subst hz; first | decide | exact hts) (HBD.out _ ([wContents, t, wClose]) (by rw [HWD.out]; simp))
        rw [show ([wOpen, wType] : List ByteArray) ++ [wRegular] = [wOpen, wType, wRegular] by simp] at CW
        go_wp2_with fail
        refine CW.mono ?_
        rintro e2 wk2 ⟨rfl, hR2, hF2⟩
        have HK2 : Hid (RL wk2 R g N cp L (P ++ [(0, 0)]) (a + fwS [wOpen, wType, wRegular]) ∧ Ff R [g] wq wk2) := ⟨hR2, HK1.out.2.trans hF2 (fun _ hx => .inl hx)⟩
        clear hR2 hF2 CW HK1
        obtain ⟨u0, u1, u2, u3, _⟩ := cell4n (HK2.out.2.box HG.out.1 HG.out.2.1 HG.out.2.2)
        have CW := skip_step R g N cp L (P ++ [(0, 0)]) a ([wOpen, wType, wRegular]) [wContents] wk2 HK2.out.1 (by simp) (by intro z hz; simp at hz; subst hz; first | decide | exact hts) (HBD.out _ ([t, wClose]) (by rw [HWD.out]; simp))
        rw [show ([wOpen, wType, wRegular] : List ByteArray) ++ [wContents] = [wOpen, wType, wRegular, wContents] by simp] at CW
        go_wp2_with fail
        refine CW.mono ?_
        rintro e3 wk3 ⟨rfl, hR3, hF3⟩
        have HK3 : Hid (RL wk3 R g N cp L (P ++ [(0, 0)]) (a + fwS [wOpen, wType, wRegular, wContents]) ∧ Ff R [g] wq wk3) := ⟨hR3, HK2.out.2.trans hF3 (fun _ hx => .inl hx)⟩
        clear hR3 hF3 CW HK2
        obtain ⟨u0, u1, u2, u3, _⟩ := cell4n (HK3.out.2.box HG.out.1 HG.out.2.1 HG.out.2.2)
        obtain ⟨xr, SR, -⟩ := HK3.out.1.st
        have r1 := SR.get 1 _ rfl
        have hRl2 := SR.lt
        clear SR
        have hrow := HK3.out.1.row P.length ro hr0.out
        have c4 := hrow.2.2.2.2.1
        have c5 := hrow.2.2.2.2.2
        have f4 := HK3.out.1.fr (P.length * 6 + 4) (by omega)
        have f5 := HK3.out.1.fr (P.length * 6 + 5) (by omega)
        have hgl := HK3.out.1.lt
        have hRg := HK3.out.1.ne
        have hgR := fun e => hRg (Eq.symm e)
        clear hrow
        obtain ⟨B8, hB8⟩ : ∃ B, a + fwS [wOpen, wType, wRegular, wContents] = B := ⟨_, rfl⟩
        have HB8 : Hid (a + fwS [wOpen, wType, wRegular, wContents] = B8) := hB8
        rw [hB8] at r1 HK3
        have hB8b : B8 ≤ 1073741824 := by have := HBD.out [wOpen, wType, wRegular, wContents] [t, wClose] (by rw [HWD.out]; simp); omega
        clear hB8
        have HP : Hid (RL ((wk3.setCell ⟨g, P.length * 6 + 4, none⟩ (.int .i64 ((B8 : Int) + 8))).setCell ⟨g, P.length * 6 + 5, none⟩ (.int .i64 (t.size : Int))).drew R g N cp L (P ++ [(B8 + 8, t.size)]) (a + fwS [wOpen, wType, wRegular, wContents]) ∧ Ff R [g] wq ((wk3.setCell ⟨g, P.length * 6 + 4, none⟩ (.int .i64 ((B8 : Int) + 8))).setCell ⟨g, P.length * 6 + 5, none⟩ (.int .i64 (t.size : Int))).drew) := by
          rw [HB8.out, show (B8 : Int) + 8 = ((B8 + 8 : Nat) : Int) by omega]
          exact ⟨(HK3.out.1.put _ _).same (Nat.le_refl _) rfl rfl, ((HK3.out.2.set g _ _ (.inr (.inl (by simp)))).set g _ _ (.inr (.inl (by simp)))).drewN 1⟩
        have hw : IntKind.i64.wrap ((B8 : Int) + 8) = (B8 : Int) + 8 := by rw [IntKind.wrap_i64]; omega
        go_upto_region 10 with fail
        go_cut [] from 38 to 51 (fun wx => wx = ((wk3.setCell ⟨g, P.length * 6 + 4, none⟩ (.int .i64 ((B8 : Int) + 8))).setCell ⟨g, P.length * 6 + 5, none⟩ (.int .i64 (t.size : Int))).drew)
        case first =>
          go_region_law (fail)
          all_goals (try go_wp2_with fail)
          all_goals go_meet
          all_goals rfl
        case rest =>
          subst hcut
          clear HK3 r1 hRl2 c4 c5 f4 f5 hgl hRg hgR hw hB8b u0 u1 u2 u3
          generalize ((wk3.setCell ⟨g, P.length * 6 + 4, none⟩ (.int .i64 ((B8 : Int) + 8))).setCell ⟨g, P.length * 6 + 5, none⟩ (.int .i64 (t.size : Int))).drew = wp at *
          obtain ⟨u0, u1, u2, u3, _⟩ := cell4n (HP.out.2.box HG.out.1 HG.out.2.1 HG.out.2.2)
          have CW := skip_step R g N cp L (P ++ [(B8 + 8, t.size)]) a ([wOpen, wType, wRegular, wContents]) [t] wp HP.out.1 (by simp) (by intro z hz; simp at hz; subst hz; first | decide | exact hts) (HBD.out _ ([wClose]) (by rw [HWD.out]; simp))
          rw [show ([wOpen, wType, wRegular, wContents] : List ByteArray) ++ [t] = [wOpen, wType, wRegular, wContents, t] by simp] at CW
          go_wp2_with fail
          refine CW.mono ?_
          rintro e4 wk4 ⟨rfl, hR4, hF4⟩
          have HK4 : Hid (RL wk4 R g N cp L (P ++ [(B8 + 8, t.size)]) (a + fwS [wOpen, wType, wRegular, wContents, t]) ∧ Ff R [g] wq wk4) := ⟨hR4, HP.out.2.trans hF4 (fun _ hx => .inl hx)⟩
          clear hR4 hF4 CW HP
          obtain ⟨u0, u1, u2, u3, _⟩ := cell4n (HK4.out.2.box HG.out.1 HG.out.2.1 HG.out.2.2)
          have CW := skip_step R g N cp L (P ++ [(B8 + 8, t.size)]) a ([wOpen, wType, wRegular, wContents, t]) [wClose] wk4 HK4.out.1 (by simp) (by intro z hz; simp at hz; subst hz; first | decide | exact hts) (HBD.out _ ([]) (by rw [HWD.out]; simp))
          rw [show ([wOpen, wType, wRegular, wContents, t] : List ByteArray) ++ [wClose] = [wOpen, wType, wRegular, wContents, t, wClose] by simp] at CW
          go_wp2_with fail
          refine CW.mono ?_
          rintro e5 wk5 ⟨rfl, hR5, hF5⟩
          have HK5 : Hid (RL wk5 R g N cp L (P ++ [(B8 + 8, t.size)]) (a + fwS [wOpen, wType, wRegular, wContents, t, wClose]) ∧ Ff R [g] wq wk5) := ⟨hR5, HK4.out.2.trans hF5 (fun _ hx => .inl hx)⟩
          clear hR5 hF5 CW HK4
          go_wp2
          go_end0
          refine ⟨rfl, ?_, HQ0.out.trans HK5.out.2 (fun _ hx => .inl hx)⟩
          rw [HWD.out, HPT.out, HB8.out]
          exact HK5.out.1
      | true =>
        have HWD : Hid (wdT (.mk 1 true t [] []) = [wOpen, wType, wRegular, wExec, wNone, wContents, t, wClose]) := by rw [Hid, wdT]; rfl
        have HPT : Hid (plT a (.mk 1 true t [] []) = [(a + fwS [wOpen, wType, wRegular, wExec, wNone, wContents] + 8, t.size)]) := by rw [Hid, plT]; rfl
        have CW := skip_step R g N cp L (P ++ [(0, 0)]) a ([]) [wOpen, wType] wq1 H1.out.1 (by simp) (by intro z hz; simp at hz; rcases hz with rfl | rfl <;> first | decide | exact hts) (HBD.out _ ([wRegular, wExec, wNone, wContents, t, wClose]) (by rw [HWD.out]; simp))
        rw [show ([] : List ByteArray) ++ [wOpen, wType] = [wOpen, wType] by simp] at CW
        go_wp2_with fail
        refine CW.mono ?_
        rintro e6 wk6 ⟨rfl, hR6, hF6⟩
        have HK6 : Hid (RL wk6 R g N cp L (P ++ [(0, 0)]) (a + fwS [wOpen, wType]) ∧ Ff R [g] wq wk6) := ⟨hR6, H1.out.2.trans hF6 (fun _ hx => .inl hx)⟩
        clear hR6 hF6 CW H1
        obtain ⟨u0, u1, u2, u3, _⟩ := cell4n (HK6.out.2.box HG.out.1 HG.out.2.1 HG.out.2.2)
        have CW := skip_step R g N cp L (P ++ [(0, 0)]) a ([wOpen, wType]) [wRegular] wk6 HK6.out.1 (by simp) (by intro z hz; simp at hz; subst hz; first | decide | exact hts) (HBD.out _ ([wExec, wNone, wContents, t, wClose]) (by rw [HWD.out]; simp))
        rw [show ([wOpen, wType] : List ByteArray) ++ [wRegular] = [wOpen, wType, wRegular] by simp] at CW
        go_wp2_with fail
        refine CW.mono ?_
        rintro e7 wk7 ⟨rfl, hR7, hF7⟩
        have HK7 : Hid (RL wk7 R g N cp L (P ++ [(0, 0)]) (a + fwS [wOpen, wType, wRegular]) ∧ Ff R [g] wq wk7) := ⟨hR7, HK6.out.2.trans hF7 (fun _ hx => .inl hx)⟩
        clear hR7 hF7 CW HK6
        obtain ⟨u0, u1, u2, u3, _⟩ := cell4n (HK7.out.2.box HG.out.1 HG.out.2.1 HG.out.2.2)
        have CW := skip_step R g N cp L (P ++ [(0, 0)]) a ([wOpen, wType, wRegular]) [wExec, wNone] wk7 HK7.out.1 (by simp) (by intro z hz; simp at hz; rcases hz with rfl | rfl <;> first | decide | exact hts) (HBD.out _ ([wContents, t, wClose]) (by rw [HWD.out]; simp))
        rw [show ([wOpen, wType, wRegular] : List ByteArray) ++ [wExec, wNone] = [wOpen, wType, wRegular, wExec, wNone] by simp] at CW
        go_wp2_with fail
        refine CW.mono ?_
        rintro e8 wk8 ⟨rfl, hR8, hF8⟩
        have HK8 : Hid (RL wk8 R g N cp L (P ++ [(0, 0)]) (a + fwS [wOpen, wType, wRegular, wExec, wNone]) ∧ Ff R [g] wq wk8) := ⟨hR8, HK7.out.2.trans hF8 (fun _ hx => .inl hx)⟩
        clear hR8 hF8 CW HK7
        obtain ⟨u0, u1, u2, u3, _⟩ := cell4n (HK8.out.2.box HG.out.1 HG.out.2.1 HG.out.2.2)
        have CW := skip_step R g N cp L (P ++ [(0, 0)]) a ([wOpen, wType, wRegular, wExec, wNone]) [wContents] wk8 HK8.out.1 (by simp) (by intro z hz; simp at hz; subst hz; first | decide | exact hts) (HBD.out _ ([t, wClose]) (by rw [HWD.out]; simp))
        rw [show ([wOpen, wType, wRegular, wExec, wNone] : List ByteArray) ++ [wContents] = [wOpen, wType, wRegular, wExec, wNone, wContents] by simp] at CW
        go_wp2_with fail
        refine CW.mono ?_
        rintro e9 wk9 ⟨rfl, hR9, hF9⟩
        have HK9 : Hid (RL wk9 R g N cp L (P ++ [(0, 0)]) (a + fwS [wOpen, wType, wRegular, wExec, wNone, wContents]) ∧ Ff R [g] wq wk9) := ⟨hR9, HK8.out.2.trans hF9 (fun _ hx => .inl hx)⟩
        clear hR9 hF9 CW HK8
        obtain ⟨u0, u1, u2, u3, _⟩ := cell4n (HK9.out.2.box HG.out.1 HG.out.2.1 HG.out.2.2)
        obtain ⟨xr, SR, -⟩ := HK9.out.1.st
        have r1 := SR.get 1 _ rfl
        have hRl2 := SR.lt
        clear SR
        have hrow := HK9.out.1.row P.length ro hr0.out
        have c4 := hrow.2.2.2.2.1
        have c5 := hrow.2.2.2.2.2
        have f4 := HK9.out.1.fr (P.length * 6 + 4) (by omega)
        have f5 := HK9.out.1.fr (P.length * 6 + 5) (by omega)
        have hgl := HK9.out.1.lt
        have hRg := HK9.out.1.ne
        have hgR := fun e => hRg (Eq.symm e)
        clear hrow
        obtain ⟨B8, hB8⟩ : ∃ B, a + fwS [wOpen, wType, wRegular, wExec, wNone, wContents] = B := ⟨_, rfl⟩
        have HB8 : Hid (a + fwS [wOpen, wType, wRegular, wExec, wNone, wContents] = B8) := hB8
        rw [hB8] at r1 HK9
        have hB8b : B8 ≤ 1073741824 := by have := HBD.out [wOpen, wType, wRegular, wExec, wNone, wContents] [t, wClose] (by rw [HWD.out]; simp); omega
        clear hB8
        have HP : Hid (RL ((wk9.setCell ⟨g, P.length * 6 + 4, none⟩ (.int .i64 ((B8 : Int) + 8))).setCell ⟨g, P.length * 6 + 5, none⟩ (.int .i64 (t.size : Int))).drew R g N cp L (P ++ [(B8 + 8, t.size)]) (a + fwS [wOpen, wType, wRegular, wExec, wNone, wContents]) ∧ Ff R [g] wq ((wk9.setCell ⟨g, P.length * 6 + 4, none⟩ (.int .i64 ((B8 : Int) + 8))).setCell ⟨g, P.length * 6 + 5, none⟩ (.int .i64 (t.size : Int))).drew) := by
          rw [HB8.out, show (B8 : Int) + 8 = ((B8 + 8 : Nat) : Int) by omega]
          exact ⟨(HK9.out.1.put _ _).same (Nat.le_refl _) rfl rfl, ((HK9.out.2.set g _ _ (.inr (.inl (by simp)))).set g _ _ (.inr (.inl (by simp)))).drewN 1⟩
        have hw : IntKind.i64.wrap ((B8 : Int) + 8) = (B8 : Int) + 8 := by rw [IntKind.wrap_i64]; omega
        go_upto_region 10 with fail
        go_cut [] from 38 to 51 (fun wx => wx = ((wk9.setCell ⟨g, P.length * 6 + 4, none⟩ (.int .i64 ((B8 : Int) + 8))).setCell ⟨g, P.length * 6 + 5, none⟩ (.int .i64 (t.size : Int))).drew)
        case first =>
          go_region_law (fail)
          all_goals (try go_wp2_with fail)
          all_goals go_meet
          all_goals rfl
        case rest =>
          subst hcut
          clear HK9 r1 hRl2 c4 c5 f4 f5 hgl hRg hgR hw hB8b u0 u1 u2 u3
          generalize ((wk9.setCell ⟨g, P.length * 6 + 4, none⟩ (.int .i64 ((B8 : Int) + 8))).setCell ⟨g, P.length * 6 + 5, none⟩ (.int .i64 (t.size : Int))).drew = wp at *
          obtain ⟨u0, u1, u2, u3, _⟩ := cell4n (HP.out.2.box HG.out.1 HG.out.2.1 HG.out.2.2)
          have CW := skip_step R g N cp L (P ++ [(B8 + 8, t.size)]) a ([wOpen, wType, wRegular, wExec, wNone, wContents]) [t] wp HP.out.1 (by simp) (by intro z hz; simp at hz; subst hz; first | decide | exact hts) (HBD.out _ ([wClose]) (by rw [HWD.out]; simp))
          rw [show ([wOpen, wType, wRegular, wExec, wNone, wContents] : List ByteArray) ++ [t] = [wOpen, wType, wRegular, wExec, wNone, wContents, t] by simp] at CW
          go_wp2_with fail
          refine CW.mono ?_
          rintro e10 wk10 ⟨rfl, hR10, hF10⟩
          have HK10 : Hid (RL wk10 R g N cp L (P ++ [(B8 + 8, t.size)]) (a + fwS [wOpen, wType, wRegular, wExec, wNone, wContents, t]) ∧ Ff R [g] wq wk10) := ⟨hR10, HP.out.2.trans hF10 (fun _ hx => .inl hx)⟩
          clear hR10 hF10 CW HP
          obtain ⟨u0, u1, u2, u3, _⟩ := cell4n (HK10.out.2.box HG.out.1 HG.out.2.1 HG.out.2.2)
          have CW := skip_step R g N cp L (P ++ [(B8 + 8, t.size)]) a ([wOpen, wType, wRegular, wExec, wNone, wContents, t]) [wClose] wk10 HK10.out.1 (by simp) (by intro z hz; simp at hz; subst hz; first | decide | exact hts) (HBD.out _ ([]) (by rw [HWD.out]; simp))
          rw [show ([wOpen, wType, wRegular, wExec, wNone, wContents, t] : List ByteArray) ++ [wClose] = [wOpen, wType, wRegular, wExec, wNone, wContents, t, wClose] by simp] at CW
          go_wp2_with fail
          refine CW.mono ?_
          rintro e11 wk11 ⟨rfl, hR11, hF11⟩
          have HK11 : Hid (RL wk11 R g N cp L (P ++ [(B8 + 8, t.size)]) (a + fwS [wOpen, wType, wRegular, wExec, wNone, wContents, t, wClose]) ∧ Ff R [g] wq wk11) := ⟨hR11, HK10.out.2.trans hF11 (fun _ hx => .inl hx)⟩
          clear hR11 hF11 CW HK10
          go_wp2
          go_end0
          refine ⟨rfl, ?_, HQ0.out.trans HK11.out.2 (fun _ hx => .inl hx)⟩
          rw [HWD.out, HPT.out, HB8.out]
          exact HK11.out.1
    · obtain ⟨rfl, rfl⟩ := HLL.out.2.2.2.2 (by decide)
      have hts2 : t.size ≤ 9223372036854775807 := by omega
      have HWD : Hid (wdT (.mk 2 e t [] []) = [wOpen, wType, wSymlink, wTarget, t, wClose]) := by rw [Hid, wdT]; rfl
      have HPT : Hid (plT a (.mk 2 e t [] []) = [(0, 0)]) := by rw [Hid, plT]; rfl
      have CW := skip_step R g N cp L (P ++ [(0, 0)]) a ([]) [wOpen, wType] wq1 H1.out.1 (by simp) (by intro z hz; simp at hz; rcases hz with rfl | rfl <;> first | decide | exact hts) (HBD.out _ ([wSymlink, wTarget, t, wClose]) (by rw [HWD.out]; simp))
      rw [show ([] : List ByteArray) ++ [wOpen, wType] = [wOpen, wType] by simp] at CW
      go_wp2_with fail
      refine CW.mono ?_
      rintro e12 wk12 ⟨rfl, hR12, hF12⟩
      have HK12 : Hid (RL wk12 R g N cp L (P ++ [(0, 0)]) (a + fwS [wOpen, wType]) ∧ Ff R [g] wq wk12) := ⟨hR12, H1.out.2.trans hF12 (fun _ hx => .inl hx)⟩
      clear hR12 hF12 CW H1
      obtain ⟨u0, u1, u2, u3, _⟩ := cell4n (HK12.out.2.box HG.out.1 HG.out.2.1 HG.out.2.2)
      have CW := skip_step R g N cp L (P ++ [(0, 0)]) a ([wOpen, wType]) [wSymlink, wTarget, t] wk12 HK12.out.1 (by simp) (by intro z hz; simp at hz; rcases hz with rfl | rfl | rfl <;> first | decide | exact hts) (HBD.out _ ([wClose]) (by rw [HWD.out]; simp))
      rw [show ([wOpen, wType] : List ByteArray) ++ [wSymlink, wTarget, t] = [wOpen, wType, wSymlink, wTarget, t] by simp] at CW
      go_wp2_with fail
      refine CW.mono ?_
      rintro e13 wk13 ⟨rfl, hR13, hF13⟩
      have HK13 : Hid (RL wk13 R g N cp L (P ++ [(0, 0)]) (a + fwS [wOpen, wType, wSymlink, wTarget, t]) ∧ Ff R [g] wq wk13) := ⟨hR13, HK12.out.2.trans hF13 (fun _ hx => .inl hx)⟩
      clear hR13 hF13 CW HK12
      obtain ⟨u0, u1, u2, u3, _⟩ := cell4n (HK13.out.2.box HG.out.1 HG.out.2.1 HG.out.2.2)
      have CW := skip_step R g N cp L (P ++ [(0, 0)]) a ([wOpen, wType, wSymlink, wTarget, t]) [wClose] wk13 HK13.out.1 (by simp) (by intro z hz; simp at hz; subst hz; first | decide | exact hts) (HBD.out _ ([]) (by rw [HWD.out]; simp))
      rw [show ([wOpen, wType, wSymlink, wTarget, t] : List ByteArray) ++ [wClose] = [wOpen, wType, wSymlink, wTarget, t, wClose] by simp] at CW
      go_wp2_with fail
      refine CW.mono ?_
      rintro e14 wk14 ⟨rfl, hR14, hF14⟩
      have HK14 : Hid (RL wk14 R g N cp L (P ++ [(0, 0)]) (a + fwS [wOpen, wType, wSymlink, wTarget, t, wClose]) ∧ Ff R [g] wq wk14) := ⟨hR14, HK13.out.2.trans hF14 (fun _ hx => .inl hx)⟩
      clear hR14 hF14 CW HK13
      go_wp2
      go_end0
      refine ⟨rfl, ?_, HQ0.out.trans HK14.out.2 (fun _ hx => .inl hx)⟩
      rw [HWD.out, HPT.out]
      exact HK14.out.1
    · have HWD : Hid (wdT (.mk 3 e t ns ks) = [wOpen, wType, wDirectory] ++ (wdL ns ks ++ [wClose])) := by
        rw [Hid, wdT]
        simp
      have HPT : Hid (plT a (.mk 3 e t ns ks) = (0, 0) :: plL (a + fwS [wOpen, wType, wDirectory]) ns ks) := by rw [Hid, plT]; rfl
      have CW := skip_step R g N cp L (P ++ [(0, 0)]) a ([]) [wOpen, wType] wq1 H1.out.1 (by simp) (by intro z hz; simp at hz; rcases hz with rfl | rfl <;> first | decide | exact hts) (HBD.out _ ([wDirectory] ++ (wdL ns ks ++ [wClose])) (by rw [HWD.out]; simp))
      rw [show ([] : List ByteArray) ++ [wOpen, wType] = [wOpen, wType] by simp] at CW
      go_wp2_with fail
      refine CW.mono ?_
      rintro e15 wk15 ⟨rfl, hR15, hF15⟩
      have HK15 : Hid (RL wk15 R g N cp L (P ++ [(0, 0)]) (a + fwS [wOpen, wType]) ∧ Ff R [g] wq wk15) := ⟨hR15, H1.out.2.trans hF15 (fun _ hx => .inl hx)⟩
      clear hR15 hF15 CW H1
      obtain ⟨u0, u1, u2, u3, _⟩ := cell4n (HK15.out.2.box HG.out.1 HG.out.2.1 HG.out.2.2)
      have CW := skip_step R g N cp L (P ++ [(0, 0)]) a ([wOpen, wType]) [wDirectory] wk15 HK15.out.1 (by simp) (by intro z hz; simp at hz; subst hz; first | decide | exact hts) (HBD.out _ (wdL ns ks ++ [wClose]) (by rw [HWD.out]; simp))
      rw [show ([wOpen, wType] : List ByteArray) ++ [wDirectory] = [wOpen, wType, wDirectory] by simp] at CW
      go_wp2_with fail
      refine CW.mono ?_
      rintro e16 wk16 ⟨rfl, hR16, hF16⟩
      have HK16 : Hid (RL wk16 R g N cp L (P ++ [(0, 0)]) (a + fwS [wOpen, wType, wDirectory]) ∧ Ff R [g] wq wk16) := ⟨hR16, HK15.out.2.trans hF16 (fun _ hx => .inl hx)⟩
      clear hR16 hF16 CW HK15
      obtain ⟨u0, u1, u2, u3, _⟩ := cell4n (HK16.out.2.box HG.out.1 HG.out.2.1 HG.out.2.2)
      have HL0 : Hid (RL wk16 R g N cp L (P ++ [(0, 0)] ++ plL (a + fwS [wOpen, wType, wDirectory]) (ns.take 0) (ks.take 0)) (a + fwS ([wOpen, wType, wDirectory] ++ wdL (ns.take 0) (ks.take 0))) ∧ Ff R [g] wq wk16) := by
        have := HK16.out
        rw [Hid, List.take_zero, List.take_zero, show wdL [] [] = [] by rw [wdL]; simp, List.append_nil, show plL (a + fwS [wOpen, wType, wDirectory]) [] [] = [] by rw [plL]; simp, List.append_nil]
        exact this
      have HBL : Hid (∀ wr, Ff R [g] wq wr → Below w0.heap.size w0 wr) := fun wr F => by
        have hz := HB0.out.2.2.size
        have hz2 := HQ0.out.size
        exact HB0.out.2.2.trans ((ff_below HQ0.out hz HB0.out.1 (fun x hx => by simp at hx; subst hx; exact HB0.out.2.1)).trans (ff_below F (by omega) HB0.out.1 (fun x hx => by simp at hx; subst hx; exact HB0.out.2.1)))
      clear HK16
      go_wp2
      go_loopw [72] (fun xi wr => ∃ (i : Nat), i ≤ n ∧ xi = .int .i64 i ∧ Hid (RL wr R g N cp L (P ++ [(0, 0)] ++ plL (a + fwS [wOpen, wType, wDirectory]) (ns.take i) (ks.take i)) (a + fwS ([wOpen, wType, wDirectory] ++ wdL (ns.take i) (ks.take i))) ∧ Ff R [g] wq wr)) (fun i _ => n - (intOf i).toNat)
      case atStart => exact ⟨0, Nat.zero_le _, rfl, HL0⟩
      case round =>
        obtain ⟨i, hi, rfl, HO⟩ := hrel
        by_cases hlt : i < n
        · obtain ⟨s, hs⟩ : ∃ s, ns[i]? = some s := ⟨_, List.getElem?_eq_getElem (by rw [HLL.out.1]; omega)⟩
          obtain ⟨K, hK⟩ : ∃ s, ks[i]? = some s := ⟨_, List.getElem?_eq_getElem (by rw [HLL.out.2.1]; omega)⟩
          obtain ⟨hss, hoK⟩ := okL_at ns ks i s K HLL.out.2.2.1 hs hK
          obtain ⟨gk, ok, a', b', d', f', p', q', rfl, hgk, c0, c1, c2, c3, c4, hA⟩ := EX.out i s K hlt hs hK
          have b0 : Below w0.heap.size w0 wr := HBL.out wr HO.out.2
          have d0 := (b0.cell (p := ⟨gk, ok + i * 5, none⟩) hgk).trans c0
          have d1 := (b0.cell (p := ⟨gk, ok + i * 5 + 1, none⟩) hgk).trans c1
          have d2 := (b0.cell (p := ⟨gk, ok + i * 5 + 2, none⟩) hgk).trans c2
          have d3 := (b0.cell (p := ⟨gk, ok + i * 5 + 3, none⟩) hgk).trans c3
          have d4 := (b0.cell (p := ⟨gk, ok + i * 5 + 4, none⟩) hgk).trans c4
          have HA : Hid (At w0 m (.agg #[.int .i64 a', .bool b', .string d', .slice f' p' q']) K ∧ okT K) := ⟨hA, hoK⟩
          have HT : Hid (wdL (ns.take (i + 1)) (ks.take (i + 1)) = wdL (ns.take i) (ks.take i) ++ ([wEntry, wOpen, wName, s, wNode] ++ wdT K ++ [wClose])) := wdL_take ns ks i s K hs hK
          have HPK : Hid (plL (a + fwS [wOpen, wType, wDirectory]) (ns.take (i + 1)) (ks.take (i + 1)) = plL (a + fwS [wOpen, wType, wDirectory]) (ns.take i) (ks.take i) ++ plT (a + fwS ([wOpen, wType, wDirectory] ++ wdL (ns.take i) (ks.take i) ++ [wEntry, wOpen, wName, s, wNode])) K) := by
            rw [Hid, plL_take ns ks _ i s K hs hK, fwS_app, fwS_app]
            rw [show a + fwS [wOpen, wType, wDirectory] + fwS (wdL (List.take i ns) (List.take i ks)) + fwS [wEntry, wOpen, wName, s, wNode] = a + (fwS [wOpen, wType, wDirectory] + fwS (wdL (List.take i ns) (List.take i ks)) + fwS [wEntry, wOpen, wName, s, wNode]) by omega]
          have HPB : Hid ((P ++ [(0, 0)] ++ plL (a + fwS [wOpen, wType, wDirectory]) (ns.take i) (ks.take i)).length + (plT (a + fwS ([wOpen, wType, wDirectory] ++ wdL (ns.take i) (ks.take i) ++ [wEntry, wOpen, wName, s, wNode])) K).length ≤ N) := by
            have h1 := HPL.out
            rw [HPT.out, List.length_cons] at h1
            have h2 := plL_part (a + fwS [wOpen, wType, wDirectory]) ns ks (i + 1)
            rw [HPK.out, List.length_append] at h2
            rw [Hid, List.length_append, List.length_append]
            simp only [List.length_cons, List.length_nil]
            omega
          have HBI : Hid (a + (fwS [wOpen, wType, wDirectory] + (fwS (wdL (ns.take i) (ks.take i)) + (fwS [wEntry, wOpen, wName, s, wNode] + fwS (wdT K) + fwS [wClose]))) ≤ 1073741824) := by
            have h1 := HLL.out.2.2.2.1
            rw [HWD.out, fwS_app, fwS_app] at h1
            have h2 := wdL_le ns ks (i + 1) (by rw [HLL.out.1, HLL.out.2.1])
            rw [HT.out, fwS_app, fwS_app, fwS_app] at h2
            rw [Hid]
            omega
          have HE : Hid ((wr.alloc (Obj.cells #[Value.string s, Value.int IntKind.i64 a', Value.bool b', Value.string d', Value.slice f' p' q'] 78)).heap[wr.heap.size]? = some (.cells #[Value.string s, Value.int IntKind.i64 a', Value.bool b', Value.string d', Value.slice f' p' q'] 78 (0, 0)) ∧ wr.heap.size ≠ R ∧ wr.heap.size ≠ g) := ⟨heap_alloc_new _ _, by have := HO.out.1.ltR; omega, by have := HO.out.1.lt; omega⟩
          have HOE : Hid (RL (wr.alloc (Obj.cells #[Value.string s, Value.int IntKind.i64 a', Value.bool b', Value.string d', Value.slice f' p' q'] 78)) R g N cp L (P ++ [(0, 0)] ++ plL (a + fwS [wOpen, wType, wDirectory]) (ns.take i) (ks.take i)) (a + fwS ([wOpen, wType, wDirectory] ++ wdL (ns.take i) (ks.take i))) ∧ Ff R [g] wq (wr.alloc (Obj.cells #[Value.string s, Value.int IntKind.i64 a', Value.bool b', Value.string d', Value.slice f' p' q'] 78))) := ⟨HO.out.1.below ((Below.refl _ _).alloc (Nat.le_refl _) _), HO.out.2.alloc _⟩
          clear hs hK hoK hA c0 c1 c2 c3 c4 b0
          go_upto_region 19 with fail
          clear d0 d1 d2 d3 d4 HO hgk
          obtain ⟨E, hE⟩ : ∃ E, wr.heap.size = E := ⟨_, rfl⟩
          generalize wr.alloc (Obj.cells #[Value.string s, Value.int IntKind.i64 a', Value.bool b', Value.string d', Value.slice f' p' q'] 78) = wa at *
          rw [hE] at HE ⊢
          clear hE
          have e0 : wa.cell? ⟨E, 0, none⟩ = some (.string s) := by rw [Lib.cell_of_heap HE.out.1]; rfl
          have CW := skip_step R g N cp L _ a ([wOpen, wType, wDirectory] ++ wdL (ns.take i) (ks.take i)) [wEntry, wOpen, wName, s, wNode] wa HOE.out.1 (by simp) (by intro z hz; simp at hz; rcases hz with rfl | rfl | rfl | rfl | rfl <;> first | decide | exact hss) (by rw [fwS_app, fwS_app]; have := HBI.out; omega)
          go_wp2_with fail
          refine CW.mono ?_
          rintro eb wb ⟨rfl, hRb, hFb⟩
          have HOB : Hid (RL wb R g N cp L (P ++ [(0, 0)] ++ plL (a + fwS [wOpen, wType, wDirectory]) (ns.take i) (ks.take i)) (a + fwS ([wOpen, wType, wDirectory] ++ wdL (ns.take i) (ks.take i) ++ [wEntry, wOpen, wName, s, wNode])) ∧ Ff R [g] wq wb) := ⟨hRb, HOE.out.2.trans hFb (fun _ hx => .inl hx)⟩
          have hEb := (hFb.keep E (heap_lt HE.out.1) HE.out.2.1 (by simpa using HE.out.2.2)).trans HE.out.1
          have f1 : wb.cell? ⟨E, 1, none⟩ = some (.int .i64 a') := by rw [Lib.cell_of_heap hEb]; rfl
          have f2 : wb.cell? ⟨E, 2, none⟩ = some (.bool b') := by rw [Lib.cell_of_heap hEb]; rfl
          have f3 : wb.cell? ⟨E, 3, none⟩ = some (.string d') := by rw [Lib.cell_of_heap hEb]; rfl
          have f4 : wb.cell? ⟨E, 4, none⟩ = some (.slice f' p' q') := by rw [Lib.cell_of_heap hEb]; rfl
          have CN := IH _ K w0 wb R g N cp L _ _ HA.out.1 HB0.out.1 HB0.out.2.1 (HBL.out wb HOB.out.2) HOB.out.1 HA.out.2 HPB.out (by rw [fwS_app, fwS_app]; have := HBI.out; omega)
          rw [List.append_assoc (P ++ [(0, 0)]), ← HPK.out] at CN
          clear CW hRb hFb hEb HOE HE e0
          go_wp2_with fail
          refine CN.mono ?_
          rintro ec wc ⟨rfl, hRc, hFc⟩
          have HOC : Hid (RL wc R g N cp L (P ++ [(0, 0)] ++ plL (a + fwS [wOpen, wType, wDirectory]) (ns.take (i + 1)) (ks.take (i + 1))) (a + fwS ([wOpen, wType, wDirectory] ++ wdL (ns.take i) (ks.take i) ++ [wEntry, wOpen, wName, s, wNode] ++ wdT K)) ∧ Ff R [g] wq wc) := by
            refine ⟨?_, HOB.out.2.trans hFc (fun _ hx => .inl hx)⟩
            rw [fwS_app _ (wdT K), ← Nat.add_assoc]
            exact hRc
          clear CN hRc hFc HOB f1 f2 f3 f4
          have CX := skip_step R g N cp L _ a ([wOpen, wType, wDirectory] ++ wdL (ns.take i) (ks.take i) ++ [wEntry, wOpen, wName, s, wNode] ++ wdT K) [wClose] wc HOC.out.1 (by simp) (by intro z hz; simp at hz; subst hz; decide) (by rw [fwS_app, fwS_app, fwS_app, fwS_app]; have := HBI.out; omega)
          rw [show [wOpen, wType, wDirectory] ++ wdL (ns.take i) (ks.take i) ++ [wEntry, wOpen, wName, s, wNode] ++ wdT K ++ [wClose] = [wOpen, wType, wDirectory] ++ wdL (ns.take (i + 1)) (ks.take (i + 1)) by rw [HT.out]; simp only [List.append_assoc]] at CX
          go_wp2_with fail
          refine CX.mono ?_
          rintro ed wd ⟨rfl, hRd, hFd⟩
          have HOD : Hid (RL wd R g N cp L (P ++ [(0, 0)] ++ plL (a + fwS [wOpen, wType, wDirectory]) (ns.take (i + 1)) (ks.take (i + 1))) (a + fwS ([wOpen, wType, wDirectory] ++ wdL (ns.take (i + 1)) (ks.take (i + 1)))) ∧ Ff R [g] wq wd) := ⟨hRd, HOC.out.2.trans hFd (fun _ hx => .inl hx)⟩
          clear CX hRd hFd HOC
          go_wp2
          go_roundw
          case rel => exact ⟨i + 1, by omega, by go_num, HOD⟩
          case measure => simp [intOf]; omega
        · obtain rfl : i = n := by omega
          have HOF : Hid (RL wr R g N cp L (P ++ [(0, 0)] ++ plL (a + fwS [wOpen, wType, wDirectory]) ns ks) (a + fwS ([wOpen, wType, wDirectory] ++ wdL ns ks)) ∧ Ff R [g] wq wr) := by
            have h := HO.out
            rw [List.take_of_length_le (by rw [HLL.out.1]; exact Nat.le_refl _), List.take_of_length_le (by rw [HLL.out.2.1]; exact Nat.le_refl _)] at h
            exact h
          have CX := skip_step R g N cp L _ a ([wOpen, wType, wDirectory] ++ wdL ns ks) [wClose] wr HOF.out.1 (by simp) (by intro z hz; simp at hz; subst hz; decide) (HBD.out _ [] (by rw [HWD.out]; simp))
          clear HO
          go_wp2_with fail
          refine CX.mono ?_
          rintro ed wd ⟨rfl, hRd, hFd⟩
          have HOD : Hid (RL wd R g N cp L (P ++ [(0, 0)] ++ plL (a + fwS [wOpen, wType, wDirectory]) ns ks) (a + fwS ([wOpen, wType, wDirectory] ++ wdL ns ks ++ [wClose])) ∧ Ff R [g] wq wd) := ⟨hRd, HOF.out.2.trans hFd (fun _ hx => .inl hx)⟩
          clear CX hRd hFd HOF
          go_wp2
          go_end0
          refine ⟨rfl, ?_, HQ0.out.trans HOD.out.2 (fun _ hx => .inl hx)⟩
          rw [HWD.out, HPT.out, ← List.append_assoc, show P ++ (0, 0) :: plL (a + fwS [wOpen, wType, wDirectory]) ns ks = P ++ [(0, 0)] ++ plL (a + fwS [wOpen, wType, wDirectory]) ns ks by simp]
          exact HOD.out.1

end Go.Proofs.Ythlioedahoiahaa.Ls
namespace Go.Proofs.Ythlioedahoiahaa.Ls
open Go.RowKit Go.Proofs.Ythlioedahoiahaa

/-- The rows L in block g, measured by P (noughts behind). -/
structure LR (w : World) (g N cp : Nat) (L : List RW) (P : List (Nat × Nat)) : Prop where
  row : ∀ j r, L[j]? = some r → w.cell? ⟨g, j * 6, none⟩ = some (.string r.1) ∧ w.cell? ⟨g, j * 6 + 1, none⟩ = some (.int .i64 r.2.1) ∧ w.cell? ⟨g, j * 6 + 2, none⟩ = some (.bool r.2.2.1) ∧ w.cell? ⟨g, j * 6 + 3, none⟩ = some (.string r.2.2.2) ∧ w.cell? ⟨g, j * 6 + 4, none⟩ = some (.int .i64 ((P.getD j (0, 0)).1 : Int)) ∧ w.cell? ⟨g, j * 6 + 5, none⟩ = some (.int .i64 ((P.getD j (0, 0)).2 : Int))
  fr : ∀ j, j < N * 6 → w.frozen? ⟨g, j, none⟩ = false
  len : L.length = N
  nc : N ≤ cp
  cb : cp ≤ 1073741824
  lt : g < w.heap.size
theorem LR.same {w w' : World} {g N cp : Nat} {L : List RW} {P : List (Nat × Nat)} (h : LR w g N cp L P) (hs : w.heap.size ≤ w'.heap.size) (eg : w'.heap[g]? = w.heap[g]?) : LR w' g N cp L P := by
  have c : ∀ j, w'.cell? ⟨g, j, none⟩ = w.cell? ⟨g, j, none⟩ := fun j => World.cell?_of_block (w := w) (w' := w') (a := ⟨g, j, none⟩) eg
  refine ⟨fun j r hr => ?_, fun j hj => ?_, h.len, h.nc, h.cb, Nat.lt_of_lt_of_le h.lt hs⟩
  · rw [c, c, c, c, c, c]; exact h.row j r hr
  · rw [World.frozen?_of_block (w := w) (w' := w') (a := ⟨g, j, none⟩) eg]; exact h.fr j hj
theorem LR.below {w w' : World} {g N cp : Nat} {L : List RW} {P : List (Nat × Nat)} (h : LR w g N cp L P) (b : Below w.heap.size w w') : LR w' g N cp L P := h.same b.size (b.block g h.lt)
theorem RL.rows {w : World} {R g N cp : Nat} {L : List RW} {P : List (Nat × Nat)} {a : Nat} (h : RL w R g N cp L P a) : LR w g N cp L P := ⟨h.row, h.fr, h.len, h.nc, h.cb, h.lt⟩

set_option maxHeartbeats 4000000 in
set_option maxRecDepth 10000 in
theorem measure_any (m : Nat) (k : Int) (e : Bool) (t : ByteArray) (x : Option Addr) (n c : Nat) (T : Tr) (w0 w : World) (g N cp : Nat) (L : List RW) (hA : At w0 m (.agg #[.int .i64 k, .bool e, .string t, .slice x n c]) T) (hg : w0.heap.size ≤ g) (hb : Below w0.heap.size w0 w) (hL : LR w g N cp L []) (hok : okT T) (hpl : (plT (fwS [wMagic]) T).length ≤ N) (hlen : fwS (wMagic :: wdT T) ≤ 1073741824) :
    Calls Try.prog 12 #[.agg #[.int .i64 k, .bool e, .string t, .slice x n c], .slice (some ⟨g, 0, none⟩) N cp] w fun en w' => en = .returned (.tuple #[]) ∧ LR w' g N cp L (plT (fwS [wMagic]) T) ∧ Ff g [] w w' := by
  have HH : Hid (At w0 m (.agg #[.int .i64 k, .bool e, .string t, .slice x n c]) T ∧ w0.heap.size ≤ g ∧ Below w0.heap.size w0 w ∧ LR w g N cp L [] ∧ okT T ∧ (plT (fwS [wMagic]) T).length ≤ N ∧ fwS (wMagic :: wdT T) ≤ 1073741824) := ⟨hA, hg, hb, hL, hok, hpl, hlen⟩
  have bA : Below w.heap.size w (w.alloc (Obj.cells #[Value.int IntKind.i64 k, Value.bool e, Value.string t, Value.slice x n c] 37)) := (Below.refl _ _).alloc (Nat.le_refl _) _
  have HG : Hid ((w.alloc (Obj.cells #[Value.int IntKind.i64 k, Value.bool e, Value.string t, Value.slice x n c] 37)).heap[w.heap.size]? = some (.cells #[Value.int IntKind.i64 k, Value.bool e, Value.string t, Value.slice x n c] 37 (0, 0)) ∧ (w.alloc (Obj.cells #[Value.int IntKind.i64 k, Value.bool e, Value.string t, Value.slice x n c] 37)).heap.size = w.heap.size + 1 ∧ Below w.heap.size w (w.alloc (Obj.cells #[Value.int IntKind.i64 k, Value.bool e, Value.string t, Value.slice x n c] 37))) := ⟨heap_alloc_new _ _, World.size_alloc _ _, bA⟩
  clear hA hg hb hL hok hpl hlen bA
  go_enter Try.func12, Try.ntmps12
  go_upto_region 1 with fail
  obtain ⟨E, hE⟩ : ∃ E, w.heap.size = E := ⟨_, rfl⟩
  have HE : Hid (w.heap.size = E) := hE
  generalize w.alloc (Obj.cells #[Value.int IntKind.i64 k, Value.bool e, Value.string t, Value.slice x n c] 37) = w1 at *
  rw [hE] at HG ⊢
  clear hE
  have HR : Hid (RL (w1.alloc (.cells #[.slice (some ⟨g, 0, none⟩) N cp, .int .i64 0] 84)) w1.heap.size g N cp L [] (0 + fwS []) ∧ (w1.alloc (.cells #[.slice (some ⟨g, 0, none⟩) N cp, .int .i64 0] 84)).heap[E]? = some (.cells #[Value.int IntKind.i64 k, Value.bool e, Value.string t, Value.slice x n c] 37 (0, 0)) ∧ Below w.heap.size w (w1.alloc (.cells #[.slice (some ⟨g, 0, none⟩) N cp, .int .i64 0] 84))) := by
    have b1 : Below w1.heap.size w1 (w1.alloc (.cells #[.slice (some ⟨g, 0, none⟩) N cp, .int .i64 0] 84)) := (Below.refl _ _).alloc (Nat.le_refl _) _
    have hz := HG.out.2.1
    have hw : w.heap.size = E := HE.out
    have bw : Below w.heap.size w w1 := by rw [hw]; exact HG.out.2.2
    have hL1 : LR w1 g N cp L [] := HH.out.2.2.2.1.below bw
    have hL2 := hL1.below b1
    exact ⟨⟨⟨some ⟨g, 0, none⟩, (St.new w1 _ _).cast (by simp [fwS]), fun _ => by simp⟩, hL2.row, hL2.fr, hL2.len, Nat.zero_le _, hL2.nc, hL2.cb, by have := hL1.lt; omega, hL2.lt⟩, (b1.block E (by omega)).trans HG.out.1, bw.trans (b1.mono (by omega))⟩
  go_upto_region 2 with fail
  obtain ⟨R, hR⟩ : ∃ R, w1.heap.size = R := ⟨_, rfl⟩
  have HRE : Hid (R = E + 1) := by rw [← hR]; exact HG.out.2.1
  generalize w1.alloc (.cells #[.slice (some ⟨g, 0, none⟩) N cp, .int .i64 0] 84) = w2 at *
  rw [hR] at HR ⊢
  clear hR HG
  have hgE : g < E := by have := HH.out.2.2.2.1.lt; have := HE.out; omega
  have CW := skip_step R g N cp L [] 0 [] [wMagic] w2 HR.out.1 (by simp) (by intro z hz; simp at hz; subst hz; decide) (by have h1 := HH.out.2.2.2.2.2.2; have h2 : fwS (wMagic :: wdT T) = fwS [wMagic] + fwS (wdT T) := fwS_app [wMagic] (wdT T); rw [List.nil_append, Nat.zero_add]; omega)
  rw [List.nil_append] at CW
  go_wp2_with fail
  refine CW.mono ?_
  rintro e3 w3 ⟨rfl, R3, F3⟩
  have hE3 := (F3.keep E (heap_lt HR.out.2.1) (by have := HRE.out; omega) (by simp; omega)).trans HR.out.2.1
  obtain ⟨u0, u1, u2, u3, _⟩ := cell4n hE3
  have b3 : Below w0.heap.size w0 w3 := by
    have hz := HH.out.2.2.1.size
    have hz2 := HR.out.2.2.size
    have hw := HE.out
    exact HH.out.2.2.1.trans ((HR.out.2.2.mono hz).trans (ff_below F3 (by omega) (by have := HRE.out; omega) (fun x hx => by simp at hx; subst hx; exact HH.out.2.1)))
  rw [Nat.zero_add] at R3
  have CN := rnode_any m _ T w0 w3 R g N cp L [] (fwS [wMagic]) HH.out.1 (by have := HH.out.2.2.1.size; have := HE.out; have := HRE.out; omega) HH.out.2.1 b3 R3 HH.out.2.2.2.2.1 (by have := HH.out.2.2.2.2.2.1; simp only [List.length_nil]; omega) (by have := HH.out.2.2.2.2.2.2; have h2 : fwS (wMagic :: wdT T) = fwS [wMagic] + fwS (wdT T) := fwS_app [wMagic] (wdT T); omega)
  rw [List.nil_append] at CN
  have HF : Hid (Ff g [R] w w3) := by
    have hz := HR.out.2.2
    refine ⟨F3.os.trans hz.os, F3.tape.trans hz.tape, F3.output.trans hz.output, Nat.le_trans hz.size F3.size, fun i h1 h2 h3 => (F3.keep i (Nat.lt_of_lt_of_le h1 hz.size) (fun e => h3 (by simp [e])) (by simpa using h2)).trans (hz.block i h1)⟩
  clear CW R3 F3 hE3 b3 HR
  go_wp2_with fail
  refine CN.mono ?_
  rintro e4 w4 ⟨rfl, R4, F4⟩
  have HF4 : Hid (LR w4 g N cp L (plT (fwS [wMagic]) T) ∧ Ff g [] w w4) := by
    refine ⟨R4.rows, F4.os.trans HF.out.os, F4.tape.trans HF.out.tape, F4.output.trans HF.out.output, Nat.le_trans HF.out.size F4.size, fun i h1 h2 _ => (F4.keep i (Nat.lt_of_lt_of_le h1 HF.out.size) (fun e => ?_) (by simpa using h2)).trans (HF.out.keep i h1 h2 (fun e => ?_))⟩
    · have := HE.out; have := HRE.out; omega
    · simp at e; have := HE.out; have := HRE.out; omega
  clear CN R4 F4 HF u0 u1 u2 u3
  go_wp2
  go_end0
  exact ⟨rfl, HF4.out⟩

end Go.Proofs.Ythlioedahoiahaa.Ls
namespace Go.Proofs.Ythlioedahoiahaa.Ls
open Go.RowKit Go.Proofs.Ythlioedahoiahaa

theorem infoLRW : (Try.prog.info? 46).map (fun i => (i.zero, i.size, i.bytes)) = some (some (.agg #[.string ByteArray.empty, .int .i64 0, .bool false, .string ByteArray.empty, .int .i64 0, .int .i64 0]), 6, 64) := by kernel_rfl
def zrow : RW := (ByteArray.empty, 0, false, ByteArray.empty)
/-- make([]Row, n). -/
theorem make_rows (w : World) (n : Nat) (hn : n ≤ 1073741824) : (Instr.makeSlice 23 (.int .i64 (n : Int)) (.int .i64 (n : Int))).run Try.prog w = .ok (.slice (some ⟨w.heap.size, 0, none⟩) n n) (w.alloc (.cells (madeCells (Value.agg #[.string ByteArray.empty, .int .i64 0, .bool false, .string ByteArray.empty, .int .i64 0, .int .i64 0]).cells (n * 6)) 46)) := by
  obtain ⟨i0, hi, hz0, hz1, hz2⟩ := info_parts infoLRW
  rw [run_make (P := Try.prog) w 23 46 i0 (.agg #[.string ByteArray.empty, .int .i64 0, .bool false, .string ByteArray.empty, .int .i64 0, .int .i64 0]) Try.underlying23 hi hz0 .i64 .i64 _ _ (by omega) (by omega) (by rw [hz2]; omega) (by omega), Int.toNat_natCast, hz1]
theorem made_at (z : Array Value) (n j : Nat) (h : j < n) : (madeCells z n)[j]? = some (z[j % z.size]!) := by
  unfold madeCells
  simp [h]
theorem LR.made (w : World) (n : Nat) (hn : n ≤ 1073741824) : LR (w.alloc (.cells (madeCells (Value.agg #[.string ByteArray.empty, .int .i64 0, .bool false, .string ByteArray.empty, .int .i64 0, .int .i64 0]).cells (n * 6)) 46)) w.heap.size n n (List.replicate n zrow) [] := by
  refine ⟨fun j r hr => ?_, fun j hj => World.frozen?_alloc_new w _ _ _, by simp, Nat.le_refl _, hn, by rw [World.size_alloc]; omega⟩
  have hj : j < n := by have := (List.getElem?_eq_some_iff.1 hr).1; simpa using this
  have er : r = zrow := by
    rw [List.getElem?_replicate, if_pos hj] at hr
    simpa using hr.symm
  subst er
  have key : ∀ i, i < 6 → (w.alloc (.cells (madeCells (Value.agg #[.string ByteArray.empty, .int .i64 0, .bool false, .string ByteArray.empty, .int .i64 0, .int .i64 0]).cells (n * 6)) 46)).cell? ⟨w.heap.size, j * 6 + i, none⟩ = some ((Value.agg #[.string ByteArray.empty, .int .i64 0, .bool false, .string ByteArray.empty, .int .i64 0, .int .i64 0]).cells[i]!) := fun i hi => by
    rw [World.cell?_alloc_new, made_at _ _ _ (by omega)]
    have e : (Value.agg #[.string ByteArray.empty, .int .i64 0, .bool false, .string ByteArray.empty, .int .i64 0, .int .i64 0]).cells.size = 6 := rfl
    rw [e, show (j * 6 + i) % 6 = i by omega]
  refine ⟨?_, key 1 (by omega), key 2 (by omega), key 3 (by omega), key 4 (by omega), key 5 (by omega)⟩
  have := key 0 (by omega)
  rw [Nat.add_zero] at this
  exact this
/-- A row is written. -/
theorem LR.put {w : World} {g N cp : Nat} {L : List RW} (h : LR w g N cp L []) (i : Nat) (r : RW) (hi : i < N) : LR ((((((w.setCell ⟨g, i * 6, none⟩ (.string r.1)).setCell ⟨g, i * 6 + 1, none⟩ (.int .i64 r.2.1)).setCell ⟨g, i * 6 + 2, none⟩ (.bool r.2.2.1)).setCell ⟨g, i * 6 + 3, none⟩ (.string r.2.2.2)).setCell ⟨g, i * 6 + 4, none⟩ (.int .i64 0)).setCell ⟨g, i * 6 + 5, none⟩ (.int .i64 0)) g N cp (L.set i r) [] := by
  obtain ⟨r1, hr1⟩ : ∃ r, L[i]? = some r := ⟨_, List.getElem?_eq_getElem (by rw [h.len]; exact hi)⟩
  obtain ⟨c0, c1, c2, c3, c4, c5⟩ := h.row i r1 hr1
  have oth : ∀ (W : World) (a b : Nat) (x : Value), a ≠ b → (W.setCell ⟨g, b, none⟩ x).cell? ⟨g, a, none⟩ = W.cell? ⟨g, a, none⟩ := fun W a b x hab => cell_other W g a b x hab
  have sam : ∀ (W : World) (a : Nat) (x y : Value), W.cell? ⟨g, a, none⟩ = some y → (W.setCell ⟨g, a, none⟩ x).cell? ⟨g, a, none⟩ = some x := fun W a x y hy => World.cell?_setCell_same _ _ _ hy
  refine ⟨fun j r' hr => ?_, fun j hj => ?_, by rw [List.length_set]; exact h.len, h.nc, h.cb, ?_⟩
  · by_cases e : j = i
    · subst e
      rw [List.getElem?_set_self (by rw [h.len]; exact hi)] at hr
      injection hr with hr
      subst hr
      refine ⟨?_, ?_, ?_, ?_, ?_, ?_⟩
      · rw [oth _ _ _ _ (by omega), oth _ _ _ _ (by omega), oth _ _ _ _ (by omega), oth _ _ _ _ (by omega), oth _ _ _ _ (by omega)]; exact sam _ _ _ _ c0
      · rw [oth _ _ _ _ (by omega), oth _ _ _ _ (by omega), oth _ _ _ _ (by omega), oth _ _ _ _ (by omega)]; exact sam _ _ _ _ ((oth _ _ _ _ (by omega)).trans c1)
      · rw [oth _ _ _ _ (by omega), oth _ _ _ _ (by omega), oth _ _ _ _ (by omega)]; exact sam _ _ _ _ ((oth _ _ _ _ (by omega)).trans ((oth _ _ _ _ (by omega)).trans c2))
      · rw [oth _ _ _ _ (by omega), oth _ _ _ _ (by omega)]; exact sam _ _ _ _ ((oth _ _ _ _ (by omega)).trans ((oth _ _ _ _ (by omega)).trans ((oth _ _ _ _ (by omega)).trans c3)))
      · rw [oth _ _ _ _ (by omega)]; exact sam _ _ _ _ ((oth _ _ _ _ (by omega)).trans ((oth _ _ _ _ (by omega)).trans ((oth _ _ _ _ (by omega)).trans ((oth _ _ _ _ (by omega)).trans c4))))
      · exact sam _ _ _ _ ((oth _ _ _ _ (by omega)).trans ((oth _ _ _ _ (by omega)).trans ((oth _ _ _ _ (by omega)).trans ((oth _ _ _ _ (by omega)).trans ((oth _ _ _ _ (by omega)).trans c5)))))
    · rw [List.getElem?_set_ne (fun k => e k.symm)] at hr
      have hj := h.row j r' hr
      have far : ∀ a, a < 6 → ((((((w.setCell ⟨g, i * 6, none⟩ (.string r.1)).setCell ⟨g, i * 6 + 1, none⟩ (.int .i64 r.2.1)).setCell ⟨g, i * 6 + 2, none⟩ (.bool r.2.2.1)).setCell ⟨g, i * 6 + 3, none⟩ (.string r.2.2.2)).setCell ⟨g, i * 6 + 4, none⟩ (.int .i64 0)).setCell ⟨g, i * 6 + 5, none⟩ (.int .i64 0)).cell? ⟨g, j * 6 + a, none⟩ = w.cell? ⟨g, j * 6 + a, none⟩ := fun a ha => by
        rw [oth _ _ _ _ (by omega), oth _ _ _ _ (by omega), oth _ _ _ _ (by omega), oth _ _ _ _ (by omega), oth _ _ _ _ (by omega), oth _ _ _ _ (by omega)]
      exact ⟨(far 0 (by omega)).trans hj.1, (far 1 (by omega)).trans hj.2.1, (far 2 (by omega)).trans hj.2.2.1, (far 3 (by omega)).trans hj.2.2.2.1, (far 4 (by omega)).trans hj.2.2.2.2.1, (far 5 (by omega)).trans hj.2.2.2.2.2⟩
  · iterate 6 rw [World.frozen?_setCell]
    exact h.fr j hj
  · iterate 6 rw [World.size_setCell]
    exact h.lt
/-- A slice and a fault that are handed back. -/
theorem ret_sf {f : Func} {tmps : Array Value} {W : World} {K : Nat} {i j : Nat} {v : Value} {a b : Int} {R : Ending → World → Prop} (hf : f.results = #[.tmp i, .cell j 26]) (h1 : tmps[i]?.getD undef = v) (h2 : tmps[j]?.getD undef = .pointer (some ⟨K, 0, none⟩))
    (q : St W K [.int .i64 a, .int .i64 b]) (hR : R (.returned (.tuple #[v, .agg #[.int .i64 a, .int .i64 b]])) W) :
    bodyPost Try.prog f R .ret { tmps := tmps, defers := [] } W := by
  have q0 := q.get 0 _ rfl
  have q1 := q.get 1 _ rfl
  exact bodyPost_ret (v := .tuple #[v, .agg #[.int .i64 a, .int .i64 b]]) (by simp [results, hf, go_sem, h1, h2, q0, q1]) rfl hR

end Go.Proofs.Ythlioedahoiahaa.Ls
namespace Go.Proofs.Ythlioedahoiahaa
open Go.RowKit

/-- From w to w' nothing has turned but block g, rows of cells of type ty above it, and new blocks. -/
structure Fx (g : Nat) (ty : TypeId) (w w' : World) : Prop where
  os : w'.os = w.os
  tape : w'.tape = w.tape
  output : w'.output = w.output
  size : w.heap.size ≤ w'.heap.size
  low : ∀ k, k < g → w'.heap[k]? = w.heap[k]?
  mid : ∀ (k : Nat) (C : Array Value) (T : TypeId) (fz : Nat × Nat), w.heap[k]? = some (Obj.cells C T fz) → T ≠ ty → k ≠ g → w'.heap[k]? = w.heap[k]?
theorem Fx.refl (g : Nat) (ty : TypeId) (w : World) : Fx g ty w w := ⟨rfl, rfl, rfl, Nat.le_refl _, fun _ _ => rfl, fun _ _ _ _ _ _ _ => rfl⟩
theorem Fx.trans {g : Nat} {ty : TypeId} {a b c : World} (h : Fx g ty a b) (k : Fx g ty b c) : Fx g ty a c :=
  ⟨k.os.trans h.os, k.tape.trans h.tape, k.output.trans h.output, Nat.le_trans h.size k.size, fun i hi => (k.low i hi).trans (h.low i hi), fun i C T fz e1 e2 e3 => (k.mid i C T fz ((h.mid i C T fz e1 e2 e3).trans e1) e2 e3).trans (h.mid i C T fz e1 e2 e3)⟩
theorem Fx.of_below {g : Nat} {ty : TypeId} {w w' : World} (h : Below w.heap.size w w') (hg : g ≤ w.heap.size) : Fx g ty w w' :=
  ⟨h.os, h.tape, h.output, h.size, fun k hk => h.block k (by omega), fun k _ _ _ e _ _ => h.block k (heap_lt e)⟩
theorem Fx.of_fk {g B : Nat} {ty : TypeId} {w w' : World} (h : Fk B ty w w') (hg : g ≤ B) : Fx g ty w w' :=
  ⟨h.os, h.tape, h.output, h.size, fun k hk => h.low k (by omega), fun k C T fz e1 e2 _ => h.mid k C T fz e1 e2⟩
theorem Fx.setCell {g : Nat} {ty : TypeId} {a w : World} (h : Fx g ty a w) (j : Nat) (u : Value) : Fx g ty a (w.setCell ⟨g, j, none⟩ u) :=
  h.trans ⟨rfl, rfl, rfl, by rw [World.size_setCell]; exact Nat.le_refl _, fun k hk => Below.heap_setCell _ _ _ k (by show k ≠ g; omega), fun k _ _ _ _ _ hn => Below.heap_setCell _ _ _ k hn⟩
theorem Fx.below {g : Nat} {ty : TypeId} {w w' : World} (h : Fx g ty w w') : Below g w w' := ⟨h.os, h.tape, h.output, h.size, h.low⟩

/-- The two variables that gather holds: the rows so far, itself. -/
structure Gv (w : World) (rb gb : Nat) (x : Option Addr) (c : Nat) (L : List RW) : Prop where
  hr : w.heap[rb]? = some (.cells #[.slice x L.length c] 40 (0, 0))
  hg : w.heap[gb]? = some (.cells #[.func (.func 21) #[] #[.pointer (some ⟨rb, 0, none⟩), .pointer (some ⟨gb, 0, none⟩)]] 76 (0, 0))
  rows : Rws 44 w (rb + 1) (.slice x L.length c) L
theorem Gv.below {w w' : World} {rb gb : Nat} {x : Option Addr} {c : Nat} {L : List RW} (h : Gv w rb gb x c L) (b : Below w.heap.size w w') : Gv w' rb gb x c L :=
  ⟨(b.block rb (heap_lt h.hr)).trans h.hr, (b.block gb (heap_lt h.hg)).trans h.hg, h.rows.below b⟩
theorem Gv.app {w : World} {rb gb : Nat} {x : Option Addr} {c : Nat} {L : List RW} (h : Gv w rb gb x c L) (hne : gb ≠ rb) (r : RW) (hl : L.length ≤ 1073741824) :
    ∃ p c' w', (Builtin.append_ #[40, 40] 40 #[.slice x L.length c, .slice (some ⟨w.heap.size, 0, none⟩) 1 1]).run Try.prog (w.alloc (.cells #[.string r.1, .int .i64 r.2.1, .bool r.2.2.1, .string r.2.2.2] 44)) = .ok (.slice p (L.length + 1) c') w' ∧
      w'.heap[rb]? = some (.cells #[.slice x L.length c] 40 (0, 0)) ∧ Gv (w'.setCell ⟨rb, 0, none⟩ (.slice p (L.length + 1) c')) rb gb p c' (L ++ [r]) ∧ Fx rb 44 w (w'.setCell ⟨rb, 0, none⟩ (.slice p (L.length + 1) c')) := by
  have hlr := heap_lt h.hr
  obtain ⟨p, c', w', hrun, R, F⟩ := h.rows.app infoROW undLROW r (by omega) hl
  have k0 : w'.heap[rb]? = some (.cells #[.slice x L.length c] 40 (0, 0)) := (F.mid rb _ _ _ h.hr (by decide)).trans h.hr
  have k1 : w'.heap[gb]? = some (.cells #[.func (.func 21) #[] #[.pointer (some ⟨rb, 0, none⟩), .pointer (some ⟨gb, 0, none⟩)]] 76 (0, 0)) := (F.mid gb _ _ _ h.hg (by decide)).trans h.hg
  refine ⟨p, c', w', hrun, k0, ⟨?_, (Below.heap_setCell _ _ _ gb hne).trans k1, ?_⟩, (Fx.of_fk F (Nat.le_succ _)).setCell 0 _⟩
  · rw [List.length_append]
    simp [World.setCell, Array.getElem?_modify, k0]
  · rw [List.length_append]
    exact R.over k0 (by decide) 0 _
theorem chk_ne {s : ByteArray} (h : chk s = 0) : s.size ≠ 0 := fun h1 => by
  have : chk s = 50 := by unfold chk; rw [Lib.toList_data, data_nil s h1]; rfl
  rw [this] at h
  exact absurd h (by decide)
theorem app_empty (s : ByteArray) : (⟨#[]⟩ : ByteArray) ++ s = s := by apply ByteArray.ext; simp

def GtAt (f : Nat) : Prop := ∀ (u : Value) (T : Tr) (ns : List ByteArray) (b : Int) (rb gb : Nat) (x : Option Addr) (c : Nat) (L : List RW) (w0 w : World), At w0 f u T → smT T → Below w0.heap.size w0 w → w0.heap.size ≤ rb → rb < gb → Gv w rb gb x c L → (L.length : Int) ≤ b → 0 ≤ b → b ≤ 1048576 → (vT ns b T).off = none → (ns ≠ [] → (joinB ns).size ≠ 0) → (∀ s ∈ ns, s.size ≤ 1048576) → ns.length ≤ 32 →
  Calls Try.prog 21 #[.string (joinB ns), u, .pointer (some ⟨rb, 0, none⟩), .pointer (some ⟨gb, 0, none⟩)] w fun e w' => e = .returned (.tuple #[]) ∧ (∃ x' c', Gv w' rb gb x' c' (L ++ rwT ns T)) ∧ Fx rb 44 w w'

set_option maxHeartbeats 32000000 in
set_option maxRecDepth 20000 in
theorem gather_any (f : Nat) : GtAt f := by
  induction f with
  | zero => intro u T ns b rb gb x c L w0 w h; exact h.elim
  | succ f IH =>
    rintro u ⟨k, e, t, nms, ks⟩ ns b rb gb xv cv L w0 w ⟨x, n, c, rfl, l1, l2, l3, l4, hx⟩ hsm hB0 hw0 hrg hG hLb hb0 hb1 hoff hne hns hnl
    have EX : Hid (Ents w0 f x n nms ks) := At.ents hx
    have LL : Hid (nms.length = n ∧ ks.length = n) := ⟨l1, l2⟩
    have HSL : Hid (smL nms ks) := by unfold Hid; rw [smT] at hsm; exact hsm.2
    have HNS : Hid (∀ s ∈ ns, s.size ≤ 1048576) := hns
    have HIH : Hid (GtAt f) := IH
    have HB0 : Hid (Below w0.heap.size w0 w) := hB0
    have HM : Hid (rwT ns (.mk k e t nms ks) = (joinB ns, k, e, t) :: rwL ns nms ks) := by unfold Hid; rw [rwT]
    have hjs := joinB_size ns hns
    have hnb := nbP_bd k e t
    have hnp := nbP_pos k e t
    rw [vT] at hoff
    split at hoff
    · cases hoff
    rename_i hd
    split at hoff
    · cases hoff
    split at hoff
    · cases hoff
    rename_i hq
    have HO : Hid ((vL ns (b + nbP k e t) none nms ks).off = none) := hoff
    obtain ⟨b4, hb4e⟩ : ∃ b4, b4 = b + nbP k e t := ⟨_, rfl⟩
    rw [← hb4e] at HO hq
    have hd1 : ns.length + 1 ≤ 32 := by omega
    have hb40 : 0 ≤ b4 := by omega
    have hb41 : b4 ≤ 1048576 := by omega
    have hLn : (L.length : Int) + 1 ≤ b4 := by omega
    have HJ : Hid (∀ s, joinB (ns ++ [s]) = if ns.length = 0 then s else joinB ns ++ ⟨#[47]⟩ ++ s) := fun s => by
      by_cases h0 : ns.length = 0
      · rw [if_pos h0, List.eq_nil_of_length_eq_zero h0]; rfl
      · rw [if_neg h0]; exact joinB_snoc ns s (fun e => h0 (by rw [e]; rfl))
    have HJE : Hid (ns.length = 0 → joinB ns = ⟨#[]⟩) := fun h0 => by rw [List.eq_nil_of_length_eq_zero h0]; rfl
    have HNE : Hid (ns.length ≠ 0 → (joinB ns).size ≠ 0) := fun h0 => hne (fun e => h0 (by rw [e]; rfl))
    have hgl := heap_lt hG.hg
    have b1 : Below w.heap.size w (w.alloc (.cells #[.int .i64 k, .bool e, .string t, .slice x n c] 37)) := (Below.refl _ _).alloc (Nat.le_refl _) _
    have HN1 : Hid (NB (w.alloc (.cells #[.int .i64 k, .bool e, .string t, .slice x n c] 37)) w.heap.size k e t x n c) := NB.new w k e t x n c
    have HG1 : Hid (Gv (w.alloc (.cells #[.int .i64 k, .bool e, .string t, .slice x n c] 37)) rb gb xv cv L) := hG.below b1
    have HF1 : Hid (Fx rb 44 w (w.alloc (.cells #[.int .i64 k, .bool e, .string t, .slice x n c] 37))) := Fx.of_below b1 (by omega)
    clear hx hsm IH hns hB0 l1 l2 hG b1 hoff hne hb4e hnb hnp hd hq
    go_enter Try.func21, Try.ntmps21
    go_upto_region 1 with fail
    generalize w.alloc (.cells #[.int .i64 k, .bool e, .string t, .slice x n c] 37) = w1 at *
    generalize hKe : w.heap.size = K at *
    have hKr : K ≠ rb := by omega
    clear hKe
    obtain ⟨p5, c5, w5, hr5, k5, G5, F5⟩ := HG1.out.app (by omega) (joinB ns, k, e, t) (by omega)
    dsimp only at hr5
    have HF6 : Hid (Fx rb 44 w (w5.setCell ⟨rb, 0, none⟩ (.slice p5 (L.length + 1) c5))) := HF1.out.trans F5
    have HG6 : Hid (Gv (w5.setCell ⟨rb, 0, none⟩ (.slice p5 (L.length + 1) c5)) rb gb p5 c5 (L ++ [(joinB ns, k, e, t)])) := G5
    have HN6 : Hid (NB (w5.setCell ⟨rb, 0, none⟩ (.slice p5 (L.length + 1) c5)) K k e t x n c) := (F5.mid K _ _ _ HN1.out (by decide) hKr).trans HN1.out
    have a0 : w1.cell? ⟨rb, 0, none⟩ = some (.slice xv L.length cv) := by rw [Lib.cell_of_heap HG1.out.hr]; rfl
    have n0 := HN1.out.c0
    have n1 := HN1.out.c1
    have n2 := HN1.out.c2
    have n3 := HN1.out.c3
    have d0 : w5.cell? ⟨rb, 0, none⟩ = some (.slice xv L.length cv) := by rw [Lib.cell_of_heap k5]; rfl
    have df : w5.frozen? ⟨rb, 0, none⟩ = false := Lib.frozen_of_heap k5 0
    clear G5 F5 k5
    obtain ⟨JN, hJN⟩ : ∃ JN, JN = joinB ns := ⟨_, rfl⟩
    rw [← hJN] at hr5 HG6 HM hjs HJ HJE HNE
    rw [← hJN]
    have HJN : Hid (JN = joinB ns) := hJN
    clear hJN
    go_upto_region 2 with (first | (refine wpList_app_is (by rfl) 40 40 (.tmp 8) (.tmp 17) (by rfl) _ _ _ _ (by rfl) (by rfl) hr5 ?_))
    clear hr5 a0 n0 n1 n2 n3 d0 df HG1 HN1 HF1
    generalize w5.setCell ⟨rb, 0, none⟩ (.slice p5 (L.length + 1) c5) = w6 at *
    -- the path ahead of the kids' names
    obtain ⟨PP, HPP⟩ : ∃ PP, Hid (PP = if ns.length = 0 then ⟨#[]⟩ else JN ++ ⟨#[47]⟩) := ⟨_, rfl⟩
    have HPJ : Hid (∀ s, PP ++ s = joinB (ns ++ [s])) := fun s => by
      have hj := HJ.out s
      by_cases h0 : ns.length = 0
      · rw [if_pos h0] at hj
        rw [hj, HPP.out, if_pos h0, app_empty]
      · rw [if_neg h0] at hj
        rw [hj, HPP.out, if_neg h0]
    have hPs : PP.size ≤ 1048577 * 33 := by
      rw [HPP.out]
      split
      · show 0 ≤ _; omega
      · rw [ByteArray.size_append]
        show JN.size + 1 ≤ _
        omega
    go_upto_if 20 with fail
    go_cut [0] from 7 to 38 (fun v0 wx => v0 = .string PP ∧ wx = w6)
    case first =>
      by_cases h0 : ns.length = 0
      · have hj := HJE.out h0
        have hp := HPP.out
        rw [if_pos h0] at hp
        have HP2 : Hid (PP = JN) := by unfold Hid; rw [hp, hj]
        have he : JN.toList.isEmpty = true := by rw [empty_iff, hj]; rfl
        clear h0 hp hj
        rw [he]
        go_wp2_with fail
        go_meet
        exact ⟨by rw [HP2.out], rfl⟩
      · have hj := HNE.out h0
        have he : JN.toList.isEmpty = false := size_empty JN hj
        have hp := HPP.out
        rw [if_neg h0] at hp
        have HP2 : Hid (PP = JN ++ ⟨#[47]⟩) := hp
        clear hp h0 hj
        rw [he]
        go_wp2_with fail
        go_meet
        exact ⟨by rw [HP2.out], rfl⟩
    case rest =>
      obtain ⟨rfl, rfl⟩ := hcut
      have n3 := HN6.out.c3
      go_wp2
      clear n3
      go_loopw [7, 26] (fun _ ix wr => ∃ (i : Nat) (bi : Int) (x' : Option Addr) (c' : Nat) (M : List RW) (prev : Option ByteArray), i ≤ n ∧ ix = .int .i64 i ∧ 0 ≤ bi ∧ bi ≤ 1048576 ∧ ((M.length : Int) ≤ bi) ∧ Hid (M = L ++ (JN, k, e, t) :: rwL ns (nms.take i) (ks.take i)) ∧ Hid (Gv wr rb gb x' c' M) ∧ Hid (Fx rb 44 w wr) ∧ Hid ((vL ns bi prev (nms.drop i) (ks.drop i)).off = none)) (fun _ i _ => n - (intOf i).toNat)
      case atStart => exact ⟨0, b4, p5, c5, L ++ [(JN, k, e, t)], none, Nat.zero_le _, rfl, hb40, hb41, by rw [List.length_append]; simp; omega, by unfold Hid; simp [rwL], HG6, HF6, HO⟩
      case round =>
        obtain ⟨i, bi, x', c', M, prev, hi, rfl, hbi0, hbi1, hMl, hM, hGV, hFX, hV⟩ := hrel
        clear HG6 HF6 HO HN6
        by_cases hlt : i < n
        · obtain ⟨l1, l2⟩ := LL.out
          obtain ⟨s, hs⟩ : ∃ s, nms[i]? = some s := ⟨_, List.getElem?_eq_getElem (by omega)⟩
          obtain ⟨S, hS⟩ : ∃ s, ks[i]? = some s := ⟨_, List.getElem?_eq_getElem (by omega)⟩
          have hBr : Hid (Below w0.heap.size w0 wr) := HB0.out.trans (hFX.out.below.mono hw0)
          obtain ⟨q, o, a, b', d, fx, pp, q', rfl, hgq, d0, d1, d2, d3, d4, hA⟩ := EX.out i s S hlt hs hS
          have c0 : wr.cell? ⟨q, o + i * 5, none⟩ = some (.string s) := (hBr.out.cell (p := ⟨q, o + i * 5, none⟩) hgq).trans d0
          have c1 : wr.cell? ⟨q, o + i * 5 + 1, none⟩ = some (.int .i64 a) := (hBr.out.cell (p := ⟨q, o + i * 5 + 1, none⟩) hgq).trans d1
          have c2 : wr.cell? ⟨q, o + i * 5 + 2, none⟩ = some (.bool b') := (hBr.out.cell (p := ⟨q, o + i * 5 + 2, none⟩) hgq).trans d2
          have c3 : wr.cell? ⟨q, o + i * 5 + 3, none⟩ = some (.string d) := (hBr.out.cell (p := ⟨q, o + i * 5 + 3, none⟩) hgq).trans d3
          have c4 : wr.cell? ⟨q, o + i * 5 + 4, none⟩ = some (.slice fx pp q') := (hBr.out.cell (p := ⟨q, o + i * 5 + 4, none⟩) hgq).trans d4
          have HA : Hid (At w0 f (.agg #[.int .i64 a, .bool b', .string d, .slice fx pp q']) S) := hA
          obtain ⟨hsz, hST⟩ := smL_at nms ks i s S HSL.out hs hS
          have HST : Hid (smT S) := hST
          have hv := hV.out
          rw [vL_at ns bi prev nms ks i s S hs hS] at hv
          split at hv
          · cases hv
          rename_i hent
          have hent0 : entO prev s bi = 0 := by omega
          obtain ⟨hck, hbe⟩ := entO_ok prev s bi hent0
          have hss := chk_ne hck
          have heb := ebP_bd s
          cases hX : (vT (ns ++ [s]) (bi + ebP s) S).off with
          | some oo => rw [hX] at hv; cases hv
          | none =>
          rw [hX] at hv
          have HV2 : Hid ((vL ns (vT (ns ++ [s]) (bi + ebP s) S).bytes (some s) (nms.drop (i + 1)) (ks.drop (i + 1))).off = none) := hv
          have hbd := vT_bd (ns ++ [s]) (bi + ebP s) S hX (by omega) (by omega)
          have hrl := rw_le (ns ++ [s]) (bi + ebP s) S hX
          have HM9 : Hid (M ++ rwT (ns ++ [s]) S = L ++ (JN, k, e, t) :: rwL ns (nms.take (i + 1)) (ks.take (i + 1))) := by
            unfold Hid
            rw [rwL_take ns nms ks i s S hs hS, hM.out]
            simp
          have HE : Hid ((wr.alloc (.cells #[.string s, .int .i64 a, .bool b', .string d, .slice fx pp q'] 78)).heap[wr.heap.size]? = some (.cells #[.string s, .int .i64 a, .bool b', .string d, .slice fx pp q'] 78 (0, 0))) := Array.getElem?_push_size
          have bE : Below wr.heap.size wr (wr.alloc (.cells #[.string s, .int .i64 a, .bool b', .string d, .slice fx pp q'] 78)) := (Below.refl _ _).alloc (Nat.le_refl _) _
          have HGE : Hid (Gv (wr.alloc (.cells #[.string s, .int .i64 a, .bool b', .string d, .slice fx pp q'] 78)) rb gb x' c' M) := hGV.out.below bE
          have HFE : Hid (Fx rb 44 w (wr.alloc (.cells #[.string s, .int .i64 a, .bool b', .string d, .slice fx pp q'] 78))) := hFX.out.trans (Fx.of_below bE (by have := heap_lt hGV.out.hr; omega))
          clear hv hV hA hST hs hS d0 d1 d2 d3 d4 l1 l2 bE hGV hFX hent hent0 hck hM
          go_upto_region 7 with fail
          generalize wr.heap.size = E at *
          generalize wr.alloc (.cells #[.string s, .int .i64 a, .bool b', .string d, .slice fx pp q'] 78) = wE at *
          clear c0 c1 c2 c3 c4 hBr
          have hBE : Below w0.heap.size w0 wE := HB0.out.trans (HFE.out.below.mono hw0)
          have g9 : (ns ++ [s]).length = ns.length + 1 := by rw [List.length_append]; rfl
          have hNS2 : ∀ s_1 ∈ ns ++ [s], s_1.size ≤ 1048576 := fun z hz => by
            rcases List.mem_append.1 hz with hz | hz
            · exact HNS.out z hz
            · simp at hz; subst hz; exact hsz
          have hnj : ns ++ [s] ≠ [] → (joinB (ns ++ [s])).size ≠ 0 := fun _ => by rw [← HPJ.out s, ByteArray.size_append]; omega
          have NC := HIH.out _ S (ns ++ [s]) (bi + ebP s) rb gb x' c' M w0 wE HA.out HST.out hBE hw0 hrg HGE.out (by omega) (by omega) (by omega) hX hnj hNS2 (by rw [g9]; omega)
          rw [← HPJ.out s] at NC
          have e0 : wE.cell? ⟨E, 0, none⟩ = some (.string s) := by rw [Lib.cell_of_heap HE.out]; rfl
          have e1 : wE.cell? ⟨E, 1, none⟩ = some (.int .i64 a) := by rw [Lib.cell_of_heap HE.out]; rfl
          have e2 : wE.cell? ⟨E, 2, none⟩ = some (.bool b') := by rw [Lib.cell_of_heap HE.out]; rfl
          have e3 : wE.cell? ⟨E, 3, none⟩ = some (.string d) := by rw [Lib.cell_of_heap HE.out]; rfl
          have e4 : wE.cell? ⟨E, 4, none⟩ = some (.slice fx pp q') := by rw [Lib.cell_of_heap HE.out]; rfl
          have ga : wE.cell? ⟨gb, 0, none⟩ = some (.func (.func 21) #[] #[.pointer (some ⟨rb, 0, none⟩), .pointer (some ⟨gb, 0, none⟩)]) := by rw [Lib.cell_of_heap HGE.out.hg]; rfl
          generalize (vT (ns ++ [s]) (bi + ebP s) S).bytes = b9 at *
          generalize rwT (ns ++ [s]) S = MS at *
          clear hX hnj hNS2 g9 hBE
          go_wp2_with fail
          refine NC.mono ?_
          rintro e6 w11 ⟨rfl, ⟨x9, c9, G9⟩, F9⟩
          have HG9 : Hid (Gv w11 rb gb x9 c9 (M ++ MS)) := G9
          have HF9 : Hid (Fx rb 44 w w11) := HFE.out.trans F9
          have hl9 : ((M ++ MS).length : Int) ≤ b9 := by rw [List.length_append]; omega
          clear NC G9 F9 e0 e1 e2 e3 e4 ga HGE HFE HE
          generalize M ++ MS = M9 at *
          go_wp2
          go_roundw
          case rel => exact ⟨i + 1, b9, x9, c9, M9, some s, by omega, by go_num, hbd.1, hbd.2, hl9, HM9, HG9, HF9, HV2⟩
          case measure => simp [intOf]; omega
        · obtain rfl : i = n := by omega
          obtain ⟨l1, l2⟩ := LL.out
          have HMe : Hid (M = L ++ rwT ns (.mk k e t nms ks)) := by
            unfold Hid
            rw [hM.out, HM.out, List.take_of_length_le (by omega), List.take_of_length_le (by omega)]
          clear l1 l2
          go_wp2
          go_end0
          exact ⟨rfl, ⟨x', c', by rw [← HMe.out]; exact hGV.out⟩, hFX.out⟩

end Go.Proofs.Ythlioedahoiahaa
namespace Go.Proofs.Ythlioedahoiahaa
open Go.RowKit

theorem Rws.mono {ty : TypeId} {w : World} {B B' : Nat} {v : Value} {L : List RW} (h : Rws ty w B v L) (hb : B' ≤ B) : Rws ty w B' v L := ⟨h.1, h.2.imp id fun ⟨g, cap, cur, a, b, r⟩ => ⟨g, cap, cur, a, Nat.le_trans hb b, r⟩⟩
/-- What Walk leaves. -/
def WkR (T : Tr) (w : World) (e : Ending) (w' : World) : Prop := (if (ckT T).2 ≠ 0 then e = .returned (.tuple #[.slice none 0 0, .int .i64 (ckT T).2]) else ∃ x c, e = .returned (.tuple #[.slice x (rwT [] T).length c, .int .i64 0]) ∧ Rws 44 w' w.heap.size (.slice x (rwT [] T).length c) (rwT [] T)) ∧ Below w.heap.size w w'
theorem WkR.bad {T : Tr} {w w' : World} {e : Ending} {c : Int} (h : (ckT T).2 = c) (hc : c ≠ 0) (he : e = .returned (.tuple #[.slice none 0 0, .int .i64 c])) (b : Below w.heap.size w w') : WkR T w e w' := by
  refine ⟨?_, b⟩
  rw [if_pos (by rw [h]; exact hc), h]
  exact he
theorem WkR.fine {T : Tr} {w w' : World} {e : Ending} {x : Option Addr} {c : Nat} (h : (ckT T).2 = 0) (he : e = .returned (.tuple #[.slice x (rwT [] T).length c, .int .i64 0])) (r : Rws 44 w' w.heap.size (.slice x (rwT [] T).length c) (rwT [] T)) (b : Below w.heap.size w w') : WkR T w e w' := by
  refine ⟨?_, b⟩
  rw [if_neg (by rw [h]; decide)]
  exact ⟨x, c, he, r⟩

set_option maxHeartbeats 8000000 in
theorem walk_tree (f : Nat) (u : Value) (T : Tr) (w : World) (hA : At w f u T) (hsm : smT T) :
    Calls Try.prog 10 #[u] w fun e w' => WkR T w e w' := by
  have hmf : ∀ (fn : Fn) (first cap : Array Value) (w : World), (Instr.makeFunc fn first cap).run Try.prog w = .ok (.func fn first cap) w := fun _ _ _ _ => rfl
  have rsf : ∀ (a : Addr) (fn : Fn) (fs cp : Array Value) (w : World) (m : Mode), (store a (.func fn fs cp) m).run Try.prog w = stored Try.prog w a (.func fn fs cp) m := fun a fn fs cp w m => run_store Try.prog w a _ m rfl
  obtain ⟨k, e, t, nms, ks⟩ := T
  cases f with
  | zero => exact hA.elim
  | succ f =>
  obtain ⟨x, n, c, rfl, hrest⟩ := hA
  have HA : Hid (At w (f + 1) (.agg #[.int .i64 k, .bool e, .string t, .slice x n c]) (.mk k e t nms ks)) := ⟨x, n, c, rfl, hrest⟩
  clear hrest
  generalize (Tr.mk k e t nms ks) = T at HA hsm ⊢
  have b1 : Below w.heap.size w (w.alloc (.cells #[.int .i64 k, .bool e, .string t, .slice x n c] 37)) := (Below.refl _ _).alloc (Nat.le_refl _) _
  have N1 : NB (w.alloc (.cells #[.int .i64 k, .bool e, .string t, .slice x n c] 37)) w.heap.size k e t x n c := NB.new w k e t x n c
  have CC := check_tree (f + 1) _ T (w.alloc (.cells #[.int .i64 k, .bool e, .string t, .slice x n c] 37)) (HA.out.below b1) hsm
  have hz1 : w.heap.size < (w.alloc (.cells #[.int .i64 k, .bool e, .string t, .slice x n c] 37)).heap.size := by rw [World.size_alloc]; omega
  have HSM : Hid (smT T) := hsm
  have HB1 : Hid (Below w.heap.size w (w.alloc (.cells #[.int .i64 k, .bool e, .string t, .slice x n c] 37))) := b1
  have HN1 : Hid (NB (w.alloc (.cells #[.int .i64 k, .bool e, .string t, .slice x n c] 37)) w.heap.size k e t x n c) := N1
  clear b1 N1 hsm
  go_enter Try.func10, Try.ntmps10
  go_wp2_with fail
  refine CC.mono ?_
  rintro e5 w2 ⟨rfl, b2⟩
  have HB2 : Hid (Below w.heap.size w w2) := HB1.out.trans (b2.mono HB1.out.size)
  have HN2 : Hid (NB w2 w.heap.size k e t x n c) := (b2.block _ hz1).trans HN1.out
  clear b2 CC HB1 HN1 hz1
  obtain ⟨CV, hcv⟩ : ∃ CV, (ckT T).2 = CV := ⟨_, rfl⟩
  have HCV : Hid ((ckT T).2 = CV) := hcv
  rw [hcv]
  clear hcv
  generalize (ckT T).1 = CP
  by_cases hc : CV ≠ 0
  · have q1 : (CV != 0) = true := by simpa using hc
    go_wp2
    go_ret2
    exact WkR.bad HCV.out hc rfl HB2.out
  · obtain rfl : CV = 0 := by omega
    have hz2 : (w2.alloc (.cells #[.slice none 0 0] 40)).heap.size = w2.heap.size + 1 := World.size_alloc _ _
    have b3 : Below w2.heap.size w2 ((w2.alloc (.cells #[.slice none 0 0] 40)).alloc (.cells #[.func (.func 21) #[] #[.pointer (some ⟨w2.heap.size, 0, none⟩), .pointer (some ⟨w2.heap.size + 1, 0, none⟩)]] 76)) := ((Below.refl _ _).alloc (Nat.le_refl _) _).alloc (by rw [hz2]; omega) _
    have HG3 : Hid (Gv ((w2.alloc (.cells #[.slice none 0 0] 40)).alloc (.cells #[.func (.func 21) #[] #[.pointer (some ⟨w2.heap.size, 0, none⟩), .pointer (some ⟨w2.heap.size + 1, 0, none⟩)]] 76)) w2.heap.size (w2.heap.size + 1) none 0 []) := by
      refine ⟨(Below.heap_alloc _ _ _ (by rw [hz2]; omega)).trans Array.getElem?_push_size, ?_, World.ownsRow_nil _ _ _ _⟩
      rw [← hz2]
      exact Array.getElem?_push_size
    have HB3 : Hid (Below w.heap.size w ((w2.alloc (.cells #[.slice none 0 0] 40)).alloc (.cells #[.func (.func 21) #[] #[.pointer (some ⟨w2.heap.size, 0, none⟩), .pointer (some ⟨w2.heap.size + 1, 0, none⟩)]] 76))) := HB2.out.trans (b3.mono HB2.out.size)
    have HN3 : Hid (NB ((w2.alloc (.cells #[.slice none 0 0] 40)).alloc (.cells #[.func (.func 21) #[] #[.pointer (some ⟨w2.heap.size, 0, none⟩), .pointer (some ⟨w2.heap.size + 1, 0, none⟩)]] 76)) w.heap.size k e t x n c) := (b3.block _ (heap_lt HN2.out)).trans HN2.out
    have hrb : w.heap.size ≤ w2.heap.size := HB2.out.size
    clear b3 hz2 HB2 HN2 hc
    go_upto_region 7 with fail
    generalize (w2.alloc (.cells #[.slice none 0 0] 40)).alloc (.cells #[.func (.func 21) #[] #[.pointer (some ⟨w2.heap.size, 0, none⟩), .pointer (some ⟨w2.heap.size + 1, 0, none⟩)]] 76) = w3 at *
    generalize w2.heap.size = rb at *
    obtain ⟨gb, hgb⟩ : ∃ gb, gb = rb + 1 := ⟨_, rfl⟩
    rw [← hgb] at HG3
    rw [← hgb]
    have hrg : rb < gb := by omega
    clear hgb
    have hoff := ckT_zero HCV.out
    have NC := gather_any (f + 1) _ T [] 24 rb gb none 0 [] w w3 HA.out HSM.out HB3.out hrb hrg HG3.out (by decide) (by decide) (by decide) hoff (fun h => absurd rfl h) (by intro s hs; cases hs) (by decide)
    have y0 := HN3.out.c0
    have y1 := HN3.out.c1
    have y2 := HN3.out.c2
    have y3 := HN3.out.c3
    have ga : w3.cell? ⟨gb, 0, none⟩ = some (.func (.func 21) #[] #[.pointer (some ⟨rb, 0, none⟩), .pointer (some ⟨gb, 0, none⟩)]) := by rw [Lib.cell_of_heap HG3.out.hg]; rfl
    rw [show joinB [] = ⟨#[]⟩ from rfl] at NC
    clear hoff
    go_wp2_with fail
    refine NC.mono ?_
    rintro e6 w4 ⟨rfl, ⟨x4, c4, G4⟩, F4⟩
    rw [List.nil_append] at G4
    have HG4 : Hid (Gv w4 rb gb x4 c4 (rwT [] T)) := G4
    have HB4 : Hid (Below w.heap.size w w4) := HB3.out.trans (F4.below.mono hrb)
    have r0 : w4.cell? ⟨rb, 0, none⟩ = some (.slice x4 (rwT [] T).length c4) := by rw [Lib.cell_of_heap G4.hr]; rfl
    clear NC G4 F4 y0 y1 y2 y3 ga
    go_wp2
    go_ret2
    exact WkR.fine HCV.out rfl (HG4.out.rows.mono (by omega)) HB4.out

end Go.Proofs.Ythlioedahoiahaa
namespace Go.Proofs.Ythlioedahoiahaa.Ls
open Go.RowKit Go.Proofs.Ythlioedahoiahaa

/-- What List answers. -/
def LsR (l : List UInt8) (w : World) (e : Ending) (w' : World) : Prop := Below w.heap.size w w' ∧
  (((prs l).ansF.1 ≠ 0 ∧ e = .returned (.tuple #[.slice none 0 0, .agg #[.int .i64 (prs l).ansF.1, .int .i64 (prs l).ansF.2]])) ∨
   ((prs l).ansF = (0, 0) ∧ ∃ g, e = .returned (.tuple #[.slice (some ⟨g, 0, none⟩) (rwT [] (prs l).c.root).length (rwT [] (prs l).c.root).length, .agg #[.int .i64 0, .int .i64 0]]) ∧ w.heap.size ≤ g ∧ LR w' g (rwT [] (prs l).c.root).length (rwT [] (prs l).c.root).length (rwT [] (prs l).c.root) (plT (fwS [wMagic]) (prs l).c.root)))
theorem rows_len {T : Tr} (hs : smT T) (hw : wfT T) (h : (ckT T).2 = 0) : 1 ≤ (rwT [] T).length ∧ (rwT [] T).length ≤ 1048576 := by
  have ho := NS.ok_tree T [] 24 (ckT_off h) hs hw
  refine ⟨by rw [← plT_len 0 [] T ho]; exact plT_pos 0 T, ?_⟩
  have h1 := rw_le [] 24 T (ckT_off h)
  have h2 := vT_bd [] 24 T (ckT_off h) (by omega) (by omega)
  omega
theorem rws_at {w : World} {B : Nat} {x : Option Addr} {n c : Nat} {L : List RW} (h : Rws 44 w B (.slice x n c) L) (i : Nat) (r : RW) (hr : L[i]? = some r) : ∃ g, x = some ⟨g, 0, none⟩ ∧ B ≤ g ∧ g < w.heap.size ∧ w.cell? ⟨g, i * 4, none⟩ = some (.string r.1) ∧ w.cell? ⟨g, i * 4 + 1, none⟩ = some (.int .i64 r.2.1) ∧ w.cell? ⟨g, i * 4 + 2, none⟩ = some (.bool r.2.2.1) ∧ w.cell? ⟨g, i * 4 + 3, none⟩ = some (.string r.2.2.2) := by
  have hi := (List.getElem?_eq_some_iff.1 hr).1
  rcases h.2 with ⟨hv, h0⟩ | ⟨g, cap, cur, hv, hb, hg, hn, hm, hs, ht⟩
  · rw [h0] at hi; omega
  · injection hv with h1 h2 h3
    refine ⟨g, h1, hb, heap_lt hg, ?_⟩
    obtain ⟨f0, f1, f2, f3⟩ := flat_rw L i r hr
    have key : ∀ j, j < L.length * 4 → w.cell? ⟨g, j, none⟩ = (L.flatMap rwC)[j]? := fun j hj => by
      rw [Lib.cell_of_heap hg, ← ht, List.getElem?_take_of_lt hj, Array.getElem?_toList]
    exact ⟨(key _ (by omega)).trans f0, (key _ (by omega)).trans f1, (key _ (by omega)).trans f2, (key _ (by omega)).trans f3⟩

set_option maxHeartbeats 8000000 in
set_option maxRecDepth 10000 in
theorem list_any (l : List UInt8) (w : World) (hl : l.length ≤ 1048576) : Calls Try.prog 6 #[.string (NB.ba l)] w (LsR l w) := by
  have H1 : Hid (St (w.alloc (.cells #[.int .i64 0, .int .i64 0] 26)) w.heap.size [.int .i64 0, .int .i64 0] ∧ Below w.heap.size w (w.alloc (.cells #[.int .i64 0, .int .i64 0] 26))) := ⟨St.new w _ _, (Below.refl _ _).alloc (Nat.le_refl _) _⟩
  go_enter Try.func6, Try.ntmps6
  go_upto_region 1 with fail
  obtain ⟨F0, hF0⟩ : ∃ F, w.heap.size = F := ⟨_, rfl⟩
  have HF0 : Hid (w.heap.size = F0) := hF0
  generalize w.alloc (.cells #[.int .i64 0, .int .i64 0] 26) = w1 at *
  rw [hF0] at H1 ⊢
  clear hF0
  have CP := parse_any l w1 (by omega)
  go_wp2_with fail
  refine CP.mono ?_
  rintro e2 w2 ⟨⟨v, fr, rfl, hTv, hNv⟩, b2⟩
  clear CP
  obtain ⟨xx, nn, cc, hxv⟩ : ∃ x n c, v = .slice x n c := by obtain ⟨x, c, h⟩ := hTv.shape; exact ⟨x, _, c, h⟩
  subst hxv
  obtain ⟨s1, s2, bb⟩ := two_blk w2 (prs l).ansT (.slice xx nn cc) (prs l).ansF.1 (prs l).ansF.2
  have H3 : Hid (St ((w2.alloc (.cells #[.int .i64 (prs l).ansT.k, .bool (prs l).ansT.e, .string (prs l).ansT.t, .slice xx nn cc] 37)).alloc (.cells #[.int .i64 (prs l).ansF.1, .int .i64 (prs l).ansF.2] 26)) w2.heap.size [.int .i64 (prs l).ansT.k, .bool (prs l).ansT.e, .string (prs l).ansT.t, .slice xx nn cc] ∧ St ((w2.alloc (.cells #[.int .i64 (prs l).ansT.k, .bool (prs l).ansT.e, .string (prs l).ansT.t, .slice xx nn cc] 37)).alloc (.cells #[.int .i64 (prs l).ansF.1, .int .i64 (prs l).ansF.2] 26)) (w2.heap.size + 1) [.int .i64 (prs l).ansF.1, .int .i64 (prs l).ansF.2] ∧ TrV ((w2.alloc (.cells #[.int .i64 (prs l).ansT.k, .bool (prs l).ansT.e, .string (prs l).ansT.t, .slice xx nn cc] 37)).alloc (.cells #[.int .i64 (prs l).ansF.1, .int .i64 (prs l).ansF.2] 26)) w1.heap.size (prs l).ansT (.slice xx nn cc) fr ∧ St ((w2.alloc (.cells #[.int .i64 (prs l).ansT.k, .bool (prs l).ansT.e, .string (prs l).ansT.t, .slice xx nn cc] 37)).alloc (.cells #[.int .i64 (prs l).ansF.1, .int .i64 (prs l).ansF.2] 26)) F0 [.int .i64 0, .int .i64 0] ∧ Below w.heap.size w ((w2.alloc (.cells #[.int .i64 (prs l).ansT.k, .bool (prs l).ansT.e, .string (prs l).ansT.t, .slice xx nn cc] 37)).alloc (.cells #[.int .i64 (prs l).ansF.1, .int .i64 (prs l).ansF.2] 26))) := by
    have hz := H1.out.1.lt
    have hw := HF0.out
    have q := H1.out.1.same b2.size (b2.block _ H1.out.1.lt)
    have bw : Below w.heap.size w w1 := by rw [hw]; exact H1.out.2
    exact ⟨s1, s2, TrV.same _ _ _ hTv (fun b hb => bb.block b (TrV.lt _ _ _ hTv b hb).2), q.same bb.size (bb.block _ q.lt), (bw.trans (b2.mono (by omega))).trans (bb.mono (by have := b2.size; omega))⟩
  have hD1 : F0 < w2.heap.size := by have := H1.out.1.lt; have := b2.size; omega
  clear s1 s2 bb hTv hNv b2 H1
  go_upto_region 2 with fail
  obtain ⟨D, hD⟩ : ∃ D, w2.heap.size = D := ⟨_, rfl⟩
  rw [hD] at H3 hD1 ⊢
  clear hD
  generalize (w2.alloc (.cells #[.int .i64 (prs l).ansT.k, .bool (prs l).ansT.e, .string (prs l).ansT.t, .slice xx nn cc] 37)).alloc (.cells #[.int .i64 (prs l).ansF.1, .int .i64 (prs l).ansF.2] 26) = w3 at *
  have v0 := H3.out.2.1.get 0 _ rfl
  have v1 := H3.out.2.1.get 1 _ rfl
  have z0 := H3.out.2.2.2.1.get 0 _ rfl
  have z1 := H3.out.2.2.2.1.get 1 _ rfl
  have y0 := H3.out.2.2.2.1.fr 0 (by show 0 < 2; decide)
  have y1 := H3.out.2.2.2.1.fr 1 (by show 1 < 2; decide)
  have hFl := H3.out.2.2.2.1.lt
  rcases prs_ans l with ⟨aF, aT, hla, hsm, hwf, hck, hln⟩ | ⟨aF, -, -, -⟩
  · have HAF : Hid ((prs l).ansF = (0, 0)) := aF
    have HT3 : Hid (St w3 D [.int .i64 (prs l).c.root.k, .bool (prs l).c.root.e, .string (prs l).c.root.t, .slice xx nn cc] ∧ TrV w3 w1.heap.size (prs l).c.root (.slice xx nn cc) fr ∧ St w3 F0 [.int .i64 0, .int .i64 0] ∧ Below w.heap.size w w3) := by
      have h1 := H3.out.1
      have h2 := H3.out.2.2.1
      rw [aT] at h1 h2
      exact ⟨h1, h2, H3.out.2.2.2.1, H3.out.2.2.2.2⟩
    rw [aF] at v0 v1
    rw [aT, aF]
    obtain ⟨T, hT⟩ : ∃ T, (prs l).c.root = T := ⟨_, rfl⟩
    have HTT : Hid ((prs l).c.root = T) := hT
    rw [hT] at hla hsm hwf hck hln HT3
    rw [hT]
    have HW : Hid (smT T ∧ wfT T ∧ (ckT T).2 = 0 ∧ lnT T) := ⟨hsm, hwf, hck, hln⟩
    obtain ⟨M, hM⟩ := TrV.at T _ fr HT3.out.2.1 hln
    have CW := walk_tree M _ T w3 hM hsm
    obtain ⟨n1, n2⟩ := rows_len hsm hwf hck
    have HM : Hid (At w3 M (.agg #[.int .i64 T.k, .bool T.e, .string T.t, .slice xx nn cc]) T) := hM
    clear aF aT hla hsm hwf hln v1 H3 hM hT y0 y1 z0 z1 hFl
    have u0 := HT3.out.1.get 0 _ rfl
    have u1 := HT3.out.1.get 1 _ rfl
    have u2 := HT3.out.1.get 2 _ rfl
    have u3 := HT3.out.1.get 3 _ rfl
    go_wp2_with fail
    refine CW.mono ?_
    rintro e4 w4 ⟨hcase, b4⟩
    rw [if_neg (by omega)] at hcase
    obtain ⟨x4, c4, rfl, R4⟩ := hcase
    clear CW u0 u1 u2 u3 v0 hck
    obtain ⟨N, hN⟩ : ∃ N, (rwT [] T).length = N := ⟨_, rfl⟩
    have HN : Hid ((rwT [] T).length = N) := hN
    rw [hN] at n1 n2 R4 ⊢
    clear hN
    have H4 : Hid (St w4 D [.int .i64 T.k, .bool T.e, .string T.t, .slice xx nn cc] ∧ At w4 M (.agg #[.int .i64 T.k, .bool T.e, .string T.t, .slice xx nn cc]) T ∧ St w4 F0 [.int .i64 0, .int .i64 0] ∧ Below w.heap.size w w4 ∧ Rws 44 w4 w3.heap.size (.slice x4 N c4) (rwT [] T)) := by
      obtain ⟨q1, q2, q3, q4⟩ := HT3.out
      exact ⟨q1.same b4.size (b4.block _ q1.lt), HM.out.below b4, q3.same b4.size (b4.block _ q3.lt), q4.trans (b4.mono q4.size), R4⟩
    clear HT3 HM b4 R4
    have MK := make_rows w4 N (by omega)
    have HMK : Hid _ := MK
    clear MK
    go_wp2_with fail
    rw [HMK.out]
    have L5 := LR.made w4 N (by omega)
    have b5 : Below w4.heap.size w4 (w4.alloc (.cells (madeCells (Value.agg #[.string ByteArray.empty, .int .i64 0, .bool false, .string ByteArray.empty, .int .i64 0, .int .i64 0]).cells (N * 6)) 46)) := (Below.refl _ _).alloc (Nat.le_refl _) _
    generalize w4.alloc (.cells (madeCells (Value.agg #[.string ByteArray.empty, .int .i64 0, .bool false, .string ByteArray.empty, .int .i64 0, .int .i64 0]).cells (N * 6)) 46) = w5 at *
    clear HMK
    obtain ⟨g, hg⟩ : ∃ g, w4.heap.size = g := ⟨_, rfl⟩
    have Hg : Hid (w4.heap.size = g) := hg
    rw [hg] at L5 b5 ⊢
    clear hg
    have H5 : Hid (LR w5 g N N (List.replicate N zrow) [] ∧ Below g w4 w5) := ⟨L5, b5⟩
    clear L5 b5
    go_wp2
    go_loopw [30] (fun ix wr => ∃ (i : Nat) (L : List RW), i ≤ N ∧ ix = .int .i64 i ∧ Hid (LR wr g N N L [] ∧ (∀ j, j < i → L[j]? = (rwT [] T)[j]?) ∧ Ff g [] w5 wr)) (fun i _ => N - (intOf i).toNat)
    case atStart => exact ⟨0, _, Nat.zero_le _, rfl, H5.out.1, fun j hj => absurd hj (by omega), Ff.refl _ _ _⟩
    case round =>
      obtain ⟨i, L, hi, rfl, HO⟩ := hrel
      have bR : Below g w4 wr := by
        have := H5.out.1.lt
        exact H5.out.2.trans (ff_below HO.out.2.2 (by omega) (Nat.le_refl _) (fun x hx => by cases hx))
      by_cases hlt : i < N
      · obtain ⟨r, hr⟩ : ∃ r, (rwT [] T)[i]? = some r := ⟨_, List.getElem?_eq_getElem (by rw [HN.out]; exact hlt)⟩
        obtain ⟨gx, rfl, -, hgx, c0, c1, c2, c3⟩ := rws_at H4.out.2.2.2.2 i r hr
        have hgx2 : gx < g := by have := Hg.out; omega
        have d0 := (bR.cell (p := ⟨gx, i * 4, none⟩) hgx2).trans c0
        have d1 := (bR.cell (p := ⟨gx, i * 4 + 1, none⟩) hgx2).trans c1
        have d2 := (bR.cell (p := ⟨gx, i * 4 + 2, none⟩) hgx2).trans c2
        have d3 := (bR.cell (p := ⟨gx, i * 4 + 3, none⟩) hgx2).trans c3
        have HK : Hid (St (wr.alloc (.cells #[.string r.1, .int .i64 r.2.1, .bool r.2.2.1, .string r.2.2.2] 44)) wr.heap.size [.string r.1, .int .i64 r.2.1, .bool r.2.2.1, .string r.2.2.2] ∧ LR (wr.alloc (.cells #[.string r.1, .int .i64 r.2.1, .bool r.2.2.1, .string r.2.2.2] 44)) g N N L [] ∧ Ff g [] w5 (wr.alloc (.cells #[.string r.1, .int .i64 r.2.1, .bool r.2.2.1, .string r.2.2.2] 44))) :=
          ⟨St.new wr _ _, HO.out.1.below ((Below.refl _ _).alloc (Nat.le_refl _) _), HO.out.2.2.alloc _⟩
        have hgw : g < wr.heap.size := HO.out.1.lt
        have HOL : Hid (∀ j, j < i → L[j]? = (rwT [] T)[j]?) := HO.out.2.1
        have HRR : Hid ((rwT [] T)[i]? = some r) := hr
        clear c0 c1 c2 c3 HO hr bR
        go_upto_region 9 with fail
        clear d0 d1 d2 d3
        have hne : wr.heap.size ≠ g := by omega
        obtain ⟨K, hK⟩ : ∃ K, wr.heap.size = K := ⟨_, rfl⟩
        rw [hK] at HK hne ⊢
        generalize wr.alloc (.cells #[.string r.1, .int .i64 r.2.1, .bool r.2.2.1, .string r.2.2.2] 44) = wa at *
        clear hK
        have k0 := HK.out.1.get 0 _ rfl
        have k1 := HK.out.1.get 1 _ rfl
        have k2 := HK.out.1.get 2 _ rfl
        have k3 := HK.out.1.get 3 _ rfl
        obtain ⟨r1, hr1⟩ : ∃ r, L[i]? = some r := ⟨_, List.getElem?_eq_getElem (by rw [HK.out.2.1.len]; exact hlt)⟩
        obtain ⟨c0, c1, c2, c3, c4', c5⟩ := HK.out.2.1.row i r1 hr1
        have y0 := HK.out.2.1.fr (i * 6) (by omega)
        have y1 := HK.out.2.1.fr (i * 6 + 1) (by omega)
        have y2 := HK.out.2.1.fr (i * 6 + 2) (by omega)
        have y3 := HK.out.2.1.fr (i * 6 + 3) (by omega)
        have y4 := HK.out.2.1.fr (i * 6 + 4) (by omega)
        have y5 := HK.out.2.1.fr (i * 6 + 5) (by omega)
        have hgl := HK.out.2.1.lt
        have HPUT := HK.out.2.1.put i r hlt
        have HFF := ((((((HK.out.2.2.set g (i * 6) (.string r.1) (Or.inl rfl)).set g (i * 6 + 1) (.int .i64 r.2.1) (Or.inl rfl)).set g (i * 6 + 2) (.bool r.2.2.1) (Or.inl rfl)).set g (i * 6 + 3) (.string r.2.2.2) (Or.inl rfl)).set g (i * 6 + 4) (.int .i64 0) (Or.inl rfl)).set g (i * 6 + 5) (.int .i64 0) (Or.inl rfl))
        have HOL2 : ∀ j, j < i + 1 → (L.set i r)[j]? = (rwT [] T)[j]? := fun j hj => by
          by_cases e : j = i
          · subst e
            rw [List.getElem?_set_self (by rw [HK.out.2.1.len]; exact hlt), HRR.out]
          · rw [List.getElem?_set_ne (fun k => e k.symm)]
            exact HOL.out j (by omega)
        have HEND : Hid (_ ∧ (∀ j, j < i + 1 → (L.set i r)[j]? = (rwT [] T)[j]?) ∧ _) := ⟨HPUT, HOL2, HFF⟩
        clear HPUT HOL2 HFF hr1
        go_wp2
        go_roundw
        case rel => exact ⟨i + 1, _, by omega, by go_num, HEND⟩
        case measure => simp [intOf]; omega
      · obtain rfl : i = N := by omega
        have hLM : L = rwT [] T := by
          apply List.ext_getElem?
          intro j
          by_cases hj : j < i
          · exact HO.out.2.1 j hj
          · rw [List.getElem?_eq_none (by rw [HO.out.1.len]; omega), List.getElem?_eq_none (by rw [HN.out]; omega)]
        subst hLM
        have hok : okT T := NS.ok_tree T [] 24 (ckT_off HW.out.2.2.1) HW.out.1 HW.out.2.1
        have hfw := (arc_facts HW.out.1 HW.out.2.1 HW.out.2.2.1).2.2.1
        have CM := measure_any M _ _ _ _ _ _ T w4 wr g i i (rwT [] T) H4.out.2.1 (by have := Hg.out; omega) (by rw [Hg.out]; exact bR) HO.out.1 hok (by rw [plT_len _ [] T hok, HN.out]; exact Nat.le_refl _) (by omega)
        have HBR : Hid (Below g w4 wr) := bR
        have sD := H4.out.1.same bR.size (bR.block D (by have := H4.out.1.lt; have := Hg.out; omega))
        have u0 := sD.get 0 _ rfl
        have u1 := sD.get 1 _ rfl
        have u2 := sD.get 2 _ rfl
        have u3 := sD.get 3 _ rfl
        clear bR HO sD hok hfw
        go_wp2_with fail
        refine CM.mono ?_
        rintro e8 w8 ⟨rfl, L8, F8⟩
        clear CM u0 u1 u2 u3
        have hzF : F0 < g := by have := H4.out.2.2.1.lt; have := Hg.out; omega
        have sF := H4.out.2.2.1.same HBR.out.size (HBR.out.block F0 hzF)
        have sF8 := sF.same F8.size (F8.keep F0 sF.lt (by omega) (by simp))
        have HS8 := (sF8.set 0 (.int .i64 0) (by show 0 < 2; decide)).set 1 (.int .i64 0) (by show 1 < 2; decide)
        have b8 : Below w.heap.size w w8 := by
          have h4 := H4.out.2.2.2.1
          have hz := h4.size
          have := Hg.out
          exact h4.trans ((HBR.out.mono (by omega)).trans (ff_below F8 (by have := HBR.out.size; omega) (by omega) (fun x hx => by cases hx)))
        have HE : Hid (St ((w8.setCell ⟨F0, 0, none⟩ (.int .i64 0)).setCell ⟨F0, 1, none⟩ (.int .i64 0)) F0 [.int .i64 0, .int .i64 0] ∧ Below w.heap.size w ((w8.setCell ⟨F0, 0, none⟩ (.int .i64 0)).setCell ⟨F0, 1, none⟩ (.int .i64 0)) ∧ LR ((w8.setCell ⟨F0, 0, none⟩ (.int .i64 0)).setCell ⟨F0, 1, none⟩ (.int .i64 0)) g i i (rwT [] T) (plT (fwS [wMagic]) T) ∧ w.heap.size ≤ g) := by
          refine ⟨HS8, (b8.setCell (p := ⟨F0, 0, none⟩) (by have := HF0.out; show _ ≤ F0; omega) _).setCell (p := ⟨F0, 1, none⟩) (by have := HF0.out; show _ ≤ F0; omega) _, L8.same (by rw [World.size_setCell, World.size_setCell]; exact Nat.le_refl _) ((Below.heap_setCell _ _ _ g (by show g ≠ F0; omega)).trans (Below.heap_setCell _ _ _ g (by show g ≠ F0; omega))), by have := HF0.out; omega⟩
        have z0 := sF8.get 0 _ rfl
        have z1 := sF8.get 1 _ rfl
        have y0 := sF8.fr 0 (by show 0 < 2; decide)
        have y1 := sF8.fr 1 (by show 1 < 2; decide)
        have hFl := sF8.lt
        clear sF sF8 HS8 b8 L8 F8
        go_wp2
        refine ret_sf (v := .slice (some ⟨g, 0, none⟩) i i) rfl rfl rfl HE.out.1 (show LsR l w _ _ from ⟨HE.out.2.1, .inr ⟨HAF.out, g, ?_, HE.out.2.2.2, ?_⟩⟩)
        · rw [HTT.out, HN.out]
        · rw [HTT.out, HN.out]; exact HE.out.2.2.1
  · obtain ⟨F1, hF1⟩ : ∃ F, (prs l).ansF.1 = F := ⟨_, rfl⟩
    obtain ⟨F2, hF2⟩ : ∃ F, (prs l).ansF.2 = F := ⟨_, rfl⟩
    have HFF : Hid ((prs l).ansF.1 = F1 ∧ (prs l).ansF.2 = F2) := ⟨hF1, hF2⟩
    rw [hF1] at v0 aF
    rw [hF2] at v1
    have hb : (F1 != 0) = true := by simpa using aF
    have HS8 := ((H3.out.2.2.2.1.set 0 (.int .i64 F1) (by show 0 < 2; decide)).set 1 (.int .i64 F2) (by show 1 < 2; decide))
    have HE : Hid (St ((w3.setCell ⟨F0, 0, none⟩ (.int .i64 F1)).setCell ⟨F0, 1, none⟩ (.int .i64 F2)).drew F0 [.int .i64 F1, .int .i64 F2] ∧ Below w.heap.size w ((w3.setCell ⟨F0, 0, none⟩ (.int .i64 F1)).setCell ⟨F0, 1, none⟩ (.int .i64 F2)).drew ∧ F1 ≠ 0) := ⟨HS8.drew, ((H3.out.2.2.2.2.setCell (p := ⟨F0, 0, none⟩) (by have := HF0.out; show _ ≤ F0; omega) _).setCell (p := ⟨F0, 1, none⟩) (by have := HF0.out; show _ ≤ F0; omega) _).drew, aF⟩
    clear HS8 hF1 hF2 aF
    go_upto_region 3 with fail
    go_region_law (fail)
    all_goals go_wp2
    all_goals exact ret_sf (v := .slice none 0 0) rfl rfl rfl HE.out.1 (show LsR l w _ _ from ⟨HE.out.2.1, .inl ⟨by rw [HFF.out.1]; exact HE.out.2.2, by rw [HFF.out.1, HFF.out.2]⟩⟩)

end Go.Proofs.Ythlioedahoiahaa.Ls
namespace Go.Proofs.Ythlioedahoiahaa.Ls
open Go.RowKit Go.Proofs.Ythlioedahoiahaa

theorem lr_at {w : World} {g N cp : Nat} {L : List RW} {P : List (Nat × Nat)} (h : LR w g N cp L P) (i : Nat) (r : RW) (p : Nat × Nat) (hr : L[i]? = some r) (hp : P[i]? = some p) : w.cell? ⟨g, i * 6, none⟩ = some (.string r.1) ∧ w.cell? ⟨g, i * 6 + 1, none⟩ = some (.int .i64 r.2.1) ∧ w.cell? ⟨g, i * 6 + 2, none⟩ = some (.bool r.2.2.1) ∧ w.cell? ⟨g, i * 6 + 3, none⟩ = some (.string r.2.2.2) ∧ w.cell? ⟨g, i * 6 + 4, none⟩ = some (.int .i64 (p.1 : Int)) ∧ w.cell? ⟨g, i * 6 + 5, none⟩ = some (.int .i64 (p.2 : Int)) := by
  have := h.row i r hr
  rw [List.getD_eq_getElem?_getD, hp] at this
  exact this
/-- The archive of a tree is read as that tree. -/
theorem arc_prs {T : Tr} (hs : smT T) (hw : wfT T) (h : (ckT T).2 = 0) : (prs (arcT T)).ansF = (0, 0) ∧ (prs (arcT T)).c.root = T := by
  have e := run_arc hs hw h false []
  rw [List.append_nil] at e
  have e2 : (PS.new false).run (arcT T) = arcS false T := e
  rw [prs_run, e2]
  obtain ⟨a1, a2⟩ := fin_whole (p := arcS false T) rfl rfl
  exact ⟨a2, rfl⟩
def T1 : Tr := .mk 1 false ⟨#[104, 101, 108, 108, 111]⟩ [] []
theorem T1_ck : (ckT T1).2 = 0 := by
  unfold ckT T1
  rw [vT]
  decide +kernel
theorem T1_sm : smT T1 := by unfold T1; rw [smT]; exact ⟨by decide, by rw [smL] <;> simp⟩
theorem T1_wf : wfT T1 := by unfold T1; rw [wfT]; rw [wfL] <;> simp
theorem T1_rw : rwT [] T1 = [(⟨#[]⟩, 1, false, ⟨#[104, 101, 108, 108, 111]⟩)] := by
  unfold T1
  rw [rwT, show rwL [] [] [] = [] by rw [rwL] <;> simp]
  rfl
theorem T1_pl : plT (fwS [wMagic]) T1 = [(96, 5)] := by
  unfold T1
  rw [plT, if_pos rfl]
  decide +kernel
theorem T1_len : (arcT T1).length ≤ 1048576 := by
  unfold arcT
  rw [frm_len]
  exact (arc_facts T1_sm T1_wf T1_ck).2.2.1

set_option maxHeartbeats 4000000 in
set_option maxRecDepth 10000 in
theorem lawake_any (w : World) : Calls Try.prog 5 #[] w fun e w' => e = .returned (.bool true) ∧ Below w.heap.size w w' := by
  have hA : At w 1 (.agg #[Value.int IntKind.i64 1, Value.bool false, Value.string ⟨#[104, 101, 108, 108, 111]⟩, Value.slice none 0 0]) T1 := ⟨none, 0, 0, rfl, rfl, rfl, by decide, by decide, Or.inl rfl⟩
  have C1 := nserial_any 1 1 false ⟨#[104, 101, 108, 108, 111]⟩ none 0 0 T1 w hA T1_sm T1_wf
  rw [show serT T1 = (NB.ba (arcT T1), 0) by unfold serT; rw [if_neg (by rw [T1_ck]; decide)]] at C1
  obtain ⟨a1, a2⟩ := arc_prs T1_sm T1_wf T1_ck
  have hl := T1_len
  have HL : Hid (∀ w, Calls Try.prog 6 #[.string (NB.ba (arcT T1))] w fun e w' => Below w.heap.size w w' ∧ ∃ g, e = .returned (.tuple #[.slice (some ⟨g, 0, none⟩) 1 1, .agg #[.int .i64 0, .int .i64 0]]) ∧ LR w' g 1 1 [(⟨#[]⟩, 1, false, ⟨#[104, 101, 108, 108, 111]⟩)] [(96, 5)]) := fun w => by
    refine (list_any (arcT T1) w hl).mono ?_
    rintro e w' ⟨b, ⟨h, -⟩ | ⟨-, g, rfl, -, hL⟩⟩
    · rw [a1] at h; exact absurd rfl h
    · rw [a2, T1_rw, T1_pl] at hL
      rw [a2, T1_rw]
      exact ⟨b, g, rfl, hL⟩
  clear a1 a2 hl hA
  generalize NB.ba (arcT T1) = X at *
  go_enter Try.func5, Try.ntmps5
  go_wp2_with fail
  refine C1.mono ?_
  rintro e1 w1 ⟨rfl, b1⟩
  have CL := HL.out w1
  have HB1 : Hid (Below w.heap.size w w1) := b1
  clear C1 b1
  go_wp2_with fail
  refine CL.mono ?_
  rintro e2 w2 ⟨b2, g, rfl, hL⟩
  have bA : Below w2.heap.size w2 (w2.alloc (.cells #[.int .i64 0, .int .i64 0] 26)) := (Below.refl _ _).alloc (Nat.le_refl _) _
  have S3 := St.new w2 #[.int .i64 0, .int .i64 0] 26
  have hL3 := hL.below bA
  have HB3 : Hid (Below w.heap.size w (w2.alloc (.cells #[.int .i64 0, .int .i64 0] 26))) := HB1.out.trans ((b2.mono HB1.out.size).trans (bA.mono (Nat.le_trans HB1.out.size b2.size)))
  obtain ⟨c0, c1, c2, c3, c4, c5⟩ := lr_at hL3 0 _ _ rfl rfl
  have s0 := S3.get 0 _ rfl
  have hgl := hL3.lt
  have hSl := S3.lt
  clear CL S3 hL hL3 b2 bA HL HB1
  go_wp2
  go_ret
  exact ⟨rfl, HB3.out⟩

end Go.Proofs.Ythlioedahoiahaa.Ls
