/- YD YR, gathered (own text of the verifier). -/
import Derived.Test.YtnggbemnblcnaaaDoorXK
import Derived.Lib.AppendZerosOnto
import Derived.Shelf.Spec.SlicesInsert
import Derived.Deep.RegionHeld3
namespace Go.Proofs.YtnggbemnblcnaaaDoor
open Go.RowKit

def OwT (w : World) (B : Nat) (v : Value) (n : Nat) (cs : List Value) : Prop := w.ownsRow B 52 5 v n cs ∧ ∃ x, v = .slice x n n
mutual
/-- v is the slice of the kids of T, in rows from block B on; fp: the blocks. -/
def TrT (w : World) (B : Nat) : Tr → Value → List Nat → Prop
  | .mk _ _ _ nms ks, v, fp => ∃ cs fq, OwT w B v nms.length cs ∧ KdT w B nms ks cs fq ∧ fp = blkL v ++ fq
def KdT (w : World) (B : Nat) : List ByteArray → List Tr → List Value → List Nat → Prop
  | [], [], cs, fq => cs = [] ∧ fq = []
  | s :: nms, T :: ks, cs, fq => ∃ v cs' fp fq', cs = entV s T v ++ cs' ∧ TrT w B T v fp ∧ KdT w B nms ks cs' fq' ∧ fq = fp ++ fq'
  | _, _, _, _ => False
end
theorem TrT.shape {w : World} {B : Nat} {T : Tr} {v : Value} {fp : List Nat} (h : TrT w B T v fp) : ∃ x c, v = .slice x T.nms.length c := by
  obtain ⟨k, e, t, nms, ks⟩ := T
  rw [TrT] at h
  obtain ⟨cs, fq, ⟨_, x, hx⟩, _⟩ := h
  exact ⟨x, _, hx⟩
mutual
theorem TrT.same {w w' : World} {B : Nat} : ∀ (T : Tr) (v : Value) (fp : List Nat), TrT w B T v fp → (∀ b ∈ fp, w'.heap[b]? = w.heap[b]?) → TrT w' B T v fp
  | .mk k e t nms ks, v, fp, h, hs => by
    rw [TrT] at h ⊢
    obtain ⟨cs, fq, h1, h2, rfl⟩ := h
    exact ⟨cs, fq, ⟨own_same h1.1 (fun b hb => hs b (by simp [hb])), h1.2⟩, KdT.same nms ks cs fq h2 (fun b hb => hs b (by simp [hb])), rfl⟩
theorem KdT.same {w w' : World} {B : Nat} : ∀ (nms : List ByteArray) (ks : List Tr) (cs : List Value) (fq : List Nat), KdT w B nms ks cs fq → (∀ b ∈ fq, w'.heap[b]? = w.heap[b]?) → KdT w' B nms ks cs fq
  | [], [], cs, fq, h, _ => by rw [KdT] at h ⊢; exact h
  | s :: nms, T :: ks, cs, fq, h, hs => by
    rw [KdT] at h ⊢
    obtain ⟨v, cs', fp, fq', h1, h2, h3, rfl⟩ := h
    exact ⟨v, cs', fp, fq', h1, TrT.same T v fp h2 (fun b hb => hs b (by simp [hb])), KdT.same nms ks cs' fq' h3 (fun b hb => hs b (by simp [hb])), rfl⟩
  | [], _ :: _, _, _, h, _ => by simp [KdT] at h
  | _ :: _, [], _, _, h, _ => by simp [KdT] at h
end
theorem KdT.snoc {w : World} {B : Nat} : ∀ (nms : List ByteArray) (ks : List Tr) (cs : List Value) (fq : List Nat) (s : ByteArray) (T : Tr) (v : Value) (fp : List Nat), KdT w B nms ks cs fq → TrT w B T v fp → KdT w B (nms ++ [s]) (ks ++ [T]) (cs ++ entV s T v) (fq ++ fp)
  | [], [], cs, fq, s, T, v, fp, h, h2 => by
    rw [KdT] at h
    obtain ⟨rfl, rfl⟩ := h
    show KdT w B (s :: []) (T :: []) _ _
    rw [KdT]
    exact ⟨v, [], fp, [], by simp, h2, by rw [KdT]; exact ⟨rfl, rfl⟩, by simp⟩
  | a :: nms, K :: ks, cs, fq, s, T, v, fp, h, h2 => by
    rw [KdT] at h
    obtain ⟨v1, cs', fp1, fq', rfl, h3, h4, rfl⟩ := h
    show KdT w B (a :: (nms ++ [s])) (K :: (ks ++ [T])) _ _
    rw [KdT]
    exact ⟨v1, cs' ++ entV s T v, fp1, fq' ++ fp, by simp, h3, KdT.snoc nms ks cs' fq' s T v fp h4 h2, by simp⟩
  | [], _ :: _, _, _, _, _, _, _, h, _ => by simp [KdT] at h
  | _ :: _, [], _, _, _, _, _, _, h, _ => by simp [KdT] at h
mutual
theorem TrT.lt {w : World} {B : Nat} : ∀ (T : Tr) (v : Value) (fp : List Nat), TrT w B T v fp → ∀ b ∈ fp, B ≤ b ∧ b < w.heap.size
  | .mk k e t nms ks, v, fp, h => by
    rw [TrT] at h
    obtain ⟨cs, fq, h1, h2, rfl⟩ := h
    intro b hb
    rcases List.mem_append.1 hb with hb | hb
    · unfold blkL at hb
      cases ho : v.ownBlock with
      | none => rw [ho] at hb; simp at hb
      | some g =>
        rw [ho] at hb
        simp at hb
        subst hb
        exact h1.1.lt b ho
    · exact KdT.lt nms ks cs fq h2 b hb
theorem KdT.lt {w : World} {B : Nat} : ∀ (nms : List ByteArray) (ks : List Tr) (cs : List Value) (fq : List Nat), KdT w B nms ks cs fq → ∀ b ∈ fq, B ≤ b ∧ b < w.heap.size
  | [], [], cs, fq, h => by rw [KdT] at h; rw [h.2]; intro b hb; cases hb
  | s :: nms, T :: ks, cs, fq, h => by
    rw [KdT] at h
    obtain ⟨v, cs', fp, fq', h1, h2, h3, rfl⟩ := h
    intro b hb
    rcases List.mem_append.1 hb with hb | hb
    · exact TrT.lt T v fp h2 b hb
    · exact KdT.lt nms ks cs' fq' h3 b hb
  | [], _ :: _, _, _, h => by simp [KdT] at h
  | _ :: _, [], _, _, h => by simp [KdT] at h
end
mutual
theorem TrT.low {w : World} {B B' : Nat} (hB : B' ≤ B) : ∀ (T : Tr) (v : Value) (fp : List Nat), TrT w B T v fp → TrT w B' T v fp
  | .mk k e t nms ks, v, fp, h => by
    rw [TrT] at h ⊢
    obtain ⟨cs, fq, h1, h2, rfl⟩ := h
    refine ⟨cs, fq, ⟨⟨h1.1.1, ?_⟩, h1.2⟩, KdT.low hB nms ks cs fq h2, rfl⟩
    rcases h1.1.2 with hn | ⟨g, cap, cur, rfl, hb, rest⟩
    · exact .inl hn
    · exact .inr ⟨g, cap, cur, rfl, Nat.le_trans hB hb, rest⟩
theorem KdT.low {w : World} {B B' : Nat} (hB : B' ≤ B) : ∀ (nms : List ByteArray) (ks : List Tr) (cs : List Value) (fq : List Nat), KdT w B nms ks cs fq → KdT w B' nms ks cs fq
  | [], [], cs, fq, h => by rw [KdT] at h ⊢; exact h
  | s :: nms, T :: ks, cs, fq, h => by
    rw [KdT] at h ⊢
    obtain ⟨v, cs', fp, fq', h1, h2, h3, h4⟩ := h
    exact ⟨v, cs', fp, fq', h1, TrT.low hB T v fp h2, KdT.low hB nms ks cs' fq' h3, h4⟩
  | [], _ :: _, cs, fq, h => by simp [KdT] at h
  | _ :: _, [], cs, fq, h => by simp [KdT] at h
end
theorem TrT.zero (w : World) (B : Nat) (k : Int) (e : Bool) (t : ByteArray) {ns : List ByteArray} {ks : List Tr} (h : ns.length = 0) (h' : ks.length = 0) : TrT w B (.mk k e t ns ks) (.slice none 0 0) [] := by
  obtain rfl := List.length_eq_zero_iff.1 h
  obtain rfl := List.length_eq_zero_iff.1 h'
  rw [TrT]
  exact ⟨[], [], ⟨⟨rfl, .inl ⟨rfl, rfl⟩⟩, _, rfl⟩, by rw [KdT]; exact ⟨rfl, rfl⟩, rfl⟩
theorem KdT.get {w : World} {B : Nat} : ∀ (nms : List ByteArray) (ks : List Tr) (cs : List Value) (fq : List Nat), KdT w B nms ks cs fq → ∀ (j : Nat) (s : ByteArray) (K : Tr), nms[j]? = some s → ks[j]? = some K → ∃ u fk, (∀ i, i < 5 → cs[j * 5 + i]? = (entV s K u)[i]?) ∧ TrT w B K u fk ∧ ∀ b ∈ fk, b ∈ fq
  | [], [], cs, fq, _, j, s, K, h1, _ => by simp at h1
  | a :: nms, T :: ks, cs, fq, h, j, s, K, h1, h2 => by
    rw [KdT] at h
    obtain ⟨v, cs', fp, fq', rfl, h3, h4, rfl⟩ := h
    cases j with
    | zero =>
      simp at h1 h2
      subst h1 h2
      refine ⟨v, fp, fun i hi => ?_, h3, fun b hb => by simp [hb]⟩
      rw [Nat.zero_mul, Nat.zero_add, List.getElem?_append_left (by show i < 5; exact hi)]
    | succ j =>
      simp at h1 h2
      obtain ⟨u, fk, h5, h6, h7⟩ := KdT.get nms ks cs' fq' h4 j s K h1 h2
      refine ⟨u, fk, fun i hi => ?_, h6, fun b hb => by simp [h7 b hb]⟩
      rw [← h5 i hi, List.getElem?_append_right (by show 5 ≤ _; omega)]
      congr 1
      show (j + 1) * 5 + i - 5 = _
      omega
  | [], _ :: _, cs, fq, h, _, _, _, _, _ => by simp [KdT] at h
  | _ :: _, [], cs, fq, h, _, _, _, _, _ => by simp [KdT] at h
/-- A row of n entries in block K of which the first i are copied. -/
def Kt (w : World) (B K n i : Nat) (ns : List ByteArray) (ks : List Tr) : Prop := ∃ cs zs fq, w.ownsRow B 52 5 (.slice (some ⟨K, 0, none⟩) n n) n (cs ++ zs) ∧ cs.length = i * 5 ∧ KdT w B (ns.take i) (ks.take i) cs fq ∧ (K :: fq).Nodup
theorem Kt.big {w : World} {B K n i : Nat} {ns : List ByteArray} {ks : List Tr} (h : Kt w B K n i ns ks) : K < w.heap.size := by
  obtain ⟨cs, zs, fq, h1, _⟩ := h
  obtain ⟨cur, _, h2, _⟩ := own_heap h1
  exact heap_lt h2
theorem Kt.room {w : World} {B K n i : Nat} {ns : List ByteArray} {ks : List Tr} (h : Kt w B K n i ns ks) (j : Nat) (hj : j < n * 5) : ∃ v, w.cell? ⟨K, j, none⟩ = some v := by
  obtain ⟨cs, zs, fq, h1, _⟩ := h
  obtain ⟨cur, _, h2, h3, _⟩ := own_heap h1
  rw [Lib.cell_of_heap h2]
  exact ⟨_, Array.getElem?_eq_getElem (by omega)⟩
theorem Kt.free {w : World} {B K n i : Nat} {ns : List ByteArray} {ks : List Tr} (h : Kt w B K n i ns ks) (j : Nat) : w.frozen? ⟨K, j, none⟩ = false := by
  obtain ⟨cs, zs, fq, h1, _⟩ := h
  obtain ⟨cur, _, h2, _⟩ := own_heap h1
  unfold World.frozen?; rw [h2]; simp
theorem Kt.below {w w' : World} {B K n i : Nat} {ns : List ByteArray} {ks : List Tr} (h : Kt w B K n i ns ks) (b : Below w.heap.size w w') : Kt w' B K n i ns ks := by
  have hb := h.big
  obtain ⟨cs, zs, fq, h1, h2, h3, h4⟩ := h
  exact ⟨cs, zs, fq, own_same h1 (fun x hx => by simp [blkL, Value.ownBlock] at hx; rw [hx]; exact b.block K hb), h2, KdT.same _ _ _ _ h3 (fun x hx => b.block x (KdT.lt _ _ _ _ h3 x hx).2), h4⟩
theorem Kt.keep {w w' : World} {B K n i : Nat} {ns : List ByteArray} {ks : List Tr} (h : Kt w B K n i ns ks) (G : Nat) (hG : G < B) (b : ∀ q, q ≠ G → w'.heap[q]? = w.heap[q]?) : Kt w' B K n i ns ks := by
  obtain ⟨cs, zs, fq, h1, h2, h3, h4⟩ := h
  obtain ⟨cur, hB, _⟩ := own_heap h1
  exact ⟨cs, zs, fq, own_same h1 (fun x hx => by simp [blkL, Value.ownBlock] at hx; rw [hx]; exact b K (by omega)), h2, KdT.same _ _ _ _ h3 (fun x hx => b x (by have := (KdT.lt _ _ _ _ h3 x hx).1; omega)), h4⟩
theorem Kt.put {w w' : World} {B K n i : Nat} {ns : List ByteArray} {ks : List Tr} (h : Kt w B K n i ns ks) (b : Below w.heap.size w w') (hi : i < n) {s : ByteArray} {T : Tr} (hs : ns[i]? = some s) (hT : ks[i]? = some T) {v : Value} {fp : List Nat} (hV : TrT w' w.heap.size T v fp) (hn : fp.Nodup) :
    Kt (w'.setCells K (i * 5) [.string s, .int .i64 T.k, .bool T.e, .string T.t, v]) B K n (i + 1) ns ks := by
  have hbig := h.big
  obtain ⟨cs, zs, fq, h1, h2, h3, h4⟩ := h
  have hlt := KdT.lt _ _ _ _ h3
  obtain ⟨cur, hBK, _⟩ := own_heap h1
  have h1' : w'.ownsRow B 52 5 (.slice (some ⟨K, 0, none⟩) n n) n (cs ++ zs) := own_same h1 (fun x hx => by simp [blkL, Value.ownBlock] at hx; rw [hx]; exact b.block K hbig)
  have h3' := KdT.same _ _ _ _ h3 (fun x hx => b.block x (hlt x hx).2)
  obtain ⟨zs', g1⟩ := own_put5 (a := .string s) (b := .int .i64 T.k) (c := .bool T.e) (d := .string T.t) (e := v) h1' h2 hi
  have hfp := TrT.lt T v fp hV
  have hK : ∀ x ∈ fq, x ≠ K := fun x hx e => (List.nodup_cons.1 h4).1 (by rw [← e]; exact hx)
  have hV' := TrT.low (show B ≤ w.heap.size by omega) T v fp (TrT.same T v fp hV (fun x hx => heapE_setCells K [.string s, .int .i64 T.k, .bool T.e, .string T.t, v] (i * 5) x (by have := (hfp x hx).1; omega) w'))
  have h3'' := KdT.same _ _ _ _ h3' (fun x hx => heapE_setCells K [.string s, .int .i64 T.k, .bool T.e, .string T.t, v] (i * 5) x (hK x hx) w')
  refine ⟨cs ++ [.string s, .int .i64 T.k, .bool T.e, .string T.t, v], zs', fq ++ fp, g1, by simp [h2]; omega, ?_, ?_⟩
  · have := KdT.snoc _ _ _ _ s T v fp h3'' hV'
    rw [List.take_add_one, hs, List.take_add_one, hT]; exact this
  · rw [List.nodup_cons] at h4 ⊢
    refine ⟨fun hm => ?_, List.nodup_append.2 ⟨h4.2, hn, fun x hx y hy e => ?_⟩⟩
    · rcases List.mem_append.1 hm with hm | hm
      · exact h4.1 hm
      · have := (hfp K hm).1; omega
    · have h6 := (hlt x hx).2
      have h7 := (hfp y hy).1
      omega
theorem Kt.start (w : World) (B K n : Nat) (C : Array Value) (ns : List ByteArray) (ks : List Tr) (hK : w.heap[K]? = some (.cells C 52 (0, 0))) (hC : C.size = n * 5) (hB : B ≤ K) (hn : n ≤ 1954687338211) : Kt w B K n 0 ns ks := by
  refine ⟨[], C.toList, [], ⟨by simp [hC], .inr ⟨K, n, C, rfl, hB, hK, Nat.le_refl _, by unfold maxLen; omega, hC, by rw [List.nil_append, List.take_of_length_le (by rw [Array.length_toList]; omega)]⟩⟩, rfl, ?_, by simp⟩
  rw [List.take_zero, List.take_zero, KdT]; exact ⟨rfl, rfl⟩
theorem Kt.full {w : World} {B K n : Nat} {ns : List ByteArray} {ks : List Tr} (h : Kt w B K n n ns ks) (h1 : ns.length = n) (h2 : ks.length = n) (k : Int) (e : Bool) (t : ByteArray) : ∃ fp, TrT w B (.mk k e t ns ks) (.slice (some ⟨K, 0, none⟩) n n) fp ∧ fp.Nodup := by
  obtain ⟨cs, zs, fq, g1, g2, g3, g4⟩ := h
  have hz : zs = [] := by
    have := g1.1
    rw [List.length_append, g2] at this
    exact List.length_eq_zero_iff.1 (by omega)
  rw [hz, List.append_nil] at g1
  rw [List.take_of_length_le (by omega), List.take_of_length_le (by omega)] at g3
  refine ⟨K :: fq, ?_, g4⟩
  rw [TrT]
  exact ⟨cs, fq, ⟨by rw [h1]; exact g1, _, by rw [h1]⟩, g3, rfl⟩

/-- Copy, for trees no deeper than m. -/
def CtP (T : Tr) (w : World) (e : Ending) (w' : World) : Prop := (∃ x fp, e = .returned (.agg #[.int .i64 T.k, .bool T.e, .string T.t, x]) ∧ TrT w' w.heap.size T x fp ∧ fp.Nodup) ∧ Below w.heap.size w w'
def CtAt (m : Nat) : Prop := ∀ (v : Value) (T : Tr) (w : World), At w m v T → Calls Tryd.prog 28 #[v] w (CtP T w)
set_option maxHeartbeats 8000000 in
set_option maxRecDepth 10000 in
theorem copyT_any (m : Nat) : CtAt m := by
  induction m with
  | zero => intro v T w h; exact h.elim
  | succ m IH =>
    rintro v ⟨k, e, t, ns, ks⟩ w ⟨x, n, c, rfl, l1, l2, l3, l4, hx⟩
    have EX : Hid (Ents w m x n ns ks) := At.ents hx
    have LL : Hid (ns.length = n ∧ ks.length = n) := ⟨l1, l2⟩
    clear hx l1 l2
    by_cases hn : n = 0
    · subst hn
      have HZ : Hid (ns.length = 0 ∧ ks.length = 0) := LL.out
      clear LL EX
      go_enter Tryd.func28, Tryd.ntmps28
      go_wp2
      have C1 : ∀ j v, #[Value.int IntKind.i64 k, Value.bool e, Value.string t, Value.slice x 0 c][j]? = some v → ((w.alloc (Obj.cells #[Value.int IntKind.i64 k, Value.bool e, Value.string t, Value.slice x 0 c] 32)).alloc (Obj.cells #[Value.int IntKind.i64 0, Value.bool false, Value.string ⟨#[]⟩, Value.slice none 0 0] 32)).cell? ⟨w.heap.size, j, none⟩ = some v := fun j v hv => by
        rw [World.cell?_alloc_old _ _ _ (by rw [World.size_alloc]; show w.heap.size ≠ _; omega), World.cell?_alloc_new]; exact hv
      have B0 : Below w.heap.size w ((w.alloc (Obj.cells #[Value.int IntKind.i64 k, Value.bool e, Value.string t, Value.slice x 0 c] 32)).alloc (Obj.cells #[Value.int IntKind.i64 0, Value.bool false, Value.string ⟨#[]⟩, Value.slice none 0 0] 32)) := ((Below.refl _ _).alloc (Nat.le_refl _) _).alloc (by rw [World.size_alloc]; omega) _
      go_loop [17] (fun xi => xi = .int .i64 ((0 : Nat) : Int)) (fun _ => 0)
      case atStart => rfl
      case round =>
        subst hrel
        go_wp2
        refine bodyPost_ret (v := .agg #[.int .i64 k, .bool e, .string t, .slice none 0 0]) (by simp [results, Tryd.results28, go_sem]) rfl ⟨⟨_, [], rfl, TrT.zero _ _ k e t HZ.out.1 HZ.out.2, List.nodup_nil⟩, ?_⟩
        exact ((Below.refl _ _).alloc (Nat.le_refl _) _).alloc (by rw [World.size_alloc]; omega) _
    · have hp : (0 : Int) < (n : Int) := by omega
      have HMK : Hid (∀ w : World, (Instr.makeSlice 30 (.int .i64 (n : Int)) (.int .i64 (n : Int))).run Tryd.prog w = .ok (.slice (some ⟨w.heap.size, 0, none⟩) n n) (w.alloc (.cells (madeCells (Value.agg #[.string ByteArray.empty, .int .i64 0, .bool false, .string ByteArray.empty, .slice none 0 0]).cells (n * 5)) 52))) := fun w => by
        obtain ⟨i0, hi, hz0, hz1, hz2⟩ := info_parts info_entE
        rw [run_make (P := Tryd.prog) w 30 52 i0 _ undLET hi hz0 .i64 .i64 _ _ (by omega) (by omega) (by rw [hz2]; omega) (by omega), Int.toNat_natCast, hz1]
      go_enter Tryd.func28, Tryd.ntmps28
      go_wp2_with fail
      rw [HMK.out]
      clear HMK
      go_wp2
      have hs1 : (w.alloc (Obj.cells #[Value.int IntKind.i64 k, Value.bool e, Value.string t, Value.slice x n c] 32)).heap.size = w.heap.size + 1 := World.size_alloc _ _
      have hs2 : ((w.alloc (Obj.cells #[Value.int IntKind.i64 k, Value.bool e, Value.string t, Value.slice x n c] 32)).alloc (Obj.cells #[Value.int IntKind.i64 0, Value.bool false, Value.string ⟨#[]⟩, Value.slice none 0 0] 32)).heap.size = w.heap.size + 1 + 1 := by rw [World.size_alloc, hs1]
      have hs3 : (((w.alloc (Obj.cells #[Value.int IntKind.i64 k, Value.bool e, Value.string t, Value.slice x n c] 32)).alloc (Obj.cells #[Value.int IntKind.i64 0, Value.bool false, Value.string ⟨#[]⟩, Value.slice none 0 0] 32)).alloc (Obj.cells (madeCells #[Value.string ByteArray.empty, Value.int IntKind.i64 0, Value.bool false, Value.string ByteArray.empty, Value.slice none 0 0] (n * 5)) 52)).heap.size = w.heap.size + 1 + 1 + 1 := by rw [World.size_alloc, hs2]
      have X1 : (((w.alloc (Obj.cells #[Value.int IntKind.i64 k, Value.bool e, Value.string t, Value.slice x n c] 32)).alloc (Obj.cells #[Value.int IntKind.i64 0, Value.bool false, Value.string ⟨#[]⟩, Value.slice none 0 0] 32)).alloc (Obj.cells (madeCells #[Value.string ByteArray.empty, Value.int IntKind.i64 0, Value.bool false, Value.string ByteArray.empty, Value.slice none 0 0] (n * 5)) 52)).heap[w.heap.size]? = some (Obj.cells #[Value.int IntKind.i64 k, Value.bool e, Value.string t, Value.slice x n c] 32) := by
        rw [Below.heap_alloc _ _ _ (by rw [hs2]; omega), Below.heap_alloc _ _ _ (by rw [hs1]; omega)]; exact heap_alloc_new w _
      have X2 : (((w.alloc (Obj.cells #[Value.int IntKind.i64 k, Value.bool e, Value.string t, Value.slice x n c] 32)).alloc (Obj.cells #[Value.int IntKind.i64 0, Value.bool false, Value.string ⟨#[]⟩, Value.slice none 0 0] 32)).alloc (Obj.cells (madeCells #[Value.string ByteArray.empty, Value.int IntKind.i64 0, Value.bool false, Value.string ByteArray.empty, Value.slice none 0 0] (n * 5)) 52)).heap[w.heap.size + 1]? = some (Obj.cells #[Value.int IntKind.i64 0, Value.bool false, Value.string ⟨#[]⟩, Value.slice none 0 0] 32) := by
        rw [Below.heap_alloc _ _ _ (by rw [hs2]; omega), ← hs1]; exact heap_alloc_new _ _
      have X3 : (((w.alloc (Obj.cells #[Value.int IntKind.i64 k, Value.bool e, Value.string t, Value.slice x n c] 32)).alloc (Obj.cells #[Value.int IntKind.i64 0, Value.bool false, Value.string ⟨#[]⟩, Value.slice none 0 0] 32)).alloc (Obj.cells (madeCells #[Value.string ByteArray.empty, Value.int IntKind.i64 0, Value.bool false, Value.string ByteArray.empty, Value.slice none 0 0] (n * 5)) 52)).heap[w.heap.size + 1 + 1]? = some (Obj.cells (madeCells #[Value.string ByteArray.empty, Value.int IntKind.i64 0, Value.bool false, Value.string ByteArray.empty, Value.slice none 0 0] (n * 5)) 52) := by
        rw [← hs2]; exact heap_alloc_new _ _
      have B0 : Below w.heap.size w (((w.alloc (Obj.cells #[Value.int IntKind.i64 k, Value.bool e, Value.string t, Value.slice x n c] 32)).alloc (Obj.cells #[Value.int IntKind.i64 0, Value.bool false, Value.string ⟨#[]⟩, Value.slice none 0 0] 32)).alloc (Obj.cells (madeCells #[Value.string ByteArray.empty, Value.int IntKind.i64 0, Value.bool false, Value.string ByteArray.empty, Value.slice none 0 0] (n * 5)) 52)) := (((Below.refl _ _).alloc (Nat.le_refl _) _).alloc (by rw [hs1]; omega) _).alloc (by rw [hs2]; omega) _
      have K0 : Hid (Kt (((w.alloc (Obj.cells #[Value.int IntKind.i64 k, Value.bool e, Value.string t, Value.slice x n c] 32)).alloc (Obj.cells #[Value.int IntKind.i64 0, Value.bool false, Value.string ⟨#[]⟩, Value.slice none 0 0] 32)).alloc (Obj.cells (madeCells #[Value.string ByteArray.empty, Value.int IntKind.i64 0, Value.bool false, Value.string ByteArray.empty, Value.slice none 0 0] (n * 5)) 52)) (w.heap.size + 1 + 1) (w.heap.size + 1 + 1) n 0 ns ks) := Kt.start _ _ _ n _ ns ks X3 (by simp [madeCells]) (Nat.le_refl _) l4
      have XX : Hid ((((w.alloc (Obj.cells #[Value.int IntKind.i64 k, Value.bool e, Value.string t, Value.slice x n c] 32)).alloc (Obj.cells #[Value.int IntKind.i64 0, Value.bool false, Value.string ⟨#[]⟩, Value.slice none 0 0] 32)).alloc (Obj.cells (madeCells #[Value.string ByteArray.empty, Value.int IntKind.i64 0, Value.bool false, Value.string ByteArray.empty, Value.slice none 0 0] (n * 5)) 52)).heap[w.heap.size]? = some (Obj.cells #[Value.int IntKind.i64 k, Value.bool e, Value.string t, Value.slice x n c] 32) ∧ (((w.alloc (Obj.cells #[Value.int IntKind.i64 k, Value.bool e, Value.string t, Value.slice x n c] 32)).alloc (Obj.cells #[Value.int IntKind.i64 0, Value.bool false, Value.string ⟨#[]⟩, Value.slice none 0 0] 32)).alloc (Obj.cells (madeCells #[Value.string ByteArray.empty, Value.int IntKind.i64 0, Value.bool false, Value.string ByteArray.empty, Value.slice none 0 0] (n * 5)) 52)).heap[w.heap.size + 1]? = some (Obj.cells #[Value.int IntKind.i64 0, Value.bool false, Value.string ⟨#[]⟩, Value.slice none 0 0] 32) ∧ w.heap.size + 1 < (((w.alloc (Obj.cells #[Value.int IntKind.i64 k, Value.bool e, Value.string t, Value.slice x n c] 32)).alloc (Obj.cells #[Value.int IntKind.i64 0, Value.bool false, Value.string ⟨#[]⟩, Value.slice none 0 0] 32)).alloc (Obj.cells (madeCells #[Value.string ByteArray.empty, Value.int IntKind.i64 0, Value.bool false, Value.string ByteArray.empty, Value.slice none 0 0] (n * 5)) 52)).heap.size) := ⟨X1, X2, by rw [hs3]; omega⟩
      have B0' : Hid (Below w.heap.size w (((w.alloc (Obj.cells #[Value.int IntKind.i64 k, Value.bool e, Value.string t, Value.slice x n c] 32)).alloc (Obj.cells #[Value.int IntKind.i64 0, Value.bool false, Value.string ⟨#[]⟩, Value.slice none 0 0] 32)).alloc (Obj.cells (madeCells #[Value.string ByteArray.empty, Value.int IntKind.i64 0, Value.bool false, Value.string ByteArray.empty, Value.slice none 0 0] (n * 5)) 52))) := B0
      clear hs1 hs2 hs3 X1 X2 X3 B0
      obtain ⟨G, hG⟩ : ∃ G, w.heap.size = G := ⟨_, rfl⟩
      generalize (((w.alloc (Obj.cells #[Value.int IntKind.i64 k, Value.bool e, Value.string t, Value.slice x n c] 32)).alloc (Obj.cells #[Value.int IntKind.i64 0, Value.bool false, Value.string ⟨#[]⟩, Value.slice none 0 0] 32)).alloc (Obj.cells (madeCells #[Value.string ByteArray.empty, Value.int IntKind.i64 0, Value.bool false, Value.string ByteArray.empty, Value.slice none 0 0] (n * 5)) 52)) = w2 at *
      rw [hG] at K0 XX ⊢
      have HG : Hid (w.heap.size = G) := hG
      clear hG
      go_loopw [17] (fun xi wr => ∃ i : Nat, i ≤ n ∧ xi = .int .i64 i ∧ Hid (Kt wr (G + 1 + 1) (G + 1 + 1) n i ns ks) ∧ Hid (wr.heap[G]? = some (Obj.cells #[Value.int IntKind.i64 k, Value.bool e, Value.string t, Value.slice x n c] 32) ∧ wr.heap[G + 1]? = some (Obj.cells #[Value.int IntKind.i64 0, Value.bool false, Value.string ⟨#[]⟩, Value.slice none 0 0] 32) ∧ G + 1 < wr.heap.size) ∧ Hid (Below w.heap.size w wr)) (fun i _ => n - (intOf i).toNat)
      case atStart => exact ⟨0, Nat.zero_le _, rfl, K0, XX, B0'⟩
      case round =>
        obtain ⟨i, hi, rfl, hK, hX, hB⟩ := hrel
        by_cases hlt : i < n
        · obtain ⟨l1, l2⟩ := LL.out
          obtain ⟨s, hs⟩ : ∃ s, ns[i]? = some s := ⟨_, List.getElem?_eq_getElem (by omega)⟩
          obtain ⟨T, hT⟩ : ∃ s, ks[i]? = some s := ⟨_, List.getElem?_eq_getElem (by omega)⟩
          obtain ⟨g, o, a, b, d, f, p, q, rfl, hg, c0, c1, c2, c3, c4, hA⟩ := EX.out.below hB.out i s T hlt hs hT
          have HA : Hid (At wr m (.agg #[.int .i64 a, .bool b, .string d, .slice f p q]) T) := hA
          have HE : Hid (ns[i]? = some s ∧ ks[i]? = some T) := ⟨hs, hT⟩
          clear hA hs hT l1 l2
          go_wp2
          have bE : Below wr.heap.size wr (wr.alloc (Obj.cells #[Value.string s, Value.int IntKind.i64 a, Value.bool b, Value.string d, Value.slice f p q] 52)) := (Below.refl _ _).alloc (Nat.le_refl _) _
          have y0 : (wr.alloc (Obj.cells #[Value.string s, Value.int IntKind.i64 a, Value.bool b, Value.string d, Value.slice f p q] 52)).cell? ⟨wr.heap.size, 0, none⟩ = some (.string s) := by rw [World.cell?_alloc_new]; rfl
          have y1 : (wr.alloc (Obj.cells #[Value.string s, Value.int IntKind.i64 a, Value.bool b, Value.string d, Value.slice f p q] 52)).cell? ⟨wr.heap.size, 1, none⟩ = some (.int .i64 a) := by rw [World.cell?_alloc_new]; rfl
          have y2 : (wr.alloc (Obj.cells #[Value.string s, Value.int IntKind.i64 a, Value.bool b, Value.string d, Value.slice f p q] 52)).cell? ⟨wr.heap.size, 2, none⟩ = some (.bool b) := by rw [World.cell?_alloc_new]; rfl
          have y3 : (wr.alloc (Obj.cells #[Value.string s, Value.int IntKind.i64 a, Value.bool b, Value.string d, Value.slice f p q] 52)).cell? ⟨wr.heap.size, 3, none⟩ = some (.string d) := by rw [World.cell?_alloc_new]; rfl
          have y4 : (wr.alloc (Obj.cells #[Value.string s, Value.int IntKind.i64 a, Value.bool b, Value.string d, Value.slice f p q] 52)).cell? ⟨wr.heap.size, 4, none⟩ = some (.slice f p q) := by rw [World.cell?_alloc_new]; rfl
          have hzE : wr.heap.size < (wr.alloc (Obj.cells #[Value.string s, Value.int IntKind.i64 a, Value.bool b, Value.string d, Value.slice f p q] 52)).heap.size := by rw [World.size_alloc]; omega
          have K3 : Hid (Kt (wr.alloc (Obj.cells #[Value.string s, Value.int IntKind.i64 a, Value.bool b, Value.string d, Value.slice f p q] 52)) (G + 1 + 1) (G + 1 + 1) n i ns ks) := hK.out.below bE
          have HA3 : Hid (At (wr.alloc (Obj.cells #[Value.string s, Value.int IntKind.i64 a, Value.bool b, Value.string d, Value.slice f p q] 52)) m (.agg #[.int .i64 a, .bool b, .string d, .slice f p q]) T) := HA.out.below bE
          have hB3 : Hid (Below w.heap.size w (wr.alloc (Obj.cells #[Value.string s, Value.int IntKind.i64 a, Value.bool b, Value.string d, Value.slice f p q] 52))) := hB.out.trans (bE.mono hB.out.size)
          have hX3 : Hid (Below wr.heap.size wr (wr.alloc (Obj.cells #[Value.string s, Value.int IntKind.i64 a, Value.bool b, Value.string d, Value.slice f p q] 52))) := bE
          obtain ⟨E, hE⟩ : ∃ E, wr.heap.size = E := ⟨_, rfl⟩
          have HWE : Hid (wr.heap.size = E) := hE
          rw [hE] at y0 y1 y2 y3 y4 hzE ⊢
          clear hE bE c0 c1 c2 c3 c4 hg HA
          generalize wr.alloc (Obj.cells #[Value.string s, Value.int IntKind.i64 a, Value.bool b, Value.string d, Value.slice f p q] 52) = w3 at *
          obtain ⟨r0, k0⟩ := K3.out.room (i * 5) (by omega)
          have f0 := K3.out.free (i * 5)
          obtain ⟨r1, k1⟩ := K3.out.room (i * 5 + 1) (by omega)
          have f1 := K3.out.free (i * 5 + 1)
          obtain ⟨r2, k2⟩ := K3.out.room (i * 5 + 2) (by omega)
          have f2 := K3.out.free (i * 5 + 2)
          obtain ⟨r3, k3⟩ := K3.out.room (i * 5 + 3) (by omega)
          have f3 := K3.out.free (i * 5 + 3)
          obtain ⟨r4, k4⟩ := K3.out.room (i * 5 + 4) (by omega)
          have f4 := K3.out.free (i * 5 + 4)
          have hKb := K3.out.big
          have b3 : Below w3.heap.size w3 w3 := Below.refl _ _
          have hD : Below w3.heap.size w3 w3.drew := b3.drew
          have hEK : E ≠ G + 1 + 1 := by have := hK.out.big; rw [HWE.out] at this; omega
          have hKE : G + 1 + 1 ≠ E := Ne.symm hEK
          go_region_held3 (fun W => W.cell? ⟨E, 0, none⟩ = some (.string s) ∧ W.cell? ⟨E, 1, none⟩ = some (.int .i64 a) ∧ W.cell? ⟨E, 2, none⟩ = some (.bool b) ∧ W.cell? ⟨E, 3, none⟩ = some (.string d) ∧ W.cell? ⟨E, 4, none⟩ = some (.slice f p q))
            (first
              | go_keep
              | (refine ⟨(b5.cell (p := ⟨E, 0, none⟩) hzE).trans y0, (b5.cell (p := ⟨E, 1, none⟩) hzE).trans y1, (b5.cell (p := ⟨E, 2, none⟩) hzE).trans y2, (b5.cell (p := ⟨E, 3, none⟩) hzE).trans y3, (b5.cell (p := ⟨E, 4, none⟩) hzE).trans y4⟩))
            (first
              | (go_at_call 28
                 refine (IH _ T w3.drew (HA3.out.below hD)).mono ?_
                 rintro e5 w5 ⟨⟨v5, fp5, rfl, hv, hnd⟩, b5⟩
                 obtain ⟨x5, q5, rfl⟩ := hv.shape
                 have m0 : w5.cell? ⟨G + 1 + 1, i * 5, none⟩ = some r0 := (b5.cell (p := ⟨G + 1 + 1, i * 5, none⟩) hKb).trans k0
                 have o0 : w5.frozen? ⟨G + 1 + 1, i * 5, none⟩ = false := (b5.frozen (p := ⟨G + 1 + 1, i * 5, none⟩) hKb).trans f0
                 have m1 : w5.cell? ⟨G + 1 + 1, i * 5 + 1, none⟩ = some r1 := (b5.cell (p := ⟨G + 1 + 1, i * 5 + 1, none⟩) hKb).trans k1
                 have o1 : w5.frozen? ⟨G + 1 + 1, i * 5 + 1, none⟩ = false := (b5.frozen (p := ⟨G + 1 + 1, i * 5 + 1, none⟩) hKb).trans f1
                 have m2 : w5.cell? ⟨G + 1 + 1, i * 5 + 2, none⟩ = some r2 := (b5.cell (p := ⟨G + 1 + 1, i * 5 + 2, none⟩) hKb).trans k2
                 have o2 : w5.frozen? ⟨G + 1 + 1, i * 5 + 2, none⟩ = false := (b5.frozen (p := ⟨G + 1 + 1, i * 5 + 2, none⟩) hKb).trans f2
                 have m3 : w5.cell? ⟨G + 1 + 1, i * 5 + 3, none⟩ = some r3 := (b5.cell (p := ⟨G + 1 + 1, i * 5 + 3, none⟩) hKb).trans k3
                 have o3 : w5.frozen? ⟨G + 1 + 1, i * 5 + 3, none⟩ = false := (b5.frozen (p := ⟨G + 1 + 1, i * 5 + 3, none⟩) hKb).trans f3
                 have m4 : w5.cell? ⟨G + 1 + 1, i * 5 + 4, none⟩ = some r4 := (b5.cell (p := ⟨G + 1 + 1, i * 5 + 4, none⟩) hKb).trans k4
                 have o4 : w5.frozen? ⟨G + 1 + 1, i * 5 + 4, none⟩ = false := (b5.frozen (p := ⟨G + 1 + 1, i * 5 + 4, none⟩) hKb).trans f4))
          have P5 := (K3.out.below hD).put b5 hlt HE.out.1 HE.out.2 hv hnd
          have B5 : Below wr.heap.size wr w5 := hX3.out.trans ((hD.trans (b5.mono hD.size)).mono hX3.out.size)
          have HP : Hid (Kt (w5.setCells (G + 1 + 1) (i * 5) [.string s, .int .i64 T.k, .bool T.e, .string T.t, .slice x5 T.nms.length q5]) (G + 1 + 1) (G + 1 + 1) n (i + 1) ns ks) := P5
          have HB5 : Hid (Below wr.heap.size wr w5) := B5
          clear P5 B5 b5 hv m0 m1 m2 m3 m4 o0 o1 o2 o3 o4 k0 k1 k2 k3 k4 f0 f1 f2 f3 f4 y0 y1 y2 y3 y4
          have HW : Hid ((w5.setCells (G + 1 + 1) (i * 5) [.string s, .int .i64 T.k, .bool T.e, .string T.t, .slice x5 T.nms.length q5]).heap[G]? = w5.heap[G]? ∧ (w5.setCells (G + 1 + 1) (i * 5) [.string s, .int .i64 T.k, .bool T.e, .string T.t, .slice x5 T.nms.length q5]).heap[G + 1]? = w5.heap[G + 1]?) := ⟨heapE_setCells _ _ _ _ (by omega) _, heapE_setCells _ _ _ _ (by omega) _⟩
          have HZ : Hid ((w5.setCells (G + 1 + 1) (i * 5) [.string s, .int .i64 T.k, .bool T.e, .string T.t, .slice x5 T.nms.length q5]).heap.size = w5.heap.size) := sizeE_setCells _ _ _ _
          have HF : Hid (Below w.heap.size w (w5.setCells (G + 1 + 1) (i * 5) [.string s, .int .i64 T.k, .bool T.e, .string T.t, .slice x5 T.nms.length q5])) := belowE_setCells _ _ _ (by rw [HG.out]; omega) (hB.out.trans (HB5.out.mono hB.out.size))
          change Exit.inBlock 1 _ Exit.normal _ (w5.setCells (G + 1 + 1) (i * 5) [.string s, .int .i64 T.k, .bool T.e, .string T.t, .slice x5 T.nms.length q5])
          generalize w5.setCells (G + 1 + 1) (i * 5) [.string s, .int .i64 T.k, .bool T.e, .string T.t, .slice x5 T.nms.length q5] = w6 at *
          go_wp2
          go_roundw
          case rel =>
            obtain ⟨X1, X2, X3⟩ := hX.out
            refine ⟨i + 1, by omega, by go_num, HP, ⟨?_, ?_, ?_⟩, HF⟩
            · rw [HW.out.1, HB5.out.block G (by omega)]; exact X1
            · rw [HW.out.2, HB5.out.block (G + 1) (by omega)]; exact X2
            · rw [HZ.out]; have := HB5.out.size; omega
          case measure => simp [intOf]; omega
        · obtain rfl : i = n := by omega
          obtain ⟨Y1, Y2, Y3⟩ := hX.out
          have y0 : wr.cell? ⟨G, 0, none⟩ = some (.int .i64 k) := by simp only [World.cell?, Y1]; rfl
          have y1 : wr.cell? ⟨G, 1, none⟩ = some (.bool e) := by simp only [World.cell?, Y1]; rfl
          have y2 : wr.cell? ⟨G, 2, none⟩ = some (.string t) := by simp only [World.cell?, Y1]; rfl
          have y3 : wr.cell? ⟨G, 3, none⟩ = some (.slice x i c) := by simp only [World.cell?, Y1]; rfl
          have z3 : wr.frozen? ⟨G, 3, none⟩ = false := by unfold World.frozen?; rw [Y1]; simp
          have u0 : wr.cell? ⟨G + 1, 0, none⟩ = some (.int .i64 0) := by simp only [World.cell?, Y2]; rfl
          have u1 : wr.cell? ⟨G + 1, 1, none⟩ = some (.bool false) := by simp only [World.cell?, Y2]; rfl
          have u2 : wr.cell? ⟨G + 1, 2, none⟩ = some (.string ⟨#[]⟩) := by simp only [World.cell?, Y2]; rfl
          have u3 : wr.cell? ⟨G + 1, 3, none⟩ = some (.slice none 0 0) := by simp only [World.cell?, Y2]; rfl
          have v0 : wr.frozen? ⟨G + 1, 0, none⟩ = false := by unfold World.frozen?; rw [Y2]; simp
          have v1 : wr.frozen? ⟨G + 1, 1, none⟩ = false := by unfold World.frozen?; rw [Y2]; simp
          have v2 : wr.frozen? ⟨G + 1, 2, none⟩ = false := by unfold World.frozen?; rw [Y2]; simp
          have v3 : wr.frozen? ⟨G + 1, 3, none⟩ = false := by unfold World.frozen?; rw [Y2]; simp
          clear Y1 Y2
          go_wp2
          have hb4 := World.cell?_setCells_in (G + 1) [Value.int .i64 k, .bool e, .string t, .slice (some ⟨G + 1 + 1, 0, none⟩) i i] 0 (wr.setCell ⟨G, 3, none⟩ (.slice (some ⟨G + 1 + 1, 0, none⟩) i i)) (fun j hj => by
            have hj' : j < 4 := hj
            rw [World.cell?_setCell_other (w := wr) (a := ⟨G, 3, none⟩) (b := ⟨G + 1, 0 + j, none⟩) (h := fun h => by injection h with h1; omega), Nat.zero_add]
            match j, hj' with
            | 0, _ => rw [u0]; rfl
            | 1, _ => rw [u1]; rfl
            | 2, _ => rw [u2]; rfl
            | 3, _ => rw [u3]; rfl)
          have w0' := hb4 0 (by show 0 < 4; omega)
          have w1' := hb4 1 (by show 1 < 4; omega)
          have w2' := hb4 2 (by show 2 < 4; omega)
          have w3' := hb4 3 (by show 3 < 4; omega)
          have HH : ∀ q, q ≠ G → q ≠ G + 1 → ((wr.setCell ⟨G, 3, none⟩ (.slice (some ⟨G + 1 + 1, 0, none⟩) i i)).setCells (G + 1) 0 [.int .i64 k, .bool e, .string t, .slice (some ⟨G + 1 + 1, 0, none⟩) i i]).heap[q]? = wr.heap[q]? := fun q h1 h2 => (heapE_setCells _ _ _ q h2 _).trans (Below.heap_setCell wr ⟨G, 3, none⟩ _ q h1)
          have HS : ((wr.setCell ⟨G, 3, none⟩ (.slice (some ⟨G + 1 + 1, 0, none⟩) i i)).setCells (G + 1) 0 [.int .i64 k, .bool e, .string t, .slice (some ⟨G + 1 + 1, 0, none⟩) i i]).heap.size = wr.heap.size := (sizeE_setCells _ _ _ _).trans (World.size_setCell _ _ _)
          have HL : Below w.heap.size w ((wr.setCell ⟨G, 3, none⟩ (.slice (some ⟨G + 1 + 1, 0, none⟩) i i)).setCells (G + 1) 0 [.int .i64 k, .bool e, .string t, .slice (some ⟨G + 1 + 1, 0, none⟩) i i]) := belowE_setCells _ _ _ (by rw [HG.out]; omega) (hB.out.setCell (by rw [HG.out]; exact Nat.le_refl _) _)
          change bodyPost _ _ _ _ _ ((wr.setCell ⟨G, 3, none⟩ (.slice (some ⟨G + 1 + 1, 0, none⟩) i i)).setCells (G + 1) 0 [.int .i64 k, .bool e, .string t, .slice (some ⟨G + 1 + 1, 0, none⟩) i i])
          generalize (wr.setCell ⟨G, 3, none⟩ (.slice (some ⟨G + 1 + 1, 0, none⟩) i i)).setCells (G + 1) 0 [.int .i64 k, .bool e, .string t, .slice (some ⟨G + 1 + 1, 0, none⟩) i i] = W at *
          clear hb4
          simp only [Nat.zero_add] at w0' w1' w2' w3'
          have hKW : Kt W (G + 1 + 1) (G + 1 + 1) i i ns ks := by
            obtain ⟨cs, zs, fq, h1, h2, h3, h4⟩ := hK.out
            exact ⟨cs, zs, fq, own_same h1 (fun x hx => by simp [blkL, Value.ownBlock] at hx; rw [hx]; exact HH _ (by omega) (by omega)), h2, KdT.same _ _ _ _ h3 (fun x hx => HH x (by have := (KdT.lt _ _ _ _ h3 x hx).1; omega) (by have := (KdT.lt _ _ _ _ h3 x hx).1; omega)), h4⟩
          obtain ⟨fp, hf1, hf2⟩ := hKW.full LL.out.1 LL.out.2 k e t
          exact bodyPost_ret (v := .agg #[.int .i64 k, .bool e, .string t, .slice (some ⟨G + 1 + 1, 0, none⟩) i i]) (by simp [results, Tryd.results28, go_sem, w0', w1', w2', w3']) rfl ⟨⟨_, fp, rfl, TrT.low (by rw [HG.out]; omega) _ _ _ hf1, hf2⟩, HL⟩

mutual
theorem TrT.trV {w : World} {B : Nat} : ∀ (T : Tr) (v : Value) (fp : List Nat), TrT w B T v fp → TrV w B T v fp
  | .mk k e t nms ks, v, fp, h => by
    rw [TrT] at h
    obtain ⟨cs, fq, h1, h2, h3⟩ := h
    rw [TrV]
    exact ⟨cs, fq, h1.1, KdT.kidV nms ks cs fq h2, h3⟩
theorem KdT.kidV {w : World} {B : Nat} : ∀ (nms : List ByteArray) (ks : List Tr) (cs : List Value) (fq : List Nat), KdT w B nms ks cs fq → KidV w B nms ks cs fq
  | [], [], cs, fq, h => by rw [KdT] at h; rw [KidV]; exact h
  | s :: nms, T :: ks, cs, fq, h => by
    rw [KdT] at h
    obtain ⟨v, cs', fp, fq', h1, h2, h3, h4⟩ := h
    rw [KidV]
    exact ⟨v, cs', fp, fq', h1, TrT.trV T v fp h2, KdT.kidV nms ks cs' fq' h3, h4⟩
  | [], _ :: _, cs, fq, h => by simp [KdT] at h
  | _ :: _, [], cs, fq, h => by simp [KdT] at h
end
theorem TrT.get {w : World} {B : Nat} {T : Tr} {q z n c : Nat} {fp : List Nat} (h : TrT w B T (.slice (some ⟨q, z, none⟩) n c) fp) (i : Nat) (hi : i < n) :
    ∃ K u fk, z = 0 ∧ w.cell? ⟨q, i * 5 + 4, none⟩ = some u ∧ TrT w B K u fk := by
  have hl := (TrT.trV _ _ _ h).lenE
  obtain ⟨k, e, t, nms, ks⟩ := T
  change nms.length = ks.length at hl
  rw [TrT] at h
  obtain ⟨cs, fq, ⟨ho, x, hx⟩, hk, _⟩ := h
  injection hx with e1 e2 e3
  subst e2
  obtain ⟨u, fk, h3, h4, _⟩ := KdT.get nms ks cs fq hk i _ _ (List.getElem?_eq_getElem hi) (List.getElem?_eq_getElem (by omega))
  obtain ⟨g, cap, hv, _, _⟩ := World.ownsRow.form ho (by omega)
  injection hv with f1 f2 f3
  injection f1 with f1
  injection f1 with f1 f4
  subst f1 f4
  refine ⟨_, u, fk, rfl, ?_, h4⟩
  rw [World.ownsRow.cellAt ho (i * 5 + 4) (by omega), h3 4 (by omega)]
  rfl
/-- Where the names lead the row has no room behind it. -/
theorem TrT.tight {w : World} {B : Nat} : ∀ (L : List ByteArray) (g o : Nat) (T : Tr) (v : Value) (fp : List Nat) (g' o' : Nat), w.cell? ⟨g, o + 3, none⟩ = some v → TrT w B T v fp → Rch w g o L g' o' → ∀ x n c, w.cell? ⟨g', o' + 3, none⟩ = some (.slice x n c) → n = c
  | [], g, o, T, v, fp, g', o', hc, h, hR, x, n, c, h3 => by
    rcases hR.head with ⟨_, rfl, rfl⟩ | ⟨s, l, q, z, n, c, i, e1, _⟩
    · rw [hc] at h3
      obtain rfl := Option.some.inj h3
      obtain ⟨k, e, t, nms, ks⟩ := T
      rw [TrT] at h
      obtain ⟨cs, fq, ⟨_, y, hy⟩, _⟩ := h
      injection hy with _ e2 e3
      omega
    · cases e1
  | s :: l, g, o, T, v, fp, g', o', hc, h, hR, x, n, c, h3 => by
    rcases hR.head with ⟨e1, _⟩ | ⟨s', l', q', z, n1, c1, i, e1, e2, e3, e4, e5⟩
    · cases e1
    obtain ⟨rfl, rfl⟩ : s = s' ∧ l = l' := by simpa using e1
    rw [hc] at e2
    obtain rfl := Option.some.inj e2
    obtain ⟨K, u, fk, rfl, hu, hK⟩ := TrT.get h i e3
    exact TrT.tight l q' (0 + i * 5 + 1) K u fk g' o' (by rw [show 0 + i * 5 + 1 + 3 = i * 5 + 4 by omega]; exact hu) hK e5 x n c h3

theorem run_copyZ {P : Program} (w : World) (dT sT ty elem : TypeId) (z b o dLen dCap : Nat) (a : Addr) (sLen sCap : Nat) (cs : List Value) (hu : P.underlying dT = some (.slice elem)) (hs : (P.info? elem).map (·.size) = some z) (hn : cs.length = Nat.min sLen dLen * z)
    (hsrc : ∀ j v, cs[j]? = some v → w.cell? (a.add j) = some v) (hc : ∀ j, j < cs.length → (w.cell? ⟨b, o + j, none⟩).isSome = true) (hf : ∀ j, j < cs.length → w.frozen? ⟨b, o + j, none⟩ = false) (h1 : ∀ v ∈ cs, v.oneCell' = true) :
    (Builtin.copy_ #[dT, sT] ty #[.slice (some ⟨b, o, none⟩) dLen dCap, .slice (some a) sLen sCap]).run P w = .ok (goInt (Nat.min sLen dLen)) (w.setCells b o cs) := by
  have hl := run_loadCells_list (P := P) w a cs hsrc
  have hst := run_storeCells_cells (P := P) b o cs 0 w (by simpa using hc) (by simpa using hf) h1
  cases hq : P.info? elem with
  | none => simp [hq] at hs
  | some i =>
    have hi : i.size = z := by simpa [hq] using hs
    simp [Builtin.copy_, run_underlying hu, Builtin.lenOf, Builtin.firstCells, sizeOf, typeInfo, hq, hi, ← hn, hl, hst]

/-- What Insert leaves: a new row. -/
def InsP (n i : Nat) (cs vs : List Value) (w : World) (e : Ending) (w' : World) : Prop := ∃ cap, e = .returned (.slice (some ⟨w.heap.size, 0, none⟩) (n + 1) cap) ∧ w'.ownsRow w.heap.size 52 5 (.slice (some ⟨w.heap.size, 0, none⟩) (n + 1) cap) (n + 1) (cs.take (i * 5) ++ vs ++ cs.drop (i * 5)) ∧ Below w.heap.size w w'

theorem own_new {w : World} {n cap : Nat} {R : List Value} {Z : Array Value} {B : Nat} (h : w.heap[B]? = some (.cells Z 52 (0, 0))) (hR : R.length = (n + 1) * 5) (hZ : Z.size = cap * 5) (hn : n + 1 ≤ cap) (hm : cap ≤ maxLen) (ht : Z.toList.take ((n + 1) * 5) = R) : w.ownsRow B 52 5 (.slice (some ⟨B, 0, none⟩) (n + 1) cap) (n + 1) R :=
  ⟨hR, .inr ⟨B, cap, Z, rfl, Nat.le_refl _, h, hn, hm, hZ, ht⟩⟩

set_option maxHeartbeats 4000000 in
set_option maxRecDepth 100000 in
theorem insert_end (x : Option Addr) (n vb : Nat) (cs vs : List Value) (B : Nat) (w : World) (h : w.ownsRow B 52 5 (.slice x n n) n cs) (hn : n ≤ 1073741824) (hv : vs.length = 5) (hvs : ∀ j u, vs[j]? = some u → w.cell? ⟨vb, j, none⟩ = some u) (h1 : ∀ u ∈ vs, u.oneCell' = true) :
    Calls Tryd.prog 38 #[.slice x n n, .int .i64 n, .slice (some ⟨vb, 0, none⟩) 1 1] w (InsP n n cs vs w) := by
  have hlen : cs.length = n * 5 := h.1
  obtain ⟨i0, hi0, hz0, hz1, hz2⟩ := info_parts infoET
  have hold : (Builtin.firstCells i0.size n (.slice x n n)).run Tryd.prog w.drew = .ok cs.toArray w.drew := by
    rw [hz1]
    rcases h.2 with ⟨h0, h0'⟩ | ⟨g, cap, cur, h0, _, hg, _, _, hsz, htk⟩
    · injection h0 with e1 e2 e3
      subst e1
      have : cs = [] := List.length_eq_zero_iff.1 (by omega)
      rw [this]
      exact run_firstCells_none w.drew 5 n n n
    · injection h0 with e1 e2 e3
      subst e1
      refine run_firstCells_some w.drew 5 n ⟨g, 0, none⟩ n n cs hlen (fun j v hj => ?_)
      have hg' : w.drew.heap[g]? = some (.cells cur 52 (0, 0)) := hg
      rw [Addr.add_lit, Nat.zero_add, Lib.cell_of_heap hg']
      have hj2 : j < cs.length := (List.getElem?_eq_some_iff.1 hj).1
      rw [← htk, List.getElem?_take_of_lt (by omega), Array.getElem?_toList] at hj
      exact hj
  have hsrc := Src.ofSlice (P := Tryd.prog) w (size := i0.size) undLET ⟨vb, 0, none⟩ 1 1 vs (by rw [hz1]; omega) (fun j u hj => by rw [Addr.add_lit, Nat.zero_add]; exact hvs j u hj) h1
  have hr : ∀ ty, (Builtin.append_ #[30, 30] ty #[.slice x n n, .slice (some ⟨vb, 0, none⟩) 1 1]).run Tryd.prog w = .ok (.slice (some ⟨w.heap.size, 0, none⟩) (n + 1) (grownCap w (n + 1) n 52)) (w.drew.alloc (.cells ((cs ++ vs).toArray ++ Builtin.zeroCells (Value.agg #[.string ⟨#[]⟩, .int .i64 0, .bool false, .string ⟨#[]⟩, .slice none 0 0]).cells (grownCap w (n + 1) n 52 - (n + 1))) 52)) := fun ty =>
    run_append_grow_src w 30 30 ty 52 i0 _ undLET hi0 hz0 x n n cs hold _ 1 vs hsrc (by omega) (by omega) (by rw [hz2]; exact growslice_fits (by omega) (by omega))
  have hge : n + 1 ≤ grownCap w (n + 1) n 52 := grownCap_ge w _ _ _
  have hle : grownCap w (n + 1) n 52 ≤ maxLen := grownCap_le_maxLen w _ _ _ (by unfold maxLen; omega)
  obtain ⟨C, hC⟩ : ∃ C, grownCap w (n + 1) n 52 = C := ⟨_, rfl⟩
  rw [hC] at hr hge hle
  obtain ⟨Z, hZ⟩ : ∃ Z, Z = (cs ++ vs).toArray ++ Builtin.zeroCells (Value.agg #[.string ⟨#[]⟩, .int .i64 0, .bool false, .string ⟨#[]⟩, .slice none 0 0]).cells (C - (n + 1)) := ⟨_, rfl⟩
  have hZs : Hid (Z.size = C * 5 ∧ Z.toList.take ((n + 1) * 5) = cs ++ vs) := by
    refine ⟨?_, ?_⟩
    · rw [hZ, Array.size_append, List.size_toArray, size_zeroCells, List.length_append, hlen, hv]
      show _ + (C - (n + 1)) * 5 = _
      omega
    · rw [hZ, Array.toList_append, List.take_append_of_le_length (by simp [hlen, hv]; omega), List.take_of_length_le (by simp [hlen, hv]; omega)]
  rw [← hZ] at hr
  have HR : Hid (∀ ty, (Builtin.append_ #[30, 30] ty #[.slice x n n, .slice (some ⟨vb, 0, none⟩) 1 1]).run Tryd.prog w = .ok (.slice (some ⟨w.heap.size, 0, none⟩) (n + 1) C) (w.drew.alloc (.cells Z 52))) := hr
  have HL : Hid (cs.length = n * 5 ∧ vs.length = 5 ∧ n + 1 ≤ C ∧ C ≤ maxLen) := ⟨hlen, hv, hge, hle⟩
  clear hr hZ hC hge hle hsrc hold hvs h1 h hlen hv
  go_enter Tryd.func38, Tryd.ntmps38
  go_wp2_with (at_builtin; refine Lib.wpList_append_run _ rfl _ _ _ _ rfl _ _ rfl rfl _ _ (HR.out _) ?_)
  go_ret
  have hB : Below w.heap.size w (w.alloc (.cells Z 52)).drew := ((Below.refl _ _).alloc (Nat.le_refl _) _).trans ⟨rfl, rfl, rfl, Nat.le_refl _, fun _ _ => rfl⟩
  have hh : (w.alloc (.cells Z 52)).drew.heap[w.heap.size]? = some (.cells Z 52 (0, 0)) := heap_alloc_new w _
  obtain ⟨l1, l2, l3, l4⟩ := HL.out
  refine ⟨C, rfl, own_new hh (by simp [l1, l2]; omega) hZs.out.1 l3 l4 ?_, hB⟩
  rw [hZs.out.2, List.take_of_length_le (by omega), List.drop_of_length_le (by omega), List.append_nil]

set_option maxHeartbeats 4000000 in
set_option maxRecDepth 100000 in
theorem insert_mid (q n i vb : Nat) (cs vs : List Value) (B : Nat) (w : World) (h : w.ownsRow B 52 5 (.slice (some ⟨q, 0, none⟩) n n) n cs) (hc1 : ∀ u ∈ cs, u.oneCell' = true) (hi : i < n) (hn : n ≤ 1073741824) (hv : vs.length = 5) (hvs : ∀ j u, vs[j]? = some u → w.cell? ⟨vb, j, none⟩ = some u) (h1 : ∀ u ∈ vs, u.oneCell' = true) :
    Calls Tryd.prog 38 #[.slice (some ⟨q, 0, none⟩) n n, .int .i64 i, .slice (some ⟨vb, 0, none⟩) 1 1] w (InsP n i cs vs w) := by
  have hlen : cs.length = n * 5 := h.1
  obtain ⟨cur, _, hq, _, _, hsz, htk⟩ := own_heapC h
  obtain ⟨i0, hi0, hz0, hz1, hz2⟩ := info_parts infoET
  have hcell : ∀ j v, cs[j]? = some v → w.cell? ⟨q, j, none⟩ = some v := fun j v hj => by
    have hj2 : j < cs.length := (List.getElem?_eq_some_iff.1 hj).1
    rw [Lib.cell_of_heap hq]
    rw [← htk, List.getElem?_take_of_lt (by omega), Array.getElem?_toList] at hj
    exact hj
  have hqw : q < w.heap.size := heap_lt hq
  have hvw : vb < w.heap.size := cell_lt (hvs 0 _ (List.getElem?_eq_getElem (by omega)))
  have hold : (Builtin.firstCells i0.size i (.slice (some ⟨q, 0, none⟩) i n)).run Tryd.prog w.drew = .ok (cs.take (i * 5)).toArray w.drew := by
    rw [hz1]
    refine run_firstCells_some w.drew 5 i ⟨q, 0, none⟩ i n (cs.take (i * 5)) (by rw [List.length_take]; omega) (fun j v hj => ?_)
    rw [Addr.add_lit, Nat.zero_add]
    have hj2 : j < (cs.take (i * 5)).length := (List.getElem?_eq_some_iff.1 hj).1
    rw [List.length_take] at hj2
    rw [List.getElem?_take_of_lt (by omega)] at hj
    exact hcell j v hj
  have hik : i + (n + 1 - i) = n + 1 := by omega
  have hr : ∀ ty, (Builtin.append_ #[30, 3] ty #[.slice (some ⟨q, 0, none⟩) i n, .int .i64 ((n + 1 - i : Nat) : Int)]).run Tryd.prog w = .ok (.slice (some ⟨w.heap.size, 0, none⟩) (n + 1) (grownCap w (n + 1) n 52)) (w.drew.alloc (.cells ((cs.take (i * 5)).toArray ++ Builtin.zeroCells (Value.agg #[.string ⟨#[]⟩, .int .i64 0, .bool false, .string ⟨#[]⟩, .slice none 0 0]).cells (n + 1 - i) ++ Builtin.zeroCells (Value.agg #[.string ⟨#[]⟩, .int .i64 0, .bool false, .string ⟨#[]⟩, .slice none 0 0]).cells (grownCap w (n + 1) n 52 - (n + 1))) 52)) := fun ty => by
    have := Lib.run_append_grow_zeros (P := Tryd.prog) w 30 3 ty 52 i0 _ .i64 .i64 undLET (by kernel_rfl) hi0 hz0 (some ⟨q, 0, none⟩) i n (cs.take (i * 5)) hold (n + 1 - i) (by omega) (by omega) (by omega) (by omega) (by rw [hz2]; omega) (by rw [hz2, hik]; exact growslice_fits (by omega) (by omega))
    rw [hik] at this
    exact this
  have hge : n + 1 ≤ grownCap w (n + 1) n 52 := grownCap_ge w _ _ _
  have hle : grownCap w (n + 1) n 52 ≤ maxLen := grownCap_le_maxLen w _ _ _ (by unfold maxLen; omega)
  obtain ⟨C, hC⟩ : ∃ C, grownCap w (n + 1) n 52 = C := ⟨_, rfl⟩
  rw [hC] at hr hge hle
  obtain ⟨Z, hZ⟩ : ∃ Z, Z = (cs.take (i * 5)).toArray ++ Builtin.zeroCells (Value.agg #[.string ⟨#[]⟩, .int .i64 0, .bool false, .string ⟨#[]⟩, .slice none 0 0]).cells (n + 1 - i) ++ Builtin.zeroCells (Value.agg #[.string ⟨#[]⟩, .int .i64 0, .bool false, .string ⟨#[]⟩, .slice none 0 0]).cells (C - (n + 1)) := ⟨_, rfl⟩
  have hZs : Z.size = C * 5 ∧ Z.toList.take (i * 5) = cs.take (i * 5) := by
    refine ⟨?_, ?_⟩
    · rw [hZ, Array.size_append, Array.size_append, List.size_toArray, size_zeroCells, size_zeroCells, List.length_take, hlen]
      show min (i * 5) (n * 5) + (n + 1 - i) * 5 + (C - (n + 1)) * 5 = _
      omega
    · rw [hZ, Array.toList_append, Array.toList_append, List.append_assoc, List.take_append_of_le_length (by simp [hlen]; omega), List.take_of_length_le (by simp [hlen]; omega)]
  rw [← hZ] at hr
  have hne : q ≠ w.heap.size := by omega
  have hsz5 : ((Tryd.prog).info? 52).map (·.size) = some 5 := by rw [hi0]; simp [hz1]
  have hN : ∀ j, j < C * 5 → ((w.drew.alloc (.cells Z 52)).cell? ⟨w.heap.size, j, none⟩).isSome = true := fun j hj => by
    have hh : (w.drew.alloc (.cells Z 52)).heap[w.heap.size]? = some (.cells Z 52 (0, 0)) := heap_alloc_new _ _
    rw [Lib.cell_of_heap hh, Array.getElem?_eq_getElem (by omega)]; rfl
  have hNf : ∀ j, (w.drew.alloc (.cells Z 52)).frozen? ⟨w.heap.size, j, none⟩ = false := fun j => by
    have hh : (w.drew.alloc (.cells Z 52)).heap[w.heap.size]? = some (.cells Z 52 (0, 0)) := heap_alloc_new _ _
    unfold World.frozen?; rw [hh]; simp
  have bA : Below w.heap.size w (w.drew.alloc (.cells Z 52)) := (Below.trans (⟨rfl, rfl, rfl, Nat.le_refl _, fun _ _ => rfl⟩ : Below w.heap.size w w.drew) (Below.alloc (Below.refl w.heap.size w.drew) (Nat.le_refl _) _))
  have hcA : ∀ ty dc, (Builtin.copy_ #[30, 30] ty #[.slice (some ⟨w.heap.size, i * 5, none⟩) (n + 1 - i) dc, .slice (some ⟨vb, 0, none⟩) 1 1]).run Tryd.prog (w.drew.alloc (.cells Z 52)) = .ok (goInt 1) ((w.drew.alloc (.cells Z 52)).setCells w.heap.size (i * 5) vs) := fun ty dc => by
    have hm : Nat.min 1 (n + 1 - i) = 1 := Nat.min_eq_left (by omega)
    have := run_copyZ (P := Tryd.prog) (w.drew.alloc (.cells Z 52)) 30 30 ty 52 5 w.heap.size (i * 5) (n + 1 - i) dc ⟨vb, 0, none⟩ 1 1 vs undLET hsz5 (by rw [hm]; omega) (fun j v hj => by rw [Addr.add_lit, Nat.zero_add, bA.cell (p := ⟨vb, j, none⟩) hvw]; exact hvs j v hj) (fun j hj => hN _ (by omega)) (fun j _ => hNf _) h1
    rw [hm] at this
    exact this
  obtain ⟨W1, hW1⟩ : ∃ W1, W1 = w.drew.alloc (.cells Z 52) := ⟨_, rfl⟩
  rw [← hW1] at hr hN hNf bA hcA
  obtain ⟨W2, hW2⟩ : ∃ W2, W2 = W1.setCells w.heap.size (i * 5) vs := ⟨_, rfl⟩
  rw [← hW2] at hcA
  have hcB : ∀ (W : World), (∀ x, W.cell? x = W2.cell? x) → (∀ x, W.frozen? x = W2.frozen? x) → ∀ ty dc sc, (Builtin.copy_ #[30, 30] ty #[.slice (some ⟨w.heap.size, (i + 1) * 5, none⟩) (n + 1 - (i + 1)) dc, .slice (some ⟨q, i * 5, none⟩) (n - i) sc]).run Tryd.prog W = .ok (goInt ((n - i : Nat) : Int)) (W.setCells w.heap.size ((i + 1) * 5) (cs.drop (i * 5))) := fun W hWc hWf ty dc sc => by
    have hm : Nat.min (n - i) (n + 1 - (i + 1)) = n - i := Nat.min_eq_left (by omega)
    have hdl : (cs.drop (i * 5)).length = (n - i) * 5 := by rw [List.length_drop, hlen]; omega
    have := run_copyZ (P := Tryd.prog) W 30 30 ty 52 5 w.heap.size ((i + 1) * 5) (n + 1 - (i + 1)) dc ⟨q, i * 5, none⟩ (n - i) sc (cs.drop (i * 5)) undLET hsz5 (by rw [hm, hdl]) (fun j v hj => by
      rw [Addr.add_lit, hWc, hW2, World.cell?_setCells_out _ _ _ _ _ (fun h _ => absurd h hne), bA.cell (p := ⟨q, i * 5 + j, none⟩) hqw]
      exact hcell _ v (by rwa [List.getElem?_drop] at hj)) (fun j hj => by
        rw [hWc, hW2]
        by_cases hin : i * 5 ≤ (i + 1) * 5 + j ∧ (i + 1) * 5 + j < i * 5 + vs.length
        · omega
        · rw [World.cell?_setCells_out w.heap.size vs _ W1 ⟨w.heap.size, (i + 1) * 5 + j, none⟩ (fun _ _ => by show (i + 1) * 5 + j < i * 5 ∨ i * 5 + vs.length ≤ (i + 1) * 5 + j; omega)]
          exact hN _ (by omega)) (fun j _ => by rw [hWf, hW2, World.frozen?_setCells]; exact hNf _) (fun v hv => hc1 v (List.mem_of_mem_drop hv))
    rw [hm] at this
    exact this
  have HR : Hid (∀ ty, (Builtin.append_ #[30, 3] ty #[.slice (some ⟨q, 0, none⟩) i n, .int .i64 ((n + 1 - i : Nat) : Int)]).run Tryd.prog w = .ok (.slice (some ⟨w.heap.size, 0, none⟩) (n + 1) C) W1) := hr
  have HA : Hid (∀ ty dc, (Builtin.copy_ #[30, 30] ty #[.slice (some ⟨w.heap.size, i * 5, none⟩) (n + 1 - i) dc, .slice (some ⟨vb, 0, none⟩) 1 1]).run Tryd.prog W1 = .ok (goInt 1) W2) := hcA
  have HB : Hid (∀ (W : World), (∀ x, W.cell? x = W2.cell? x) → (∀ x, W.frozen? x = W2.frozen? x) → ∀ ty dc sc, (Builtin.copy_ #[30, 30] ty #[.slice (some ⟨w.heap.size, (i + 1) * 5, none⟩) (n + 1 - (i + 1)) dc, .slice (some ⟨q, i * 5, none⟩) (n - i) sc]).run Tryd.prog W = .ok (goInt ((n - i : Nat) : Int)) (W.setCells w.heap.size ((i + 1) * 5) (cs.drop (i * 5)))) := hcB
  have HL : Hid (cs.length = n * 5 ∧ vs.length = 5 ∧ n + 1 ≤ C ∧ C ≤ maxLen ∧ Z.size = C * 5 ∧ Z.toList.take (i * 5) = cs.take (i * 5) ∧ Below w.heap.size w W1 ∧ W1 = w.drew.alloc (.cells Z 52) ∧ W2 = W1.setCells w.heap.size (i * 5) vs) := ⟨hlen, hv, hge, hle, hZs.1, hZs.2, bA, hW1, hW2⟩
  have hC63 : C ≤ 9223372036854775807 := hle
  have k1 : (n : Int) + 1 - (i : Int) = ((n + 1 - i : Nat) : Int) := by omega
  have k2 : ¬ C = i := by omega
  have k3 : ¬ C = i + 1 := by omega
  have k4 : ¬ n = i := by omega
  have k5 : ¬ (i : Int) = (n : Int) := by omega
  have k6 : i ≤ n := by omega
  clear hr hcA hcB hZ hC hge hle hold hvs h1 h hlen hv hN hNf bA hW1 hW2 hcell hq hsz htk hc1 hi0 hz0 hz1 hz2 hZs hik
  go_enter Tryd.func38, Tryd.ntmps38
  have rA := HA.out 3 (C - i)
  have rB := HB.out W2.drew (fun _ => rfl) (fun _ => rfl) 3 (C - (i + 1)) (n - i)
  rw [show n + 1 - (i + 1) = n - i by omega] at rB
  have k7 : IntKind.i64.wrap ((i : Int) + 1) = (i : Int) + 1 := by rw [IntKind.wrap_i64]; omega
  have k8 : (0 : Int) ≤ (i : Int) + 1 := by omega
  have k9 : (i : Int) + 1 ≤ (n : Int) + 1 := by omega
  have k10 : ((i : Int) + 1).toNat = i + 1 := by omega
  have k11 : (i : Int) ≤ (n : Int) := by omega
  go_wp2_with (at_builtin; refine Lib.wpList_append_run _ rfl _ _ _ _ rfl _ _ rfl rfl _ _ (HR.out _) ?_)
  go_region
  go_wp2
  go_ret
  obtain ⟨l1, l2, l3, l4, l5, l6, l7, l8, l9⟩ := HL.out
  have hZl : Z.toList.length = C * 5 := by rw [Array.length_toList]; exact l5
  have hh : W1.heap[w.heap.size]? = some (.cells Z 52 (0, 0)) := by rw [l8]; exact heap_alloc_new w.drew _
  obtain ⟨C1, g1, g2⟩ := setCells_block w.heap.size 52 vs (i * 5) W1 Z hh (by omega)
  rw [← l9] at g1
  have z1 : C1.size = C * 5 := by
    have := congrArg List.length g2
    simp only [List.length_append, List.length_take, List.length_drop, Array.length_toList] at this
    omega
  have hd : (cs.drop (i * 5)).length = (n - i) * 5 := by rw [List.length_drop]; omega
  obtain ⟨C2, g3, g4⟩ := setCells_block w.heap.size 52 (cs.drop (i * 5)) ((i + 1) * 5) W2.drew C1 g1 (by omega)
  have z2 : C2.size = C * 5 := by
    have := congrArg List.length g4
    simp only [List.length_append, List.length_take, List.length_drop, Array.length_toList] at this
    omega
  refine ⟨C, rfl, own_new g3 ?_ z2 l3 l4 ?_, ?_⟩
  · simp only [List.length_append, List.length_take, List.length_drop]; omega
  · have e1 : (C1.toList.take ((i + 1) * 5)) = cs.take (i * 5) ++ vs := by
      rw [g2, l6, List.take_append_of_le_length (by simp only [List.length_append, List.length_take]; omega), List.take_of_length_le (by simp only [List.length_append, List.length_take]; omega)]
    rw [g4, e1, List.take_append_of_le_length (by simp only [List.length_append, List.length_take, hd]; omega), List.take_of_length_le (by simp only [List.length_append, List.length_take, hd]; omega)]
  · refine belowE_setCells _ _ _ (Nat.le_refl _) (Below.trans (b := W2) ?_ ⟨rfl, rfl, rfl, Nat.le_refl _, fun _ _ => rfl⟩)
    rw [l9]
    exact belowE_setCells _ _ _ (Nat.le_refl _) l7

theorem insert_any (x : Option Addr) (n i vb : Nat) (cs vs : List Value) (B : Nat) (w : World) (h : w.ownsRow B 52 5 (.slice x n n) n cs) (hc1 : ∀ u ∈ cs, u.oneCell' = true) (hi : i ≤ n) (hn : n ≤ 1073741824) (hv : vs.length = 5) (hvs : ∀ j u, vs[j]? = some u → w.cell? ⟨vb, j, none⟩ = some u) (h1 : ∀ u ∈ vs, u.oneCell' = true) :
    Calls Tryd.prog 38 #[.slice x n n, .int .i64 i, .slice (some ⟨vb, 0, none⟩) 1 1] w (InsP n i cs vs w) := by
  by_cases he : i = n
  · subst he
    exact insert_end x i vb cs vs B w h hn hv hvs h1
  · obtain ⟨q, cap, hq, _⟩ := World.ownsRow.form h (by omega)
    injection hq with e1 e2 e3
    subst e1
    exact insert_mid q n i vb cs vs B w h hc1 (by omega) hn hv hvs h1

theorem KidV.ins {w : World} {B : Nat} : ∀ (nms : List ByteArray) (ks : List Tr) (cs : List Value) (fq : List Nat), KidV w B nms ks cs fq → ∀ (i : Nat) (s : ByteArray) (K : Tr) (u : Value), i ≤ nms.length → TrV w B K u [] →
    KidV w B (nms.take i ++ s :: nms.drop i) (ks.take i ++ K :: ks.drop i) (cs.take (i * 5) ++ entV s K u ++ cs.drop (i * 5)) fq
  | nms, ks, cs, fq, h, 0, s, K, u, _, hK => by
    show KidV w B (s :: nms) (K :: ks) (cs.take (0 * 5) ++ entV s K u ++ cs.drop (0 * 5)) fq
    rw [KidV]
    exact ⟨u, cs, [], fq, by simp, hK, h, rfl⟩
  | [], _, cs, fq, _, i + 1, s, K, u, hi, _ => by simp at hi
  | _ :: _, [], cs, fq, h, i + 1, s, K, u, _, _ => by simp [KidV] at h
  | a :: nms, T :: ks, cs, fq, h, i + 1, s, K, u, hi, hK => by
    rw [KidV] at h
    obtain ⟨v, cs', fp, fq', rfl, h2, h3, rfl⟩ := h
    have ih := KidV.ins nms ks cs' fq' h3 i s K u (by simpa using hi) hK
    show KidV w B (a :: (nms.take i ++ s :: nms.drop i)) (T :: (ks.take i ++ K :: ks.drop i)) _ _
    rw [KidV]
    refine ⟨v, _, fp, fq', ?_, h2, ih, rfl⟩
    rw [List.take_append, List.drop_append, List.take_of_length_le (by rw [entV_len]; omega), List.drop_of_length_le (by rw [entV_len]; omega), entV_len, show (i + 1) * 5 - 5 = i * 5 by omega]
    simp

/-- The cells of an entry that holds nothing yet. -/
theorem ent_zero (s : ByteArray) : entV s zT (.slice none 0 0) = [.string s, .int .i64 0, .bool false, .string ⟨#[]⟩, .slice none 0 0] := rfl
/-- A kid more, behind Insert. -/
theorem TrV.ins {w : World} {B n i : Nat} {x : Option Addr} {T : Tr} {fp : List Nat} {s : ByteArray} (h : TrV w B T (.slice x n n) fp) (hn : fp.Nodup) (hi : i ≤ T.nms.length) (hB : B ≤ w.heap.size) :
    ∃ cs, T.nms.length = n ∧ w.ownsRow B 52 5 (.slice x n n) n cs ∧ (∀ u ∈ cs, u.oneCell' = true) ∧
      (∀ (w' : World) (cap : Nat), w'.ownsRow w.heap.size 52 5 (.slice (some ⟨w.heap.size, 0, none⟩) (n + 1) cap) (n + 1) (cs.take (i * 5) ++ entV s zT (.slice none 0 0) ++ cs.drop (i * 5)) → Below w.heap.size w w' →
        ∃ fp', TrV w' B (insK T i s zT) (.slice (some ⟨w.heap.size, 0, none⟩) (n + 1) cap) fp' ∧ fp'.Nodup ∧ ∀ b ∈ fp', b ∈ fp ∨ w.heap.size ≤ b) := by
  obtain ⟨x0, c0, hx⟩ := h.shape
  obtain ⟨k, e, t, nms, ks⟩ := T
  injection hx with e1 e2 e3
  change n = nms.length at e2
  subst e2
  rw [TrV] at h
  obtain ⟨cs, fq, h1, h2, rfl⟩ := h
  change i ≤ nms.length at hi
  have hlt := KidV.lt _ _ _ _ h2
  refine ⟨cs, rfl, h1, KidV.one _ _ _ _ h2, fun w' cap hr hb => ⟨w.heap.size :: fq, ?_, List.nodup_cons.2 ⟨fun hm => by have := (hlt _ hm).2; omega, (List.nodup_append.1 hn).2.1⟩, fun b hb => ?_⟩⟩
  · show TrV w' B (.mk k e t (nms.take i ++ s :: nms.drop i) (ks.take i ++ zT :: ks.drop i)) _ _
    rw [TrV]
    have hl : (nms.take i ++ s :: nms.drop i).length = nms.length + 1 := by simp; omega
    refine ⟨_, fq, ?_, KidV.ins _ _ _ _ (KidV.same _ _ _ _ h2 (fun b hm => hb.block b (hlt b hm).2)) i s zT (.slice none 0 0) hi (TrV.zero _ _ _ _ _ rfl rfl), rfl⟩
    rw [hl]
    refine ⟨hr.1, ?_⟩
    rcases hr.2 with hh | ⟨g, cap', cur, q1, q2, q3⟩
    · exact .inl hh
    · exact .inr ⟨g, cap', cur, q1, by omega, q3⟩
  · rcases List.mem_cons.1 hb with rfl | hb
    · exact .inr (Nat.le_refl _)
    · exact .inl (by simp [hb])

/-- Four cells of an entry stored anew. -/
theorem own_put4 {w : World} {B q n cap i : Nat} {cs1 cs2 : List Value} {s : ByteArray} {K0 S : Tr} {u0 u : Value} (h : w.ownsRow B 52 5 (.slice (some ⟨q, 0, none⟩) n cap) n (cs1 ++ entV s K0 u0 ++ cs2)) (hc : cs1.length = i * 5) :
    (w.setCells q (i * 5 + 1) [.int .i64 S.k, .bool S.e, .string S.t, u]).ownsRow B 52 5 (.slice (some ⟨q, 0, none⟩) n cap) n (cs1 ++ entV s S u ++ cs2) := by
  have h1 := (World.ownsRow.stored h (i * 5 + 1) (.int .i64 S.k)).1
  have h2 := (World.ownsRow.stored h1 (i * 5 + 2) (.bool S.e)).1
  have h3 := (World.ownsRow.stored h2 (i * 5 + 3) (.string S.t)).1
  have h4 := (World.ownsRow.stored h3 (i * 5 + 4) u).1
  have key : ((((cs1 ++ entV s K0 u0 ++ cs2).set (i * 5 + 1) (.int .i64 S.k)).set (i * 5 + 2) (.bool S.e)).set (i * 5 + 3) (.string S.t)).set (i * 5 + 4) u = cs1 ++ entV s S u ++ cs2 := by
    rw [List.append_assoc, List.set_append_right _ _ (by omega), List.set_append_right _ _ (by omega), List.set_append_right _ _ (by omega), List.set_append_right _ _ (by omega), hc]
    rw [show i * 5 + 1 - i * 5 = 1 by omega, show i * 5 + 2 - i * 5 = 2 by omega, show i * 5 + 3 - i * 5 = 3 by omega, show i * 5 + 4 - i * 5 = 4 by omega]
    unfold entV
    simp
  rw [key] at h4
  exact h4
/-- Another kid at a place, behind Copy and the store. -/
theorem TrV.put {w w' : World} {B q n cap i : Nat} {T K0 S : Tr} {fp fk : List Nat} {s : ByteArray} {u : Value} (h : TrV w B T (.slice (some ⟨q, 0, none⟩) n cap) fp) (hn : fp.Nodup) (hs : T.nms[i]? = some s) (hK : T.ks[i]? = some K0) (b : Below w.heap.size w w') (hV : TrV w' w.heap.size S u fk) (hnk : fk.Nodup) (hB : B ≤ w.heap.size) :
    ∃ fp2, TrV (w'.setCells q (i * 5 + 1) [.int .i64 S.k, .bool S.e, .string S.t, u]) B (setK T i S) (.slice (some ⟨q, 0, none⟩) n cap) fp2 ∧ fp2.Nodup ∧ (∀ b ∈ fp2, b ∈ fp ∨ w.heap.size ≤ b) ∧ q ∈ fp := by
  obtain ⟨x0, c0, hx⟩ := h.shape
  obtain ⟨k, e, t, nms, ks⟩ := T
  injection hx with e1 e2 e3
  change n = nms.length at e2
  subst e2
  rw [TrV] at h
  obtain ⟨cs, fq, h1, h2, rfl⟩ := h
  change nms[i]? = some s at hs
  change ks[i]? = some K0 at hK
  have hlt := KidV.lt _ _ _ _ h2
  obtain ⟨u0, fk0, cs1, cs2, fa, fb, rfl, g2, rfl, g4, g5⟩ := KidV.rep nms ks cs fq h2 i s K0 hs hK
  have hbl : blkL (Value.slice (some ⟨q, 0, none⟩) nms.length cap) = [q] := rfl
  rw [hbl] at hn ⊢
  have hqn : q ∉ fa ++ (fk0 ++ fb) := (List.nodup_cons.1 hn).1
  have hn2 : (fa ++ (fk0 ++ fb)).Nodup := (List.nodup_cons.1 hn).2
  have hql : q < w.heap.size := by
    obtain ⟨cur, _, hq, _⟩ := own_heapC h1
    exact heap_lt hq
  have hfk := TrV.lt _ _ _ hV
  have hab : ∀ x ∈ fa ++ fb, x ∈ fa ++ (fk0 ++ fb) := fun x hm => by
    rcases List.mem_append.1 hm with hm | hm
    · simp [hm]
    · simp [hm]
  have r1 := own_same (w' := w') h1 (fun x hx => by rw [hbl] at hx; simp at hx; rw [hx]; exact b.block q hql)
  have r2 := own_put4 (S := S) (u := u) r1 g2
  have hV2 := TrV.low hB _ _ _ (TrV.same (w' := w'.setCells q (i * 5 + 1) [.int .i64 S.k, .bool S.e, .string S.t, u]) _ _ _ hV (fun x hx => heapE_setCells q _ _ x (fun hh => by have := (hfk x hx).1; omega) w'))
  have hKV := g5 _ S u fk hV2 (fun x hx => (heapE_setCells q _ _ x (fun hh => hqn (by rw [← hh]; exact hab x hx)) w').trans (b.block x (hlt x (hab x hx)).2))
  refine ⟨q :: (fa ++ (fk ++ fb)), ?_, ?_, ?_, by simp⟩
  · show TrV _ B (.mk k e t nms (ks.set i S)) _ _
    rw [TrV]
    exact ⟨_, _, r2, hKV, rfl⟩
  · refine List.nodup_cons.2 ⟨fun hm => ?_, List.nodup_append.2 ⟨(List.nodup_append.1 hn2).1, List.nodup_append.2 ⟨hnk, (List.nodup_append.1 (List.nodup_append.1 hn2).2.1).2.1, fun x hx y hy hxy => ?_⟩, fun x hx y hy hxy => ?_⟩⟩
    · rcases List.mem_append.1 hm with hm | hm
      · exact hqn (by simp [hm])
      · rcases List.mem_append.1 hm with hm | hm
        · have := (hfk q hm).1; omega
        · exact hqn (by simp [hm])
    · have p1 := (hfk x hx).1
      have p2 := (hlt y (by simp [hy])).2
      omega
    · rcases List.mem_append.1 hy with hy | hy
      · have p1 := (hfk y hy).1
        have p2 := (hlt x (by simp [hx])).2
        omega
      · exact (List.nodup_append.1 hn2).2.2 x hx y (by simp [hy]) hxy
  · intro x hx
    rcases List.mem_cons.1 hx with rfl | hx
    · exact .inl (by simp)
    · rcases List.mem_append.1 hx with hx | hx
      · exact .inl (by simp [hx])
      · rcases List.mem_append.1 hx with hx | hx
        · exact .inr (hfk x hx).1
        · exact .inl (by simp [hx])
theorem setK_ins {T : Tr} {i : Nat} (hi : i ≤ T.ks.length) (s : ByteArray) (K S : Tr) : setK (insK T i s K) i S = insK T i s S := by
  show Tr.mk T.k T.e T.t (T.nms.take i ++ s :: T.nms.drop i) ((T.ks.take i ++ K :: T.ks.drop i).set i S) = Tr.mk T.k T.e T.t (T.nms.take i ++ s :: T.nms.drop i) (T.ks.take i ++ S :: T.ks.drop i)
  have e0 : (T.ks.take i).length = i := by rw [List.length_take]; omega
  rw [List.set_append_right _ _ (by omega), e0, Nat.sub_self, List.set_cons_zero]
theorem insK_at {T : Tr} {i : Nat} (hi : i ≤ T.nms.length) (hl : T.nms.length = T.ks.length) (s : ByteArray) (K : Tr) : (insK T i s K).nms[i]? = some s ∧ (insK T i s K).ks[i]? = some K := by
  have e0 : (T.ks.take i).length = i := by rw [List.length_take]; omega
  have e1 : (T.nms.take i).length = i := by rw [List.length_take]; omega
  refine ⟨?_, ?_⟩
  · show (T.nms.take i ++ s :: T.nms.drop i)[i]? = _
    rw [List.getElem?_append_right (by omega), e1, Nat.sub_self]; rfl
  · show (T.ks.take i ++ K :: T.ks.drop i)[i]? = _
    rw [List.getElem?_append_right (by omega), e0, Nat.sub_self]; rfl
/-- A cell stored with what it held. -/
theorem set_held {w : World} {g j : Nat} {D : Array Value} {ty : TypeId} {u : Value} (h : w.heap[g]? = some (.cells D ty (0, 0))) (hc : w.cell? ⟨g, j, none⟩ = some u) : (w.setCell ⟨g, j, none⟩ u).heap[g]? = w.heap[g]? := by
  rw [Go.Joins.block_setCell (i := j) h u, h]
  rw [Lib.cell_of_heap h] at hc
  obtain ⟨h1, h2⟩ := Array.getElem?_eq_some_iff.1 hc
  congr 2
  rw [← h2]
  apply Array.ext
  · simp
  · intro k hk1 hk2
    rw [Array.getElem_setIfInBounds]
    split
    · rename_i he; subst he; rfl
    · rfl
theorem putK_hd (T : Tr) (s : ByteArray) (K : Tr) : (putK T s K).k = T.k ∧ (putK T s K).e = T.e ∧ (putK T s K).t = T.t := by
  unfold putK
  split <;> exact ⟨rfl, rfl, rfl⟩
end Go.Proofs.YtnggbemnblcnaaaDoor
namespace Go.Proofs.YtnggbemnblcnaaaDoor
open Go.RowKit

/-- What Put answers. -/
def putE (R : Tr) : Int × Tr := if (ckT R).2 ≠ 0 then ((ckT R).2, zT) else (0, R)
def putN (T U : Tr) (L : List ByteArray) (s : ByteArray) : Int × Tr := if (rchH L T).1 ≠ 0 then ((rchH L T).1, zT) else putE (repT L T (putK (rch L T).2 s U))
def putT (T : Tr) (p : ByteArray) (U : Tr) : Int × Tr := if nmO [T, U] p ≠ 0 then (nmO [T, U] p, zT) else match (pathN p).reverse with
  | [] => (0, U)
  | s :: r => putN T U r.reverse s

/-- Two nodes laid side by side. -/
theorem Nds.two {w : World} {m mu : Nat} {k ku : Int} {e eu : Bool} {t tu : ByteArray} {x xu : Option Addr} {n c nu cu : Nat} {T U : Tr} (H : At w m (.agg #[Value.int IntKind.i64 k, Value.bool e, Value.string t, Value.slice x n c]) T) (HU : At w mu (.agg #[Value.int IntKind.i64 ku, Value.bool eu, Value.string tu, Value.slice xu nu cu]) U) (S1 : smT T) (S2 : smT U) (ty : TypeId) :
    Nds (w.alloc (.cells #[Value.int IntKind.i64 k, Value.bool e, Value.string t, Value.slice x n c, Value.int IntKind.i64 ku, Value.bool eu, Value.string tu, Value.slice xu nu cu] ty)) (some ⟨w.heap.size, 0, none⟩) [T, U] := fun j K hj => by
  obtain ⟨e1, e2, e3⟩ := H.NP
  obtain ⟨f1, f2, f3⟩ := HU.NP
  have b : Below w.heap.size w (w.alloc (.cells #[Value.int IntKind.i64 k, Value.bool e, Value.string t, Value.slice x n c, Value.int IntKind.i64 ku, Value.bool eu, Value.string tu, Value.slice xu nu cu] ty)) := (Below.refl _ _).alloc (Nat.le_refl _) _
  have hz : w.heap.size < (w.alloc (.cells #[Value.int IntKind.i64 k, Value.bool e, Value.string t, Value.slice x n c, Value.int IntKind.i64 ku, Value.bool eu, Value.string tu, Value.slice xu nu cu] ty)).heap.size := by rw [World.size_alloc]; omega
  match j, hj with
  | 0, hj =>
    simp at hj
    subst hj
    refine ⟨S1, m, _, 0, rfl, hz, x, n, c, ?_, ?_, ?_, ?_, ?_⟩
    · rw [World.cell?_alloc_new, e1]; rfl
    · rw [World.cell?_alloc_new, e2]; rfl
    · rw [World.cell?_alloc_new, e3]; rfl
    · rw [World.cell?_alloc_new]; rfl
    · rw [e1, e2, e3]; exact H.below b
  | 1, hj =>
    simp at hj
    subst hj
    refine ⟨S2, mu, _, 0, rfl, hz, xu, nu, cu, ?_, ?_, ?_, ?_, ?_⟩
    · rw [World.cell?_alloc_new, f1]; rfl
    · rw [World.cell?_alloc_new, f2]; rfl
    · rw [World.cell?_alloc_new, f3]; rfl
    · rw [World.cell?_alloc_new]; rfl
    · rw [f1, f2, f3]; exact HU.below b
  | j + 2, hj => simp at hj

/-- What Put keeps in its first blocks: the place of its answer, and sub. -/
def PuI (w0 : World) (G : Nat) (C : Array Value) (w : World) : Prop := w.heap[G + 1 + 1]? = some (Obj.cells #[Value.int IntKind.i64 0, Value.bool false, Value.string ⟨#[]⟩, Value.slice none 0 0] 32 (0, 0)) ∧ G + 1 + 1 + 1 < w.heap.size ∧ Below G w0 w ∧ w.heap[G + 1]? = some (Obj.cells C 32 (0, 0))
theorem PuI.on {w0 w w' : World} {G : Nat} {C : Array Value} (h : PuI w0 G C w) (b : Below w.heap.size w w') : PuI w0 G C w' := by
  obtain ⟨h1, h2, h3, h4⟩ := h
  exact ⟨(b.block _ (by omega)).trans h1, Nat.lt_of_lt_of_le h2 b.size, h3.trans (b.mono (by omega)), (b.block _ (by omega)).trans h4⟩
theorem PuI.keep {w0 w w' : World} {G : Nat} {C : Array Value} (h : PuI w0 G C w) (hb : w'.heap[G + 1]? = w.heap[G + 1]?) (hb2 : w'.heap[G + 1 + 1]? = w.heap[G + 1 + 1]?) (hs : w.heap.size ≤ w'.heap.size) (b : Below G w w') : PuI w0 G C w' := by
  obtain ⟨h1, h2, h3, h4⟩ := h
  exact ⟨hb2.trans h1, by omega, h3.trans b, hb.trans h4⟩

set_option maxHeartbeats 16000000 in
set_option maxRecDepth 10000 in
theorem put_any (m mu : Nat) (k : Int) (e : Bool) (t : ByteArray) (x : Option Addr) (n c : Nat) (T : Tr) (p : ByteArray) (ku : Int) (eu : Bool) (tu : ByteArray) (xu : Option Addr) (nu cu : Nat) (U : Tr) (w : World) (hp : p.size ≤ 1048576) (H : At w m (.agg #[Value.int IntKind.i64 k, Value.bool e, Value.string t, Value.slice x n c]) T) (S : smT T) (HU : At w mu (.agg #[Value.int IntKind.i64 ku, Value.bool eu, Value.string tu, Value.slice xu nu cu]) U) (SU : smT U) :
    Calls Tryd.prog 14 #[.agg #[Value.int IntKind.i64 k, Value.bool e, Value.string t, Value.slice x n c], .string p, .agg #[Value.int IntKind.i64 ku, Value.bool eu, Value.string tu, Value.slice xu nu cu]] w (NdP (putT T p U) w) := by
  have HH : Hid (At w m (.agg #[Value.int IntKind.i64 k, Value.bool e, Value.string t, Value.slice x n c]) T ∧ smT T ∧ wfT T ∧ At w mu (.agg #[Value.int IntKind.i64 ku, Value.bool eu, Value.string tu, Value.slice xu nu cu]) U ∧ smT U ∧ wfT U) := ⟨H, S, At.wf _ _ _ H, HU, SU, At.wf _ _ _ HU⟩
  clear H S HU SU
  go_enter Tryd.func14, Tryd.ntmps14
  go_wp2_with fail
  obtain ⟨w3, hw3⟩ : ∃ w3, w3 = ((((w.alloc (Obj.cells #[Value.int IntKind.i64 k, Value.bool e, Value.string t, Value.slice x n c] 32)).alloc (Obj.cells #[Value.int IntKind.i64 ku, Value.bool eu, Value.string tu, Value.slice xu nu cu] 32)).alloc (Obj.cells #[Value.int IntKind.i64 0, Value.bool false, Value.string ⟨#[]⟩, Value.slice none 0 0] 32)).alloc (Obj.cells #[Value.int IntKind.i64 k, Value.bool e, Value.string t, Value.slice x n c, Value.int IntKind.i64 ku, Value.bool eu, Value.string tu, Value.slice xu nu cu] 32)) := ⟨_, rfl⟩
  have b1 : Below w.heap.size w (w.alloc (Obj.cells #[Value.int IntKind.i64 k, Value.bool e, Value.string t, Value.slice x n c] 32)) := (Below.refl _ _).alloc (Nat.le_refl _) _
  have hs1 : (w.alloc (Obj.cells #[Value.int IntKind.i64 k, Value.bool e, Value.string t, Value.slice x n c] 32)).heap.size = w.heap.size + 1 := World.size_alloc _ _
  have hs2 : ((w.alloc (Obj.cells #[Value.int IntKind.i64 k, Value.bool e, Value.string t, Value.slice x n c] 32)).alloc (Obj.cells #[Value.int IntKind.i64 ku, Value.bool eu, Value.string tu, Value.slice xu nu cu] 32)).heap.size = w.heap.size + 1 + 1 := by rw [World.size_alloc, hs1]
  have hs3 : (((w.alloc (Obj.cells #[Value.int IntKind.i64 k, Value.bool e, Value.string t, Value.slice x n c] 32)).alloc (Obj.cells #[Value.int IntKind.i64 ku, Value.bool eu, Value.string tu, Value.slice xu nu cu] 32)).alloc (Obj.cells #[Value.int IntKind.i64 0, Value.bool false, Value.string ⟨#[]⟩, Value.slice none 0 0] 32)).heap.size = w.heap.size + 1 + 1 + 1 := by rw [World.size_alloc, hs2]
  have b2 : Below w.heap.size w ((w.alloc (Obj.cells #[Value.int IntKind.i64 k, Value.bool e, Value.string t, Value.slice x n c] 32)).alloc (Obj.cells #[Value.int IntKind.i64 ku, Value.bool eu, Value.string tu, Value.slice xu nu cu] 32)) := b1.alloc (by rw [hs1]; omega) _
  have b3 : Below w.heap.size w (((w.alloc (Obj.cells #[Value.int IntKind.i64 k, Value.bool e, Value.string t, Value.slice x n c] 32)).alloc (Obj.cells #[Value.int IntKind.i64 ku, Value.bool eu, Value.string tu, Value.slice xu nu cu] 32)).alloc (Obj.cells #[Value.int IntKind.i64 0, Value.bool false, Value.string ⟨#[]⟩, Value.slice none 0 0] 32)) := b2.alloc (by rw [hs2]; omega) _
  have P0 : Hid (NP w3 m w.heap.size 0 T) := by
    rw [hw3]
    exact (((NP.new HH.out.1 32).below ((Below.refl _ _).alloc (Nat.le_refl _) _)).below ((Below.refl _ _).alloc (Nat.le_refl _) _)).below ((Below.refl _ _).alloc (Nat.le_refl _) _)
  have P1 : Hid (Nds w3 (some ⟨w.heap.size + 1 + 1 + 1, 0, none⟩) [T, U]) := by
    have := Nds.two (HH.out.1.below b3) (HH.out.2.2.2.1.below b3) HH.out.2.1 HH.out.2.2.2.2.1 32
    rw [hs3] at this
    rw [hw3]
    exact this
  have P2 : Hid (PuI w w.heap.size #[Value.int IntKind.i64 ku, Value.bool eu, Value.string tu, Value.slice xu nu cu] w3) := by
    rw [hw3]
    refine ⟨?_, by rw [World.size_alloc, hs3]; omega, b3.alloc (by rw [hs3]; omega) _, ?_⟩
    · rw [Below.heap_alloc _ _ _ (by rw [hs3]; omega), ← hs2]; exact heap_alloc_new _ _
    · rw [Below.heap_alloc _ _ _ (by rw [hs3]; omega), Below.heap_alloc _ _ _ (by rw [hs2]; omega), ← hs1]; exact heap_alloc_new _ _
  rw [← hw3]
  clear hw3 b1 b2 b3 hs1 hs2 hs3
  refine (namesOf_any p _ [T, U] 2 2 w3 (by omega) rfl (by omega) P1.out).mono ?_
  rintro en w4 ⟨⟨v, rfl, hv⟩, b4⟩
  have P3 : Hid (NP w4 m w.heap.size 0 T) := P0.out.below b4
  have P4 : Hid (PuI w w.heap.size #[Value.int IntKind.i64 ku, Value.bool eu, Value.string tu, Value.slice xu nu cu] w4) := P2.out.on b4
  clear P0 P1 P2 b4
  obtain ⟨G, hG⟩ : ∃ G, w.heap.size = G := ⟨_, rfl⟩
  have HG : Hid (w.heap.size = G) := hG
  rw [hG] at P3 P4 ⊢
  clear hG
  obtain ⟨c1, hc1⟩ : ∃ c1, nmO [T, U] p = c1 := ⟨_, rfl⟩
  have HC : Hid (nmO [T, U] p = c1) := hc1
  rw [hc1] at hv ⊢
  clear hc1
  by_cases hz : c1 = 0
  · subst hz
    obtain ⟨y, cy, rfl, hcy, hT⟩ := (hv rfl).tns
    have HT : Hid (Tns w4 y (pathN p)) := hT
    have HA : Hid (ascT T) := ckS_asc (nmO_ck HC.out).1 (by simp) HH.out.2.2.1
    have HLn : Hid (lnB 1048576 T ∧ lnB 1048576 U) := ⟨ck_ln HH.out.2.2.1 (ckS_off (nmO_ck HC.out).1 (by simp)), ck_ln HH.out.2.2.2.2.2 (ckS_off (nmO_ck HC.out).1 (by simp))⟩
    have HSM : Hid (∀ z ∈ pathN p, z.size ≤ 1048576) := fun z hz => by
      have := (spN_right p (pathN p) (by unfold spN; rw [if_pos (nmO_ck HC.out).2])).2.1 z hz
      have := chk_short z this
      omega
    clear hv hT
    have hsh := pathN_short p
    generalize hN : pathN p = N at HT hcy hsh HSM ⊢
    have HNN : Hid (pathN p = N) := hN
    clear hN
    rcases List.eq_nil_or_concat N with rfl | ⟨L, s, rfl⟩
    · have HR : Hid (putT T p U = (0, U)) := by
        show putT T p U = (0, U)
        unfold putT; rw [if_neg (by rw [HC.out]; decide), HNN.out]; rfl
      obtain ⟨a0, a1, a2, a3, _⟩ := cell4 P4.out.2.2.2
      go_wp2_with fail
      have HA4 : At w4 mu (.agg #[Value.int IntKind.i64 ku, Value.bool eu, Value.string tu, Value.slice xu nu cu]) U := HH.out.2.2.2.1.below (by rw [HG.out]; exact P4.out.2.2.1)
      refine (copyV_any mu _ U w4 HA4).mono ?_
      rintro e5 w5 ⟨⟨x5, fp, rfl, hV, hn⟩, b5⟩
      obtain ⟨y5, c5, rfl⟩ := hV.shape
      have P5 := P4.out.on b5
      have HV : Hid (TrV w5 w4.heap.size U (.slice y5 U.nms.length c5) fp ∧ fp.Nodup ∧ G + 1 + 1 + 1 < w4.heap.size) := ⟨hV, hn, P4.out.2.1⟩
      obtain ⟨u0, u1, u2, u3, uf⟩ := cell4 P5.1
      have v0 := uf 0
      have v1 := uf 1
      have v2 := uf 2
      have v3 := uf 3
      clear uf hV hn b5 a0 a1 a2 a3
      have HP5 : Hid (PuI w G #[Value.int IntKind.i64 ku, Value.bool eu, Value.string tu, Value.slice xu nu cu] w5) := P5
      clear P5
      generalize q1 : U.k = rk
      generalize q2 : U.e = re
      generalize q3 : U.t = rt
      generalize q4 : U.nms.length = rn at HV
      have HQR : Hid (U.k = rk ∧ U.e = re ∧ U.t = rt) := ⟨q1, q2, q3⟩
      clear q1 q2 q3 q4
      go_wp2
      have hq := put4 HP5.out.1 (Value.int .i64 rk) (.bool re) (.string rt) (.slice y5 rn c5)
      have hB : Below w.heap.size w (w5.setCells (G + 1 + 1) 0 [Value.int .i64 rk, .bool re, .string rt, .slice y5 rn c5]) := belowE_setCells _ _ _ (by rw [HG.out]; omega) (by rw [HG.out]; exact HP5.out.2.2.1)
      have hVE := TrV.low (show w.heap.size ≤ w4.heap.size by rw [HG.out]; have := HV.out.2.2; omega) _ _ _ (TrV.same (w' := w5.setCells (G + 1 + 1) 0 [Value.int .i64 rk, .bool re, .string rt, .slice y5 rn c5]) _ _ _ HV.out.1 (fun b hb => heapE_setCells (G + 1 + 1) _ _ b (fun hh => by have := (TrV.lt _ _ _ HV.out.1 b hb).1; have := HV.out.2.2; omega) w5))
      change bodyPost _ _ _ _ _ (w5.setCells (G + 1 + 1) 0 [Value.int .i64 rk, .bool re, .string rt, .slice y5 rn c5])
      generalize w5.setCells (G + 1 + 1) 0 [Value.int .i64 rk, .bool re, .string rt, .slice y5 rn c5] = W at *
      obtain ⟨z0, z1, z2, z3, _⟩ := cell4 hq
      refine bodyPost_ret (v := .tuple #[.agg #[.int .i64 rk, .bool re, .string rt, .slice y5 rn c5], .int .i64 0]) (by simp [results, Tryd.results14, go_sem, z0, z1, z2, z3]) rfl ?_
      rw [← HQR.out.1, ← HQR.out.2.1, ← HQR.out.2.2]
      exact NdP.ok HR.out hVE HV.out.2.1 hB
    · have HR0 : Hid (putT T p U = putN T U L s) := by
        show putT T p U = putN T U L s
        unfold putT; rw [if_neg (by rw [HC.out]; decide), HNN.out]; simp
      obtain ⟨_, x1, n1, c1, d0, d1, d2, d3, hA⟩ := P3.out
      have HA2 : Hid (At w4 m (.agg #[.int .i64 T.k, .bool T.e, .string T.t, .slice x1 n1 c1]) T) := hA
      clear hA
      generalize q1 : T.k = rk at d0 HA2
      generalize q2 : T.e = re at d1 HA2
      generalize q3 : T.t = rt at d2 HA2
      clear q1 q2 q3
      simp only [Nat.zero_add] at d1 d2 d3
      go_wp2_with fail
      refine (copyT_any m _ T w4 HA2.out).mono ?_
      rintro e5 w5 ⟨⟨x5, fp, rfl, hV, hn⟩, b5⟩
      obtain ⟨y5, c5, rfl⟩ := hV.shape
      have P5 : Hid (PuI w G #[Value.int IntKind.i64 ku, Value.bool eu, Value.string tu, Value.slice xu nu cu] w5) := P4.out.on b5
      have HV : Hid (TrT w5 w4.heap.size T (.slice y5 T.nms.length c5) fp ∧ fp.Nodup ∧ G + 1 + 1 + 1 < w4.heap.size) := ⟨hV, hn, P4.out.2.1⟩
      have HT5 : Hid (Tns w5 y (L ++ [s])) := by have h0 := HT.out.below b5; rw [List.concat_eq_append] at h0; exact h0
      have hsz5 := b5.size
      clear b5 hV hn d0 d1 d2 d3 HA2
      have hcy' : L.length + 1 ≤ cy := by simpa using hcy
      have hL : L.length ≤ 999999 := by simp at hsh; omega
      have HSS : Hid (s.size ≤ 1048576) := HSM.out s (by simp)
      go_wp2_with fail
      have bA : Below w5.heap.size w5 (w5.alloc (Obj.cells #[Value.int IntKind.i64 T.k, Value.bool T.e, Value.string T.t, Value.slice y5 T.nms.length c5] 32)) := (Below.refl _ _).alloc (Nat.le_refl _) _
      have P6 : Hid (PuI w G #[Value.int IntKind.i64 ku, Value.bool eu, Value.string tu, Value.slice xu nu cu] (w5.alloc (Obj.cells #[Value.int IntKind.i64 T.k, Value.bool T.e, Value.string T.t, Value.slice y5 T.nms.length c5] 32))) := P5.out.on bA
      have HT6 := HT5.out.below bA
      have HV6 := TrT.same _ _ _ HV.out.1 (fun b hb => bA.block b (TrT.lt _ _ _ HV.out.1 b hb).2)
      have TN6 : TN (w5.alloc (Obj.cells #[Value.int IntKind.i64 T.k, Value.bool T.e, Value.string T.t, Value.slice y5 T.nms.length c5] 32)) w4.heap.size w5.heap.size 0 T (.slice y5 T.nms.length c5) fp := by
        refine ⟨by rw [World.cell?_alloc_new]; rfl, by rw [World.cell?_alloc_new]; rfl, by rw [World.cell?_alloc_new]; rfl, by rw [World.cell?_alloc_new]; rfl, TrT.trV _ _ _ HV6, HV.out.2.1, fun hm => ?_⟩
        have := (TrT.lt _ _ _ HV.out.1 _ hm).2
        omega
      have NP6 : ∃ f, NP (w5.alloc (Obj.cells #[Value.int IntKind.i64 T.k, Value.bool T.e, Value.string T.t, Value.slice y5 T.nms.length c5] 32)) f w5.heap.size 0 T := by
        obtain ⟨f, hf⟩ := TrV.at T _ _ TN6.2.2.2.2.1 (lnB_ln (by decide) T HLn.out.1)
        exact ⟨f, by rw [World.size_alloc]; omega, _, _, _, TN6.1, TN6.2.1, TN6.2.2.1, TN6.2.2.2.1, hf⟩
      have HTN : Hid (TN (w5.alloc (Obj.cells #[Value.int IntKind.i64 T.k, Value.bool T.e, Value.string T.t, Value.slice y5 T.nms.length c5] 32)) w4.heap.size w5.heap.size 0 T (.slice y5 T.nms.length c5) fp ∧ TrT (w5.alloc (Obj.cells #[Value.int IntKind.i64 T.k, Value.bool T.e, Value.string T.t, Value.slice y5 T.nms.length c5] 32)) w4.heap.size T (.slice y5 T.nms.length c5) fp) := ⟨TN6, HV6⟩
      have HS6 : Hid (w5.heap.size < (w5.alloc (Obj.cells #[Value.int IntKind.i64 T.k, Value.bool T.e, Value.string T.t, Value.slice y5 T.nms.length c5] 32)).heap.size ∧ G + 1 + 1 + 1 < w4.heap.size ∧ w4.heap.size ≤ w5.heap.size ∧ ∃ D, (w5.alloc (Obj.cells #[Value.int IntKind.i64 T.k, Value.bool T.e, Value.string T.t, Value.slice y5 T.nms.length c5] 32)).heap[w5.heap.size]? = some (Obj.cells D 32 (0, 0))) := ⟨by rw [World.size_alloc]; omega, HV.out.2.2, hsz5, _, heap_alloc_new _ _⟩
      obtain ⟨f6, NP6⟩ := NP6
      clear TN6 bA P5 HT5 HV6 HV hsz5
      generalize w5.alloc (Obj.cells #[Value.int IntKind.i64 T.k, Value.bool T.e, Value.string T.t, Value.slice y5 T.nms.length c5] 32) = w6 at *
      generalize w5.heap.size = C at *
      refine (reachH_any f6 C 0 cy T y L s w6 NP6 HA.out HT6 hL hcy').mono ?_
      rintro e7 w7 ⟨hr, b7⟩
      have P7 : Hid (PuI w G #[Value.int IntKind.i64 ku, Value.bool eu, Value.string tu, Value.slice xu nu cu] w7) := P6.out.on b7
      rcases hr with ⟨hr1, rfl⟩ | ⟨hr1, g', o', m', rfl, hr2, hr3, hr4, hr5, hr6⟩
      · have HR : Hid (putT T p U = ((rchH L T).1, zT)) := by
          show putT T p U = ((rchH L T).1, zT)
          rw [HR0.out]; unfold putN; rw [if_pos hr1]
        clear b7
        generalize (rchH L T).1 = c2 at HR hr1
        obtain ⟨u0, u1, u2, u3, uf⟩ := cell4 (P7.out).1
        have v0 := uf 0
        have v1 := uf 1
        have v2 := uf 2
        have v3 := uf 3
        clear uf
        go_wp2
        have hq := put4 (P7.out).1 (Value.int .i64 0) (.bool false) (.string ⟨#[]⟩) (.slice none 0 0)
        have hB : Below w.heap.size w (w7.setCells (G + 1 + 1) 0 [Value.int .i64 0, .bool false, .string ⟨#[]⟩, .slice none 0 0]) := belowE_setCells _ _ _ (by rw [HG.out]; omega) (by rw [HG.out]; exact (P7.out).2.2.1)
        change bodyPost _ _ _ _ _ (w7.setCells (G + 1 + 1) 0 [Value.int .i64 0, .bool false, .string ⟨#[]⟩, .slice none 0 0])
        generalize w7.setCells (G + 1 + 1) 0 [Value.int .i64 0, .bool false, .string ⟨#[]⟩, .slice none 0 0] = W at *
        obtain ⟨q0, q1, q2, q3, _⟩ := cell4 hq
        exact bodyPost_ret (v := .tuple #[.agg #[.int .i64 0, .bool false, .string ⟨#[]⟩, .slice none 0 0], .int .i64 c2]) (by simp [results, Tryd.results14, go_sem, q0, q1, q2, q3]) rfl (NdP.bad HR.out hB)
      · have HB7 : Hid (Below w6.heap.size w6 w7) := b7
        have HF := TN.focus L C 0 T _ fp g' o' HTN.out.1 HA.out hr6
        obtain ⟨T', v', fp', f1, f2, f3, f4, f5⟩ := HF
        obtain rfl := f4 hr2
        obtain ⟨hg', x1, n1, c2, d0, d1, d2, d3, hAt⟩ := hr4
        obtain ⟨_, j2, j3, j4, j5, _⟩ := hAt.nms
        have hv' : v' = .slice x1 n1 c2 := by have := f1.2.2.2.1; rw [d3] at this; exact (Option.some.inj this).symm
        subst hv'
        obtain rfl : n1 = c2 := TrT.tight L C 0 T _ fp g' o' HTN.out.1.2.2.2.1 HTN.out.2 hr6 x1 n1 c2 d3
        have HF1 : Hid (TN w6 w4.heap.size g' o' (rch L T).2 (.slice x1 n1 n1) fp') := f1
        have HF5 : Hid _ := f5
        have HU : Hid (Up (rch L T).2.nms) := (Tr.up hr5).1
        have HJ : Hid ((rch L T).2.nms.length = n1 ∧ Nms w7 x1 (rch L T).2.nms) := ⟨j2, j5.below b7⟩
        have HNL : Hid (n1 ≤ 1048576 ∧ (rch L T).2.nms.length = (rch L T).2.ks.length) := by
          have h0 := lnB_rch L HLn.out.1
          have h2 := f1.2.2.2.2.1.lenE
          generalize (rch L T).2 = Q at h0 h2 j2
          obtain ⟨_, _, _, nms, ks⟩ := Q
          rw [lnB] at h0
          exact ⟨by rw [← j2]; exact h0.1, h2⟩
        have e3 : w7.cell? ⟨g', o' + 3, none⟩ = some (.slice x1 n1 n1) := by rw [b7.cell (p := ⟨g', o' + 3, none⟩) hg']; exact d3
        have hg7 : g' < w7.heap.size := Nat.lt_of_lt_of_le hg' b7.size
        have HGB : Hid ((∃ D ty, w6.heap[g']? = some (Obj.cells D ty (0, 0))) ∧ w4.heap.size ≤ g' ∧ g' < w6.heap.size ∧ w6.cell? ⟨g', o' + 3, none⟩ = some (.slice x1 n1 n1)) := by
          refine ⟨?_, ?_, hg', d3⟩
          · rcases f3 with ⟨_, rfl, _⟩ | hm
            · obtain ⟨D, hD⟩ := HS6.out.2.2.2
              exact ⟨D, _, hD⟩
            · obtain ⟨D, hD⟩ := TrV.cells _ _ _ HTN.out.1.2.2.2.2.1 _ hm
              exact ⟨D, _, hD⟩
          · rcases f3 with ⟨_, hh, _⟩ | hm
            · have := HS6.out.2.2.1
              omega
            · exact (TrV.lt _ _ _ HTN.out.1.2.2.2.2.1 _ hm).1
        have HRS : Hid (smT (repT L T (putK (rch L T).2 s U)) ∧ lnT (repT L T (putK (rch L T).2 s U)) ∧ putT T p U = putE (repT L T (putK (rch L T).2 s U))) := by
          refine ⟨smT_rep L HH.out.2.1 (smT_put (smT_rch L HH.out.2.1) HH.out.2.2.2.2.1 HSS.out HNL.out.2), lnB_ln (by decide) _ (lnB_rep L (lnB_mono (by decide) _ HLn.out.1) (lnB_put (c := 1048576) (lnB_rch L HLn.out.1) (lnB_mono (by decide) _ HLn.out.2))), ?_⟩
          rw [HR0.out]; unfold putN; rw [if_neg (by rw [hr1]; decide)]
        clear f1 f5 d0 d1 d2 d3 hAt j2 j3 j5 b7 hr5 hr6 HT6 NP6
        go_wp2_with fail
        refine (find_any x1 n1 n1 (rch L T).2.nms s w7 HJ.out.1 j4 HJ.out.2 (HU.out.mono s)).mono ?_
        rintro e8 w8 ⟨⟨i, r, rfl, h1, h2⟩, b8⟩
        have P8 : Hid (PuI w G #[Value.int IntKind.i64 ku, Value.bool eu, Value.string tu, Value.slice xu nu cu] w8) := P7.out.on b8
        have HB8 : Hid (Below w6.heap.size w6 w8) := HB7.out.trans (b8.mono HB7.out.size)
        have e8 : w8.cell? ⟨g', o' + 3, none⟩ = some (.slice x1 n1 n1) := by rw [b8.cell (p := ⟨g', o' + 3, none⟩) hg7]; exact e3
        have hg8 : g' < w8.heap.size := Nat.lt_of_lt_of_le hg7 b8.size
        have V8 := TrV.same (w' := w8) _ _ _ HF1.out.2.2.2.2.1 (fun b hb => HB8.out.block b (TrV.lt _ _ _ HF1.out.2.2.2.2.1 b hb).2)
        cases r
        · have hfn := h1.none HU.out (fun hc => by have := h2.2 ⟨by rw [← HJ.out.1]; exact hc.1, hc.2⟩; cases this)
          have hpos := h1.pos
          have hile := h1.le
          have hpk : Hid (insK (rch L T).2 i s U = putK (rch L T).2 s U) := by
            show insK (rch L T).2 i s U = putK (rch L T).2 s U
            unfold putK; rw [hfn, hpos]
          have hin : i ≤ n1 := by rw [← HJ.out.1]; exact hile
          have HW8 : Hid (w4.heap.size ≤ w8.heap.size ∧ w6.heap.size ≤ w8.heap.size) := by
            have q1 := HS6.out.1
            have q2 := HS6.out.2.2.1
            have q3 := HB8.out.size
            exact ⟨by omega, q3⟩
          have HV8 : Hid (TrV w8 w4.heap.size (rch L T).2 (.slice x1 n1 n1) fp') := V8
          clear V8 h1 h2 b8 e3 hg7 hfn hpos
          go_wp2_with fail
          have bE : Below w8.heap.size w8 (w8.alloc (Obj.cells #[Value.string s, Value.int IntKind.i64 0, Value.bool false, Value.string ⟨#[]⟩, Value.slice none 0 0] 52)) := (Below.refl _ _).alloc (Nat.le_refl _) _
          have hcE : ∀ j u, (entV s zT (.slice none 0 0))[j]? = some u → (w8.alloc (Obj.cells #[Value.string s, Value.int IntKind.i64 0, Value.bool false, Value.string ⟨#[]⟩, Value.slice none 0 0] 52)).cell? ⟨w8.heap.size, j, none⟩ = some u := fun j u hj => by rw [World.cell?_alloc_new, ← Array.getElem?_toList]; exact hj
          have PE : Hid (PuI w G #[Value.int IntKind.i64 ku, Value.bool eu, Value.string tu, Value.slice xu nu cu] (w8.alloc (Obj.cells #[Value.string s, Value.int IntKind.i64 0, Value.bool false, Value.string ⟨#[]⟩, Value.slice none 0 0] 52))) := P8.out.on bE
          have HBE : Hid (Below w8.heap.size w8 (w8.alloc (Obj.cells #[Value.string s, Value.int IntKind.i64 0, Value.bool false, Value.string ⟨#[]⟩, Value.slice none 0 0] 52)) ∧ w8.heap.size < (w8.alloc (Obj.cells #[Value.string s, Value.int IntKind.i64 0, Value.bool false, Value.string ⟨#[]⟩, Value.slice none 0 0] 52)).heap.size) := ⟨bE, by rw [World.size_alloc]; omega⟩
          clear bE
          generalize w8.alloc (Obj.cells #[Value.string s, Value.int IntKind.i64 0, Value.bool false, Value.string ⟨#[]⟩, Value.slice none 0 0] 52) = wE at *
          obtain ⟨VE, hVE⟩ : ∃ VE, w8.heap.size = VE := ⟨_, rfl⟩
          rw [hVE] at hcE ⊢
          have VEE := TrV.same (w' := wE) _ _ _ HV8.out (fun b hb => HBE.out.1.block b (TrV.lt _ _ _ HV8.out b hb).2)
          have hwE : w4.heap.size ≤ wE.heap.size := by have := HBE.out.1.size; have := HW8.out.1; omega
          obtain ⟨cs, hl0, hO, hone, hIns⟩ := TrV.ins (w := wE) (s := s) (i := i) VEE HF1.out.2.2.2.2.2.1 (by rw [HJ.out.1]; exact hin) hwE
          refine (insert_any x1 n1 i VE cs (entV s zT (.slice none 0 0)) _ wE hO hone hin (by have := HNL.out.1; omega) rfl hcE (by intro u hu; simp [ent_zero] at hu; rcases hu with rfl | rfl | rfl | rfl | rfl <;> rfl)).mono ?_
          rintro e9 w9 ⟨cap, rfl, hrow, b9⟩
          obtain ⟨fp1, hV9, hn9, hsub9⟩ := hIns _ _ hrow b9
          obtain ⟨q, hq⟩ : ∃ q, wE.heap.size = q := ⟨_, rfl⟩
          rw [hq] at hV9 ⊢
          have H9 : ∀ b, b < w6.heap.size → w9.heap[b]? = w6.heap[b]? := fun b hb => by
            have q1 := HW8.out.2
            have q2 := HBE.out.1.size
            exact (b9.block b (by omega)).trans ((HBE.out.1.block b (by omega)).trans (HB8.out.block b hb))
          obtain ⟨⟨D, ty, hD⟩, hgB, hg6, hc6⟩ := HGB.out
          have hD9 : w9.heap[g']? = some (Obj.cells D ty (0, 0)) := (H9 g' hg6).trans hD
          have hfz : w9.frozen? ⟨g', o' + 3, none⟩ = false := by unfold World.frozen?; rw [hD9]; simp
          have e9 : w9.cell? ⟨g', o' + 3, none⟩ = some (.slice x1 n1 n1) := (cell_same ((H9 g' hg6))).trans hc6
          have hs9 : w6.heap.size ≤ w9.heap.size := by
            have q1 := HW8.out.2
            have q2 := HBE.out.1.size
            have q3 := b9.size
            omega
          have hgq : g' ≠ q := by
            have q1 := HW8.out.2
            have q2 := HBE.out.1.size
            omega
          have hgf : g' ∉ fp1 := fun hm => by
            rcases hsub9 g' hm with hm | hm
            · exact HF1.out.2.2.2.2.2.2 hm
            · have q1 := HW8.out.2
              have q2 := HBE.out.1.size
              omega
          have P9 : PuI w G #[Value.int IntKind.i64 ku, Value.bool eu, Value.string tu, Value.slice xu nu cu] w9 := PE.out.on b9
          have hat := insK_at (T := (rch L T).2) (i := i) (by rw [HJ.out.1]; exact hin) HNL.out.2 s zT
          have hset := setK_ins (T := (rch L T).2) (i := i) (by rw [← HNL.out.2, HJ.out.1]; exact hin) s zT U
          rw [hpk.out] at hset
          have HT1 : Hid (TrV (w9.setCell ⟨g', o' + 3, none⟩ (.slice (some ⟨q, 0, none⟩) (n1 + 1) cap)) w4.heap.size (insK (rch L T).2 i s zT) (.slice (some ⟨q, 0, none⟩) (n1 + 1) cap) fp1 ∧ fp1.Nodup ∧ (∀ b ∈ fp1, b ∈ fp' ∨ w6.heap.size ≤ b) ∧ g' ∉ fp1) := ⟨TrV.same _ _ _ hV9 (fun b hb => Below.heap_setCell _ ⟨g', o' + 3, none⟩ _ b (fun hh => hgf (by rw [← show b = g' from hh]; exact hb))), hn9, fun b hb => by
            rcases hsub9 b hb with hm | hm
            · exact .inl hm
            · have q1 := HW8.out.2
              have q2 := HBE.out.1.size
              exact .inr (by omega), hgf⟩
          have HI1 : Hid ((insK (rch L T).2 i s zT).nms[i]? = some s ∧ (insK (rch L T).2 i s zT).ks[i]? = some zT ∧ setK (insK (rch L T).2 i s zT) i U = putK (rch L T).2 s U) := ⟨hat.1, hat.2, hset⟩
          have HFR : Hid ((∀ b, b < w6.heap.size → b ∉ fp' → b ≠ g' → (w9.setCell ⟨g', o' + 3, none⟩ (.slice (some ⟨q, 0, none⟩) (n1 + 1) cap)).heap[b]? = w6.heap[b]?) ∧ w6.heap.size ≤ (w9.setCell ⟨g', o' + 3, none⟩ (.slice (some ⟨q, 0, none⟩) (n1 + 1) cap)).heap.size ∧ (w9.setCell ⟨g', o' + 3, none⟩ (.slice (some ⟨q, 0, none⟩) (n1 + 1) cap)).heap[g']? = (w6.setCell ⟨g', o' + 3, none⟩ (.slice (some ⟨q, 0, none⟩) (n1 + 1) cap)).heap[g']?) := ⟨fun b hb _ hbg => (Below.heap_setCell _ ⟨g', o' + 3, none⟩ _ b hbg).trans (H9 b hb), by rw [World.size_setCell]; exact hs9, by rw [Go.Joins.block_setCell (i := o' + 3) hD9 _, Go.Joins.block_setCell (i := o' + 3) hD _]⟩
          have hGg : G + 1 + 1 + 1 < g' := by have := HS6.out.2.1; omega
          have P10 : Hid (PuI w G #[Value.int IntKind.i64 ku, Value.bool eu, Value.string tu, Value.slice xu nu cu] (w9.setCell ⟨g', o' + 3, none⟩ (.slice (some ⟨q, 0, none⟩) (n1 + 1) cap))) := P9.keep (Below.heap_setCell _ ⟨g', o' + 3, none⟩ _ _ (by show G + 1 ≠ g'; omega)) (Below.heap_setCell _ ⟨g', o' + 3, none⟩ _ _ (by show G + 1 + 1 ≠ g'; omega)) (by rw [World.size_setCell]; exact Nat.le_refl _) ((Below.refl _ _).setCell (by show G ≤ g'; omega) _)
          have e10 : (w9.setCell ⟨g', o' + 3, none⟩ (.slice (some ⟨q, 0, none⟩) (n1 + 1) cap)).cell? ⟨g', o' + 3, none⟩ = some (.slice (some ⟨q, 0, none⟩) (n1 + 1) cap) := World.cell?_setCell_same _ _ _ e9
          have hg10 : g' < (w9.setCell ⟨g', o' + 3, none⟩ (.slice (some ⟨q, 0, none⟩) (n1 + 1) cap)).heap.size := by rw [World.size_setCell]; omega
          have HX : Hid (g' ≠ q ∧ G + 1 + 1 + 1 < g' ∧ n1 + 1 ≤ 1048577) := ⟨hgq, hGg, by have := HNL.out.1; omega⟩
          clear hat hset hV9 hn9 hsub9 hgf P9 H9 hD hD9 hc6 hs9 hIns hrow b9 hO hone VEE hcE HBE PE HV8 HW8 hpk
          go_upto_region 13 with fail
          clear e9 hfz e8
          generalize w9.setCell ⟨g', o' + 3, none⟩ (.slice (some ⟨q, 0, none⟩) (n1 + 1) cap) = W9 at *
          have hiN : i < n1 + 1 := by omega
          generalize n1 + 1 = N1 at *
          generalize insK (rch L T).2 i s zT = T1 at *
          generalize zT = K0 at HI1
          have HA9 : Hid (At W9 mu (.agg #[Value.int IntKind.i64 ku, Value.bool eu, Value.string tu, Value.slice xu nu cu]) U) := HH.out.2.2.2.1.below (by rw [HG.out]; exact P10.out.2.2.1)
          obtain ⟨a0, a1, a2, a3, _⟩ := cell4 P10.out.2.2.2
          obtain ⟨gq, capq, uq, fkq, hvq, _, hqm, hcq, _, _⟩ := HT1.out.1.get i s K0 HI1.out.1 HI1.out.2.1
          obtain rfl : gq = q := by
            injection hvq with h0
            injection h0 with h0
            injection h0 with h0
            exact h0.symm
          have k1 : W9.cell? ⟨gq, i * 5 + 1, none⟩ = some (.int .i64 K0.k) := hcq 1 (by omega)
          have k2 : W9.cell? ⟨gq, i * 5 + 2, none⟩ = some (.bool K0.e) := hcq 2 (by omega)
          have k3 : W9.cell? ⟨gq, i * 5 + 3, none⟩ = some (.string K0.t) := hcq 3 (by omega)
          have k4 : W9.cell? ⟨gq, i * 5 + 4, none⟩ = some uq := hcq 4 (by omega)
          have l1 := HT1.out.1.unfrozen gq (i * 5 + 1) hqm
          have l2 := HT1.out.1.unfrozen gq (i * 5 + 2) hqm
          have l3 := HT1.out.1.unfrozen gq (i * 5 + 3) hqm
          have l4 := HT1.out.1.unfrozen gq (i * 5 + 4) hqm
          have hqW := TrV.lt _ _ _ HT1.out.1 gq hqm
          have HQB : Hid (gq ∈ fp1 ∧ w4.heap.size ≤ gq ∧ gq < W9.heap.size) := ⟨hqm, hqW⟩
          have hqw : gq < W9.heap.size := hqW.2
          have n1' : gq ≠ G + 1 := by have := HS6.out.2.1; omega
          have n2' : G + 1 ≠ gq := Ne.symm n1'
          have n3' : g' ≠ gq := HX.out.1
          have n4' : gq ≠ g' := Ne.symm n3'
          have hzG : G + 1 < W9.heap.size := by have := P10.out.2.1; omega
          have hDr : Below W9.heap.size W9 W9.drew := (Below.refl _ _).drew
          have hN0 : N1 ≤ 9223372036854775807 := by have := HX.out.2.2; omega
          clear hcq hqm hqW hvq
          go_region_held3 (fun W => W.cell? ⟨G + 1, 0, none⟩ = some (.int .i64 ku) ∧ W.cell? ⟨G + 1, 1, none⟩ = some (.bool eu) ∧ W.cell? ⟨G + 1, 2, none⟩ = some (.string tu) ∧ W.cell? ⟨G + 1, 3, none⟩ = some (.slice xu nu cu) ∧ W.cell? ⟨g', o' + 3, none⟩ = some (.slice (some ⟨gq, 0, none⟩) N1 cap))
            (first
              | go_keep
              | (refine ⟨(b5.cell (p := ⟨G + 1, 0, none⟩) hzG).trans a0, (b5.cell (p := ⟨G + 1, 1, none⟩) hzG).trans a1, (b5.cell (p := ⟨G + 1, 2, none⟩) hzG).trans a2, (b5.cell (p := ⟨G + 1, 3, none⟩) hzG).trans a3, (b5.cell (p := ⟨g', o' + 3, none⟩) hg10).trans e10⟩))
            (first
              | (go_at_call 28
                 refine (copyV_any mu _ U W9.drew (HA9.out.below hDr)).mono ?_
                 rintro e5 w5 ⟨⟨v5, fp5, rfl, hv5, hnd⟩, b5⟩
                 obtain ⟨x5, q5, rfl⟩ := hv5.shape
                 have m1 : w5.cell? ⟨gq, i * 5 + 1, none⟩ = some (.int .i64 K0.k) := (b5.cell (p := ⟨gq, i * 5 + 1, none⟩) hqw).trans k1
                 have m2 : w5.cell? ⟨gq, i * 5 + 2, none⟩ = some (.bool K0.e) := (b5.cell (p := ⟨gq, i * 5 + 2, none⟩) hqw).trans k2
                 have m3 : w5.cell? ⟨gq, i * 5 + 3, none⟩ = some (.string K0.t) := (b5.cell (p := ⟨gq, i * 5 + 3, none⟩) hqw).trans k3
                 have m4 : w5.cell? ⟨gq, i * 5 + 4, none⟩ = some uq := (b5.cell (p := ⟨gq, i * 5 + 4, none⟩) hqw).trans k4
                 have o1 : w5.frozen? ⟨gq, i * 5 + 1, none⟩ = false := (b5.frozen (p := ⟨gq, i * 5 + 1, none⟩) hqw).trans l1
                 have o2 : w5.frozen? ⟨gq, i * 5 + 2, none⟩ = false := (b5.frozen (p := ⟨gq, i * 5 + 2, none⟩) hqw).trans l2
                 have o3 : w5.frozen? ⟨gq, i * 5 + 3, none⟩ = false := (b5.frozen (p := ⟨gq, i * 5 + 3, none⟩) hqw).trans l3
                 have o4 : w5.frozen? ⟨gq, i * 5 + 4, none⟩ = false := (b5.frozen (p := ⟨gq, i * 5 + 4, none⟩) hqw).trans l4))
          have hB5 : Below W9.heap.size W9 w5 := hDr.trans b5
          obtain ⟨fp2, hV11, hn11, hsub11, _⟩ := TrV.put (S := U) (TrV.same (w' := W9.drew) _ _ _ HT1.out.1 (fun _ _ => rfl)) HT1.out.2.1 HI1.out.1 HI1.out.2.1 b5 hv5 hnd (by show w4.heap.size ≤ W9.heap.size; have := HQB.out.2; omega)
          rw [HI1.out.2.2] at hV11
          have HW11 : ∀ b, b < W9.heap.size → b ≠ gq → (w5.setCells gq (i * 5 + 1) [.int .i64 U.k, .bool U.e, .string U.t, .slice x5 U.nms.length q5]).heap[b]? = W9.heap[b]? := fun b hb hbq => (heapE_setCells gq _ _ b hbq _).trans (hB5.block b hb)
          have hhd := putK_hd (rch L T).2 s U
          have hs6 := HFR.out.2.1
          have F := HF5.out (w5.setCells gq (i * 5 + 1) [.int .i64 U.k, .bool U.e, .string U.t, .slice x5 U.nms.length q5]) (putK (rch L T).2 s U) (.slice (some ⟨gq, 0, none⟩) N1 cap) fp2 hhd.1 hhd.2.1 hhd.2.2 hV11 hn11 (fun b hb => by
            rcases hsub11 b hb with hm | hm
            · exact HT1.out.2.2.1 b hm
            · have hm' : W9.heap.size ≤ b := hm
              exact .inr (by omega)) (fun b hb hbf hbg => (HW11 b (by omega) (fun hh => by
                rcases HT1.out.2.2.1 gq HQB.out.1 with hm | hm
                · exact hbf (by rw [hh]; exact hm)
                · omega)).trans (HFR.out.1 b hb hbf hbg)) ((HW11 g' hg10 n3').trans HFR.out.2.2)
          obtain ⟨vE, fpE, tn, _⟩ := F
          obtain ⟨yE, cE, rfl⟩ := tn.2.2.2.2.1.shape
          have P11 : Hid (PuI w G #[Value.int IntKind.i64 ku, Value.bool eu, Value.string tu, Value.slice xu nu cu] (w5.setCells gq (i * 5 + 1) [.int .i64 U.k, .bool U.e, .string U.t, .slice x5 U.nms.length q5])) := (P10.out.on hB5).keep (heapE_setCells gq _ _ _ n2' _) (heapE_setCells gq _ _ _ (by have := HS6.out.2.1; have := HQB.out.2.1; omega) _) (by rw [sizeE_setCells]; exact Nat.le_refl _) (belowE_setCells _ _ _ (by have := HS6.out.2.1; have := HQB.out.2.1; omega) (Below.refl _ _))
          have HE : Hid (TN (w5.setCells gq (i * 5 + 1) [.int .i64 U.k, .bool U.e, .string U.t, .slice x5 U.nms.length q5]) w4.heap.size C 0 (repT L T (putK (rch L T).2 s U)) (.slice yE (repT L T (putK (rch L T).2 s U)).nms.length cE) fpE) := tn
          have HG4 : Hid (G + 1 + 1 + 1 < w4.heap.size) := HS6.out.2.1
          change Exit.then _ _ Exit.normal _ (w5.setCells gq (i * 5 + 1) [.int .i64 U.k, .bool U.e, .string U.t, .slice x5 U.nms.length q5])
          clear tn hV11 hn11 hsub11 HW11 b5 hv5 hnd m1 m2 m3 m4 o1 o2 o3 o4 hB5 HT1 HFR a0 a1 a2 a3 k1 k2 k3 k4 l1 l2 l3 l4 e10 HA9 hDr
          generalize w5.setCells gq (i * 5 + 1) [.int .i64 U.k, .bool U.e, .string U.t, .slice x5 U.nms.length q5] = W11 at *
          generalize repT L T (putK (rch L T).2 s U) = R at HE HRS
          obtain ⟨f11, hA11⟩ := TrV.at R _ _ HE.out.2.2.2.2.1 HRS.out.2.1
          have HAR : Hid (At W11 f11 (.agg #[.int .i64 R.k, .bool R.e, .string R.t, .slice yE R.nms.length cE]) R) := hA11
          obtain ⟨m0, m1, m2, m3, _⟩ := HE.out
          simp only [Nat.zero_add] at m1 m2 m3
          have hC11 : C < W11.heap.size := cell_lt m0
          clear hA11
          generalize q1 : R.k = rk at m0 HAR
          generalize q2 : R.e = re at m1 HAR
          generalize q3 : R.t = rt at m2 HAR
          generalize q4 : R.nms.length = rn at m3 HAR HE
          have HQR : Hid (R.k = rk ∧ R.e = re ∧ R.t = rt) := ⟨q1, q2, q3⟩
          clear q1 q2 q3 q4
          go_wp2_with fail
          refine (check_tree f11 _ R W11 HAR.out HRS.out.1).mono ?_
          rintro e12 w12 ⟨rfl, b12⟩
          have P12 : Hid (PuI w G #[Value.int IntKind.i64 ku, Value.bool eu, Value.string tu, Value.slice xu nu cu] w12) := P11.out.on b12
          have r0 := (b12.cell (p := ⟨C, 0, none⟩) hC11).trans m0
          have r1 := (b12.cell (p := ⟨C, 1, none⟩) hC11).trans m1
          have r2 := (b12.cell (p := ⟨C, 2, none⟩) hC11).trans m2
          have r3 := (b12.cell (p := ⟨C, 3, none⟩) hC11).trans m3
          have HVE : Hid (TrV w12 w4.heap.size R (.slice yE rn cE) fpE ∧ fpE.Nodup) := ⟨TrV.same _ _ _ HE.out.2.2.2.2.1 (fun b hb => b12.block b (TrV.lt _ _ _ HE.out.2.2.2.2.1 b hb).2), HE.out.2.2.2.2.2.1⟩
          have HPE : Hid (putT T p U = putE R) := HRS.out.2.2
          have HPD : Hid (putE R = if (ckT R).2 ≠ 0 then ((ckT R).2, zT) else (0, R)) := rfl
          generalize (ckT R).1 = pd
          generalize (ckT R).2 = cd at HPD ⊢
          clear m0 m1 m2 m3 b12 hC11 HAR HE P11 HRS
          by_cases hcz : cd = 0
          · subst hcz
            obtain ⟨u0, u1, u2, u3, uf⟩ := cell4 P12.out.1
            have v0 := uf 0
            have v1 := uf 1
            have v2 := uf 2
            have v3 := uf 3
            clear uf
            go_wp2
            have hq := put4 P12.out.1 (Value.int .i64 rk) (.bool re) (.string rt) (.slice yE rn cE)
            have hB : Below w.heap.size w (w12.setCells (G + 1 + 1) 0 [Value.int .i64 rk, .bool re, .string rt, .slice yE rn cE]) := belowE_setCells _ _ _ (by rw [HG.out]; omega) (by rw [HG.out]; exact P12.out.2.2.1)
            have hVE := TrV.low (show w.heap.size ≤ w4.heap.size by rw [HG.out]; have := HG4.out; omega) _ _ _ (TrV.same (w' := w12.setCells (G + 1 + 1) 0 [Value.int .i64 rk, .bool re, .string rt, .slice yE rn cE]) _ _ _ HVE.out.1 (fun b hb => heapE_setCells (G + 1 + 1) _ _ b (fun hh => by have := (TrV.lt _ _ _ HVE.out.1 b hb).1; have := HG4.out; omega) w12))
            change bodyPost _ _ _ _ _ (w12.setCells (G + 1 + 1) 0 [Value.int .i64 rk, .bool re, .string rt, .slice yE rn cE])
            generalize w12.setCells (G + 1 + 1) 0 [Value.int .i64 rk, .bool re, .string rt, .slice yE rn cE] = W at *
            obtain ⟨z0, z1, z2, z3, _⟩ := cell4 hq
            refine bodyPost_ret (v := .tuple #[.agg #[.int .i64 rk, .bool re, .string rt, .slice yE rn cE], .int .i64 0]) (by simp [results, Tryd.results14, go_sem, z0, z1, z2, z3]) rfl ?_
            rw [← HQR.out.1, ← HQR.out.2.1, ← HQR.out.2.2]
            exact NdP.ok (by rw [HPE.out, HPD.out, if_neg (by decide)]) hVE HVE.out.2 hB
          · have HR : Hid (putT T p U = (cd, zT)) := by
              show putT T p U = (cd, zT)
              rw [HPE.out, HPD.out, if_pos hcz]
            obtain ⟨u0, u1, u2, u3, uf⟩ := cell4 (P12.out).1
            have v0 := uf 0
            have v1 := uf 1
            have v2 := uf 2
            have v3 := uf 3
            clear uf
            go_wp2
            have hq := put4 (P12.out).1 (Value.int .i64 0) (.bool false) (.string ⟨#[]⟩) (.slice none 0 0)
            have hB : Below w.heap.size w (w12.setCells (G + 1 + 1) 0 [Value.int .i64 0, .bool false, .string ⟨#[]⟩, .slice none 0 0]) := belowE_setCells _ _ _ (by rw [HG.out]; omega) (by rw [HG.out]; exact (P12.out).2.2.1)
            change bodyPost _ _ _ _ _ (w12.setCells (G + 1 + 1) 0 [Value.int .i64 0, .bool false, .string ⟨#[]⟩, .slice none 0 0])
            generalize w12.setCells (G + 1 + 1) 0 [Value.int .i64 0, .bool false, .string ⟨#[]⟩, .slice none 0 0] = W at *
            obtain ⟨q0, q1, q2, q3, _⟩ := cell4 hq
            exact bodyPost_ret (v := .tuple #[.agg #[.int .i64 0, .bool false, .string ⟨#[]⟩, .slice none 0 0], .int .i64 cd]) (by simp [results, Tryd.results14, go_sem, q0, q1, q2, q3]) rfl (NdP.bad HR.out hB)
        · obtain ⟨hi, hc⟩ := h2.1 rfl
          have hi' : i < (rch L T).2.nms.length := by rw [HJ.out.1]; exact hi
          have hs1 : (rch L T).2.nms[i]? = some s := by rw [List.getElem?_eq_getElem hi', ← cmpB_eq hc, nmA_of (List.getElem?_eq_getElem hi')]
          obtain ⟨K0, hK0⟩ : ∃ K0, (rch L T).2.ks[i]? = some K0 := ⟨_, List.getElem?_eq_getElem (by rw [← HNL.out.2]; exact hi')⟩
          have hset : setK (rch L T).2 i U = putK (rch L T).2 s U := by unfold putK; rw [HU.out.find hs1]
          obtain ⟨q, cap, u0, fk0, hvq, _, _, hqf, _, _⟩ := HF1.out.level i s K0 hs1 hK0
          have hx : x1 = some ⟨q, 0, none⟩ ∧ n1 = cap := by
            injection hvq with a b c
            exact ⟨a, c⟩
          obtain ⟨rfl, rfl⟩ := hx
          obtain ⟨⟨D, ty, hD⟩, hgB, hg6, hc6⟩ := HGB.out
          have hgq : g' ≠ q := fun hh => HF1.out.2.2.2.2.2.2 (by rw [hh]; exact hqf)
          have hGg : G + 1 + 1 + 1 < g' := by have := HS6.out.2.1; omega
          have HT1 : Hid (TrV w8 w4.heap.size (rch L T).2 (.slice (some ⟨q, 0, none⟩) n1 n1) fp' ∧ fp'.Nodup ∧ (∀ b ∈ fp', b ∈ fp' ∨ w6.heap.size ≤ b) ∧ g' ∉ fp') := ⟨V8, HF1.out.2.2.2.2.2.1, fun b hb => .inl hb, HF1.out.2.2.2.2.2.2⟩
          have HI1 : Hid ((rch L T).2.nms[i]? = some s ∧ (rch L T).2.ks[i]? = some K0 ∧ setK (rch L T).2 i U = putK (rch L T).2 s U) := ⟨hs1, hK0, hset⟩
          have HFR : Hid ((∀ b, b < w6.heap.size → b ∉ fp' → b ≠ g' → w8.heap[b]? = w6.heap[b]?) ∧ w6.heap.size ≤ w8.heap.size ∧ w8.heap[g']? = (w6.setCell ⟨g', o' + 3, none⟩ (.slice (some ⟨q, 0, none⟩) n1 n1)).heap[g']?) := ⟨fun b hb _ _ => HB8.out.block b hb, HB8.out.size, by rw [set_held hD hc6]; exact HB8.out.block g' hg6⟩
          have P10 : Hid (PuI w G #[Value.int IntKind.i64 ku, Value.bool eu, Value.string tu, Value.slice xu nu cu] w8) := P8.out
          have HX : Hid (g' ≠ q ∧ G + 1 + 1 + 1 < g' ∧ n1 ≤ 1048577) := ⟨hgq, hGg, by have := HNL.out.1; omega⟩
          have e10 := e8
          have hg10 := hg8
          have hiN : i < n1 := hi
          clear hs1 hK0 hset hvq hqf hD hc6 hi' hi hc V8 h1 h2 b8 e3 hg7 e8 hg8 P8
          go_upto_region 13 with fail
          have HA9 : Hid (At w8 mu (.agg #[Value.int IntKind.i64 ku, Value.bool eu, Value.string tu, Value.slice xu nu cu]) U) := HH.out.2.2.2.1.below (by rw [HG.out]; exact P10.out.2.2.1)
          obtain ⟨a0, a1, a2, a3, _⟩ := cell4 P10.out.2.2.2
          obtain ⟨gq, capq, uq, fkq, hvq, _, hqm, hcq, _, _⟩ := HT1.out.1.get i s K0 HI1.out.1 HI1.out.2.1
          obtain rfl : gq = q := by
            injection hvq with h0
            injection h0 with h0
            injection h0 with h0
            exact h0.symm
          have k1 : w8.cell? ⟨gq, i * 5 + 1, none⟩ = some (.int .i64 K0.k) := hcq 1 (by omega)
          have k2 : w8.cell? ⟨gq, i * 5 + 2, none⟩ = some (.bool K0.e) := hcq 2 (by omega)
          have k3 : w8.cell? ⟨gq, i * 5 + 3, none⟩ = some (.string K0.t) := hcq 3 (by omega)
          have k4 : w8.cell? ⟨gq, i * 5 + 4, none⟩ = some uq := hcq 4 (by omega)
          have l1 := HT1.out.1.unfrozen gq (i * 5 + 1) hqm
          have l2 := HT1.out.1.unfrozen gq (i * 5 + 2) hqm
          have l3 := HT1.out.1.unfrozen gq (i * 5 + 3) hqm
          have l4 := HT1.out.1.unfrozen gq (i * 5 + 4) hqm
          have hqW := TrV.lt _ _ _ HT1.out.1 gq hqm
          have HQB : Hid (gq ∈ fp' ∧ w4.heap.size ≤ gq ∧ gq < w8.heap.size) := ⟨hqm, hqW⟩
          have hqw : gq < w8.heap.size := hqW.2
          have n1' : gq ≠ G + 1 := by have := HS6.out.2.1; omega
          have n2' : G + 1 ≠ gq := Ne.symm n1'
          have n3' : g' ≠ gq := HX.out.1
          have n4' : gq ≠ g' := Ne.symm n3'
          have hzG : G + 1 < w8.heap.size := by have := P10.out.2.1; omega
          have hDr : Below w8.heap.size w8 w8.drew := (Below.refl _ _).drew
          have hN0 : n1 ≤ 9223372036854775807 := by have := HX.out.2.2; omega
          clear hcq hqm hqW hvq
          go_region_held3 (fun W => W.cell? ⟨G + 1, 0, none⟩ = some (.int .i64 ku) ∧ W.cell? ⟨G + 1, 1, none⟩ = some (.bool eu) ∧ W.cell? ⟨G + 1, 2, none⟩ = some (.string tu) ∧ W.cell? ⟨G + 1, 3, none⟩ = some (.slice xu nu cu) ∧ W.cell? ⟨g', o' + 3, none⟩ = some (.slice (some ⟨gq, 0, none⟩) n1 n1))
            (first
              | go_keep
              | (refine ⟨(b5.cell (p := ⟨G + 1, 0, none⟩) hzG).trans a0, (b5.cell (p := ⟨G + 1, 1, none⟩) hzG).trans a1, (b5.cell (p := ⟨G + 1, 2, none⟩) hzG).trans a2, (b5.cell (p := ⟨G + 1, 3, none⟩) hzG).trans a3, (b5.cell (p := ⟨g', o' + 3, none⟩) hg10).trans e10⟩))
            (first
              | (go_at_call 28
                 refine (copyV_any mu _ U w8.drew (HA9.out.below hDr)).mono ?_
                 rintro e5 w5 ⟨⟨v5, fp5, rfl, hv5, hnd⟩, b5⟩
                 obtain ⟨x5, q5, rfl⟩ := hv5.shape
                 have m1 : w5.cell? ⟨gq, i * 5 + 1, none⟩ = some (.int .i64 K0.k) := (b5.cell (p := ⟨gq, i * 5 + 1, none⟩) hqw).trans k1
                 have m2 : w5.cell? ⟨gq, i * 5 + 2, none⟩ = some (.bool K0.e) := (b5.cell (p := ⟨gq, i * 5 + 2, none⟩) hqw).trans k2
                 have m3 : w5.cell? ⟨gq, i * 5 + 3, none⟩ = some (.string K0.t) := (b5.cell (p := ⟨gq, i * 5 + 3, none⟩) hqw).trans k3
                 have m4 : w5.cell? ⟨gq, i * 5 + 4, none⟩ = some uq := (b5.cell (p := ⟨gq, i * 5 + 4, none⟩) hqw).trans k4
                 have o1 : w5.frozen? ⟨gq, i * 5 + 1, none⟩ = false := (b5.frozen (p := ⟨gq, i * 5 + 1, none⟩) hqw).trans l1
                 have o2 : w5.frozen? ⟨gq, i * 5 + 2, none⟩ = false := (b5.frozen (p := ⟨gq, i * 5 + 2, none⟩) hqw).trans l2
                 have o3 : w5.frozen? ⟨gq, i * 5 + 3, none⟩ = false := (b5.frozen (p := ⟨gq, i * 5 + 3, none⟩) hqw).trans l3
                 have o4 : w5.frozen? ⟨gq, i * 5 + 4, none⟩ = false := (b5.frozen (p := ⟨gq, i * 5 + 4, none⟩) hqw).trans l4))
          have hB5 : Below w8.heap.size w8 w5 := hDr.trans b5
          obtain ⟨fp2, hV11, hn11, hsub11, _⟩ := TrV.put (S := U) (TrV.same (w' := w8.drew) _ _ _ HT1.out.1 (fun _ _ => rfl)) HT1.out.2.1 HI1.out.1 HI1.out.2.1 b5 hv5 hnd (by show w4.heap.size ≤ w8.heap.size; have := HQB.out.2; omega)
          rw [HI1.out.2.2] at hV11
          have HW11 : ∀ b, b < w8.heap.size → b ≠ gq → (w5.setCells gq (i * 5 + 1) [.int .i64 U.k, .bool U.e, .string U.t, .slice x5 U.nms.length q5]).heap[b]? = w8.heap[b]? := fun b hb hbq => (heapE_setCells gq _ _ b hbq _).trans (hB5.block b hb)
          have hhd := putK_hd (rch L T).2 s U
          have hs6 := HFR.out.2.1
          have F := HF5.out (w5.setCells gq (i * 5 + 1) [.int .i64 U.k, .bool U.e, .string U.t, .slice x5 U.nms.length q5]) (putK (rch L T).2 s U) (.slice (some ⟨gq, 0, none⟩) n1 n1) fp2 hhd.1 hhd.2.1 hhd.2.2 hV11 hn11 (fun b hb => by
            rcases hsub11 b hb with hm | hm
            · exact HT1.out.2.2.1 b hm
            · have hm' : w8.heap.size ≤ b := hm
              exact .inr (by omega)) (fun b hb hbf hbg => (HW11 b (by omega) (fun hh => by
                rcases HT1.out.2.2.1 gq HQB.out.1 with hm | hm
                · exact hbf (by rw [hh]; exact hm)
                · omega)).trans (HFR.out.1 b hb hbf hbg)) ((HW11 g' hg10 n3').trans HFR.out.2.2)
          obtain ⟨vE, fpE, tn, _⟩ := F
          obtain ⟨yE, cE, rfl⟩ := tn.2.2.2.2.1.shape
          have P11 : Hid (PuI w G #[Value.int IntKind.i64 ku, Value.bool eu, Value.string tu, Value.slice xu nu cu] (w5.setCells gq (i * 5 + 1) [.int .i64 U.k, .bool U.e, .string U.t, .slice x5 U.nms.length q5])) := (P10.out.on hB5).keep (heapE_setCells gq _ _ _ n2' _) (heapE_setCells gq _ _ _ (by have := HS6.out.2.1; have := HQB.out.2.1; omega) _) (by rw [sizeE_setCells]; exact Nat.le_refl _) (belowE_setCells _ _ _ (by have := HS6.out.2.1; have := HQB.out.2.1; omega) (Below.refl _ _))
          have HE : Hid (TN (w5.setCells gq (i * 5 + 1) [.int .i64 U.k, .bool U.e, .string U.t, .slice x5 U.nms.length q5]) w4.heap.size C 0 (repT L T (putK (rch L T).2 s U)) (.slice yE (repT L T (putK (rch L T).2 s U)).nms.length cE) fpE) := tn
          have HG4 : Hid (G + 1 + 1 + 1 < w4.heap.size) := HS6.out.2.1
          change Exit.then _ _ Exit.normal _ (w5.setCells gq (i * 5 + 1) [.int .i64 U.k, .bool U.e, .string U.t, .slice x5 U.nms.length q5])
          clear tn hV11 hn11 hsub11 HW11 b5 hv5 hnd m1 m2 m3 m4 o1 o2 o3 o4 hB5 HT1 HFR a0 a1 a2 a3 k1 k2 k3 k4 l1 l2 l3 l4 e10 HA9 hDr
          generalize w5.setCells gq (i * 5 + 1) [.int .i64 U.k, .bool U.e, .string U.t, .slice x5 U.nms.length q5] = W11 at *
          generalize repT L T (putK (rch L T).2 s U) = R at HE HRS
          obtain ⟨f11, hA11⟩ := TrV.at R _ _ HE.out.2.2.2.2.1 HRS.out.2.1
          have HAR : Hid (At W11 f11 (.agg #[.int .i64 R.k, .bool R.e, .string R.t, .slice yE R.nms.length cE]) R) := hA11
          obtain ⟨m0, m1, m2, m3, _⟩ := HE.out
          simp only [Nat.zero_add] at m1 m2 m3
          have hC11 : C < W11.heap.size := cell_lt m0
          clear hA11
          generalize q1 : R.k = rk at m0 HAR
          generalize q2 : R.e = re at m1 HAR
          generalize q3 : R.t = rt at m2 HAR
          generalize q4 : R.nms.length = rn at m3 HAR HE
          have HQR : Hid (R.k = rk ∧ R.e = re ∧ R.t = rt) := ⟨q1, q2, q3⟩
          clear q1 q2 q3 q4
          go_wp2_with fail
          refine (check_tree f11 _ R W11 HAR.out HRS.out.1).mono ?_
          rintro e12 w12 ⟨rfl, b12⟩
          have P12 : Hid (PuI w G #[Value.int IntKind.i64 ku, Value.bool eu, Value.string tu, Value.slice xu nu cu] w12) := P11.out.on b12
          have r0 := (b12.cell (p := ⟨C, 0, none⟩) hC11).trans m0
          have r1 := (b12.cell (p := ⟨C, 1, none⟩) hC11).trans m1
          have r2 := (b12.cell (p := ⟨C, 2, none⟩) hC11).trans m2
          have r3 := (b12.cell (p := ⟨C, 3, none⟩) hC11).trans m3
          have HVE : Hid (TrV w12 w4.heap.size R (.slice yE rn cE) fpE ∧ fpE.Nodup) := ⟨TrV.same _ _ _ HE.out.2.2.2.2.1 (fun b hb => b12.block b (TrV.lt _ _ _ HE.out.2.2.2.2.1 b hb).2), HE.out.2.2.2.2.2.1⟩
          have HPE : Hid (putT T p U = putE R) := HRS.out.2.2
          have HPD : Hid (putE R = if (ckT R).2 ≠ 0 then ((ckT R).2, zT) else (0, R)) := rfl
          generalize (ckT R).1 = pd
          generalize (ckT R).2 = cd at HPD ⊢
          clear m0 m1 m2 m3 b12 hC11 HAR HE P11 HRS
          by_cases hcz : cd = 0
          · subst hcz
            obtain ⟨u0, u1, u2, u3, uf⟩ := cell4 P12.out.1
            have v0 := uf 0
            have v1 := uf 1
            have v2 := uf 2
            have v3 := uf 3
            clear uf
            go_wp2
            have hq := put4 P12.out.1 (Value.int .i64 rk) (.bool re) (.string rt) (.slice yE rn cE)
            have hB : Below w.heap.size w (w12.setCells (G + 1 + 1) 0 [Value.int .i64 rk, .bool re, .string rt, .slice yE rn cE]) := belowE_setCells _ _ _ (by rw [HG.out]; omega) (by rw [HG.out]; exact P12.out.2.2.1)
            have hVE := TrV.low (show w.heap.size ≤ w4.heap.size by rw [HG.out]; have := HG4.out; omega) _ _ _ (TrV.same (w' := w12.setCells (G + 1 + 1) 0 [Value.int .i64 rk, .bool re, .string rt, .slice yE rn cE]) _ _ _ HVE.out.1 (fun b hb => heapE_setCells (G + 1 + 1) _ _ b (fun hh => by have := (TrV.lt _ _ _ HVE.out.1 b hb).1; have := HG4.out; omega) w12))
            change bodyPost _ _ _ _ _ (w12.setCells (G + 1 + 1) 0 [Value.int .i64 rk, .bool re, .string rt, .slice yE rn cE])
            generalize w12.setCells (G + 1 + 1) 0 [Value.int .i64 rk, .bool re, .string rt, .slice yE rn cE] = W at *
            obtain ⟨z0, z1, z2, z3, _⟩ := cell4 hq
            refine bodyPost_ret (v := .tuple #[.agg #[.int .i64 rk, .bool re, .string rt, .slice yE rn cE], .int .i64 0]) (by simp [results, Tryd.results14, go_sem, z0, z1, z2, z3]) rfl ?_
            rw [← HQR.out.1, ← HQR.out.2.1, ← HQR.out.2.2]
            exact NdP.ok (by rw [HPE.out, HPD.out, if_neg (by decide)]) hVE HVE.out.2 hB
          · have HR : Hid (putT T p U = (cd, zT)) := by
              show putT T p U = (cd, zT)
              rw [HPE.out, HPD.out, if_pos hcz]
            obtain ⟨u0, u1, u2, u3, uf⟩ := cell4 (P12.out).1
            have v0 := uf 0
            have v1 := uf 1
            have v2 := uf 2
            have v3 := uf 3
            clear uf
            go_wp2
            have hq := put4 (P12.out).1 (Value.int .i64 0) (.bool false) (.string ⟨#[]⟩) (.slice none 0 0)
            have hB : Below w.heap.size w (w12.setCells (G + 1 + 1) 0 [Value.int .i64 0, .bool false, .string ⟨#[]⟩, .slice none 0 0]) := belowE_setCells _ _ _ (by rw [HG.out]; omega) (by rw [HG.out]; exact (P12.out).2.2.1)
            change bodyPost _ _ _ _ _ (w12.setCells (G + 1 + 1) 0 [Value.int .i64 0, .bool false, .string ⟨#[]⟩, .slice none 0 0])
            generalize w12.setCells (G + 1 + 1) 0 [Value.int .i64 0, .bool false, .string ⟨#[]⟩, .slice none 0 0] = W at *
            obtain ⟨q0, q1, q2, q3, _⟩ := cell4 hq
            exact bodyPost_ret (v := .tuple #[.agg #[.int .i64 0, .bool false, .string ⟨#[]⟩, .slice none 0 0], .int .i64 cd]) (by simp [results, Tryd.results14, go_sem, q0, q1, q2, q3]) rfl (NdP.bad HR.out hB)
  · have HR : Hid (putT T p U = (c1, zT)) := by
      show putT T p U = (c1, zT)
      unfold putT; rw [if_pos (by rw [HC.out]; exact hz), HC.out]
    clear hv
    obtain ⟨u0, u1, u2, u3, uf⟩ := cell4 (P4.out).1
    have v0 := uf 0
    have v1 := uf 1
    have v2 := uf 2
    have v3 := uf 3
    clear uf
    go_wp2
    have hq := put4 (P4.out).1 (Value.int .i64 0) (.bool false) (.string ⟨#[]⟩) (.slice none 0 0)
    have hB : Below w.heap.size w (w4.setCells (G + 1 + 1) 0 [Value.int .i64 0, .bool false, .string ⟨#[]⟩, .slice none 0 0]) := belowE_setCells _ _ _ (by rw [HG.out]; omega) (by rw [HG.out]; exact (P4.out).2.2.1)
    change bodyPost _ _ _ _ _ (w4.setCells (G + 1 + 1) 0 [Value.int .i64 0, .bool false, .string ⟨#[]⟩, .slice none 0 0])
    generalize w4.setCells (G + 1 + 1) 0 [Value.int .i64 0, .bool false, .string ⟨#[]⟩, .slice none 0 0] = W at *
    obtain ⟨q0, q1, q2, q3, _⟩ := cell4 hq
    exact bodyPost_ret (v := .tuple #[.agg #[.int .i64 0, .bool false, .string ⟨#[]⟩, .slice none 0 0], .int .i64 c1]) (by simp [results, Tryd.results14, go_sem, q0, q1, q2, q3]) rfl (NdP.bad HR.out hB)
end Go.Proofs.YtnggbemnblcnaaaDoor
