/- Gathered: TqR NcE TpE Np5 Na7 PcA NrA NrB NrC. -/
import Derived.Test.YtljcbibcdajhiaaTqA
import Derived.Deep.QuietTactic
import Derived.BigQuiet
import Derived.Deep.RegionHeld3
import Derived.Test.YtljcbibcdajhiaaTwF
import Derived.Laws.IdiomCopy
import Derived.Deep.RegionLaw
import Derived.Deep.RegionHeldLaw
import Derived.Deep.Cut
import Derived.Test.YtljcbibcdajhiaaNpK
import Derived.Test.YtljcbibcdajhiaaNp4
import Derived.Deep.LoopGhost
import Derived.Test.YtljcbibcdajhiaaNa3
import Derived.Test.YtljcbibcdajhiaaTvF
/- The document's Equal of trees, walked. -/
namespace Go.Proofs.Ytljcbibcdajhiaa
open Go.RowKit

theorem belR_drewN {B : Nat} {a w : World} (h : Below B a w) (q : Nat) : Below B a (w.drewN q) := h.trans ⟨rfl, rfl, rfl, Nat.le_refl _, fun _ _ => rfl⟩

end Go.Proofs.Ytljcbibcdajhiaa
/- tree.Copy, walked: the copy lies in rows of its own (own text of the verifier). -/
namespace Go.Proofs.Ytljcbibcdajhiaa
open Go.RowKit

mutual
theorem TrV.low {w : World} {B B' : Nat} (hB : B' ≤ B) : ∀ (T : Tr) (v : Value) (fp : List Nat), TrV w B T v fp → TrV w B' T v fp
  | .mk k e t nms ks, v, fp, h => by
    rw [TrV] at h ⊢
    obtain ⟨cs, fq, h1, h2, rfl⟩ := h
    refine ⟨cs, fq, ⟨h1.1, ?_⟩, KidV.low hB nms ks cs fq h2, rfl⟩
    rcases h1.2 with hn | ⟨g, cap, cur, rfl, hb, rest⟩
    · exact .inl hn
    · exact .inr ⟨g, cap, cur, rfl, Nat.le_trans hB hb, rest⟩
theorem KidV.low {w : World} {B B' : Nat} (hB : B' ≤ B) : ∀ (nms : List ByteArray) (ks : List Tr) (cs : List Value) (fq : List Nat), KidV w B nms ks cs fq → KidV w B' nms ks cs fq
  | [], [], cs, fq, h => by rw [KidV] at h ⊢; exact h
  | s :: nms, T :: ks, cs, fq, h => by
    rw [KidV] at h ⊢
    obtain ⟨v, cs', fp, fq', h1, h2, h3, h4⟩ := h
    exact ⟨v, cs', fp, fq', h1, TrV.low hB T v fp h2, KidV.low hB nms ks cs' fq' h3, h4⟩
  | [], _ :: _, cs, fq, h => by simp [KidV] at h
  | _ :: _, [], cs, fq, h => by simp [KidV] at h
end
theorem TrV.zero (w : World) (B : Nat) (k : Int) (e : Bool) (t : ByteArray) {ns : List ByteArray} {ks : List Tr} (h : ns.length = 0) (h' : ks.length = 0) : TrV w B (.mk k e t ns ks) (.slice none 0 0) [] := by
  obtain rfl := List.length_eq_zero_iff.1 h
  obtain rfl := List.length_eq_zero_iff.1 h'
  rw [TrV]
  exact ⟨[], [], ⟨rfl, .inl ⟨rfl, rfl⟩⟩, by rw [KidV]; exact ⟨rfl, rfl⟩, rfl⟩

theorem heapE_setCells (b : Nat) (vs : List Value) (o k : Nat) (hk : k ≠ b) (w : World) : (w.setCells b o vs).heap[k]? = w.heap[k]? := by
  induction vs generalizing o w with
  | nil => rfl
  | cons v vs ih => exact (ih (o + 1) _).trans (Below.heap_setCell w ⟨b, o, none⟩ v k hk)
theorem sizeE_setCells (b : Nat) (vs : List Value) (o : Nat) (w : World) : (w.setCells b o vs).heap.size = w.heap.size := by
  induction vs generalizing o w with
  | nil => rfl
  | cons v vs ih => exact (ih (o + 1) _).trans (World.size_setCell _ _ _)
theorem belowE_setCells (b : Nat) (vs : List Value) (o : Nat) {B : Nat} (hB : B ≤ b) {w0 w : World} (h : Below B w0 w) : Below B w0 (w.setCells b o vs) := by
  induction vs generalizing o w with
  | nil => exact h
  | cons v vs ih => exact ih (o + 1) (h.setCell hB _)

/-- A row of n entries in block K of which the first i are copied. -/
def Ke (w : World) (B K n i : Nat) (ns : List ByteArray) (ks : List Tr) : Prop := ∃ cs zs fq, w.ownsRow B 83 5 (.slice (some ⟨K, 0, none⟩) n n) n (cs ++ zs) ∧ cs.length = i * 5 ∧ KidV w B (ns.take i) (ks.take i) cs fq ∧ (K :: fq).Nodup
theorem own_heap {w : World} {B K n : Nat} {xs : List Value} (h : w.ownsRow B 83 5 (.slice (some ⟨K, 0, none⟩) n n) n xs) : ∃ cur, B ≤ K ∧ w.heap[K]? = some (.cells cur 83 (0, 0)) ∧ cur.size = n * 5 ∧ cur.toList = xs := by
  rcases h.2 with ⟨h1, _⟩ | ⟨g, cap, cur, h1, hb, hg, _, _, h5, h6⟩
  · cases h1
  · simp at h1
    obtain ⟨rfl, rfl⟩ := h1
    refine ⟨cur, hb, hg, h5, ?_⟩
    rw [List.take_of_length_le (by rw [Array.length_toList]; omega)] at h6
    exact h6
theorem Ke.big {w : World} {B K n i : Nat} {ns : List ByteArray} {ks : List Tr} (h : Ke w B K n i ns ks) : K < w.heap.size := by
  obtain ⟨cs, zs, fq, h1, _⟩ := h
  obtain ⟨cur, _, h2, _⟩ := own_heap h1
  exact heap_lt h2
theorem Ke.room {w : World} {B K n i : Nat} {ns : List ByteArray} {ks : List Tr} (h : Ke w B K n i ns ks) (j : Nat) (hj : j < n * 5) : ∃ v, w.cell? ⟨K, j, none⟩ = some v := by
  obtain ⟨cs, zs, fq, h1, _⟩ := h
  obtain ⟨cur, _, h2, h3, _⟩ := own_heap h1
  rw [Lib.cell_of_heap h2]
  exact ⟨_, Array.getElem?_eq_getElem (by omega)⟩
theorem Ke.free {w : World} {B K n i : Nat} {ns : List ByteArray} {ks : List Tr} (h : Ke w B K n i ns ks) (j : Nat) : w.frozen? ⟨K, j, none⟩ = false := by
  obtain ⟨cs, zs, fq, h1, _⟩ := h
  obtain ⟨cur, _, h2, _⟩ := own_heap h1
  unfold World.frozen?; rw [h2]; simp
theorem Ke.below {w w' : World} {B K n i : Nat} {ns : List ByteArray} {ks : List Tr} (h : Ke w B K n i ns ks) (b : Below w.heap.size w w') : Ke w' B K n i ns ks := by
  have hb := h.big
  obtain ⟨cs, zs, fq, h1, h2, h3, h4⟩ := h
  exact ⟨cs, zs, fq, own_same h1 (fun x hx => by simp [blkL, Value.ownBlock] at hx; rw [hx]; exact b.block K hb), h2, KidV.same _ _ _ _ h3 (fun x hx => b.block x (KidV.lt _ _ _ _ h3 x hx).2), h4⟩
theorem Ke.keep {w w' : World} {B K n i : Nat} {ns : List ByteArray} {ks : List Tr} (h : Ke w B K n i ns ks) (G : Nat) (hG : G < B) (b : ∀ q, q ≠ G → w'.heap[q]? = w.heap[q]?) : Ke w' B K n i ns ks := by
  obtain ⟨cs, zs, fq, h1, h2, h3, h4⟩ := h
  obtain ⟨cur, hB, _⟩ := own_heap h1
  exact ⟨cs, zs, fq, own_same h1 (fun x hx => by simp [blkL, Value.ownBlock] at hx; rw [hx]; exact b K (by omega)), h2, KidV.same _ _ _ _ h3 (fun x hx => b x (by have := (KidV.lt _ _ _ _ h3 x hx).1; omega)), h4⟩
theorem own_put5 {w : World} {B : Nat} {K n i : Nat} {cs zs : List Value} {a b c d e : Value} (h : w.ownsRow B 83 5 (.slice (some ⟨K, 0, none⟩) n n) n (cs ++ zs)) (hc : cs.length = i * 5) (hi : i < n) :
    ∃ zs', (w.setCells K (i * 5) [a, b, c, d, e]).ownsRow B 83 5 (.slice (some ⟨K, 0, none⟩) n n) n ((cs ++ [a, b, c, d, e]) ++ zs') := by
  have hlen : zs.length = n * 5 - i * 5 := by have := h.1; simp at this; omega
  match zs, hlen with
  | z0 :: z1 :: z2 :: z3 :: z4 :: zs', _ =>
    have h1 := (World.ownsRow.stored h (i * 5) a).1
    have h2 := (World.ownsRow.stored h1 (i * 5 + 1) b).1
    have h3 := (World.ownsRow.stored h2 (i * 5 + 2) c).1
    have h4 := (World.ownsRow.stored h3 (i * 5 + 3) d).1
    have h5 := (World.ownsRow.stored h4 (i * 5 + 4) e).1
    have key : (((((cs ++ z0 :: z1 :: z2 :: z3 :: z4 :: zs').set (i * 5) a).set (i * 5 + 1) b).set (i * 5 + 2) c).set (i * 5 + 3) d).set (i * 5 + 4) e = (cs ++ [a, b, c, d, e]) ++ zs' := by
      rw [List.set_append_right _ _ (by omega), List.set_append_right _ _ (by omega), List.set_append_right _ _ (by omega), List.set_append_right _ _ (by omega), List.set_append_right _ _ (by omega), hc]
      simp
    rw [key] at h5
    exact ⟨zs', h5⟩
  | [], h => simp at h; omega
  | [_], h => simp at h; omega
  | [_, _], h => simp at h; omega
  | [_, _, _], h => simp at h; omega
  | [_, _, _, _], h => simp at h; omega
theorem Ke.put {w w' : World} {B K n i : Nat} {ns : List ByteArray} {ks : List Tr} (h : Ke w B K n i ns ks) (b : Below w.heap.size w w') (hi : i < n) {s : ByteArray} {T : Tr} (hs : ns[i]? = some s) (hT : ks[i]? = some T) {v : Value} {fp : List Nat} (hV : TrV w' w.heap.size T v fp) (hn : fp.Nodup) :
    Ke (w'.setCells K (i * 5) [.string s, .int .i64 T.k, .bool T.e, .string T.t, v]) B K n (i + 1) ns ks := by
  have hbig := h.big
  obtain ⟨cs, zs, fq, h1, h2, h3, h4⟩ := h
  have hlt := KidV.lt _ _ _ _ h3
  obtain ⟨cur, hBK, _⟩ := own_heap h1
  have h1' : w'.ownsRow B 83 5 (.slice (some ⟨K, 0, none⟩) n n) n (cs ++ zs) := own_same h1 (fun x hx => by simp [blkL, Value.ownBlock] at hx; rw [hx]; exact b.block K hbig)
  have h3' := KidV.same _ _ _ _ h3 (fun x hx => b.block x (hlt x hx).2)
  obtain ⟨zs', g1⟩ := own_put5 (a := .string s) (b := .int .i64 T.k) (c := .bool T.e) (d := .string T.t) (e := v) h1' h2 hi
  have hfp := TrV.lt T v fp hV
  have hK : ∀ x ∈ fq, x ≠ K := fun x hx e => (List.nodup_cons.1 h4).1 (by rw [← e]; exact hx)
  have hV' := TrV.low (show B ≤ w.heap.size by omega) T v fp (TrV.same T v fp hV (fun x hx => heapE_setCells K [.string s, .int .i64 T.k, .bool T.e, .string T.t, v] (i * 5) x (by have := (hfp x hx).1; omega) w'))
  have h3'' := KidV.same _ _ _ _ h3' (fun x hx => heapE_setCells K [.string s, .int .i64 T.k, .bool T.e, .string T.t, v] (i * 5) x (hK x hx) w')
  refine ⟨cs ++ [.string s, .int .i64 T.k, .bool T.e, .string T.t, v], zs', fq ++ fp, g1, by simp [h2]; omega, ?_, ?_⟩
  · have := KidV.snoc _ _ _ _ s T v fp h3'' hV'
    rw [List.take_add_one, hs, List.take_add_one, hT]; exact this
  · rw [List.nodup_cons] at h4 ⊢
    refine ⟨fun hm => ?_, List.nodup_append.2 ⟨h4.2, hn, fun x hx y hy e => ?_⟩⟩
    · rcases List.mem_append.1 hm with hm | hm
      · exact h4.1 hm
      · have := (hfp K hm).1; omega
    · have h6 := (hlt x hx).2
      have h7 := (hfp y hy).1
      omega
theorem Ke.start (w : World) (B K n : Nat) (C : Array Value) (ns : List ByteArray) (ks : List Tr) (hK : w.heap[K]? = some (.cells C 83 (0, 0))) (hC : C.size = n * 5) (hB : B ≤ K) (hn : n ≤ 1954687338211) : Ke w B K n 0 ns ks := by
  refine ⟨[], C.toList, [], ⟨by simp [hC], .inr ⟨K, n, C, rfl, hB, hK, Nat.le_refl _, by unfold maxLen; omega, hC, by rw [List.nil_append, List.take_of_length_le (by rw [Array.length_toList]; omega)]⟩⟩, rfl, ?_, by simp⟩
  rw [List.take_zero, List.take_zero, KidV]; exact ⟨rfl, rfl⟩
theorem Ke.full {w : World} {B K n : Nat} {ns : List ByteArray} {ks : List Tr} (h : Ke w B K n n ns ks) (h1 : ns.length = n) (h2 : ks.length = n) (k : Int) (e : Bool) (t : ByteArray) : ∃ fp, TrV w B (.mk k e t ns ks) (.slice (some ⟨K, 0, none⟩) n n) fp ∧ fp.Nodup := by
  obtain ⟨cs, zs, fq, g1, g2, g3, g4⟩ := h
  have hz : zs = [] := by
    have := g1.1
    rw [List.length_append, g2] at this
    exact List.length_eq_zero_iff.1 (by omega)
  rw [hz, List.append_nil] at g1
  rw [List.take_of_length_le (by omega), List.take_of_length_le (by omega)] at g3
  refine ⟨K :: fq, ?_, g4⟩
  rw [TrV]
  exact ⟨cs, fq, by rw [h1]; exact g1, g3, rfl⟩

/-- Copy, for trees no deeper than m. -/
def CvP (T : Tr) (w : World) (e : Ending) (w' : World) : Prop := (∃ x fp, e = .returned (.agg #[.int .i64 T.k, .bool T.e, .string T.t, x]) ∧ TrV w' w.heap.size T x fp ∧ fp.Nodup) ∧ Below w.heap.size w w'
def CvAt (m : Nat) : Prop := ∀ (v : Value) (T : Tr) (w : World), At w m v T → Calls Try.prog 45 #[v] w (CvP T w)
theorem info_entE : (Try.prog.info? 83).map (fun i => (i.zero, i.size, i.bytes)) = some (some (.agg #[.string ByteArray.empty, .int .i64 0, .bool false, .string ByteArray.empty, .slice none 0 0]), 5, 72) := by kernel_rfl

set_option maxHeartbeats 8000000 in
set_option maxRecDepth 10000 in
theorem copyV_any (m : Nat) : CvAt m := by
  induction m with
  | zero => intro v T w h; exact h.elim
  | succ m IH =>
    rintro v ⟨k, e, t, ns, ks⟩ w ⟨x, n, c, rfl, l1, l2, l3, l4, hx⟩
    have EX : Hid (Ents w m x n ns ks) := At.ents hx
    have LL : Hid (ns.length = n ∧ ks.length = n) := ⟨l1, l2⟩
    clear hx l1 l2
    by_cases hn : n = 0
    · subst hn
      have HZ : Hid (ns.length = 0 ∧ ks.length = 0) := LL.out
      clear LL EX
      go_enter Try.func45, Try.ntmps45
      go_wp2
      have C1 : ∀ j v, #[Value.int IntKind.i64 k, Value.bool e, Value.string t, Value.slice x 0 c][j]? = some v → ((w.alloc (Obj.cells #[Value.int IntKind.i64 k, Value.bool e, Value.string t, Value.slice x 0 c] 25)).alloc (Obj.cells #[Value.int IntKind.i64 0, Value.bool false, Value.string ⟨#[]⟩, Value.slice none 0 0] 25)).cell? ⟨w.heap.size, j, none⟩ = some v := fun j v hv => by
        rw [World.cell?_alloc_old _ _ _ (by rw [World.size_alloc]; show w.heap.size ≠ _; omega), World.cell?_alloc_new]; exact hv
      have B0 : Below w.heap.size w ((w.alloc (Obj.cells #[Value.int IntKind.i64 k, Value.bool e, Value.string t, Value.slice x 0 c] 25)).alloc (Obj.cells #[Value.int IntKind.i64 0, Value.bool false, Value.string ⟨#[]⟩, Value.slice none 0 0] 25)) := ((Below.refl _ _).alloc (Nat.le_refl _) _).alloc (by rw [World.size_alloc]; omega) _
      go_loop [17] (fun xi => xi = .int .i64 ((0 : Nat) : Int)) (fun _ => 0)
      case atStart => rfl
      case round =>
        subst hrel
        go_wp2
        refine bodyPost_ret (v := .agg #[.int .i64 k, .bool e, .string t, .slice none 0 0]) (by simp [results, Try.results45, go_sem]) rfl ⟨⟨_, [], rfl, TrV.zero _ _ k e t HZ.out.1 HZ.out.2, List.nodup_nil⟩, ?_⟩
        exact ((Below.refl _ _).alloc (Nat.le_refl _) _).alloc (by rw [World.size_alloc]; omega) _
    · have hp : (0 : Int) < (n : Int) := by omega
      have HMK : Hid (∀ w : World, (Instr.makeSlice 23 (.int .i64 (n : Int)) (.int .i64 (n : Int))).run Try.prog w = .ok (.slice (some ⟨w.heap.size, 0, none⟩) n n) (w.alloc (.cells (madeCells (Value.agg #[.string ByteArray.empty, .int .i64 0, .bool false, .string ByteArray.empty, .slice none 0 0]).cells (n * 5)) 83))) := fun w => by
        obtain ⟨i0, hi, hz0, hz1, hz2⟩ := info_parts info_entE
        rw [run_make (P := Try.prog) w 23 83 i0 _ undLET hi hz0 .i64 .i64 _ _ (by omega) (by omega) (by rw [hz2]; omega) (by omega), Int.toNat_natCast, hz1]
      go_enter Try.func45, Try.ntmps45
      go_wp2_with fail
      rw [HMK.out]
      clear HMK
      go_wp2
      have hs1 : (w.alloc (Obj.cells #[Value.int IntKind.i64 k, Value.bool e, Value.string t, Value.slice x n c] 25)).heap.size = w.heap.size + 1 := World.size_alloc _ _
      have hs2 : ((w.alloc (Obj.cells #[Value.int IntKind.i64 k, Value.bool e, Value.string t, Value.slice x n c] 25)).alloc (Obj.cells #[Value.int IntKind.i64 0, Value.bool false, Value.string ⟨#[]⟩, Value.slice none 0 0] 25)).heap.size = w.heap.size + 1 + 1 := by rw [World.size_alloc, hs1]
      have hs3 : (((w.alloc (Obj.cells #[Value.int IntKind.i64 k, Value.bool e, Value.string t, Value.slice x n c] 25)).alloc (Obj.cells #[Value.int IntKind.i64 0, Value.bool false, Value.string ⟨#[]⟩, Value.slice none 0 0] 25)).alloc (Obj.cells (madeCells #[Value.string ByteArray.empty, Value.int IntKind.i64 0, Value.bool false, Value.string ByteArray.empty, Value.slice none 0 0] (n * 5)) 83)).heap.size = w.heap.size + 1 + 1 + 1 := by rw [World.size_alloc, hs2]
      have X1 : (((w.alloc (Obj.cells #[Value.int IntKind.i64 k, Value.bool e, Value.string t, Value.slice x n c] 25)).alloc (Obj.cells #[Value.int IntKind.i64 0, Value.bool false, Value.string ⟨#[]⟩, Value.slice none 0 0] 25)).alloc (Obj.cells (madeCells #[Value.string ByteArray.empty, Value.int IntKind.i64 0, Value.bool false, Value.string ByteArray.empty, Value.slice none 0 0] (n * 5)) 83)).heap[w.heap.size]? = some (Obj.cells #[Value.int IntKind.i64 k, Value.bool e, Value.string t, Value.slice x n c] 25) := by
        rw [Below.heap_alloc _ _ _ (by rw [hs2]; omega), Below.heap_alloc _ _ _ (by rw [hs1]; omega)]; exact heap_alloc_new w _
      have X2 : (((w.alloc (Obj.cells #[Value.int IntKind.i64 k, Value.bool e, Value.string t, Value.slice x n c] 25)).alloc (Obj.cells #[Value.int IntKind.i64 0, Value.bool false, Value.string ⟨#[]⟩, Value.slice none 0 0] 25)).alloc (Obj.cells (madeCells #[Value.string ByteArray.empty, Value.int IntKind.i64 0, Value.bool false, Value.string ByteArray.empty, Value.slice none 0 0] (n * 5)) 83)).heap[w.heap.size + 1]? = some (Obj.cells #[Value.int IntKind.i64 0, Value.bool false, Value.string ⟨#[]⟩, Value.slice none 0 0] 25) := by
        rw [Below.heap_alloc _ _ _ (by rw [hs2]; omega), ← hs1]; exact heap_alloc_new _ _
      have X3 : (((w.alloc (Obj.cells #[Value.int IntKind.i64 k, Value.bool e, Value.string t, Value.slice x n c] 25)).alloc (Obj.cells #[Value.int IntKind.i64 0, Value.bool false, Value.string ⟨#[]⟩, Value.slice none 0 0] 25)).alloc (Obj.cells (madeCells #[Value.string ByteArray.empty, Value.int IntKind.i64 0, Value.bool false, Value.string ByteArray.empty, Value.slice none 0 0] (n * 5)) 83)).heap[w.heap.size + 1 + 1]? = some (Obj.cells (madeCells #[Value.string ByteArray.empty, Value.int IntKind.i64 0, Value.bool false, Value.string ByteArray.empty, Value.slice none 0 0] (n * 5)) 83) := by
        rw [← hs2]; exact heap_alloc_new _ _
      have B0 : Below w.heap.size w (((w.alloc (Obj.cells #[Value.int IntKind.i64 k, Value.bool e, Value.string t, Value.slice x n c] 25)).alloc (Obj.cells #[Value.int IntKind.i64 0, Value.bool false, Value.string ⟨#[]⟩, Value.slice none 0 0] 25)).alloc (Obj.cells (madeCells #[Value.string ByteArray.empty, Value.int IntKind.i64 0, Value.bool false, Value.string ByteArray.empty, Value.slice none 0 0] (n * 5)) 83)) := (((Below.refl _ _).alloc (Nat.le_refl _) _).alloc (by rw [hs1]; omega) _).alloc (by rw [hs2]; omega) _
      have K0 : Hid (Ke (((w.alloc (Obj.cells #[Value.int IntKind.i64 k, Value.bool e, Value.string t, Value.slice x n c] 25)).alloc (Obj.cells #[Value.int IntKind.i64 0, Value.bool false, Value.string ⟨#[]⟩, Value.slice none 0 0] 25)).alloc (Obj.cells (madeCells #[Value.string ByteArray.empty, Value.int IntKind.i64 0, Value.bool false, Value.string ByteArray.empty, Value.slice none 0 0] (n * 5)) 83)) (w.heap.size + 1 + 1) (w.heap.size + 1 + 1) n 0 ns ks) := Ke.start _ _ _ n _ ns ks X3 (by simp [madeCells]) (Nat.le_refl _) l4
      have XX : Hid ((((w.alloc (Obj.cells #[Value.int IntKind.i64 k, Value.bool e, Value.string t, Value.slice x n c] 25)).alloc (Obj.cells #[Value.int IntKind.i64 0, Value.bool false, Value.string ⟨#[]⟩, Value.slice none 0 0] 25)).alloc (Obj.cells (madeCells #[Value.string ByteArray.empty, Value.int IntKind.i64 0, Value.bool false, Value.string ByteArray.empty, Value.slice none 0 0] (n * 5)) 83)).heap[w.heap.size]? = some (Obj.cells #[Value.int IntKind.i64 k, Value.bool e, Value.string t, Value.slice x n c] 25) ∧ (((w.alloc (Obj.cells #[Value.int IntKind.i64 k, Value.bool e, Value.string t, Value.slice x n c] 25)).alloc (Obj.cells #[Value.int IntKind.i64 0, Value.bool false, Value.string ⟨#[]⟩, Value.slice none 0 0] 25)).alloc (Obj.cells (madeCells #[Value.string ByteArray.empty, Value.int IntKind.i64 0, Value.bool false, Value.string ByteArray.empty, Value.slice none 0 0] (n * 5)) 83)).heap[w.heap.size + 1]? = some (Obj.cells #[Value.int IntKind.i64 0, Value.bool false, Value.string ⟨#[]⟩, Value.slice none 0 0] 25) ∧ w.heap.size + 1 < (((w.alloc (Obj.cells #[Value.int IntKind.i64 k, Value.bool e, Value.string t, Value.slice x n c] 25)).alloc (Obj.cells #[Value.int IntKind.i64 0, Value.bool false, Value.string ⟨#[]⟩, Value.slice none 0 0] 25)).alloc (Obj.cells (madeCells #[Value.string ByteArray.empty, Value.int IntKind.i64 0, Value.bool false, Value.string ByteArray.empty, Value.slice none 0 0] (n * 5)) 83)).heap.size) := ⟨X1, X2, by rw [hs3]; omega⟩
      have B0' : Hid (Below w.heap.size w (((w.alloc (Obj.cells #[Value.int IntKind.i64 k, Value.bool e, Value.string t, Value.slice x n c] 25)).alloc (Obj.cells #[Value.int IntKind.i64 0, Value.bool false, Value.string ⟨#[]⟩, Value.slice none 0 0] 25)).alloc (Obj.cells (madeCells #[Value.string ByteArray.empty, Value.int IntKind.i64 0, Value.bool false, Value.string ByteArray.empty, Value.slice none 0 0] (n * 5)) 83))) := B0
      clear hs1 hs2 hs3 X1 X2 X3 B0
      obtain ⟨G, hG⟩ : ∃ G, w.heap.size = G := ⟨_, rfl⟩
      generalize (((w.alloc (Obj.cells #[Value.int IntKind.i64 k, Value.bool e, Value.string t, Value.slice x n c] 25)).alloc (Obj.cells #[Value.int IntKind.i64 0, Value.bool false, Value.string ⟨#[]⟩, Value.slice none 0 0] 25)).alloc (Obj.cells (madeCells #[Value.string ByteArray.empty, Value.int IntKind.i64 0, Value.bool false, Value.string ByteArray.empty, Value.slice none 0 0] (n * 5)) 83)) = w2 at *
      rw [hG] at K0 XX ⊢
      have HG : Hid (w.heap.size = G) := hG
      clear hG
      go_loopw [17] (fun xi wr => ∃ i : Nat, i ≤ n ∧ xi = .int .i64 i ∧ Hid (Ke wr (G + 1 + 1) (G + 1 + 1) n i ns ks) ∧ Hid (wr.heap[G]? = some (Obj.cells #[Value.int IntKind.i64 k, Value.bool e, Value.string t, Value.slice x n c] 25) ∧ wr.heap[G + 1]? = some (Obj.cells #[Value.int IntKind.i64 0, Value.bool false, Value.string ⟨#[]⟩, Value.slice none 0 0] 25) ∧ G + 1 < wr.heap.size) ∧ Hid (Below w.heap.size w wr)) (fun i _ => n - (intOf i).toNat)
      case atStart => exact ⟨0, Nat.zero_le _, rfl, K0, XX, B0'⟩
      case round =>
        obtain ⟨i, hi, rfl, hK, hX, hB⟩ := hrel
        by_cases hlt : i < n
        · obtain ⟨l1, l2⟩ := LL.out
          obtain ⟨s, hs⟩ : ∃ s, ns[i]? = some s := ⟨_, List.getElem?_eq_getElem (by omega)⟩
          obtain ⟨T, hT⟩ : ∃ s, ks[i]? = some s := ⟨_, List.getElem?_eq_getElem (by omega)⟩
          obtain ⟨g, o, a, b, d, f, p, q, rfl, hg, c0, c1, c2, c3, c4, hA⟩ := EX.out.below hB.out i s T hlt hs hT
          have HA : Hid (At wr m (.agg #[.int .i64 a, .bool b, .string d, .slice f p q]) T) := hA
          have HE : Hid (ns[i]? = some s ∧ ks[i]? = some T) := ⟨hs, hT⟩
          clear hA hs hT l1 l2
          go_wp2
          have bE : Below wr.heap.size wr (wr.alloc (Obj.cells #[Value.string s, Value.int IntKind.i64 a, Value.bool b, Value.string d, Value.slice f p q] 83)) := (Below.refl _ _).alloc (Nat.le_refl _) _
          have y0 : (wr.alloc (Obj.cells #[Value.string s, Value.int IntKind.i64 a, Value.bool b, Value.string d, Value.slice f p q] 83)).cell? ⟨wr.heap.size, 0, none⟩ = some (.string s) := by rw [World.cell?_alloc_new]; rfl
          have y1 : (wr.alloc (Obj.cells #[Value.string s, Value.int IntKind.i64 a, Value.bool b, Value.string d, Value.slice f p q] 83)).cell? ⟨wr.heap.size, 1, none⟩ = some (.int .i64 a) := by rw [World.cell?_alloc_new]; rfl
          have y2 : (wr.alloc (Obj.cells #[Value.string s, Value.int IntKind.i64 a, Value.bool b, Value.string d, Value.slice f p q] 83)).cell? ⟨wr.heap.size, 2, none⟩ = some (.bool b) := by rw [World.cell?_alloc_new]; rfl
          have y3 : (wr.alloc (Obj.cells #[Value.string s, Value.int IntKind.i64 a, Value.bool b, Value.string d, Value.slice f p q] 83)).cell? ⟨wr.heap.size, 3, none⟩ = some (.string d) := by rw [World.cell?_alloc_new]; rfl
          have y4 : (wr.alloc (Obj.cells #[Value.string s, Value.int IntKind.i64 a, Value.bool b, Value.string d, Value.slice f p q] 83)).cell? ⟨wr.heap.size, 4, none⟩ = some (.slice f p q) := by rw [World.cell?_alloc_new]; rfl
          have hzE : wr.heap.size < (wr.alloc (Obj.cells #[Value.string s, Value.int IntKind.i64 a, Value.bool b, Value.string d, Value.slice f p q] 83)).heap.size := by rw [World.size_alloc]; omega
          have K3 : Hid (Ke (wr.alloc (Obj.cells #[Value.string s, Value.int IntKind.i64 a, Value.bool b, Value.string d, Value.slice f p q] 83)) (G + 1 + 1) (G + 1 + 1) n i ns ks) := hK.out.below bE
          have HA3 : Hid (At (wr.alloc (Obj.cells #[Value.string s, Value.int IntKind.i64 a, Value.bool b, Value.string d, Value.slice f p q] 83)) m (.agg #[.int .i64 a, .bool b, .string d, .slice f p q]) T) := HA.out.below bE
          have hB3 : Hid (Below w.heap.size w (wr.alloc (Obj.cells #[Value.string s, Value.int IntKind.i64 a, Value.bool b, Value.string d, Value.slice f p q] 83))) := hB.out.trans (bE.mono hB.out.size)
          have hX3 : Hid (Below wr.heap.size wr (wr.alloc (Obj.cells #[Value.string s, Value.int IntKind.i64 a, Value.bool b, Value.string d, Value.slice f p q] 83))) := bE
          obtain ⟨E, hE⟩ : ∃ E, wr.heap.size = E := ⟨_, rfl⟩
          have HWE : Hid (wr.heap.size = E) := hE
          rw [hE] at y0 y1 y2 y3 y4 hzE ⊢
          clear hE bE c0 c1 c2 c3 c4 hg HA
          generalize wr.alloc (Obj.cells #[Value.string s, Value.int IntKind.i64 a, Value.bool b, Value.string d, Value.slice f p q] 83) = w3 at *
          obtain ⟨r0, k0⟩ := K3.out.room (i * 5) (by omega)
          have f0 := K3.out.free (i * 5)
          obtain ⟨r1, k1⟩ := K3.out.room (i * 5 + 1) (by omega)
          have f1 := K3.out.free (i * 5 + 1)
          obtain ⟨r2, k2⟩ := K3.out.room (i * 5 + 2) (by omega)
          have f2 := K3.out.free (i * 5 + 2)
          obtain ⟨r3, k3⟩ := K3.out.room (i * 5 + 3) (by omega)
          have f3 := K3.out.free (i * 5 + 3)
          obtain ⟨r4, k4⟩ := K3.out.room (i * 5 + 4) (by omega)
          have f4 := K3.out.free (i * 5 + 4)
          have hKb := K3.out.big
          have b3 : Below w3.heap.size w3 w3 := Below.refl _ _
          have hD : Below w3.heap.size w3 w3.drew := b3.drew
          have hEK : E ≠ G + 1 + 1 := by have := hK.out.big; rw [HWE.out] at this; omega
          have hKE : G + 1 + 1 ≠ E := Ne.symm hEK
          go_region_held3 (fun W => W.cell? ⟨E, 0, none⟩ = some (.string s) ∧ W.cell? ⟨E, 1, none⟩ = some (.int .i64 a) ∧ W.cell? ⟨E, 2, none⟩ = some (.bool b) ∧ W.cell? ⟨E, 3, none⟩ = some (.string d) ∧ W.cell? ⟨E, 4, none⟩ = some (.slice f p q))
            (first
              | go_keep
              | (refine ⟨(b5.cell (p := ⟨E, 0, none⟩) hzE).trans y0, (b5.cell (p := ⟨E, 1, none⟩) hzE).trans y1, (b5.cell (p := ⟨E, 2, none⟩) hzE).trans y2, (b5.cell (p := ⟨E, 3, none⟩) hzE).trans y3, (b5.cell (p := ⟨E, 4, none⟩) hzE).trans y4⟩))
            (first
              | (go_at_call 45
                 refine (IH _ T w3.drew (HA3.out.below hD)).mono ?_
                 rintro e5 w5 ⟨⟨v5, fp5, rfl, hv, hnd⟩, b5⟩
                 obtain ⟨x5, q5, rfl⟩ := hv.shape
                 have m0 : w5.cell? ⟨G + 1 + 1, i * 5, none⟩ = some r0 := (b5.cell (p := ⟨G + 1 + 1, i * 5, none⟩) hKb).trans k0
                 have o0 : w5.frozen? ⟨G + 1 + 1, i * 5, none⟩ = false := (b5.frozen (p := ⟨G + 1 + 1, i * 5, none⟩) hKb).trans f0
                 have m1 : w5.cell? ⟨G + 1 + 1, i * 5 + 1, none⟩ = some r1 := (b5.cell (p := ⟨G + 1 + 1, i * 5 + 1, none⟩) hKb).trans k1
                 have o1 : w5.frozen? ⟨G + 1 + 1, i * 5 + 1, none⟩ = false := (b5.frozen (p := ⟨G + 1 + 1, i * 5 + 1, none⟩) hKb).trans f1
                 have m2 : w5.cell? ⟨G + 1 + 1, i * 5 + 2, none⟩ = some r2 := (b5.cell (p := ⟨G + 1 + 1, i * 5 + 2, none⟩) hKb).trans k2
                 have o2 : w5.frozen? ⟨G + 1 + 1, i * 5 + 2, none⟩ = false := (b5.frozen (p := ⟨G + 1 + 1, i * 5 + 2, none⟩) hKb).trans f2
                 have m3 : w5.cell? ⟨G + 1 + 1, i * 5 + 3, none⟩ = some r3 := (b5.cell (p := ⟨G + 1 + 1, i * 5 + 3, none⟩) hKb).trans k3
                 have o3 : w5.frozen? ⟨G + 1 + 1, i * 5 + 3, none⟩ = false := (b5.frozen (p := ⟨G + 1 + 1, i * 5 + 3, none⟩) hKb).trans f3
                 have m4 : w5.cell? ⟨G + 1 + 1, i * 5 + 4, none⟩ = some r4 := (b5.cell (p := ⟨G + 1 + 1, i * 5 + 4, none⟩) hKb).trans k4
                 have o4 : w5.frozen? ⟨G + 1 + 1, i * 5 + 4, none⟩ = false := (b5.frozen (p := ⟨G + 1 + 1, i * 5 + 4, none⟩) hKb).trans f4))
          have P5 := (K3.out.below hD).put b5 hlt HE.out.1 HE.out.2 hv hnd
          have B5 : Below wr.heap.size wr w5 := hX3.out.trans ((hD.trans (b5.mono hD.size)).mono hX3.out.size)
          have HP : Hid (Ke (w5.setCells (G + 1 + 1) (i * 5) [.string s, .int .i64 T.k, .bool T.e, .string T.t, .slice x5 T.nms.length q5]) (G + 1 + 1) (G + 1 + 1) n (i + 1) ns ks) := P5
          have HB5 : Hid (Below wr.heap.size wr w5) := B5
          clear P5 B5 b5 hv m0 m1 m2 m3 m4 o0 o1 o2 o3 o4 k0 k1 k2 k3 k4 f0 f1 f2 f3 f4 y0 y1 y2 y3 y4
          have HW : Hid ((w5.setCells (G + 1 + 1) (i * 5) [.string s, .int .i64 T.k, .bool T.e, .string T.t, .slice x5 T.nms.length q5]).heap[G]? = w5.heap[G]? ∧ (w5.setCells (G + 1 + 1) (i * 5) [.string s, .int .i64 T.k, .bool T.e, .string T.t, .slice x5 T.nms.length q5]).heap[G + 1]? = w5.heap[G + 1]?) := ⟨heapE_setCells _ _ _ _ (by omega) _, heapE_setCells _ _ _ _ (by omega) _⟩
          have HZ : Hid ((w5.setCells (G + 1 + 1) (i * 5) [.string s, .int .i64 T.k, .bool T.e, .string T.t, .slice x5 T.nms.length q5]).heap.size = w5.heap.size) := sizeE_setCells _ _ _ _
          have HF : Hid (Below w.heap.size w (w5.setCells (G + 1 + 1) (i * 5) [.string s, .int .i64 T.k, .bool T.e, .string T.t, .slice x5 T.nms.length q5])) := belowE_setCells _ _ _ (by rw [HG.out]; omega) (hB.out.trans (HB5.out.mono hB.out.size))
          change Exit.inBlock 1 _ Exit.normal _ (w5.setCells (G + 1 + 1) (i * 5) [.string s, .int .i64 T.k, .bool T.e, .string T.t, .slice x5 T.nms.length q5])
          generalize w5.setCells (G + 1 + 1) (i * 5) [.string s, .int .i64 T.k, .bool T.e, .string T.t, .slice x5 T.nms.length q5] = w6 at *
          go_wp2
          go_roundw
          case rel =>
            obtain ⟨X1, X2, X3⟩ := hX.out
            refine ⟨i + 1, by omega, by go_num, HP, ⟨?_, ?_, ?_⟩, HF⟩
            · rw [HW.out.1, HB5.out.block G (by omega)]; exact X1
            · rw [HW.out.2, HB5.out.block (G + 1) (by omega)]; exact X2
            · rw [HZ.out]; have := HB5.out.size; omega
          case measure => simp [intOf]; omega
        · obtain rfl : i = n := by omega
          obtain ⟨Y1, Y2, Y3⟩ := hX.out
          have y0 : wr.cell? ⟨G, 0, none⟩ = some (.int .i64 k) := by simp only [World.cell?, Y1]; rfl
          have y1 : wr.cell? ⟨G, 1, none⟩ = some (.bool e) := by simp only [World.cell?, Y1]; rfl
          have y2 : wr.cell? ⟨G, 2, none⟩ = some (.string t) := by simp only [World.cell?, Y1]; rfl
          have y3 : wr.cell? ⟨G, 3, none⟩ = some (.slice x i c) := by simp only [World.cell?, Y1]; rfl
          have z3 : wr.frozen? ⟨G, 3, none⟩ = false := by unfold World.frozen?; rw [Y1]; simp
          have u0 : wr.cell? ⟨G + 1, 0, none⟩ = some (.int .i64 0) := by simp only [World.cell?, Y2]; rfl
          have u1 : wr.cell? ⟨G + 1, 1, none⟩ = some (.bool false) := by simp only [World.cell?, Y2]; rfl
          have u2 : wr.cell? ⟨G + 1, 2, none⟩ = some (.string ⟨#[]⟩) := by simp only [World.cell?, Y2]; rfl
          have u3 : wr.cell? ⟨G + 1, 3, none⟩ = some (.slice none 0 0) := by simp only [World.cell?, Y2]; rfl
          have v0 : wr.frozen? ⟨G + 1, 0, none⟩ = false := by unfold World.frozen?; rw [Y2]; simp
          have v1 : wr.frozen? ⟨G + 1, 1, none⟩ = false := by unfold World.frozen?; rw [Y2]; simp
          have v2 : wr.frozen? ⟨G + 1, 2, none⟩ = false := by unfold World.frozen?; rw [Y2]; simp
          have v3 : wr.frozen? ⟨G + 1, 3, none⟩ = false := by unfold World.frozen?; rw [Y2]; simp
          clear Y1 Y2
          go_wp2
          have hb4 := World.cell?_setCells_in (G + 1) [Value.int .i64 k, .bool e, .string t, .slice (some ⟨G + 1 + 1, 0, none⟩) i i] 0 (wr.setCell ⟨G, 3, none⟩ (.slice (some ⟨G + 1 + 1, 0, none⟩) i i)) (fun j hj => by
            have hj' : j < 4 := hj
            rw [World.cell?_setCell_other (w := wr) (a := ⟨G, 3, none⟩) (b := ⟨G + 1, 0 + j, none⟩) (h := fun h => by injection h with h1; omega), Nat.zero_add]
            match j, hj' with
            | 0, _ => rw [u0]; rfl
            | 1, _ => rw [u1]; rfl
            | 2, _ => rw [u2]; rfl
            | 3, _ => rw [u3]; rfl)
          have w0' := hb4 0 (by show 0 < 4; omega)
          have w1' := hb4 1 (by show 1 < 4; omega)
          have w2' := hb4 2 (by show 2 < 4; omega)
          have w3' := hb4 3 (by show 3 < 4; omega)
          have HH : ∀ q, q ≠ G → q ≠ G + 1 → ((wr.setCell ⟨G, 3, none⟩ (.slice (some ⟨G + 1 + 1, 0, none⟩) i i)).setCells (G + 1) 0 [.int .i64 k, .bool e, .string t, .slice (some ⟨G + 1 + 1, 0, none⟩) i i]).heap[q]? = wr.heap[q]? := fun q h1 h2 => (heapE_setCells _ _ _ q h2 _).trans (Below.heap_setCell wr ⟨G, 3, none⟩ _ q h1)
          have HS : ((wr.setCell ⟨G, 3, none⟩ (.slice (some ⟨G + 1 + 1, 0, none⟩) i i)).setCells (G + 1) 0 [.int .i64 k, .bool e, .string t, .slice (some ⟨G + 1 + 1, 0, none⟩) i i]).heap.size = wr.heap.size := (sizeE_setCells _ _ _ _).trans (World.size_setCell _ _ _)
          have HL : Below w.heap.size w ((wr.setCell ⟨G, 3, none⟩ (.slice (some ⟨G + 1 + 1, 0, none⟩) i i)).setCells (G + 1) 0 [.int .i64 k, .bool e, .string t, .slice (some ⟨G + 1 + 1, 0, none⟩) i i]) := belowE_setCells _ _ _ (by rw [HG.out]; omega) (hB.out.setCell (by rw [HG.out]; exact Nat.le_refl _) _)
          change bodyPost _ _ _ _ _ ((wr.setCell ⟨G, 3, none⟩ (.slice (some ⟨G + 1 + 1, 0, none⟩) i i)).setCells (G + 1) 0 [.int .i64 k, .bool e, .string t, .slice (some ⟨G + 1 + 1, 0, none⟩) i i])
          generalize (wr.setCell ⟨G, 3, none⟩ (.slice (some ⟨G + 1 + 1, 0, none⟩) i i)).setCells (G + 1) 0 [.int .i64 k, .bool e, .string t, .slice (some ⟨G + 1 + 1, 0, none⟩) i i] = W at *
          clear hb4
          simp only [Nat.zero_add] at w0' w1' w2' w3'
          have hKW : Ke W (G + 1 + 1) (G + 1 + 1) i i ns ks := by
            obtain ⟨cs, zs, fq, h1, h2, h3, h4⟩ := hK.out
            exact ⟨cs, zs, fq, own_same h1 (fun x hx => by simp [blkL, Value.ownBlock] at hx; rw [hx]; exact HH _ (by omega) (by omega)), h2, KidV.same _ _ _ _ h3 (fun x hx => HH x (by have := (KidV.lt _ _ _ _ h3 x hx).1; omega) (by have := (KidV.lt _ _ _ _ h3 x hx).1; omega)), h4⟩
          obtain ⟨fp, hf1, hf2⟩ := hKW.full LL.out.1 LL.out.2 k e t
          exact bodyPost_ret (v := .agg #[.int .i64 k, .bool e, .string t, .slice (some ⟨G + 1 + 1, 0, none⟩) i i]) (by simp [results, Try.results45, go_sem, w0', w1', w2', w3']) rfl ⟨⟨_, fp, rfl, TrV.low (by rw [HG.out]; omega) _ _ _ hf1, hf2⟩, HL⟩

end Go.Proofs.Ytljcbibcdajhiaa
/- depottop's equal of trees, walked (own text of the verifier). -/
namespace Go.Proofs.Ytljcbibcdajhiaa
open Go.RowKit

set_option maxHeartbeats 8000000 in
theorem topeq_any (m : Nat) : EqAt 13 m := by
  induction m with
  | zero => intro u v S T w h; exact h.elim
  | succ m IH =>
    rintro u v ⟨k, e, t, ns, ks⟩ ⟨k', e', t', ns', ks'⟩ w ⟨x, n, c, rfl, l1, l2, l3, l4, hx⟩ ⟨y, n', c', rfl, l1', l2', l3', l4', hy⟩
    have BW : ∀ o1 o2, Below w.heap.size w ((w.alloc o1).alloc o2) := fun o1 o2 => ((Below.refl _ _).alloc (Nat.le_refl _) o1).alloc (by rw [World.size_alloc]; omega) o2
    have EX : Hid (Ents w m x n ns ks) := At.ents hx
    have EY : Hid (Ents w m y n' ns' ks') := At.ents hy
    have LL : Hid (ns.length = n ∧ ks.length = n ∧ ns'.length = n' ∧ ks'.length = n') := ⟨l1, l2, l1', l2'⟩
    have HQ : Hid (Tr.mk k e t ns ks = Tr.mk k' e' t' ns' ks' ↔ k = k' ∧ e = e' ∧ t = t' ∧ ns = ns' ∧ ks = ks') := by unfold Hid; simp
    clear hx hy l1 l2 l1' l2'
    by_cases h1 : k = k' ∧ e = e' ∧ t = t' ∧ n = n'
    · obtain ⟨rfl, rfl, rfl, rfl⟩ := h1
      have HQ1 : Hid (Tr.mk k e t ns ks = Tr.mk k e t ns' ks' ↔ ns = ns' ∧ ks = ks') := HQ.out.trans ⟨fun h => h.2.2.2, fun h => ⟨rfl, rfl, rfl, h⟩⟩
      clear HQ
      have q1 : (k != k) = false := by simp
      have q2 : (e != e) = false := by simp
      have q3 : (t.toList == t.toList) = true := by simp
      have q4 : ((n : Int) != (n : Int)) = false := by simp
      go_enter Try.func13, Try.ntmps13
      go_wp2
      have B0 := BW (Obj.cells #[.int .i64 k, .bool e, .string t, .slice x n c] 25) (Obj.cells #[.int .i64 k, .bool e, .string t, .slice y n c'] 25)
      have hs0 : (w.alloc (Obj.cells #[.int .i64 k, .bool e, .string t, .slice x n c] 25)).heap.size = w.heap.size + 1 := World.size_alloc _ _
      have hs1 : ((w.alloc (Obj.cells #[.int .i64 k, .bool e, .string t, .slice x n c] 25)).alloc (Obj.cells #[.int .i64 k, .bool e, .string t, .slice y n c'] 25)).heap.size = w.heap.size + 1 + 1 := by rw [World.size_alloc, hs0]
      have C1 : ((w.alloc (Obj.cells #[.int .i64 k, .bool e, .string t, .slice x n c] 25)).alloc (Obj.cells #[.int .i64 k, .bool e, .string t, .slice y n c'] 25)).cell? ⟨w.heap.size, 3, none⟩ = some (.slice x n c) := by
        rw [World.cell?_alloc_old _ _ _ (by rw [hs0]; show w.heap.size ≠ _; omega), World.cell?_alloc_new]; rfl
      have C2 : ((w.alloc (Obj.cells #[.int .i64 k, .bool e, .string t, .slice x n c] 25)).alloc (Obj.cells #[.int .i64 k, .bool e, .string t, .slice y n c'] 25)).cell? ⟨w.heap.size + 1, 3, none⟩ = some (.slice y n c') := by
        rw [← hs0, World.cell?_alloc_new]; rfl
      obtain ⟨G, hG⟩ : ∃ G, w.heap.size = G := ⟨_, rfl⟩
      have HG : Hid (w.heap.size = G) := hG
      clear hs0
      generalize (w.alloc (Obj.cells #[.int .i64 k, .bool e, .string t, .slice x n c] 25)).alloc (Obj.cells #[.int .i64 k, .bool e, .string t, .slice y n c'] 25) = w0 at *
      rw [hG] at C1 C2 hs1 ⊢
      have B0' : Hid (Below w.heap.size w w0) := B0
      clear hG BW B0
      go_loopw [37] (fun xi wr => ∃ i : Nat, i ≤ n ∧ xi = .int .i64 i ∧ Hid (∀ j, j < i → ns[j]? = ns'[j]? ∧ ks[j]? = ks'[j]?) ∧ Hid (Below w0.heap.size w0 wr)) (fun i _ => n - (intOf i).toNat)
      case atStart => exact ⟨0, Nat.zero_le _, rfl, fun j hj => absurd hj (by omega), Below.refl _ _⟩
      case round =>
        obtain ⟨i, hi, rfl, hl, hB⟩ := hrel
        have D1 : wr.cell? ⟨G, 3, none⟩ = some (.slice x n c) := by rw [hB.out.cell (p := ⟨G, 3, none⟩) (by show G < _; omega)]; exact C1
        have D2 : wr.cell? ⟨G + 1, 3, none⟩ = some (.slice y n c') := by rw [hB.out.cell (p := ⟨G + 1, 3, none⟩) (by show G + 1 < _; omega)]; exact C2
        by_cases hlt : i < n
        · obtain ⟨l1, l2, l3, l4⟩ := LL.out
          obtain ⟨s, hs⟩ : ∃ s, ns[i]? = some s := ⟨_, List.getElem?_eq_getElem (by omega)⟩
          obtain ⟨s', hs'⟩ : ∃ s, ns'[i]? = some s := ⟨_, List.getElem?_eq_getElem (by omega)⟩
          obtain ⟨S, hS⟩ : ∃ s, ks[i]? = some s := ⟨_, List.getElem?_eq_getElem (by omega)⟩
          obtain ⟨T, hT⟩ : ∃ s, ks'[i]? = some s := ⟨_, List.getElem?_eq_getElem (by omega)⟩
          have BR : Below w.heap.size w wr := B0'.out.trans (hB.out.mono B0'.out.size)
          obtain ⟨g, o, a, b, d, f, p, q, rfl, hg, c0, c1, c2, c3, c4, hA⟩ := EX.out.below BR i s S hlt hs hS
          obtain ⟨g', o', a', b', d', f', p', q', rfl, hg', c0', c1', c2', c3', c4', hA'⟩ := EY.out.below BR i s' T hlt hs' hT
          have HA : Hid (At wr m (.agg #[.int .i64 a, .bool b, .string d, .slice f p q]) S) := hA
          have HA' : Hid (At wr m (.agg #[.int .i64 a', .bool b', .string d', .slice f' p' q']) T) := hA'
          have HE : Hid (ns[i]? = some s ∧ ns'[i]? = some s' ∧ ks[i]? = some S ∧ ks'[i]? = some T) := ⟨hs, hs', hS, hT⟩
          clear hA hA' hs hs' hS hT l1 l2 l3 l4 BR
          cases hst : (s.toList == s'.toList)
          · have hne : Hid (¬ s = s') := fun h => by rw [h] at hst; simp at hst
            have hsn : (s.toList != s'.toList) = true := by simp [bne, hst]
            have hsp : s.toList ≠ s'.toList := by intro h; rw [h] at hst; simp at hst
            go_upto_region 6 with fail
            go_quiet (fail)
            go_wp2
            go_ret
            refine ⟨⟨_, rfl, (fun h => by cases h), fun h => ?_⟩, ?_⟩
            · obtain ⟨e1, e2, _, _⟩ := HE.out
              rw [(HQ1.out.1 h).1, e2] at e1
              exact absurd (Option.some.inj e1).symm hne.out
            · exact belR_drewN (B0'.out.trans (hB.out.mono B0'.out.size)) _
          · have heq : Hid (s = s') := by
              rw [beq_iff_eq, Lib.toList_data, Lib.toList_data] at hst
              apply ByteArray.ext; exact Array.toList_inj.1 hst
            have hsn : (s.toList != s'.toList) = false := by simp [bne, hst]
            go_upto_region 6 with fail
            have B3 : Below wr.heap.size wr wr := Below.refl _ _
            have HA3 : Hid (At wr m (.agg #[.int .i64 a, .bool b, .string d, .slice f p q]) S) := HA
            have HA3' : Hid (At wr m (.agg #[.int .i64 a', .bool b', .string d', .slice f' p' q']) T) := HA'
            have hB3 : Hid (Below w0.heap.size w0 wr) := hB
            have d1 : wr.cell? ⟨G, 3, none⟩ = some (.slice (some ⟨g, o, none⟩) n c) := D1
            have d2 : wr.cell? ⟨G + 1, 3, none⟩ = some (.slice (some ⟨g', o', none⟩) n c') := D2
            have x0 : wr.cell? ⟨g, o + i * 5, none⟩ = some (.string s) := c0
            have x0' : wr.cell? ⟨g', o' + i * 5, none⟩ = some (.string s') := c0'
            have x1 : wr.cell? ⟨g, o + i * 5 + 1, none⟩ = some (.int .i64 a) := c1
            have x2 : wr.cell? ⟨g, o + i * 5 + 2, none⟩ = some (.bool b) := c2
            have x3 : wr.cell? ⟨g, o + i * 5 + 3, none⟩ = some (.string d) := c3
            have x4 : wr.cell? ⟨g, o + i * 5 + 4, none⟩ = some (.slice f p q) := c4
            have x1' : wr.cell? ⟨g', o' + i * 5 + 1, none⟩ = some (.int .i64 a') := c1'
            have x2' : wr.cell? ⟨g', o' + i * 5 + 2, none⟩ = some (.bool b') := c2'
            have x3' : wr.cell? ⟨g', o' + i * 5 + 3, none⟩ = some (.string d') := c3'
            have x4' : wr.cell? ⟨g', o' + i * 5 + 4, none⟩ = some (.slice f' p' q') := c4'
            have z1 : g < wr.heap.size := hg
            have z2 : g' < wr.heap.size := hg'
            have z3 : G + 1 < wr.heap.size := by have := hB3.out.size; omega
            clear B3 HA HA' D1 D2 c0 c1 c2 c3 c4 c0' c1' c2' c3' c4' hg hg' C1 C2 hs1 q1 q2 q3 q4
            have z4 : G < wr.heap.size := by omega
            have b3 : Below wr.heap.size wr wr := Below.refl _ _
            have hD : Below wr.heap.size wr wr.drew := b3.drew
            go_region_held3 (fun W => W.cell? ⟨G, 3, none⟩ = some (.slice (some ⟨g, o, none⟩) n c) ∧ W.cell? ⟨G + 1, 3, none⟩ = some (.slice (some ⟨g', o', none⟩) n c') ∧ W.cell? ⟨g, o + i * 5, none⟩ = some (.string s) ∧ W.cell? ⟨g', o' + i * 5, none⟩ = some (.string s') ∧ W.cell? ⟨g, o + i * 5 + 1, none⟩ = some (.int .i64 a) ∧ W.cell? ⟨g, o + i * 5 + 2, none⟩ = some (.bool b) ∧ W.cell? ⟨g, o + i * 5 + 3, none⟩ = some (.string d) ∧ W.cell? ⟨g, o + i * 5 + 4, none⟩ = some (.slice f p q) ∧ W.cell? ⟨g', o' + i * 5 + 1, none⟩ = some (.int .i64 a') ∧ W.cell? ⟨g', o' + i * 5 + 2, none⟩ = some (.bool b') ∧ W.cell? ⟨g', o' + i * 5 + 3, none⟩ = some (.string d') ∧ W.cell? ⟨g', o' + i * 5 + 4, none⟩ = some (.slice f' p' q') ∧ Below wr.heap.size wr W)
              (first
                | (go_split_ands
                   refine ⟨?_, ?_, ?_, ?_, ?_, ?_, ?_, ?_, ?_, ?_, ?_, ?_, ?_⟩
                   all_goals first
                     | assumption
                     | (rw [World.cell?_drew]; assumption)
                     | (exact Below.drew (by assumption))
                     | (refine (b5.cell ?_).trans ?_ <;> first | assumption | (rw [World.cell?_drew]; assumption) | (show _ < wr.heap.size; omega))
                     | (exact hD.trans (b5.mono hD.size))))
              (first
                | (go_at_call 13
                   refine (IH _ _ S T wr.drew (HA3.out.below hD) (HA3'.out.below hD)).mono ?_
                   rintro e5 w5 ⟨⟨r, rfl, hr⟩, b5⟩))
            have B5 : Hid (Below w0.heap.size w0 w5) := hB3.out.trans ((hD.trans (b5.mono hD.size)).mono hB3.out.size)
            cases r
            · have HR1 : Hid (¬ S = T) := fun h => by have := hr.2 h; cases this
              clear hr
              go_wp2
              go_ret
              refine ⟨⟨_, rfl, (fun h => by cases h), fun h => ?_⟩, B0'.out.trans (B5.out.mono B0'.out.size)⟩
              obtain ⟨_, _, e3, e4⟩ := HE.out
              rw [(HQ1.out.1 h).2, e4] at e3
              exact absurd (Option.some.inj e3).symm HR1.out
            · have HR1 : Hid (S = T) := hr.1 rfl
              clear hr
              go_wp2
              go_roundw
              case rel => exact ⟨i + 1, by omega, by go_num, fun j hj => by
                by_cases e : j = i
                · obtain ⟨e1, e2, e3, e4⟩ := HE.out
                  rw [e, e1, e2, e3, e4, heq.out, HR1.out]; exact ⟨rfl, rfl⟩
                · exact hl.out j (by omega), B5⟩
              case measure => simp [intOf]; omega
        · go_wp2
          go_ret
          obtain rfl : i = n := by omega
          refine ⟨⟨_, rfl, (fun _ => HQ1.out.2 ?_), fun _ => rfl⟩, B0'.out.trans (hB.out.mono B0'.out.size)⟩
          obtain ⟨l1, l2, l3, l4⟩ := LL.out
          refine ⟨List.ext_getElem? (fun j => ?_), List.ext_getElem? (fun j => ?_)⟩
          · by_cases e : j < i
            · exact (hl.out j e).1
            · rw [List.getElem?_eq_none (by omega), List.getElem?_eq_none (by omega)]
          · by_cases e : j < i
            · exact (hl.out j e).2
            · rw [List.getElem?_eq_none (by omega), List.getElem?_eq_none (by omega)]
    · have hne : Hid (¬ Tr.mk k e t ns ks = Tr.mk k' e' t' ns' ks') := fun h => h1 (by
        obtain ⟨a, b, c, d, _⟩ := HQ.out.1 h
        obtain ⟨l1, _, l3, _⟩ := LL.out
        exact ⟨a, b, c, by rw [← l1, ← l3, d]⟩)
      have H1 : Hid (¬ (k = k' ∧ e = e' ∧ t = t' ∧ n = n')) := h1
      clear h1 HQ EX EY LL
      by_cases hk : k = k'
      · subst hk
        have q1 : (k != k) = false := by simp
        by_cases he : e = e'
        · subst he
          have q2 : (e != e) = false := by simp
          by_cases ht : t = t'
          · subst ht
            have q3 : (t.toList == t.toList) = true := by simp
            have q4 : ((n : Int) != (n' : Int)) = true := by rw [bne_iff_ne]; exact fun h => H1.out ⟨rfl, rfl, rfl, by omega⟩
            clear H1
            go_enter Try.func13, Try.ntmps13
            go_wp2
            go_ret
            exact ⟨⟨_, rfl, (fun h => by cases h), fun h => absurd h hne.out⟩, BW _ _⟩
          · have h4 : (t.toList == t'.toList) = false := by
              rw [beq_eq_false_iff_ne]; intro h
              rw [Lib.toList_data, Lib.toList_data] at h
              exact ht (by apply ByteArray.ext; exact Array.toList_inj.1 h)
            clear H1 ht
            go_enter Try.func13, Try.ntmps13
            go_wp2
            go_ret
            exact ⟨⟨_, rfl, (fun h => by cases h), fun h => absurd h hne.out⟩, BW _ _⟩
        · clear H1
          cases e <;> cases e'
          · exact absurd rfl he
          · clear he
            go_enter Try.func13, Try.ntmps13
            go_wp2
            go_ret
            exact ⟨⟨_, rfl, (fun h => by cases h), fun h => absurd h hne.out⟩, BW _ _⟩
          · clear he
            go_enter Try.func13, Try.ntmps13
            go_wp2
            go_ret
            exact ⟨⟨_, rfl, (fun h => by cases h), fun h => absurd h hne.out⟩, BW _ _⟩
          · exact absurd rfl he
      · have h2 : (k != k') = true := by rw [bne_iff_ne]; exact hk
        clear H1 hk
        go_enter Try.func13, Try.ntmps13
        go_wp2
        go_ret
        exact ⟨⟨_, rfl, (fun h => by cases h), fun h => absurd h hne.out⟩, BW _ _⟩

end Go.Proofs.Ytljcbibcdajhiaa
/- NpL NpM NpN, joined (own text of the verifier). -/
namespace Go.Proofs.Ytljcbibcdajhiaa
open Go.RowKit

/-- The bytes of a slice that lies apart from the parser. -/
def BSl (w : World) (g : Nat) (fp : List Nat) (x : Option Addr) (u : List UInt8) : Prop := u = [] ∨ ∃ b o, x = some ⟨b, o, none⟩ ∧ b ≠ g ∧ b ∉ fp ∧ b < w.heap.size ∧ ∀ k (h : k < u.length), w.cell? ⟨b, o + k, none⟩ = some (.int .u8 ((u[k]'h).toNat : Int))
theorem PS.run_nil (p : PS) : p.run [] = p := rfl
theorem PS.run_cons (p : PS) (b : UInt8) (l : List UInt8) : p.run (b :: l) = if p.part = true ∧ p.c.next = 17 then p else if (p.step b).code ≠ 0 then p.step b else (p.step b).run l := rfl

set_option maxHeartbeats 8000000 in
set_option maxRecDepth 8000 in
theorem feed_any (g B : Nat) (p : PS) (fp : List Nat) (x : Option Addr) (c : Nat) (u : List UInt8) (w : World) (H : PW w g B p fp) (I : p.code = 0 → PI p) (hX : BSl w g fp x u) (hu : u.length ≤ 1073741824) :
    Calls Try.prog 29 #[.pointer (some ⟨g, 0, none⟩), .slice x u.length c] w fun e w' => e = .returned (.int .i64 (((p.feed u).taken : Int) - (p.taken : Int))) ∧ PM w w' g B fp (p.feed u) := by
  have HH : Hid (PW w g B p fp) := H
  obtain ⟨c0, -, c2, -, -, c5, -, -, -⟩ := H.cells
  have HX : Hid (BSl w g fp x u) := hX
  clear hX H
  by_cases hcl : p.closed = true
  · have HE : Hid (p.feed u = p) := if_pos (Or.inl hcl)
    rw [hcl] at c5
    clear hcl I
    go_enter Try.func29, Try.ntmps29
    go_wp2
    go_step3
    go_wp2
    try rw [Exit.noGoto_ret]
    go_ret
    exact ⟨by rw [HE.out, Int.sub_self]; rfl, by rw [HE.out]; exact PM.refl HH.out⟩
  have hclf : p.closed = false := by cases h : p.closed; rfl; exact absurd h hcl
  rw [hclf] at c5
  by_cases hcd : p.code = 0
  · have HI : Hid (PI p) := I hcd
    have HE : Hid (p.feed u = p.run u) := if_neg (by rintro (h | h); exact hcl h; exact h hcd)
    have HCD : Hid (p.code = 0) := hcd
    rw [hcd] at c2
    have htk := HI.out.tk
    clear I hcl hclf hcd
    go_enter Try.func29, Try.ntmps29
    go_wp2
    go_step3
    go_wp2
    go_step3
    go_wp2
    go_loopg [28] u.length (fun gk ix wr => ∃ (k : Nat) (s : PS) (fpk : List Nat), Hid (gk + k = u.length) ∧ ix = .int .i64 k ∧ Hid (PW wr g B s fpk) ∧ Hid (Ff g fp w wr) ∧ Hid (∀ x ∈ fpk, x ∈ fp ∨ w.heap.size ≤ x) ∧ Hid (PI s ∧ s.code = 0 ∧ p.run u = s.run (u.drop k) ∧ p.taken ≤ s.taken))
    case atStart => exact ⟨0, p, fp, rfl, rfl, HH, Ff.refl _ _ _, fun _ hx => Or.inl hx, HI.out, HCD.out, rfl, Nat.le_refl _⟩
    case round =>
      obtain ⟨k, s, fpk, hgk, rfl, hP, hF, hS, hI⟩ := hrel
      clear c0 c2 c5
      have hst := hI.out.1.tk
      by_cases hlt : k < u.length
      · obtain ⟨b, o, rfl, nb1, nb2, nb3, hcell⟩ := HX.out.resolve_left (fun e => by rw [e] at hlt; simp at hlt)
        have cb : wr.cell? ⟨b, o + k, none⟩ = some (.int .u8 ((u[k]'hlt).toNat : Int)) := (World.cell?_of_block (w := w) (a := ⟨b, o + k, none⟩) (hF.out.keep b nb3 nb1 nb2)).trans (hcell k hlt)
        have hdr : Hid (u.drop k = (u[k]'hlt) :: u.drop (k + 1)) := List.drop_eq_getElem_cons hlt
        clear hcell
        generalize u[k]'hlt = b0 at cb hdr
        obtain ⟨-, -, -, -, c4, -, c6, -, -⟩ := hP.out.cells
        have WH := whole_any g s.c.next wr c6
        have TC := take_any g B s fpk b0 wr hP.out hI.out.1
        have hltI : (k : Int) < (u.length : Int) := by omega
        have hgkk : k + 1 ≤ 1073741824 := by omega
        by_cases hpw : s.part = true ∧ s.c.next = 17
        · have hw17 : (s.c.next == 17) = true := by rw [hpw.2]; rfl
          have HR : Hid (p.run u = s) := by unfold Hid; rw [hI.out.2.2.1, hdr.out, PS.run_cons, if_pos hpw]
          rw [hw17] at WH
          rw [hpw.1] at c4
          clear hpw hw17 TC c6 hlt
          go_wp2_with fail
          refine WH.mono ?_
          rintro e1 w1 ⟨rfl, rfl⟩
          clear WH
          have c0 := hP.out.cells.1
          go_wp2
          try rw [Exit.noGoto_ret]
          go_ret
          exact ⟨by rw [HE.out, HR.out]; rfl, by rw [HE.out, HR.out]; exact ⟨fpk, hP.out, hF.out, hS.out⟩⟩
        · have HPW : Hid (¬ (s.part = true ∧ s.c.next = 17)) := hpw
          have hgd : s.part = false ∨ (s.part = true ∧ (s.c.next == 17) = false) := by
            cases hpt : s.part with
            | false => exact Or.inl rfl
            | true => exact Or.inr ⟨rfl, by simp; exact fun h => hpw ⟨hpt, h⟩⟩
          clear hpw
          obtain ⟨T, hT⟩ : ∃ T, s.take b0 = T := ⟨_, rfl⟩
          have HT : Hid (s.take b0 = T) := hT
          rw [hT] at TC
          clear hT c6
          obtain ⟨⟨C, F⟩, s2⟩ := T
          dsimp only at TC
          rcases hgd with hpt | ⟨hpt, hn17⟩
          · rw [hpt] at c4
            clear WH
            go_wp2_with fail
            refine TC.mono ?_
            rintro e1 w1 ⟨rfl, hp1⟩
            clear TC
            obtain ⟨fp1, P1, F1, S1⟩ := hp1
            have hP1 : Hid (PW w1 g B s2 fp1) := P1
            have hF1 : Hid (Ff g fp w w1) := hF.out.trans F1 hS.out
            have hS1 : Hid (∀ x ∈ fp1, x ∈ fp ∨ w.heap.size ≤ x) := fun x hx => by
              rcases S1 x hx with h | h
              · exact hS.out x h
              · exact Or.inr (Nat.le_trans hF.out.size h)
            have hk2 : Hid (s2.taken = s.taken) := by have := (s.take_keep b0).1; rw [HT.out] at this; exact this
            obtain ⟨c0, -, c2, c3, -, -, -, -, hfz⟩ := P1.cells
            have f0 := hfz 0 (by decide)
            have f2 := hfz 2 (by decide)
            have f3 := hfz 3 (by decide)
            rw [hk2.out] at c0
            clear P1 F1 S1 hfz hP hF hS c4
            by_cases hC : C = 0
            · subst hC
              have h0 : (s.take b0).1.1 = 0 := by rw [HT.out]
              have hse : Hid (s.step b0 = (s2.sf 0 0).sk (s.taken + 1)) := by unfold Hid; rw [PS.step_ok h0, HT.out]
              have hF0 : Hid (F = 0) := by
                have := s.take_zero b0 h0
                rw [HT.out] at this
                exact this
              have hI2 : Hid (PI ((s2.sf 0 0).sk (s.taken + 1)) ∧ p.run u = ((s2.sf 0 0).sk (s.taken + 1)).run (u.drop (k + 1))) := by
                have h1 := hI.out.1.take b0 h0
                rw [HT.out] at h1
                refine ⟨h1, ?_⟩
                rw [hI.out.2.2.1, hdr.out, PS.run_cons, if_neg HPW.out, hse.out, if_neg (by show ¬ (0 : Int) ≠ 0; decide)]
              have P3 : Hid (PW (((w1.setCell ⟨g, 2, none⟩ (.int .i64 0)).setCell ⟨g, 3, none⟩ (.int .i64 F)).setCell ⟨g, 0, none⟩ (.int .i64 ((s.taken : Int) + 1))) g B ((s2.sf 0 0).sk (s.taken + 1)) fp1) := by
                have h1 := ((hP1.out.cell 2 (.int .i64 0) (s2.sf 0 s2.fat) (by decide) (fun _ _ _ => rfl) rfl rfl rfl).cell 3 (.int .i64 0) (s2.sf 0 0) (by decide) (fun _ _ _ => rfl) rfl rfl rfl).cell 0 (.int .i64 ((s.taken : Int) + 1)) ((s2.sf 0 0).sk (s.taken + 1)) (by decide) (fun _ _ _ => rfl) rfl rfl rfl
                rw [hF0.out]
                exact h1
              have F3 : Hid (Ff g fp w (((w1.setCell ⟨g, 2, none⟩ (.int .i64 0)).setCell ⟨g, 3, none⟩ (.int .i64 F)).setCell ⟨g, 0, none⟩ (.int .i64 ((s.taken : Int) + 1)))) := ((hF1.out.set g 2 _ (Or.inl rfl)).set g 3 _ (Or.inl rfl)).set g 0 _ (Or.inl rfl)
              clear h0
              go_wp2
              go_roundg (gk - 1)
              case measure => have := hgk.out; omega
              case rel => exact ⟨k + 1, (s2.sf 0 0).sk (s.taken + 1), fp1, by have := hgk.out; unfold Hid; omega, by go_num, P3, F3, hS1, hI2.out.1, rfl, hI2.out.2, by show p.taken ≤ s.taken + 1; have := hI.out.2.2.2; omega⟩
            · have hcb : (C != 0) = true := by simp [hC]
              have h0 : (s.take b0).1.1 ≠ 0 := by rw [HT.out]; exact hC
              have HR : Hid (p.run u = s2.sf C F) := by
                unfold Hid
                rw [hI.out.2.2.1, hdr.out, PS.run_cons, if_neg HPW.out, PS.step_bad h0, HT.out, if_pos (by show C ≠ 0; exact hC)]
              have P3 : Hid (PW ((w1.setCell ⟨g, 2, none⟩ (.int .i64 C)).setCell ⟨g, 3, none⟩ (.int .i64 F)) g B (s2.sf C F) fp1) := (hP1.out.cell 2 (.int .i64 C) (s2.sf C s2.fat) (by decide) (fun _ _ _ => rfl) rfl rfl rfl).cell 3 (.int .i64 F) (s2.sf C F) (by decide) (fun _ _ _ => rfl) rfl rfl rfl
              have F3 : Hid (Ff g fp w ((w1.setCell ⟨g, 2, none⟩ (.int .i64 C)).setCell ⟨g, 3, none⟩ (.int .i64 F))) := (hF1.out.set g 2 _ (Or.inl rfl)).set g 3 _ (Or.inl rfl)
              clear h0
              go_wp2
              try rw [Exit.noGoto_ret]
              go_ret
              exact ⟨by rw [HE.out, HR.out]; show _ = Ending.returned (.int .i64 ((s2.taken : Int) - p.taken)); rw [hk2.out]; rfl, by rw [HE.out, HR.out]; exact ⟨fp1, P3.out, F3.out, hS1.out⟩⟩
          · rw [hpt] at c4
            rw [hn17] at WH
            go_wp2_with fail
            refine WH.mono ?_
            rintro e0 w0 ⟨rfl, rfl⟩
            clear WH
            go_wp2_with fail
            refine TC.mono ?_
            rintro e1 w1 ⟨rfl, hp1⟩
            clear TC
            obtain ⟨fp1, P1, F1, S1⟩ := hp1
            have hP1 : Hid (PW w1 g B s2 fp1) := P1
            have hF1 : Hid (Ff g fp w w1) := hF.out.trans F1 hS.out
            have hS1 : Hid (∀ x ∈ fp1, x ∈ fp ∨ w.heap.size ≤ x) := fun x hx => by
              rcases S1 x hx with h | h
              · exact hS.out x h
              · exact Or.inr (Nat.le_trans hF.out.size h)
            have hk2 : Hid (s2.taken = s.taken) := by have := (s.take_keep b0).1; rw [HT.out] at this; exact this
            obtain ⟨c0, -, c2, c3, -, -, -, -, hfz⟩ := P1.cells
            have f0 := hfz 0 (by decide)
            have f2 := hfz 2 (by decide)
            have f3 := hfz 3 (by decide)
            rw [hk2.out] at c0
            clear P1 F1 S1 hfz hP hF hS c4
            by_cases hC : C = 0
            · subst hC
              have h0 : (s.take b0).1.1 = 0 := by rw [HT.out]
              have hse : Hid (s.step b0 = (s2.sf 0 0).sk (s.taken + 1)) := by unfold Hid; rw [PS.step_ok h0, HT.out]
              have hF0 : Hid (F = 0) := by
                have := s.take_zero b0 h0
                rw [HT.out] at this
                exact this
              have hI2 : Hid (PI ((s2.sf 0 0).sk (s.taken + 1)) ∧ p.run u = ((s2.sf 0 0).sk (s.taken + 1)).run (u.drop (k + 1))) := by
                have h1 := hI.out.1.take b0 h0
                rw [HT.out] at h1
                refine ⟨h1, ?_⟩
                rw [hI.out.2.2.1, hdr.out, PS.run_cons, if_neg HPW.out, hse.out, if_neg (by show ¬ (0 : Int) ≠ 0; decide)]
              have P3 : Hid (PW (((w1.setCell ⟨g, 2, none⟩ (.int .i64 0)).setCell ⟨g, 3, none⟩ (.int .i64 F)).setCell ⟨g, 0, none⟩ (.int .i64 ((s.taken : Int) + 1))) g B ((s2.sf 0 0).sk (s.taken + 1)) fp1) := by
                have h1 := ((hP1.out.cell 2 (.int .i64 0) (s2.sf 0 s2.fat) (by decide) (fun _ _ _ => rfl) rfl rfl rfl).cell 3 (.int .i64 0) (s2.sf 0 0) (by decide) (fun _ _ _ => rfl) rfl rfl rfl).cell 0 (.int .i64 ((s.taken : Int) + 1)) ((s2.sf 0 0).sk (s.taken + 1)) (by decide) (fun _ _ _ => rfl) rfl rfl rfl
                rw [hF0.out]
                exact h1
              have F3 : Hid (Ff g fp w (((w1.setCell ⟨g, 2, none⟩ (.int .i64 0)).setCell ⟨g, 3, none⟩ (.int .i64 F)).setCell ⟨g, 0, none⟩ (.int .i64 ((s.taken : Int) + 1)))) := ((hF1.out.set g 2 _ (Or.inl rfl)).set g 3 _ (Or.inl rfl)).set g 0 _ (Or.inl rfl)
              clear h0
              go_wp2
              go_roundg (gk - 1)
              case measure => have := hgk.out; omega
              case rel => exact ⟨k + 1, (s2.sf 0 0).sk (s.taken + 1), fp1, by have := hgk.out; unfold Hid; omega, by go_num, P3, F3, hS1, hI2.out.1, rfl, hI2.out.2, by show p.taken ≤ s.taken + 1; have := hI.out.2.2.2; omega⟩
            · have hcb : (C != 0) = true := by simp [hC]
              have h0 : (s.take b0).1.1 ≠ 0 := by rw [HT.out]; exact hC
              have HR : Hid (p.run u = s2.sf C F) := by
                unfold Hid
                rw [hI.out.2.2.1, hdr.out, PS.run_cons, if_neg HPW.out, PS.step_bad h0, HT.out, if_pos (by show C ≠ 0; exact hC)]
              have P3 : Hid (PW ((w1.setCell ⟨g, 2, none⟩ (.int .i64 C)).setCell ⟨g, 3, none⟩ (.int .i64 F)) g B (s2.sf C F) fp1) := (hP1.out.cell 2 (.int .i64 C) (s2.sf C s2.fat) (by decide) (fun _ _ _ => rfl) rfl rfl rfl).cell 3 (.int .i64 F) (s2.sf C F) (by decide) (fun _ _ _ => rfl) rfl rfl rfl
              have F3 : Hid (Ff g fp w ((w1.setCell ⟨g, 2, none⟩ (.int .i64 C)).setCell ⟨g, 3, none⟩ (.int .i64 F))) := (hF1.out.set g 2 _ (Or.inl rfl)).set g 3 _ (Or.inl rfl)
              clear h0
              go_wp2
              try rw [Exit.noGoto_ret]
              go_ret
              exact ⟨by rw [HE.out, HR.out]; show _ = Ending.returned (.int .i64 ((s2.taken : Int) - p.taken)); rw [hk2.out]; rfl, by rw [HE.out, HR.out]; exact ⟨fp1, P3.out, F3.out, hS1.out⟩⟩
      · have hku : k = u.length := by have := hgk.out; omega
        have HR : Hid (p.run u = s) := by unfold Hid; rw [hI.out.2.2.1, hku, List.drop_length]; rfl
        have hltI : ¬ (k : Int) < (u.length : Int) := by omega
        have c0 := hP.out.cells.1
        clear hku
        go_wp2
        try rw [Exit.noGoto_ret]
        go_ret
        exact ⟨by rw [HE.out, HR.out]; rfl, by rw [HE.out, HR.out]; exact ⟨fpk, hP.out, hF.out, hS.out⟩⟩
  · have HE : Hid (p.feed u = p) := if_pos (Or.inr hcd)
    have hcb : (p.code != 0) = true := by simp [hcd]
    generalize p.code = C at *
    clear hcl hclf I
    go_enter Try.func29, Try.ntmps29
    go_wp2
    go_step3
    go_wp2
    try rw [Exit.noGoto_ret]
    go_ret
    exact ⟨by rw [HE.out, Int.sub_self]; rfl, by rw [HE.out]; exact PM.refl HH.out⟩
end Go.Proofs.Ytljcbibcdajhiaa

namespace Go.Proofs.Ytljcbibcdajhiaa
open Go.RowKit

theorem St.drew {w : World} {g : Nat} {L : List Value} (h : St w g L) : St w.drew g L := h.same (Nat.le_refl _) rfl
/-- A parser that is closed. -/
def PS.fin (p : PS) : PS := (if p.code = 0 ∧ p.c.next ≠ 17 then p.sf 4 p.taken else p).shut
/-- The tree that Close answers, and the fault. -/
def PS.ansT (p : PS) : Tr := if p.fin.code ≠ 0 then .mk 0 false ⟨#[]⟩ [] [] else p.c.root
def PS.ansF (p : PS) : Int × Int := if p.fin.code ≠ 0 then (p.fin.code, p.fin.fat) else (0, 0)

/-- A node and a fault that are handed back. -/
theorem ret_nf {f : Func} {tmps : Array Value} {W : World} {K1 K2 : Nat} {i j : Nat} {k : Int} {e : Bool} {t : ByteArray} {v : Value} {a b : Int} {R : Ending → World → Prop} (hf : f.results = #[.cell i 25, .cell j 39]) (h1 : tmps[i]?.getD undef = .pointer (some ⟨K1, 0, none⟩)) (h2 : tmps[j]?.getD undef = .pointer (some ⟨K2, 0, none⟩))
    (q : St W K1 [.int .i64 k, .bool e, .string t, v]) (q' : St W K2 [.int .i64 a, .int .i64 b]) (hR : R (.returned (.tuple #[.agg #[.int .i64 k, .bool e, .string t, v], .agg #[.int .i64 a, .int .i64 b]])) W) :
    bodyPost Try.prog f R .ret { tmps := tmps, defers := [] } W := by
  have q0 := q.get 0 _ rfl
  have q1 := q.get 1 _ rfl
  have q2 := q.get 2 _ rfl
  have q3 := q.get 3 _ rfl
  have r0 := q'.get 0 _ rfl
  have r1 := q'.get 1 _ rfl
  exact bodyPost_ret (v := .tuple #[.agg #[.int .i64 k, .bool e, .string t, v], .agg #[.int .i64 a, .int .i64 b]]) (by simp [results, hf, go_sem, h1, h2, q0, q1, q2, q3, r0, r1]) rfl hR

/-- On the way from w: the parser p, and blocks K1, K2 for what will be handed back. -/
structure TC (w W : World) (g B K1 K2 : Nat) (fp : List Nat) (p : PS) : Prop where
  pw : PW W g B p fp
  ff : Ff g fp w W
  s1 : St W K1 [.int .i64 0, .bool false, .string ⟨#[]⟩, .slice none 0 0]
  s2 : St W K2 [.int .i64 0, .int .i64 0]
  n1 : w.heap.size ≤ K1 ∧ K1 ≠ g ∧ K1 ∉ fp
  n2 : w.heap.size ≤ K2 ∧ K2 ≠ g ∧ K2 ∉ fp
  ne : K1 ≠ K2
theorem TC.start {w : World} {g B : Nat} {fp : List Nat} {p : PS} (h : PW w g B p fp) : TC w ((w.alloc (.cells #[.int .i64 0, .bool false, .string ⟨#[]⟩, .slice none 0 0] 25)).alloc (.cells #[.int .i64 0, .int .i64 0] 39)) g B w.heap.size (w.heap.size + 1) fp p := by
  have b : Below w.heap.size w ((w.alloc (.cells #[.int .i64 0, .bool false, .string ⟨#[]⟩, .slice none 0 0] 25)).alloc (.cells #[.int .i64 0, .int .i64 0] 39)) := ((Below.refl _ _).alloc (Nat.le_refl _) _).alloc (by rw [World.size_alloc]; omega) _
  have hl := h.lt
  refine ⟨h.below b, ((Ff.refl _ _ _).alloc _).alloc _, (St.new w _ _).same (by simp only [World.size_alloc]; omega) (Below.heap_alloc _ _ _ (by rw [World.size_alloc]; omega)), ?_, ⟨Nat.le_refl _, by omega, fun hm => by have := (hl.2.2 _ hm).2; omega⟩, ⟨by omega, by omega, fun hm => by have := (hl.2.2 _ hm).2; omega⟩, by omega⟩
  have := St.new (w.alloc (.cells #[.int .i64 0, .bool false, .string ⟨#[]⟩, .slice none 0 0] 25)) #[.int .i64 0, .int .i64 0] 39
  rw [World.size_alloc] at this
  exact this
theorem TC.cell {w W : World} {g B K1 K2 : Nat} {fp : List Nat} {p : PS} (h : TC w W g B K1 K2 fp p) (j : Nat) (x : Value) (p' : PS) (hj : j < 14) (e : ∀ tv ov rv, (p.cells tv ov rv).set j x = p'.cells tv ov rv) (et : p'.text = p.text) (eo : p'.c.op = p.c.op) (er : p'.c.root = p.c.root) : TC w (W.setCell ⟨g, j, none⟩ x) g B K1 K2 fp p' :=
  ⟨h.pw.cell j x p' hj e et eo er, h.ff.set g j x (Or.inl rfl), h.s1.same (by rw [World.size_setCell]; exact Nat.le_refl _) (Below.heap_setCell W _ _ K1 h.n1.2.1), h.s2.same (by rw [World.size_setCell]; exact Nat.le_refl _) (Below.heap_setCell W _ _ K2 h.n2.2.1), h.n1, h.n2, h.ne⟩
theorem TC.below {w W W' : World} {g B K1 K2 : Nat} {fp : List Nat} {p : PS} (h : TC w W g B K1 K2 fp p) (b : Below W.heap.size W W') : TC w W' g B K1 K2 fp p :=
  ⟨h.pw.below b, ⟨b.os.trans h.ff.os, b.tape.trans h.ff.tape, b.output.trans h.ff.output, Nat.le_trans h.ff.size b.size, fun i hi h1 h2 => (b.block i (Nat.lt_of_lt_of_le hi h.ff.size)).trans (h.ff.keep i hi h1 h2)⟩, h.s1.same b.size (b.block K1 h.s1.lt), h.s2.same b.size (b.block K2 h.s2.lt), h.n1, h.n2, h.ne⟩
/-- What is handed back, stored. -/
def put6 (W : World) (K1 K2 : Nat) (k : Int) (e : Bool) (t : ByteArray) (v : Value) (a b : Int) : World := ((set4 W K1 0 k e t v).setCell ⟨K2, 0, none⟩ (.int .i64 a)).setCell ⟨K2, 1, none⟩ (.int .i64 b)
theorem put6_other (W : World) (K1 K2 : Nat) (k : Int) (e : Bool) (t : ByteArray) (v : Value) (a b : Int) (i : Nat) (h1 : i ≠ K1) (h2 : i ≠ K2) : (put6 W K1 K2 k e t v a b).heap[i]? = W.heap[i]? :=
  (Below.heap_setCell _ ⟨K2, 1, none⟩ _ i h2).trans ((Below.heap_setCell _ ⟨K2, 0, none⟩ _ i h2).trans (set4_other W K1 0 k e t v i h1))
theorem put6_size (W : World) (K1 K2 : Nat) (k : Int) (e : Bool) (t : ByteArray) (v : Value) (a b : Int) : (put6 W K1 K2 k e t v a b).heap.size = W.heap.size := by
  unfold put6
  rw [World.size_setCell, World.size_setCell, set4_size]
theorem TC.out {w W : World} {g B K1 K2 : Nat} {fp : List Nat} {p : PS} (h : TC w W g B K1 K2 fp p) (k : Int) (e : Bool) (t : ByteArray) (v : Value) (a b : Int) :
    St (put6 W K1 K2 k e t v a b) K1 [.int .i64 k, .bool e, .string t, v] ∧ St (put6 W K1 K2 k e t v a b) K2 [.int .i64 a, .int .i64 b] ∧ PM w (put6 W K1 K2 k e t v a b) g B fp p := by
  have s1 : St (set4 W K1 0 k e t v) K1 [.int .i64 k, .bool e, .string t, v] := ((((h.s1.set 0 (.int .i64 k) (by show 0 < 4; decide)).set 1 (.bool e) (by show 1 < 4; decide)).set 2 (.string t) (by show 2 < 4; decide)).set 3 v (by show 3 < 4; decide)).cast rfl
  have s2 : St (set4 W K1 0 k e t v) K2 [.int .i64 0, .int .i64 0] := h.s2.same (by rw [set4_size]; exact Nat.le_refl _) (set4_other W K1 0 k e t v K2 (fun e => h.ne e.symm))
  refine ⟨s1.same ?_ ?_, ((s2.set 0 (.int .i64 a) (by show 0 < 2; decide)).set 1 (.int .i64 b) (by show 1 < 2; decide)).cast rfl, fp, ?_, ?_, fun _ hx => Or.inl hx⟩
  · unfold put6; rw [World.size_setCell, World.size_setCell]; exact Nat.le_refl _
  · exact (Below.heap_setCell _ ⟨K2, 1, none⟩ _ K1 h.ne).trans (Below.heap_setCell _ ⟨K2, 0, none⟩ _ K1 h.ne)
  · refine h.pw.same (by rw [put6_size]; exact Nat.le_refl _) (put6_other _ _ _ _ _ _ _ _ _ g (fun e => h.n1.2.1 e.symm) (fun e => h.n2.2.1 e.symm)) (fun x hx => put6_other _ _ _ _ _ _ _ _ _ x (fun e => h.n1.2.2 (e ▸ hx)) (fun e => h.n2.2.2 (e ▸ hx)))
  · exact (((((h.ff.set K1 _ _ (Or.inr (Or.inr h.n1.1))).set K1 _ _ (Or.inr (Or.inr h.n1.1))).set K1 _ _ (Or.inr (Or.inr h.n1.1))).set K1 _ _ (Or.inr (Or.inr h.n1.1))).set K2 _ _ (Or.inr (Or.inr h.n2.1))).set K2 _ _ (Or.inr (Or.inr h.n2.1))

/-- What Close answers. -/
def ClP (p : PS) (w : World) (g B : Nat) (fp : List Nat) (e : Ending) (w' : World) : Prop := (∃ v fr, e = .returned (.tuple #[.agg #[.int .i64 p.ansT.k, .bool p.ansT.e, .string p.ansT.t, v], .agg #[.int .i64 p.ansF.1, .int .i64 p.ansF.2]]) ∧ TrV w' w.heap.size p.ansT v fr ∧ fr.Nodup) ∧ PM w w' g B fp p.fin
theorem PM.drewN {w w' : World} {g B : Nat} {fp : List Nat} {p : PS} (h : PM w w' g B fp p) (q : Nat) : PM w (w'.drewN q) g B fp p := by
  obtain ⟨fp', h1, h2, h3⟩ := h
  exact ⟨fp', h1.drewN q, h2.drewN q, h3⟩
theorem PM.drew {w w' : World} {g B : Nat} {fp : List Nat} {p : PS} (h : PM w w' g B fp p) : PM w w'.drew g B fp p := h.drewN 1
theorem ClP.bad {p : PS} {w w' : World} {g B : Nat} {fp : List Nat} {a b : Int} (hc : p.fin.code = a) (ha : a ≠ 0) (hf : p.fin.fat = b) (h : PM w w' g B fp p.fin) : ClP p w g B fp (.returned (.tuple #[.agg #[.int .i64 0, .bool false, .string ⟨#[]⟩, .slice none 0 0], .agg #[.int .i64 a, .int .i64 b]])) w' := by
  have eT : p.ansT = .mk 0 false ⟨#[]⟩ [] [] := if_pos (by rw [hc]; exact ha)
  have eF : p.ansF = (a, b) := by unfold PS.ansF; rw [if_pos (by rw [hc]; exact ha), hc, hf]
  refine ⟨⟨.slice none 0 0, [], by rw [eT, eF]; rfl, ?_, by simp⟩, h⟩
  rw [eT, TrV]
  exact ⟨[], [], World.ownsRow_nil _ _ _ _, by rw [KidV]; exact ⟨rfl, rfl⟩, rfl⟩

set_option maxHeartbeats 8000000 in
set_option maxRecDepth 8000 in
theorem close_bad (g B : Nat) (p : PS) (fp : List Nat) (w : World) (H : PW w g B p fp) (hc : p.code ≠ 0) :
    Calls Try.prog 30 #[.pointer (some ⟨g, 0, none⟩)] w (ClP p w g B fp) := by
  have T0 : Hid (TC w ((w.alloc (.cells #[.int .i64 0, .bool false, .string ⟨#[]⟩, .slice none 0 0] 25)).alloc (.cells #[.int .i64 0, .int .i64 0] 39)) g B w.heap.size (w.heap.size + 1) fp p) := TC.start H
  have HFN : Hid (p.fin = p.shut) := by unfold Hid PS.fin; rw [if_neg (fun h => hc h.1)]
  have hcb : (p.code == 0) = false := by simp [hc]
  have hcn : (p.code != 0) = true := by simp [hc]
  have HC : Hid (p.code ≠ 0) := hc
  clear H
  go_enter Try.func30, Try.ntmps30
  go_upto_region 1 with fail
  obtain ⟨K1, hK1⟩ : ∃ K, w.heap.size = K := ⟨_, rfl⟩
  have hK2 : w.heap.size + 1 = K1 + 1 := by rw [hK1]
  rw [hK1] at T0 ⊢
  generalize (w.alloc (.cells #[.int .i64 0, .bool false, .string ⟨#[]⟩, .slice none 0 0] 25)).alloc (.cells #[.int .i64 0, .int .i64 0] 39) = w1 at *
  obtain ⟨-, -, c2, c3, -, c5, -, -, hfz⟩ := T0.out.pw.cells
  have f5 := hfz 5 (by decide)
  clear hfz hK2 hK1
  have T1 : Hid (TC w (w1.setCell ⟨g, 5, none⟩ (.bool true)) g B K1 (K1 + 1) fp p.shut) := T0.out.cell 5 _ p.shut (by decide) (fun _ _ _ => rfl) rfl rfl rfl
  clear T0
  go_upto_region 4 with fail
  clear c2 c3 c5 f5
  generalize w1.setCell ⟨g, 5, none⟩ (.bool true) = w2 at *
  obtain ⟨-, -, c2, c3, -, -, -, -, -⟩ := T1.out.pw.cells
  change w2.cell? ⟨g, 2, none⟩ = some (.int .i64 p.code) at c2
  change w2.cell? ⟨g, 3, none⟩ = some (.int .i64 p.fat) at c3
  have x0 := T1.out.s1.get 0 _ rfl
  have x1 := T1.out.s1.get 1 _ rfl
  have x2 := T1.out.s1.get 2 _ rfl
  have x3 := T1.out.s1.get 3 _ rfl
  have y0 := T1.out.s1.fr 0 (by show 0 < 4; decide)
  have y1 := T1.out.s1.fr 1 (by show 1 < 4; decide)
  have y2 := T1.out.s1.fr 2 (by show 2 < 4; decide)
  have y3 := T1.out.s1.fr 3 (by show 3 < 4; decide)
  have z0 := T1.out.s2.get 0 _ rfl
  have z1 := T1.out.s2.get 1 _ rfl
  have v0 := T1.out.s2.fr 0 (by show 0 < 2; decide)
  have v1 := T1.out.s2.fr 1 (by show 1 < 2; decide)
  have n1 := T1.out.n1.2.1
  have n1' : g ≠ K1 := fun e => n1 e.symm
  have n2 := T1.out.n2.2.1
  have n2' : g ≠ K1 + 1 := fun e => n2 e.symm
  go_upto_region 5 with fail
  go_region
  go_wp2
  obtain ⟨q1, q2, q3⟩ := T1.out.out 0 false ⟨#[]⟩ (.slice none 0 0) p.code p.fat
  have q1' : St (put6 w2 K1 (K1 + 1) 0 false ⟨#[]⟩ (.slice none 0 0) p.code p.fat).drew K1 [.int .i64 0, .bool false, .string ⟨#[]⟩, .slice none 0 0] := q1.drew
  have q2' : St (put6 w2 K1 (K1 + 1) 0 false ⟨#[]⟩ (.slice none 0 0) p.code p.fat).drew (K1 + 1) [.int .i64 p.code, .int .i64 p.fat] := q2.drew
  have q3' : PM w (put6 w2 K1 (K1 + 1) 0 false ⟨#[]⟩ (.slice none 0 0) p.code p.fat).drew g B fp p.fin := by rw [HFN.out]; exact q3.drew
  change bodyPost Try.prog _ _ _ _ (put6 w2 K1 (K1 + 1) 0 false ⟨#[]⟩ (.slice none 0 0) p.code p.fat).drew
  clear q1 q2 q3
  generalize (put6 w2 K1 (K1 + 1) 0 false ⟨#[]⟩ (.slice none 0 0) p.code p.fat).drew = W at *
  exact ret_nf rfl rfl rfl q1' q2' (ClP.bad (by rw [HFN.out]; rfl) HC.out (by rw [HFN.out]; rfl) q3')

set_option maxHeartbeats 8000000 in
set_option maxRecDepth 8000 in
theorem close_short (g B : Nat) (p : PS) (fp : List Nat) (w : World) (H : PW w g B p fp) (hc : p.code = 0) (hn : p.c.next ≠ 17) :
    Calls Try.prog 30 #[.pointer (some ⟨g, 0, none⟩)] w (ClP p w g B fp) := by
  have T0 : Hid (TC w ((w.alloc (.cells #[.int .i64 0, .bool false, .string ⟨#[]⟩, .slice none 0 0] 25)).alloc (.cells #[.int .i64 0, .int .i64 0] 39)) g B w.heap.size (w.heap.size + 1) fp p) := TC.start H
  have HFN : Hid (p.fin = (p.sf 4 p.taken).shut) := by unfold Hid PS.fin; rw [if_pos ⟨hc, hn⟩]
  have hnb : (p.c.next == 17) = false := by simp [hn]
  clear H
  go_enter Try.func30, Try.ntmps30
  go_upto_region 1 with fail
  obtain ⟨K1, hK1⟩ : ∃ K, w.heap.size = K := ⟨_, rfl⟩
  rw [hK1] at T0 ⊢
  generalize (w.alloc (.cells #[.int .i64 0, .bool false, .string ⟨#[]⟩, .slice none 0 0] 25)).alloc (.cells #[.int .i64 0, .int .i64 0] 39) = w1 at *
  obtain ⟨c0, -, c2, c3, -, c5, c6, -, hfz⟩ := T0.out.pw.cells
  have f5 := hfz 5 (by decide)
  have f2 := hfz 2 (by decide)
  have f3 := hfz 3 (by decide)
  rw [hc] at c2
  have WH := whole_any g p.c.next w1 c6
  rw [hnb] at WH
  clear hfz hK1 c6 hnb
  have T1 : Hid (TC w (((w1.setCell ⟨g, 2, none⟩ (.int .i64 4)).setCell ⟨g, 3, none⟩ (.int .i64 (p.taken : Int))).setCell ⟨g, 5, none⟩ (.bool true)) g B K1 (K1 + 1) fp (p.sf 4 p.taken).shut) := ((T0.out.cell 2 (.int .i64 4) (p.sf 4 p.fat) (by decide) (fun _ _ _ => rfl) rfl rfl rfl).cell 3 (.int .i64 (p.taken : Int)) (p.sf 4 p.taken) (by decide) (fun _ _ _ => rfl) rfl rfl rfl).cell 5 (.bool true) (p.sf 4 p.taken).shut (by decide) (fun _ _ _ => rfl) rfl rfl rfl
  clear T0
  go_wp2_with fail
  refine WH.mono ?_
  rintro e1 w1' ⟨rfl, rfl⟩
  clear WH
  go_upto_region 4 with fail
  clear c0 c2 c3 c5 f5 f2 f3
  generalize ((w1'.setCell ⟨g, 2, none⟩ (.int .i64 4)).setCell ⟨g, 3, none⟩ (.int .i64 (p.taken : Int))).setCell ⟨g, 5, none⟩ (.bool true) = w2 at *
  obtain ⟨-, -, c2, c3, -, -, -, -, -⟩ := T1.out.pw.cells
  change w2.cell? ⟨g, 2, none⟩ = some (.int .i64 4) at c2
  change w2.cell? ⟨g, 3, none⟩ = some (.int .i64 (p.taken : Int)) at c3
  have x0 := T1.out.s1.get 0 _ rfl
  have x1 := T1.out.s1.get 1 _ rfl
  have x2 := T1.out.s1.get 2 _ rfl
  have x3 := T1.out.s1.get 3 _ rfl
  have y0 := T1.out.s1.fr 0 (by show 0 < 4; decide)
  have y1 := T1.out.s1.fr 1 (by show 1 < 4; decide)
  have y2 := T1.out.s1.fr 2 (by show 2 < 4; decide)
  have y3 := T1.out.s1.fr 3 (by show 3 < 4; decide)
  have z0 := T1.out.s2.get 0 _ rfl
  have z1 := T1.out.s2.get 1 _ rfl
  have v0 := T1.out.s2.fr 0 (by show 0 < 2; decide)
  have v1 := T1.out.s2.fr 1 (by show 1 < 2; decide)
  have n1 := T1.out.n1.2.1
  have n1' : g ≠ K1 := fun e => n1 e.symm
  have n2 := T1.out.n2.2.1
  have n2' : g ≠ K1 + 1 := fun e => n2 e.symm
  go_upto_region 5 with fail
  go_region
  go_wp2
  obtain ⟨q1, q2, q3⟩ := T1.out.out 0 false ⟨#[]⟩ (.slice none 0 0) 4 (p.taken : Int)
  have q1' : St (put6 w2 K1 (K1 + 1) 0 false ⟨#[]⟩ (.slice none 0 0) 4 (p.taken : Int)).drew K1 [.int .i64 0, .bool false, .string ⟨#[]⟩, .slice none 0 0] := q1.drew
  have q2' : St (put6 w2 K1 (K1 + 1) 0 false ⟨#[]⟩ (.slice none 0 0) 4 (p.taken : Int)).drew (K1 + 1) [.int .i64 4, .int .i64 (p.taken : Int)] := q2.drew
  have q3' : PM w (put6 w2 K1 (K1 + 1) 0 false ⟨#[]⟩ (.slice none 0 0) 4 (p.taken : Int)).drew g B fp p.fin := by rw [HFN.out]; exact q3.drew
  change bodyPost Try.prog _ _ _ _ (put6 w2 K1 (K1 + 1) 0 false ⟨#[]⟩ (.slice none 0 0) 4 (p.taken : Int)).drew
  clear q1 q2 q3
  generalize (put6 w2 K1 (K1 + 1) 0 false ⟨#[]⟩ (.slice none 0 0) 4 (p.taken : Int)).drew = W at *
  exact ret_nf rfl rfl rfl q1' q2' (ClP.bad (by rw [HFN.out]; rfl) (by decide) (by rw [HFN.out]; rfl) q3')

set_option maxHeartbeats 8000000 in
set_option maxRecDepth 8000 in
theorem close_ok (g B : Nat) (p : PS) (fp : List Nat) (w : World) (H : PW w g B p fp) (hc : p.code = 0) (hn : p.c.next = 17) (hl : lnT p.c.root) :
    Calls Try.prog 30 #[.pointer (some ⟨g, 0, none⟩)] w (ClP p w g B fp) := by
  have T0 : Hid (TC w ((w.alloc (.cells #[.int .i64 0, .bool false, .string ⟨#[]⟩, .slice none 0 0] 25)).alloc (.cells #[.int .i64 0, .int .i64 0] 39)) g B w.heap.size (w.heap.size + 1) fp p) := TC.start H
  have HFN : Hid (p.fin = p.shut) := by unfold Hid PS.fin; rw [if_neg (fun h => h.2 hn)]
  have HCD : Hid (p.code = 0) := hc
  have HLN : Hid (lnT p.c.root) := hl
  have hnb : (p.c.next == 17) = true := by rw [hn]; rfl
  clear H hl
  go_enter Try.func30, Try.ntmps30
  go_upto_region 1 with fail
  obtain ⟨K1, hK1⟩ : ∃ K, w.heap.size = K := ⟨_, rfl⟩
  have HKW : Hid (w.heap.size = K1) := hK1
  rw [hK1] at T0 ⊢
  generalize (w.alloc (.cells #[.int .i64 0, .bool false, .string ⟨#[]⟩, .slice none 0 0] 25)).alloc (.cells #[.int .i64 0, .int .i64 0] 39) = w1 at *
  obtain ⟨c0, -, c2, c3, -, c5, c6, -, hfz⟩ := T0.out.pw.cells
  have f5 := hfz 5 (by decide)
  rw [hc] at c2
  have WH := whole_any g p.c.next w1 c6
  rw [hnb] at WH
  clear hfz hK1 c6 hnb hc hn
  have T1 : Hid (TC w (w1.setCell ⟨g, 5, none⟩ (.bool true)) g B K1 (K1 + 1) fp p.shut) := T0.out.cell 5 _ p.shut (by decide) (fun _ _ _ => rfl) rfl rfl rfl
  clear T0
  go_wp2_with fail
  refine WH.mono ?_
  rintro e1 w1' ⟨rfl, rfl⟩
  clear WH
  go_upto_region 4 with fail
  clear c0 c2 c3 c5 f5
  generalize w1'.setCell ⟨g, 5, none⟩ (.bool true) = w2 at *
  obtain ⟨-, -, c2, -, -, -, -, -, -⟩ := T1.out.pw.cells
  change w2.cell? ⟨g, 2, none⟩ = some (.int .i64 p.code) at c2
  rw [HCD.out] at c2
  -- the root
  obtain ⟨tv, ov, rv, cs, fo, fr, hpv, hfp⟩ := T1.out.pw
  have r0 : w2.cell? ⟨g, 10, none⟩ = some (.int .i64 p.c.root.k) := hpv.st.get 10 _ rfl
  have r1 : w2.cell? ⟨g, 11, none⟩ = some (.bool p.c.root.e) := hpv.st.get 11 _ rfl
  have r2 : w2.cell? ⟨g, 12, none⟩ = some (.string p.c.root.t) := hpv.st.get 12 _ rfl
  have r3 : w2.cell? ⟨g, 13, none⟩ = some rv := hpv.st.get 13 _ rfl
  obtain ⟨m, hAt⟩ := TrV.at p.c.root rv fr hpv.ro HLN.out
  obtain ⟨xr, cr, hrv⟩ := hpv.ro.shape
  have hrv : rv = .slice xr p.c.root.nms.length cr := hrv
  have CC := copyV_any m _ p.c.root w2 hAt
  rw [hrv] at r3 CC
  clear hpv hfp hAt hrv
  obtain ⟨T, hT⟩ : ∃ T, p.c.root = T := ⟨_, rfl⟩
  have HTT : Hid (p.c.root = T) := hT
  rw [hT] at r0 r1 r2 r3 CC
  clear hT
  go_wp2_with fail
  refine CC.mono ?_
  rintro e3 w3 ⟨⟨xv, fv, rfl, hTv, hNv⟩, b3⟩
  clear CC
  obtain ⟨xx, nn, cc, hxv⟩ : ∃ x n c, xv = .slice x n c := by obtain ⟨x, c, h⟩ := hTv.shape; exact ⟨x, _, c, h⟩
  subst hxv
  have T3 : Hid (TC w w3 g B K1 (K1 + 1) fp p.shut) := T1.out.below b3
  have HV : Hid (TrV w3 w2.heap.size T (.slice xx nn cc) fv ∧ fv.Nodup ∧ K1 < w2.heap.size ∧ K1 + 1 < w2.heap.size) := ⟨hTv, hNv, T1.out.s1.lt, T1.out.s2.lt⟩
  have HWS : Hid (w.heap.size ≤ w2.heap.size) := T1.out.ff.size
  clear hTv hNv b3 T1 r0 r1 r2 r3 c2
  have x0 := T3.out.s1.get 0 _ rfl
  have x1 := T3.out.s1.get 1 _ rfl
  have x2 := T3.out.s1.get 2 _ rfl
  have x3 := T3.out.s1.get 3 _ rfl
  have y0 := T3.out.s1.fr 0 (by show 0 < 4; decide)
  have y1 := T3.out.s1.fr 1 (by show 1 < 4; decide)
  have y2 := T3.out.s1.fr 2 (by show 2 < 4; decide)
  have y3 := T3.out.s1.fr 3 (by show 3 < 4; decide)
  have z0 := T3.out.s2.get 0 _ rfl
  have z1 := T3.out.s2.get 1 _ rfl
  have v0 := T3.out.s2.fr 0 (by show 0 < 2; decide)
  have v1 := T3.out.s2.fr 1 (by show 1 < 2; decide)
  go_wp2
  obtain ⟨q1, q2, q3⟩ := T3.out.out T.k T.e T.t (.slice xx nn cc) 0 0
  change bodyPost Try.prog _ _ _ _ (put6 w3 K1 (K1 + 1) T.k T.e T.t (.slice xx nn cc) 0 0)
  refine ret_nf rfl rfl rfl q1 q2 ⟨⟨.slice xx nn cc, fv, ?_, ?_, HV.out.2.1⟩, by rw [HFN.out]; exact q3⟩
  · have eT : p.ansT = T := by unfold PS.ansT; rw [if_neg (by rw [HFN.out]; show ¬ p.code ≠ 0; rw [HCD.out]; decide), HTT.out]
    have eF : p.ansF = (0, 0) := by unfold PS.ansF; rw [if_neg (by rw [HFN.out]; show ¬ p.code ≠ 0; rw [HCD.out]; decide)]
    rw [eT, eF]
  · have eT : p.ansT = T := by unfold PS.ansT; rw [if_neg (by rw [HFN.out]; show ¬ p.code ≠ 0; rw [HCD.out]; decide), HTT.out]
    rw [eT]
    refine TrV.low HWS.out _ _ _ (TrV.same _ _ _ HV.out.1 (fun b hb => put6_other _ _ _ _ _ _ _ _ _ b (fun e => ?_) (fun e => ?_)))
    · have := (TrV.lt _ _ _ HV.out.1 b hb).1; have := HV.out.2.2.1; omega
    · have := (TrV.lt _ _ _ HV.out.1 b hb).1; have := HV.out.2.2.2; omega

theorem close_any (g B : Nat) (p : PS) (fp : List Nat) (w : World) (H : PW w g B p fp) (hl : lnT p.c.root) :
    Calls Try.prog 30 #[.pointer (some ⟨g, 0, none⟩)] w (ClP p w g B fp) := by
  by_cases hc : p.code = 0
  · by_cases hn : p.c.next = 17
    · exact close_ok g B p fp w H hc hn hl
    · exact close_short g B p fp w H hc hn
  · exact close_bad g B p fp w H hc
end Go.Proofs.Ytljcbibcdajhiaa

namespace Go.Proofs.Ytljcbibcdajhiaa
open Go.RowKit

theorem Ff.below {g C : Nat} {fp : List Nat} {a b : World} (h : Ff g fp a b) (hC : C ≤ a.heap.size) (hg : C ≤ g) (hf : ∀ x ∈ fp, C ≤ x) : Below C a b :=
  ⟨h.os, h.tape, h.output, h.size, fun k hk => h.keep k (by omega) (by omega) (fun hm => by have := hf k hm; omega)⟩
theorem BSl.conv (w : World) (tl : List UInt8) (g : Nat) (fp : List Nat) (hg : g < w.heap.size) (hv : ∀ k ∈ fp, k < w.heap.size) : ∃ c w', (convert 9 37 (.string (NB.ba tl))).run Try.prog w = .ok (.slice (some ⟨w.heap.size, 0, none⟩) tl.length c) w' ∧ BSl w' g fp (some ⟨w.heap.size, 0, none⟩) tl ∧ Below w.heap.size w w' := by
  have h0 := run_bytes_of_string (P := Try.prog) w 9 37 5 (NB.ba tl) Try.underlying9 Try.underlying37 Try.underlying5
  rw [NB.ba_size] at h0
  refine ⟨_, _, h0, .inr ⟨_, 0, rfl, by omega, fun e => by have := hv _ e; omega, by rw [World.size_alloc]; show w.heap.size < w.heap.size + 1; omega, fun j hj => ?_⟩, ((Below.refl _ _).drew).alloc (Nat.le_refl _) _⟩
  rw [Nat.zero_add]
  have h1 := World.cell?_alloc_mark w.drew (bytesRow (NB.ba tl) (grownCap w tl.length 0 5)) 5 ((bytesRow (NB.ba tl) (grownCap w tl.length 0 5)).size, (bytesRow (NB.ba tl) (grownCap w tl.length 0 5)).size + 1) j
  refine h1.trans ?_
  have hj' : j < (NB.ba tl).size := by rw [NB.ba_size]; exact hj
  rw [bytesRow_at (NB.ba tl) _ j hj']
  rfl

/-- What Parse comes to. -/
def prs (l : List UInt8) : PS := (PS.new false).feed l
theorem prs_run (l : List UInt8) : prs l = (PS.new false).run l := by
  unfold prs PS.feed
  rw [if_neg]
  rintro (h | h)
  · cases h
  · exact h rfl
theorem prs_inv (l : List UInt8) : ((prs l).code = 0 → PI (prs l)) ∧ RI (prs l).c ∧ (prs l).taken ≤ l.length := by
  rw [prs_run]
  obtain ⟨a, b, _, d⟩ := run_inv l (PS.new false) (PI.new false) RI.new rfl
  exact ⟨a, b, by have : (PS.new false).taken = 0 := rfl; omega⟩
def PaP (l : List UInt8) (w : World) (e : Ending) (w' : World) : Prop := (∃ v fr, e = .returned (.tuple #[.agg #[.int .i64 (prs l).ansT.k, .bool (prs l).ansT.e, .string (prs l).ansT.t, v], .agg #[.int .i64 (prs l).ansF.1, .int .i64 (prs l).ansF.2]]) ∧ TrV w' w.heap.size (prs l).ansT v fr ∧ fr.Nodup) ∧ Below w.heap.size w w'

set_option maxHeartbeats 8000000 in
set_option maxRecDepth 8000 in
theorem parse_any (l : List UInt8) (w : World) (hl : l.length ≤ 1073741824) : Calls Try.prog 11 #[.string (NB.ba l)] w (PaP l w) := by
  have bA : Hid (Below w.heap.size w ((w.alloc (.cells #[.int .i64 0, .bool false, .string ⟨#[]⟩, .slice none 0 0] 25)).alloc (.cells #[.int .i64 0, .int .i64 0] 39))) := ((Below.refl _ _).alloc (Nat.le_refl _) _).alloc (by rw [World.size_alloc]; omega) _
  have s1 : Hid (St ((w.alloc (.cells #[.int .i64 0, .bool false, .string ⟨#[]⟩, .slice none 0 0] 25)).alloc (.cells #[.int .i64 0, .int .i64 0] 39)) w.heap.size [.int .i64 0, .bool false, .string ⟨#[]⟩, .slice none 0 0]) := (St.new w _ _).same (by simp only [World.size_alloc]; omega) (Below.heap_alloc _ _ _ (by rw [World.size_alloc]; omega))
  have s2 : Hid (St ((w.alloc (.cells #[.int .i64 0, .bool false, .string ⟨#[]⟩, .slice none 0 0] 25)).alloc (.cells #[.int .i64 0, .int .i64 0] 39)) (w.heap.size + 1) [.int .i64 0, .int .i64 0]) := by
    have := St.new (w.alloc (.cells #[.int .i64 0, .bool false, .string ⟨#[]⟩, .slice none 0 0] 25)) #[.int .i64 0, .int .i64 0] 39
    rw [World.size_alloc] at this
    exact this
  have z1 : Hid (((w.alloc (.cells #[.int .i64 0, .bool false, .string ⟨#[]⟩, .slice none 0 0] 25)).alloc (.cells #[.int .i64 0, .int .i64 0] 39)).heap.size = w.heap.size + 2) := by unfold Hid; simp only [World.size_alloc]
  go_enter Try.func11, Try.ntmps11
  go_upto_region 1 with fail
  obtain ⟨K1, hK1⟩ : ∃ K, w.heap.size = K := ⟨_, rfl⟩
  have HKW : Hid (w.heap.size = K1) := hK1
  rw [hK1] at s1 s2 z1 bA ⊢
  clear hK1
  generalize (w.alloc (.cells #[.int .i64 0, .bool false, .string ⟨#[]⟩, .slice none 0 0] 25)).alloc (.cells #[.int .i64 0, .int .i64 0] 39) = w1 at *
  have CN := newparser_any w1
  rw [z1.out] at CN
  go_wp2_with fail
  refine CN.mono ?_
  rintro e2 w2 ⟨rfl, hw2⟩
  clear CN
  have P2 : Hid (PW w2 (K1 + 2) (K1 + 3) (PS.new false) []) := by
    have := PW.new w1 false
    rw [z1.out] at this
    rw [hw2]
    exact this
  have b2 : Hid (Below w1.heap.size w1 w2) := by rw [hw2]; exact (Below.refl _ _).alloc (Nat.le_refl _) _
  clear hw2
  have hg2 : K1 + 2 < w2.heap.size := by have := P2.out.lt; omega
  obtain ⟨c, w3, hcv, hX, b3⟩ := BSl.conv w2 l (K1 + 2) [] hg2 (fun k hk => by cases hk)
  have HP3 : Hid (PW w3 (K1 + 2) (K1 + 3) (PS.new false) []) := P2.out.below b3
  have CF := feed_any (K1 + 2) (K1 + 3) (PS.new false) [] _ c l w3 HP3.out (fun _ => PI.new false) hX hl
  have B3 : Hid (Below K1 w w3 ∧ St w3 K1 [.int .i64 0, .bool false, .string ⟨#[]⟩, .slice none 0 0] ∧ St w3 (K1 + 1) [.int .i64 0, .int .i64 0]) := by
    have hb : Below w1.heap.size w1 w3 := b2.out.trans (b3.mono b2.out.size)
    exact ⟨bA.out.trans (hb.mono (by rw [z1.out]; omega)), s1.out.same hb.size (hb.block _ s1.out.lt), s2.out.same hb.size (hb.block _ s2.out.lt)⟩
  obtain ⟨D, hD⟩ : ∃ D, w2.heap.size = D := ⟨_, rfl⟩
  rw [hD] at hcv CF
  clear hX b3 s1 s2 bA z1 b2 P2 hg2 hD
  go_wp2_with fail
  refine CF.mono ?_
  rintro e4 w4 ⟨rfl, hp4⟩
  clear CF hcv
  obtain ⟨fp4, P4, F4, S4⟩ := hp4
  have hP4 : Hid (PW w4 (K1 + 2) (K1 + 3) (prs l) fp4) := P4
  have hS4 : Hid (∀ x ∈ fp4, K1 + 3 ≤ x) := fun x hx => by
    rcases S4 x hx with h | h
    · cases h
    · have := HP3.out.lt; omega
  have B4 : Hid (Below K1 w w4 ∧ St w4 K1 [.int .i64 0, .bool false, .string ⟨#[]⟩, .slice none 0 0] ∧ St w4 (K1 + 1) [.int .i64 0, .int .i64 0]) := by
    have hz := HP3.out.lt
    have hb : Below (K1 + 2) w3 w4 := F4.below (by omega) (Nat.le_refl _) (fun x hx => by cases hx)
    exact ⟨B3.out.1.trans (hb.mono (by omega)), B3.out.2.1.same hb.size (hb.block _ (by omega)), B3.out.2.2.same hb.size (hb.block _ (by omega))⟩
  clear P4 F4 S4 B3 HP3
  have CC := close_any (K1 + 2) (K1 + 3) (prs l) fp4 w4 hP4.out (prs_inv l).2.1.rt
  go_wp2_with fail
  refine CC.mono ?_
  rintro e5 w5 ⟨⟨v, fr, rfl, hT, hN⟩, hp5⟩
  clear CC
  obtain ⟨fp5, P5, F5, S5⟩ := hp5
  have B5 : Hid (Below K1 w w5 ∧ St w5 K1 [.int .i64 0, .bool false, .string ⟨#[]⟩, .slice none 0 0] ∧ St w5 (K1 + 1) [.int .i64 0, .int .i64 0]) := by
    have hz := hP4.out.lt
    have hb : Below (K1 + 2) w4 w5 := F5.below (by omega) (Nat.le_refl _) (fun x hx => by have := hS4.out x hx; omega)
    exact ⟨B4.out.1.trans (hb.mono (by omega)), B4.out.2.1.same hb.size (hb.block _ (by omega)), B4.out.2.2.same hb.size (hb.block _ (by omega))⟩
  have hz4 : Hid (K1 + 3 ≤ w4.heap.size) := hP4.out.lt.2.1
  have HV : Hid (TrV w5 w4.heap.size (prs l).ansT v fr ∧ fr.Nodup) := ⟨hT, hN⟩
  obtain ⟨xx, nn, cc, hxv⟩ : ∃ x n c, v = .slice x n c := by obtain ⟨x, c, h⟩ := hT.shape; exact ⟨x, _, c, h⟩
  subst hxv
  clear hT hN P5 F5 S5 B4 hS4 hP4
  obtain ⟨T, hTT⟩ : ∃ T, (prs l).ansT = T := ⟨_, rfl⟩
  have HTT : Hid ((prs l).ansT = T) := hTT
  obtain ⟨F, hFF⟩ : ∃ F, (prs l).ansF = F := ⟨_, rfl⟩
  have HFF : Hid ((prs l).ansF = F) := hFF
  rw [hTT] at HV
  rw [hTT, hFF]
  clear hTT hFF
  obtain ⟨f1, f2⟩ := F
  have x0 := B5.out.2.1.get 0 _ rfl
  have x1 := B5.out.2.1.get 1 _ rfl
  have x2 := B5.out.2.1.get 2 _ rfl
  have x3 := B5.out.2.1.get 3 _ rfl
  have y0 := B5.out.2.1.fr 0 (by show 0 < 4; decide)
  have y1 := B5.out.2.1.fr 1 (by show 1 < 4; decide)
  have y2 := B5.out.2.1.fr 2 (by show 2 < 4; decide)
  have y3 := B5.out.2.1.fr 3 (by show 3 < 4; decide)
  have u0 := B5.out.2.2.get 0 _ rfl
  have u1 := B5.out.2.2.get 1 _ rfl
  have v0 := B5.out.2.2.fr 0 (by show 0 < 2; decide)
  have v1 := B5.out.2.2.fr 1 (by show 1 < 2; decide)
  go_wp2
  change bodyPost Try.prog _ _ _ _ (put6 w5 K1 (K1 + 1) T.k T.e T.t (.slice xx nn cc) f1 f2)
  have q1 : St (put6 w5 K1 (K1 + 1) T.k T.e T.t (.slice xx nn cc) f1 f2) K1 [.int .i64 T.k, .bool T.e, .string T.t, .slice xx nn cc] := by
    have s1 : St (set4 w5 K1 0 T.k T.e T.t (.slice xx nn cc)) K1 [.int .i64 T.k, .bool T.e, .string T.t, .slice xx nn cc] := ((((B5.out.2.1.set 0 (.int .i64 T.k) (by show 0 < 4; decide)).set 1 (.bool T.e) (by show 1 < 4; decide)).set 2 (.string T.t) (by show 2 < 4; decide)).set 3 (.slice xx nn cc) (by show 3 < 4; decide)).cast rfl
    refine s1.same (by unfold put6; rw [World.size_setCell, World.size_setCell]; exact Nat.le_refl _) ?_
    exact (Below.heap_setCell _ ⟨K1 + 1, 1, none⟩ _ K1 (by show K1 ≠ K1 + 1; omega)).trans (Below.heap_setCell _ ⟨K1 + 1, 0, none⟩ _ K1 (by show K1 ≠ K1 + 1; omega))
  have q2 : St (put6 w5 K1 (K1 + 1) T.k T.e T.t (.slice xx nn cc) f1 f2) (K1 + 1) [.int .i64 f1, .int .i64 f2] := by
    have s2 : St (set4 w5 K1 0 T.k T.e T.t (.slice xx nn cc)) (K1 + 1) [.int .i64 0, .int .i64 0] := B5.out.2.2.same (by rw [set4_size]; exact Nat.le_refl _) (set4_other _ _ _ _ _ _ _ (K1 + 1) (by omega))
    exact ((s2.set 0 (.int .i64 f1) (by show 0 < 2; decide)).set 1 (.int .i64 f2) (by show 1 < 2; decide)).cast rfl
  refine ret_nf rfl rfl rfl q1 q2 ⟨⟨.slice xx nn cc, fr, by rw [HTT.out, HFF.out], ?_, HV.out.2⟩, ?_⟩
  · rw [HTT.out]
    refine TrV.low (by have := hz4.out; have := HKW.out; omega) _ _ _ (TrV.same _ _ _ HV.out.1 (fun b hb => put6_other _ _ _ _ _ _ _ _ _ b (fun e => ?_) (fun e => ?_)))
    · have := (TrV.lt _ _ _ HV.out.1 b hb).1; have := hz4.out; omega
    · have := (TrV.lt _ _ _ HV.out.1 b hb).1; have := hz4.out; omega
  · rw [HKW.out]
    exact (((((B5.out.1.setCell (p := ⟨K1, 0, none⟩) (Nat.le_refl _) _).setCell (p := ⟨K1, 0 + 1, none⟩) (Nat.le_refl _) _).setCell (p := ⟨K1, 0 + 2, none⟩) (Nat.le_refl _) _).setCell (p := ⟨K1, 0 + 3, none⟩) (Nat.le_refl _) _).setCell (p := ⟨K1 + 1, 0, none⟩) (Nat.le_succ _) _).setCell (p := ⟨K1 + 1, 1, none⟩) (Nat.le_succ _) _
end Go.Proofs.Ytljcbibcdajhiaa
/- NaO NqA, joined (own text of the verifier). -/
namespace Go.Proofs.Ytljcbibcdajhiaa
open Go.RowKit

/-- awake answers true. -/
def AwN : Prop := ∀ w, Calls Try.prog 4 #[] w fun e w' => e = .returned (.bool true) ∧ Below w.heap.size w w'

def T0 : Tr := .mk 3 false ⟨#[]⟩ [] []
theorem ck0 : (ckT T0).2 = 0 := by
  unfold ckT T0
  rw [vT]
  decide +kernel
theorem fw0 : fwS (wMagic :: wdT T0) = 96 := by
  unfold T0
  rw [wdT, wdL]
  · decide +kernel
  · simp
theorem ser0 : serT T0 = (NB.ba (arcT T0), 0) := by unfold serT; rw [if_neg (by rw [ck0]; decide)]
theorem arc0 : (NB.ba (arcT T0)).size = 96 := by unfold arcT; rw [NB.ba_size, frm_len, fw0]
/-- Parse reads the empty directory's archive. -/
def PaE : Prop := ∀ w, Calls Try.prog 11 #[.string (NB.ba (arcT T0))] w fun e w' => (∃ x n c, e = .returned (.tuple #[.agg #[Value.int IntKind.i64 3, Value.bool false, Value.string ⟨#[]⟩, Value.slice x n c], .agg #[Value.int IntKind.i64 0, Value.int IntKind.i64 0]])) ∧ Below w.heap.size w w'

set_option maxHeartbeats 8000000 in
set_option maxRecDepth 10000 in
theorem nawake_any (PA : PaE) : AwN := by
  intro w
  have HP : Hid PaE := PA
  clear PA
  have hA : At w 1 (.agg #[Value.int IntKind.i64 3, Value.bool false, Value.string ⟨#[]⟩, Value.slice none 0 0]) T0 := ⟨none, 0, 0, rfl, rfl, rfl, by decide, by decide, Or.inl rfl⟩
  have C1 := nserial_any 1 3 false ⟨#[]⟩ none 0 0 T0 w hA (by unfold T0; simp only [smT, smL]; decide) (by unfold T0; simp [wfT, wfL])
  rw [ser0] at C1
  obtain ⟨X, hX⟩ : ∃ X, NB.ba (arcT T0) = X := ⟨_, rfl⟩
  have hz : X.size = 96 := by rw [← hX]; exact arc0
  have C2 := HP.out
  unfold PaE at C2
  rw [hX] at C1 C2
  clear hX hA HP
  have HC2 : Hid (∀ w, Calls Try.prog 11 #[.string X] w fun e w' => (∃ x n c, e = .returned (.tuple #[.agg #[Value.int IntKind.i64 3, Value.bool false, Value.string ⟨#[]⟩, Value.slice x n c], .agg #[Value.int IntKind.i64 0, Value.int IntKind.i64 0]])) ∧ Below w.heap.size w w') := C2
  clear C2
  go_enter Try.func4, Try.ntmps4
  go_wp2_with fail
  refine C1.mono ?_
  rintro e1 w1 ⟨rfl, b1⟩
  have HB : Hid (Below w.heap.size w w1) := b1
  clear b1 C1
  go_wp2_with fail
  refine (HC2.out w1).mono ?_
  rintro e2 w2 ⟨⟨xr, nr, cr, rfl⟩, b2⟩
  have HB2 : Hid (Below w.heap.size w w2) := HB.out.trans (b2.mono HB.out.size)
  clear b2 HB
  have b3 : Below w2.heap.size w2 ((w2.alloc (Obj.cells #[Value.int IntKind.i64 3, Value.bool false, Value.string ⟨#[]⟩, Value.slice xr nr cr] 25)).alloc (Obj.cells #[Value.int IntKind.i64 0, Value.int IntKind.i64 0] 39)) := ((Below.refl _ _).alloc (Nat.le_refl _) _).alloc (by rw [World.size_alloc]; omega) _
  have HB3 : Hid (Below w.heap.size w ((w2.alloc (Obj.cells #[Value.int IntKind.i64 3, Value.bool false, Value.string ⟨#[]⟩, Value.slice xr nr cr] 25)).alloc (Obj.cells #[Value.int IntKind.i64 0, Value.int IntKind.i64 0] 39))) := HB2.out.trans (b3.mono HB2.out.size)
  clear b3
  go_wp2
  go_ret
  exact ⟨rfl, HB3.out⟩

end Go.Proofs.Ytljcbibcdajhiaa

namespace Go.Proofs.Ytljcbibcdajhiaa
open Go.RowKit

def A0 : List UInt8 := frm [wMagic, wOpen, wType, wDirectory, wClose]
theorem arc_A0 : arcT T0 = A0 := by
  unfold arcT T0 A0
  rw [wdT, wdL]
  · rfl
  · simp
theorem prs_A0 : (((prs A0).code == 0) && ((prs A0).c.next == 17) && ((prs A0).c.root.k == 3) && ((prs A0).c.root.e == false) && decide ((prs A0).c.root.t = ⟨#[]⟩) && (prs A0).c.root.nms.isEmpty && (prs A0).c.root.ks.isEmpty) = true := by decide +kernel
theorem root_A0 : (prs A0).c.root = T0 ∧ (prs A0).code = 0 ∧ (prs A0).c.next = 17 := by
  have h := prs_A0
  simp only [Bool.and_eq_true, beq_iff_eq, decide_eq_true_eq, List.isEmpty_iff] at h
  obtain ⟨⟨⟨⟨⟨⟨h1, h2⟩, h3⟩, h4⟩, h5⟩, h6⟩, h7⟩ := h
  refine ⟨?_, h1, h2⟩
  generalize (prs A0).c.root = R at *
  obtain ⟨k, e, t, nms, ks⟩ := R
  unfold T0
  simp only [Tr.k, Tr.e, Tr.t, Tr.nms, Tr.ks] at h3 h4 h5 h6 h7
  rw [h3, h4, h5, h6, h7]
theorem fin_whole {p : PS} (h1 : p.code = 0) (h2 : p.c.next = 17) : p.ansT = p.c.root ∧ p.ansF = (0, 0) := by
  have e : p.fin = p.shut := by unfold PS.fin; rw [if_neg (fun h => h.2 h2)]
  have hc : ¬ p.fin.code ≠ 0 := by rw [e]; show ¬ p.code ≠ 0; omega
  exact ⟨if_neg hc, if_neg hc⟩
theorem paE : PaE := by
  intro w
  rw [arc_A0]
  refine (parse_any A0 w (by decide +kernel)).mono ?_
  rintro e w' ⟨⟨v, fr, rfl, hT, _⟩, b⟩
  obtain ⟨r1, r2, r3⟩ := root_A0
  obtain ⟨a1, a2⟩ := fin_whole r2 r3
  rw [a1, r1] at hT ⊢
  rw [a2]
  obtain ⟨x, c, hv⟩ := hT.shape
  subst hv
  exact ⟨⟨x, _, c, rfl⟩, b⟩

theorem awN : AwN := nawake_any paE -- at 4


theorem wfL_of (P : Tr → Prop) (hP : ∀ T, P T → wfT T) : ∀ (nms : List ByteArray) (ks : List Tr), nms.length = ks.length → (∀ (j : Nat) (T : Tr), ks[j]? = some T → P T) → wfL nms ks
  | [], [], _, _ => by simp [wfL]
  | s :: nms, T :: ks, hl, h => by
    rw [wfL]
    exact ⟨hP T (h 0 T rfl), wfL_of P hP nms ks (by simpa using hl) (fun j T hj => h (j + 1) T hj)⟩
  | [], _ :: _, hl, _ => by simp at hl
  | _ :: _, [], hl, _ => by simp at hl
theorem At.wf {w : World} : ∀ (m : Nat) (v : Value) (T : Tr), At w m v T → wfT T
  | 0, _, _, h => h.elim
  | m + 1, v, .mk k e t ns ks, h => by
    obtain ⟨x, n, c, _, h1, h2, _, _, h5⟩ := h
    rw [wfT]
    refine wfL_of (fun T => ∃ v, At w m v T) (fun T hT => by obtain ⟨v, hv⟩ := hT; exact At.wf m v T hv) ns ks (by omega) (fun j T hj => ?_)
    have hjn : j < ns.length := by have := (List.getElem?_eq_some_iff.1 hj).1; omega
    rcases h5 with h5 | ⟨g, o, _, _, h6⟩
    · omega
    · obtain ⟨a, b, d, f, p, q, _, _, _, _, _, hA⟩ := h6 j ns[j] T (List.getElem?_eq_getElem hjn) hj
      exact ⟨_, hA⟩
end Go.Proofs.Ytljcbibcdajhiaa
/- depottop's pieces, walked (own text of the verifier; made by mkpc.py). -/
namespace Go.Proofs.Ytljcbibcdajhiaa
open Go.RowKit

theorem infoSTR : (Try.prog.info? 9).map (fun i => (i.zero, i.size, i.bytes)) = some (some (.string ⟨#[]⟩), 1, 16) := by kernel_rfl
theorem undLSTR : Try.prog.underlying 34 = some (.slice 9) := by kernel_rfl
/-- v is a slice of these texts, which the call itself made from block B on. -/
def Srr (w : World) (B : Nat) (v : Value) (L : List (List UInt8)) : Prop := w.ownsRow B 9 1 v L.length (L.map (fun s => Value.string (NB.ba s)))
theorem Srr.shape {w : World} {B : Nat} {v : Value} {L : List (List UInt8)} (h : Srr w B v L) : ∃ x c, v = .slice x L.length c := by
  rcases h.2 with ⟨hv, h0⟩ | ⟨q, cap, cur, hv, _⟩
  · exact ⟨none, 0, by rw [hv, h0]⟩
  · exact ⟨_, _, hv⟩
theorem Srr.at {w : World} {B : Nat} {v : Value} {L : List (List UInt8)} (h : Srr w B v L) {i : Nat} {s : List UInt8} (hr : L[i]? = some s) : ∃ g c, v = .slice (some ⟨g, 0, none⟩) L.length c ∧ B ≤ g ∧ g < w.heap.size ∧ w.cell? ⟨g, i, none⟩ = some (.string (NB.ba s)) := by
  have hi : i < L.length := (List.getElem?_eq_some_iff.1 hr).1
  obtain ⟨g, c, rfl, hb, hl⟩ := World.ownsRow.form h (by omega)
  refine ⟨g, c, rfl, hb, hl, (World.ownsRow.cellAt h _ (by omega)).trans ?_⟩
  rw [List.getElem?_map, hr]
  rfl
theorem Srr.app {w : World} {B : Nat} {v : Value} {L : List (List UInt8)} (h : Srr w B v L) (s : List UInt8) (hB : B ≤ w.heap.size) (hl : L.length ≤ 1073741824) :
    ∃ p c w', (Builtin.append_ #[34, 34] 34 #[v, .slice (some ⟨w.heap.size, 0, none⟩) 1 1]).run Try.prog (w.alloc (.cells #[.string (NB.ba s)] 9)) = .ok (.slice p (L.length + 1) c) w' ∧ Srr w' B (.slice p (L.length + 1) c) (L ++ [s]) ∧ Below B w w' := by
  obtain ⟨i0, hi, hz0, hz1, hz2⟩ := info_parts infoSTR
  have hown : (w.alloc (.cells #[.string (NB.ba s)] 9)).ownsRow B 9 1 v L.length (L.map (fun s => Value.string (NB.ba s))) := World.ownsRow.alloc h _
  obtain ⟨g, cap, w', hr, ho, hg, hat, hlt⟩ := run_append_lies (P := Try.prog) (w.alloc (.cells #[.string (NB.ba s)] 9)) 34 34 B 9 i0 (.string ⟨#[]⟩) 1 16 undLSTR hi hz0 hz1 hz2 rfl (by decide) v L.length (L.map (fun s => Value.string (NB.ba s))) hown ⟨w.heap.size, 0, none⟩ 1 1 [.string (NB.ba s)] rfl (fun j u hj => by
      rw [Addr.add_lit, Nat.zero_add]
      match j, hj with
      | 0, hj => exact (World.cell?_alloc_new w _ _ 0).trans hj) (by intro u hu; simp at hu; rcases hu with rfl; rfl) (by decide) (by unfold maxLen; omega) (by omega) (by rw [World.size_alloc]; omega) _ rfl
  refine ⟨some ⟨g, 0, none⟩, cap, w', hr, ?_, ?_⟩
  · unfold Srr
    rw [List.length_append, List.map_append]
    exact ho
  · exact ((Fk.of_below (ty := 9) ((Below.refl _ _).alloc (Nat.le_refl _) _) hB).trans (Fk.grown hown hg (by rw [World.size_alloc]; omega))).below
/-- A row of ints that is read. -/
def ISr (w : World) (x : Option Addr) (n : Nat) (f : Nat → Int) : Prop := ∀ i, i < n → ∃ a, x = some a ∧ w.cell? (a.add i) = some (.int .i64 (f i))
theorem ISr.below {w w' : World} {x : Option Addr} {n : Nat} {f : Nat → Int} (h : ISr w x n f) (b : Below w.heap.size w w') : ISr w' x n f := fun i hi => by
  obtain ⟨a, h1, h2⟩ := h i hi
  exact ⟨a, h1, (b.cell (World.block_lt_of_cell? _ _ h2)).trans h2⟩
def PcP (l : List UInt8) (m : Nat) (w : World) (e : Ending) (w' : World) : Prop := ∃ (x : Option Addr) (c : Nat) (L : List (List UInt8)), e = .returned (.slice x L.length c) ∧ Srr w' w.heap.size (.slice x L.length c) L ∧ L.flatten = l ∧ L.length = m + 1 ∧ Below w.heap.size w w'
theorem cutP (s : List UInt8) (p e : Nat) : (NB.ba s).extract p e = NB.ba ((s.drop p).take (e - p)) := by
  rw [Go.Lib.extract_eq]
  rfl
theorem take_cutP (s : List UInt8) (p e : Nat) (h1 : p ≤ e) : s.take p ++ (s.drop p).take (e - p) = s.take e := by
  have := List.take_add (l := s) (i := p) (j := e - p)
  rw [show p + (e - p) = e by omega] at this
  exact this.symm

set_option maxHeartbeats 8000000 in
set_option maxRecDepth 10000 in
theorem pieces_any (l : List UInt8) (x : Option Addr) (n cp : Nat) (f : Nat → Int) (w : World) (hx : ISr w x n f) (hb : l.length ≤ 2097152) (hn : n ≤ 1048576) :
    Calls Try.prog 8 #[.string (NB.ba l), .slice x n cp] w (PcP l n w) := by
  have hz : (NB.ba l).size = l.length := NB.ba_size l
  have HX : Hid (ISr w x n f) := hx
  clear hx
  go_enter Try.func8, Try.ntmps8
  go_wp2
  go_loopw [5, 6, 11] (fun v pv iv wr => ∃ (i p : Nat) (L : List (List UInt8)), iv = .int .i64 (i : Int) ∧ pv = .int .i64 (p : Int) ∧ i ≤ n ∧ p ≤ l.length ∧ Hid (Srr wr w.heap.size v L ∧ L.flatten = l.take p ∧ L.length = i ∧ Below w.heap.size w wr)) (fun _ _ iv _ => n - (intOf iv).toNat)
  case atStart => exact ⟨0, 0, [], rfl, rfl, Nat.zero_le _, Nat.zero_le _, ⟨by decide, Or.inl ⟨rfl, rfl⟩⟩, rfl, rfl, Below.refl _ _⟩
  case round =>
    obtain ⟨i, p, L, rfl, rfl, hi, hp, HS⟩ := hrel
    obtain ⟨xv, cv, hv⟩ := HS.out.1.shape
    have hLi : Hid (L.length = i) := HS.out.2.2.1
    rw [hLi.out] at hv
    subst hv
    by_cases hlt : i < n
    · obtain ⟨a, ha, hc⟩ := (HX.out.below HS.out.2.2.2) i hlt
      subst ha
      obtain ⟨d, hd⟩ : ∃ d : Nat, l.length = p + d := ⟨l.length - p, by omega⟩
      have hdI : (l.length : Int) - (p : Int) = (d : Int) := by omega
      by_cases hbad : f i < 0 ∨ (d : Int) < f i
      · have hE : (p : Int) + (d : Int) = (l.length : Int) := by omega
        clear hd
        by_cases hneg : f i < 0
        · skip
          have hex := cutP l p l.length
          obtain ⟨p2, c2, w2, hap, hS2, hB2⟩ := HS.out.1.app ((l.drop p).take (l.length - p)) HS.out.2.2.2.size (by rw [hLi.out]; omega)
          rw [hLi.out] at hap
          have H2 : Hid (Srr w2 w.heap.size (.slice p2 (i + 1) c2) (L ++ [(l.drop p).take (l.length - p)]) ∧ (L ++ [(l.drop p).take (l.length - p)]).flatten = l.take l.length ∧ (L ++ [(l.drop p).take (l.length - p)]).length = i + 1 ∧ Below w.heap.size w w2) := by
            refine ⟨by rw [← hLi.out]; exact hS2, ?_, by rw [List.length_append, hLi.out]; rfl, HS.out.2.2.2.trans hB2⟩
            rw [List.flatten_append, HS.out.2.1]
            show _ ++ ((l.drop p).take (l.length - p) ++ []) = _
            rw [List.append_nil, take_cutP l p l.length (by omega)]
          clear hS2 hB2
          generalize (l.drop p).take (l.length - p) = sx at *
          go_wp2_with (first | (refine wpList_app_is (by rfl) 34 34 (.tmp 29) (.tmp 36) (by rfl) _ _ _ _ (by rfl) (by rfl) hap ?_))
          go_roundw
          case rel => exact ⟨i + 1, l.length, L ++ [sx], by go_num, by first | go_num | rfl, by omega, by omega, H2.out⟩
          case measure => simp [intOf]; omega
        · have hbig : (d : Int) < f i := hbad.resolve_left hneg
          have hex := cutP l p l.length
          obtain ⟨p2, c2, w2, hap, hS2, hB2⟩ := HS.out.1.app ((l.drop p).take (l.length - p)) HS.out.2.2.2.size (by rw [hLi.out]; omega)
          rw [hLi.out] at hap
          have H2 : Hid (Srr w2 w.heap.size (.slice p2 (i + 1) c2) (L ++ [(l.drop p).take (l.length - p)]) ∧ (L ++ [(l.drop p).take (l.length - p)]).flatten = l.take l.length ∧ (L ++ [(l.drop p).take (l.length - p)]).length = i + 1 ∧ Below w.heap.size w w2) := by
            refine ⟨by rw [← hLi.out]; exact hS2, ?_, by rw [List.length_append, hLi.out]; rfl, HS.out.2.2.2.trans hB2⟩
            rw [List.flatten_append, HS.out.2.1]
            show _ ++ ((l.drop p).take (l.length - p) ++ []) = _
            rw [List.append_nil, take_cutP l p l.length (by omega)]
          clear hS2 hB2
          generalize (l.drop p).take (l.length - p) = sx at *
          go_wp2_with (first | (refine wpList_app_is (by rfl) 34 34 (.tmp 29) (.tmp 36) (by rfl) _ _ _ _ (by rfl) (by rfl) hap ?_))
          go_roundw
          case rel => exact ⟨i + 1, l.length, L ++ [sx], by go_num, by first | go_num | rfl, by omega, by omega, H2.out⟩
          case measure => simp [intOf]; omega
      · obtain ⟨q, hq⟩ : ∃ q : Nat, f i = (q : Int) := ⟨(f i).toNat, by omega⟩
        rw [hq] at hc hbad
        obtain ⟨e, he⟩ : ∃ e : Nat, e = p + q := ⟨_, rfl⟩
        have hE : (p : Int) + (q : Int) = (e : Int) := by omega
        have hn1 : ¬ (q : Int) < 0 := by omega
        have hn2 : ¬ (d : Int) < (q : Int) := by omega
        have hpe : p ≤ e := by omega
        have hel : e ≤ l.length := by omega
        clear hbad he hq hd
        have hex := cutP l p e
        obtain ⟨p2, c2, w2, hap, hS2, hB2⟩ := HS.out.1.app ((l.drop p).take (e - p)) HS.out.2.2.2.size (by rw [hLi.out]; omega)
        rw [hLi.out] at hap
        have H2 : Hid (Srr w2 w.heap.size (.slice p2 (i + 1) c2) (L ++ [(l.drop p).take (e - p)]) ∧ (L ++ [(l.drop p).take (e - p)]).flatten = l.take e ∧ (L ++ [(l.drop p).take (e - p)]).length = i + 1 ∧ Below w.heap.size w w2) := by
          refine ⟨by rw [← hLi.out]; exact hS2, ?_, by rw [List.length_append, hLi.out]; rfl, HS.out.2.2.2.trans hB2⟩
          rw [List.flatten_append, HS.out.2.1]
          show _ ++ ((l.drop p).take (e - p) ++ []) = _
          rw [List.append_nil, take_cutP l p e (by omega)]
        clear hS2 hB2
        generalize (l.drop p).take (e - p) = sx at *
        go_wp2_with (first | (refine wpList_app_is (by rfl) 34 34 (.tmp 29) (.tmp 36) (by rfl) _ _ _ _ (by rfl) (by rfl) hap ?_))
        go_roundw
        case rel => exact ⟨i + 1, e, L ++ [sx], by go_num, by first | go_num | rfl, by omega, by omega, H2.out⟩
        case measure => simp [intOf]; omega
    · obtain rfl : i = n := by omega
      have hex := cutP l p l.length
      obtain ⟨p2, c2, w2, hap, hS2, hB2⟩ := HS.out.1.app ((l.drop p).take (l.length - p)) HS.out.2.2.2.size (by rw [hLi.out]; omega)
      rw [hLi.out] at hap
      have H2 : Hid (Srr w2 w.heap.size (.slice p2 (L.length + 1) c2) (L ++ [(l.drop p).take (l.length - p)]) ∧ Below w.heap.size w w2) := ⟨hS2, HS.out.2.2.2.trans hB2⟩
      have HF : Hid ((L ++ [(l.drop p).take (l.length - p)]).flatten = l ∧ (L ++ [(l.drop p).take (l.length - p)]).length = i + 1) := by
        refine ⟨?_, by rw [List.length_append, hLi.out]; rfl⟩
        rw [List.flatten_append, HS.out.2.1]
        show _ ++ ((l.drop p).take (l.length - p) ++ []) = l
        rw [List.append_nil, take_cutP l p l.length hp, List.take_length]
      clear hS2 hB2
      generalize (l.drop p).take (l.length - p) = sx at *
      go_wp2_with (first | (refine wpList_app_is (by rfl) 34 34 (.tmp 42) (.tmp 46) (by rfl) _ _ _ _ (by rfl) (by rfl) hap ?_))
      go_ret
      refine ⟨p2, c2, L ++ [sx], ?_, ?_, HF.out.1, HF.out.2, H2.out.2⟩
      · rw [HF.out.2]; rfl
      · have := H2.out.1
        rw [hLi.out] at this
        rw [HF.out.2]
        exact this
end Go.Proofs.Ytljcbibcdajhiaa
/- The parser's machine over framed words (plain; own text of the verifier). -/
namespace Go.Proofs.Ytljcbibcdajhiaa
open Go.RowKit

/-- The number of little-endian bytes. -/
def leN : List UInt8 → Nat
  | [] => 0
  | b :: l => b.toNat + 256 * leN l
theorem leN_snoc (l : List UInt8) (b : UInt8) : leN (l ++ [b]) = leN l + b.toNat * 2 ^ (8 * l.length) := by
  induction l with
  | nil => show b.toNat + 256 * 0 = 0 + b.toNat * 2 ^ 0; omega
  | cons a l ih =>
    show a.toNat + 256 * leN (l ++ [b]) = a.toNat + 256 * leN l + b.toNat * 2 ^ (8 * (l.length + 1))
    rw [ih, Nat.mul_add 8, Nat.pow_add, Nat.mul_add]
    have : 256 * (b.toNat * 2 ^ (8 * l.length)) = b.toNat * (2 ^ (8 * l.length) * 2 ^ (8 * 1)) := by
      rw [← Nat.mul_assoc, Nat.mul_comm 256, Nat.mul_assoc, Nat.mul_comm 256]
    omega
/-- The first k bytes of n. -/
def lek (n : Nat) : Nat → List UInt8
  | 0 => []
  | k + 1 => UInt8.ofNat (n % 256) :: lek (n / 256) k
theorem lek_len (n : Nat) : ∀ k, (lek n k).length = k := by
  intro k
  induction k generalizing n with
  | zero => rfl
  | succ k ih => show (lek (n / 256) k).length + 1 = k + 1; rw [ih]
theorem leN_lek : ∀ (k n : Nat), leN (lek n k) = n % 256 ^ k
  | 0, n => by show 0 = n % 1; omega
  | k + 1, n => by
    show (UInt8.ofNat (n % 256)).toNat + 256 * leN (lek (n / 256) k) = n % 256 ^ (k + 1)
    have e1 : (UInt8.ofNat (n % 256)).toNat = n % 256 := by
      rw [UInt8.toNat_ofNat']
      exact Nat.mod_mod _ _
    have e2 : 256 ^ (k + 1) = 256 * 256 ^ k := by rw [Nat.pow_succ, Nat.mul_comm]
    rw [leN_lek k (n / 256), e1, e2, Nat.mod_mul]
theorem leN_lek8 (n : Nat) (h : n ≤ 1048576) : leN (lek n 8) = n := by
  rw [leN_lek]
  exact Nat.mod_eq_of_lt (Nat.lt_of_le_of_lt h (by decide))
/-- A framed word. -/
def fr8 (s : List UInt8) : List UInt8 := lek s.length 8 ++ (s ++ List.replicate (padN s.length) 0)
theorem fr8_len (s : List UInt8) : (fr8 s).length = 8 + s.length + padN s.length := by
  unfold fr8
  rw [List.length_append, List.length_append, lek_len, List.length_replicate]
  omega
theorem fr8_take8 (s : List UInt8) : (fr8 s).take 8 = lek s.length 8 := by
  unfold fr8
  rw [List.take_append_of_le_length (by rw [lek_len]; exact Nat.le_refl _), List.take_of_length_le (by rw [lek_len]; exact Nat.le_refl _)]
theorem fr8_drop8 (s : List UInt8) : (fr8 s).drop 8 = s ++ List.replicate (padN s.length) 0 := by
  unfold fr8
  rw [List.drop_append_of_le_length (by rw [lek_len]; exact Nat.le_refl _), List.drop_of_length_le (by rw [lek_len]; exact Nat.le_refl _)]
  rfl

/-- In the midst of a word: l came of it. -/
def PS.mid (p : PS) (l : List UInt8) : PS := ⟨p.taken + l.length, l.length, 0, 0, p.part, p.closed, leN (l.take 8), (l.drop 8).take (leN (l.take 8)), p.c⟩
/-- Behind a whole word. -/
def PS.nxt (p : PS) (n : Nat) (c : PC) : PS := ⟨p.taken + n, 0, 0, 0, p.part, p.closed, 0, [], c⟩
/-- The word that l is the frame of. -/
def wrd (l : List UInt8) : List UInt8 := (l.drop 8).take (leN (l.take 8))

theorem ends_go {q : PS} (h : q.held + 1 ≠ 8 + q.len + padN q.len) : q.ends = ((0, 0), q.sh (q.held + 1)) := by unfold PS.ends; rw [if_pos h]
theorem ends_ok {q : PS} (h : q.held + 1 = 8 + q.len + padN q.len) (ha : (q.c.accept (NB.ba q.text)).1 = 0) : q.ends = ((0, 0), (((q.sc (q.c.accept (NB.ba q.text)).2).sh 0).sl 0).st []) := by unfold PS.ends; rw [if_neg (by omega), if_neg (by omega)]
theorem ends_bad {q : PS} (h : q.held + 1 = 8 + q.len + padN q.len) (ha : (q.c.accept (NB.ba q.text)).1 ≠ 0) : q.ends = (((q.c.accept (NB.ba q.text)).1, (q.taken : Int) - q.held), q.sc (q.c.accept (NB.ba q.text)).2) := by unfold PS.ends; rw [if_neg (by omega), if_pos ha]

/-- What a byte is put to. -/
theorem put_mid (p : PS) (l : List UInt8) (b : UInt8) (h1 : l.length = 7 → leN (l ++ [b]) ≤ 1048576) (h2 : 8 ≤ l.length → leN (l.take 8) ≤ l.length - 8 → b = 0) :
    (p.mid l).put b = ((0, 0), (⟨p.taken + l.length, l.length, 0, 0, p.part, p.closed, leN ((l ++ [b]).take 8), wrd (l ++ [b]), p.c⟩ : PS)) := by
  unfold PS.put
  by_cases h8 : l.length < 8
  · have hn : (p.mid l).nl b = leN ((l ++ [b]).take 8) := by
      unfold PS.nl PS.mid
      show leN (l.take 8) + b.toNat * 2 ^ (8 * l.length) = _
      rw [List.take_of_length_le (by omega), List.take_of_length_le (by rw [List.length_append]; show l.length + 1 ≤ 8; omega), leN_snoc]
    have h7 : ¬ ((p.mid l).held = 7 ∧ 1048576 < (p.mid l).nl b) := fun h => by
      have h3 := h1 h.1
      have h4 := h.2
      rw [hn, List.take_of_length_le (by rw [List.length_append]; show l.length + 1 ≤ 8; omega)] at h4
      omega
    rw [if_pos (show (p.mid l).held < 8 from h8), if_neg h7, hn]
    have e1 : (l.drop 8).take (leN (l.take 8)) = [] := by rw [List.drop_of_length_le (by omega)]; simp
    have e2 : wrd (l ++ [b]) = [] := by unfold wrd; rw [List.drop_of_length_le (by rw [List.length_append]; show l.length + 1 ≤ 8; omega)]; simp
    show ((0, 0), (⟨p.taken + l.length, l.length, 0, 0, p.part, p.closed, leN ((l ++ [b]).take 8), (l.drop 8).take (leN (l.take 8)), p.c⟩ : PS)) = _
    rw [e1, e2]
  · have e8 : (l ++ [b]).take 8 = l.take 8 := List.take_append_of_le_length (by omega)
    have ed : (l ++ [b]).drop 8 = l.drop 8 ++ [b] := List.drop_append_of_le_length (by omega)
    rw [if_neg (show ¬ (p.mid l).held < 8 from h8)]
    have hl : (p.mid l).text.length = min (leN (l.take 8)) (l.length - 8) := by
      show ((l.drop 8).take (leN (l.take 8))).length = _
      rw [List.length_take, List.length_drop]
    have hlen : (p.mid l).len = leN (l.take 8) := rfl
    rw [hl, hlen]
    unfold wrd
    rw [e8, ed]
    by_cases hlt : min (leN (l.take 8)) (l.length - 8) < leN (l.take 8)
    · rw [if_pos hlt]
      have e3 : (l.drop 8 ++ [b]).take (leN (l.take 8)) = (l.drop 8).take (leN (l.take 8)) ++ [b] := by
        rw [List.take_of_length_le (by rw [List.length_append, List.length_drop]; show l.length - 8 + 1 ≤ _; omega), List.take_of_length_le (by rw [List.length_drop]; omega)]
      rw [e3]
      rfl
    · rw [if_neg hlt, if_neg (by have := h2 (by omega) (by omega); simp [this])]
      rw [List.take_append_of_le_length (by rw [List.length_drop]; omega)]
      rfl

/-- A byte of a word, not the last. -/
theorem step_go (p : PS) (l : List UInt8) (b : UInt8) (hn : p.c.next ≠ 17) (ht : p.taken + l.length < 1048576) (h1 : l.length = 7 → leN (l ++ [b]) ≤ 1048576) (h2 : 8 ≤ l.length → leN (l.take 8) ≤ l.length - 8 → b = 0)
    (he : l.length + 1 ≠ 8 + leN ((l ++ [b]).take 8) + padN (leN ((l ++ [b]).take 8))) : (p.mid l).step b = p.mid (l ++ [b]) := by
  have e : (p.mid l).take b = ((0, 0), (⟨p.taken + l.length, l.length + 1, 0, 0, p.part, p.closed, leN ((l ++ [b]).take 8), wrd (l ++ [b]), p.c⟩ : PS)) := by
    unfold PS.take
    rw [if_neg (show ¬ (p.mid l).c.next = 17 from hn), if_neg (show ¬ (p.mid l).taken = 1048576 from by show ¬ p.taken + l.length = 1048576; omega), put_mid p l b h1 h2, if_neg (by show ¬ (0 : Int) ≠ 0; decide)]
    exact ends_go he
  rw [PS.step_ok (by rw [e]), e]
  show (⟨p.taken + l.length + 1, l.length + 1, 0, 0, p.part, p.closed, leN ((l ++ [b]).take 8), wrd (l ++ [b]), p.c⟩ : PS) = p.mid (l ++ [b])
  unfold PS.mid
  rw [List.length_append]
  rfl
/-- The last byte of a word. -/
theorem step_end (p : PS) (l : List UInt8) (b : UInt8) (hn : p.c.next ≠ 17) (ht : p.taken + l.length < 1048576) (h1 : l.length = 7 → leN (l ++ [b]) ≤ 1048576) (h2 : 8 ≤ l.length → leN (l.take 8) ≤ l.length - 8 → b = 0)
    (he : l.length + 1 = 8 + leN ((l ++ [b]).take 8) + padN (leN ((l ++ [b]).take 8))) :
    (p.mid l).step b = if (p.c.accept (NB.ba (wrd (l ++ [b])))).1 ≠ 0 then (⟨p.taken + l.length, l.length, (p.c.accept (NB.ba (wrd (l ++ [b])))).1, (p.taken : Int), p.part, p.closed, leN ((l ++ [b]).take 8), wrd (l ++ [b]), (p.c.accept (NB.ba (wrd (l ++ [b])))).2⟩ : PS)
      else p.nxt (l.length + 1) (p.c.accept (NB.ba (wrd (l ++ [b])))).2 := by
  have e : (p.mid l).take b = (⟨p.taken + l.length, l.length, 0, 0, p.part, p.closed, leN ((l ++ [b]).take 8), wrd (l ++ [b]), p.c⟩ : PS).ends := by
    unfold PS.take
    rw [if_neg (show ¬ (p.mid l).c.next = 17 from hn), if_neg (show ¬ (p.mid l).taken = 1048576 from by show ¬ p.taken + l.length = 1048576; omega), put_mid p l b h1 h2, if_neg (by show ¬ (0 : Int) ≠ 0; decide)]
  by_cases ha : (p.c.accept (NB.ba (wrd (l ++ [b])))).1 ≠ 0
  · rw [if_pos ha]
    rw [ends_bad he ha] at e
    rw [PS.step_bad (by rw [e]; exact ha), e]
    show (⟨p.taken + l.length, l.length, (p.c.accept (NB.ba (wrd (l ++ [b])))).1, ((p.taken + l.length : Nat) : Int) - (l.length : Nat), p.part, p.closed, leN ((l ++ [b]).take 8), wrd (l ++ [b]), (p.c.accept (NB.ba (wrd (l ++ [b])))).2⟩ : PS) = _
    have : ((p.taken + l.length : Nat) : Int) - (l.length : Nat) = p.taken := by omega
    rw [this]
  · rw [if_neg ha]
    have ha0 : (p.c.accept (NB.ba (wrd (l ++ [b])))).1 = 0 := by omega
    rw [ends_ok he ha0] at e
    rw [PS.step_ok (by rw [e]), e]
    show (⟨p.taken + l.length + 1, 0, 0, 0, p.part, p.closed, 0, [], (p.c.accept (NB.ba (wrd (l ++ [b])))).2⟩ : PS) = _
    unfold PS.nxt
    rw [Nat.add_assoc]

/-- What a beginning of a frame has. -/
theorem pre_frame {s l v : List UInt8} {b : UInt8} (hs : s.length ≤ 1048576) (h : l ++ b :: v = fr8 s) :
    (l.length = 7 → leN (l ++ [b]) ≤ 1048576) ∧ (8 ≤ l.length → leN (l.take 8) ≤ l.length - 8 → b = 0) ∧ (8 ≤ l.length + 1 → leN ((l ++ [b]).take 8) = s.length) := by
  have h8 : leN ((fr8 s).take 8) = s.length := by
    rw [fr8_take8, leN_lek8 _ hs]
  have hlb : l ++ b :: v = (l ++ [b]) ++ v := by simp
  have hk : 8 ≤ l.length + 1 → leN ((l ++ [b]).take 8) = s.length := fun hl => by
    have e : (l ++ [b] ++ v).take 8 = (l ++ [b]).take 8 := List.take_append_of_le_length (by rw [List.length_append]; exact hl)
    rw [← h8, ← h, hlb, e]
  refine ⟨fun h7 => ?_, fun hl hle => ?_, hk⟩
  · have := hk (by omega)
    rw [List.take_of_length_le (by rw [List.length_append]; show l.length + 1 ≤ 8; omega)] at this
    omega
  · have e : leN (l.take 8) = s.length := by
      have := hk (by omega)
      rw [List.take_append_of_le_length (by omega)] at this
      exact this
    have hb : (fr8 s)[l.length]? = some b := by rw [← h, List.getElem?_append_right (Nat.le_refl _), Nat.sub_self]; rfl
    have hd : (fr8 s)[l.length]? = ((fr8 s).drop 8)[l.length - 8]? := by
      rw [List.getElem?_drop, show 8 + (l.length - 8) = l.length by omega]
    have hle' : s.length ≤ l.length - 8 := by rw [← e]; exact hle
    rw [hd, fr8_drop8, List.getElem?_append_right hle', List.getElem?_replicate] at hb
    by_cases hp : l.length - 8 - s.length < padN s.length
    · rw [if_pos hp] at hb; injection hb with hb; exact hb.symm
    · rw [if_neg hp] at hb; cases hb
theorem wrd_frame {s : List UInt8} (hs : s.length ≤ 1048576) : wrd (fr8 s) = s := by
  unfold wrd
  rw [fr8_take8, leN_lek8 _ hs, fr8_drop8, List.take_append_of_le_length (Nat.le_refl _), List.take_of_length_le (Nat.le_refl _)]
theorem mid_code (p : PS) (l : List UInt8) : (p.mid l).code = 0 := rfl

/-- A beginning of a frame. -/
theorem run_pre (p : PS) (s : List UInt8) (hs : s.length ≤ 1048576) (hn : p.c.next ≠ 17) (ht : p.taken + (fr8 s).length ≤ 1048576) : ∀ (v l z : List UInt8), z ≠ [] → l ++ v ++ z = fr8 s → (p.mid l).run v = p.mid (l ++ v)
  | [], l, z, _, _ => by rw [List.append_nil]; rfl
  | b :: v, l, z, hz, h => by
    have h' : l ++ b :: (v ++ z) = fr8 s := by rw [← h]; simp
    obtain ⟨h1, h2, h3⟩ := pre_frame hs h'
    have hlen := congrArg List.length h
    simp only [List.length_append, List.length_cons, fr8_len] at hlen
    have hz1 : 1 ≤ z.length := by cases z with | nil => exact absurd rfl hz | cons _ _ => simp
    rw [fr8_len] at ht
    have hst : (p.mid l).step b = p.mid (l ++ [b]) := by
      refine step_go p l b hn (by omega) h1 h2 (fun he => ?_)
      by_cases h8 : 8 ≤ l.length + 1
      · rw [h3 h8] at he; omega
      · omega
    rw [PS.run, if_neg (fun hh => hn hh.2), hst, if_neg (by rw [mid_code]; decide)]
    have := run_pre p s hs hn (by rw [fr8_len]; exact ht) v (l ++ [b]) z hz (by rw [← h]; simp)
    rw [this]
    simp
/-- A whole frame. -/
theorem run_frame (p : PS) (s : List UInt8) (hs : s.length ≤ 1048576) (hn : p.c.next ≠ 17) (ht : p.taken + (fr8 s).length ≤ 1048576) (ha : (p.c.accept (NB.ba s)).1 = 0) (rest : List UInt8) : ∀ (v l : List UInt8), v ≠ [] → l ++ v = fr8 s → (p.mid l).run (v ++ rest) = (p.nxt (fr8 s).length (p.c.accept (NB.ba s)).2).run rest
  | [], l, hv, _ => absurd rfl hv
  | b :: v, l, _, h => by
    obtain ⟨h1, h2, h3⟩ := pre_frame hs h
    have hlen := congrArg List.length h
    simp only [List.length_append, List.length_cons, fr8_len] at hlen
    rw [fr8_len] at ht
    show (p.mid l).run (b :: (v ++ rest)) = _
    rw [PS.run, if_neg (fun hh => hn hh.2)]
    by_cases hv : v = []
    · subst hv
      have hw : wrd (l ++ [b]) = s := by rw [h]; exact wrd_frame hs
      have he : l.length + 1 = 8 + leN ((l ++ [b]).take 8) + padN (leN ((l ++ [b]).take 8)) := by
        rw [h3 (by simp at hlen; omega)]
        simp at hlen; omega
      have hst := step_end p l b hn (by omega) h1 h2 he
      rw [hw, if_neg (by omega)] at hst
      rw [hst, if_neg (by show ¬ (0 : Int) ≠ 0; decide)]
      have : l.length + 1 = (fr8 s).length := by rw [fr8_len]; simp at hlen; omega
      rw [this]
      rfl
    · have hvl : 1 ≤ v.length := by cases v with | nil => exact absurd rfl hv | cons _ _ => simp
      have hst : (p.mid l).step b = p.mid (l ++ [b]) := by
        refine step_go p l b hn (by omega) h1 h2 (fun he => ?_)
        by_cases h8 : 8 ≤ l.length + 1
        · rw [h3 h8] at he; omega
        · omega
      rw [hst, if_neg (by rw [mid_code]; decide)]
      exact run_frame p s hs hn (by rw [fr8_len]; exact ht) ha rest v (l ++ [b]) hv (by rw [← h]; simp)
end Go.Proofs.Ytljcbibcdajhiaa
/- A tree's words are accepted (plain; own text of the verifier). -/
namespace Go.Proofs.Ytljcbibcdajhiaa
open Go.RowKit

/-- These words are accepted, one behind the other. -/
def Ac : PC → List ByteArray → PC → Prop
  | c, [], d => d = c
  | c, s :: l, d => c.next ≠ 17 ∧ (c.accept s).1 = 0 ∧ Ac (c.accept s).2 l d
theorem Ac.app : ∀ (a b : List ByteArray) (c d e : PC), Ac c a d → Ac d b e → Ac c (a ++ b) e
  | [], b, c, d, e, h, h2 => by
    have h : d = c := h
    subst h
    exact h2
  | s :: a, b, c, d, e, h, h2 => ⟨h.1, h.2.1, Ac.app a b _ d e h.2.2 h2⟩
theorem Ac.one {c d : PC} {s : ByteArray} (hn : c.next ≠ 17) (h : c.accept s = (0, d)) : Ac c [s] d := ⟨hn, by rw [h], by show d = (c.accept s).2; rw [h]⟩
/-- The node T closed on what is open. -/
def cls (c : PC) (T : Tr) : PC := match c.op with
  | [] => ⟨17, [], T⟩
  | h :: R => ⟨16, h.kid T :: R, c.root⟩

theorem acc_on {n m : Int} {S : List ON} {r : Tr} {s : ByteArray} (h : bhP n s = (m, true)) (h1 : n ≠ 1) (h3 : n ≠ 3) (h7 : n ≠ 7) (h9 : n ≠ 9) (h14 : n ≠ 14) (hs : s ≠ wExec) (hm : m ≠ 16) : (⟨n, S, r⟩ : PC).accept s = (0, ⟨m, S, r⟩) := by
  unfold PC.accept
  rw [if_neg (show ¬ n = 7 from h7), if_neg (show ¬ n = 9 from h9), if_neg (show ¬ n = 14 from h14)]
  unfold PC.fixed
  dsimp only
  rw [h, if_neg (by simp), if_neg (fun hh => h1 hh.1), if_neg h1, if_neg h3, if_neg hs, if_neg hm]
  rfl
theorem acc_open {S : List ON} {r : Tr} (hd : S.length < 32) : (⟨1, S, r⟩ : PC).accept wOpen = (0, ⟨2, ON.new :: S, r⟩) := by
  have h : bhP 1 wOpen = (2, true) := by decide +kernel
  unfold PC.accept
  dsimp only
  rw [if_neg (by decide), if_neg (by decide), if_neg (by decide)]
  unfold PC.fixed
  dsimp only
  rw [h, if_neg (by simp), if_neg (by omega), if_pos rfl]
theorem acc_kind {S : List ON} {r : Tr} {o : ON} {s : ByteArray} {m k : Int} (h : bhP 3 s = (m, true)) (hk : kdP s = k) : (⟨3, o :: S, r⟩ : PC).accept s = (0, ⟨m, ⟨k, o.e, o.t, o.nms, o.ks, o.en⟩ :: S, r⟩) := by
  unfold PC.accept
  dsimp only
  rw [if_neg (by decide), if_neg (by decide), if_neg (by decide)]
  unfold PC.fixed
  dsimp only
  rw [h, if_neg (by simp), if_neg (fun hh => absurd hh.1 (by decide)), if_neg (by decide), if_pos rfl, hk]
  rfl
theorem acc_exec {S : List ON} {r : Tr} {o : ON} : (⟨4, o :: S, r⟩ : PC).accept wExec = (0, ⟨5, ⟨o.k, true, o.t, o.nms, o.ks, o.en⟩ :: S, r⟩) := by
  have h : bhP 4 wExec = (5, true) := by decide +kernel
  unfold PC.accept
  dsimp only
  rw [if_neg (by decide), if_neg (by decide), if_neg (by decide)]
  unfold PC.fixed
  dsimp only
  rw [h, if_neg (by simp), if_neg (fun hh => absurd hh.1 (by decide)), if_neg (by decide), if_neg (by decide), if_pos rfl]
  rfl
theorem acc_text {S : List ON} {r : Tr} {o : ON} (s : ByteArray) : (⟨7, o :: S, r⟩ : PC).accept s = (0, ⟨10, ⟨o.k, o.e, s, o.nms, o.ks, o.en⟩ :: S, r⟩) := by
  unfold PC.accept
  rw [if_pos rfl]
  rfl
theorem acc_target {S : List ON} {r : Tr} {o : ON} {s : ByteArray} (h : tgt s = 0) : (⟨9, o :: S, r⟩ : PC).accept s = (0, ⟨10, ⟨o.k, o.e, s, o.nms, o.ks, o.en⟩ :: S, r⟩) := by
  unfold PC.accept
  dsimp only
  rw [if_neg (by decide), if_pos rfl, if_neg (by omega)]
  rfl
theorem acc_ename {S : List ON} {r : Tr} {o : ON} {s : ByteArray} (h : ceP o.nms.getLast? s = 0) : (⟨14, o :: S, r⟩ : PC).accept s = (0, ⟨15, ⟨o.k, o.e, o.t, o.nms, o.ks, s⟩ :: S, r⟩) := by
  unfold PC.accept
  dsimp only
  rw [if_neg (by decide), if_neg (by decide), if_pos rfl]
  rw [if_neg (by omega)]
  rfl
theorem acc_close {n : Int} {S : List ON} {r : Tr} {o : ON} (hn : n = 10 ∨ n = 11) : (⟨n, o :: S, r⟩ : PC).accept wClose = (0, cls ⟨n, S, r⟩ o.tr) := by
  have hs : wClose ≠ wExec := by decide +kernel
  have h : bhP n wClose = (16, true) := by rcases hn with rfl | rfl <;> decide +kernel
  unfold PC.accept
  rw [if_neg (show ¬ n = 7 by omega), if_neg (show ¬ n = 9 by omega), if_neg (show ¬ n = 14 by omega)]
  unfold PC.fixed
  dsimp only
  rw [h, if_neg (by simp), if_neg (fun hh => by omega), if_neg (by omega), if_neg (by omega), if_neg hs, if_pos rfl]
  unfold PC.close cls
  cases S <;> rfl

theorem cls_op (n m : Int) (S : List ON) (r : Tr) (T : Tr) : cls ⟨n, S, r⟩ T = cls ⟨m, S, r⟩ T := by
  unfold cls
  cases S <;> rfl
theorem cfP_file {e : Bool} {t : ByteArray} {n : Nat} (h : cfP 1 e t n = 0) : n = 0 := by
  unfold cfP at h
  rw [if_pos rfl] at h
  by_cases h0 : 0 < n
  · rw [if_pos h0] at h; cases h
  · omega
theorem cfP_link {e : Bool} {t : ByteArray} {n : Nat} (h : cfP 2 e t n = 0) : e = false ∧ n = 0 ∧ tgt t = 0 := by
  unfold cfP at h
  rw [if_neg (by decide), if_pos rfl] at h
  by_cases h0 : e = true ∨ 0 < n
  · rw [if_pos h0] at h; cases h
  · rw [if_neg h0] at h
    refine ⟨?_, by omega, h⟩
    cases e
    · rfl
    · exact absurd (Or.inl rfl) h0
theorem cfP_dir {e : Bool} {t : ByteArray} {n : Nat} (h : cfP 3 e t n = 0) : e = false ∧ t = ⟨#[]⟩ := by
  unfold cfP at h
  rw [if_neg (by decide), if_neg (by decide), if_pos rfl] at h
  by_cases h0 : e = true ∨ t.size ≠ 0
  · rw [if_pos h0] at h; cases h
  · refine ⟨?_, ?_⟩
    · cases e
      · rfl
      · exact absurd (Or.inl rfl) h0
    · have hz : t.size = 0 := by
        by_cases hz : t.size = 0
        · exact hz
        · exact absurd (Or.inr hz) h0
      apply ByteArray.ext
      exact Array.eq_empty_of_size_eq_zero hz
theorem wfL_nil {ks : List Tr} (h : wfL [] ks) : ks = [] := by
  cases ks with
  | nil => rfl
  | cons T ks => exact absurd (wfL_len _ _ h) (by simp)

theorem ce_of {prev : Option ByteArray} {s : ByteArray} (h1 : chk s = 0) (h2 : ∀ s', prev = some s' → cmpB s' s < 0) : ceP prev s = 0 := by
  unfold ceP
  rw [if_neg (by omega)]
  cases prev with
  | none => rfl
  | some s' =>
    have := h2 s' rfl
    show (if 0 ≤ cmpB s' s then (64 : Int) else 0) = 0
    rw [if_neg (by omega)]
mutual
/-- A well-formed tree's words are accepted. -/
theorem ac_tree : ∀ (T : Tr) (ns : List ByteArray) (b : Int) (S : List ON) (r : Tr), (vT ns b T).off = none → wfT T → S.length = ns.length → Ac ⟨1, S, r⟩ (wdT T) (cls ⟨1, S, r⟩ T)
  | .mk k e t nms ks, ns, b, S, r, h, hw, hS => by
    obtain ⟨h1, h2, _, h4⟩ := NS.vT_parts h
    rw [wfT] at hw
    rw [wdT]
    have hhd : Ac ⟨1, S, r⟩ [wOpen, wType] ⟨3, ON.new :: S, r⟩ :=
      Ac.app [wOpen] [wType] _ _ _ (Ac.one (by show (1 : Int) ≠ 17; decide) (acc_open (by omega))) (Ac.one (by show (2 : Int) ≠ 17; decide) (acc_on (by decide +kernel) (by decide) (by decide) (by decide) (by decide) (by decide) (by decide +kernel) (by decide)))
    have htl : ∀ (n : Int) (o : ON), n = 10 ∨ n = 11 → o.tr = .mk k e t nms ks → Ac ⟨n, o :: S, r⟩ [wClose] (cls ⟨1, S, r⟩ (.mk k e t nms ks)) := fun n o hn ho => by
      refine Ac.one (by show n ≠ 17; omega) ?_
      rw [acc_close hn, ho, cls_op]
    rcases NS.cfP_kind h2 with rfl | rfl | rfl
    · have hz := cfP_file h2
      obtain rfl : nms = [] := List.length_eq_zero_iff.1 hz
      obtain rfl := wfL_nil hw
      rw [if_pos rfl]
      have hk : Ac ⟨3, ON.new :: S, r⟩ [wRegular] ⟨4, ⟨1, false, ⟨#[]⟩, [], [], ⟨#[]⟩⟩ :: S, r⟩ := Ac.one (by show (3 : Int) ≠ 17; decide) (acc_kind (o := ON.new) (by decide +kernel) (by decide +kernel))
      have hc : Ac ⟨if e then 6 else 4, ⟨1, e, ⟨#[]⟩, [], [], ⟨#[]⟩⟩ :: S, r⟩ [wContents, t] ⟨10, ⟨1, e, t, [], [], ⟨#[]⟩⟩ :: S, r⟩ := by
        refine Ac.app [wContents] [t] _ ⟨7, ⟨1, e, ⟨#[]⟩, [], [], ⟨#[]⟩⟩ :: S, r⟩ _ ?_ (Ac.one (by show (7 : Int) ≠ 17; decide) (acc_text (o := ⟨1, e, ⟨#[]⟩, [], [], ⟨#[]⟩⟩) t))
        cases e
        · exact Ac.one (by show (4 : Int) ≠ 17; decide) (acc_on (by decide +kernel) (by decide) (by decide) (by decide) (by decide) (by decide) (by decide +kernel) (by decide))
        · exact Ac.one (by show (6 : Int) ≠ 17; decide) (acc_on (by decide +kernel) (by decide) (by decide) (by decide) (by decide) (by decide) (by decide +kernel) (by decide))
      have hx : Ac ⟨4, ⟨1, false, ⟨#[]⟩, [], [], ⟨#[]⟩⟩ :: S, r⟩ (if e then [wExec, wNone] else []) ⟨if e then 6 else 4, ⟨1, e, ⟨#[]⟩, [], [], ⟨#[]⟩⟩ :: S, r⟩ := by
        cases e
        · exact rfl
        · exact Ac.app [wExec] [wNone] _ ⟨5, ⟨1, true, ⟨#[]⟩, [], [], ⟨#[]⟩⟩ :: S, r⟩ _ (Ac.one (by show (4 : Int) ≠ 17; decide) (acc_exec (o := ⟨1, false, ⟨#[]⟩, [], [], ⟨#[]⟩⟩))) (Ac.one (by show (5 : Int) ≠ 17; decide) (acc_on (by decide +kernel) (by decide) (by decide) (by decide) (by decide) (by decide) (by decide +kernel) (by decide)))
      exact Ac.app _ _ _ _ _ (Ac.app _ _ _ _ _ hhd (Ac.app _ _ _ _ _ (Ac.app _ _ _ _ _ hk hx) hc)) (htl 10 _ (Or.inl rfl) rfl)
    · obtain ⟨rfl, hz, htg⟩ := cfP_link h2
      obtain rfl : nms = [] := List.length_eq_zero_iff.1 hz
      obtain rfl := wfL_nil hw
      rw [if_neg (by decide), if_pos rfl]
      have hk : Ac ⟨3, ON.new :: S, r⟩ [wSymlink] ⟨8, ⟨2, false, ⟨#[]⟩, [], [], ⟨#[]⟩⟩ :: S, r⟩ := Ac.one (by show (3 : Int) ≠ 17; decide) (acc_kind (o := ON.new) (by decide +kernel) (by decide +kernel))
      have hc : Ac ⟨8, ⟨2, false, ⟨#[]⟩, [], [], ⟨#[]⟩⟩ :: S, r⟩ [wTarget, t] ⟨10, ⟨2, false, t, [], [], ⟨#[]⟩⟩ :: S, r⟩ :=
        Ac.app [wTarget] [t] _ ⟨9, ⟨2, false, ⟨#[]⟩, [], [], ⟨#[]⟩⟩ :: S, r⟩ _ (Ac.one (by show (8 : Int) ≠ 17; decide) (acc_on (by decide +kernel) (by decide) (by decide) (by decide) (by decide) (by decide) (by decide +kernel) (by decide))) (Ac.one (by show (9 : Int) ≠ 17; decide) (acc_target (o := ⟨2, false, ⟨#[]⟩, [], [], ⟨#[]⟩⟩) htg))
      exact Ac.app _ _ _ _ _ (Ac.app _ _ _ _ _ hhd (Ac.app [wSymlink] [wTarget, t] _ _ _ hk hc)) (htl 10 _ (Or.inl rfl) rfl)
    · obtain ⟨rfl, rfl⟩ := cfP_dir h2
      rw [if_neg (by decide), if_neg (by decide)]
      have hk : Ac ⟨3, ON.new :: S, r⟩ [wDirectory] ⟨11, ⟨3, false, ⟨#[]⟩, [], [], ⟨#[]⟩⟩ :: S, r⟩ := Ac.one (by show (3 : Int) ≠ 17; decide) (acc_kind (o := ON.new) (by decide +kernel) (by decide +kernel))
      obtain ⟨en, hks⟩ := ac_kids nms ks ns (b + nbP 3 false ⟨#[]⟩) ⟨3, false, ⟨#[]⟩, [], [], ⟨#[]⟩⟩ S r h4 hw hS
      exact Ac.app _ _ _ _ _ (Ac.app _ _ _ _ _ hhd (Ac.app _ _ _ _ _ hk hks)) (htl 11 _ (Or.inr rfl) rfl)
theorem ac_kids : ∀ (nms : List ByteArray) (ks : List Tr) (ns : List ByteArray) (b : Int) (o : ON) (S : List ON) (r : Tr), (vL ns b o.nms.getLast? nms ks).off = none → wfL nms ks → S.length = ns.length → ∃ en, Ac ⟨11, o :: S, r⟩ (wdL nms ks) ⟨11, ⟨o.k, o.e, o.t, o.nms ++ nms, o.ks ++ ks, en⟩ :: S, r⟩
  | [], [], ns, b, o, S, r, h, hw, hS => by
    refine ⟨o.en, ?_⟩
    rw [wdL]
    · show (⟨11, ⟨o.k, o.e, o.t, o.nms ++ [], o.ks ++ [], o.en⟩ :: S, r⟩ : PC) = ⟨11, o :: S, r⟩
      rw [List.append_nil, List.append_nil]
    · simp
  | s :: nms, T :: ks, ns, b, o, S, r, h, hw, hS => by
    obtain ⟨p1, p2, _, p4, p5⟩ := NS.vL_parts h
    rw [wfL] at hw
    have hT := ac_tree T (ns ++ [s]) (b + ebP s) (⟨o.k, o.e, o.t, o.nms, o.ks, s⟩ :: S) r p4 hw.1 (by simp; omega)
    have hg : (o.nms ++ [s]).getLast? = some s := by simp
    obtain ⟨en, hk⟩ := ac_kids nms ks ns (b + ebP s + tbT T) ⟨o.k, o.e, o.t, o.nms ++ [s], o.ks ++ [T], s⟩ S r (by show (vL ns _ (o.nms ++ [s]).getLast? nms ks).off = none; rw [hg]; exact p5) hw.2 hS
    refine ⟨en, ?_⟩
    rw [wdL]
    have e1 : o.nms ++ s :: nms = o.nms ++ [s] ++ nms := by simp
    have e2 : o.ks ++ T :: ks = o.ks ++ [T] ++ ks := by simp
    rw [e1, e2]
    have a1 : Ac ⟨11, o :: S, r⟩ [wEntry, wOpen, wName, s, wNode] ⟨1, ⟨o.k, o.e, o.t, o.nms, o.ks, s⟩ :: S, r⟩ :=
      Ac.app [wEntry] _ _ ⟨12, o :: S, r⟩ _ (Ac.one (by show (11 : Int) ≠ 17; decide) (acc_on (by decide +kernel) (by decide) (by decide) (by decide) (by decide) (by decide) (by decide +kernel) (by decide)))
        (Ac.app [wOpen] _ _ ⟨13, o :: S, r⟩ _ (Ac.one (by show (12 : Int) ≠ 17; decide) (acc_on (by decide +kernel) (by decide) (by decide) (by decide) (by decide) (by decide) (by decide +kernel) (by decide)))
        (Ac.app [wName] _ _ ⟨14, o :: S, r⟩ _ (Ac.one (by show (13 : Int) ≠ 17; decide) (acc_on (by decide +kernel) (by decide) (by decide) (by decide) (by decide) (by decide) (by decide +kernel) (by decide)))
        (Ac.app [s] [wNode] _ ⟨15, ⟨o.k, o.e, o.t, o.nms, o.ks, s⟩ :: S, r⟩ _ (Ac.one (by show (14 : Int) ≠ 17; decide) (acc_ename (ce_of p1 p2)))
        (Ac.one (by show (15 : Int) ≠ 17; decide) (acc_on (by decide +kernel) (by decide) (by decide) (by decide) (by decide) (by decide) (by decide +kernel) (by decide))))))
    have a3 : Ac (cls ⟨1, ⟨o.k, o.e, o.t, o.nms, o.ks, s⟩ :: S, r⟩ T) [wClose] ⟨11, ⟨o.k, o.e, o.t, o.nms ++ [s], o.ks ++ [T], s⟩ :: S, r⟩ := by
      show Ac ⟨16, ⟨o.k, o.e, o.t, o.nms ++ [s], o.ks ++ [T], s⟩ :: S, r⟩ [wClose] _
      exact Ac.one (by show (16 : Int) ≠ 17; decide) (acc_on (by decide +kernel) (by decide) (by decide) (by decide) (by decide) (by decide) (by decide +kernel) (by decide))
    exact Ac.app _ _ _ _ _ (Ac.app _ _ _ _ _ (Ac.app _ _ _ _ _ a1 hT) a3) hk
  | [], _ :: _, _, _, _, _, _, _, hw, _ => by simp [wfL] at hw
  | _ :: _, [], _, _, _, _, _, _, hw, _ => by simp [wfL] at hw
end
theorem ac_arc {T : Tr} (h : (vT [] 24 T).off = none) (hw : wfT T) : Ac PC.new (wMagic :: wdT T) ⟨17, [], T⟩ :=
  Ac.app [wMagic] _ _ ⟨1, [], .mk 0 false ⟨#[]⟩ [] []⟩ _ (Ac.one (by show (0 : Int) ≠ 17; decide) (acc_on (by decide +kernel) (by decide) (by decide) (by decide) (by decide) (by decide) (by decide +kernel) (by decide))) (ac_tree T [] 24 [] _ h hw rfl)
end Go.Proofs.Ytljcbibcdajhiaa
/- The parser's machine over archives (plain; own text of the verifier). -/
namespace Go.Proofs.Ytljcbibcdajhiaa
open Go.RowKit

theorem lek_range (n : Nat) : lek n 8 = (List.range 8).map (fun j => UInt8.ofNat (w8 (n : Int) j).toNat) := by
  have e : List.range 8 = [0, 1, 2, 3, 4, 5, 6, 7] := rfl
  rw [e]
  have h : ∀ j, (w8 (n : Int) j).toNat = n / 2 ^ (8 * j) % 256 := fun j => by
    unfold w8
    have h1 : ((n : Int) / 2 ^ (8 * j)) = ((n / 2 ^ (8 * j) : Nat) : Int) := by push_cast; rfl
    rw [h1]
    omega
  simp only [List.map_cons, List.map_nil, h, lek]
  simp only [Nat.div_div_eq_div_mul]
  simp
theorem txt_list (s : ByteArray) : (txt s).data.toList = fr8 s.data.toList := by
  have hz : s.data.toList.length = s.size := by rw [Array.length_toList]; rfl
  rw [← txt_eq]
  have h1 : (strFn 8 (w8 (s.size : Int))).data.toList = lek s.size 8 := by
    rw [lek_range]
    unfold strFn strOfNums
    simp
  have hp := padN_lt s.size
  have h2 : (n7.extract 0 (padN s.size)).data.toList = List.replicate (padN s.size) 0 := by
    have : padN s.size = 0 ∨ padN s.size = 1 ∨ padN s.size = 2 ∨ padN s.size = 3 ∨ padN s.size = 4 ∨ padN s.size = 5 ∨ padN s.size = 6 ∨ padN s.size = 7 := by omega
    rcases this with h | h | h | h | h | h | h | h <;> rw [h] <;> decide +kernel
  unfold fr8
  rw [ByteArray.data_append, ByteArray.data_append, Array.toList_append, Array.toList_append, h1, h2, hz, List.append_assoc]

/-- At the head of a word. -/
def PS.head (p : PS) : Prop := p = p.nxt 0 p.c
theorem head_mid {p : PS} (h : p.head) : p = p.mid [] := by
  unfold PS.head at h
  conv => lhs; rw [h]
  rfl
theorem nxt_head (p : PS) (n : Nat) (c : PC) : (p.nxt n c).head := rfl
theorem new_head (b : Bool) : (PS.new b).head := rfl
theorem nxt_nxt (p : PS) (n m : Nat) (c d : PC) : (p.nxt n c).nxt m d = p.nxt (n + m) d := by unfold PS.nxt; rw [Nat.add_assoc]

theorem run_words : ∀ (ws : List ByteArray) (p : PS) (d : PC) (rest : List UInt8), p.head → Ac p.c ws d → (∀ s ∈ ws, s.size ≤ 1048576) → p.taken + fwS ws ≤ 1048576 → p.run (frm ws ++ rest) = (p.nxt (fwS ws) d).run rest
  | [], p, d, rest, hp, ha, _, _ => by
    have ha : d = p.c := ha
    subst ha
    show p.run rest = (p.nxt 0 p.c).run rest
    rw [← hp]
  | s :: ws, p, d, rest, hp, ha, hs, ht => by
    have hz : s.data.toList.length = s.size := by rw [Array.length_toList]; rfl
    have hs1 := hs s (by simp)
    have hf : (fr8 s.data.toList).length = 8 + s.size + padN s.size := by rw [fr8_len, hz]
    have ht' : p.taken + (8 + s.size + padN s.size + fwS ws) ≤ 1048576 := ht
    have hba : NB.ba s.data.toList = s := NB.ba_list s
    show p.run ((txt s).data.toList ++ frm ws ++ rest) = _
    rw [txt_list, List.append_assoc]
    conv => lhs; rw [head_mid hp]
    rw [run_frame p s.data.toList (by omega) ha.1 (by omega) (by rw [hba]; exact ha.2.1) (frm ws ++ rest) (fr8 s.data.toList) [] (by intro e; rw [e] at hf; simp at hf; omega) rfl, hba, hf]
    have := run_words ws (p.nxt (8 + s.size + padN s.size) (p.c.accept s).2) d rest (nxt_head _ _ _) ha.2.2 (fun x hx => hs x (by simp [hx])) (by show p.taken + (8 + s.size + padN s.size) + fwS ws ≤ _; omega)
    rw [this, nxt_nxt]
    rfl
/-- A beginning of accepted words. -/
theorem run_begin : ∀ (ws : List ByteArray) (p : PS) (d : PC) (k : Nat), p.head → Ac p.c ws d → (∀ s ∈ ws, s.size ≤ 1048576) → p.taken + fwS ws ≤ 1048576 → k < fwS ws → (p.run ((frm ws).take k)).code = 0 ∧ (p.run ((frm ws).take k)).c.next ≠ 17 ∧ (p.run ((frm ws).take k)).taken = p.taken + k
  | [], p, d, k, hp, ha, _, _, hk => by
    change k < 0 at hk
    omega
  | s :: ws, p, d, k, hp, ha, hs, ht, hk => by
    have hz : s.data.toList.length = s.size := by rw [Array.length_toList]; rfl
    have hs1 := hs s (by simp)
    have hf : (fr8 s.data.toList).length = 8 + s.size + padN s.size := by rw [fr8_len, hz]
    have ht' : p.taken + (8 + s.size + padN s.size + fwS ws) ≤ 1048576 := ht
    have hk' : k < 8 + s.size + padN s.size + fwS ws := hk
    have hba : NB.ba s.data.toList = s := NB.ba_list s
    show (p.run (((txt s).data.toList ++ frm ws).take k)).code = 0 ∧ _
    rw [show frm (s :: ws) = (txt s).data.toList ++ frm ws from rfl, txt_list]
    by_cases hlt : k < (fr8 s.data.toList).length
    · rw [List.take_append_of_le_length (by omega)]
      have h1 := run_pre p s.data.toList (by omega) ha.1 (by omega) ((fr8 s.data.toList).take k) [] ((fr8 s.data.toList).drop k) (by intro e; have := congrArg List.length e; rw [List.length_drop] at this; simp at this; omega) (by simp)
      rw [← head_mid hp, List.nil_append] at h1
      rw [h1]
      refine ⟨rfl, ha.1, ?_⟩
      show p.taken + ((fr8 s.data.toList).take k).length = _
      rw [List.length_take]
      omega
    · have e : (fr8 s.data.toList ++ frm ws).take k = fr8 s.data.toList ++ (frm ws).take (k - (fr8 s.data.toList).length) := by
        rw [List.take_append, List.take_of_length_le (by omega)]
      rw [e]
      have h1 := run_frame p s.data.toList (by omega) ha.1 (by omega) (by rw [hba]; exact ha.2.1) ((frm ws).take (k - (fr8 s.data.toList).length)) (fr8 s.data.toList) [] (by intro e; rw [e] at hf; simp at hf; omega) rfl
      rw [← head_mid hp, hba] at h1
      rw [h1]
      have := run_begin ws (p.nxt (fr8 s.data.toList).length (p.c.accept s).2) d (k - (fr8 s.data.toList).length) (nxt_head _ _ _) ha.2.2 (fun x hx => hs x (by simp [hx])) (by show p.taken + (fr8 s.data.toList).length + fwS ws ≤ _; omega) (by omega)
      refine ⟨this.1, this.2.1, ?_⟩
      rw [this.2.2]
      show p.taken + (fr8 s.data.toList).length + _ = _
      omega

mutual
theorem wd_size : ∀ (T : Tr), okT T → ∀ s ∈ wdT T, s.size ≤ 1048576
  | .mk k e t nms ks, h => by
    rw [okT] at h
    obtain ⟨hk, _, ht, hL⟩ := h
    have c1 : wOpen.size ≤ 1048576 := by decide
    have c2 : wType.size ≤ 1048576 := by decide
    have c3 : wRegular.size ≤ 1048576 := by decide
    have c4 : wExec.size ≤ 1048576 := by decide
    have c5 : wNone.size ≤ 1048576 := by decide
    have c6 : wContents.size ≤ 1048576 := by decide
    have c7 : wSymlink.size ≤ 1048576 := by decide
    have c8 : wTarget.size ≤ 1048576 := by decide
    have c9 : wDirectory.size ≤ 1048576 := by decide
    have c10 : wClose.size ≤ 1048576 := by decide
    intro s hs
    rw [wdT] at hs
    simp only [List.mem_append, List.mem_cons, List.not_mem_nil, or_false] at hs
    rcases hs with ((rfl | rfl) | hs) | rfl
    · exact c1
    · exact c2
    · rcases hk with rfl | rfl | rfl
      · rw [if_pos rfl] at hs
        cases e
        · simp at hs
          rcases hs with rfl | rfl | rfl
          · exact c3
          · exact c6
          · exact ht
        · simp at hs
          rcases hs with rfl | rfl | rfl | rfl | rfl
          · exact c3
          · exact c4
          · exact c5
          · exact c6
          · exact ht
      · rw [if_neg (by decide), if_pos rfl] at hs
        simp at hs
        rcases hs with rfl | rfl | rfl
        · exact c7
        · exact c8
        · exact ht
      · rw [if_neg (by decide), if_neg (by decide)] at hs
        simp only [List.mem_append, List.mem_cons, List.not_mem_nil, or_false] at hs
        rcases hs with rfl | hs
        · exact c9
        · exact wd_sizeL nms ks hL s hs
    · exact c10
theorem wd_sizeL : ∀ (nms : List ByteArray) (ks : List Tr), okL nms ks → ∀ s ∈ wdL nms ks, s.size ≤ 1048576
  | n :: nms, T :: ks, h => by
    rw [okL] at h
    have c1 : wEntry.size ≤ 1048576 := by decide
    have c2 : wOpen.size ≤ 1048576 := by decide
    have c3 : wName.size ≤ 1048576 := by decide
    have c4 : wNode.size ≤ 1048576 := by decide
    have c5 : wClose.size ≤ 1048576 := by decide
    intro s hs
    rw [wdL] at hs
    simp only [List.mem_append, List.mem_cons, List.not_mem_nil, or_false] at hs
    rcases hs with (((rfl | rfl | rfl | rfl | rfl) | hs) | rfl) | hs
    · exact c1
    · exact c2
    · exact c3
    · exact h.1
    · exact c4
    · exact wd_size T h.2.1 s hs
    · exact c5
    · exact wd_sizeL nms ks h.2.2 s hs
  | [], [], _ => by rw [wdL]; simp; simp
  | [], _ :: _, _ => by rw [wdL]; simp; simp
  | _ :: _, [], _ => by rw [wdL]; simp; simp
end

/-- A well-formed tree's archive: what holds of its words. -/
theorem arc_facts {T : Tr} (hs : smT T) (hw : wfT T) (h : (ckT T).2 = 0) : Ac PC.new (wMagic :: wdT T) ⟨17, [], T⟩ ∧ (∀ s ∈ wMagic :: wdT T, s.size ≤ 1048576) ∧ fwS (wMagic :: wdT T) ≤ 1048576 ∧ (fwS (wMagic :: wdT T) : Int) = 24 + tbT T := by
  have hoff := ckT_off h
  have ho := NS.ok_tree T [] 24 hoff hs hw
  have h1 := fw_tree T ho
  have h3 : 8 + wMagic.size + padN wMagic.size = 24 := by decide +kernel
  have h4 : fwS (wMagic :: wdT T) = 24 + fwS (wdT T) := by show 8 + wMagic.size + padN wMagic.size + fwS (wdT T) = _; omega
  have h5 := vT_bytes [] 24 T hoff
  have h6 := (vT_bd [] 24 T hoff (by decide) (by decide)).2
  refine ⟨ac_arc hoff hw, fun s hs' => ?_, by omega, by omega⟩
  rcases List.mem_cons.1 hs' with rfl | hs'
  · decide
  · exact wd_size T ho s hs'
theorem arc_len (T : Tr) : (arcT T).length = fwS (wMagic :: wdT T) := frm_len _
/-- Behind a whole archive. -/
def arcS (b : Bool) (T : Tr) : PS := ⟨(arcT T).length, 0, 0, 0, b, false, 0, [], ⟨17, [], T⟩⟩
theorem run_arc {T : Tr} (hs : smT T) (hw : wfT T) (h : (ckT T).2 = 0) (b : Bool) (rest : List UInt8) : (PS.new b).run (arcT T ++ rest) = (arcS b T).run rest := by
  obtain ⟨a1, a2, a3, _⟩ := arc_facts hs hw h
  have := run_words (wMagic :: wdT T) (PS.new b) ⟨17, [], T⟩ rest (new_head b) a1 a2 (by show 0 + fwS (wMagic :: wdT T) ≤ _; omega)
  unfold arcT
  rw [this]
  congr 1
  unfold arcS
  rw [arc_len]
  unfold PS.nxt
  show (⟨0 + _, 0, 0, 0, b, false, 0, [], _⟩ : PS) = _
  rw [Nat.zero_add]
theorem arcS_part (T : Tr) (rest : List UInt8) : (arcS true T).run rest = arcS true T := by
  cases rest with
  | nil => rfl
  | cons b l => rw [PS.run]; exact if_pos ⟨rfl, rfl⟩
theorem arcS_trail (T : Tr) (b : UInt8) (rest : List UInt8) : (arcS false T).run (b :: rest) = (arcS false T).sf 5 (arcT T).length := by
  have e : (arcS false T).take b = ((5, ((arcT T).length : Int)), arcS false T) := if_pos rfl
  have hst : (arcS false T).step b = (arcS false T).sf 5 (arcT T).length := by rw [PS.step_bad (by rw [e]; show (5 : Int) ≠ 0; decide), e]
  rw [PS.run, if_neg (fun hh => by cases hh.1), hst, if_pos (by show (5 : Int) ≠ 0; decide)]
theorem run_short {T : Tr} (hs : smT T) (hw : wfT T) (h : (ckT T).2 = 0) (b : Bool) (k : Nat) (hk : k < (arcT T).length) : ((PS.new b).run ((arcT T).take k)).code = 0 ∧ ((PS.new b).run ((arcT T).take k)).c.next ≠ 17 ∧ ((PS.new b).run ((arcT T).take k)).taken = k := by
  obtain ⟨a1, a2, a3, _⟩ := arc_facts hs hw h
  have := run_begin (wMagic :: wdT T) (PS.new b) ⟨17, [], T⟩ k (new_head b) a1 a2 (by show 0 + fwS (wMagic :: wdT T) ≤ _; omega) (by rw [← arc_len]; exact hk)
  refine ⟨this.1, this.2.1, ?_⟩
  have h3 := this.2.2
  have : (PS.new b).taken = 0 := rfl
  unfold arcT
  omega

/-- Feeding piece by piece is feeding the whole. -/
theorem run_app : ∀ (a b : List UInt8) (p : PS), p.code = 0 → p.closed = false → p.run (a ++ b) = (p.run a).feed b
  | [], b, p, hc, hl => by
    show p.run b = p.feed b
    unfold PS.feed
    rw [if_neg (by rw [hl, hc]; simp)]
  | x :: a, b, p, hc, hl => by
    show p.run (x :: (a ++ b)) = (p.run (x :: a)).feed b
    rw [PS.run, PS.run]
    by_cases h1 : p.part = true ∧ p.c.next = 17
    · rw [if_pos h1, if_pos h1]
      unfold PS.feed
      rw [if_neg (by rw [hl, hc]; simp)]
      cases b with
      | nil => rfl
      | cons y b => rw [PS.run, if_pos h1]
    · rw [if_neg h1, if_neg h1]
      by_cases h2 : (p.step x).code ≠ 0
      · rw [if_pos h2, if_pos h2]
        unfold PS.feed
        rw [if_pos (Or.inr h2)]
      · rw [if_neg h2, if_neg h2]
        have hcl : (p.step x).closed = false := by
          by_cases h0 : (p.take x).1.1 = 0
          · rw [PS.step_ok h0]; exact (p.take_keep x).2.2.1.trans hl
          · rw [PS.step_bad h0]; exact (p.take_keep x).2.2.1.trans hl
        exact run_app a b (p.step x) (by omega) hcl
end Go.Proofs.Ytljcbibcdajhiaa
