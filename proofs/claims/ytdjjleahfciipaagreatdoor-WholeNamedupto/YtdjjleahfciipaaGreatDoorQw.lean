/- Gathered: NcE. -/
import Derived.Laws.IdiomCopy
import Derived.Deep.RegionLaw
import Derived.Deep.RegionHeldLaw
import Derived.Test.YtdjjleahfciipaaGreatDoorQo
import Derived.Test.YtdjjleahfciipaaGreatDoorQv
/- tree.Copy, walked: the copy lies in rows of its own (own text of the verifier). -/
namespace Go.Proofs.YtdjjleahfciipaaGreatDoor
open Go.RowKit

mutual
theorem TrV.low {w : World} {B B' : Nat} (hB : B' ≤ B) : ∀ (T : Tr) (v : Value) (fp : List Nat), TrV w B T v fp → TrV w B' T v fp
  | .mk k e t nms ks, v, fp, h => by
    rw [TrV] at h ⊢
    obtain ⟨cs, fq, h1, h2, rfl⟩ := h
    refine ⟨cs, fq, ⟨h1.1, ?_⟩, KidV.low hB nms ks cs fq h2, rfl⟩
    rcases h1.2 with hn | ⟨g, cap, cur, rfl, hb, rest⟩
    · exact .inl hn
    · exact .inr ⟨g, cap, cur, rfl, Nat.le_trans hB hb, rest⟩
theorem KidV.low {w : World} {B B' : Nat} (hB : B' ≤ B) : ∀ (nms : List ByteArray) (ks : List Tr) (cs : List Value) (fq : List Nat), KidV w B nms ks cs fq → KidV w B' nms ks cs fq
  | [], [], cs, fq, h => by rw [KidV] at h ⊢; exact h
  | s :: nms, T :: ks, cs, fq, h => by
    rw [KidV] at h ⊢
    obtain ⟨v, cs', fp, fq', h1, h2, h3, h4⟩ := h
    exact ⟨v, cs', fp, fq', h1, TrV.low hB T v fp h2, KidV.low hB nms ks cs' fq' h3, h4⟩
  | [], _ :: _, cs, fq, h => by simp [KidV] at h
  | _ :: _, [], cs, fq, h => by simp [KidV] at h
end
theorem TrV.zero (w : World) (B : Nat) (k : Int) (e : Bool) (t : ByteArray) {ns : List ByteArray} {ks : List Tr} (h : ns.length = 0) (h' : ks.length = 0) : TrV w B (.mk k e t ns ks) (.slice none 0 0) [] := by
  obtain rfl := List.length_eq_zero_iff.1 h
  obtain rfl := List.length_eq_zero_iff.1 h'
  rw [TrV]
  exact ⟨[], [], ⟨rfl, .inl ⟨rfl, rfl⟩⟩, by rw [KidV]; exact ⟨rfl, rfl⟩, rfl⟩

theorem heapE_setCells (b : Nat) (vs : List Value) (o k : Nat) (hk : k ≠ b) (w : World) : (w.setCells b o vs).heap[k]? = w.heap[k]? := by
  induction vs generalizing o w with
  | nil => rfl
  | cons v vs ih => exact (ih (o + 1) _).trans (Below.heap_setCell w ⟨b, o, none⟩ v k hk)
theorem sizeE_setCells (b : Nat) (vs : List Value) (o : Nat) (w : World) : (w.setCells b o vs).heap.size = w.heap.size := by
  induction vs generalizing o w with
  | nil => rfl
  | cons v vs ih => exact (ih (o + 1) _).trans (World.size_setCell _ _ _)
theorem belowE_setCells (b : Nat) (vs : List Value) (o : Nat) {B : Nat} (hB : B ≤ b) {w0 w : World} (h : Below B w0 w) : Below B w0 (w.setCells b o vs) := by
  induction vs generalizing o w with
  | nil => exact h
  | cons v vs ih => exact ih (o + 1) (h.setCell hB _)

/-- A row of n entries in block K of which the first i are copied. -/
def Ke (w : World) (B K n i : Nat) (ns : List ByteArray) (ks : List Tr) : Prop := ∃ cs zs fq, w.ownsRow B 103 5 (.slice (some ⟨K, 0, none⟩) n n) n (cs ++ zs) ∧ cs.length = i * 5 ∧ KidV w B (ns.take i) (ks.take i) cs fq ∧ (K :: fq).Nodup
theorem own_heap {w : World} {B K n : Nat} {xs : List Value} (h : w.ownsRow B 103 5 (.slice (some ⟨K, 0, none⟩) n n) n xs) : ∃ cur, B ≤ K ∧ w.heap[K]? = some (.cells cur 103 (0, 0)) ∧ cur.size = n * 5 ∧ cur.toList = xs := by
  rcases h.2 with ⟨h1, _⟩ | ⟨g, cap, cur, h1, hb, hg, _, _, h5, h6⟩
  · cases h1
  · simp at h1
    obtain ⟨rfl, rfl⟩ := h1
    refine ⟨cur, hb, hg, h5, ?_⟩
    rw [List.take_of_length_le (by rw [Array.length_toList]; omega)] at h6
    exact h6
theorem Ke.big {w : World} {B K n i : Nat} {ns : List ByteArray} {ks : List Tr} (h : Ke w B K n i ns ks) : K < w.heap.size := by
  obtain ⟨cs, zs, fq, h1, _⟩ := h
  obtain ⟨cur, _, h2, _⟩ := own_heap h1
  exact heap_lt h2
theorem Ke.room {w : World} {B K n i : Nat} {ns : List ByteArray} {ks : List Tr} (h : Ke w B K n i ns ks) (j : Nat) (hj : j < n * 5) : ∃ v, w.cell? ⟨K, j, none⟩ = some v := by
  obtain ⟨cs, zs, fq, h1, _⟩ := h
  obtain ⟨cur, _, h2, h3, _⟩ := own_heap h1
  rw [Lib.cell_of_heap h2]
  exact ⟨_, Array.getElem?_eq_getElem (by omega)⟩
theorem Ke.free {w : World} {B K n i : Nat} {ns : List ByteArray} {ks : List Tr} (h : Ke w B K n i ns ks) (j : Nat) : w.frozen? ⟨K, j, none⟩ = false := by
  obtain ⟨cs, zs, fq, h1, _⟩ := h
  obtain ⟨cur, _, h2, _⟩ := own_heap h1
  unfold World.frozen?; rw [h2]; simp
theorem Ke.below {w w' : World} {B K n i : Nat} {ns : List ByteArray} {ks : List Tr} (h : Ke w B K n i ns ks) (b : Below w.heap.size w w') : Ke w' B K n i ns ks := by
  have hb := h.big
  obtain ⟨cs, zs, fq, h1, h2, h3, h4⟩ := h
  exact ⟨cs, zs, fq, own_same h1 (fun x hx => by simp [blkL, Value.ownBlock] at hx; rw [hx]; exact b.block K hb), h2, KidV.same _ _ _ _ h3 (fun x hx => b.block x (KidV.lt _ _ _ _ h3 x hx).2), h4⟩
theorem Ke.keep {w w' : World} {B K n i : Nat} {ns : List ByteArray} {ks : List Tr} (h : Ke w B K n i ns ks) (G : Nat) (hG : G < B) (b : ∀ q, q ≠ G → w'.heap[q]? = w.heap[q]?) : Ke w' B K n i ns ks := by
  obtain ⟨cs, zs, fq, h1, h2, h3, h4⟩ := h
  obtain ⟨cur, hB, _⟩ := own_heap h1
  exact ⟨cs, zs, fq, own_same h1 (fun x hx => by simp [blkL, Value.ownBlock] at hx; rw [hx]; exact b K (by omega)), h2, KidV.same _ _ _ _ h3 (fun x hx => b x (by have := (KidV.lt _ _ _ _ h3 x hx).1; omega)), h4⟩
theorem own_put5 {w : World} {B : Nat} {K n i : Nat} {cs zs : List Value} {a b c d e : Value} (h : w.ownsRow B 103 5 (.slice (some ⟨K, 0, none⟩) n n) n (cs ++ zs)) (hc : cs.length = i * 5) (hi : i < n) :
    ∃ zs', (w.setCells K (i * 5) [a, b, c, d, e]).ownsRow B 103 5 (.slice (some ⟨K, 0, none⟩) n n) n ((cs ++ [a, b, c, d, e]) ++ zs') := by
  have hlen : zs.length = n * 5 - i * 5 := by have := h.1; simp at this; omega
  match zs, hlen with
  | z0 :: z1 :: z2 :: z3 :: z4 :: zs', _ =>
    have h1 := (World.ownsRow.stored h (i * 5) a).1
    have h2 := (World.ownsRow.stored h1 (i * 5 + 1) b).1
    have h3 := (World.ownsRow.stored h2 (i * 5 + 2) c).1
    have h4 := (World.ownsRow.stored h3 (i * 5 + 3) d).1
    have h5 := (World.ownsRow.stored h4 (i * 5 + 4) e).1
    have key : (((((cs ++ z0 :: z1 :: z2 :: z3 :: z4 :: zs').set (i * 5) a).set (i * 5 + 1) b).set (i * 5 + 2) c).set (i * 5 + 3) d).set (i * 5 + 4) e = (cs ++ [a, b, c, d, e]) ++ zs' := by
      rw [List.set_append_right _ _ (by omega), List.set_append_right _ _ (by omega), List.set_append_right _ _ (by omega), List.set_append_right _ _ (by omega), List.set_append_right _ _ (by omega), hc]
      simp
    rw [key] at h5
    exact ⟨zs', h5⟩
  | [], h => simp at h; omega
  | [_], h => simp at h; omega
  | [_, _], h => simp at h; omega
  | [_, _, _], h => simp at h; omega
  | [_, _, _, _], h => simp at h; omega
theorem Ke.put {w w' : World} {B K n i : Nat} {ns : List ByteArray} {ks : List Tr} (h : Ke w B K n i ns ks) (b : Below w.heap.size w w') (hi : i < n) {s : ByteArray} {T : Tr} (hs : ns[i]? = some s) (hT : ks[i]? = some T) {v : Value} {fp : List Nat} (hV : TrV w' w.heap.size T v fp) (hn : fp.Nodup) :
    Ke (w'.setCells K (i * 5) [.string s, .int .i64 T.k, .bool T.e, .string T.t, v]) B K n (i + 1) ns ks := by
  have hbig := h.big
  obtain ⟨cs, zs, fq, h1, h2, h3, h4⟩ := h
  have hlt := KidV.lt _ _ _ _ h3
  obtain ⟨cur, hBK, _⟩ := own_heap h1
  have h1' : w'.ownsRow B 103 5 (.slice (some ⟨K, 0, none⟩) n n) n (cs ++ zs) := own_same h1 (fun x hx => by simp [blkL, Value.ownBlock] at hx; rw [hx]; exact b.block K hbig)
  have h3' := KidV.same _ _ _ _ h3 (fun x hx => b.block x (hlt x hx).2)
  obtain ⟨zs', g1⟩ := own_put5 (a := .string s) (b := .int .i64 T.k) (c := .bool T.e) (d := .string T.t) (e := v) h1' h2 hi
  have hfp := TrV.lt T v fp hV
  have hK : ∀ x ∈ fq, x ≠ K := fun x hx e => (List.nodup_cons.1 h4).1 (by rw [← e]; exact hx)
  have hV' := TrV.low (show B ≤ w.heap.size by omega) T v fp (TrV.same T v fp hV (fun x hx => heapE_setCells K [.string s, .int .i64 T.k, .bool T.e, .string T.t, v] (i * 5) x (by have := (hfp x hx).1; omega) w'))
  have h3'' := KidV.same _ _ _ _ h3' (fun x hx => heapE_setCells K [.string s, .int .i64 T.k, .bool T.e, .string T.t, v] (i * 5) x (hK x hx) w')
  refine ⟨cs ++ [.string s, .int .i64 T.k, .bool T.e, .string T.t, v], zs', fq ++ fp, g1, by simp [h2]; omega, ?_, ?_⟩
  · have := KidV.snoc _ _ _ _ s T v fp h3'' hV'
    rw [List.take_add_one, hs, List.take_add_one, hT]; exact this
  · rw [List.nodup_cons] at h4 ⊢
    refine ⟨fun hm => ?_, List.nodup_append.2 ⟨h4.2, hn, fun x hx y hy e => ?_⟩⟩
    · rcases List.mem_append.1 hm with hm | hm
      · exact h4.1 hm
      · have := (hfp K hm).1; omega
    · have h6 := (hlt x hx).2
      have h7 := (hfp y hy).1
      omega
theorem Ke.start (w : World) (B K n : Nat) (C : Array Value) (ns : List ByteArray) (ks : List Tr) (hK : w.heap[K]? = some (.cells C 103 (0, 0))) (hC : C.size = n * 5) (hB : B ≤ K) (hn : n ≤ 1954687338211) : Ke w B K n 0 ns ks := by
  refine ⟨[], C.toList, [], ⟨by simp [hC], .inr ⟨K, n, C, rfl, hB, hK, Nat.le_refl _, by unfold maxLen; omega, hC, by rw [List.nil_append, List.take_of_length_le (by rw [Array.length_toList]; omega)]⟩⟩, rfl, ?_, by simp⟩
  rw [List.take_zero, List.take_zero, KidV]; exact ⟨rfl, rfl⟩
theorem Ke.full {w : World} {B K n : Nat} {ns : List ByteArray} {ks : List Tr} (h : Ke w B K n n ns ks) (h1 : ns.length = n) (h2 : ks.length = n) (k : Int) (e : Bool) (t : ByteArray) : ∃ fp, TrV w B (.mk k e t ns ks) (.slice (some ⟨K, 0, none⟩) n n) fp ∧ fp.Nodup := by
  obtain ⟨cs, zs, fq, g1, g2, g3, g4⟩ := h
  have hz : zs = [] := by
    have := g1.1
    rw [List.length_append, g2] at this
    exact List.length_eq_zero_iff.1 (by omega)
  rw [hz, List.append_nil] at g1
  rw [List.take_of_length_le (by omega), List.take_of_length_le (by omega)] at g3
  refine ⟨K :: fq, ?_, g4⟩
  rw [TrV]
  exact ⟨cs, fq, by rw [h1]; exact g1, g3, rfl⟩

/-- Copy, for trees no deeper than m. -/
def CvP (T : Tr) (w : World) (e : Ending) (w' : World) : Prop := (∃ x fp, e = .returned (.agg #[.int .i64 T.k, .bool T.e, .string T.t, x]) ∧ TrV w' w.heap.size T x fp ∧ fp.Nodup) ∧ Below w.heap.size w w'
def CvAt (m : Nat) : Prop := ∀ (v : Value) (T : Tr) (w : World), At w m v T → Calls Tryz.prog 65 #[v] w (CvP T w)
theorem info_entE : (Tryz.prog.info? 103).map (fun i => (i.zero, i.size, i.bytes)) = some (some (.agg #[.string ByteArray.empty, .int .i64 0, .bool false, .string ByteArray.empty, .slice none 0 0]), 5, 72) := by kernel_rfl

set_option maxHeartbeats 8000000 in
set_option maxRecDepth 10000 in
theorem copyV_any (m : Nat) : CvAt m := by
  induction m with
  | zero => intro v T w h; exact h.elim
  | succ m IH =>
    rintro v ⟨k, e, t, ns, ks⟩ w ⟨x, n, c, rfl, l1, l2, l3, l4, hx⟩
    have EX : Hid (Ents w m x n ns ks) := At.ents hx
    have LL : Hid (ns.length = n ∧ ks.length = n) := ⟨l1, l2⟩
    clear hx l1 l2
    by_cases hn : n = 0
    · subst hn
      have HZ : Hid (ns.length = 0 ∧ ks.length = 0) := LL.out
      clear LL EX
      go_enter Tryz.func65, Tryz.ntmps65
      go_wp2
      have C1 : ∀ j v, #[Value.int IntKind.i64 k, Value.bool e, Value.string t, Value.slice x 0 c][j]? = some v → ((w.alloc (Obj.cells #[Value.int IntKind.i64 k, Value.bool e, Value.string t, Value.slice x 0 c] 25)).alloc (Obj.cells #[Value.int IntKind.i64 0, Value.bool false, Value.string ⟨#[]⟩, Value.slice none 0 0] 25)).cell? ⟨w.heap.size, j, none⟩ = some v := fun j v hv => by
        rw [World.cell?_alloc_old _ _ _ (by rw [World.size_alloc]; show w.heap.size ≠ _; omega), World.cell?_alloc_new]; exact hv
      have B0 : Below w.heap.size w ((w.alloc (Obj.cells #[Value.int IntKind.i64 k, Value.bool e, Value.string t, Value.slice x 0 c] 25)).alloc (Obj.cells #[Value.int IntKind.i64 0, Value.bool false, Value.string ⟨#[]⟩, Value.slice none 0 0] 25)) := ((Below.refl _ _).alloc (Nat.le_refl _) _).alloc (by rw [World.size_alloc]; omega) _
      go_loop [17] (fun xi => xi = .int .i64 ((0 : Nat) : Int)) (fun _ => 0)
      case atStart => rfl
      case round =>
        subst hrel
        go_wp2
        refine bodyPost_ret (v := .agg #[.int .i64 k, .bool e, .string t, .slice none 0 0]) (by simp [results, Tryz.results65, go_sem]) rfl ⟨⟨_, [], rfl, TrV.zero _ _ k e t HZ.out.1 HZ.out.2, List.nodup_nil⟩, ?_⟩
        exact ((Below.refl _ _).alloc (Nat.le_refl _) _).alloc (by rw [World.size_alloc]; omega) _
    · have hp : (0 : Int) < (n : Int) := by omega
      have HMK : Hid (∀ w : World, (Instr.makeSlice 23 (.int .i64 (n : Int)) (.int .i64 (n : Int))).run Tryz.prog w = .ok (.slice (some ⟨w.heap.size, 0, none⟩) n n) (w.alloc (.cells (madeCells (Value.agg #[.string ByteArray.empty, .int .i64 0, .bool false, .string ByteArray.empty, .slice none 0 0]).cells (n * 5)) 103))) := fun w => by
        obtain ⟨i0, hi, hz0, hz1, hz2⟩ := info_parts info_entE
        rw [run_make (P := Tryz.prog) w 23 103 i0 _ undLET hi hz0 .i64 .i64 _ _ (by omega) (by omega) (by rw [hz2]; omega) (by omega), Int.toNat_natCast, hz1]
      go_enter Tryz.func65, Tryz.ntmps65
      go_wp2_with fail
      rw [HMK.out]
      clear HMK
      go_wp2
      have hs1 : (w.alloc (Obj.cells #[Value.int IntKind.i64 k, Value.bool e, Value.string t, Value.slice x n c] 25)).heap.size = w.heap.size + 1 := World.size_alloc _ _
      have hs2 : ((w.alloc (Obj.cells #[Value.int IntKind.i64 k, Value.bool e, Value.string t, Value.slice x n c] 25)).alloc (Obj.cells #[Value.int IntKind.i64 0, Value.bool false, Value.string ⟨#[]⟩, Value.slice none 0 0] 25)).heap.size = w.heap.size + 1 + 1 := by rw [World.size_alloc, hs1]
      have hs3 : (((w.alloc (Obj.cells #[Value.int IntKind.i64 k, Value.bool e, Value.string t, Value.slice x n c] 25)).alloc (Obj.cells #[Value.int IntKind.i64 0, Value.bool false, Value.string ⟨#[]⟩, Value.slice none 0 0] 25)).alloc (Obj.cells (madeCells #[Value.string ByteArray.empty, Value.int IntKind.i64 0, Value.bool false, Value.string ByteArray.empty, Value.slice none 0 0] (n * 5)) 103)).heap.size = w.heap.size + 1 + 1 + 1 := by rw [World.size_alloc, hs2]
      have X1 : (((w.alloc (Obj.cells #[Value.int IntKind.i64 k, Value.bool e, Value.string t, Value.slice x n c] 25)).alloc (Obj.cells #[Value.int IntKind.i64 0, Value.bool false, Value.string ⟨#[]⟩, Value.slice none 0 0] 25)).alloc (Obj.cells (madeCells #[Value.string ByteArray.empty, Value.int IntKind.i64 0, Value.bool false, Value.string ByteArray.empty, Value.slice none 0 0] (n * 5)) 103)).heap[w.heap.size]? = some (Obj.cells #[Value.int IntKind.i64 k, Value.bool e, Value.string t, Value.slice x n c] 25) := by
        rw [Below.heap_alloc _ _ _ (by rw [hs2]; omega), Below.heap_alloc _ _ _ (by rw [hs1]; omega)]; exact heap_alloc_new w _
      have X2 : (((w.alloc (Obj.cells #[Value.int IntKind.i64 k, Value.bool e, Value.string t, Value.slice x n c] 25)).alloc (Obj.cells #[Value.int IntKind.i64 0, Value.bool false, Value.string ⟨#[]⟩, Value.slice none 0 0] 25)).alloc (Obj.cells (madeCells #[Value.string ByteArray.empty, Value.int IntKind.i64 0, Value.bool false, Value.string ByteArray.empty, Value.slice none 0 0] (n * 5)) 103)).heap[w.heap.size + 1]? = some (Obj.cells #[Value.int IntKind.i64 0, Value.bool false, Value.string ⟨#[]⟩, Value.slice none 0 0] 25) := by
        rw [Below.heap_alloc _ _ _ (by rw [hs2]; omega), ← hs1]; exact heap_alloc_new _ _
      have X3 : (((w.alloc (Obj.cells #[Value.int IntKind.i64 k, Value.bool e, Value.string t, Value.slice x n c] 25)).alloc (Obj.cells #[Value.int IntKind.i64 0, Value.bool false, Value.string ⟨#[]⟩, Value.slice none 0 0] 25)).alloc (Obj.cells (madeCells #[Value.string ByteArray.empty, Value.int IntKind.i64 0, Value.bool false, Value.string ByteArray.empty, Value.slice none 0 0] (n * 5)) 103)).heap[w.heap.size + 1 + 1]? = some (Obj.cells (madeCells #[Value.string ByteArray.empty, Value.int IntKind.i64 0, Value.bool false, Value.string ByteArray.empty, Value.slice none 0 0] (n * 5)) 103) := by
        rw [← hs2]; exact heap_alloc_new _ _
      have B0 : Below w.heap.size w (((w.alloc (Obj.cells #[Value.int IntKind.i64 k, Value.bool e, Value.string t, Value.slice x n c] 25)).alloc (Obj.cells #[Value.int IntKind.i64 0, Value.bool false, Value.string ⟨#[]⟩, Value.slice none 0 0] 25)).alloc (Obj.cells (madeCells #[Value.string ByteArray.empty, Value.int IntKind.i64 0, Value.bool false, Value.string ByteArray.empty, Value.slice none 0 0] (n * 5)) 103)) := (((Below.refl _ _).alloc (Nat.le_refl _) _).alloc (by rw [hs1]; omega) _).alloc (by rw [hs2]; omega) _
      have K0 : Hid (Ke (((w.alloc (Obj.cells #[Value.int IntKind.i64 k, Value.bool e, Value.string t, Value.slice x n c] 25)).alloc (Obj.cells #[Value.int IntKind.i64 0, Value.bool false, Value.string ⟨#[]⟩, Value.slice none 0 0] 25)).alloc (Obj.cells (madeCells #[Value.string ByteArray.empty, Value.int IntKind.i64 0, Value.bool false, Value.string ByteArray.empty, Value.slice none 0 0] (n * 5)) 103)) (w.heap.size + 1 + 1) (w.heap.size + 1 + 1) n 0 ns ks) := Ke.start _ _ _ n _ ns ks X3 (by simp [madeCells]) (Nat.le_refl _) l4
      have XX : Hid ((((w.alloc (Obj.cells #[Value.int IntKind.i64 k, Value.bool e, Value.string t, Value.slice x n c] 25)).alloc (Obj.cells #[Value.int IntKind.i64 0, Value.bool false, Value.string ⟨#[]⟩, Value.slice none 0 0] 25)).alloc (Obj.cells (madeCells #[Value.string ByteArray.empty, Value.int IntKind.i64 0, Value.bool false, Value.string ByteArray.empty, Value.slice none 0 0] (n * 5)) 103)).heap[w.heap.size]? = some (Obj.cells #[Value.int IntKind.i64 k, Value.bool e, Value.string t, Value.slice x n c] 25) ∧ (((w.alloc (Obj.cells #[Value.int IntKind.i64 k, Value.bool e, Value.string t, Value.slice x n c] 25)).alloc (Obj.cells #[Value.int IntKind.i64 0, Value.bool false, Value.string ⟨#[]⟩, Value.slice none 0 0] 25)).alloc (Obj.cells (madeCells #[Value.string ByteArray.empty, Value.int IntKind.i64 0, Value.bool false, Value.string ByteArray.empty, Value.slice none 0 0] (n * 5)) 103)).heap[w.heap.size + 1]? = some (Obj.cells #[Value.int IntKind.i64 0, Value.bool false, Value.string ⟨#[]⟩, Value.slice none 0 0] 25) ∧ w.heap.size + 1 < (((w.alloc (Obj.cells #[Value.int IntKind.i64 k, Value.bool e, Value.string t, Value.slice x n c] 25)).alloc (Obj.cells #[Value.int IntKind.i64 0, Value.bool false, Value.string ⟨#[]⟩, Value.slice none 0 0] 25)).alloc (Obj.cells (madeCells #[Value.string ByteArray.empty, Value.int IntKind.i64 0, Value.bool false, Value.string ByteArray.empty, Value.slice none 0 0] (n * 5)) 103)).heap.size) := ⟨X1, X2, by rw [hs3]; omega⟩
      have B0' : Hid (Below w.heap.size w (((w.alloc (Obj.cells #[Value.int IntKind.i64 k, Value.bool e, Value.string t, Value.slice x n c] 25)).alloc (Obj.cells #[Value.int IntKind.i64 0, Value.bool false, Value.string ⟨#[]⟩, Value.slice none 0 0] 25)).alloc (Obj.cells (madeCells #[Value.string ByteArray.empty, Value.int IntKind.i64 0, Value.bool false, Value.string ByteArray.empty, Value.slice none 0 0] (n * 5)) 103))) := B0
      clear hs1 hs2 hs3 X1 X2 X3 B0
      obtain ⟨G, hG⟩ : ∃ G, w.heap.size = G := ⟨_, rfl⟩
      generalize (((w.alloc (Obj.cells #[Value.int IntKind.i64 k, Value.bool e, Value.string t, Value.slice x n c] 25)).alloc (Obj.cells #[Value.int IntKind.i64 0, Value.bool false, Value.string ⟨#[]⟩, Value.slice none 0 0] 25)).alloc (Obj.cells (madeCells #[Value.string ByteArray.empty, Value.int IntKind.i64 0, Value.bool false, Value.string ByteArray.empty, Value.slice none 0 0] (n * 5)) 103)) = w2 at *
      rw [hG] at K0 XX ⊢
      have HG : Hid (w.heap.size = G) := hG
      clear hG
      go_loopw [17] (fun xi wr => ∃ i : Nat, i ≤ n ∧ xi = .int .i64 i ∧ Hid (Ke wr (G + 1 + 1) (G + 1 + 1) n i ns ks) ∧ Hid (wr.heap[G]? = some (Obj.cells #[Value.int IntKind.i64 k, Value.bool e, Value.string t, Value.slice x n c] 25) ∧ wr.heap[G + 1]? = some (Obj.cells #[Value.int IntKind.i64 0, Value.bool false, Value.string ⟨#[]⟩, Value.slice none 0 0] 25) ∧ G + 1 < wr.heap.size) ∧ Hid (Below w.heap.size w wr)) (fun i _ => n - (intOf i).toNat)
      case atStart => exact ⟨0, Nat.zero_le _, rfl, K0, XX, B0'⟩
      case round =>
        obtain ⟨i, hi, rfl, hK, hX, hB⟩ := hrel
        by_cases hlt : i < n
        · obtain ⟨l1, l2⟩ := LL.out
          obtain ⟨s, hs⟩ : ∃ s, ns[i]? = some s := ⟨_, List.getElem?_eq_getElem (by omega)⟩
          obtain ⟨T, hT⟩ : ∃ s, ks[i]? = some s := ⟨_, List.getElem?_eq_getElem (by omega)⟩
          obtain ⟨g, o, a, b, d, f, p, q, rfl, hg, c0, c1, c2, c3, c4, hA⟩ := EX.out.below hB.out i s T hlt hs hT
          have HA : Hid (At wr m (.agg #[.int .i64 a, .bool b, .string d, .slice f p q]) T) := hA
          have HE : Hid (ns[i]? = some s ∧ ks[i]? = some T) := ⟨hs, hT⟩
          clear hA hs hT l1 l2
          go_wp2
          have bE : Below wr.heap.size wr (wr.alloc (Obj.cells #[Value.string s, Value.int IntKind.i64 a, Value.bool b, Value.string d, Value.slice f p q] 103)) := (Below.refl _ _).alloc (Nat.le_refl _) _
          have y0 : (wr.alloc (Obj.cells #[Value.string s, Value.int IntKind.i64 a, Value.bool b, Value.string d, Value.slice f p q] 103)).cell? ⟨wr.heap.size, 0, none⟩ = some (.string s) := by rw [World.cell?_alloc_new]; rfl
          have y1 : (wr.alloc (Obj.cells #[Value.string s, Value.int IntKind.i64 a, Value.bool b, Value.string d, Value.slice f p q] 103)).cell? ⟨wr.heap.size, 1, none⟩ = some (.int .i64 a) := by rw [World.cell?_alloc_new]; rfl
          have y2 : (wr.alloc (Obj.cells #[Value.string s, Value.int IntKind.i64 a, Value.bool b, Value.string d, Value.slice f p q] 103)).cell? ⟨wr.heap.size, 2, none⟩ = some (.bool b) := by rw [World.cell?_alloc_new]; rfl
          have y3 : (wr.alloc (Obj.cells #[Value.string s, Value.int IntKind.i64 a, Value.bool b, Value.string d, Value.slice f p q] 103)).cell? ⟨wr.heap.size, 3, none⟩ = some (.string d) := by rw [World.cell?_alloc_new]; rfl
          have y4 : (wr.alloc (Obj.cells #[Value.string s, Value.int IntKind.i64 a, Value.bool b, Value.string d, Value.slice f p q] 103)).cell? ⟨wr.heap.size, 4, none⟩ = some (.slice f p q) := by rw [World.cell?_alloc_new]; rfl
          have hzE : wr.heap.size < (wr.alloc (Obj.cells #[Value.string s, Value.int IntKind.i64 a, Value.bool b, Value.string d, Value.slice f p q] 103)).heap.size := by rw [World.size_alloc]; omega
          have K3 : Hid (Ke (wr.alloc (Obj.cells #[Value.string s, Value.int IntKind.i64 a, Value.bool b, Value.string d, Value.slice f p q] 103)) (G + 1 + 1) (G + 1 + 1) n i ns ks) := hK.out.below bE
          have HA3 : Hid (At (wr.alloc (Obj.cells #[Value.string s, Value.int IntKind.i64 a, Value.bool b, Value.string d, Value.slice f p q] 103)) m (.agg #[.int .i64 a, .bool b, .string d, .slice f p q]) T) := HA.out.below bE
          have hB3 : Hid (Below w.heap.size w (wr.alloc (Obj.cells #[Value.string s, Value.int IntKind.i64 a, Value.bool b, Value.string d, Value.slice f p q] 103))) := hB.out.trans (bE.mono hB.out.size)
          have hX3 : Hid (Below wr.heap.size wr (wr.alloc (Obj.cells #[Value.string s, Value.int IntKind.i64 a, Value.bool b, Value.string d, Value.slice f p q] 103))) := bE
          obtain ⟨E, hE⟩ : ∃ E, wr.heap.size = E := ⟨_, rfl⟩
          have HWE : Hid (wr.heap.size = E) := hE
          rw [hE] at y0 y1 y2 y3 y4 hzE ⊢
          clear hE bE c0 c1 c2 c3 c4 hg HA
          generalize wr.alloc (Obj.cells #[Value.string s, Value.int IntKind.i64 a, Value.bool b, Value.string d, Value.slice f p q] 103) = w3 at *
          obtain ⟨r0, k0⟩ := K3.out.room (i * 5) (by omega)
          have f0 := K3.out.free (i * 5)
          obtain ⟨r1, k1⟩ := K3.out.room (i * 5 + 1) (by omega)
          have f1 := K3.out.free (i * 5 + 1)
          obtain ⟨r2, k2⟩ := K3.out.room (i * 5 + 2) (by omega)
          have f2 := K3.out.free (i * 5 + 2)
          obtain ⟨r3, k3⟩ := K3.out.room (i * 5 + 3) (by omega)
          have f3 := K3.out.free (i * 5 + 3)
          obtain ⟨r4, k4⟩ := K3.out.room (i * 5 + 4) (by omega)
          have f4 := K3.out.free (i * 5 + 4)
          have hKb := K3.out.big
          have b3 : Below w3.heap.size w3 w3 := Below.refl _ _
          have hD : Below w3.heap.size w3 w3.drew := b3.drew
          have hEK : E ≠ G + 1 + 1 := by have := hK.out.big; rw [HWE.out] at this; omega
          have hKE : G + 1 + 1 ≠ E := Ne.symm hEK
          go_region_held3 (fun W => W.cell? ⟨E, 0, none⟩ = some (.string s) ∧ W.cell? ⟨E, 1, none⟩ = some (.int .i64 a) ∧ W.cell? ⟨E, 2, none⟩ = some (.bool b) ∧ W.cell? ⟨E, 3, none⟩ = some (.string d) ∧ W.cell? ⟨E, 4, none⟩ = some (.slice f p q))
            (first
              | go_keep
              | (refine ⟨(b5.cell (p := ⟨E, 0, none⟩) hzE).trans y0, (b5.cell (p := ⟨E, 1, none⟩) hzE).trans y1, (b5.cell (p := ⟨E, 2, none⟩) hzE).trans y2, (b5.cell (p := ⟨E, 3, none⟩) hzE).trans y3, (b5.cell (p := ⟨E, 4, none⟩) hzE).trans y4⟩))
            (first
              | (go_at_call 65
                 refine (IH _ T w3.drew (HA3.out.below hD)).mono ?_
                 rintro e5 w5 ⟨⟨v5, fp5, rfl, hv, hnd⟩, b5⟩
                 obtain ⟨x5, q5, rfl⟩ := hv.shape
                 have m0 : w5.cell? ⟨G + 1 + 1, i * 5, none⟩ = some r0 := (b5.cell (p := ⟨G + 1 + 1, i * 5, none⟩) hKb).trans k0
                 have o0 : w5.frozen? ⟨G + 1 + 1, i * 5, none⟩ = false := (b5.frozen (p := ⟨G + 1 + 1, i * 5, none⟩) hKb).trans f0
                 have m1 : w5.cell? ⟨G + 1 + 1, i * 5 + 1, none⟩ = some r1 := (b5.cell (p := ⟨G + 1 + 1, i * 5 + 1, none⟩) hKb).trans k1
                 have o1 : w5.frozen? ⟨G + 1 + 1, i * 5 + 1, none⟩ = false := (b5.frozen (p := ⟨G + 1 + 1, i * 5 + 1, none⟩) hKb).trans f1
                 have m2 : w5.cell? ⟨G + 1 + 1, i * 5 + 2, none⟩ = some r2 := (b5.cell (p := ⟨G + 1 + 1, i * 5 + 2, none⟩) hKb).trans k2
                 have o2 : w5.frozen? ⟨G + 1 + 1, i * 5 + 2, none⟩ = false := (b5.frozen (p := ⟨G + 1 + 1, i * 5 + 2, none⟩) hKb).trans f2
                 have m3 : w5.cell? ⟨G + 1 + 1, i * 5 + 3, none⟩ = some r3 := (b5.cell (p := ⟨G + 1 + 1, i * 5 + 3, none⟩) hKb).trans k3
                 have o3 : w5.frozen? ⟨G + 1 + 1, i * 5 + 3, none⟩ = false := (b5.frozen (p := ⟨G + 1 + 1, i * 5 + 3, none⟩) hKb).trans f3
                 have m4 : w5.cell? ⟨G + 1 + 1, i * 5 + 4, none⟩ = some r4 := (b5.cell (p := ⟨G + 1 + 1, i * 5 + 4, none⟩) hKb).trans k4
                 have o4 : w5.frozen? ⟨G + 1 + 1, i * 5 + 4, none⟩ = false := (b5.frozen (p := ⟨G + 1 + 1, i * 5 + 4, none⟩) hKb).trans f4))
          have P5 := (K3.out.below hD).put b5 hlt HE.out.1 HE.out.2 hv hnd
          have B5 : Below wr.heap.size wr w5 := hX3.out.trans ((hD.trans (b5.mono hD.size)).mono hX3.out.size)
          have HP : Hid (Ke (w5.setCells (G + 1 + 1) (i * 5) [.string s, .int .i64 T.k, .bool T.e, .string T.t, .slice x5 T.nms.length q5]) (G + 1 + 1) (G + 1 + 1) n (i + 1) ns ks) := P5
          have HB5 : Hid (Below wr.heap.size wr w5) := B5
          clear P5 B5 b5 hv m0 m1 m2 m3 m4 o0 o1 o2 o3 o4 k0 k1 k2 k3 k4 f0 f1 f2 f3 f4 y0 y1 y2 y3 y4
          have HW : Hid ((w5.setCells (G + 1 + 1) (i * 5) [.string s, .int .i64 T.k, .bool T.e, .string T.t, .slice x5 T.nms.length q5]).heap[G]? = w5.heap[G]? ∧ (w5.setCells (G + 1 + 1) (i * 5) [.string s, .int .i64 T.k, .bool T.e, .string T.t, .slice x5 T.nms.length q5]).heap[G + 1]? = w5.heap[G + 1]?) := ⟨heapE_setCells _ _ _ _ (by omega) _, heapE_setCells _ _ _ _ (by omega) _⟩
          have HZ : Hid ((w5.setCells (G + 1 + 1) (i * 5) [.string s, .int .i64 T.k, .bool T.e, .string T.t, .slice x5 T.nms.length q5]).heap.size = w5.heap.size) := sizeE_setCells _ _ _ _
          have HF : Hid (Below w.heap.size w (w5.setCells (G + 1 + 1) (i * 5) [.string s, .int .i64 T.k, .bool T.e, .string T.t, .slice x5 T.nms.length q5])) := belowE_setCells _ _ _ (by rw [HG.out]; omega) (hB.out.trans (HB5.out.mono hB.out.size))
          change Exit.inBlock 1 _ Exit.normal _ (w5.setCells (G + 1 + 1) (i * 5) [.string s, .int .i64 T.k, .bool T.e, .string T.t, .slice x5 T.nms.length q5])
          generalize w5.setCells (G + 1 + 1) (i * 5) [.string s, .int .i64 T.k, .bool T.e, .string T.t, .slice x5 T.nms.length q5] = w6 at *
          go_wp2
          go_roundw
          case rel =>
            obtain ⟨X1, X2, X3⟩ := hX.out
            refine ⟨i + 1, by omega, by go_num, HP, ⟨?_, ?_, ?_⟩, HF⟩
            · rw [HW.out.1, HB5.out.block G (by omega)]; exact X1
            · rw [HW.out.2, HB5.out.block (G + 1) (by omega)]; exact X2
            · rw [HZ.out]; have := HB5.out.size; omega
          case measure => simp [intOf]; omega
        · obtain rfl : i = n := by omega
          obtain ⟨Y1, Y2, Y3⟩ := hX.out
          have y0 : wr.cell? ⟨G, 0, none⟩ = some (.int .i64 k) := by simp only [World.cell?, Y1]; rfl
          have y1 : wr.cell? ⟨G, 1, none⟩ = some (.bool e) := by simp only [World.cell?, Y1]; rfl
          have y2 : wr.cell? ⟨G, 2, none⟩ = some (.string t) := by simp only [World.cell?, Y1]; rfl
          have y3 : wr.cell? ⟨G, 3, none⟩ = some (.slice x i c) := by simp only [World.cell?, Y1]; rfl
          have z3 : wr.frozen? ⟨G, 3, none⟩ = false := by unfold World.frozen?; rw [Y1]; simp
          have u0 : wr.cell? ⟨G + 1, 0, none⟩ = some (.int .i64 0) := by simp only [World.cell?, Y2]; rfl
          have u1 : wr.cell? ⟨G + 1, 1, none⟩ = some (.bool false) := by simp only [World.cell?, Y2]; rfl
          have u2 : wr.cell? ⟨G + 1, 2, none⟩ = some (.string ⟨#[]⟩) := by simp only [World.cell?, Y2]; rfl
          have u3 : wr.cell? ⟨G + 1, 3, none⟩ = some (.slice none 0 0) := by simp only [World.cell?, Y2]; rfl
          have v0 : wr.frozen? ⟨G + 1, 0, none⟩ = false := by unfold World.frozen?; rw [Y2]; simp
          have v1 : wr.frozen? ⟨G + 1, 1, none⟩ = false := by unfold World.frozen?; rw [Y2]; simp
          have v2 : wr.frozen? ⟨G + 1, 2, none⟩ = false := by unfold World.frozen?; rw [Y2]; simp
          have v3 : wr.frozen? ⟨G + 1, 3, none⟩ = false := by unfold World.frozen?; rw [Y2]; simp
          clear Y1 Y2
          go_wp2
          have hb4 := World.cell?_setCells_in (G + 1) [Value.int .i64 k, .bool e, .string t, .slice (some ⟨G + 1 + 1, 0, none⟩) i i] 0 (wr.setCell ⟨G, 3, none⟩ (.slice (some ⟨G + 1 + 1, 0, none⟩) i i)) (fun j hj => by
            have hj' : j < 4 := hj
            rw [World.cell?_setCell_other (w := wr) (a := ⟨G, 3, none⟩) (b := ⟨G + 1, 0 + j, none⟩) (h := fun h => by injection h with h1; omega), Nat.zero_add]
            match j, hj' with
            | 0, _ => rw [u0]; rfl
            | 1, _ => rw [u1]; rfl
            | 2, _ => rw [u2]; rfl
            | 3, _ => rw [u3]; rfl)
          have w0' := hb4 0 (by show 0 < 4; omega)
          have w1' := hb4 1 (by show 1 < 4; omega)
          have w2' := hb4 2 (by show 2 < 4; omega)
          have w3' := hb4 3 (by show 3 < 4; omega)
          have HH : ∀ q, q ≠ G → q ≠ G + 1 → ((wr.setCell ⟨G, 3, none⟩ (.slice (some ⟨G + 1 + 1, 0, none⟩) i i)).setCells (G + 1) 0 [.int .i64 k, .bool e, .string t, .slice (some ⟨G + 1 + 1, 0, none⟩) i i]).heap[q]? = wr.heap[q]? := fun q h1 h2 => (heapE_setCells _ _ _ q h2 _).trans (Below.heap_setCell wr ⟨G, 3, none⟩ _ q h1)
          have HS : ((wr.setCell ⟨G, 3, none⟩ (.slice (some ⟨G + 1 + 1, 0, none⟩) i i)).setCells (G + 1) 0 [.int .i64 k, .bool e, .string t, .slice (some ⟨G + 1 + 1, 0, none⟩) i i]).heap.size = wr.heap.size := (sizeE_setCells _ _ _ _).trans (World.size_setCell _ _ _)
          have HL : Below w.heap.size w ((wr.setCell ⟨G, 3, none⟩ (.slice (some ⟨G + 1 + 1, 0, none⟩) i i)).setCells (G + 1) 0 [.int .i64 k, .bool e, .string t, .slice (some ⟨G + 1 + 1, 0, none⟩) i i]) := belowE_setCells _ _ _ (by rw [HG.out]; omega) (hB.out.setCell (by rw [HG.out]; exact Nat.le_refl _) _)
          change bodyPost _ _ _ _ _ ((wr.setCell ⟨G, 3, none⟩ (.slice (some ⟨G + 1 + 1, 0, none⟩) i i)).setCells (G + 1) 0 [.int .i64 k, .bool e, .string t, .slice (some ⟨G + 1 + 1, 0, none⟩) i i])
          generalize (wr.setCell ⟨G, 3, none⟩ (.slice (some ⟨G + 1 + 1, 0, none⟩) i i)).setCells (G + 1) 0 [.int .i64 k, .bool e, .string t, .slice (some ⟨G + 1 + 1, 0, none⟩) i i] = W at *
          clear hb4
          simp only [Nat.zero_add] at w0' w1' w2' w3'
          have hKW : Ke W (G + 1 + 1) (G + 1 + 1) i i ns ks := by
            obtain ⟨cs, zs, fq, h1, h2, h3, h4⟩ := hK.out
            exact ⟨cs, zs, fq, own_same h1 (fun x hx => by simp [blkL, Value.ownBlock] at hx; rw [hx]; exact HH _ (by omega) (by omega)), h2, KidV.same _ _ _ _ h3 (fun x hx => HH x (by have := (KidV.lt _ _ _ _ h3 x hx).1; omega) (by have := (KidV.lt _ _ _ _ h3 x hx).1; omega)), h4⟩
          obtain ⟨fp, hf1, hf2⟩ := hKW.full LL.out.1 LL.out.2 k e t
          exact bodyPost_ret (v := .agg #[.int .i64 k, .bool e, .string t, .slice (some ⟨G + 1 + 1, 0, none⟩) i i]) (by simp [results, Tryz.results65, go_sem, w0', w1', w2', w3']) rfl ⟨⟨_, fp, rfl, TrV.low (by rw [HG.out]; omega) _ _ _ hf1, hf2⟩, HL⟩

end Go.Proofs.YtdjjleahfciipaaGreatDoor
