/- tree.Copy, walked. -/
import Derived.Test.YtdmkkkfdigeinacTqR
import Derived.Laws.IdiomCopy
namespace Go.Proofs.Ytdmkkkfdigeinac
open Go.RowKit

/-- As At, all in blocks from B on. -/
def AtF (w : World) (B : Nat) : Nat → Value → Tr → Prop
  | 0, _, _ => False
  | m + 1, v, .mk k e t ns ks => ∃ x n c, v = .agg #[.int .i64 k, .bool e, .string t, .slice x n c] ∧ ns.length = n ∧ ks.length = n ∧ n ≤ c ∧ n ≤ 1954687338211 ∧
      (n = 0 ∨ ∃ g o, x = some ⟨g, o, none⟩ ∧ (g < w.heap.size ∧ B ≤ g) ∧ ∀ j s T, ns[j]? = some s → ks[j]? = some T → ∃ (a : Int) (b : Bool) (d : ByteArray) (f : Option Addr) (p q : Nat), w.cell? ⟨g, o + j * 5, none⟩ = some (.string s) ∧ w.cell? ⟨g, o + j * 5 + 1, none⟩ = some (.int .i64 a) ∧ w.cell? ⟨g, o + j * 5 + 2, none⟩ = some (.bool b) ∧ w.cell? ⟨g, o + j * 5 + 3, none⟩ = some (.string d) ∧ w.cell? ⟨g, o + j * 5 + 4, none⟩ = some (.slice f p q) ∧ AtF w B m (.agg #[.int .i64 a, .bool b, .string d, .slice f p q]) T)

theorem AtF.at {w : World} {B m : Nat} {v : Value} {T : Tr} (h : AtF w B m v T) : At w m v T := by
  induction m generalizing v T with
  | zero => exact h.elim
  | succ m ih =>
    obtain ⟨k, e, t, ns, ks⟩ := T
    obtain ⟨x, n, c, h1, h2, h3, h4, h5, h6⟩ := h
    refine ⟨x, n, c, h1, h2, h3, h4, h5, ?_⟩
    rcases h6 with h6 | ⟨g, o, h7, h8, h9⟩
    · exact Or.inl h6
    · refine Or.inr ⟨g, o, h7, h8.1, fun j s T hs hT => ?_⟩
      obtain ⟨a, b', d, f, p, q, c0, c1, c2, c3, c4, hA⟩ := h9 j s T hs hT
      exact ⟨a, b', d, f, p, q, c0, c1, c2, c3, c4, ih hA⟩
theorem AtF.lower {w : World} {B B' m : Nat} {v : Value} {T : Tr} (h : AtF w B m v T) (hB : B' ≤ B) : AtF w B' m v T := by
  induction m generalizing v T with
  | zero => exact h.elim
  | succ m ih =>
    obtain ⟨k, e, t, ns, ks⟩ := T
    obtain ⟨x, n, c, h1, h2, h3, h4, h5, h6⟩ := h
    refine ⟨x, n, c, h1, h2, h3, h4, h5, ?_⟩
    rcases h6 with h6 | ⟨g, o, h7, h8, h9⟩
    · exact Or.inl h6
    · refine Or.inr ⟨g, o, h7, ⟨h8.1, by omega⟩, fun j s T hs hT => ?_⟩
      obtain ⟨a, b', d, f, p, q, c0, c1, c2, c3, c4, hA⟩ := h9 j s T hs hT
      exact ⟨a, b', d, f, p, q, c0, c1, c2, c3, c4, ih hA⟩
theorem AtF.keep {w w' : World} {B m : Nat} {v : Value} {T : Tr} (h : AtF w B m v T) (hk : ∀ k, B ≤ k → k < w.heap.size → w'.heap[k]? = w.heap[k]?) (hz : w.heap.size ≤ w'.heap.size) : AtF w' B m v T := by
  induction m generalizing v T with
  | zero => exact h.elim
  | succ m ih =>
    obtain ⟨k, e, t, ns, ks⟩ := T
    obtain ⟨x, n, c, h1, h2, h3, h4, h5, h6⟩ := h
    refine ⟨x, n, c, h1, h2, h3, h4, h5, ?_⟩
    rcases h6 with h6 | ⟨g, o, h7, h8, h9⟩
    · exact Or.inl h6
    · have hg := hk g h8.2 h8.1
      refine Or.inr ⟨g, o, h7, ⟨by omega, h8.2⟩, fun j s T hs hT => ?_⟩
      obtain ⟨a, b', d, f, p, q, c0, c1, c2, c3, c4, hA⟩ := h9 j s T hs hT
      refine ⟨a, b', d, f, p, q, ?_, ?_, ?_, ?_, ?_, ih hA⟩
      · rw [World.cell?_of_block (w := w) (w' := w') (a := ⟨g, o + j * 5, none⟩) hg]; exact c0
      · rw [World.cell?_of_block (w := w) (w' := w') (a := ⟨g, o + j * 5 + 1, none⟩) hg]; exact c1
      · rw [World.cell?_of_block (w := w) (w' := w') (a := ⟨g, o + j * 5 + 2, none⟩) hg]; exact c2
      · rw [World.cell?_of_block (w := w) (w' := w') (a := ⟨g, o + j * 5 + 3, none⟩) hg]; exact c3
      · rw [World.cell?_of_block (w := w) (w' := w') (a := ⟨g, o + j * 5 + 4, none⟩) hg]; exact c4

theorem AtF.shape {w : World} {B m : Nat} {v : Value} {T : Tr} (h : AtF w B m v T) : ∃ (k : Int) (e : Bool) (t : ByteArray) (x : Option Addr) (n c : Nat), v = .agg #[.int .i64 k, .bool e, .string t, .slice x n c] := by
  cases m with
  | zero => exact h.elim
  | succ m =>
    obtain ⟨k, e, t, ns, ks⟩ := T
    obtain ⟨x, n, c, h1, _⟩ := h
    exact ⟨k, e, t, x, n, c, h1⟩

/-- The contract of Copy, at depth m. -/
def CpAt (m : Nat) : Prop := ∀ (v : Value) (T : Tr) (w : World), At w m v T → Calls Try.prog 7 #[v] w fun e w' => (∃ v', e = .returned v' ∧ AtF w' w.heap.size m v' T) ∧ Below w.heap.size w w'

theorem info_ent : (Try.prog.info? 31).map (fun i => (i.zero, i.size, i.bytes)) = some (some (.agg #[.string ByteArray.empty, .int .i64 0, .bool false, .string ByteArray.empty, .slice none 0 0]), 5, 72) := by kernel_rfl

/-- The new list of kids, i of them done: block K. -/
structure Kd (w : World) (K m n i : Nat) (ns : List ByteArray) (ks : List Tr) : Prop where
  room : ∀ j, j < n * 5 → ∃ v, w.cell? ⟨K, j, none⟩ = some v
  free : ∀ j, j < n * 5 → w.frozen? ⟨K, j, none⟩ = false
  big : K < w.heap.size
  done : ∀ j s T, j < i → ns[j]? = some s → ks[j]? = some T → ∃ (a : Int) (b : Bool) (d : ByteArray) (f : Option Addr) (p q : Nat), w.cell? ⟨K, j * 5, none⟩ = some (.string s) ∧ w.cell? ⟨K, j * 5 + 1, none⟩ = some (.int .i64 a) ∧ w.cell? ⟨K, j * 5 + 2, none⟩ = some (.bool b) ∧ w.cell? ⟨K, j * 5 + 3, none⟩ = some (.string d) ∧ w.cell? ⟨K, j * 5 + 4, none⟩ = some (.slice f p q) ∧ AtF w (K + 1) m (.agg #[.int .i64 a, .bool b, .string d, .slice f p q]) T
theorem Kd.below {w w' : World} {K m n i : Nat} {ns : List ByteArray} {ks : List Tr} (h : Kd w K m n i ns ks) (b : Below w.heap.size w w') : Kd w' K m n i ns ks := by
  have hk := b.block K h.big
  refine ⟨fun j hj => ?_, fun j hj => ?_, Nat.lt_of_lt_of_le h.big b.size, fun j s T hj hs hT => ?_⟩
  · rw [World.cell?_of_block (w := w) (w' := w') (a := ⟨K, j, none⟩) hk]; exact h.room j hj
  · rw [World.frozen?_of_block (w := w) (w' := w') (a := ⟨K, j, none⟩) hk]; exact h.free j hj
  · obtain ⟨a, b', d, f, p, q, c0, c1, c2, c3, c4, hA⟩ := h.done j s T hj hs hT
    refine ⟨a, b', d, f, p, q, ?_, ?_, ?_, ?_, ?_, hA.keep (fun k _ hk => b.block k hk) b.size⟩
    · rw [World.cell?_of_block (w := w) (w' := w') (a := ⟨K, j * 5, none⟩) hk]; exact c0
    · rw [World.cell?_of_block (w := w) (w' := w') (a := ⟨K, j * 5 + 1, none⟩) hk]; exact c1
    · rw [World.cell?_of_block (w := w) (w' := w') (a := ⟨K, j * 5 + 2, none⟩) hk]; exact c2
    · rw [World.cell?_of_block (w := w) (w' := w') (a := ⟨K, j * 5 + 3, none⟩) hk]; exact c3
    · rw [World.cell?_of_block (w := w) (w' := w') (a := ⟨K, j * 5 + 4, none⟩) hk]; exact c4

theorem heapC_setCells (b : Nat) (vs : List Value) (o k : Nat) (hk : k ≠ b) (w : World) : (w.setCells b o vs).heap[k]? = w.heap[k]? := by
  induction vs generalizing o w with
  | nil => rfl
  | cons v vs ih => exact (ih (o + 1) _).trans (Below.heap_setCell w ⟨b, o, none⟩ v k hk)
theorem sizeC_setCells (b : Nat) (vs : List Value) (o : Nat) (w : World) : (w.setCells b o vs).heap.size = w.heap.size := by
  induction vs generalizing o w with
  | nil => rfl
  | cons v vs ih => exact (ih (o + 1) _).trans (World.size_setCell _ _ _)
theorem belowC_setCells (b : Nat) (vs : List Value) (o : Nat) {B : Nat} (hB : B ≤ b) {w0 w : World} (h : Below B w0 w) : Below B w0 (w.setCells b o vs) := by
  induction vs generalizing o w with
  | nil => exact h
  | cons v vs ih => exact ih (o + 1) (h.setCell hB _)
theorem Kd.put {w : World} {K m n i : Nat} {ns : List ByteArray} {ks : List Tr} (h : Kd w K m n i ns ks) (hi : i < n) {s : ByteArray} {T : Tr} (hs : ns[i]? = some s) (hT : ks[i]? = some T) {a : Int} {b : Bool} {d : ByteArray} {f : Option Addr} {p q : Nat}
    (hA : AtF w (K + 1) m (.agg #[.int .i64 a, .bool b, .string d, .slice f p q]) T) : Kd (w.setCells K (i * 5) [.string s, .int .i64 a, .bool b, .string d, .slice f p q]) K m n (i + 1) ns ks := by
  have hin := World.cell?_setCells_in K [.string s, .int .i64 a, .bool b, .string d, .slice f p q] (i * 5) w (fun j hj => by
    simp at hj
    obtain ⟨v, hv⟩ := h.room (i * 5 + j) (by omega)
    rw [hv]; rfl)
  have hout : ∀ j, (j < i * 5 ∨ i * 5 + 5 ≤ j) → (w.setCells K (i * 5) [.string s, .int .i64 a, .bool b, .string d, .slice f p q]).cell? ⟨K, j, none⟩ = w.cell? ⟨K, j, none⟩ := fun j hj => World.cell?_setCells_out K _ _ w _ (fun _ _ => hj)
  have hkeep : ∀ {v : Value} {T : Tr}, AtF w (K + 1) m v T → AtF (w.setCells K (i * 5) [.string s, .int .i64 a, .bool b, .string d, .slice f p q]) (K + 1) m v T := fun h => h.keep (fun k hk _ => heapC_setCells K _ _ k (by omega) w) (by rw [sizeC_setCells]; exact Nat.le_refl _)
  refine ⟨fun j hj => ?_, fun j hj => ?_, by rw [sizeC_setCells]; exact h.big, fun j s' T' hj hs' hT' => ?_⟩
  · by_cases e : j < i * 5 ∨ i * 5 + 5 ≤ j
    · rw [hout j e]; exact h.room j hj
    · have := hin (j - i * 5) (by simp; omega)
      rw [show i * 5 + (j - i * 5) = j by omega] at this
      exact ⟨_, this⟩
  · rw [World.frozen?_setCells]; exact h.free j hj
  · by_cases e : j = i
    · subst e
      rw [hs] at hs'; rw [hT] at hT'
      obtain rfl := Option.some.inj hs'
      obtain rfl := Option.some.inj hT'
      exact ⟨a, b, d, f, p, q, hin 0 (by simp), hin 1 (by simp), hin 2 (by simp), hin 3 (by simp), hin 4 (by simp), hkeep hA⟩
    · obtain ⟨a', b', d', f', p', q', c0, c1, c2, c3, c4, hA'⟩ := h.done j s' T' (by omega) hs' hT'
      refine ⟨a', b', d', f', p', q', ?_, ?_, ?_, ?_, ?_, hkeep hA'⟩
      · rw [hout _ (by omega)]; exact c0
      · rw [hout _ (by omega)]; exact c1
      · rw [hout _ (by omega)]; exact c2
      · rw [hout _ (by omega)]; exact c3
      · rw [hout _ (by omega)]; exact c4

set_option maxHeartbeats 8000000 in
theorem copy_any (m : Nat) : CpAt m := by
  induction m with
  | zero => intro v T w h; exact h.elim
  | succ m IH =>
    rintro v ⟨k, e, t, ns, ks⟩ w ⟨x, n, c, rfl, l1, l2, l3, l4, hx⟩
    have EX : Hid (Ents w m x n ns ks) := At.ents hx
    have LL : Hid (ns.length = n ∧ ks.length = n) := ⟨l1, l2⟩
    clear hx l1 l2
    by_cases hn : n = 0
    · subst hn
      have HZ : Hid (ns.length = 0 ∧ ks.length = 0) := LL.out
      clear LL EX
      go_enter Try.func7, Try.ntmps7
      go_wp2
      have C1 : ∀ j v, #[Value.int IntKind.i64 k, Value.bool e, Value.string t, Value.slice x 0 c][j]? = some v → ((w.alloc (Obj.cells #[Value.int IntKind.i64 k, Value.bool e, Value.string t, Value.slice x 0 c] 25)).alloc (Obj.cells #[Value.int IntKind.i64 0, Value.bool false, Value.string ⟨#[]⟩, Value.slice none 0 0] 25)).cell? ⟨w.heap.size, j, none⟩ = some v := fun j v hv => by
        rw [World.cell?_alloc_old _ _ _ (by rw [World.size_alloc]; show w.heap.size ≠ _; omega), World.cell?_alloc_new]; exact hv
      have B0 : Below w.heap.size w ((w.alloc (Obj.cells #[Value.int IntKind.i64 k, Value.bool e, Value.string t, Value.slice x 0 c] 25)).alloc (Obj.cells #[Value.int IntKind.i64 0, Value.bool false, Value.string ⟨#[]⟩, Value.slice none 0 0] 25)) := ((Below.refl _ _).alloc (Nat.le_refl _) _).alloc (by rw [World.size_alloc]; omega) _
      go_loop [17] (fun xi => xi = .int .i64 ((0 : Nat) : Int)) (fun _ => 0)
      case atStart => rfl
      case round =>
        subst hrel
        go_wp2
        refine bodyPost_ret (v := .agg #[.int .i64 k, .bool e, .string t, .slice none 0 0]) (by simp [results, Try.results7, go_sem]) rfl ⟨⟨_, rfl, none, 0, 0, rfl, HZ.out.1, HZ.out.2, Nat.le_refl _, by omega, Or.inl rfl⟩, ?_⟩
        exact ((Below.refl _ _).alloc (Nat.le_refl _) _).alloc (by rw [World.size_alloc]; omega) _
    · have hp : (0 : Int) < (n : Int) := by omega
      have HMK : Hid (∀ w : World, (Instr.makeSlice 23 (.int .i64 (n : Int)) (.int .i64 (n : Int))).run Try.prog w = .ok (.slice (some ⟨w.heap.size, 0, none⟩) n n) (w.alloc (.cells (madeCells (Value.agg #[.string ByteArray.empty, .int .i64 0, .bool false, .string ByteArray.empty, .slice none 0 0]).cells (n * 5)) 31))) := fun w => by
        obtain ⟨i0, hi, hz0, hz1, hz2⟩ := info_parts info_ent
        rw [run_make (P := Try.prog) w 23 31 i0 _ Try.underlying23 hi hz0 .i64 .i64 _ _ (by omega) (by omega) (by rw [hz2]; omega) (by omega), Int.toNat_natCast, hz1]
      go_enter Try.func7, Try.ntmps7
      go_wp2_with fail
      rw [HMK.out]
      clear HMK
      go_wp2
      have hs1 : (w.alloc (Obj.cells #[Value.int IntKind.i64 k, Value.bool e, Value.string t, Value.slice x n c] 25)).heap.size = w.heap.size + 1 := World.size_alloc _ _
      have hs2 : ((w.alloc (Obj.cells #[Value.int IntKind.i64 k, Value.bool e, Value.string t, Value.slice x n c] 25)).alloc (Obj.cells #[Value.int IntKind.i64 0, Value.bool false, Value.string ⟨#[]⟩, Value.slice none 0 0] 25)).heap.size = w.heap.size + 1 + 1 := by rw [World.size_alloc, hs1]
      have hs3 : (((w.alloc (Obj.cells #[Value.int IntKind.i64 k, Value.bool e, Value.string t, Value.slice x n c] 25)).alloc (Obj.cells #[Value.int IntKind.i64 0, Value.bool false, Value.string ⟨#[]⟩, Value.slice none 0 0] 25)).alloc (Obj.cells (madeCells #[Value.string ByteArray.empty, Value.int IntKind.i64 0, Value.bool false, Value.string ByteArray.empty, Value.slice none 0 0] (n * 5)) 31)).heap.size = w.heap.size + 1 + 1 + 1 := by rw [World.size_alloc, hs2]
      have X1 : (((w.alloc (Obj.cells #[Value.int IntKind.i64 k, Value.bool e, Value.string t, Value.slice x n c] 25)).alloc (Obj.cells #[Value.int IntKind.i64 0, Value.bool false, Value.string ⟨#[]⟩, Value.slice none 0 0] 25)).alloc (Obj.cells (madeCells #[Value.string ByteArray.empty, Value.int IntKind.i64 0, Value.bool false, Value.string ByteArray.empty, Value.slice none 0 0] (n * 5)) 31)).heap[w.heap.size]? = some (Obj.cells #[Value.int IntKind.i64 k, Value.bool e, Value.string t, Value.slice x n c] 25) := by
        rw [Below.heap_alloc _ _ _ (by rw [hs2]; omega), Below.heap_alloc _ _ _ (by rw [hs1]; omega)]; exact heap_alloc_new w _
      have X2 : (((w.alloc (Obj.cells #[Value.int IntKind.i64 k, Value.bool e, Value.string t, Value.slice x n c] 25)).alloc (Obj.cells #[Value.int IntKind.i64 0, Value.bool false, Value.string ⟨#[]⟩, Value.slice none 0 0] 25)).alloc (Obj.cells (madeCells #[Value.string ByteArray.empty, Value.int IntKind.i64 0, Value.bool false, Value.string ByteArray.empty, Value.slice none 0 0] (n * 5)) 31)).heap[w.heap.size + 1]? = some (Obj.cells #[Value.int IntKind.i64 0, Value.bool false, Value.string ⟨#[]⟩, Value.slice none 0 0] 25) := by
        rw [Below.heap_alloc _ _ _ (by rw [hs2]; omega), ← hs1]; exact heap_alloc_new _ _
      have X3 : (((w.alloc (Obj.cells #[Value.int IntKind.i64 k, Value.bool e, Value.string t, Value.slice x n c] 25)).alloc (Obj.cells #[Value.int IntKind.i64 0, Value.bool false, Value.string ⟨#[]⟩, Value.slice none 0 0] 25)).alloc (Obj.cells (madeCells #[Value.string ByteArray.empty, Value.int IntKind.i64 0, Value.bool false, Value.string ByteArray.empty, Value.slice none 0 0] (n * 5)) 31)).heap[w.heap.size + 1 + 1]? = some (Obj.cells (madeCells #[Value.string ByteArray.empty, Value.int IntKind.i64 0, Value.bool false, Value.string ByteArray.empty, Value.slice none 0 0] (n * 5)) 31) := by
        rw [← hs2]; exact heap_alloc_new _ _
      have B0 : Below w.heap.size w (((w.alloc (Obj.cells #[Value.int IntKind.i64 k, Value.bool e, Value.string t, Value.slice x n c] 25)).alloc (Obj.cells #[Value.int IntKind.i64 0, Value.bool false, Value.string ⟨#[]⟩, Value.slice none 0 0] 25)).alloc (Obj.cells (madeCells #[Value.string ByteArray.empty, Value.int IntKind.i64 0, Value.bool false, Value.string ByteArray.empty, Value.slice none 0 0] (n * 5)) 31)) := (((Below.refl _ _).alloc (Nat.le_refl _) _).alloc (by rw [hs1]; omega) _).alloc (by rw [hs2]; omega) _
      have K0 : Hid (Kd (((w.alloc (Obj.cells #[Value.int IntKind.i64 k, Value.bool e, Value.string t, Value.slice x n c] 25)).alloc (Obj.cells #[Value.int IntKind.i64 0, Value.bool false, Value.string ⟨#[]⟩, Value.slice none 0 0] 25)).alloc (Obj.cells (madeCells #[Value.string ByteArray.empty, Value.int IntKind.i64 0, Value.bool false, Value.string ByteArray.empty, Value.slice none 0 0] (n * 5)) 31)) (w.heap.size + 1 + 1) m n 0 ns ks) := by
        refine ⟨fun j hj => ?_, fun j hj => ?_, by rw [hs3]; omega, fun j s T hj => absurd hj (by omega)⟩
        · simp only [World.cell?, X3]
          refine ⟨_, by simp [madeCells, hj]; rfl⟩
        · unfold World.frozen?; rw [X3]; simp
      have XX : Hid ((((w.alloc (Obj.cells #[Value.int IntKind.i64 k, Value.bool e, Value.string t, Value.slice x n c] 25)).alloc (Obj.cells #[Value.int IntKind.i64 0, Value.bool false, Value.string ⟨#[]⟩, Value.slice none 0 0] 25)).alloc (Obj.cells (madeCells #[Value.string ByteArray.empty, Value.int IntKind.i64 0, Value.bool false, Value.string ByteArray.empty, Value.slice none 0 0] (n * 5)) 31)).heap[w.heap.size]? = some (Obj.cells #[Value.int IntKind.i64 k, Value.bool e, Value.string t, Value.slice x n c] 25) ∧ (((w.alloc (Obj.cells #[Value.int IntKind.i64 k, Value.bool e, Value.string t, Value.slice x n c] 25)).alloc (Obj.cells #[Value.int IntKind.i64 0, Value.bool false, Value.string ⟨#[]⟩, Value.slice none 0 0] 25)).alloc (Obj.cells (madeCells #[Value.string ByteArray.empty, Value.int IntKind.i64 0, Value.bool false, Value.string ByteArray.empty, Value.slice none 0 0] (n * 5)) 31)).heap[w.heap.size + 1]? = some (Obj.cells #[Value.int IntKind.i64 0, Value.bool false, Value.string ⟨#[]⟩, Value.slice none 0 0] 25) ∧ w.heap.size + 1 < (((w.alloc (Obj.cells #[Value.int IntKind.i64 k, Value.bool e, Value.string t, Value.slice x n c] 25)).alloc (Obj.cells #[Value.int IntKind.i64 0, Value.bool false, Value.string ⟨#[]⟩, Value.slice none 0 0] 25)).alloc (Obj.cells (madeCells #[Value.string ByteArray.empty, Value.int IntKind.i64 0, Value.bool false, Value.string ByteArray.empty, Value.slice none 0 0] (n * 5)) 31)).heap.size) := ⟨X1, X2, by rw [hs3]; omega⟩
      have B0' : Hid (Below w.heap.size w (((w.alloc (Obj.cells #[Value.int IntKind.i64 k, Value.bool e, Value.string t, Value.slice x n c] 25)).alloc (Obj.cells #[Value.int IntKind.i64 0, Value.bool false, Value.string ⟨#[]⟩, Value.slice none 0 0] 25)).alloc (Obj.cells (madeCells #[Value.string ByteArray.empty, Value.int IntKind.i64 0, Value.bool false, Value.string ByteArray.empty, Value.slice none 0 0] (n * 5)) 31))) := B0
      clear hs1 hs2 hs3 X1 X2 X3 B0
      obtain ⟨G, hG⟩ : ∃ G, w.heap.size = G := ⟨_, rfl⟩
      generalize (((w.alloc (Obj.cells #[Value.int IntKind.i64 k, Value.bool e, Value.string t, Value.slice x n c] 25)).alloc (Obj.cells #[Value.int IntKind.i64 0, Value.bool false, Value.string ⟨#[]⟩, Value.slice none 0 0] 25)).alloc (Obj.cells (madeCells #[Value.string ByteArray.empty, Value.int IntKind.i64 0, Value.bool false, Value.string ByteArray.empty, Value.slice none 0 0] (n * 5)) 31)) = w2 at *
      rw [hG] at K0 XX ⊢
      have HG : Hid (w.heap.size = G) := hG
      clear hG
      go_loopw [17] (fun xi wr => ∃ i : Nat, i ≤ n ∧ xi = .int .i64 i ∧ Hid (Kd wr (G + 1 + 1) m n i ns ks) ∧ Hid (wr.heap[G]? = some (Obj.cells #[Value.int IntKind.i64 k, Value.bool e, Value.string t, Value.slice x n c] 25) ∧ wr.heap[G + 1]? = some (Obj.cells #[Value.int IntKind.i64 0, Value.bool false, Value.string ⟨#[]⟩, Value.slice none 0 0] 25) ∧ G + 1 < wr.heap.size) ∧ Hid (Below w.heap.size w wr)) (fun i _ => n - (intOf i).toNat)
      case atStart => exact ⟨0, Nat.zero_le _, rfl, K0, XX, B0'⟩
      case round =>
        obtain ⟨i, hi, rfl, hK, hX, hB⟩ := hrel
        by_cases hlt : i < n
        · obtain ⟨l1, l2⟩ := LL.out
          obtain ⟨s, hs⟩ : ∃ s, ns[i]? = some s := ⟨_, List.getElem?_eq_getElem (by omega)⟩
          obtain ⟨T, hT⟩ : ∃ s, ks[i]? = some s := ⟨_, List.getElem?_eq_getElem (by omega)⟩
          obtain ⟨g, o, a, b, d, f, p, q, rfl, hg, c0, c1, c2, c3, c4, hA⟩ := EX.out.below hB.out i s T hlt hs hT
          have HA : Hid (At wr m (.agg #[.int .i64 a, .bool b, .string d, .slice f p q]) T) := hA
          have HE : Hid (ns[i]? = some s ∧ ks[i]? = some T) := ⟨hs, hT⟩
          clear hA hs hT l1 l2
          go_wp2
          have bE : Below wr.heap.size wr (wr.alloc (Obj.cells #[Value.string s, Value.int IntKind.i64 a, Value.bool b, Value.string d, Value.slice f p q] 31)) := (Below.refl _ _).alloc (Nat.le_refl _) _
          have y0 : (wr.alloc (Obj.cells #[Value.string s, Value.int IntKind.i64 a, Value.bool b, Value.string d, Value.slice f p q] 31)).cell? ⟨wr.heap.size, 0, none⟩ = some (.string s) := by rw [World.cell?_alloc_new]; rfl
          have y1 : (wr.alloc (Obj.cells #[Value.string s, Value.int IntKind.i64 a, Value.bool b, Value.string d, Value.slice f p q] 31)).cell? ⟨wr.heap.size, 1, none⟩ = some (.int .i64 a) := by rw [World.cell?_alloc_new]; rfl
          have y2 : (wr.alloc (Obj.cells #[Value.string s, Value.int IntKind.i64 a, Value.bool b, Value.string d, Value.slice f p q] 31)).cell? ⟨wr.heap.size, 2, none⟩ = some (.bool b) := by rw [World.cell?_alloc_new]; rfl
          have y3 : (wr.alloc (Obj.cells #[Value.string s, Value.int IntKind.i64 a, Value.bool b, Value.string d, Value.slice f p q] 31)).cell? ⟨wr.heap.size, 3, none⟩ = some (.string d) := by rw [World.cell?_alloc_new]; rfl
          have y4 : (wr.alloc (Obj.cells #[Value.string s, Value.int IntKind.i64 a, Value.bool b, Value.string d, Value.slice f p q] 31)).cell? ⟨wr.heap.size, 4, none⟩ = some (.slice f p q) := by rw [World.cell?_alloc_new]; rfl
          have hzE : wr.heap.size < (wr.alloc (Obj.cells #[Value.string s, Value.int IntKind.i64 a, Value.bool b, Value.string d, Value.slice f p q] 31)).heap.size := by rw [World.size_alloc]; omega
          have K3 : Hid (Kd (wr.alloc (Obj.cells #[Value.string s, Value.int IntKind.i64 a, Value.bool b, Value.string d, Value.slice f p q] 31)) (G + 1 + 1) m n i ns ks) := hK.out.below bE
          have HA3 : Hid (At (wr.alloc (Obj.cells #[Value.string s, Value.int IntKind.i64 a, Value.bool b, Value.string d, Value.slice f p q] 31)) m (.agg #[.int .i64 a, .bool b, .string d, .slice f p q]) T) := HA.out.below bE
          have hB3 : Hid (Below w.heap.size w (wr.alloc (Obj.cells #[Value.string s, Value.int IntKind.i64 a, Value.bool b, Value.string d, Value.slice f p q] 31))) := hB.out.trans (bE.mono hB.out.size)
          have hX3 : Hid (Below wr.heap.size wr (wr.alloc (Obj.cells #[Value.string s, Value.int IntKind.i64 a, Value.bool b, Value.string d, Value.slice f p q] 31))) := bE
          obtain ⟨E, hE⟩ : ∃ E, wr.heap.size = E := ⟨_, rfl⟩
          have HWE : Hid (wr.heap.size = E) := hE
          rw [hE] at y0 y1 y2 y3 y4 hzE ⊢
          clear hE bE c0 c1 c2 c3 c4 hg HA
          generalize wr.alloc (Obj.cells #[Value.string s, Value.int IntKind.i64 a, Value.bool b, Value.string d, Value.slice f p q] 31) = w3 at *
          obtain ⟨r0, k0⟩ := K3.out.room (i * 5) (by omega)
          have f0 := K3.out.free (i * 5) (by omega)
          obtain ⟨r1, k1⟩ := K3.out.room (i * 5 + 1) (by omega)
          have f1 := K3.out.free (i * 5 + 1) (by omega)
          obtain ⟨r2, k2⟩ := K3.out.room (i * 5 + 2) (by omega)
          have f2 := K3.out.free (i * 5 + 2) (by omega)
          obtain ⟨r3, k3⟩ := K3.out.room (i * 5 + 3) (by omega)
          have f3 := K3.out.free (i * 5 + 3) (by omega)
          obtain ⟨r4, k4⟩ := K3.out.room (i * 5 + 4) (by omega)
          have f4 := K3.out.free (i * 5 + 4) (by omega)
          have hKb := K3.out.big
          have b3 : Below w3.heap.size w3 w3 := Below.refl _ _
          have hD : Below w3.heap.size w3 w3.drew := b3.drew
          have hEK : E ≠ G + 1 + 1 := by have := hK.out.big; rw [HWE.out] at this; omega
          have hKE : G + 1 + 1 ≠ E := Ne.symm hEK
          go_region_held3 (fun W => W.cell? ⟨E, 0, none⟩ = some (.string s) ∧ W.cell? ⟨E, 1, none⟩ = some (.int .i64 a) ∧ W.cell? ⟨E, 2, none⟩ = some (.bool b) ∧ W.cell? ⟨E, 3, none⟩ = some (.string d) ∧ W.cell? ⟨E, 4, none⟩ = some (.slice f p q))
            (first
              | go_keep
              | (refine ⟨(b5.cell (p := ⟨E, 0, none⟩) hzE).trans y0, (b5.cell (p := ⟨E, 1, none⟩) hzE).trans y1, (b5.cell (p := ⟨E, 2, none⟩) hzE).trans y2, (b5.cell (p := ⟨E, 3, none⟩) hzE).trans y3, (b5.cell (p := ⟨E, 4, none⟩) hzE).trans y4⟩))
            (first
              | (go_at_call 7
                 refine (IH _ T w3.drew (HA3.out.below hD)).mono ?_
                 rintro e5 w5 ⟨⟨v5, rfl, hv⟩, b5⟩
                 obtain ⟨a5, b6, d5, x5, p5, q5, rfl⟩ := hv.shape
                 have m0 : w5.cell? ⟨G + 1 + 1, i * 5, none⟩ = some r0 := (b5.cell (p := ⟨G + 1 + 1, i * 5, none⟩) hKb).trans k0
                 have o0 : w5.frozen? ⟨G + 1 + 1, i * 5, none⟩ = false := (b5.frozen (p := ⟨G + 1 + 1, i * 5, none⟩) hKb).trans f0
                 have m1 : w5.cell? ⟨G + 1 + 1, i * 5 + 1, none⟩ = some r1 := (b5.cell (p := ⟨G + 1 + 1, i * 5 + 1, none⟩) hKb).trans k1
                 have o1 : w5.frozen? ⟨G + 1 + 1, i * 5 + 1, none⟩ = false := (b5.frozen (p := ⟨G + 1 + 1, i * 5 + 1, none⟩) hKb).trans f1
                 have m2 : w5.cell? ⟨G + 1 + 1, i * 5 + 2, none⟩ = some r2 := (b5.cell (p := ⟨G + 1 + 1, i * 5 + 2, none⟩) hKb).trans k2
                 have o2 : w5.frozen? ⟨G + 1 + 1, i * 5 + 2, none⟩ = false := (b5.frozen (p := ⟨G + 1 + 1, i * 5 + 2, none⟩) hKb).trans f2
                 have m3 : w5.cell? ⟨G + 1 + 1, i * 5 + 3, none⟩ = some r3 := (b5.cell (p := ⟨G + 1 + 1, i * 5 + 3, none⟩) hKb).trans k3
                 have o3 : w5.frozen? ⟨G + 1 + 1, i * 5 + 3, none⟩ = false := (b5.frozen (p := ⟨G + 1 + 1, i * 5 + 3, none⟩) hKb).trans f3
                 have m4 : w5.cell? ⟨G + 1 + 1, i * 5 + 4, none⟩ = some r4 := (b5.cell (p := ⟨G + 1 + 1, i * 5 + 4, none⟩) hKb).trans k4
                 have o4 : w5.frozen? ⟨G + 1 + 1, i * 5 + 4, none⟩ = false := (b5.frozen (p := ⟨G + 1 + 1, i * 5 + 4, none⟩) hKb).trans f4))
          have K5 : Kd w5 (G + 1 + 1) m n i ns ks := (K3.out.below hD).below b5
          have P5 := K5.put hlt HE.out.1 HE.out.2 (hv.lower (by show G + 1 + 1 + 1 ≤ w3.heap.size; omega))
          have B5 : Below wr.heap.size wr w5 := hX3.out.trans ((hD.trans (b5.mono hD.size)).mono hX3.out.size)
          have HP : Hid (Kd (w5.setCells (G + 1 + 1) (i * 5) [.string s, .int .i64 a5, .bool b6, .string d5, .slice x5 p5 q5]) (G + 1 + 1) m n (i + 1) ns ks) := P5
          have HB5 : Hid (Below wr.heap.size wr w5) := B5
          clear K5 P5 B5 b5 hv m0 m1 m2 m3 m4 o0 o1 o2 o3 o4 k0 k1 k2 k3 k4 f0 f1 f2 f3 f4 y0 y1 y2 y3 y4
          have HW : Hid ((w5.setCells (G + 1 + 1) (i * 5) [.string s, .int .i64 a5, .bool b6, .string d5, .slice x5 p5 q5]).heap[G]? = w5.heap[G]? ∧ (w5.setCells (G + 1 + 1) (i * 5) [.string s, .int .i64 a5, .bool b6, .string d5, .slice x5 p5 q5]).heap[G + 1]? = w5.heap[G + 1]?) := ⟨heapC_setCells _ _ _ _ (by omega) _, heapC_setCells _ _ _ _ (by omega) _⟩
          have HZ : Hid ((w5.setCells (G + 1 + 1) (i * 5) [.string s, .int .i64 a5, .bool b6, .string d5, .slice x5 p5 q5]).heap.size = w5.heap.size) := sizeC_setCells _ _ _ _
          have HF : Hid (Below w.heap.size w (w5.setCells (G + 1 + 1) (i * 5) [.string s, .int .i64 a5, .bool b6, .string d5, .slice x5 p5 q5])) := belowC_setCells _ _ _ (by rw [HG.out]; omega) (hB.out.trans (HB5.out.mono hB.out.size))
          change Exit.inBlock 1 _ Exit.normal _ (w5.setCells (G + 1 + 1) (i * 5) [.string s, .int .i64 a5, .bool b6, .string d5, .slice x5 p5 q5])
          generalize w5.setCells (G + 1 + 1) (i * 5) [.string s, .int .i64 a5, .bool b6, .string d5, .slice x5 p5 q5] = w6 at *
          go_wp2
          go_roundw
          case rel =>
            obtain ⟨X1, X2, X3⟩ := hX.out
            refine ⟨i + 1, by omega, by go_num, HP, ⟨?_, ?_, ?_⟩, HF⟩
            · rw [HW.out.1, HB5.out.block G (by omega)]; exact X1
            · rw [HW.out.2, HB5.out.block (G + 1) (by omega)]; exact X2
            · rw [HZ.out]; have := HB5.out.size; omega
          case measure => simp [intOf]; omega
        · obtain rfl : i = n := by omega
          obtain ⟨Y1, Y2, Y3⟩ := hX.out
          have y0 : wr.cell? ⟨G, 0, none⟩ = some (.int .i64 k) := by simp only [World.cell?, Y1]; rfl
          have y1 : wr.cell? ⟨G, 1, none⟩ = some (.bool e) := by simp only [World.cell?, Y1]; rfl
          have y2 : wr.cell? ⟨G, 2, none⟩ = some (.string t) := by simp only [World.cell?, Y1]; rfl
          have y3 : wr.cell? ⟨G, 3, none⟩ = some (.slice x i c) := by simp only [World.cell?, Y1]; rfl
          have z3 : wr.frozen? ⟨G, 3, none⟩ = false := by unfold World.frozen?; rw [Y1]; simp
          have u0 : wr.cell? ⟨G + 1, 0, none⟩ = some (.int .i64 0) := by simp only [World.cell?, Y2]; rfl
          have u1 : wr.cell? ⟨G + 1, 1, none⟩ = some (.bool false) := by simp only [World.cell?, Y2]; rfl
          have u2 : wr.cell? ⟨G + 1, 2, none⟩ = some (.string ⟨#[]⟩) := by simp only [World.cell?, Y2]; rfl
          have u3 : wr.cell? ⟨G + 1, 3, none⟩ = some (.slice none 0 0) := by simp only [World.cell?, Y2]; rfl
          have v0 : wr.frozen? ⟨G + 1, 0, none⟩ = false := by unfold World.frozen?; rw [Y2]; simp
          have v1 : wr.frozen? ⟨G + 1, 1, none⟩ = false := by unfold World.frozen?; rw [Y2]; simp
          have v2 : wr.frozen? ⟨G + 1, 2, none⟩ = false := by unfold World.frozen?; rw [Y2]; simp
          have v3 : wr.frozen? ⟨G + 1, 3, none⟩ = false := by unfold World.frozen?; rw [Y2]; simp
          clear Y1 Y2
          go_wp2
          have hb4 := World.cell?_setCells_in (G + 1) [Value.int .i64 k, .bool e, .string t, .slice (some ⟨G + 1 + 1, 0, none⟩) i i] 0 (wr.setCell ⟨G, 3, none⟩ (.slice (some ⟨G + 1 + 1, 0, none⟩) i i)) (fun j hj => by
            have hj' : j < 4 := hj
            rw [World.cell?_setCell_other (w := wr) (a := ⟨G, 3, none⟩) (b := ⟨G + 1, 0 + j, none⟩) (h := fun h => by injection h with h1; omega), Nat.zero_add]
            match j, hj' with
            | 0, _ => rw [u0]; rfl
            | 1, _ => rw [u1]; rfl
            | 2, _ => rw [u2]; rfl
            | 3, _ => rw [u3]; rfl)
          have w0' := hb4 0 (by show 0 < 4; omega)
          have w1' := hb4 1 (by show 1 < 4; omega)
          have w2' := hb4 2 (by show 2 < 4; omega)
          have w3' := hb4 3 (by show 3 < 4; omega)
          have HH : ∀ q, q ≠ G → q ≠ G + 1 → ((wr.setCell ⟨G, 3, none⟩ (.slice (some ⟨G + 1 + 1, 0, none⟩) i i)).setCells (G + 1) 0 [.int .i64 k, .bool e, .string t, .slice (some ⟨G + 1 + 1, 0, none⟩) i i]).heap[q]? = wr.heap[q]? := fun q h1 h2 => (heapC_setCells _ _ _ q h2 _).trans (Below.heap_setCell wr ⟨G, 3, none⟩ _ q h1)
          have HS : ((wr.setCell ⟨G, 3, none⟩ (.slice (some ⟨G + 1 + 1, 0, none⟩) i i)).setCells (G + 1) 0 [.int .i64 k, .bool e, .string t, .slice (some ⟨G + 1 + 1, 0, none⟩) i i]).heap.size = wr.heap.size := (sizeC_setCells _ _ _ _).trans (World.size_setCell _ _ _)
          have HL : Below w.heap.size w ((wr.setCell ⟨G, 3, none⟩ (.slice (some ⟨G + 1 + 1, 0, none⟩) i i)).setCells (G + 1) 0 [.int .i64 k, .bool e, .string t, .slice (some ⟨G + 1 + 1, 0, none⟩) i i]) := belowC_setCells _ _ _ (by rw [HG.out]; omega) (hB.out.setCell (by rw [HG.out]; exact Nat.le_refl _) _)
          change bodyPost _ _ _ _ _ ((wr.setCell ⟨G, 3, none⟩ (.slice (some ⟨G + 1 + 1, 0, none⟩) i i)).setCells (G + 1) 0 [.int .i64 k, .bool e, .string t, .slice (some ⟨G + 1 + 1, 0, none⟩) i i])
          generalize (wr.setCell ⟨G, 3, none⟩ (.slice (some ⟨G + 1 + 1, 0, none⟩) i i)).setCells (G + 1) 0 [.int .i64 k, .bool e, .string t, .slice (some ⟨G + 1 + 1, 0, none⟩) i i] = W at *
          clear hb4
          simp only [Nat.zero_add] at w0' w1' w2' w3'
          refine bodyPost_ret (v := .agg #[.int .i64 k, .bool e, .string t, .slice (some ⟨G + 1 + 1, 0, none⟩) i i]) (by simp [results, Try.results7, go_sem, w0', w1', w2', w3']) rfl ⟨⟨_, rfl, some ⟨G + 1 + 1, 0, none⟩, i, i, rfl, LL.out.1, LL.out.2, Nat.le_refl _, l4, Or.inr ⟨G + 1 + 1, 0, rfl, ⟨by rw [HS]; exact hK.out.big, by rw [HG.out]; omega⟩, fun j s T hs hT => ?_⟩⟩, HL⟩
          have hj : j < i := by rw [← LL.out.1]; exact (List.getElem?_eq_some_iff.1 hs).1
          obtain ⟨a, b, d, f, p, q, c0, c1, c2, c3, c4, hA⟩ := hK.out.done j s T hj hs hT
          have hk := HH (G + 1 + 1) (by omega) (by omega)
          refine ⟨a, b, d, f, p, q, ?_, ?_, ?_, ?_, ?_, (hA.keep (fun k h1 _ => HH k (by omega) (by omega)) (by rw [HS]; exact Nat.le_refl _)).lower (by rw [HG.out]; omega)⟩
          · rw [Nat.zero_add, World.cell?_of_block (w := wr) (w' := W) (a := ⟨G + 1 + 1, j * 5, none⟩) hk]; exact c0
          · rw [Nat.zero_add, World.cell?_of_block (w := wr) (w' := W) (a := ⟨G + 1 + 1, j * 5 + 1, none⟩) hk]; exact c1
          · rw [Nat.zero_add, World.cell?_of_block (w := wr) (w' := W) (a := ⟨G + 1 + 1, j * 5 + 2, none⟩) hk]; exact c2
          · rw [Nat.zero_add, World.cell?_of_block (w := wr) (w' := W) (a := ⟨G + 1 + 1, j * 5 + 3, none⟩) hk]; exact c3
          · rw [Nat.zero_add, World.cell?_of_block (w := wr) (w' := W) (a := ⟨G + 1 + 1, j * 5 + 4, none⟩) hk]; exact c4

end Go.Proofs.Ytdmkkkfdigeinac
