/- Gathered: Vr SqP SqA InY. -/
import Derived.WalkKit
import Derived.WalkSpells
import Derived.WalkLawsBesides
import Derived.Below
import Derived.Test.YtgnlkggodchlbaaGreatDoorQf
import Derived.Test.YtgnlkggodchlbaaGreatDoorQj
/- Rows of values in memory, each in one cell (own text of the verifier). -/
namespace Go.Proofs.YtgnlkggodchlbaaGreatDoor
open Go.RowKit

/-- Block g holds, from its head on, the n values f 0, f 1, ..; none is frozen. -/
structure VRow (w : World) (g n : Nat) (f : Nat → Value) : Prop where
  cell : ∀ j, j < n → w.cell? ⟨g, j, none⟩ = some (f j)
  free : ∀ j, j < n → w.frozen? ⟨g, j, none⟩ = false

theorem VRow.congr {w : World} {g n : Nat} {f f' : Nat → Value} (h : VRow w g n f) (e : ∀ j, j < n → f j = f' j) : VRow w g n f' :=
  ⟨fun j hj => by rw [h.cell j hj, e j hj], h.free⟩
theorem VRow.take {w : World} {g n m : Nat} {f : Nat → Value} (h : VRow w g m f) (e : n ≤ m) : VRow w g n f :=
  ⟨fun j hj => h.cell j (by omega), fun j hj => h.free j (by omega)⟩
theorem VRow.same {w w' : World} {g n : Nat} {f : Nat → Value} (h : VRow w g n f) (e : w'.heap[g]? = w.heap[g]?) : VRow w' g n f :=
  ⟨fun j hj => by rw [World.cell?_of_block (w := w) (w' := w') (a := ⟨g, j, none⟩) e]; exact h.cell j hj,
   fun j hj => by rw [World.frozen?_of_block (w := w) (w' := w') (a := ⟨g, j, none⟩) e]; exact h.free j hj⟩
theorem VRow.below {w w' : World} {g n B : Nat} {f : Nat → Value} (h : VRow w g n f) (b : Below B w w') (hg : g < B) : VRow w' g n f :=
  h.same (b.block g hg)
theorem VRow.alloc {w : World} {g n : Nat} {f : Nat → Value} (h : VRow w g n f) (hg : g < w.heap.size) (o : Obj) : VRow (w.alloc o) g n f :=
  h.same (Below.heap_alloc w o g hg)
theorem VRow.drew {w : World} {g n : Nat} {f : Nat → Value} (h : VRow w g n f) : VRow w.drew g n f := h.same rfl
theorem VRow.drewN {w : World} {g n : Nat} {f : Nat → Value} (h : VRow w g n f) (q : Nat) : VRow (w.drewN q) g n f := h.same rfl
theorem VRow.other {w : World} {g n : Nat} {f : Nat → Value} (h : VRow w g n f) (a : Addr) (v : Value) (hg : g ≠ a.block) : VRow (w.setCell a v) g n f :=
  h.same (Below.heap_setCell w a v g hg)
theorem VRow.set {w : World} {g n : Nat} {f : Nat → Value} (h : VRow w g n f) (j : Nat) (v : Value) (hj : j < n) :
    VRow (w.setCell ⟨g, j, none⟩ v) g n (fun i => if i = j then v else f i) :=
  ⟨fun i hi => by
    by_cases e : i = j
    · subst e; rw [World.cell?_setCell_same _ _ _ (h.cell i hi)]; simp
    · rw [World.cell?_setCell_other _ _ _ _ (fun c => e (by injection c with _ c2 _; exact c2.symm)), h.cell i hi]; simp [e],
   fun i hi => by rw [World.frozen?_setCell]; exact h.free i hi⟩
theorem VRow.made {w : World} {e : TypeId} {n m : Nat} {z : Value} (hz : z.cells = #[z]) (hm : m = n) : VRow (w.alloc (.cells (madeCells z.cells m) e)) w.heap.size n (fun _ => z) :=
  ⟨fun j hj => by rw [World.cell?_alloc_new, hz]; unfold madeCells; simp [show j < m by omega, Nat.mod_one], fun j hj => World.frozen?_alloc_new w _ _ _⟩
theorem VRow.arr {w : World} {e : TypeId} {C : Array Value} {n : Nat} {f : Nat → Value} (h : ∀ j, j < n → C[j]? = some (f j)) : VRow (w.alloc (.cells C e)) w.heap.size n f :=
  ⟨fun j hj => by rw [World.cell?_alloc_new]; exact h j hj, fun _ _ => World.frozen?_alloc_new w _ _ _⟩
theorem VRow.lt {w : World} {g n : Nat} {f : Nat → Value} (h : VRow w g n f) (hn : 0 < n) : g < w.heap.size := World.block_lt_of_cell? _ _ (h.cell 0 hn)

end Go.Proofs.YtgnlkggodchlbaaGreatDoor
/- The pieces of a text between blanks: plain. -/
namespace Go.Proofs.YtgnlkggodchlbaaGreatDoor.Sq
open Go.RowKit

def nxA (p : ByteArray) : Nat → Nat → Nat
  | 0, f => f
  | k + 1, f => if bt p f = 32 then f else nxA p k (f + 1)
/-- The first slash at f or behind it, or the end. -/
def nx (p : ByteArray) (f : Nat) : Nat := nxA p (p.size - f) f
theorem nxA_spec (p : ByteArray) (k f : Nat) : f ≤ nxA p k f ∧ nxA p k f ≤ f + k ∧ (∀ j, f ≤ j → j < nxA p k f → bt p j ≠ 32) ∧ (nxA p k f < f + k → bt p (nxA p k f) = 32) := by
  induction k generalizing f with
  | zero => exact ⟨Nat.le_refl _, Nat.le_refl _, fun j h1 h2 => by unfold nxA at h2; omega, fun h => by unfold nxA at h; omega⟩
  | succ k ih =>
    unfold nxA
    by_cases e : bt p f = 32
    · rw [if_pos e]
      exact ⟨Nat.le_refl _, by omega, fun j h1 h2 => by omega, fun _ => e⟩
    · rw [if_neg e]
      obtain ⟨i1, i2, i3, i4⟩ := ih (f + 1)
      refine ⟨by omega, by omega, fun j h1 h2 => ?_, fun h => i4 (by omega)⟩
      by_cases ej : j = f
      · rw [ej]; exact e
      · exact i3 j (by omega) h2
theorem nx_spec (p : ByteArray) (f : Nat) (hf : f ≤ p.size) : f ≤ nx p f ∧ nx p f ≤ p.size ∧ (∀ j, f ≤ j → j < nx p f → bt p j ≠ 32) ∧ (nx p f < p.size → bt p (nx p f) = 32) := by
  obtain ⟨h1, h2, h3, h4⟩ := nxA_spec p (p.size - f) f
  exact ⟨h1, by unfold nx; omega, h3, fun h => h4 (by unfold nx at h; omega)⟩
theorem nx_is (p : ByteArray) (f i : Nat) (hf : f ≤ i) (hi : i ≤ p.size) (h : ∀ j, f ≤ j → j < i → bt p j ≠ 32) (he : i < p.size → bt p i = 32) : nx p f = i := by
  obtain ⟨h1, h2, h3, h4⟩ := nx_spec p f (by omega)
  by_cases a : nx p f < i
  · exact absurd (h4 (by omega)) (h _ h1 a)
  · by_cases b : i < nx p f
    · exact absurd (he (by omega)) (h3 i hf b)
    · omega

/-- At most r slashes are taken for ends of pieces. -/
def pcs (p : ByteArray) : Nat → Nat → List ByteArray
  | 0, f => [p.extract f p.size]
  | r + 1, f => if nx p f = p.size then [p.extract f p.size] else p.extract f (nx p f) :: pcs p r (nx p f + 1)
theorem pcs_last (p : ByteArray) (r f : Nat) (h : nx p f = p.size) : pcs p r f = [p.extract f p.size] := by
  cases r with
  | zero => rfl
  | succ r => unfold pcs; rw [if_pos h]
theorem pcs_more (p : ByteArray) (r f : Nat) (h : nx p f ≠ p.size) : pcs p (r + 1) f = p.extract f (nx p f) :: pcs p r (nx p f + 1) := by rw [pcs, if_neg h]
theorem pcs_enough (p : ByteArray) (r r' f : Nat) (hf : f ≤ p.size) (h : p.size - f ≤ r) (h' : p.size - f ≤ r') : pcs p r f = pcs p r' f := by
  induction r generalizing f r' with
  | zero =>
    have : nx p f = p.size := by have := nx_spec p f hf; omega
    rw [pcs_last p 0 f this, pcs_last p r' f this]
  | succ r ih =>
    by_cases e : nx p f = p.size
    · rw [pcs_last p _ f e, pcs_last p _ f e]
    · obtain ⟨h1, h2, _, _⟩ := nx_spec p f hf
      cases r' with
      | zero => omega
      | succ r' => rw [pcs_more p r f e, pcs_more p r' f e, ih r' (nx p f + 1) (by omega) (by omega) (by omega)]
theorem pcs_pos (p : ByteArray) (r f : Nat) : 0 < (pcs p r f).length := by
  cases r with
  | zero => exact Nat.one_pos
  | succ r => unfold pcs; split <;> simp
theorem pcs_len (p : ByteArray) (r f : Nat) : (pcs p r f).length ≤ r + 1 := by
  induction r generalizing f with
  | zero => exact Nat.le_refl _
  | succ r ih => unfold pcs; split
                 · simp
                 · rw [List.length_cons]; have := ih (nx p f + 1); omega

theorem ext_size2 (p : ByteArray) (a b : Nat) (h1 : a ≤ b) (h2 : b ≤ p.size) : (p.extract a b).size = b - a := by rw [ByteArray.size_extract]; omega
theorem pcs_sum (p : ByteArray) (r f : Nat) (hf : f ≤ p.size) : ((pcs p r f).map (fun x => x.size + 1)).sum = p.size - f + 1 := by
  induction r generalizing f with
  | zero => unfold pcs; simp [ext_size2 p f p.size hf (Nat.le_refl _)]
  | succ r ih =>
    obtain ⟨h1, h2, _, _⟩ := nx_spec p f hf
    by_cases e : nx p f = p.size
    · rw [pcs_last p _ f e]; simp [ext_size2 p f p.size hf (Nat.le_refl _)]
    · rw [pcs_more p r f e, List.map_cons, List.sum_cons, ih (nx p f + 1) (by omega), ext_size2 p f _ h1 h2]; omega

/-- The first place of a byte. -/
theorem index_first (l : List UInt8) (c : UInt8) : (Lib.indexByte l c = -1 ∧ ∀ k (h : k < l.length), l[k] ≠ c) ∨ ∃ k : Nat, ∃ h : k < l.length, Lib.indexByte l c = k ∧ l[k] = c ∧ ∀ j (hj : j < k), l[j]'(by omega) ≠ c := by
  induction l with
  | nil => left; exact ⟨rfl, fun k h => by simp at h⟩
  | cons b l ih =>
    unfold Lib.indexByte
    by_cases e : b = c
    · right; exact ⟨0, by simp, by rw [if_pos (by simpa using e)]; rfl, e, fun j hj => by omega⟩
    · rw [if_neg (by simpa using e)]
      rcases ih with ⟨h1, h2⟩ | ⟨k, hk, h1, h2, h3⟩
      · left
        rw [if_pos (by simpa using h1)]
        refine ⟨rfl, fun k h => ?_⟩
        cases k with
        | zero => exact e
        | succ k => simp at h ⊢; exact h2 k (by omega)
      · right
        refine ⟨k + 1, by simp; omega, ?_, by simpa using h2, fun j hj => ?_⟩
        · rw [if_neg (by rw [h1]; simp <;> omega), h1]; omega
        · cases j with
          | zero => exact e
          | succ j => simp; exact h3 j (by omega)
theorem bt_ext (p : ByteArray) (a i : Nat) (hi : a + i < p.size) : bt (p.extract a p.size) i = bt p (a + i) := by
  have hz : (p.extract a p.size).size = p.size - a := by rw [ByteArray.size_extract]; omega
  rw [← get_bt p (a + i) hi, ← get_bt (p.extract a p.size) i (by omega)]
  rw [ByteArray.getElem_extract]
theorem idx_rest (p : ByteArray) (f : Nat) (hf : f ≤ p.size) : (nx p f = p.size ∧ Lib.indexByte (p.extract f p.size).data.toList 32 = -1) ∨ (nx p f < p.size ∧ Lib.indexByte (p.extract f p.size).data.toList 32 = ((nx p f - f : Nat) : Int)) := by
  have hz : (p.extract f p.size).size = p.size - f := by rw [ByteArray.size_extract]; omega
  have hb : ∀ k (h : k < (p.extract f p.size).data.toList.length), (((p.extract f p.size).data.toList[k]).toNat : Int) = bt p (f + k) := fun k h => by
    rw [← Lib.size_eq, hz] at h
    rw [← bt_ext p f k (by omega), ← get_bt (p.extract f p.size) k (by omega)]; rfl
  rcases index_first (p.extract f p.size).data.toList 32 with ⟨h1, h2⟩ | ⟨k, hk, h1, h2, h3⟩
  · left
    refine ⟨nx_is p f p.size hf (Nat.le_refl _) (fun j j1 j2 e => ?_) (fun h => by omega), h1⟩
    have hj : j - f < (p.extract f p.size).data.toList.length := by rw [← Lib.size_eq, hz]; omega
    have := hb (j - f) hj
    rw [show f + (j - f) = j by omega, e] at this
    exact h2 (j - f) hj (UInt8.toNat_inj.1 (by show _ = 32; omega))
  · right
    have hk' := hk
    rw [← Lib.size_eq, hz] at hk'
    have e : nx p f = f + k := nx_is p f (f + k) (by omega) (by omega) (fun j j1 j2 e => by
      have hj : j - f < k := by omega
      have := hb (j - f) (by omega)
      rw [show f + (j - f) = j by omega, e] at this
      exact h3 (j - f) hj (UInt8.toNat_inj.1 (by show _ = 32; omega))) (fun _ => by rw [← hb k hk, h2]; rfl)
    exact ⟨by omega, by rw [h1, e]; omega⟩
theorem ext_ext (p : ByteArray) (f a b : Nat) (hb : f + b ≤ p.size) : (p.extract f p.size).extract a b = p.extract (f + a) (f + b) := by
  rw [ByteArray.extract_extract]
  congr 1
  omega
theorem ext_rest (p : ByteArray) (f a : Nat) (hf : f + a ≤ p.size) : (p.extract f p.size).extract a (p.extract f p.size).size = p.extract (f + a) p.size := by
  have hz : (p.extract f p.size).size = p.size - f := by rw [ByteArray.size_extract]; omega
  rw [hz, ext_ext p f a (p.size - f) (by omega), show f + (p.size - f) = p.size by omega]

end Go.Proofs.YtgnlkggodchlbaaGreatDoor.Sq
/- strings.SplitN(text, " ", 1025), walked. -/
namespace Go.Proofs.YtgnlkggodchlbaaGreatDoor.Sq
open Go.RowKit

theorem info_str : (Tryz.prog.info? 9).map (fun i => (i.zero, i.size, i.bytes)) = some (some (.string ByteArray.empty), 1, 16) := by kernel_rfl
/-- Element j of a list of texts. -/
def nth (L : List ByteArray) (j : Nat) : ByteArray := L.getD j ByteArray.empty
theorem nth_snoc (L : List ByteArray) (x : ByteArray) (j : Nat) : nth (L ++ [x]) j = if j = L.length then x else nth L j := by
  unfold nth
  rw [List.getD_eq_getElem?_getD, List.getD_eq_getElem?_getD]
  by_cases h : j < L.length
  · rw [List.getElem?_append_left h, if_neg (by omega)]
  · by_cases e : j = L.length
    · rw [if_pos e, e]; simp
    · rw [if_neg e, List.getElem?_eq_none (by simp; omega), List.getElem?_eq_none (by omega)]
set_option maxHeartbeats 400000 in
theorem idx_one (s : ByteArray) (w : World) :
    Calls Tryz.prog 93 #[.string s, .string ⟨#[32]⟩] w fun e w' => e = .returned (.int .i64 (Lib.indexByte s.data.toList 32)) ∧ w' = w := by
  have h := fun W => sidx_any s ⟨#[32]⟩ 32 W rfl (by decide +kernel)
  rw [← ib_fst s 32 (by omega) (by omega)] at h
  go_enter Tryz.func93, Tryz.ntmps93
  go_wp2_with fail
  refine (h _).mono ?_
  rintro e w1 ⟨rfl, rfl⟩
  go_wp2
  go_ret
  exact ⟨rfl, rfl⟩
theorem blank_list : (ByteArray.mk #[32]).toList.isEmpty = false := by decide +kernel

set_option maxRecDepth 100000 in
set_option maxHeartbeats 2000000 in
theorem gen_small (p : ByteArray) (w : World) (hp : p.size ≤ 140737488351232) (hsm : p.size < 1024) :
    Calls Tryz.prog 78 #[.string p, .string ⟨#[32]⟩, .int .i64 0, .int .i64 1025] w fun e w' => (∃ c, e = .returned (.slice (some ⟨w.heap.size, 0, none⟩) (pcs p 1024 0).length c) ∧ (pcs p 1024 0).length ≤ c ∧ VRow w' w.heap.size c (fun j => .string (nth (pcs p 1024 0) j))) ∧ VRow w' w.heap.size (pcs p 1024 0).length (fun j => .string (nth (pcs p 1024 0) j)) ∧ Below w.heap.size w w' := by
  obtain ⟨i0, hi, hz0, hz1, hz2⟩ := info_parts info_str
  have hL : Hid (pcs p 1024 0 = pcs p p.size 0) := pcs_enough p 1024 p.size 0 (Nat.zero_le _) (by omega) (by omega)
  have HMK : Hid (∀ w : World, (Instr.makeSlice 24 (.int .i64 ((p.size : Int) + 1)) (.int .i64 ((p.size : Int) + 1))).run Tryz.prog w = .ok (.slice (some ⟨w.heap.size, 0, none⟩) (p.size + 1) (p.size + 1)) (w.alloc (.cells (madeCells (Value.string ByteArray.empty).cells (p.size + 1)) 9))) := fun w => by
    rw [run_make (P := Tryz.prog) w 24 9 i0 (.string ByteArray.empty) Tryz.underlying24 hi hz0 .i64 .i64 _ _ (by omega) (by omega) (by rw [hz2]; omega) (by omega), show (((p.size : Int) + 1) : Int).toNat = p.size + 1 by omega, hz1, Nat.mul_one]
  have hse := blank_list
  have IX := fun (f : Nat) (w : World) => idx_one (p.extract f p.size) w
  clear hi hz0 hz1 hz2
  go_enter Tryz.func78, Tryz.ntmps78
  go_wp2_with fail
  try simp only [show min (1025:Int) ((p.size:Int)+1) = (p.size:Int)+1 by omega]
  try go_wp2_with fail
  rw [HMK.out]
  clear hsm
  have R0 : VRow (w.alloc (.cells (madeCells (Value.string ByteArray.empty).cells (p.size + 1)) 9)) w.heap.size (p.size + 1) (fun _ => .string ByteArray.empty) := VRow.made rfl rfl
  have B0 : Below w.heap.size w (w.alloc (.cells (madeCells (Value.string ByteArray.empty).cells (p.size + 1)) 9)) := (Below.refl _ _).alloc (Nat.le_refl _) _
  generalize w.alloc (.cells (madeCells (Value.string ByteArray.empty).cells (p.size + 1)) 9) = W1 at R0 B0 ⊢
  go_wp2
  go_loopw [0, 10] (fun xs xi wr => ∃ (k f : Nat) (D : List ByteArray), D.length = k ∧ k ≤ p.size ∧ f ≤ p.size ∧ xs = .string (p.extract f p.size) ∧ xi = .int .i64 k ∧ Hid (D ++ pcs p (p.size - k) f = pcs p p.size 0) ∧ VRow wr w.heap.size (p.size + 1) (fun j => .string (nth D j)) ∧ Below w.heap.size w wr) (fun _ i _ => p.size - (intOf i).toNat)
  case atStart => exact ⟨0, 0, [], rfl, Nat.zero_le _, Nat.zero_le _, by simp, rfl, rfl, R0.congr (fun j _ => by simp [nth]), B0⟩
  case round =>
    obtain ⟨k, f, D, hD, hk, hf, rfl, rfl, hL2, V, B⟩ := hrel
    have c1 := V.cell k (by omega)
    have f1 := V.free k (by omega)
    have FIN : Hid (∀ r, p.size - k = r → pcs p r f = [p.extract f p.size] → (pcs p 1024 0).length = k + 1 ∧ VRow (wr.setCell ⟨w.heap.size, k, none⟩ (.string (p.extract f p.size))) w.heap.size (p.size + 1) (fun j => .string (nth (pcs p 1024 0) j))) := by
      intro r hr he
      have e := hL2.out
      rw [hr, he] at e
      rw [hL.out, ← e]
      refine ⟨by simp [hD], (V.set k _ (by omega)).congr (fun j hj => ?_)⟩
      rw [nth_snoc, hD]
      by_cases ej : j = k
      · rw [if_pos ej, if_pos ej]
      · rw [if_neg ej, if_neg ej]
    by_cases hlt : k < p.size
    · rcases idx_rest p f hf with ⟨n1, n2⟩ | ⟨n1, n2⟩
      · have IXF := IX f
        rw [n2] at IXF
        have FI := FIN.out _ rfl (pcs_last p _ f n1)
        have FL : Hid ((pcs p 1024 0).length = k + 1) := FI.1
        have FV : Hid (VRow (wr.setCell ⟨w.heap.size, k, none⟩ (.string (p.extract f p.size))) w.heap.size (p.size + 1) (fun j => .string (nth (pcs p 1024 0) j))) := FI.2
        clear FI n1 n2 IX FIN
        go_wp2_with (first | (go_at_call 93; refine (IXF _).mono ?_; rintro e w' ⟨rfl, rfl⟩))
        go_ret
        exact ⟨⟨_, by rw [FL.out]; rfl, by rw [FL.out]; omega, FV.out⟩, by rw [FL.out]; exact FV.out.take (by omega), B.setCell (Nat.le_refl _) _⟩
      · obtain ⟨s1, s2, s3, s4⟩ := nx_spec p f hf
        obtain ⟨m, hm⟩ : ∃ m : Nat, nx p f = f + m := ⟨nx p f - f, by omega⟩
        have IXF := IX f
        rw [n2, hm, show f + m - f = m by omega] at IXF
        have E1 : Hid ((p.extract f p.size).extract 0 m = p.extract f (nx p f)) := by unfold Hid; rw [ext_ext p f 0 m (by omega), hm]; rfl
        have E2 : Hid ((p.extract f p.size).extract (m + 1) (p.extract f p.size).size = p.extract (nx p f + 1) p.size) := by unfold Hid; rw [ext_rest p f (m + 1) (by omega), hm]; rfl
        have hz : (p.extract f p.size).size = p.size - f := ext_size2 p f p.size hf (Nat.le_refl _)
        have hz1 : m + 1 ≤ (p.extract f p.size).size := by omega
        have hz2 : (p.extract f p.size).size ≤ 140737488351232 := by omega
        have HN : Hid (D ++ [p.extract f (nx p f)] ++ pcs p (p.size - (k + 1)) (nx p f + 1) = pcs p p.size 0) := by
          unfold Hid
          have e := hL2.out
          rw [show p.size - k = (p.size - (k + 1)) + 1 by omega, pcs_more p _ f (by omega)] at e
          rw [← e, List.append_assoc]; rfl
        have HB : nx p f + 1 ≤ p.size := by omega
        have HV : Hid (VRow (wr.setCell ⟨w.heap.size, k, none⟩ (.string (p.extract f (nx p f)))) w.heap.size (p.size + 1) (fun j => .string (nth (D ++ [p.extract f (nx p f)]) j))) := (V.set k _ (by omega)).congr (fun j hj => by
          rw [nth_snoc, hD]
          by_cases ej : j = k
          · rw [if_pos ej, if_pos ej]
          · rw [if_neg ej, if_neg ej])
        have HD : Hid ((D ++ [p.extract f (nx p f)]).length = k + 1) := by unfold Hid; simp [hD]
        generalize D ++ [p.extract f (nx p f)] = D' at *
        generalize nx p f = q at *
        generalize p.extract f p.size = t at *
        clear s1 s2 s3 s4 hz n1 n2 hm IX FIN hD hL2 V
        go_wp2_with (first | (go_at_call 93; refine (IXF _).mono ?_; rintro e w' ⟨rfl, rfl⟩))
        go_roundw
        case rel => exact ⟨k + 1, q + 1, D', HD.out, by omega, HB, by rw [← E2.out], by go_num, HN, by rw [E1.out]; exact HV.out, B.setCell (Nat.le_refl _) _⟩
        case measure => simp [intOf]; omega
    · have FI := FIN.out 0 (by omega) rfl
      have FL : Hid ((pcs p 1024 0).length = k + 1) := FI.1
      have FV : Hid (VRow (wr.setCell ⟨w.heap.size, k, none⟩ (.string (p.extract f p.size))) w.heap.size (p.size + 1) (fun j => .string (nth (pcs p 1024 0) j))) := FI.2
      clear FI IX FIN
      go_wp2
      go_ret
      exact ⟨⟨_, by rw [FL.out]; rfl, by rw [FL.out]; omega, FV.out⟩, by rw [FL.out]; exact FV.out.take (by omega), B.setCell (Nat.le_refl _) _⟩

set_option maxRecDepth 100000 in
set_option maxHeartbeats 2000000 in
theorem gen_big (p : ByteArray) (w : World) (hp : p.size ≤ 140737488351232) (hsm : ¬ p.size < 1024) :
    Calls Tryz.prog 78 #[.string p, .string ⟨#[32]⟩, .int .i64 0, .int .i64 1025] w fun e w' => (∃ c, e = .returned (.slice (some ⟨w.heap.size, 0, none⟩) (pcs p 1024 0).length c) ∧ (pcs p 1024 0).length ≤ c ∧ VRow w' w.heap.size c (fun j => .string (nth (pcs p 1024 0) j))) ∧ VRow w' w.heap.size (pcs p 1024 0).length (fun j => .string (nth (pcs p 1024 0) j)) ∧ Below w.heap.size w w' := by
  obtain ⟨i0, hi, hz0, hz1, hz2⟩ := info_parts info_str
  have HMK : Hid (∀ w : World, (Instr.makeSlice 24 (.int .i64 1025) (.int .i64 1025)).run Tryz.prog w = .ok (.slice (some ⟨w.heap.size, 0, none⟩) (1024 + 1) (1024 + 1)) (w.alloc (.cells (madeCells (Value.string ByteArray.empty).cells (1024 + 1)) 9))) := fun w => by
    rw [run_make (P := Tryz.prog) w 24 9 i0 (.string ByteArray.empty) Tryz.underlying24 hi hz0 .i64 .i64 _ _ (by omega) (by omega) (by rw [hz2]; omega) (by omega), show (1025 : Int).toNat = 1024 + 1 by omega, hz1, Nat.mul_one]
  have hse := blank_list
  have IX := fun (f : Nat) (w : World) => idx_one (p.extract f p.size) w
  clear hi hz0 hz1 hz2
  go_enter Tryz.func78, Tryz.ntmps78
  go_wp2_with fail
  try simp only [show min (1025:Int) ((p.size:Int)+1) = 1025 by omega]
  try go_wp2_with fail
  rw [HMK.out]
  clear hsm
  have R0 : VRow (w.alloc (.cells (madeCells (Value.string ByteArray.empty).cells (1024 + 1)) 9)) w.heap.size (1024 + 1) (fun _ => .string ByteArray.empty) := VRow.made rfl rfl
  have B0 : Below w.heap.size w (w.alloc (.cells (madeCells (Value.string ByteArray.empty).cells (1024 + 1)) 9)) := (Below.refl _ _).alloc (Nat.le_refl _) _
  generalize w.alloc (.cells (madeCells (Value.string ByteArray.empty).cells (1024 + 1)) 9) = W1 at R0 B0 ⊢
  go_wp2
  go_loopw [0, 10] (fun xs xi wr => ∃ (k f : Nat) (D : List ByteArray), D.length = k ∧ k ≤ 1024 ∧ f ≤ p.size ∧ xs = .string (p.extract f p.size) ∧ xi = .int .i64 k ∧ Hid (D ++ pcs p (1024 - k) f = pcs p 1024 0) ∧ VRow wr w.heap.size (1024 + 1) (fun j => .string (nth D j)) ∧ Below w.heap.size w wr) (fun _ i _ => 1024 - (intOf i).toNat)
  case atStart => exact ⟨0, 0, [], rfl, Nat.zero_le _, Nat.zero_le _, by simp, rfl, rfl, R0.congr (fun j _ => by simp [nth]), B0⟩
  case round =>
    obtain ⟨k, f, D, hD, hk, hf, rfl, rfl, hL2, V, B⟩ := hrel
    have c1 := V.cell k (by omega)
    have f1 := V.free k (by omega)
    have FIN : Hid (∀ r, 1024 - k = r → pcs p r f = [p.extract f p.size] → (pcs p 1024 0).length = k + 1 ∧ VRow (wr.setCell ⟨w.heap.size, k, none⟩ (.string (p.extract f p.size))) w.heap.size (1024 + 1) (fun j => .string (nth (pcs p 1024 0) j))) := by
      intro r hr he
      have e := hL2.out
      rw [hr, he] at e
      rw [← e]
      refine ⟨by simp [hD], (V.set k _ (by omega)).congr (fun j hj => ?_)⟩
      rw [nth_snoc, hD]
      by_cases ej : j = k
      · rw [if_pos ej, if_pos ej]
      · rw [if_neg ej, if_neg ej]
    by_cases hlt : k < 1024
    · rcases idx_rest p f hf with ⟨n1, n2⟩ | ⟨n1, n2⟩
      · have IXF := IX f
        rw [n2] at IXF
        have FI := FIN.out _ rfl (pcs_last p _ f n1)
        have FL : Hid ((pcs p 1024 0).length = k + 1) := FI.1
        have FV : Hid (VRow (wr.setCell ⟨w.heap.size, k, none⟩ (.string (p.extract f p.size))) w.heap.size (1024 + 1) (fun j => .string (nth (pcs p 1024 0) j))) := FI.2
        clear FI n1 n2 IX FIN
        go_wp2_with (first | (go_at_call 93; refine (IXF _).mono ?_; rintro e w' ⟨rfl, rfl⟩))
        go_ret
        exact ⟨⟨_, by rw [FL.out]; rfl, by rw [FL.out]; omega, FV.out⟩, by rw [FL.out]; exact FV.out.take (by omega), B.setCell (Nat.le_refl _) _⟩
      · obtain ⟨s1, s2, s3, s4⟩ := nx_spec p f hf
        obtain ⟨m, hm⟩ : ∃ m : Nat, nx p f = f + m := ⟨nx p f - f, by omega⟩
        have IXF := IX f
        rw [n2, hm, show f + m - f = m by omega] at IXF
        have E1 : Hid ((p.extract f p.size).extract 0 m = p.extract f (nx p f)) := by unfold Hid; rw [ext_ext p f 0 m (by omega), hm]; rfl
        have E2 : Hid ((p.extract f p.size).extract (m + 1) (p.extract f p.size).size = p.extract (nx p f + 1) p.size) := by unfold Hid; rw [ext_rest p f (m + 1) (by omega), hm]; rfl
        have hz : (p.extract f p.size).size = p.size - f := ext_size2 p f p.size hf (Nat.le_refl _)
        have hz1 : m + 1 ≤ (p.extract f p.size).size := by omega
        have hz2 : (p.extract f p.size).size ≤ 140737488351232 := by omega
        have HN : Hid (D ++ [p.extract f (nx p f)] ++ pcs p (1024 - (k + 1)) (nx p f + 1) = pcs p 1024 0) := by
          unfold Hid
          have e := hL2.out
          rw [show 1024 - k = (1024 - (k + 1)) + 1 by omega, pcs_more p _ f (by omega)] at e
          rw [← e, List.append_assoc]; rfl
        have HB : nx p f + 1 ≤ p.size := by omega
        have HV : Hid (VRow (wr.setCell ⟨w.heap.size, k, none⟩ (.string (p.extract f (nx p f)))) w.heap.size (1024 + 1) (fun j => .string (nth (D ++ [p.extract f (nx p f)]) j))) := (V.set k _ (by omega)).congr (fun j hj => by
          rw [nth_snoc, hD]
          by_cases ej : j = k
          · rw [if_pos ej, if_pos ej]
          · rw [if_neg ej, if_neg ej])
        have HD : Hid ((D ++ [p.extract f (nx p f)]).length = k + 1) := by unfold Hid; simp [hD]
        generalize D ++ [p.extract f (nx p f)] = D' at *
        generalize nx p f = q at *
        generalize p.extract f p.size = t at *
        clear s1 s2 s3 s4 hz n1 n2 hm IX FIN hD hL2 V
        go_wp2_with (first | (go_at_call 93; refine (IXF _).mono ?_; rintro e w' ⟨rfl, rfl⟩))
        go_roundw
        case rel => exact ⟨k + 1, q + 1, D', HD.out, by omega, HB, by rw [← E2.out], by go_num, HN, by rw [E1.out]; exact HV.out, B.setCell (Nat.le_refl _) _⟩
        case measure => simp [intOf]; omega
    · have FI := FIN.out 0 (by omega) rfl
      have FL : Hid ((pcs p 1024 0).length = k + 1) := FI.1
      have FV : Hid (VRow (wr.setCell ⟨w.heap.size, k, none⟩ (.string (p.extract f p.size))) w.heap.size (1024 + 1) (fun j => .string (nth (pcs p 1024 0) j))) := FI.2
      clear FI IX FIN
      go_wp2
      go_ret
      exact ⟨⟨_, by rw [FL.out]; rfl, by rw [FL.out]; omega, FV.out⟩, by rw [FL.out]; exact FV.out.take (by omega), B.setCell (Nat.le_refl _) _⟩

theorem gen_any (p : ByteArray) (w : World) (hp : p.size ≤ 140737488351232) :
    Calls Tryz.prog 78 #[.string p, .string ⟨#[32]⟩, .int .i64 0, .int .i64 1025] w fun e w' => (∃ c, e = .returned (.slice (some ⟨w.heap.size, 0, none⟩) (pcs p 1024 0).length c) ∧ (pcs p 1024 0).length ≤ c ∧ VRow w' w.heap.size c (fun j => .string (nth (pcs p 1024 0) j))) ∧ VRow w' w.heap.size (pcs p 1024 0).length (fun j => .string (nth (pcs p 1024 0) j)) ∧ Below w.heap.size w w' := by
  by_cases h : p.size < 1024
  · exact gen_small p w hp h
  · exact gen_big p w hp h

set_option maxHeartbeats 400000 in
theorem splitn_any (p : ByteArray) (w : World) (hp : p.size ≤ 140737488351232) :
    Calls Tryz.prog 59 #[.string p, .string ⟨#[32]⟩, .int .i64 1025] w fun e w' => (∃ c, e = .returned (.slice (some ⟨w.heap.size, 0, none⟩) (pcs p 1024 0).length c) ∧ (pcs p 1024 0).length ≤ c ∧ VRow w' w.heap.size c (fun j => .string (nth (pcs p 1024 0) j))) ∧ VRow w' w.heap.size (pcs p 1024 0).length (fun j => .string (nth (pcs p 1024 0) j)) ∧ Below w.heap.size w w' := by
  go_enter Tryz.func59, Tryz.ntmps59
  go_wp2_with fail
  refine (gen_any p _ hp).mono ?_
  rintro e w1 ⟨⟨c, rfl, hc, VC⟩, V, B⟩
  go_wp2
  go_ret
  exact ⟨⟨c, rfl, hc, VC⟩, V, B⟩

end Go.Proofs.YtgnlkggodchlbaaGreatDoor.Sq
/- info.readRefs: walked. -/
namespace Go.Proofs.YtgnlkggodchlbaaGreatDoor
open Go.RowKit Go.Shelf

def blk1 : ByteArray := ⟨#[32]⟩
def dirR : ByteArray := ⟨#[47, 100, 101, 112, 111, 116, 47, 115, 116, 111, 114, 101, 47]⟩
/-- What stands behind the head and a blank; its pieces. -/
def rrT (l : ByteArray) : ByteArray := cpQ (cpQ l hdR) blk1
def rrN (l : ByteArray) : Nat := (Sq.pcs (rrT l) 1024 0).length
def rrF (l : ByteArray) (j : Nat) : ByteArray := dirR ++ Sq.nth (Sq.pcs (rrT l) 1024 0) j
/-- The error's number of a line of references. -/
def rrC (l : ByteArray) : Int := if hpQ l hdR = true ∧ (cpQ l hdR).size = 0 then 0 else if hpQ l hdR = true ∧ hpQ (cpQ l hdR) blk1 = true then crf (rrF l) (rrN l) else 150
def rrM (l : ByteArray) : Nat := if (cpQ l hdR).size = 0 then 0 else rrN l

theorem mem_sum {L : List ByteArray} {x : ByteArray} (h : x ∈ L) : x.size + 1 ≤ (L.map (fun x => x.size + 1)).sum := by
  induction L with
  | nil => cases h
  | cons a l ih =>
    rw [List.map_cons, List.sum_cons]
    rcases List.mem_cons.1 h with rfl | h
    · omega
    · have := ih h; omega
theorem piece_le (t : ByteArray) (j : Nat) : (Sq.nth (Sq.pcs t 1024 0) j).size ≤ t.size := by
  unfold Sq.nth
  by_cases h : j < (Sq.pcs t 1024 0).length
  · have hm : (Sq.pcs t 1024 0).getD j ByteArray.empty ∈ Sq.pcs t 1024 0 := by
      rw [List.getD_eq_getElem?_getD, List.getElem?_eq_getElem h]; exact List.getElem_mem _
    have := mem_sum hm
    rw [Sq.pcs_sum t 1024 0 (Nat.zero_le _)] at this
    omega
  · rw [List.getD_eq_getElem?_getD, List.getElem?_eq_none (by omega)]
    exact Nat.zero_le _
theorem dirR_size : dirR.size = 13 := rfl

set_option maxRecDepth 100000 in
set_option maxHeartbeats 2000000 in
theorem rdR_more (l : ByteArray) (w : World) (hl : (rrT l).size ≤ 140737488351232) (h1 : hpQ l hdR = true) (h2 : (cpQ l hdR).toList.isEmpty = false) (h3 : hpQ (cpQ l hdR) blk1 = true) :
    Calls Tryz.prog 42 #[.string l] w fun e w' => (∃ v, e = .returned (.tuple #[v, .int .i64 (crf (rrF l) (rrN l))]) ∧ (crf (rrF l) (rrN l) ≠ 0 → v = .slice none 0 0) ∧ (crf (rrF l) (rrN l) = 0 → ∃ c, v = .slice (some ⟨w.heap.size, 0, none⟩) (rrN l) c ∧ rrN l ≤ c ∧ VRow w' w.heap.size (rrN l) (fun j => .string (rrF l j)))) ∧ Below w.heap.size w w' := by
  have C0 := fun W => cutQ_any l hdR W
  have C1 := fun W => cutQ_any (cpQ l hdR) blk1 W
  rw [h1] at C0
  rw [h3] at C1
  have C2 := fun W => Sq.splitn_any (rrT l) W hl
  have hn : rrN l ≤ 1025 := Sq.pcs_len _ _ _
  have hp : 0 < rrN l := Sq.pcs_pos _ _ _
  rw [show (⟨#[32]⟩ : ByteArray) = blk1 from rfl] at C2
  have CK := fun (n c : Nat) (f : Nat → ByteArray) (g : Nat) (W : World) (V : VRow W g n (fun j => .string (f j))) => ckR_any (some ⟨g, 0, none⟩) n c f W (fun i hi => ⟨_, rfl, by have := V.cell i hi; rw [Addr.add_lit, Nat.zero_add]; exact this⟩)
  change ∀ W, Calls Tryz.prog 45 #[.string (cpQ l hdR), .string blk1] W fun e w' => e = .returned (.tuple #[.string (rrT l), .bool true]) ∧ w' = W at C1
  unfold rrN at hn hp ⊢
  have hF : Hid (∀ j, rrF l j = dirR ++ Sq.nth (Sq.pcs (rrT l) 1024 0) j) := fun j => rfl
  have HZ : Hid (∀ j, (Sq.nth (Sq.pcs (rrT l) 1024 0) j).size ≤ 140737488351232) := fun j => Nat.le_trans (piece_le _ _) hl
  generalize rrF l = F at hF ⊢
  generalize Sq.pcs (rrT l) 1024 0 = L at C2 hF hn hp HZ ⊢
  generalize rrT l = t at C1 C2
  generalize cpQ l hdR = r at C0 C1 h2
  clear h1 h3 hl
  go_enter Tryz.func42, Tryz.ntmps42
  rw [show (⟨#[82, 101, 102, 115, 58]⟩ : ByteArray) = hdR from rfl, show (⟨#[32]⟩ : ByteArray) = blk1 from rfl, show (⟨#[47, 100, 101, 112, 111, 116, 47, 115, 116, 111, 114, 101, 47]⟩ : ByteArray) = dirR from rfl]
  go_wp2_with fail
  refine (C0 _).mono ?_
  rintro e w1 ⟨rfl, rfl⟩
  go_wp2_with fail
  refine (C1 _).mono ?_
  rintro e w2 ⟨rfl, rfl⟩
  go_wp2_with fail
  refine (C2 _).mono ?_
  rintro e w3 ⟨⟨c, rfl, hc, _⟩, V, B⟩
  clear C0 C1 C2
  go_wp2
  go_loopw [36] (fun xi wr => ∃ k : Nat, k ≤ L.length ∧ xi = .int .i64 k ∧ Hid (VRow wr w2.heap.size L.length (fun j => .string (if j < k then F j else Sq.nth L j))) ∧ Hid (Below w2.heap.size w2 wr)) (fun i _ => L.length - (intOf i).toNat)
  case atStart => exact ⟨0, Nat.zero_le _, rfl, V.congr (fun j _ => by rw [if_neg (by omega)]), B⟩
  case round =>
    obtain ⟨k, hk, rfl, VK, BK⟩ := hrel
    by_cases hlt : k < L.length
    · have c1 := VK.out.cell k hlt
      have f1 := VK.out.free k hlt
      rw [if_neg (by omega)] at c1
      have hs : Hid (VRow (wr.setCell ⟨w2.heap.size, k, none⟩ (.string (dirR ++ Sq.nth L k))) w2.heap.size L.length (fun j => .string (if j < k + 1 then F j else Sq.nth L j))) := (VK.out.set k _ hlt).congr (fun j hj => by
        by_cases ej : j = k
        · rw [if_pos ej, if_pos (by omega), ej, hF.out]
        · rw [if_neg ej]
          by_cases e2 : j < k
          · rw [if_pos e2, if_pos (by omega)]
          · rw [if_neg e2, if_neg (by omega)])
      have hB2 : Hid (Below w2.heap.size w2 (wr.setCell ⟨w2.heap.size, k, none⟩ (.string (dirR ++ Sq.nth L k)))) := BK.out.setCell (p := ⟨w2.heap.size, k, none⟩) (Nat.le_refl _) _
      have hx := HZ.out k
      have hd := dirR_size
      generalize Sq.nth L k = x at c1 hs hB2 hx
      go_wp2
      go_roundw
      case rel => exact ⟨k + 1, by omega, by go_num, hs, hB2⟩
      case measure => simp [intOf]; omega
    · have VE : VRow wr w2.heap.size L.length (fun j => .string (F j)) := VK.out.congr (fun j hj => by rw [if_pos (by omega)])
      go_wp2_with fail
      refine (CK L.length c F w2.heap.size wr VE).mono ?_
      rintro e w4 ⟨rfl, b4⟩
      have VE4 : Hid (VRow w4 w2.heap.size L.length (fun j => .string (F j))) := VE.below b4 (VE.lt hp)
      have B4 : Hid (Below w2.heap.size w2 w4) := BK.out.trans (b4.mono BK.out.size)
      rcases crf_is F L.length with h0 | h0
      · rw [h0]
        go_wp2
        go_ret2
        exact ⟨⟨_, by rw [h0]; rfl, fun h => absurd h0 h, fun _ => ⟨c, rfl, hc, VE4.out⟩⟩, B4.out⟩
      · have h0' : crf F L.length ≠ 0 := by simpa using h0
        go_wp2
        go_ret2
        exact ⟨⟨_, rfl, fun _ => rfl, fun h => absurd h h0'⟩, B4.out⟩

end Go.Proofs.YtgnlkggodchlbaaGreatDoor
