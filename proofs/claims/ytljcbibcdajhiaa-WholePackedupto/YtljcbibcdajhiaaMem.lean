/- Small facts on rows of numbers in memory (own text of the verifier): a block whose first cells hold the numbers that a function tells. -/
import Derived.WalkKit
import Derived.WalkSpells
import Derived.WalkLawsBesides
import Derived.Handy
namespace Go.Proofs.Ytljcbibcdajhiaa
open Go.RowKit

/-- Block g holds, from its head on, the n numbers f 0, f 1, .. of kind k; none is frozen. -/
structure Row (k : IntKind) (w : World) (g n : Nat) (f : Nat → Int) : Prop where
  cell : ∀ j, j < n → w.cell? ⟨g, j, none⟩ = some (.int k (f j))
  free : ∀ j, j < n → w.frozen? ⟨g, j, none⟩ = false

theorem Row.congr {k : IntKind} {w : World} {g n : Nat} {f f' : Nat → Int} (h : Row k w g n f) (e : ∀ j, j < n → f j = f' j) : Row k w g n f' :=
  ⟨fun j hj => by rw [h.cell j hj, e j hj], h.free⟩

theorem Row.take {k : IntKind} {w : World} {g n m : Nat} {f : Nat → Int} (h : Row k w g m f) (e : n ≤ m) : Row k w g n f :=
  ⟨fun j hj => h.cell j (by omega), fun j hj => h.free j (by omega)⟩

theorem Row.same {k : IntKind} {w w' : World} {g n : Nat} {f : Nat → Int} (h : Row k w g n f) (e : w'.heap[g]? = w.heap[g]?) : Row k w' g n f :=
  ⟨fun j hj => by rw [World.cell?_of_block (w := w) (w' := w') (a := ⟨g, j, none⟩) e]; exact h.cell j hj,
   fun j hj => by rw [World.frozen?_of_block (w := w) (w' := w') (a := ⟨g, j, none⟩) e]; exact h.free j hj⟩

theorem Row.below {k : IntKind} {w w' : World} {g n B : Nat} {f : Nat → Int} (h : Row k w g n f) (b : Below B w w') (hg : g < B) : Row k w' g n f :=
  h.same (b.block g hg)

theorem Row.alloc {k : IntKind} {w : World} {g n : Nat} {f : Nat → Int} (h : Row k w g n f) (hg : g < w.heap.size) (o : Obj) : Row k (w.alloc o) g n f :=
  h.same (Below.heap_alloc w o g hg)

theorem Row.drew {k : IntKind} {w : World} {g n : Nat} {f : Nat → Int} (h : Row k w g n f) : Row k w.drew g n f := h.same rfl

theorem Row.drewN {k : IntKind} {w : World} {g n : Nat} {f : Nat → Int} (h : Row k w g n f) (q : Nat) : Row k (w.drewN q) g n f := h.same rfl

theorem bel_drewN {B : Nat} {a w : World} (h : Below B a w) (q : Nat) : Below B a (w.drewN q) := h.trans ⟨rfl, rfl, rfl, Nat.le_refl _, fun _ _ => rfl⟩

theorem Row.other {k : IntKind} {w : World} {g n : Nat} {f : Nat → Int} (h : Row k w g n f) (a : Addr) (v : Value) (hg : g ≠ a.block) : Row k (w.setCell a v) g n f :=
  h.same (Below.heap_setCell w a v g hg)

theorem Row.set {k : IntKind} {w : World} {g n : Nat} {f : Nat → Int} (h : Row k w g n f) (j : Nat) (v : Int) (hj : j < n) :
    Row k (w.setCell ⟨g, j, none⟩ (.int k v)) g n (fun i => if i = j then v else f i) :=
  ⟨fun i hi => by
    by_cases e : i = j
    · subst e; rw [World.cell?_setCell_same _ _ _ (h.cell i hi)]; simp
    · rw [World.cell?_setCell_other _ _ _ _ (fun c => e (by injection c with _ c2 _; exact c2.symm)), h.cell i hi]; simp [e],
   fun i hi => by rw [World.frozen?_setCell]; exact h.free i hi⟩

theorem getElem?_madeCells (z : Value) (n j : Nat) (hz : z.cells = #[z]) (hj : j < n) : (madeCells z.cells n)[j]? = some z := by
  rw [hz]; unfold madeCells
  simp [hj, Nat.mod_one]

theorem Row.made {k : IntKind} {w : World} {e : TypeId} {n m : Nat} {z : Int} (hm : m = n) : Row k (w.alloc (.cells (madeCells (Value.int k z).cells m) e)) w.heap.size n (fun _ => z) :=
  ⟨fun j hj => by rw [World.cell?_alloc_new]; exact getElem?_madeCells _ _ _ rfl (by omega), fun j hj => World.frozen?_alloc_new w _ _ _⟩

/-- The bytes of a row, as a string. -/
def strFn (n : Nat) (f : Nat → Int) : ByteArray := strOfNums ((List.range n).map f)

theorem strFn_size (n : Nat) (f : Nat → Int) : (strFn n f).size = n := by simp [strFn, strOfNums_size]

theorem strFn_congr {n : Nat} {f f' : Nat → Int} (e : ∀ j, j < n → f j = f' j) : strFn n f = strFn n f' := by
  unfold strFn; congr 1; exact List.map_congr_left (fun j hj => e j (List.mem_range.1 hj))

theorem strFn_get (n : Nat) (f : Nat → Int) (j : Nat) (h : j < (strFn n f).size) : (strFn n f)[j] = UInt8.ofNat (f j).toNat := by
  show (strFn n f).data[j] = _
  unfold strFn strOfNums; simp

theorem strFn_snoc (n : Nat) (f : Nat → Int) (b : UInt8) (h : UInt8.ofNat (f n).toNat = b) : strFn n f ++ ⟨#[b]⟩ = strFn (n + 1) f := by
  subst h
  unfold strFn strOfNums
  rw [List.range_succ, List.map_append, List.map_append, ← Go.ByteArray.mk_append_mk]
  simp

theorem strFn_zero (f : Nat → Int) : strFn 0 f = ⟨#[]⟩ := rfl

theorem run_string_row {P : Program} {w : World} {src dst e g n c : Nat} {f : Nat → Int} (hs : P.underlying src = some (.slice e)) (he : P.underlying e = some (.int .u8)) (hd : P.underlying dst = some .string)
    (h : Row .u8 w g n f) : (convert src dst (.slice (some ⟨g, 0, none⟩) n c)).run P w = .ok (.string (strFn n f)) w :=
  run_convert_bytes_arg w src e hs he g 0 n c ((List.range n).map f) (by simp) (fun i hi => by rw [Nat.zero_add, h.cell i hi]; simp [List.getD, hi]) dst hd

theorem Row.lit1 {k : IntKind} {w : World} {e : TypeId} (x : Int) : Row k (w.alloc (.cells #[.int k x] e)) w.heap.size 1 (fun _ => x) :=
  ⟨fun j hj => by rw [World.cell?_alloc_new]; obtain rfl : j = 0 := by omega
                  rfl, fun j hj => World.frozen?_alloc_new w _ _ _⟩

theorem Row.arr {k : IntKind} {w : World} {e : TypeId} {C : Array Value} {n : Nat} {f : Nat → Int} (h : ∀ j, j < n → C[j]? = some (.int k (f j))) : Row k (w.alloc (.cells C e)) w.heap.size n f :=
  ⟨fun j hj => by rw [World.cell?_alloc_new]; exact h j hj, fun _ _ => World.frozen?_alloc_new w _ _ _⟩

theorem Row.rep {k : IntKind} {w : World} {e : TypeId} {C : Array Value} {n : Nat} {z : Int} (h : C = Array.replicate n (.int k z)) : Row k (w.alloc (.cells C e)) w.heap.size n (fun _ => z) :=
  Row.arr (fun j hj => by rw [h]; simp [hj])

/-- string([]byte{x}), the slice just made. -/
theorem run_string_one {P : Program} (w : World) (src dst e c : Nat) (x : Int) (hs : P.underlying src = some (.slice e)) (he : P.underlying e = some (.int .u8)) (hd : P.underlying dst = some .string) :
    (convert src dst (.slice (some ⟨w.heap.size, 0, none⟩) 1 c)).run P (w.alloc (.cells #[.int .u8 x] e)) = .ok (.string ⟨#[UInt8.ofNat x.toNat]⟩) (w.alloc (.cells #[.int .u8 x] e)) :=
  run_string_row hs he hd (Row.lit1 x)

theorem and255_u64 (x : Int) (h0 : 0 ≤ x) (h1 : x < 18446744073709551616) : bits .and .u64 x 255 = x % 256 := by
  rw [u64_and x 255 h0 h1 (by omega) (by omega), show (255 : Int).toNat = 255 from rfl, nat_mask8]
  omega

/-- Byte k of a string, as a number; 0 behind its end. -/
def bt (s : ByteArray) (k : Nat) : Int := if h : k < s.size then ((s[k]'h).toNat : Int) else 0

theorem get_bt (s : ByteArray) : ∀ (n : Nat) (h : n < s.size), ((s[n]'h).toNat : Int) = bt s n := fun n h => by unfold bt; rw [dif_pos h]

theorem bt_bd (s : ByteArray) (k : Nat) : 0 ≤ bt s k ∧ bt s k < 256 := by
  unfold bt; split
  · have := (s[k]).toNat_lt; omega
  · omega

theorem bt_strFn (n : Nat) (f : Nat → Int) (k : Nat) (hk : k < n) (h0 : 0 ≤ f k) (h1 : f k < 256) : bt (strFn n f) k = f k := by
  unfold bt
  rw [dif_pos (by rw [strFn_size]; exact hk), strFn_get]
  simp only [UInt8.toNat_ofNat']
  omega

theorem bytes_ext {a b : ByteArray} (hs : a.size = b.size) (h : ∀ k, k < a.size → bt a k = bt b k) : a = b := by
  apply ByteArray.ext
  apply Array.ext
  · exact hs
  · intro i h1 h2
    have := h i h1
    unfold bt at this
    have g1 : i < a.size := h1
    have g2 : i < b.size := h2
    rw [dif_pos g1, dif_pos g2] at this
    have e : (a[i]'g1).toNat = (b[i]'g2).toNat := by omega
    exact UInt8.toNat_inj.1 e

theorem strFn_bt (s : ByteArray) : strFn s.size (bt s) = s := by
  apply bytes_ext (by rw [strFn_size])
  intro k hk
  rw [strFn_size] at hk
  exact bt_strFn _ _ _ hk (bt_bd s k).1 (bt_bd s k).2

#print axioms run_string_row
end Go.Proofs.Ytljcbibcdajhiaa
