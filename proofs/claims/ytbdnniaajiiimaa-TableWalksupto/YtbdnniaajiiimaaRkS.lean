/- The document's table by lists: Put, Cut, Find, Rank, Sorted, texts. -/
import Derived.Test.YtbdnniaajiiimaaRjS
import Derived.Test.YtbdnniaajiiimaaTtS
namespace Go.Proofs.Ytbdnniaajiiimaa
namespace TS
open Go.RowKit

abbrev PL := List (ByteArray × Int)
def fL (L : PL) (k : Nat) : ByteArray := (L.getD k (ByteArray.empty, 0)).1
def gL (L : PL) (k : Nat) : Int := (L.getD k (ByteArray.empty, 0)).2
theorem fgL {L : PL} {k : Nat} (h : k < L.length) : (fL L k, gL L k) = L[k] := by
  unfold fL gL
  rw [List.getD_eq_getElem?_getD, List.getElem?_eq_getElem h]
  rfl
theorem take_snoc {L : PL} {m : Nat} (h : m < L.length) : L.take (m + 1) = L.take m ++ [(fL L m, gL L m)] := by
  rw [fgL h, List.take_add_one, List.getElem?_eq_getElem h]; rfl
theorem cutF_take (L : PL) (k : ByteArray) : ∀ m, m ≤ L.length → cutF (fL L) (gL L) k m = BT.dl k (L.take m) := by
  intro m
  induction m with
  | zero => intro _; rw [List.take_zero]; rfl
  | succ m ih =>
    intro h
    rw [take_snoc (by omega)]
    unfold cutF BT.dl
    rw [List.filter_append]
    have := ih (by omega)
    unfold BT.dl at this
    rw [this]
    by_cases e : fL L m = k
    · rw [if_pos e]; simp [e]
    · rw [if_neg e]; simp [e]
theorem cutF_dl (L : PL) (k : ByteArray) : cutF (fL L) (gL L) k L.length = BT.dl k L := by rw [cutF_take L k _ (Nat.le_refl _), List.take_length]
theorem rnkF_take (L : PL) (k : ByteArray) : ∀ m, m ≤ L.length → rnkF (fL L) k m = BT.rkL ltK k (L.take m) := by
  intro m
  induction m with
  | zero => intro _; rw [List.take_zero]; rfl
  | succ m ih =>
    intro h
    rw [take_snoc (by omega)]
    unfold rnkF BT.rkL
    rw [List.filter_append, List.length_append]
    have := ih (by omega)
    unfold BT.rkL at this
    rw [this]
    by_cases e : Op.bytesLess (fL L m).toList k.toList = true
    · simp [e, ltK]
    · simp [e, ltK]
theorem rnkF_rk (L : PL) (k : ByteArray) : rnkF (fL L) k L.length = BT.rkL ltK k L := by rw [rnkF_take L k _ (Nat.le_refl _), List.take_length]

/-- v is a slice of these pairs, somewhere. -/
def PL.At (w : World) (v : Value) (L : PL) : Prop := ∃ x cap, v = .slice x L.length cap ∧ PIs w x L.length (fL L) (gL L)
theorem OwnP.at {w : World} {B : Nat} {v : Value} {L : PL} (h : OwnP w B v L) : PL.At w v L := h.open
theorem PL.At.below {w w' : World} {B : Nat} {v : Value} {L : PL} (h : PL.At w v L) (b : Below B w w') (hB : w.heap.size ≤ B) : PL.At w' v L := by
  obtain ⟨x, c, e, p⟩ := h
  exact ⟨x, c, e, p.below b hB⟩

theorem putL_any (v : Value) (L : PL) (k : ByteArray) (vv : Int) (w : World) (h : PL.At w v L) (hn : L.length ≤ 1073741824) :
    Calls Try.prog 10 #[v, .string k, .int .i64 vv] w fun e w' => ∃ v', e = .returned v' ∧ OwnP w' w.heap.size v' (BT.dl k L ++ [(k, vv)]) ∧ Below w.heap.size w w' := by
  obtain ⟨x, c, rfl, p⟩ := h
  have := refPut_any x L.length c (fL L) (gL L) k vv w p hn
  rw [cutF_dl] at this
  exact this
theorem cutL_any (v : Value) (L : PL) (k : ByteArray) (w : World) (h : PL.At w v L) (hn : L.length ≤ 1073741824) :
    Calls Try.prog 11 #[v, .string k] w fun e w' => ∃ v', e = .returned v' ∧ OwnP w' w.heap.size v' (BT.dl k L) ∧ Below w.heap.size w w' := by
  obtain ⟨x, c, rfl, p⟩ := h
  have := refCut_any x L.length c (fL L) (gL L) k w p hn
  rw [cutF_dl] at this
  exact this
theorem rankL_any (v : Value) (L : PL) (k : ByteArray) (w : World) (h : PL.At w v L) (hn : L.length ≤ 1073741824) :
    Calls Try.prog 16 #[v, .string k] w fun e w' => e = .returned (.int .i64 (BT.rkL ltK k L : Int)) ∧ w' = w := by
  obtain ⟨x, c, rfl, p⟩ := h
  have := refRank_any x L.length c (fL L) (gL L) k w p (by omega)
  rw [rnkF_rk] at this
  exact this
theorem sortL_any (v : Value) (L M : PL) (w : World) (h : PL.At w v L) (hn : L.length ≤ 1073741824) (hB : BT.Br ltK L M) :
    Calls Try.prog 15 #[v] w fun e w' => ∃ v', e = .returned v' ∧ PL.At w' v' M ∧ Below w.heap.size w w' := by
  obtain ⟨x, c, rfl, p⟩ := h
  have hl := hB.len
  have := refSorted_any x L.length c (fL L) (gL L) M w p hn (fun i hi => ?_) (fun r hr => ?_)
  · refine this.mono ?_
    rintro e w' ⟨b, rfl, pp, bb⟩
    refine ⟨_, rfl, ⟨_, L.length, by rw [hl], ?_⟩, bb⟩
    rw [← hl]
    exact pp
  · rw [rnkF_rk]
    have hx : (fL L i, gL L i) ∈ L := by rw [fgL hi]; exact List.getElem_mem hi
    have q := hB.place ordS hx
    have q2 := (List.getElem?_eq_some_iff.1 q).1
    exact ⟨by rw [hl]; exact q2, by rw [List.getD_eq_getElem?_getD, q]; rfl⟩
  · have hr' : r < M.length := by rw [← hl]; exact hr
    obtain ⟨hx, hk⟩ := hB.cover ordS (r := r) (x := M[r]) (List.getElem?_eq_getElem hr')
    obtain ⟨i, hi, e⟩ := List.getElem_of_mem hx
    refine ⟨i, hi, ?_⟩
    rw [rnkF_rk, ← hk, ← e, ← fgL hi]

/-- The cells of a row of texts. -/
def KSl (w : World) (x : Option Addr) (n : Nat) (f : Nat → ByteArray) : Prop := ∀ i, i < n → ∃ a, x = some a ∧ w.cell? (a.add i) = some (.string (f i))
theorem KSl.below {w w' : World} {x : Option Addr} {n B : Nat} {f : Nat → ByteArray} (h : KSl w x n f) (b : Below B w w') (hB : w.heap.size ≤ B) : KSl w' x n f := fun i hi => by
  obtain ⟨a, ha, hc⟩ := h i hi
  refine ⟨a, ha, ?_⟩
  have hl := World.block_lt_of_cell? _ _ hc
  rw [b.cell (p := a.add i) (by omega)]
  exact hc
/-- v is a slice of the keys of M. -/
def Ks (w : World) (v : Value) (M : PL) : Prop := ∃ x cap, v = .slice x M.length cap ∧ KSl w x M.length (fL M)
theorem Ks.below {w w' : World} {B : Nat} {v : Value} {M : PL} (h : Ks w v M) (b : Below B w w') (hB : w.heap.size ≤ B) : Ks w' v M := by
  obtain ⟨x, c, e, p⟩ := h
  exact ⟨x, c, e, p.below b hB⟩
theorem own_ks {w : World} {B : Nat} {v : Value} {M : PL} (h : w.ownsRow B 9 1 v M.length (M.map (fun x => Value.string x.1))) : Ks w v M := by
  obtain ⟨_, ⟨hv, hz⟩ | ⟨g, cap, cur, hv, hb, hg, hnc, _, _, htake⟩⟩ := h
  · exact ⟨none, 0, by rw [hv, hz], fun i hi => by rw [hz] at hi; omega⟩
  · refine ⟨_, cap, hv, fun i hi => ⟨_, rfl, ?_⟩⟩
    rw [Addr.add_lit, Nat.zero_add, cell_of_row w g i cur 9 (0, 0) hg]
    have h2 : (cur.toList.take (M.length * 1))[i]? = some (Value.string (fL M i)) := by
      rw [htake, List.getElem?_map, List.getElem?_eq_getElem hi, ← fgL hi]
      rfl
    rw [List.getElem?_take] at h2
    split at h2
    · simpa using h2
    · cases h2

set_option maxHeartbeats 1000000 in
theorem texts_any (v y : Value) (M : PL) (w : World) (hv : Ks w v M) (hy : PL.At w y M) (hn : M.length ≤ 1152921504606846976) :
    Calls Try.prog 23 #[v, y] w fun e w' => e = .returned (.bool true) ∧ w' = w := by
  obtain ⟨x, c, rfl, hk⟩ := hv
  obtain ⟨x2, c2, rfl, hp⟩ := hy
  have HK : Hid (KSl w x M.length (fL M)) := hk
  have HP : Hid (PIs w x2 M.length (fL M) (gL M)) := hp
  clear hk hp
  generalize M.length = n at HK HP hn ⊢
  have q0 : ((n : Int) != (n : Int)) = false := by simp
  go_enter Try.func23, Try.ntmps23
  go_wp2
  clear q0
  go_loop [14] (fun xi => ∃ j : Nat, j ≤ n ∧ xi = .int .i64 (j : Int)) (fun x => n - (intOf x).toNat)
  case atStart => exact ⟨0, Nat.zero_le _, rfl⟩
  case round =>
    obtain ⟨j, hj, rfl⟩ := hrel
    by_cases hlt : j < n
    · obtain ⟨a, rfl, c0⟩ := HK.out j hlt
      obtain ⟨b, o, rfl, d0, d1⟩ := HP.out j hlt
      have e1 : ((fL M j).toList != (fL M j).toList) = false := by simp
      have e2 : ((fL M j).toList == (fL M j).toList) = true := by simp
      go_wp2
      go_round
      case rel => exact ⟨j + 1, by omega, by go_num⟩
      case measure => simp [intOf]; omega
    · go_wp2
      go_ret
      exact ⟨rfl, rfl⟩

end TS
end Go.Proofs.Ytbdnniaajiiimaa
