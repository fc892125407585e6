/- Lists of texts in memory; depotref17.Texts, walked (own text of the verifier). -/
import Derived.Test.YthodlcmmagjboaaDoorSwD
namespace Go.Proofs.YthodlcmmagjboaaDoor
open Go.RowKit

theorem infoS9 : (Tryd.prog.info? 9).map (fun i => (i.zero, i.size, i.bytes)) = some (some (.string ⟨#[]⟩), 1, 16) := by kernel_rfl
theorem undLS : Tryd.prog.underlying 23 = some (.slice 9) := by kernel_rfl
/-- v is a slice of these texts, which the call itself made (blocks from B on). -/
def TxS (w : World) (B : Nat) (v : Value) (L : List (List UInt8)) : Prop := w.ownsRow B 9 1 v L.length (L.map fun t => .string (ba t))
theorem TxS.nil (w : World) (B : Nat) : TxS w B (.slice none 0 0) [] := World.ownsRow_nil _ _ _ _
theorem TxS.lt {w : World} {B : Nat} {v : Value} {L : List (List UInt8)} (h : TxS w B v L) : ∀ k, v.ownBlock = some k → B ≤ k ∧ k < w.heap.size := fun k hk => World.ownsRow.lt h k hk
theorem TxS.same {w w' : World} {B : Nat} {v : Value} {L : List (List UInt8)} (h : TxS w B v L) (e : ∀ k, v.ownBlock = some k → w'.heap[k]? = w.heap[k]?) : TxS w' B v L := row_same h e
theorem TxS.below {w w' : World} {B : Nat} {v : Value} {L : List (List UInt8)} (h : TxS w B v L) (m : Below w.heap.size w w') : TxS w' B v L :=
  h.same (fun k hk => m.block k (h.lt k hk).2)
theorem TxS.shape {w : World} {B : Nat} {v : Value} {L : List (List UInt8)} (h : TxS w B v L) : ∃ p c, v = .slice p L.length c := slice_of_row h
theorem TxS.app {w : World} {B : Nat} {v : Value} {L : List (List UInt8)} (h : TxS w B v L) (t : List UInt8) (hB : B ≤ w.heap.size) (hl : L.length ≤ 1073741824) :
    ∃ p c w', (Builtin.append_ #[23, 23] 23 #[v, .slice (some ⟨w.heap.size, 0, none⟩) 1 1]).run Tryd.prog (w.alloc (.cells #[.string (ba t)] 9)) = .ok (.slice p (L.length + 1) c) w' ∧ TxS w' B (.slice p (L.length + 1) c) (L ++ [t]) ∧ w.grownBy w' v.ownBlock := by
  obtain ⟨i0, hi, hz0, hz1, hz2⟩ := info_parts infoS9
  obtain ⟨v', w2, hr, hown', hgrow, -, -⟩ := run_append_own_at (P := Tryd.prog) (w.alloc (.cells #[.string (ba t)] 9)) B 23 23 9 i0 (.string ⟨#[]⟩) 1 16 undLS hi hz0 hz1 hz2 rfl (by decide) v L.length (L.map fun t => .string (ba t)) (World.ownsRow.alloc h _) ⟨w.heap.size, 0, none⟩ 1 1 [.string (ba t)] rfl (fun j u hj => by
      match j, hj with
      | 0, hj => simp at hj; subst hj; exact (World.cell?_alloc_new w _ _ 0).trans rfl) (by intro u hu; simp at hu; subst hu; rfl) (by unfold maxLen; omega) (by omega) (by rw [World.size_alloc]; omega)
  have HO : TxS w2 B v' (L ++ [t]) := by
    unfold TxS
    rw [List.length_append, List.map_append]
    exact hown'
  obtain ⟨p, c, rfl⟩ := HO.shape
  rw [List.length_append] at hr HO
  exact ⟨p, c, w2, hr, HO, (World.grownBy_alloc w _ _).trans hgrow⟩

/-- The cells of a row of texts. -/
def SIs (w : World) (x : Option Addr) (n : Nat) (f : Nat → ByteArray) : Prop := ∀ i, i < n → ∃ a, x = some a ∧ w.cell? (a.add i) = some (.string (f i))
theorem SIs.below {w w' : World} {x : Option Addr} {n B : Nat} {f : Nat → ByteArray} (h : SIs w x n f) (b : Below B w w') (hB : w.heap.size ≤ B) : SIs w' x n f := fun i hi => by
  obtain ⟨a, ha, hc⟩ := h i hi
  refine ⟨a, ha, ?_⟩
  have hl := World.block_lt_of_cell? _ _ hc
  rw [b.cell (p := a.add i) (by omega)]
  exact hc
theorem SIs.congr {w : World} {x : Option Addr} {n : Nat} {f f' : Nat → ByteArray} (h : SIs w x n f) (e : ∀ j, j < n → f j = f' j) : SIs w x n f' := fun i hi => by
  obtain ⟨a, ha, hc⟩ := h i hi
  exact ⟨a, ha, by rw [hc, e i hi]⟩
theorem add_is (g j : Nat) : (⟨g, 0, none⟩ : Addr).add j = ⟨g, j, none⟩ := by simp [Addr.add]; exact fun h => h.symm
theorem VRow.sis {w : World} {g n : Nat} {f : Nat → ByteArray} (h : VRow w g n (fun j => .string (f j))) : SIs w (some ⟨g, 0, none⟩) n f := fun i hi =>
  ⟨_, rfl, by rw [add_is]; exact h.cell i hi⟩
theorem TxS.sis {w : World} {B : Nat} {p : Option Addr} {n c : Nat} {L : List (List UInt8)} (h : TxS w B (.slice p n c) L) : SIs w p L.length (fun j => nth L j) := fun i hi => by
  rcases h.2 with ⟨e, h0⟩ | ⟨k, cap, cur, e, hb, hg, r⟩
  · omega
  · have h2 := World.ownsRow.cells (g := k) h (by rw [e]; rfl) i (.string (nth L i)) (by
      unfold nth
      rw [List.getD_eq_getElem?_getD, List.getElem?_eq_getElem hi]
      simp [hi])
    cases e
    exact ⟨_, rfl, h2⟩

set_option maxHeartbeats 1000000 in
theorem texts_any (x y : Option Addr) (n c d : Nat) (f : Nat → ByteArray) (w : World) (hx : SIs w x n f) (hy : SIs w y n f) (hn : n ≤ 1152921504606846976) :
    Calls Tryd.prog 9 #[.slice x n c, .slice y n d] w fun e w' => e = .returned (.bool true) ∧ Below w.heap.size w w' := by
  have HX : Hid (SIs w x n f) := hx
  have HY : Hid (SIs w y n f) := hy
  clear hx hy
  have hee : (((n : Nat) : Int) != ((n : Nat) : Int)) = false := by simp
  go_enter Tryd.func9, Tryd.ntmps9
  go_wp2
  go_loopw [5] (fun xi wr => ∃ k : Nat, k ≤ n ∧ xi = .int .i64 k ∧ Hid (∃ q, wr = w.drewN q)) (fun i _ => n - (intOf i).toNat)
  case atStart => exact ⟨0, Nat.zero_le _, rfl, 0, rfl⟩
  case round =>
    obtain ⟨k, hk, rfl, hq⟩ := hrel
    by_cases hlt : k < n
    · obtain ⟨a1, rfl, c1⟩ := HX.out k hlt
      obtain ⟨a2, rfl, c2⟩ := HY.out k hlt
      obtain ⟨q, hwr⟩ := hq.out
      have d1 : wr.cell? (a1.add k) = some (.string (f k)) := by rw [hwr]; exact c1
      have d2 : wr.cell? (a2.add k) = some (.string (f k)) := by rw [hwr]; exact c2
      clear c1 c2 hwr
      have he : ((f k).toList == (f k).toList) = true := by simp
      go_wp2
      go_quiet (fail)
      go_wp2
      go_roundw
      case rel => exact ⟨k + 1, by omega, by go_num, by obtain ⟨q, hw⟩ := hq.out; exact ⟨_, by rw [hw, World.drewN_drewN]⟩⟩
      case measure => simp [intOf]; omega
    · obtain ⟨q, rfl⟩ := hq.out
      go_wp2
      go_ret
      exact ⟨rfl, bel_drewN (Below.refl _ _) _⟩

end Go.Proofs.YthodlcmmagjboaaDoor
