/- info.readRefs: walked. -/
import Derived.Test.YtjhbfkckkinfjaaDoorSqA
import Derived.Test.YtjhbfkckkinfjaaDoorInM
namespace Go.Proofs.YtjhbfkckkinfjaaDoor
open Go.RowKit Go.Shelf

def blk1 : ByteArray := ⟨#[32]⟩
def dirR : ByteArray := ⟨#[47, 100, 101, 112, 111, 116, 47, 115, 116, 111, 114, 101, 47]⟩
/-- What stands behind the head and a blank; its pieces. -/
def rrT (l : ByteArray) : ByteArray := cpQ (cpQ l hdR) blk1
def rrN (l : ByteArray) : Nat := (Sq.pcs (rrT l) 1024 0).length
def rrF (l : ByteArray) (j : Nat) : ByteArray := dirR ++ Sq.nth (Sq.pcs (rrT l) 1024 0) j
/-- The error's number of a line of references. -/
def rrC (l : ByteArray) : Int := if hpQ l hdR = true ∧ (cpQ l hdR).size = 0 then 0 else if hpQ l hdR = true ∧ hpQ (cpQ l hdR) blk1 = true then crf (rrF l) (rrN l) else 150
def rrM (l : ByteArray) : Nat := if (cpQ l hdR).size = 0 then 0 else rrN l

theorem mem_sum {L : List ByteArray} {x : ByteArray} (h : x ∈ L) : x.size + 1 ≤ (L.map (fun x => x.size + 1)).sum := by
  induction L with
  | nil => cases h
  | cons a l ih =>
    rw [List.map_cons, List.sum_cons]
    rcases List.mem_cons.1 h with rfl | h
    · omega
    · have := ih h; omega
theorem piece_le (t : ByteArray) (j : Nat) : (Sq.nth (Sq.pcs t 1024 0) j).size ≤ t.size := by
  unfold Sq.nth
  by_cases h : j < (Sq.pcs t 1024 0).length
  · have hm : (Sq.pcs t 1024 0).getD j ByteArray.empty ∈ Sq.pcs t 1024 0 := by
      rw [List.getD_eq_getElem?_getD, List.getElem?_eq_getElem h]; exact List.getElem_mem _
    have := mem_sum hm
    rw [Sq.pcs_sum t 1024 0 (Nat.zero_le _)] at this
    omega
  · rw [List.getD_eq_getElem?_getD, List.getElem?_eq_none (by omega)]
    exact Nat.zero_le _
theorem dirR_size : dirR.size = 13 := rfl

set_option maxRecDepth 100000 in
set_option maxHeartbeats 2000000 in
theorem rdR_more (l : ByteArray) (w : World) (hl : (rrT l).size ≤ 140737488351232) (h1 : hpQ l hdR = true) (h2 : (cpQ l hdR).toList.isEmpty = false) (h3 : hpQ (cpQ l hdR) blk1 = true) :
    Calls Tryd.prog 37 #[.string l] w fun e w' => (∃ v, e = .returned (.tuple #[v, .int .i64 (crf (rrF l) (rrN l))]) ∧ (crf (rrF l) (rrN l) ≠ 0 → v = .slice none 0 0) ∧ (crf (rrF l) (rrN l) = 0 → ∃ c, v = .slice (some ⟨w.heap.size, 0, none⟩) (rrN l) c ∧ rrN l ≤ c ∧ VRow w' w.heap.size (rrN l) (fun j => .string (rrF l j)) ∧ Blk w' w.heap.size 9 c)) ∧ Below w.heap.size w w' := by
  have C0 := fun W => cutQ_any l hdR W
  have C1 := fun W => cutQ_any (cpQ l hdR) blk1 W
  rw [h1] at C0
  rw [h3] at C1
  have C2 := fun W => Sq.splitn_any (rrT l) W hl
  have hn : rrN l ≤ 1025 := Sq.pcs_len _ _ _
  have hp : 0 < rrN l := Sq.pcs_pos _ _ _
  rw [show (⟨#[32]⟩ : ByteArray) = blk1 from rfl] at C2
  have CK := fun (n c : Nat) (f : Nat → ByteArray) (g : Nat) (W : World) (V : VRow W g n (fun j => .string (f j))) => ckR_any (some ⟨g, 0, none⟩) n c f W (fun i hi => ⟨_, rfl, by have := V.cell i hi; rw [Addr.add_lit, Nat.zero_add]; exact this⟩)
  change ∀ W, Calls Tryd.prog 29 #[.string (cpQ l hdR), .string blk1] W fun e w' => e = .returned (.tuple #[.string (rrT l), .bool true]) ∧ w' = W at C1
  unfold rrN at hn hp ⊢
  have hF : Hid (∀ j, rrF l j = dirR ++ Sq.nth (Sq.pcs (rrT l) 1024 0) j) := fun j => rfl
  have HZ : Hid (∀ j, (Sq.nth (Sq.pcs (rrT l) 1024 0) j).size ≤ 140737488351232) := fun j => Nat.le_trans (piece_le _ _) hl
  generalize rrF l = F at hF ⊢
  generalize Sq.pcs (rrT l) 1024 0 = L at C2 hF hn hp HZ ⊢
  generalize rrT l = t at C1 C2
  generalize cpQ l hdR = r at C0 C1 h2
  clear h1 h3 hl
  go_enter Tryd.func37, Tryd.ntmps37
  rw [show (⟨#[82, 101, 102, 115, 58]⟩ : ByteArray) = hdR from rfl, show (⟨#[32]⟩ : ByteArray) = blk1 from rfl, show (⟨#[47, 100, 101, 112, 111, 116, 47, 115, 116, 111, 114, 101, 47]⟩ : ByteArray) = dirR from rfl]
  go_wp2_with fail
  refine (C0 _).mono ?_
  rintro e w1 ⟨rfl, rfl⟩
  go_wp2_with fail
  refine (C1 _).mono ?_
  rintro e w2 ⟨rfl, rfl⟩
  go_wp2_with fail
  refine (C2 _).mono ?_
  rintro e w3 ⟨⟨c, rfl, hc, _, BC⟩, V, B⟩
  clear C0 C1 C2
  go_wp2
  go_loopw [36] (fun xi wr => ∃ k : Nat, k ≤ L.length ∧ xi = .int .i64 k ∧ Hid (VRow wr w2.heap.size L.length (fun j => .string (if j < k then F j else Sq.nth L j))) ∧ Hid (BelB w2.heap.size c w2 wr)) (fun i _ => L.length - (intOf i).toNat)
  case atStart => exact ⟨0, Nat.zero_le _, rfl, V.congr (fun j _ => by rw [if_neg (by omega)]), ⟨B, BC⟩⟩
  case round =>
    obtain ⟨k, hk, rfl, VK, BK⟩ := hrel
    by_cases hlt : k < L.length
    · have c1 := VK.out.cell k hlt
      have f1 := VK.out.free k hlt
      rw [if_neg (by omega)] at c1
      have hs : Hid (VRow (wr.setCell ⟨w2.heap.size, k, none⟩ (.string (dirR ++ Sq.nth L k))) w2.heap.size L.length (fun j => .string (if j < k + 1 then F j else Sq.nth L j))) := (VK.out.set k _ hlt).congr (fun j hj => by
        by_cases ej : j = k
        · rw [if_pos ej, if_pos (by omega), ej, hF.out]
        · rw [if_neg ej]
          by_cases e2 : j < k
          · rw [if_pos e2, if_pos (by omega)]
          · rw [if_neg e2, if_neg (by omega)])
      have hB2 : Hid (BelB w2.heap.size c w2 (wr.setCell ⟨w2.heap.size, k, none⟩ (.string (dirR ++ Sq.nth L k)))) := BK.out.setCell _ _
      have hx := HZ.out k
      have hd := dirR_size
      generalize Sq.nth L k = x at c1 hs hB2 hx
      go_wp2
      go_roundw
      case rel => exact ⟨k + 1, by omega, by go_num, hs, hB2⟩
      case measure => simp [intOf]; omega
    · have VE : VRow wr w2.heap.size L.length (fun j => .string (F j)) := VK.out.congr (fun j hj => by rw [if_pos (by omega)])
      go_wp2_with fail
      refine (CK L.length c F w2.heap.size wr VE).mono ?_
      rintro e w4 ⟨rfl, b4⟩
      have VE4 : Hid (VRow w4 w2.heap.size L.length (fun j => .string (F j))) := VE.below b4 (VE.lt hp)
      have B4 : Hid (Below w2.heap.size w2 w4) := BK.out.bel.trans (b4.mono BK.out.bel.size)
      have BB4 : Hid (Blk w4 w2.heap.size 9 c) := BK.out.blk.same (b4.block _ BK.out.blk.lt)
      rcases crf_is F L.length with h0 | h0
      · rw [h0]
        go_wp2
        go_ret2
        exact ⟨⟨_, by rw [h0]; rfl, fun h => absurd h0 h, fun _ => ⟨c, rfl, hc, VE4.out, BB4.out⟩⟩, B4.out⟩
      · have h0' : crf F L.length ≠ 0 := by simpa using h0
        go_wp2
        go_ret2
        exact ⟨⟨_, rfl, fun _ => rfl, fun h => absurd h h0'⟩, B4.out⟩

end Go.Proofs.YtjhbfkckkinfjaaDoor
