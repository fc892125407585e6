/- name.checkPlace and name.Split, walked. -/
import Derived.Test.YtnggbemnblcnaaaDoorSpA
import Derived.Test.YtnggbemnblcnaaaDoorCkB
namespace Go.Proofs.YtnggbemnblcnaaaDoor
open Go.RowKit

set_option maxHeartbeats 400000 in
theorem place_any (i : Nat) (s : ByteArray) (w : World) :
    Calls Tryd.prog 68 #[.int .i64 i, .string s] w fun e w' => e = .returned (.int .i64 (if 31 ≤ i then 61 else chk s)) ∧ w' = w := by
  by_cases h : 31 ≤ i
  · rw [if_pos h]
    go_enter Tryd.func68, Tryd.ntmps68
    go_wp2
    go_ret
    exact ⟨rfl, rfl⟩
  · rw [if_neg h]
    go_enter Tryd.func68, Tryd.ntmps68
    go_wp2_with fail
    refine (check_any s _).mono ?_
    rintro e w1 ⟨rfl, rfl⟩
    go_wp2
    go_ret
    exact ⟨rfl, rfl⟩

/-- What is wrong with a path, and where. -/
def pathF (p : ByteArray) : Int × Int := if p.size = 0 then (0, 0) else scan (pcs p 31 0) 0 0
/-- The pieces of a path that is right. -/
def pathN (p : ByteArray) : List ByteArray := if p.size = 0 then [] else if (pathF p).1 = 0 then pcs p 31 0 else []

/-- A slice of these texts. -/
def SL (w : World) (v : Value) (L : List ByteArray) : Prop := (v = .slice none 0 0 ∧ L = []) ∨ ∃ g c, v = .slice (some ⟨g, 0, none⟩) L.length c ∧ L.length ≤ c ∧ VRow w g L.length (fun j => .string (nth L j))

theorem two_cells {w : World} {g : Nat} {x y u v : Value} (c0 : w.cell? ⟨g, 0, none⟩ = some x) (c1 : w.cell? ⟨g, 1, none⟩ = some y) :
    ((w.setCell ⟨g, 0, none⟩ u).setCell ⟨g, 1, none⟩ v).cell? ⟨g, 0, none⟩ = some u ∧ ((w.setCell ⟨g, 0, none⟩ u).setCell ⟨g, 1, none⟩ v).cell? ⟨g, 1, none⟩ = some v := by
  have h1 : (w.setCell ⟨g, 0, none⟩ u).cell? ⟨g, 1, none⟩ = some y := by rw [World.cell?_setCell_other _ _ _ _ (by simp)]; exact c1
  refine ⟨?_, World.cell?_setCell_same _ _ _ h1⟩
  rw [World.cell?_setCell_other _ _ _ _ (by simp)]
  exact World.cell?_setCell_same _ _ _ c0

theorem two_end {w0 w : World} {g : Nat} {x y : Value} (B : Below g w0 w) (c0 : w.cell? ⟨g, 0, none⟩ = some x) (c1 : w.cell? ⟨g, 1, none⟩ = some y) (u v : Value) (W : World) (hW : W = (w.setCell ⟨g, 0, none⟩ u).setCell ⟨g, 1, none⟩ v) :
    W.cell? ⟨g, 0, none⟩ = some u ∧ W.cell? ⟨g, 1, none⟩ = some v ∧ Below g w0 W := by
  subst hW
  exact ⟨(two_cells c0 c1).1, (two_cells c0 c1).2, (B.setCell (Nat.le_refl _) _).setCell (Nat.le_refl _) _⟩
theorem two_row {w : World} {g g' n : Nat} {f : Nat → Value} (V : VRow w g' n f) (hne : g' ≠ g) (u v : Value) (W : World) (hW : W = (w.setCell ⟨g, 0, none⟩ u).setCell ⟨g, 1, none⟩ v) : VRow W g' n f := by
  subst hW
  exact (V.other _ _ hne).other _ _ hne

/-- A slice of these texts, in a block from B on, its room in memory too. -/
def SLc (w : World) (B : Nat) (v : Value) (L : List ByteArray) : Prop := (v = .slice none 0 0 ∧ L = []) ∨ ∃ g c, v = .slice (some ⟨g, 0, none⟩) L.length c ∧ L.length ≤ c ∧ (B ≤ g ∧ 0 < L.length) ∧ VRow w g c (fun j => .string (nth L j))
theorem SLc.sl {w : World} {B : Nat} {v : Value} {L : List ByteArray} (h : SLc w B v L) : SL w v L := by
  rcases h with h | ⟨g, c, h1, h2, _, h3⟩
  · exact Or.inl h
  · exact Or.inr ⟨g, c, h1, h2, h3.take h2⟩

set_option maxHeartbeats 1000000 in
theorem split_full (p : ByteArray) (w : World) (hp : p.size ≤ 140737488351232) :
    Calls Tryd.prog 45 #[.string p] w fun e w' => ∃ v, e = .returned (.tuple #[v, .agg #[.int .i64 (pathF p).1, .int .i64 (pathF p).2]]) ∧ SLc w' w.heap.size v (pathN p) ∧ Below w.heap.size w w' := by
  cases h0 : p.toList.isEmpty
  · have hz : p.size ≠ 0 := empty_size p h0
    have HF : Hid (pathF p = scan (pcs p 31 0) 0 0) := by unfold Hid pathF; rw [if_neg hz]
    have HN : Hid (pathN p = if (pathF p).1 = 0 then pcs p 31 0 else []) := by unfold Hid pathN; rw [if_neg hz]
    have hln := pcs_len p 31 0
    have hps := pcs_pos p 31 0
    clear hz
    go_enter Tryd.func45, Tryd.ntmps45
    go_wp2_with fail
    refine (splitn_any p _ hp).mono ?_
    rintro e w1 ⟨⟨c, rfl, hc, VC⟩, V, b1⟩
    have hs1 : (w.alloc (Obj.cells #[Value.int IntKind.i64 0, Value.int IntKind.i64 0] 35)).heap.size = w.heap.size + 1 := World.size_alloc _ _
    rw [hs1] at V VC b1 ⊢
    have B1 : Below w.heap.size w w1 := ((Below.refl _ _).alloc (Nat.le_refl _) _).trans (b1.mono (by omega))
    have c0 : w1.cell? ⟨w.heap.size, 0, none⟩ = some (.int .i64 0) := by rw [b1.cell (p := ⟨w.heap.size, 0, none⟩) (by show w.heap.size < _; omega), World.cell?_alloc_new]; rfl
    have c1 : w1.cell? ⟨w.heap.size, 1, none⟩ = some (.int .i64 0) := by rw [b1.cell (p := ⟨w.heap.size, 1, none⟩) (by show w.heap.size < _; omega), World.cell?_alloc_new]; rfl
    have f0 : w1.frozen? ⟨w.heap.size, 0, none⟩ = false := by rw [b1.frozen (p := ⟨w.heap.size, 0, none⟩) (by show w.heap.size < _; omega)]; exact World.frozen?_alloc_new w _ _ _
    have f1 : w1.frozen? ⟨w.heap.size, 1, none⟩ = false := by rw [b1.frozen (p := ⟨w.heap.size, 1, none⟩) (by show w.heap.size < _; omega)]; exact World.frozen?_alloc_new w _ _ _
    have HSUM : Hid ((((pcs p 31 0).drop 0).map (fun x => x.size + 1)).sum = p.size + 1) := by unfold Hid; rw [List.drop_zero, pcs_sum p 31 0 (Nat.zero_le _)]; omega
    clear b1 hs1 h0
    generalize pcs p 31 0 = L at *
    go_wp2
    go_loop [5, 16] (fun xa xi => ∃ k a : Nat, k ≤ L.length ∧ xi = .int .i64 k ∧ xa = .int .i64 a ∧ Hid (pathF p = scan (L.drop k) k a) ∧ Hid (a + ((L.drop k).map (fun x => x.size + 1)).sum = p.size + 1)) (fun _ i => L.length - (intOf i).toNat)
    case atStart => exact ⟨0, 0, Nat.zero_le _, rfl, rfl, by rw [List.drop_zero]; exact HF, by have := HSUM.out; unfold Hid; omega⟩
    case round =>
      obtain ⟨k, a, hk, rfl, rfl, hsc, hsum⟩ := hrel
      by_cases hlt : k < L.length
      · have d0 := V.cell k hlt
        have hdr : L.drop k = nth L k :: L.drop (k + 1) := by
          rw [List.drop_eq_getElem_cons hlt]; congr 1; simp [nth, hlt]
        have hs2 := hsum.out
        rw [hdr, List.map_cons, List.sum_cons] at hs2
        have hsz : (nth L k).size + 1 ≤ 140737488351233 := by omega
        have hal : a ≤ 140737488351233 := by omega
        have hsc2 := hsc.out
        rw [hdr] at hsc2
        have cv := chk_vals (nth L k)
        by_cases h31 : 31 ≤ k
        · have PL := fun w => place_any k (nth L k) w
          rw [if_pos h31] at PL
          rw [scan_deep _ _ _ _ h31] at hsc2
          have HR : Hid (pathF p = (61, (a : Int))) := hsc2
          have HE : Hid (pathN p = []) := by unfold Hid; rw [HN.out, HR.out, if_neg (show ¬ (61 : Int) = 0 by decide)]
          clear hs2 hsc2 hsc hsum hdr cv
          go_wp2_with (first | (go_at_call 68; refine (PL _).mono ?_; rintro e w' ⟨rfl, rfl⟩))
          obtain ⟨e0, e1, BB⟩ := two_end B1 c0 c1 (.int .i64 61) (.int .i64 a) _ rfl
          generalize (World.setCell _ _ _).setCell _ _ = W at e0 e1 BB ⊢
          exact bodyPost_ret (v := .tuple #[.slice none 0 0, .agg #[.int .i64 61, .int .i64 a]]) (by simp [results, Tryd.results45, go_sem, e0, e1]) rfl ⟨_, by rw [HR.out], Or.inl ⟨rfl, HE.out⟩, BB⟩
        · have PL := fun w => place_any k (nth L k) w
          rw [if_neg h31] at PL
          by_cases hc0 : chk (nth L k) = 0
          · rw [hc0] at PL
            rw [scan_good _ _ _ _ (by omega) hc0] at hsc2
            have HS2 : Hid (pathF p = scan (L.drop (k + 1)) (k + 1) (a + ((nth L k).size + 1))) := hsc2
            have HU2 : Hid (a + ((nth L k).size + 1) + ((L.drop (k + 1)).map (fun x => x.size + 1)).sum = p.size + 1) := by unfold Hid; omega
            clear hs2 hsc2 hsc hsum hdr cv hc0
            go_wp2_with (first | (go_at_call 68; refine (PL _).mono ?_; rintro e w' ⟨rfl, rfl⟩))
            go_round
            case rel => exact ⟨k + 1, a + ((nth L k).size + 1), by omega, by go_num, by go_num, HS2, HU2⟩
            case measure => simp [intOf]; omega
          · rw [scan_bad _ _ _ _ (by omega) hc0] at hsc2
            have HR : Hid (pathF p = (chk (nth L k), (a : Int))) := hsc2
            have HE : Hid (pathN p = []) := by unfold Hid; rw [HN.out, HR.out, if_neg hc0]
            have hb : (chk (nth L k) != 0) = true := by rw [bne_iff_ne]; exact hc0
            clear hs2 hsc2 hsc hsum hdr hc0
            generalize chk (nth L k) = C at *
            go_wp2_with (first | (go_at_call 68; refine (PL _).mono ?_; rintro e w' ⟨rfl, rfl⟩))
            obtain ⟨e0, e1, BB⟩ := two_end B1 c0 c1 (.int .i64 C) (.int .i64 a) _ rfl
            generalize (World.setCell _ _ _).setCell _ _ = W at e0 e1 BB ⊢
            exact bodyPost_ret (v := .tuple #[.slice none 0 0, .agg #[.int .i64 C, .int .i64 a]]) (by simp [results, Tryd.results45, go_sem, e0, e1]) rfl ⟨_, by rw [HR.out], Or.inl ⟨rfl, HE.out⟩, BB⟩
      · obtain rfl : k = L.length := by omega
        have hsc2 := hsc.out
        rw [List.drop_length] at hsc2
        have HR : Hid (pathF p = (0, 0)) := hsc2
        have HE : Hid (pathN p = L) := by unfold Hid; rw [HN.out, HR.out, if_pos rfl]
        clear hsc2 hsc hsum
        go_wp2
        obtain ⟨e0, e1, BB⟩ := two_end B1 c0 c1 (.int .i64 0) (.int .i64 0) _ rfl
        have V2 := two_row VC (show w.heap.size + 1 ≠ w.heap.size by omega) (.int .i64 0) (.int .i64 0) _ rfl
        generalize (World.setCell _ _ _).setCell _ _ = W at e0 e1 BB V2 ⊢
        exact bodyPost_ret (v := .tuple #[.slice (some ⟨w.heap.size + 1, 0, none⟩) L.length c, .agg #[.int .i64 0, .int .i64 0]]) (by simp [results, Tryd.results45, go_sem, e0, e1]) rfl ⟨_, by rw [HR.out], Or.inr ⟨_, c, by rw [HE.out], by rw [HE.out]; exact hc, ⟨by omega, by rw [HE.out]; exact hps⟩, by rw [HE.out]; exact V2⟩, BB⟩
  · have hz : p.size = 0 := by
      rw [Lib.toList_data, List.isEmpty_iff] at h0
      rw [Lib.size_eq, h0]; rfl
    have HF : Hid (pathF p = (0, 0)) := by unfold Hid pathF; rw [if_pos hz]
    have HN : Hid (pathN p = []) := by unfold Hid pathN; rw [if_pos hz]
    clear hz
    go_enter Tryd.func45, Tryd.ntmps45
    go_wp2
    exact bodyPost_ret (v := .tuple #[.slice none 0 0, .agg #[.int .i64 0, .int .i64 0]]) (by simp [results, Tryd.results45, go_sem]) rfl ⟨_, by rw [HF.out], Or.inl ⟨rfl, HN.out⟩, (Below.refl _ _).alloc (Nat.le_refl _) _⟩

theorem split_any (p : ByteArray) (w : World) (hp : p.size ≤ 140737488351232) :
    Calls Tryd.prog 45 #[.string p] w fun e w' => ∃ v, e = .returned (.tuple #[v, .agg #[.int .i64 (pathF p).1, .int .i64 (pathF p).2]]) ∧ SL w' v (pathN p) ∧ Below w.heap.size w w' :=
  (split_full p w hp).mono fun _ _ ⟨v, h1, h2, h3⟩ => ⟨v, h1, h2.sl, h3⟩

end Go.Proofs.YtnggbemnblcnaaaDoor
