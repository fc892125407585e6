/- The document's Print; walked. -/
import Derived.Test.YtgnlkggodchlbaaGreatDoorQn
namespace Go.Proofs.YtgnlkggodchlbaaGreatDoor
open Go.RowKit Go.Shelf

/-- Lines with their ends behind a text. -/
def txA : ByteArray → List ByteArray → ByteArray
  | t, [] => t
  | t, l :: r => txA (t ++ (l ++ nl)) r
theorem txA_snoc : ∀ (L : List ByteArray) (t x : ByteArray), txA t (L ++ [x]) = txA t L ++ (x ++ nl)
  | [], _, _ => rfl
  | l :: r, t, x => txA_snoc r (t ++ (l ++ nl)) x
theorem txA_app : ∀ (L M : List ByteArray) (t : ByteArray), txA t (L ++ M) = txA (txA t L) M
  | [], _, _ => rfl
  | l :: r, M, t => txA_app r M (t ++ (l ++ nl))
theorem txA_signs (t : ByteArray) (fs : Nat → ByteArray) : ∀ n, txA t ((List.range n).map (fun i => hdS ++ fs i)) = ptS t fs n
  | 0 => rfl
  | n + 1 => by
    rw [List.range_succ, List.map_append, List.map_cons, List.map_nil, txA_snoc, txA_signs t fs n]
    show _ = ptS t fs n ++ hdS ++ fs n ++ nl
    simp [ByteArray.append_assoc]
theorem txA_prT (P : ByteArray) (D : Nat → Int) (z : Int) (fr : Nat → ByteArray) (nr : Nat) (F : ByteArray) (fs : Nat → ByteArray) (ns : Nat) : txA ⟨#[]⟩ (lnO P D z fr nr F fs ns) = prT P D z fr nr F fs ns := by
  unfold lnO prT
  rw [txA_app, txA_signs]
  congr 1
  rw [txA_app]
  have e4 : txA ⟨#[]⟩ [hdP ++ P, hdH ++ b32Str (strFn 32 D), hdZ ++ itB z, hdR ++ bsS fr nr] = pt4 P D z fr nr := by
    unfold pt4 pt3 pt2 pt1
    show (((⟨#[]⟩ ++ (hdP ++ P ++ nl)) ++ (hdH ++ b32Str (strFn 32 D) ++ nl)) ++ (hdZ ++ itB z ++ nl)) ++ (hdR ++ bsS fr nr ++ nl) = _
    simp [ByteArray.append_assoc, emp]
  rw [e4]
  by_cases h : F.size = 0
  · rw [if_pos h, ptF_z h]; rfl
  · rw [if_neg h, ptF_n h]
    show pt4 P D z fr nr ++ (hdF ++ F ++ nl) = _
    simp [ByteArray.append_assoc]
theorem txA_size : ∀ (L : List ByteArray) (t : ByteArray), (∀ x ∈ L, x.size ≤ 300000) → (txA t L).size ≤ t.size + 300001 * L.length
  | [], t, _ => by show t.size ≤ t.size + 0; omega
  | l :: r, t, h => by
    have h1 := txA_size r (t ++ (l ++ nl)) (fun x hx => h x (by simp [hx]))
    have h2 := h l (by simp)
    have h3 : (t ++ (l ++ nl)).size = t.size + (l.size + 1) := by rw [app_size, app_size]; rfl
    rw [List.length_cons]
    show (txA (t ++ (l ++ nl)) r).size ≤ _
    omega
theorem lnO_small {P : ByteArray} {D : Nat → Int} {z : Int} {fr : Nat → ByteArray} {nr : Nat} {F : ByteArray} {fs : Nat → ByteArray} {ns : Nat} (h : ckC P z fr nr F fs ns = 0) : ∀ x ∈ lnO P D z fr nr F fs ns, x.size ≤ 300000 := by
  obtain ⟨h1, ⟨h2, h2'⟩, h3, h4, h5⟩ := ckC_parts h
  obtain ⟨h6, h7⟩ := crf_ok h3
  have mP := prC_max h1
  have mI := itoa_le z h2 h2'
  have mB := bsS_size fr nr (fun i hi => prC_max (h7 i hi).1)
  intro x hx
  unfold lnO at hx
  simp only [List.cons_append, List.nil_append, List.mem_cons, List.mem_append, List.mem_map, List.mem_range] at hx
  rcases hx with rfl | rfl | rfl | rfl | hx | hx
  · rw [app_size]; show 6 + _ ≤ _; omega
  · rw [app_size, b32_size]; decide
  · rw [app_size]; show 6 + _ ≤ _; omega
  · rw [app_size]; show 5 + _ ≤ _; omega
  · by_cases h0 : F.size = 0
    · rw [if_pos h0] at hx; cases hx
    · rw [if_neg h0] at hx
      simp only [List.mem_singleton] at hx
      subst hx
      rw [frC_n h0] at h4
      have := prC_max h4
      rw [app_size]; show 6 + _ ≤ _; omega
  · obtain ⟨i, hi, rfl⟩ := hx
    have := snOk_max (snC_ok ((ssC_ok h5) i hi).1)
    rw [app_size]; show 6 + _ ≤ _; omega

set_option maxRecDepth 100000 in
set_option maxHeartbeats 4000000 in
theorem rprt_any (P : ByteArray) (D : Nat → Int) (z : Int) (F : ByteArray) (xr : Option Addr) (nr cr : Nat) (fr : Nat → ByteArray) (xs : Option Addr) (ns cz : Nat) (fs : Nat → ByteArray) (w : World) (hr : SIs w xr nr fr) (hs : SIs w xs ns fs) (hns : ns ≤ 1048576) (hsz : ∀ i, i < ns → (fs i).size ≤ 1048576) (hT : PT w) :
    Calls Tryz.prog 6 #[.agg (infC P D z (.slice xr nr cr) F (.slice xs ns cz))] w fun e w' => e = .returned (.tuple #[.string (prS (ckC P z fr nr F fs ns) (prT P D z fr nr F fs ns)), .int .i64 (ckC P z fr nr F fs ns)]) ∧ Below w.heap.size w w' := by
  have I0 : Inf (w.alloc (.cells (infC P D z (.slice xr nr cr) F (.slice xs ns cz)) 34)) w.heap.size P D z (.slice xr nr cr) F (.slice xs ns cz) := Inf.box _ _ _ _ _ _ _ _
  have B0 : Below w.heap.size w (w.alloc (.cells (infC P D z (.slice xr nr cr) F (.slice xs ns cz)) 34)) := (Below.refl _ _).alloc (Nat.le_refl _) _
  have CC := fun W (b : Below w.heap.size w W) => rick_any P D z F xr nr cr fr xs ns cz fs W (hr.below b (Nat.le_refl _)) (hs.below b (Nat.le_refl _)) (by omega) hsz
  have CL := fun (h : ckC P z fr nr F fs ns = 0) W (b : Below w.heap.size w W) => rlin_any P D z F xr nr cr fr xs ns cz fs W (hr.below b (Nat.le_refl _)) (hs.below b (Nat.le_refl _)) hns h (hT.below b)
  by_cases hc : ckC P z fr nr F fs ns = 0
  · have CL := CL hc
    have hsm := lnO_small (D := D) hc
    have hle := lnO_len P D z fr nr F fs ns
    have HTX : Hid (txA ⟨#[]⟩ (lnO P D z fr nr F fs ns) = prT P D z fr nr F fs ns) := txA_prT P D z fr nr F fs ns
    rw [prS_z hc]
    rw [hc] at CC ⊢
    clear hr hs hsz hT hc
    generalize lnO P D z fr nr F fs ns = L at CL hsm hle HTX
    generalize prT P D z fr nr F fs ns = TX at HTX ⊢
    go_enter Tryz.func6, Tryz.ntmps6
    rw [show (⟨#[10]⟩ : ByteArray) = nl from rfl]
    go_wp2_with (refine wpList_load_rinf (by rfl) (.tmp 1) (by rfl) (by rfl) I0 ?_; refine Hid.out ?_)
    unfold Hid
    generalize w.alloc (.cells (infC P D z (.slice xr nr cr) F (.slice xs ns cz)) 34) = w0 at I0 B0 ⊢
    go_wp2_with fail
    refine (CC w0 B0).mono ?_
    rintro e w1 ⟨rfl, b1⟩
    have I1 := I0.below b1 I0.lt
    have B1 : Below w.heap.size w w1 := B0.trans (b1.mono B0.size)
    clear I0 B0 b1 CC
    go_wp2_with (refine wpList_load_rinf (by rfl) (.tmp 1) (by rfl) (by rfl) I1 ?_)
    refine (CL w1 B1).mono ?_
    rintro e w2 ⟨⟨v, rfl, O2⟩, b2⟩
    obtain ⟨x, c, rfl, hxc, SX⟩ := O2.shape
    have B2 : Hid (Below w.heap.size w w2) := B1.trans (b2.mono B1.size)
    have HSX : Hid (SIs w2 x L.length (Sq.nth L)) := SX
    have HSM : Hid (∀ y ∈ L, y.size ≤ 300000) := hsm
    clear I1 B1 b2 CL O2 SX hsm
    go_wp2
    go_loopw [6, 7] (fun t i wr => ∃ k : Nat, k ≤ L.length ∧ t = .string (txA ⟨#[]⟩ (L.take k)) ∧ i = .int .i64 k ∧ wr = w2) (fun _ i _ => L.length - (intOf i).toNat)
    case atStart => exact ⟨0, Nat.zero_le _, rfl, rfl, rfl⟩
    case round =>
      obtain ⟨k, hk, rfl, rfl, rfl⟩ := hrel
      by_cases hlt : k < L.length
      · obtain ⟨a, rfl, c0⟩ := HSX.out k hlt
        have hmem : Sq.nth L k ∈ L := by unfold Sq.nth; rw [List.getD_eq_getElem?_getD, List.getElem?_eq_getElem hlt]; exact List.getElem_mem _
        have hz1 := HSM.out _ hmem
        have hz2 := txA_size (L.take k) ⟨#[]⟩ (fun y hy => HSM.out y (List.mem_of_mem_take hy))
        have hz3 : (L.take k).length ≤ k := by rw [List.length_take]; omega
        have hzz : (⟨#[]⟩ : ByteArray).size = 0 := rfl
        have hnl : nl.size = 1 := rfl
        have hD : Hid (txA ⟨#[]⟩ (L.take (k + 1)) = txA ⟨#[]⟩ (L.take k) ++ (Sq.nth L k ++ nl)) := by
          unfold Hid
          rw [List.take_add_one, List.getElem?_eq_getElem hlt]
          show txA ⟨#[]⟩ (L.take k ++ [L[k]]) = _
          rw [txA_snoc]
          unfold Sq.nth
          simp [List.getD, hlt]
        have hz4 : (txA ⟨#[]⟩ (L.take k)).size ≤ 1000000000000 := by omega
        clear hz2 hz3 hmem
        generalize Sq.nth L k = y at c0 hz1 hD
        generalize txA ⟨#[]⟩ (L.take k) = T at hz4 hD ⊢
        go_wp2
        go_roundw
        case rel => exact ⟨k + 1, by omega, by rw [hD.out], by go_num, trivial⟩
        case measure => simp [intOf]; omega
      · obtain rfl : k = L.length := by omega
        go_wp2
        go_ret2
        exact ⟨by rw [List.take_length, HTX.out]; rfl, B2.out⟩
  · have hc' : (ckC P z fr nr F fs ns != 0) = true := by rw [bne_iff_ne]; exact hc
    rw [prS_n hc, show emp = (⟨#[]⟩ : ByteArray) from rfl]
    clear CL
    generalize ckC P z fr nr F fs ns = cc at CC hc' hc ⊢
    clear hr hs hsz hT
    go_enter Tryz.func6, Tryz.ntmps6
    go_wp2_with (refine wpList_load_rinf (by rfl) (.tmp 1) (by rfl) (by rfl) I0 ?_; refine Hid.out ?_)
    unfold Hid
    generalize w.alloc (.cells (infC P D z (.slice xr nr cr) F (.slice xs ns cz)) 34) = w0 at I0 B0 ⊢
    go_wp2_with fail
    refine (CC w0 B0).mono ?_
    rintro e w1 ⟨rfl, b1⟩
    have B1 : Hid (Below w.heap.size w w1) := B0.trans (b1.mono B0.size)
    clear I0 B0 b1 CC
    go_wp2
    go_ret2
    exact ⟨rfl, B1.out⟩
end Go.Proofs.YtgnlkggodchlbaaGreatDoor
