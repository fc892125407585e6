/- What Check takes is printed and read again, whole; plain. -/
import Derived.Test.YtgnlkggodchlbabDoorQk
import Derived.Test.YtgnlkggodchlbabDoorQl
namespace Go.Proofs.YtgnlkggodchlbabDoor
open Go.RowKit Go.Shelf

theorem rh_back0 (D : Nat → Int) : rhC (hdH ++ b32Str (strFn 32 D)) = 0 := by
  obtain ⟨b1, b2⟩ := b32_back (strFn 32 D)
  exact rhC_yes (hpQ_app hdH (b32Str (strFn 32 D))) (by rw [cpQ_app]; exact ⟨b32_len D, b2⟩)
/-- The info that is read of a printed one. -/
def backS (P : ByteArray) (D : Nat → Int) (z : Int) (fr : Nat → ByteArray) (nr : Nat) (F : ByteArray) (fs : Nat → ByteArray) (ns : Nat) : IS := ⟨P, rhD (hdH ++ b32Str (strFn 32 D)), z, (List.range nr).map fr, F, (List.range ns).map fs⟩
theorem nth_range (f : Nat → ByteArray) (n j : Nat) (h : j < n) : Sq.nth ((List.range n).map f) j = f j := by unfold Sq.nth; simp [List.getD, h]
theorem ssOk_range {f : Nat → ByteArray} {n : Nat} (h : ssOk f n) : ssOk (Sq.nth ((List.range n).map f)) ((List.range n).map f).length := by
  rw [List.length_map, List.length_range]
  intro i hi
  obtain ⟨a, b⟩ := h i hi
  rw [nth_range f n i hi]
  exact ⟨a, fun h0 => by rw [nth_range f n (i - 1) (by omega)]; exact b h0⟩
theorem itB_nl {z : Int} (h : 0 ≤ z) : NoNl (itB z) := by rw [itB_dg h]; exact dgB_nl _
/-- What stands behind the first four lines. -/
def tailT (F : ByteArray) (L : List ByteArray) : ByteArray := if F.size = 0 then sgT L else hdF ++ F ++ nl ++ sgT L
theorem prT_lines (P : ByteArray) (D : Nat → Int) (z : Int) (fr : Nat → ByteArray) (nr : Nat) (F : ByteArray) (fs : Nat → ByteArray) (ns : Nat) :
    prT P D z fr nr F fs ns = (hdP ++ P) ++ nl ++ ((hdH ++ b32Str (strFn 32 D)) ++ nl ++ ((hdZ ++ itB z) ++ nl ++ ((hdR ++ bsS fr nr) ++ nl ++ tailT F ((List.range ns).map fs)))) := by
  unfold prT tailT
  rw [ptS_list]
  by_cases h : F.size = 0
  · rw [ptF_z h, if_pos h]
    unfold pt4 pt3 pt2 pt1
    rw [emp_app]
    simp [ByteArray.append_assoc]
  · rw [ptF_n h, if_neg h]
    unfold pt4 pt3 pt2 pt1
    rw [emp_app]
    simp [ByteArray.append_assoc]
theorem tail_back {P : ByteArray} {D : Nat → Int} {z : Int} {R : List ByteArray} {F : ByteArray} {L : List ByteArray} (k : Nat) (hk : (tailT F L).size < k) (hF : frC F = 0) (hL : ssOk (Sq.nth L) L.length) :
    pz k (tailT F L) 4 ⟨P, D, z, R, ⟨#[]⟩, []⟩ = (⟨P, D, z, R, F, L⟩, 0, 0) := by
  unfold tailT at hk ⊢
  by_cases h : F.size = 0
  · rw [if_pos h] at hk ⊢
    rw [pz_signs L k 4 _ hk (Nat.le_refl _) (by simpa using hL), empty_of_size h]
    rfl
  · rw [if_neg h] at hk ⊢
    rw [frC_n h] at hF
    obtain ⟨k, rfl⟩ : ∃ m, k = m + 1 := ⟨k - 1, by omega⟩
    obtain ⟨b1, b2⟩ := rp_back (h := hdF) hF
    have hp := hpQ_app hdF F
    have ec : tkC ⟨P, D, z, R, ⟨#[]⟩, []⟩ 4 (hdF ++ F) = 0 := by unfold tkC; simp [hp]; exact b1
    have es : tkS ⟨P, D, z, R, ⟨#[]⟩, []⟩ 4 (hdF ++ F) = ⟨P, D, z, R, F, []⟩ := by unfold tkS; simp [hp, b2]
    have hsz := line_size (hdF ++ F) (sgT L)
    rw [pz_line (hd_nl.2.2.2.2.1.app (pr_nl hF)) ec, es]
    rw [pz_signs L k 5 _ (by omega) (by omega) (by simpa using hL)]
    rfl
theorem back_form (P : ByteArray) (D : Nat → Int) (z : Int) (fr : Nat → ByteArray) (nr : Nat) (F : ByteArray) (fs : Nat → ByteArray) (ns : Nat) (h : ckC P z fr nr F fs ns = 0) :
    PZ (prT P D z fr nr F fs ns) = (backS P D z fr nr F fs ns, 0, 0) := by
  obtain ⟨u, hs⟩ := orC_0 h
  obtain ⟨hP, u⟩ := orC_0 u
  obtain ⟨hz, u⟩ := orC_0 u
  obtain ⟨hr, hF⟩ := orC_0 u
  have hs' : ssOk fs ns := by
    unfold ssC at hs
    split at hs
    · assumption
    · cases hs
  have hz0 : 0 ≤ z := by
    unfold szC at hz
    split at hz
    · rename_i g; exact g.1
    · cases hz
  obtain ⟨p1, p2⟩ := rp_back (h := hdP) hP
  have d1 := rh_back0 D
  obtain ⟨z1, z2⟩ := rz_back hz
  obtain ⟨r1, r2, r3⟩ := rr_back hr
  unfold PZ
  rw [prT_lines]
  have n0 := line_size (hdP ++ P) ((hdH ++ b32Str (strFn 32 D)) ++ nl ++ ((hdZ ++ itB z) ++ nl ++ ((hdR ++ bsS fr nr) ++ nl ++ tailT F ((List.range ns).map fs))))
  have n1 := line_size (hdH ++ b32Str (strFn 32 D)) ((hdZ ++ itB z) ++ nl ++ ((hdR ++ bsS fr nr) ++ nl ++ tailT F ((List.range ns).map fs)))
  have n2 := line_size (hdZ ++ itB z) ((hdR ++ bsS fr nr) ++ nl ++ tailT F ((List.range ns).map fs))
  have n3 := line_size (hdR ++ bsS fr nr) (tailT F ((List.range ns).map fs))
  obtain ⟨m, hm, hlt⟩ : ∃ m, ((hdP ++ P) ++ nl ++ ((hdH ++ b32Str (strFn 32 D)) ++ nl ++ ((hdZ ++ itB z) ++ nl ++ ((hdR ++ bsS fr nr) ++ nl ++ tailT F ((List.range ns).map fs))))).size + 1 = m + 1 + 1 + 1 + 1 ∧ (tailT F ((List.range ns).map fs)).size < m := ⟨(hdP ++ P).size + (hdH ++ b32Str (strFn 32 D)).size + (hdZ ++ itB z).size + (hdR ++ bsS fr nr).size + (tailT F ((List.range ns).map fs)).size + 1, by rw [n0, n1, n2, n3]; omega, by omega⟩
  rw [hm]
  have t0 : tkS IS.zero 0 (hdP ++ P) = ⟨P, fun _ => 0, 0, [], ⟨#[]⟩, []⟩ := by show IS.mk (rpS (hdP ++ P) hdP) _ _ _ _ _ = _; rw [p2]; rfl
  rw [pz_line (hd_nl.1.app (pr_nl hP)) (by exact p1), t0]
  rw [pz_line (hd_nl.2.1.app (b32_nl _)) (by exact d1)]
  have t1 : tkS ⟨P, fun _ => 0, 0, [], ⟨#[]⟩, []⟩ (0 + 1) (hdH ++ b32Str (strFn 32 D)) = ⟨P, rhD (hdH ++ b32Str (strFn 32 D)), 0, [], ⟨#[]⟩, []⟩ := rfl
  rw [t1, pz_line (hd_nl.2.2.1.app (itB_nl hz0)) (by exact z1)]
  have t2 : tkS ⟨P, rhD (hdH ++ b32Str (strFn 32 D)), 0, [], ⟨#[]⟩, []⟩ (0 + 1 + 1) (hdZ ++ itB z) = ⟨P, rhD (hdH ++ b32Str (strFn 32 D)), z, [], ⟨#[]⟩, []⟩ := by show IS.mk _ _ (rzV (hdZ ++ itB z)) _ _ _ = _; rw [z2]
  rw [t2, pz_line r3 (by exact r1)]
  have t3 : tkS ⟨P, rhD (hdH ++ b32Str (strFn 32 D)), z, [], ⟨#[]⟩, []⟩ (0 + 1 + 1 + 1) (hdR ++ bsS fr nr) = ⟨P, rhD (hdH ++ b32Str (strFn 32 D)), z, (List.range nr).map fr, ⟨#[]⟩, []⟩ := by show IS.mk _ _ _ (rrL (hdR ++ bsS fr nr)) _ _ = _; rw [r2]
  rw [t3]
  exact tail_back m hlt hF (ssOk_range hs')

end Go.Proofs.YtgnlkggodchlbabDoor
