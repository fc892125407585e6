/- Gathered: IpH. -/
import Derived.Test.YtgnlkggodchlbabDoorQj
/- What Check takes is printed and read again; plain. -/
namespace Go.Proofs.YtgnlkggodchlbabDoor
open Go.RowKit Go.Shelf

theorem line_size (l r : ByteArray) : (l ++ nl ++ r).size = l.size + 1 + r.size := by rw [ByteArray.size_append, ByteArray.size_append]; rfl
theorem pz_line {k n : Nat} {s : IS} {l r : ByteArray} (hl : NoNl l) (hc : tkC s n l = 0) : pz (k + 1) (l ++ nl ++ r) n s = pz k r (n + 1) (tkS s n l) := by
  obtain ⟨a, b, c⟩ := ct_line l r hl
  have hd : ¬ (4 ≤ n ∧ (l ++ nl ++ r).size = 0) := fun h => by have := line_size l r; omega
  have := pz_next (k := k) (s := s) hd c (by rw [a]; exact hc)
  rw [a, b] at this
  exact this
/-- The lines of signatures. -/
def sgT : List ByteArray → ByteArray
  | [] => ⟨#[]⟩
  | x :: r => hdS ++ x ++ nl ++ sgT r
theorem sgT_snoc (L : List ByteArray) (x : ByteArray) : sgT (L ++ [x]) = sgT L ++ hdS ++ x ++ nl := by
  induction L with
  | nil => show hdS ++ x ++ nl ++ (⟨#[]⟩ : ByteArray) = (⟨#[]⟩ : ByteArray) ++ hdS ++ x ++ nl; rw [app_emp]; rw [show (⟨#[]⟩ : ByteArray) = emp from rfl, emp_app]
  | cons a r ih => show hdS ++ a ++ nl ++ sgT (r ++ [x]) = hdS ++ a ++ nl ++ sgT r ++ hdS ++ x ++ nl; rw [ih]; simp [ByteArray.append_assoc]
theorem ptS_list (T : ByteArray) (f : Nat → ByteArray) (n : Nat) : ptS T f n = T ++ sgT ((List.range n).map f) := by
  induction n with
  | zero => show T = T ++ (⟨#[]⟩ : ByteArray); exact (app_emp T).symm
  | succ n ih =>
    rw [List.range_succ, List.map_append, List.map_cons, List.map_nil, sgT_snoc]
    show ptS T f n ++ hdS ++ f n ++ nl = _
    rw [ih]
    simp [ByteArray.append_assoc]
theorem hpQ_SF (x : ByteArray) : hpQ (hdS ++ x) hdF = false := by
  unfold hpQ
  rw [show hdF.size = hdS.size from rfl, app_left, show (hdS.toList == hdF.toList) = false from by decide +kernel, Bool.and_false]
theorem pz_signs : ∀ (L : List ByteArray) (k n : Nat) (s : IS), (sgT L).size < k → 4 ≤ n → ssOk (Sq.nth (s.S ++ L)) (s.S ++ L).length → pz k (sgT L) n s = ({ s with S := s.S ++ L }, 0, 0)
  | [], k, n, s, hk, hn, _ => by
    obtain ⟨k, rfl⟩ : ∃ m, k = m + 1 := ⟨k - 1, by omega⟩
    rw [pz_done ⟨hn, rfl⟩, List.append_nil]
  | x :: r, k, n, s, hk, hn, hok => by
    obtain ⟨k, rfl⟩ : ∃ m, k = m + 1 := ⟨k - 1, by omega⟩
    have hlen : (s.S ++ x :: r).length = s.S.length + (r.length + 1) := by rw [List.length_append, List.length_cons]
    have h1 := hok s.S.length (by omega)
    have ex : Sq.nth (s.S ++ x :: r) s.S.length = x := by unfold Sq.nth; simp [List.getD]
    have el : ∀ j, j < s.S.length → Sq.nth (s.S ++ x :: r) j = Sq.nth s.S j := fun j hj => by unfold Sq.nth; simp [List.getD, List.getElem?_append_left hj]
    rw [ex] at h1
    have hnx : nxC (Sq.nth s.S) s.S.length x = 0 := nxC_yes h1.1 (fun h0 => by have := h1.2 h0; rw [el _ (by omega)] at this; exact this)
    obtain ⟨b1, b2⟩ := rs_back hnx
    have h4 : ¬ (n = 4 ∧ hpQ (hdS ++ x) hdF = true) := fun c => by rw [hpQ_SF] at c; exact absurd c.2 (by decide)
    have ec : tkC s n (hdS ++ x) = 0 := by unfold tkC; rw [if_neg (by omega), if_neg (by omega), if_neg (by omega), if_neg (by omega), if_neg h4]; exact b1
    have es : tkS s n (hdS ++ x) = { s with S := s.S ++ [x] } := by unfold tkS; rw [if_neg (by omega), if_neg (by omega), if_neg (by omega), if_neg (by omega), if_neg h4, b2]
    have hsz : (sgT (x :: r)).size = (hdS ++ x).size + 1 + (sgT r).size := line_size (hdS ++ x) (sgT r)
    show pz (k + 1) (hdS ++ x ++ nl ++ sgT r) n s = _
    rw [pz_line (hd_nl.2.2.2.2.2.1.app (sn_nl h1.1)) ec, es]
    have := pz_signs r k (n + 1) { s with S := s.S ++ [x] } (by omega) (by omega) (by
      show ssOk (Sq.nth (s.S ++ [x] ++ r)) (s.S ++ [x] ++ r).length
      rw [List.append_assoc]; exact hok)
    rw [this]
    show ({ s with S := s.S ++ [x] ++ r }, _, _) = _
    rw [List.append_assoc]
    rfl

end Go.Proofs.YtgnlkggodchlbabDoor
