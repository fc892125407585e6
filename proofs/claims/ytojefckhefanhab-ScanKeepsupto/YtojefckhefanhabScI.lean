/- slices.Clone at []int, walked (own text of the verifier). -/
import Derived.Test.YtojefckhefanhabScH
namespace Go.Proofs.Ytojefckhefanhab
open Go.RowKit
namespace Sc

set_option maxRecDepth 100000 in
set_option maxHeartbeats 8000000 in
theorem cloneI_any (a : Addr) (n c : Nat) (l : List Nat) (w : World) (hl : l.length = n) (hb : n ≤ 536870912) (hc : ∀ j x : Nat, l[j]? = some x → w.cell? (a.add j) = some (.int .i64 (x : Int))) :
    Calls Try.prog 28 #[.slice (some a) n c] w fun e w' => ∃ v', e = .returned v' ∧ w'.ownsRow w.heap.size 3 1 v' n (pv_ l) ∧ Below w.heap.size w w' := by
  have HC : Hid (∀ j x : Nat, l[j]? = some x → w.cell? (a.add j) = some (.int .i64 (x : Int))) := hc
  clear hc
  have hq : ∀ (w : World) (a : Option Addr) (n c n' c' : Nat), (binOp .eql 35 (.slice a n c) (.slice none n' c')).run Try.prog w = .ok (.bool a.isNone) w := fun w a n c n' c' => Lib.run_eql_slice_nil w _ _ a n c n' c' und41
  obtain ⟨i0, hi, hz0, hz1, hz2⟩ := info_parts info3
  go_enter Try.func28, Try.ntmps28
  go_wp2_with (at_builtin; refine wpList_append_own _ rfl _ _ 35 rfl w.heap.size 3 i0 (.int .i64 0) 1 8 und41 hi hz0 hz1 hz2 rfl (by decide) _ _ _ rfl (World.ownsRow_made w #[] 0 (Nat.le_refl _) (Nat.zero_le _) rfl) a n c (pv_ l) rfl ?q1 ?q2 ?q3 ?q4 ?q5 ?q6 ?_)
  case q1 => rw [Nat.mul_one]; unfold pv_; rw [List.length_map]; exact hl
  case q2 =>
    intro j u hj
    unfold pv_ at hj
    rw [List.getElem?_map] at hj
    obtain ⟨x, hx, rfl⟩ := Option.map_eq_some_iff.1 hj
    exact Lib.cell?_alloc_some _ (HC.out j x hx)
  case q3 => intro u hu; unfold pv_ at hu; obtain ⟨x, _, rfl⟩ := List.mem_map.1 hu; rfl
  case q4 => unfold maxLen; omega
  case q5 => omega
  case q6 => simp
  intro v' w1 hown hgrow hnil
  go_wp2
  go_ret
  exact ⟨v', rfl, by simpa using hown, ((Below.refl _ w).alloc (Nat.le_refl _) _).grown hgrow (by simp) (by intro k hk; simp [Value.ownBlock] at hk; omega)⟩
theorem cloneI_nil (n c : Nat) (w : World) : Calls Try.prog 28 #[.slice none n c] w fun e w' => e = .returned (.slice none 0 0) ∧ w' = w := by
  have hq : ∀ (w : World) (a : Option Addr) (n c n' c' : Nat), (binOp .eql 35 (.slice a n c) (.slice none n' c')).run Try.prog w = .ok (.bool a.isNone) w := fun w a n c n' c' => Lib.run_eql_slice_nil w _ _ a n c n' c' und41
  go_enter Try.func28, Try.ntmps28
  go_wp2
  go_ret
  exact ⟨rfl, rfl⟩

set_option maxRecDepth 100000 in
set_option maxHeartbeats 8000000 in
theorem rplaces_any (g n : Nat) (f t kept : List UInt8) (Ps : List Nat) (cl : Bool) (pv : Value) (w : World) (hR : RM w g n kept f t Ps cl pv) (hps : Ps.length ≤ 536870912) :
    Calls Try.prog 12 #[.pointer (some ⟨g, 0, none⟩)] w fun e w' => ∃ v', e = .returned v' ∧ w'.ownsRow w.heap.size 3 1 v' Ps.length (pv_ Ps) ∧ Below w.heap.size w w' := by
  have c35 := hR.cp
  rcases hR.pr with ⟨hl, ⟨hv, h0⟩ | ⟨b, cap, cur, hv, _, hb, h1, _, h3, h4⟩⟩
  · have CC := cloneI_nil 0 0 w
    rw [hv] at c35
    clear hR
    go_enter Try.func12, Try.ntmps12
    go_wp2_with fail
    with_reducible refine CC.mono ?_
    rintro e w' ⟨rfl, rfl⟩
    go_wp2
    go_ret
    exact ⟨_, rfl, ⟨hl, .inl ⟨rfl, h0⟩⟩, Below.refl _ _⟩
  · have CC := cloneI_any ⟨b, 0, none⟩ Ps.length cap Ps w rfl hps (fun j x hj => by
      have hk : cur.toList[j]? = some (.int .i64 (x : Int)) := by
        have hlt : j < Ps.length := (List.getElem?_eq_some_iff.1 hj).1
        have : (cur.toList.take (Ps.length * 1))[j]? = (pv_ Ps)[j]? := by rw [h4]
        rw [List.getElem?_take, if_pos (by omega)] at this
        rw [this]; unfold pv_; rw [List.getElem?_map, hj]; rfl
      rw [Addr.add_lit, Nat.zero_add, Lib.cell_of_heap hb]
      simpa using hk)
    rw [hv] at c35
    clear hR h4
    go_enter Try.func12, Try.ntmps12
    go_wp2_with fail
    with_reducible refine CC.mono ?_
    rintro e w' ⟨v', rfl, ho, hB⟩
    go_wp2
    go_ret
    exact ⟨v', rfl, ho, hB⟩

end Sc
end Go.Proofs.Ytojefckhefanhab
