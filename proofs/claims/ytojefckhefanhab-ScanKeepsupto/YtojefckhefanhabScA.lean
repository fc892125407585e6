/- scan.slide, walked (own text of the verifier). -/
import Derived.Test.YtojefckhefanhabPtV
import Derived.Test.YtojefckhefanhabScR
namespace Go.Proofs.Ytojefckhefanhab
namespace Sc
open Go.RowKit

/-- A letter of a hash. -/
def Lt (b : UInt8) : Prop := 0 ≤ vl (b.toNat : Int)
/-- The value is a slice of these bytes. -/
def Txt (W : World) (v : Value) (l : List UInt8) : Prop := ∃ x c, v = .slice x l.length c ∧ (∀ i b, l[i]? = some b → ∃ a o, x = some ⟨a, o, none⟩ ∧ W.cell? ⟨a, o + i, none⟩ = some (.int .u8 (b.toNat : Int))) ∧ l.length ≤ c

set_option maxRecDepth 100000 in
set_option maxHeartbeats 4000000 in
theorem slide_any (k : FuncId) (caps : Array Value) (he : ∀ args w, (callFunc k args).run Try.prog w = .ok (.enter k args) w) (v : Value) (l : List UInt8) (J : Nat → World → Prop) (hJt : ∀ p W, J p W → Txt W v l) (hl : l.length ≤ 1073741824)
    (hbad : ∀ p W, J p W → p < l.length → bad Lt l p → J (p + 1) W)
    (hlook : ∀ p W, J p W → p + 32 ≤ l.length → (∀ i, i < 32 → ∃ b, l[p + i]? = some b ∧ Lt b) → Calls Try.prog k (#[.int .i64 (p : Int)] ++ caps) W fun e W' => ∃ s : Nat, (s = 1 ∨ s = 32) ∧ e = .returned (.int .i64 (s : Int)) ∧ J (p + s) W')
    (w : World) (h0 : J 0 w) :
    Calls Try.prog 17 #[v, .func (.func k) #[] caps] w fun e w' => ∃ r : Nat, r ≤ l.length ∧ l.length < r + 32 ∧ e = .returned (.int .i64 (r : Int)) ∧ J r w' := by
  obtain ⟨x, c, rfl, _⟩ := hJt 0 w h0
  have HJ0 : Hid (J 0 w) := h0
  clear h0
  go_enter Try.func17, Try.ntmps17
  go_wp2
  go_step3
  go_wp2
  go_step3
  go_wp2
  go_loopw [5, 6] (fun av sv wr => ∃ at_ seen : Nat, av = .int .i64 (at_ : Int) ∧ sv = .int .i64 (seen : Int) ∧ at_ ≤ seen ∧ seen ≤ l.length ∧ seen ≤ at_ + 32 ∧ (∀ i, at_ ≤ i → i < seen → ∃ b, l[i]? = some b ∧ Lt b) ∧ Hid (J at_ wr)) (fun av _ _ => l.length - (intOf av).toNat)
  case atStart => exact ⟨0, 0, rfl, rfl, Nat.le_refl _, Nat.zero_le _, by omega, fun i h1 h2 => by omega, HJ0.out⟩
  case round =>
    obtain ⟨at_, seen, rfl, rfl, h1, h2, h2', hL, HJ⟩ := hrel
    clear HJ0
    by_cases hlt : at_ + 32 ≤ l.length
    · have e1 : (at_ : Int) + 32 ≤ (l.length : Int) := by omega
      obtain ⟨x', c', hx', hc', _⟩ := hJt _ _ HJ.out
      obtain ⟨rfl, rfl⟩ : x' = x ∧ c' = c := by injection hx' with a1 a2 a3; exact ⟨a1.symm, a3.symm⟩
      have HC : Hid (∀ i b, l[i]? = some b → ∃ a o, x' = some ⟨a, o, none⟩ ∧ wr.cell? ⟨a, o + i, none⟩ = some (.int .u8 (b.toNat : Int))) := hc'
      clear hx' hc'
      go_wp2
      go_loop [5, 6, 8] (fun av sv iv => ∃ m : Nat, av = .int .i64 (at_ : Int) ∧ sv = .int .i64 (seen : Int) ∧ iv = .int .i64 ((m : Int) - 1) ∧ seen ≤ m ∧ m ≤ at_ + 32 ∧ (∀ i, m ≤ i → i < at_ + 32 → ∃ b, l[i]? = some b ∧ Lt b)) (fun _ _ iv => (intOf iv + 1).toNat)
      case atStart => exact ⟨at_ + 32, rfl, rfl, by go_num, by omega, Nat.le_refl _, fun i a b => by omega⟩
      case round =>
        obtain ⟨m, rfl, rfl, rfl, h3, h4, hM⟩ := hrel
        by_cases hm : seen < m
        · obtain ⟨q, rfl⟩ : ∃ q, m = q + 1 := ⟨m - 1, by omega⟩
          obtain ⟨b, hb⟩ : ∃ b, l[q]? = some b := ⟨_, List.getElem?_eq_getElem (by omega)⟩
          obtain ⟨a, o, rfl, c0⟩ := HC.out q b hb
          have hb2 : b.toNat < 256 := b.toNat_lt
          have CV := value_any (b.toNat : Int) wr
          have b1 : (seen : Int) ≤ (q : Int) := by omega
          have b2 : (q : Int) < (l.length : Int) := by omega
          have b3 : q < l.length := by omega
          have b4 : ((q + 1 : Nat) : Int) - 1 = (q : Int) := by omega
          rw [b4]
          clear b4
          go_wp2_with fail
          refine CV.mono ?_
          rintro e w2 ⟨rfl, rfl⟩
          by_cases hv : vl (b.toNat : Int) < 0
          · have HQ : Hid (J (q + 1) w2) := by
              have key : ∀ n, at_ + n ≤ q + 1 → J (at_ + n) w2 := by
                intro n
                induction n with
                | zero => intro _; exact HJ.out
                | succ n ih =>
                  intro hn
                  exact hbad (at_ + n) w2 (ih (by omega)) (by omega) ⟨q, b, by omega, by omega, hb, fun h => by unfold Lt at h; omega⟩
              have := key (q + 1 - at_) (by omega)
              rw [show at_ + (q + 1 - at_) = q + 1 by omega] at this
              exact this
            go_wp2
            go_roundw
            case rel => exact ⟨q + 1, at_ + 32, by go_num, by go_num, by omega, by omega, by omega, fun i g1 g2 => hM i g1 g2, HQ.out⟩
            case measure => simp [intOf]; omega
          · have hv' : ¬ vl (b.toNat : Int) < 0 := hv
            go_wp2
            go_round
            case rel => exact ⟨q, rfl, rfl, by go_num, by omega, by omega, fun i g1 g2 => by
              by_cases e : i = q
              · subst e; exact ⟨b, hb, by unfold Lt; omega⟩
              · exact hM i (by omega) g2⟩
            case measure => simp [intOf]
        · obtain rfl : m = seen := by omega
          have CL := hlook at_ wr HJ.out hlt (fun i hi => by
            by_cases e : at_ + i < m
            · exact hL _ (by omega) e
            · exact hM _ (by omega) (by omega))
          have b1 : ¬ (m : Int) ≤ (m : Int) - 1 := by omega
          go_wp2_with fail
          refine CL.mono ?_
          rintro e w3 ⟨s, hs, rfl, HJ3⟩
          have HJ4 : Hid (J (at_ + s) w3) := HJ3
          have s1 : s ≤ 32 := by omega
          have s2 : 1 ≤ s := by omega
          clear CL HJ3 hs
          go_wp2
          go_roundw
          case rel => exact ⟨at_ + s, at_ + 32, by go_num, by go_num, by omega, by omega, by omega, fun i g1 g2 => by
            by_cases e : i < m
            · exact hL i (by omega) e
            · exact hM i (by omega) g2, HJ4.out⟩
          case measure => simp [intOf]; omega
    · have e1 : ¬ (at_ : Int) + 32 ≤ (l.length : Int) := by omega
      go_wp2
      go_ret
      exact ⟨at_, by omega, by omega, rfl, HJ.out⟩

end Sc
end Go.Proofs.Ytojefckhefanhab
