/- Items behind items; a list compared without a trace. -/
import Derived.Test.YtjlbbnjcdickgaaWqA
import Derived.Test.YtjlbbnjcdickgaaWbA
import Derived.Deep.AppendLies
import Derived.Laws.OwnMore
import Derived.Lib.Strings
import Derived.Deep.QuietTactic
import Derived.BigQuiet
namespace Go.Proofs.Ytjlbbnjcdickgaa
open Go.RowKit

theorem ext_ba (l : List UInt8) (a b : Nat) : (ba l).extract a b = ba ((l.drop a).take (b - a)) := Go.Lib.extract_eq (ba l) a b

theorem wpList_append_li {w : World} {ops : Array Oper} {rest : List Oper} {o : Oper} {a : Act} {Q : Exit → Act → World → Prop} (hgd : o.guard = none) (s x : Operand)
    (ho : o.op = .call { callee := .builtin .append, args := #[s, x], argTypes := #[28, 28] }) (v u v' : Value) (w' : World) (hs : a.eval s = v) (hx : a.eval x = u)
    (hr : (Builtin.append_ #[28, 28] o.type #[v, u]).run Try.prog w = .ok v' w') (h : wpList Try.prog ops Q rest (a.put o.dst v') w') : wpList Try.prog ops Q (o :: rest) a w := by
  refine wpList_plain hgd fun K hK' => ?_
  unfold Oper.wp
  simp [execOp, ho, resolve, invoke, builtin, hs, hx, hr, Result.andThen]
  exact hK' _ _ h

/-- Items behind items. -/
theorem append_items (w : World) (ty : TypeId) (B B2 : Nat) (v r : Value) (P L : List It) (O : OwnI w B v P) (O2 : OwnI w B2 r L) (hB : B ≤ w.heap.size) (hn : P.length + L.length ≤ 1073741824) :
    ∃ v' w', (Builtin.append_ #[28, 28] ty #[v, r]).run Try.prog w = .ok v' w' ∧ OwnI w' B v' (P ++ L) ∧ w.grownBy w' v.ownBlock ∧ (∀ k, v'.ownBlock = some k → v.ownBlock = some k ∨ k = w.heap.size) := by
  obtain ⟨i0, hi, hz0, hz1, hz2⟩ := info_parts info_it
  obtain ⟨hl2, ⟨rfl, hn0⟩ | ⟨g, cap, cur, rfl, hb, hg, hnc, hcm, hcs, htake⟩⟩ := O2
  · have e : L = [] := List.eq_nil_of_length_eq_zero hn0
    subst e
    have hr := run_append_owned_none (P := Try.prog) w B 28 ty 71 i0 3 Try.underlying28 hi v P.length (P.flatMap itC) O
    exact ⟨v, w, hr, by rw [List.append_nil]; exact O, ⟨rfl, rfl, rfl, Nat.le_refl _, fun _ _ _ => rfl⟩, fun k h => .inl h⟩
  · have hnews : ∀ j u, (L.flatMap itC)[j]? = some u → w.cell? ((⟨g, 0, none⟩ : Addr).add j) = some u := fun j u hj => by
      rw [Addr.add_lit, Nat.zero_add, cell_of_row w g j cur 71 (0, 0) hg]
      have hjl : j < L.length * 3 := by have := (List.getElem?_eq_some_iff.1 hj).1; rw [hl2] at this; exact this
      rw [← htake, List.getElem?_take, if_pos hjl] at hj
      simpa using hj
    have h1 : ∀ u ∈ L.flatMap itC, u.oneCell' = true := fun u hu => by
      obtain ⟨i, _, hi⟩ := List.mem_flatMap.1 hu
      simp [itC] at hi
      rcases hi with rfl | rfl | rfl <;> rfl
    have fin : ∀ v' w', World.ownsRow w' B 71 3 v' (P.length + L.length) (P.flatMap itC ++ L.flatMap itC) → OwnI w' B v' (P ++ L) := fun v' w' h => by
      unfold OwnI
      rw [List.length_append, List.flatMap_append]
      exact h
    by_cases hm : 0 < L.length
    · obtain ⟨g', cap', w', hr, ho, hgr, hw, -⟩ := run_append_lies (P := Try.prog) w 28 ty B 71 i0 (.agg #[.bool false, .int .u64 0, .string ByteArray.empty]) 3 32 Try.underlying28 hi hz0 hz1 hz2 rfl (by decide) v P.length (P.flatMap itC) O ⟨g, 0, none⟩ L.length cap (L.flatMap itC) hl2 hnews h1 hm (by unfold maxLen; omega) (by omega) hB w.heap.size rfl
      refine ⟨_, w', hr, fin _ _ ho, hgr, fun k hk => ?_⟩
      have e : g' = k := by simpa [Value.ownBlock] using hk
      subst e
      exact hw
    · have hL0 : L.length = 0 := by omega
      obtain ⟨hl1, ⟨rfl, hp0⟩ | ⟨g1, cap1, cur1, rfl, hb1, hg1, hnc1, hcm1, hcs1, ht1⟩⟩ := id O
      · obtain ⟨v', w', hr, ho, hgr, hiff⟩ := run_append_own (P := Try.prog) w B 28 ty 71 i0 (.agg #[.bool false, .int .u64 0, .string ByteArray.empty]) 3 32 Try.underlying28 hi hz0 hz1 hz2 rfl (by decide) (.slice none 0 0) P.length (P.flatMap itC) O ⟨g, 0, none⟩ L.length cap (L.flatMap itC) hl2 hnews h1 (by unfold maxLen; omega) (by omega) hB
        have e := hiff.2 ⟨rfl, hL0⟩
        subst e
        exact ⟨_, w', hr, fin _ _ ho, hgr, fun k hk => by cases hk⟩
      · obtain ⟨w', hr, ho, hgr⟩ := run_append_fits (P := Try.prog) w B 28 ty 71 i0 3 Try.underlying28 hi hz1 g1 P.length cap1 (P.flatMap itC) O ⟨g, 0, none⟩ L.length cap (L.flatMap itC) hl2 hnews h1 (by omega)
        exact ⟨_, w', hr, fin _ _ ho, hgr, fun k hk => .inl hk⟩

set_option maxHeartbeats 2000000 in
theorem alike_q (r v : Value) (L : List It) (w : World) (O : ItRow w r L) (O2 : ItRow w v L) (hlen : L.length ≤ 1073741824) :
    Calls Try.prog 26 #[r, v] w fun e w' => e = .returned (.bool true) ∧ ∃ q, w' = w.drewN q := by
  obtain ⟨x, cap, rfl, hx⟩ := O.ex
  obtain ⟨y, cap2, rfl, hy⟩ := O2.ex
  have HX : Hid _ := hx
  have HY : Hid _ := hy
  clear hx hy O O2
  go_enter Try.func26, Try.ntmps26
  go_wp2
  go_loopw [5, 13] (fun _ ix wr => ∃ k : Nat, k ≤ L.length ∧ ix = .int .i64 k ∧ Hid (∃ q, wr = w.drewN q)) (fun _ i _ => L.length - (intOf i).toNat)
  case atStart => exact ⟨0, Nat.zero_le _, rfl, 0, rfl⟩
  case round =>
    obtain ⟨k, hk, rfl, hB⟩ := hrel
    by_cases hlt : k < L.length
    · obtain ⟨g, o, rfl, hg, c0, c1, c2⟩ := HX.out k hlt
      obtain ⟨f, q, rfl, hf, p0, p1, p2⟩ := HY.out k hlt
      have HC : Hid (∀ p, wr.cell? p = w.cell? p) := fun p => by obtain ⟨q, rfl⟩ := hB.out; rfl
      have d0 : wr.cell? ⟨g, o + k * 3, none⟩ = _ := (HC.out _).trans c0
      have d1 : wr.cell? ⟨g, o + k * 3 + 1, none⟩ = _ := (HC.out _).trans c1
      have d2 : wr.cell? ⟨g, o + k * 3 + 2, none⟩ = _ := (HC.out _).trans c2
      have q0 : wr.cell? ⟨f, q + k * 3, none⟩ = _ := (HC.out _).trans p0
      have q1 : wr.cell? ⟨f, q + k * 3 + 1, none⟩ = _ := (HC.out _).trans p1
      have q2 : wr.cell? ⟨f, q + k * 3 + 2, none⟩ = _ := (HC.out _).trans p2
      generalize L[k] = it at *
      clear c0 c1 c2 p0 p1 p2 HC
      go_wp2
      go_region
      go_wp2
      go_roundw
      case rel => exact ⟨k + 1, by omega, by go_num, by obtain ⟨q, rfl⟩ := hB.out; exact ⟨q + 1, rfl⟩⟩
      case measure => simp [intOf]; omega
    · obtain rfl : k = L.length := by omega
      go_wp2
      go_ret
      exact ⟨rfl, hB.out⟩

end Go.Proofs.Ytjlbbnjcdickgaa
