/- A table's nodes (string keys): balanced and with, walked. -/
import Derived.Test.YtbdnniaajiiimaaTbQ
import Derived.Test.YtbdnniaajiiimaaTfS
import Derived.Test.YtbdnniaajiiimaaTgS
import Derived.Test.YtbdnniaajiiimaaThS
import Derived.Test.YtbdnniaajiiimaaTiS
namespace Go.Proofs.Ytbdnniaajiiimaa
namespace TS
open Go.RowKit

theorem balanced_any (k : ByteArray) (v : Int) (s0 : Nat) (l0 r0 l r : BT ByteArray) (p pl pr : Option Addr) (w : World) (h : Tr w (.N k v s0 l0 r0) p) (hl : Tr w l pl) (hr : Tr w r pr) (hlo : l.Ok) (hro : r.Ok) (hc : l.cnt + 1 + r.cnt ≤ 1152921504606846976) :
    Calls Try.prog 28 #[.pointer p, .pointer pl, .pointer pr] w fun e w' => (∃ q, e = .returned (.pointer q) ∧ Tr w' (BT.bal k v l r) q) ∧ Below w.heap.size w w' := by
  unfold BT.bal
  by_cases g1 : 3 * (l.cnt + 1) < r.cnt + 1
  · rw [if_pos g1]
    cases r with
    | E => exfalso; simp [BT.cnt] at g1
    | N rk rv rs rl rr =>
      obtain ⟨e1, o1, o2⟩ := hro
      show Calls Try.prog 28 #[.pointer p, .pointer pl, .pointer pr] w fun e w' => (∃ q, e = .returned (.pointer q) ∧ Tr w' (if 2 * (rr.cnt + 1) ≤ rl.cnt + 1 then BT.inR k v l rk rv rr rl else BT.bet rk rv (BT.bet k v l rl) rr) q) ∧ Below w.heap.size w w'
      by_cases g : 2 * (rr.cnt + 1) ≤ rl.cnt + 1
      · rw [if_pos g]
        cases rl with
        | E => exfalso; simp only [BT.cnt] at g; omega
        | N ik iv is il ir =>
          obtain ⟨e2, _, _⟩ := o1
          exact bal_R2 k v s0 l0 r0 l rk rv rs ik iv is il ir rr p pl pr w h hl hr e1 e2 hc g1 g
      · rw [if_neg g]
        exact bal_R1 k v s0 l0 r0 l rk rv rs rl rr p pl pr w h hl hr e1 hc g1 g
  · rw [if_neg g1]
    by_cases g2 : 3 * (r.cnt + 1) < l.cnt + 1
    · rw [if_pos g2]
      cases l with
      | E => exfalso; simp [BT.cnt] at g2
      | N lk lv ls ll lr =>
        obtain ⟨e1, o1, o2⟩ := hlo
        show Calls Try.prog 28 #[.pointer p, .pointer pl, .pointer pr] w fun e w' => (∃ q, e = .returned (.pointer q) ∧ Tr w' (if 2 * (ll.cnt + 1) ≤ lr.cnt + 1 then BT.inL k v r lk lv ll lr else BT.bet lk lv ll (BT.bet k v lr r)) q) ∧ Below w.heap.size w w'
        by_cases g : 2 * (ll.cnt + 1) ≤ lr.cnt + 1
        · rw [if_pos g]
          cases lr with
          | E => exfalso; simp only [BT.cnt] at g; omega
          | N ik iv is il ir =>
            obtain ⟨e2, _, _⟩ := o2
            exact bal_L2 k v s0 l0 r0 lk lv ls ll ik iv is il ir r p pl pr w h hl hr e1 e2 hc g2 g
        · rw [if_neg g]
          exact bal_L1 k v s0 l0 r0 lk lv ls ll lr r p pl pr w h hl hr e1 hc g2 g
    · rw [if_neg g2]
      exact bal_none k v s0 l0 r0 l r p pl pr w h hl hr hc g1 g2

theorem wth_l {k nk : ByteArray} {v nv : Int} {s : Nat} {l r : BT ByteArray} (h : ltK k nk = true) : BT.wth ltK k v (.N nk nv s l r) = BT.bal nk nv (BT.wth ltK k v l) r := by rw [BT.wth, if_pos h]
theorem wth_r {k nk : ByteArray} {v nv : Int} {s : Nat} {l r : BT ByteArray} (h : ltK k nk = false) (g : ltK nk k = true) : BT.wth ltK k v (.N nk nv s l r) = BT.bal nk nv l (BT.wth ltK k v r) := by rw [BT.wth, if_neg (by rw [h]; decide), if_pos g]
theorem wth_e {k nk : ByteArray} {v nv : Int} {s : Nat} {l r : BT ByteArray} (h : ltK k nk = false) (g : ltK nk k = false) : BT.wth ltK k v (.N nk nv s l r) = .N k v s l r := by rw [BT.wth, if_neg (by rw [h]; decide), if_neg (by rw [g]; decide)]

set_option maxHeartbeats 4000000 in
theorem with_any (k : ByteArray) (v : Int) (t : BT ByteArray) : ∀ (p : Option Addr) (w : World), Tr w t p → t.Ok → t.cnt + 1 ≤ 1152921504606846976 →
    Calls Try.prog 18 #[.pointer p, Value.string k, .int .i64 v] w fun e w' => (∃ q, e = .returned (.pointer q) ∧ Tr w' (BT.wth ltK k v t) q) ∧ Below w.heap.size w w' := by
  induction t with
  | E =>
    intro p w h _ _
    obtain rfl : p = none := h
    have T1 : Hid (Tr (w.alloc (.cells #[Value.string k, .int .i64 v, .int .i64 ((1 : Nat) : Int), .pointer none, .pointer none] 60)) (.N k v 1 .E .E) (some ⟨w.heap.size, 0, none⟩)) := Tr.new (Below.refl _ _) rfl rfl
    have B1 : Hid (Below w.heap.size w (w.alloc (.cells #[Value.string k, .int .i64 v, .int .i64 ((1 : Nat) : Int), .pointer none, .pointer none] 60))) := (Below.refl _ _).alloc (Nat.le_refl _) _
    go_enter Try.func18, Try.ntmps18
    go_wp2
    go_ret
    exact ⟨⟨_, rfl, T1.out⟩, B1.out⟩
  | N nk nv s l r il ir =>
    intro p w h ho hc
    obtain ⟨hs, hlo, hro⟩ := ho
    have hsc : s + 1 ≤ 1152921504606846976 := hc
    have HSS : Hid (s = l.cnt + 1 + r.cnt) := hs
    have hlc : l.cnt + 1 + r.cnt + 1 ≤ 1152921504606846976 := by omega
    clear hs
    have H : Hid (Tr w (.N nk nv s l r) p) := h
    obtain ⟨g, pl, pr, rfl, c0, c1, c2, c3, c4, hl, hr⟩ := h
    have HL : Hid (Tr w l pl) := hl
    have HR : Hid (Tr w r pr) := hr
    have bd : Below w.heap.size w w.drew := (Below.refl _ _).drew
    have hgl : g < w.heap.size := World.block_lt_of_cell? _ _ c3
    cases hlt : ltK k nk
    · cases hgt : ltK nk k
      · have HW : Hid (BT.wth ltK k v (.N nk nv s l r) = .N k v s l r) := wth_e hlt hgt
        have L1 : Op.bytesLess k.toList nk.toList = false := hlt
        skip
        have L3 : Op.bytesLess nk.toList k.toList = false := hgt
        skip
        clear hl hr hc c1 hlt hgt il ir
        have T1 : Hid (Tr (w.drew.alloc (.cells #[Value.string k, .int .i64 v, .int .i64 (s : Int), .pointer pl, .pointer pr] 60)) (.N k v s l r) (some ⟨w.heap.size, 0, none⟩)) := Tr.new bd HL.out HR.out
        have B1 : Hid (Below w.heap.size w (w.drew.alloc (.cells #[Value.string k, .int .i64 v, .int .i64 (s : Int), .pointer pl, .pointer pr] 60))) := bd.alloc bd.size _
        go_enter Try.func18, Try.ntmps18
        go_wp2
        go_region
        all_goals go_wp2
        all_goals go_ret
        all_goals exact ⟨⟨_, rfl, by rw [HW.out]; exact T1.out⟩, B1.out⟩
      · have HW : Hid (BT.wth ltK k v (.N nk nv s l r) = BT.bal nk nv l (BT.wth ltK k v r)) := wth_r hlt hgt
        have L1 : Op.bytesLess k.toList nk.toList = false := hlt
        skip
        have L3 : Op.bytesLess nk.toList k.toList = true := hgt
        skip
        obtain ⟨o1, o2, o3⟩ := BT.wth_ok ltK k v r hro
        have IH := ir pr w.drew (hr.below bd (Nat.le_refl _)) hro (by omega)
        have CB : ∀ W q, Below w.heap.size w W → Tr W (BT.wth ltK k v r) q → Calls Try.prog 28 #[.pointer (some ⟨g, 0, none⟩), .pointer pl, .pointer q] W fun e w' => (∃ q, e = .returned (.pointer q) ∧ Tr w' (BT.bal nk nv l (BT.wth ltK k v r)) q) ∧ Below W.heap.size W w' := fun W q b tq =>
          balanced_any nk nv s l r l (BT.wth ltK k v r) _ pl q W (H.out.below b (Nat.le_refl _)) (HL.out.below b (Nat.le_refl _)) tq hlo o1 (by omega)
        clear hl hr hc c1 c2 hlt hgt il ir o1 o2 o3
        generalize BT.wth ltK k v r = R2 at HW IH CB
        go_enter Try.func18, Try.ntmps18
        go_wp2
        go_region_held3 (fun W => W.cell? ⟨g, 3, none⟩ = some (.pointer pl) ∧ W.cell? ⟨g, 4, none⟩ = some (.pointer pr))
          (first | go_keep | exact ⟨c3, c4⟩ | exact ⟨(b6.cell (p := ⟨g, 3, none⟩) hgl).trans c3, (b6.cell (p := ⟨g, 4, none⟩) hgl).trans c4⟩ | exact ⟨(b5.cell (p := ⟨g, 3, none⟩) hgl).trans c3, (b5.cell (p := ⟨g, 4, none⟩) hgl).trans c4⟩)
          (first
            | (have mk := t5; go_at_call 28; refine (CB w5 q5 b5 t5).mono ?_; rintro e6 w6 ⟨⟨q6, rfl, t6⟩, b60⟩; have b6 : Below w.heap.size w w6 := b5.trans (b60.mono b5.size))
            | (go_at_call 18; refine IH.mono ?_; rintro e5 w5 ⟨⟨q5, rfl, t5⟩, b50⟩; have b5 : Below w.heap.size w w5 := bd.trans (b50.mono bd.size)))
        all_goals go_wp2
        all_goals go_ret
        all_goals exact ⟨⟨_, rfl, by rw [HW.out]; exact t6⟩, b6⟩
    · have HW : Hid (BT.wth ltK k v (.N nk nv s l r) = BT.bal nk nv (BT.wth ltK k v l) r) := wth_l hlt
      have L1 : Op.bytesLess k.toList nk.toList = true := hlt
      skip
      obtain ⟨o1, o2, o3⟩ := BT.wth_ok ltK k v l hlo
      have IH := il pl w.drew (hl.below bd (Nat.le_refl _)) hlo (by omega)
      have CB : ∀ W q, Below w.heap.size w W → Tr W (BT.wth ltK k v l) q → Calls Try.prog 28 #[.pointer (some ⟨g, 0, none⟩), .pointer q, .pointer pr] W fun e w' => (∃ q, e = .returned (.pointer q) ∧ Tr w' (BT.bal nk nv (BT.wth ltK k v l) r) q) ∧ Below W.heap.size W w' := fun W q b tq =>
        balanced_any nk nv s l r (BT.wth ltK k v l) r _ q pr W (H.out.below b (Nat.le_refl _)) tq (HR.out.below b (Nat.le_refl _)) o1 hro (by omega)
      clear hl hr hc c1 c2 hlt il ir o1 o2 o3
      generalize BT.wth ltK k v l = L2' at HW IH CB
      go_enter Try.func18, Try.ntmps18
      go_wp2
      go_region_held3 (fun W => W.cell? ⟨g, 3, none⟩ = some (.pointer pl) ∧ W.cell? ⟨g, 4, none⟩ = some (.pointer pr))
        (first | go_keep | exact ⟨c3, c4⟩ | exact ⟨(b6.cell (p := ⟨g, 3, none⟩) hgl).trans c3, (b6.cell (p := ⟨g, 4, none⟩) hgl).trans c4⟩ | exact ⟨(b5.cell (p := ⟨g, 3, none⟩) hgl).trans c3, (b5.cell (p := ⟨g, 4, none⟩) hgl).trans c4⟩)
        (first
          | (have mk := t5; go_at_call 28; refine (CB w5 q5 b5 t5).mono ?_; rintro e6 w6 ⟨⟨q6, rfl, t6⟩, b60⟩; have b6 : Below w.heap.size w w6 := b5.trans (b60.mono b5.size))
          | (go_at_call 18; refine IH.mono ?_; rintro e5 w5 ⟨⟨q5, rfl, t5⟩, b50⟩; have b5 : Below w.heap.size w w5 := bd.trans (b50.mono bd.size)))
      all_goals go_wp2
      all_goals go_ret
      all_goals exact ⟨⟨_, rfl, by rw [HW.out]; exact t6⟩, b6⟩

end TS
end Go.Proofs.Ytbdnniaajiiimaa
