/- A table's nodes (string keys): without, walked. -/
import Derived.Test.YtbdnniaajiiimaaTjS
namespace Go.Proofs.Ytbdnniaajiiimaa
namespace TS
open Go.RowKit

theorem out_l {k nk : ByteArray} {nv : Int} {s : Nat} {l r : BT ByteArray} (h : ltK k nk = true) : BT.wtout ltK (.N nk nv s l r) k = BT.bal nk nv (BT.wtout ltK l k) r := by rw [BT.wtout, if_pos h]
theorem out_r {k nk : ByteArray} {nv : Int} {s : Nat} {l r : BT ByteArray} (h : ltK k nk = false) (g : ltK nk k = true) : BT.wtout ltK (.N nk nv s l r) k = BT.bal nk nv l (BT.wtout ltK r k) := by rw [BT.wtout, if_neg (by rw [h]; decide), if_pos g]
theorem out_e {k nk : ByteArray} {nv : Int} {s : Nat} {l r : BT ByteArray} (h : ltK k nk = false) (g : ltK nk k = false) : BT.wtout ltK (.N nk nv s l r) k = BT.joinC l r (fun x => BT.wtout ltK r x) := by rw [BT.wtout, if_neg (by rw [h]; decide), if_neg (by rw [g]; decide)]
theorem join_n {l r : BT ByteArray} {f : ByteArray → BT ByteArray} {xk : ByteArray} {xv : Int} {xs : Nat} {xl xr : BT ByteArray} (hr : ∃ a b c d e, r = .N a b c d e) (h : BT.atT 0 r = .N xk xv xs xl xr) : BT.joinC l r f = BT.bal xk xv l (f xk) := by
  obtain ⟨a, b, c, d, e, rfl⟩ := hr
  unfold BT.joinC
  simp only []
  rw [h]
theorem at_ne (t : BT ByteArray) (ho : t.Ok) : ∀ i, i < t.cnt → ∃ xk xv xs xl xr, BT.atT i t = .N xk xv xs xl xr := by
  induction t with
  | E => intro i h; exact absurd h (Nat.not_lt_zero _)
  | N nk nv s l r il ir =>
    intro i h
    obtain ⟨h1, h2, h3⟩ := ho
    have h' : i < s := h
    rw [BT.atT]
    by_cases g1 : i < l.cnt
    · rw [if_pos g1]; exact il h2 i g1
    · rw [if_neg g1]
      by_cases g2 : l.cnt < i
      · rw [if_pos g2]; exact ir h3 _ (by omega)
      · rw [if_neg g2]; exact ⟨_, _, _, _, _, rfl⟩

set_option maxHeartbeats 4000000 in
theorem without_any (t : BT ByteArray) : ∀ (k : ByteArray) (p : Option Addr) (w : World), Tr w t p → t.Ok → t.cnt ≤ 1152921504606846975 →
    Calls Try.prog 20 #[.pointer p, Value.string k] w fun e w' => (∃ q, e = .returned (.pointer q) ∧ Tr w' (BT.wtout ltK t k) q) ∧ Below w.heap.size w w' := by
  induction t with
  | E =>
    intro k p w h _ _
    obtain rfl : p = none := h
    go_enter Try.func20, Try.ntmps20
    go_wp2
    go_ret
    exact ⟨⟨_, rfl, rfl⟩, Below.refl _ _⟩
  | N nk nv s l r il ir =>
    intro k p w h ho hc
    obtain ⟨hs, hlo, hro⟩ := ho
    have hsc : s ≤ 1152921504606846975 := hc
    have HSS : Hid (s = l.cnt + 1 + r.cnt) := hs
    have hlc : l.cnt + 1 + r.cnt ≤ 1152921504606846975 := by omega
    clear hs
    have H : Hid (Tr w (.N nk nv s l r) p) := h
    obtain ⟨g, pl, pr, rfl, c0, c1, c2, c3, c4, hl, hr⟩ := h
    have HL : Hid (Tr w l pl) := hl
    have HR : Hid (Tr w r pr) := hr
    have bd : Below w.heap.size w w.drew := (Below.refl _ _).drew
    have hgl : g < w.heap.size := World.block_lt_of_cell? _ _ c3
    cases hlt : ltK k nk
    · cases hgt : ltK nk k
      · have L1 : Op.bytesLess k.toList nk.toList = false := hlt
        skip
        have L3 : Op.bytesLess nk.toList k.toList = false := hgt
        skip
        have HO : BT.wtout ltK (.N nk nv s l r) k = BT.joinC l r (fun x => BT.wtout ltK r x) := out_e hlt hgt
        cases hrc : r with
        | E =>
          have HW : Hid (BT.wtout ltK (.N nk nv s l r) k = l) := by unfold Hid; rw [HO, hrc]; rfl
          obtain rfl : pr = none := by have := HR.out; rw [hrc] at this; exact this
          rw [← hrc]
          clear hl hr hc c1 c2 hlt hgt il ir HO hrc
          go_enter Try.func20, Try.ntmps20
          go_wp2
          go_ret
          exact ⟨⟨_, rfl, by rw [HW.out]; exact HL.out⟩, Below.refl _ _⟩
        | N ra rb rc rd re =>
          have hrn : ∃ a b c d e, r = .N a b c d e := ⟨_, _, _, _, _, hrc⟩
          have hr0 : 0 < r.cnt := by rw [hrc] at hro ⊢; obtain ⟨q1, _, _⟩ := hro; show 0 < rc; omega
          obtain ⟨xk, xv, xs, xl, xr, hx⟩ := at_ne r hro 0 hr0
          have HW : Hid (BT.wtout ltK (.N nk nv s l r) k = BT.bal xk xv l (BT.wtout ltK r xk)) := by unfold Hid; rw [HO, join_n hrn hx]
          rw [← hrc]
          have CA := at_any r pr 0 w hr hro hr0 (by omega)
          rw [hx] at CA
          obtain ⟨gr, pr1, pr2, hprs, _⟩ : ∃ g p1 p2, pr = some ⟨g, 0, none⟩ ∧ True := by
            have hq := hr; rw [hrc] at hq; obtain ⟨g, a, b, e, _⟩ := hq; exact ⟨g, a, b, e, trivial⟩
          obtain ⟨o1, o2⟩ := BT.wtout_ok ltK r hro xk
          have IH := ir xk pr w.drew (hr.below bd (Nat.le_refl _)) hro (by omega)
          have CB : ∀ W q xp, Below w.heap.size w W → Tr w (.N xk xv xs xl xr) xp → Tr W (BT.wtout ltK r xk) q → Calls Try.prog 28 #[.pointer xp, .pointer pl, .pointer q] W fun e w' => (∃ q, e = .returned (.pointer q) ∧ Tr w' (BT.bal xk xv l (BT.wtout ltK r xk)) q) ∧ Below W.heap.size W w' := fun W q xp b tx tq =>
            balanced_any xk xv xs xl xr l (BT.wtout ltK r xk) xp pl q W (tx.below b (Nat.le_refl _)) (HL.out.below b (Nat.le_refl _)) tq hlo o1 (by omega)
          generalize BT.wtout ltK r xk = R2 at HW IH CB
          clear hrc hrn hr0 hx HO il ir hl hr hc c1 c2 hlt hgt o1 o2
          subst hprs
          go_enter Try.func20, Try.ntmps20
          go_wp2_with fail
          refine CA.mono ?_
          rintro e w1 ⟨⟨xp, rfl, tx⟩, rfl⟩
          have TX : Hid (Tr w1 (.N xk xv xs xl xr) xp) := tx
          obtain ⟨x, q1, q2, rfl, d0, d1, d2, d3, d4, _, _⟩ := tx
          have hxl : x < w1.heap.size := World.block_lt_of_cell? _ _ d0
          go_wp2
          go_region_held3 (fun W => W.cell? ⟨g, 3, none⟩ = some (.pointer pl) ∧ W.cell? ⟨g, 4, none⟩ = some (.pointer (some ⟨gr, 0, none⟩)) ∧ W.cell? ⟨x, 0, none⟩ = some (Value.string xk))
            (first | go_keep | exact ⟨c3, c4, d0⟩ | exact ⟨(b6.cell (p := ⟨g, 3, none⟩) hgl).trans c3, (b6.cell (p := ⟨g, 4, none⟩) hgl).trans c4, (b6.cell (p := ⟨x, 0, none⟩) hxl).trans d0⟩ | exact ⟨(b5.cell (p := ⟨g, 3, none⟩) hgl).trans c3, (b5.cell (p := ⟨g, 4, none⟩) hgl).trans c4, (b5.cell (p := ⟨x, 0, none⟩) hxl).trans d0⟩)
            (first
              | (have mk := t5; go_at_call 28; refine (CB w5 q5 _ b5 TX.out t5).mono ?_; rintro e6 w6 ⟨⟨q6, rfl, t6⟩, b60⟩; have b6 : Below w1.heap.size w1 w6 := b5.trans (b60.mono b5.size))
              | (go_at_call 20; refine IH.mono ?_; rintro e5 w5 ⟨⟨q5, rfl, t5⟩, b50⟩; have b5 : Below w1.heap.size w1 w5 := bd.trans (b50.mono bd.size)))
          all_goals go_wp2
          all_goals go_ret
          all_goals exact ⟨⟨_, rfl, by rw [HW.out]; exact t6⟩, b6⟩
      · have HW : Hid (BT.wtout ltK (.N nk nv s l r) k = BT.bal nk nv l (BT.wtout ltK r k)) := out_r hlt hgt
        have L1 : Op.bytesLess k.toList nk.toList = false := hlt
        skip
        have L3 : Op.bytesLess nk.toList k.toList = true := hgt
        skip
        obtain ⟨o1, o2⟩ := BT.wtout_ok ltK r hro k
        have IH := ir k pr w.drew (hr.below bd (Nat.le_refl _)) hro (by omega)
        have CB : ∀ W q, Below w.heap.size w W → Tr W (BT.wtout ltK r k) q → Calls Try.prog 28 #[.pointer (some ⟨g, 0, none⟩), .pointer pl, .pointer q] W fun e w' => (∃ q, e = .returned (.pointer q) ∧ Tr w' (BT.bal nk nv l (BT.wtout ltK r k)) q) ∧ Below W.heap.size W w' := fun W q b tq =>
          balanced_any nk nv s l r l (BT.wtout ltK r k) _ pl q W (H.out.below b (Nat.le_refl _)) (HL.out.below b (Nat.le_refl _)) tq hlo o1 (by omega)
        clear hl hr hc c1 c2 hlt hgt il ir o1 o2
        generalize BT.wtout ltK r k = R2 at HW IH CB
        go_enter Try.func20, Try.ntmps20
        go_wp2
        go_region_held3 (fun W => W.cell? ⟨g, 3, none⟩ = some (.pointer pl) ∧ W.cell? ⟨g, 4, none⟩ = some (.pointer pr))
          (first | go_keep | exact ⟨c3, c4⟩ | exact ⟨(b6.cell (p := ⟨g, 3, none⟩) hgl).trans c3, (b6.cell (p := ⟨g, 4, none⟩) hgl).trans c4⟩ | exact ⟨(b5.cell (p := ⟨g, 3, none⟩) hgl).trans c3, (b5.cell (p := ⟨g, 4, none⟩) hgl).trans c4⟩)
          (first
            | (have mk := t5; go_at_call 28; refine (CB w5 q5 b5 t5).mono ?_; rintro e6 w6 ⟨⟨q6, rfl, t6⟩, b60⟩; have b6 : Below w.heap.size w w6 := b5.trans (b60.mono b5.size))
            | (go_at_call 20; refine IH.mono ?_; rintro e5 w5 ⟨⟨q5, rfl, t5⟩, b50⟩; have b5 : Below w.heap.size w w5 := bd.trans (b50.mono bd.size)))
        all_goals go_wp2
        all_goals go_ret
        all_goals exact ⟨⟨_, rfl, by rw [HW.out]; exact t6⟩, b6⟩
    · have HW : Hid (BT.wtout ltK (.N nk nv s l r) k = BT.bal nk nv (BT.wtout ltK l k) r) := out_l hlt
      have L1 : Op.bytesLess k.toList nk.toList = true := hlt
      skip
      obtain ⟨o1, o2⟩ := BT.wtout_ok ltK l hlo k
      have IH := il k pl w.drew (hl.below bd (Nat.le_refl _)) hlo (by omega)
      have CB : ∀ W q, Below w.heap.size w W → Tr W (BT.wtout ltK l k) q → Calls Try.prog 28 #[.pointer (some ⟨g, 0, none⟩), .pointer q, .pointer pr] W fun e w' => (∃ q, e = .returned (.pointer q) ∧ Tr w' (BT.bal nk nv (BT.wtout ltK l k) r) q) ∧ Below W.heap.size W w' := fun W q b tq =>
        balanced_any nk nv s l r (BT.wtout ltK l k) r _ q pr W (H.out.below b (Nat.le_refl _)) tq (HR.out.below b (Nat.le_refl _)) o1 hro (by omega)
      clear hl hr hc c1 c2 hlt il ir o1 o2
      generalize BT.wtout ltK l k = L2' at HW IH CB
      go_enter Try.func20, Try.ntmps20
      go_wp2
      go_region_held3 (fun W => W.cell? ⟨g, 3, none⟩ = some (.pointer pl) ∧ W.cell? ⟨g, 4, none⟩ = some (.pointer pr))
        (first | go_keep | exact ⟨c3, c4⟩ | exact ⟨(b6.cell (p := ⟨g, 3, none⟩) hgl).trans c3, (b6.cell (p := ⟨g, 4, none⟩) hgl).trans c4⟩ | exact ⟨(b5.cell (p := ⟨g, 3, none⟩) hgl).trans c3, (b5.cell (p := ⟨g, 4, none⟩) hgl).trans c4⟩)
        (first
          | (have mk := t5; go_at_call 28; refine (CB w5 q5 b5 t5).mono ?_; rintro e6 w6 ⟨⟨q6, rfl, t6⟩, b60⟩; have b6 : Below w.heap.size w w6 := b5.trans (b60.mono b5.size))
          | (go_at_call 20; refine IH.mono ?_; rintro e5 w5 ⟨⟨q5, rfl, t5⟩, b50⟩; have b5 : Below w.heap.size w w5 := bd.trans (b50.mono bd.size)))
      all_goals go_wp2
      all_goals go_ret
      all_goals exact ⟨⟨_, rfl, by rw [HW.out]; exact t6⟩, b6⟩

end TS
end Go.Proofs.Ytbdnniaajiiimaa
