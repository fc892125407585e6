/- The document's CheckSigner, Digest; walked. -/
import Derived.Test.YtgnlkggodchlbaaDoorInF
import Derived.Test.YtgnlkggodchlbaaDoorLtH
namespace Go.Proofs.YtgnlkggodchlbaaDoor
open Go.RowKit

theorem sgB_cases (c : Int) : (sgB c = true ∧ ((97 ≤ c ∧ c ≤ 122) ∨ (48 ≤ c ∧ c ≤ 57 ∧ ¬ 97 ≤ c) ∨ (c = 46) ∨ (c = 45))) ∨ (sgB c = false ∧ (¬ 97 ≤ c ∨ (97 ≤ c ∧ ¬ c ≤ 122)) ∧ (¬ 48 ≤ c ∨ (48 ≤ c ∧ ¬ c ≤ 57)) ∧ c ≠ 46 ∧ c ≠ 45) := by
  unfold sgB
  by_cases h : (97 ≤ c ∧ c ≤ 122) ∨ (48 ≤ c ∧ c ≤ 57) ∨ c = 46 ∨ c = 45
  · left
    refine ⟨decide_eq_true h, ?_⟩
    omega
  · right
    refine ⟨decide_eq_false h, ?_⟩
    omega

set_option maxRecDepth 100000 in
set_option maxHeartbeats 2000000 in
theorem rckS_any (s : ByteArray) (w : World) :
    Calls Tryd.prog 15 #[.string s] w fun e w' => e = .returned (.int .i64 (sgC s)) ∧ w' = w := by
  by_cases hz : s.size < 1
  · have hh : Hid (sgC s = 151) := sgC_no (fun h => by have := h.1; omega)
    have hz' : (s.size : Int) < 1 := by omega
    go_enter Tryd.func15, Tryd.ntmps15
    go_wp2
    go_ret
    exact ⟨by rw [hh.out]; rfl, rfl⟩
  · have hz' : ¬ (s.size : Int) < 1 := by omega
    by_cases h32 : 32 < s.size
    · have hh : Hid (sgC s = 151) := sgC_no (fun h => by have := h.2.1; omega)
      have h32' : (32 : Int) < (s.size : Int) := by omega
      go_enter Tryd.func15, Tryd.ntmps15
      go_wp2
      go_ret
      exact ⟨by rw [hh.out]; rfl, rfl⟩
    · have h32' : ¬ (32 : Int) < (s.size : Int) := by omega
      have HZ : Hid (¬ s.size < 1) := hz
      have H32 : Hid (¬ 32 < s.size) := h32
      have hb := get_bt s
      clear hz h32
      go_enter Tryd.func15, Tryd.ntmps15
      go_wp2
      clear hz' h32'
      go_loop [3] (fun i => ∃ k : Nat, k ≤ s.size ∧ i = .int .i64 k ∧ Hid (∀ j, j < k → sgB (bt s j) = true)) (fun i => s.size - (intOf i).toNat)
      case atStart => exact ⟨0, Nat.zero_le _, rfl, fun j hj => absurd hj (by omega)⟩
      case round =>
        obtain ⟨k, hk, rfl, hok⟩ := hrel
        by_cases hlt : k < s.size
        · have hk32 : k < 32 := by have := H32.out; omega
          rcases sgB_cases (bt s k) with ⟨hv, hc⟩ | ⟨hv, h1, h2, h3, h4⟩
          · have hok2 : Hid (∀ j, j < k + 1 → sgB (bt s j) = true) := fun j hj => by
              by_cases e : j = k
              · rw [e]; exact hv
              · exact hok.out j (by omega)
            clear hv hok
            rcases hc with ⟨q1, q2⟩ | ⟨q1, q2, q3⟩ | q | q
            · go_wp2
              go_round
              case rel => exact ⟨k + 1, by omega, by go_num, hok2⟩
              case measure => simp [intOf]; omega
            · go_wp2
              go_round
              case rel => exact ⟨k + 1, by omega, by go_num, hok2⟩
              case measure => simp [intOf]; omega
            · have q1 : ¬ 97 ≤ bt s k := by omega
              have q2 : ¬ 48 ≤ bt s k := by omega
              have q3 : (bt s k == 46) = true := by rw [q]; rfl
              have q4 : (bt s k != 46) = false := by rw [q]; rfl
              go_wp2
              go_round
              case rel => exact ⟨k + 1, by omega, by go_num, hok2⟩
              case measure => simp [intOf]; omega
            · have q1 : ¬ 97 ≤ bt s k := by omega
              have q2 : ¬ 48 ≤ bt s k := by omega
              have q3 : (bt s k == 45) = true := by rw [q]; rfl
              have q4 : (bt s k != 45) = false := by rw [q]; rfl
              have q5 : (bt s k == 46) = false := by rw [q]; rfl
              have q6 : (bt s k != 46) = true := by rw [q]; rfl
              go_wp2
              go_round
              case rel => exact ⟨k + 1, by omega, by go_num, hok2⟩
              case measure => simp [intOf]; omega
          · have hh : Hid (sgC s = 151) := sgC_no (fun h => by have := h.2.2 k hlt; rw [hv] at this; exact Bool.noConfusion this)
            have q3 : (bt s k == 46) = false := by rw [beq_eq_false_iff_ne]; exact h3
            have q4 : (bt s k != 46) = true := by rw [bne_iff_ne]; exact h3
            have q5 : (bt s k == 45) = false := by rw [beq_eq_false_iff_ne]; exact h4
            have q6 : (bt s k != 45) = true := by rw [bne_iff_ne]; exact h4
            clear hv h3 h4
            rcases h1 with h1 | ⟨h1, h1'⟩
            all_goals rcases h2 with h2 | ⟨h2, h2'⟩
            all_goals first
              | (exfalso; omega)
              | (go_wp2
                 go_ret
                 exact ⟨by rw [hh.out]; rfl, rfl⟩)
        · have hh : Hid (sgC s = 0) := sgC_yes ⟨by have := HZ.out; omega, by have := H32.out; omega, fun j hj => hok.out j (by omega)⟩
          go_wp2
          go_ret
          exact ⟨by rw [hh.out]; rfl, rfl⟩

theorem undD32 : Tryd.prog.underlying 22 = some (.array 32 5) := by kernel_rfl
theorem szR32 : (Tryd.prog.info? 22).map (·.size) = some 32 := by kernel_rfl

set_option maxRecDepth 100000 in
set_option maxHeartbeats 2000000 in
theorem rdgO_any (t : ByteArray) (w : World) (ht : t.size ≤ 1048576) :
    Calls Tryd.prog 24 #[.string t] w fun e w' => e = .returned (.tuple #[.agg (cs .u8 32 (dFn t)), .bool (decide (dOk t))]) ∧ Below w.heap.size w w' := by
  have C0 := fun W => rfb32_any t W ht
  have R0 : Row .u8 (w.alloc (.cells (cs .u8 32 (fun _ => 0)) 22)) w.heap.size 32 (fun _ => 0) := Row.box
  have B0 : Below w.heap.size w (w.alloc (.cells (cs .u8 32 (fun _ => 0)) 22)) := (Below.refl _ _).alloc (Nat.le_refl _) _
  have z0 : (w.alloc (.cells (cs .u8 32 (fun _ => 0)) 22)).heap.size = w.heap.size + 1 := World.size_alloc _ _
  by_cases hd : dOk t
  · rw [dFn_yes hd, decide_eq_true hd]
    obtain ⟨h1, h2⟩ := (dOk_iff t).1 hd
    have h52 := hd.1
    have hbd : Hid (∀ k, 0 ≤ bt (fbStr t) k ∧ bt (fbStr t) k < 256) := bt_bd _
    generalize fbErr t = E at C0 h1
    generalize fbStr t = S at C0 h2 hbd ⊢
    subst h1
    have k1 : ((t.size : Int) == 52) = true := by rw [h52]; rfl
    have k2 : ((t.size : Int) != 52) = false := by rw [h52]; rfl
    have k3 : (t.size : Int) = 52 := by omega
    have hb := get_bt S
    clear hd h52
    go_enter Tryd.func24, Tryd.ntmps24
    go_wp2_with fail
    rw [cs_zero32]
    generalize w.alloc (.cells (cs .u8 32 (fun _ => 0)) 22) = w0 at R0 B0 z0 ⊢
    refine (C0 w0).mono ?_
    rintro e w1 ⟨rfl, b1⟩
    have R1 : Hid (Row .u8 w1 w.heap.size 32 (fun _ => 0)) := R0.below b1 (by omega)
    have B1 : Hid (Below w.heap.size w w1) := B0.trans (b1.mono B0.size)
    have z1 : Hid (w.heap.size < w1.heap.size) := by have := b1.size; unfold Hid; omega
    clear R0 B0 z0 b1 C0
    go_wp2
    rw [cs_zero32]
    clear k1 k2 k3
    have D2 : Hid (Row .u8 (w1.alloc (.cells (cs .u8 32 (fun _ => 0)) 22)) w1.heap.size 32 (fun j => if j < 0 then bt S j else 0)) := Row.box.congr (fun j _ => by rw [if_neg (by omega)])
    have R2 : Hid (Row .u8 (w1.alloc (.cells (cs .u8 32 (fun _ => 0)) 22)) w.heap.size 32 (fun _ => 0)) := R1.out.alloc z1.out _
    have B2 : Hid (Below w.heap.size w (w1.alloc (.cells (cs .u8 32 (fun _ => 0)) 22))) := B1.out.alloc B1.out.size _
    generalize w1.alloc (.cells (cs .u8 32 (fun _ => 0)) 22) = w2 at D2 R2 B2 ⊢
    obtain ⟨g, hg⟩ : ∃ g, w1.heap.size = g := ⟨_, rfl⟩
    have hgw : Hid (w.heap.size < g) := by rw [← hg]; exact z1.out
    rw [hg] at D2 ⊢
    clear hg R1 B1 z1
    go_loopw [7] (fun xi wr => ∃ k : Nat, k ≤ 32 ∧ xi = .int .i64 (k : Int) ∧ Hid (Row .u8 wr g 32 (fun j => if j < k then bt S j else 0)) ∧ Hid (Row .u8 wr w.heap.size 32 (fun _ => 0)) ∧ Hid (Below w.heap.size w wr)) (fun i _ => 32 - (intOf i).toNat)
    case atStart => exact ⟨0, Nat.zero_le _, rfl, D2, R2, B2⟩
    case round =>
      clear D2 R2 B2
      obtain ⟨k, hk, rfl, DK, RK, BK⟩ := hrel
      by_cases hlt : k < 32
      · have c0 := DK.out.cell k hlt
        have f0 := DK.out.free k hlt
        have hkS : k < S.size := by omega
        have D3 : Hid (Row .u8 (wr.setCell ⟨g, k, none⟩ (.int .u8 (bt S k))) g 32 (fun j => if j < k + 1 then bt S j else 0)) := (DK.out.set k (bt S k) hlt).congr (fun j hj => by
          by_cases e : j = k
          · rw [if_pos e, if_pos (by omega), e]
          · rw [if_neg e]
            by_cases e2 : j < k
            · rw [if_pos e2, if_pos (by omega)]
            · rw [if_neg e2, if_neg (by omega)])
        have R3 : Hid (Row .u8 (wr.setCell ⟨g, k, none⟩ (.int .u8 (bt S k))) w.heap.size 32 (fun _ => 0)) := RK.out.other _ _ (by show w.heap.size ≠ g; have := hgw.out; omega)
        have B3 : Hid (Below w.heap.size w (wr.setCell ⟨g, k, none⟩ (.int .u8 (bt S k)))) := BK.out.setCell (by show _ ≤ g; have := hgw.out; omega) _
        clear DK RK BK
        go_wp2
        go_roundw
        case rel => exact ⟨k + 1, by omega, by go_num, D3, R3, B3⟩
        case measure => simp [intOf]; omega
      · obtain rfl : k = 32 := by omega
        have DF : Row .u8 wr g 32 (bt S) := DK.out.congr (fun j hj => by rw [if_pos hj])
        have RF := RK.out
        have hl := BK.out.size
        have hgl : g < wr.heap.size := World.block_lt_of_cell? _ _ (DF.cell 0 (by omega))
        go_wp2_with (first
          | (refine wpList_load_arr (by rfl) 22 (.tmp 6) (by rfl) g (by rfl) DF undD32 szR32 ?_)
          | (refine wpList_store_any (by rfl) 22 (.tmp 2) (.tmp 30) (by rfl) w.heap.size (by rfl) (by rfl) RF szR32 (by rfl) ?_; intro W5 R5 U5))
        exact bodyPost_ret (results_ct Tryd.results24 _ _ rfl R5 undD32 szR32) rfl ⟨rfl, U5.below BK.out (Nat.le_refl _) (by have := hgw.out; omega)⟩
  · rw [dFn_no hd, decide_eq_false hd]
    have hd2 : ¬ (t.size = 52 ∧ fbErr t = 0) := hd
    generalize fbErr t = E at C0 hd2
    generalize fbStr t = S at C0
    clear hd
    have key : (E = 0 ∧ (t.size : Int) ≠ 52) ∨ E ≠ 0 := by
      by_cases he : E = 0
      · left; exact ⟨he, fun h => hd2 ⟨by omega, he⟩⟩
      · right; exact he
    clear hd2
    rcases key with ⟨he, h52⟩ | he
    · subst he
      have k1 : ((t.size : Int) == 52) = false := by rw [beq_eq_false_iff_ne]; exact h52
      have k2 : ((t.size : Int) != 52) = true := by rw [bne_iff_ne]; exact h52
      clear h52
      go_enter Tryd.func24, Tryd.ntmps24
      go_wp2_with fail
      rw [cs_zero32]
      generalize w.alloc (.cells (cs .u8 32 (fun _ => 0)) 22) = w0 at R0 B0 z0 ⊢
      refine (C0 w0).mono ?_
      rintro e w1 ⟨rfl, b1⟩
      have R1 : Row .u8 w1 w.heap.size 32 (fun _ => 0) := R0.below b1 (by omega)
      have B1 : Below w.heap.size w w1 := B0.trans (b1.mono B0.size)
      have z1 : w.heap.size < w1.heap.size := by have := b1.size; omega
      clear R0 B0 z0 b1 C0
      go_wp2_with (refine wpList_store_any (by rfl) 22 (.tmp 2) (.tmp 20) (by rfl) w.heap.size (by rfl) (by exact congrArg Value.agg cs_zero32) R1 szR32 (by rfl) ?_; intro W5 R5 U5)
      exact bodyPost_ret (results_ct Tryd.results24 _ _ rfl R5 undD32 szR32) rfl ⟨rfl, U5.below B1 (Nat.le_refl _) (by omega)⟩
    · have k1 : (E == 0) = false := by rw [beq_eq_false_iff_ne]; exact he
      have k2 : (E != 0) = true := by rw [bne_iff_ne]; exact he
      clear he
      go_enter Tryd.func24, Tryd.ntmps24
      go_wp2_with fail
      rw [cs_zero32]
      generalize w.alloc (.cells (cs .u8 32 (fun _ => 0)) 22) = w0 at R0 B0 z0 ⊢
      refine (C0 w0).mono ?_
      rintro e w1 ⟨rfl, b1⟩
      have R1 : Row .u8 w1 w.heap.size 32 (fun _ => 0) := R0.below b1 (by omega)
      have B1 : Below w.heap.size w w1 := B0.trans (b1.mono B0.size)
      have z1 : w.heap.size < w1.heap.size := by have := b1.size; omega
      clear R0 B0 z0 b1 C0
      go_wp2_with (refine wpList_store_any (by rfl) 22 (.tmp 2) (.tmp 20) (by rfl) w.heap.size (by rfl) (by exact congrArg Value.agg cs_zero32) R1 szR32 (by rfl) ?_; intro W5 R5 U5)
      exact bodyPost_ret (results_ct Tryd.results24 _ _ rfl R5 undD32 szR32) rfl ⟨rfl, U5.below B1 (Nat.le_refl _) (by omega)⟩

end Go.Proofs.YtgnlkggodchlbaaDoor
