/- The packer's passBy. -/
import Derived.Test.YthjpmiidbgaiaaaPkD
namespace Go.Proofs.Ythjpmiidbgaiaaa
open Go.RowKit Go.Maps Go.WideMaps

/-- A key put into the packer's map. -/
theorem Pk.store {w : World} {g m : Nat} {v : Value} {s out : List UInt8} {pl n : Nat} {D : DataW Unit} (h : Pk w g m v s out pl n D) (hn : n < maxLen) (k0 k1 k2 k3 : UInt8) (i : Nat) (hi : i ≤ 1048576) :
    ∃ w', (Instr.mapUpdate 58 (.map (some m)) (.agg #[.int .u8 (k0.toNat : Int), .int .u8 (k1.toNat : Int), .int .u8 (k2.toNat : Int), .int .u8 (k3.toNat : Int)]) (.int .i64 (i : Int))).run Try.prog w = .ok () w' ∧ Pk w' g m v s out pl (n + 1) (D.put (.string [k0, k1, k2, k3]) (.lit (.int .i64 (i : Int)))) ∧ Below m w w' := by
  obtain ⟨w', hr, ho, ht⟩ := World.ownsMap.store h.mp law84 undMAP hn (key4 k0 k1 k2 k3) (plainElem_int undI (WalkArith.wf_i64 (n := (i : Int)) ⟨by omega, by omega⟩))
  have G := ht.grown
  have hm := h.mg
  have hl := h.lt
  refine ⟨w', hr, ⟨h.blk.same (G.block g hl (fun e => by injection e with e; omega)), row_same h.own (fun k hk => G.block k (h.own.lt k hk).2 (fun e => by injection e with e; have := (h.own.lt k hk).1; omega)), ho, hm⟩, (Below.refl m w).grown G (by omega) (fun k hk => by injection hk with hk; omega)⟩

set_option maxHeartbeats 2000000 in
set_option maxRecDepth 10000 in
theorem passBy_any (g m : Nat) (v : Value) (s out : List UInt8) (pl n : Nat) (D : DataW Unit) (a b : Nat) (w : World) (h : Pk w g m v s out pl n D) (hs : s.length ≤ 1048576) (hab : a ≤ b) (hb : b ≤ s.length) (hn : n ≤ a) (hD : LastOK s a D) :
    Calls Try.prog 26 #[.pointer (some ⟨g, 0, none⟩), .int .i64 (a : Int), .int .i64 (b : Int)] w fun e w' => e = .returned (.tuple #[]) ∧ (∃ n' D', n' ≤ b ∧ Pk w' g m v s out pl n' D' ∧ LastOK s b D') ∧ Below m w w' := by
  have HP : Hid (Pk w g m v s out pl n D) := h
  have HD : Hid (LastOK s a D) := hD
  clear h hD
  go_enter Try.func26, Try.ntmps26
  go_wp2
  go_loopg [6] (b - a) (fun gk ix wr => ∃ (k n' : Nat) (D' : DataW Unit), Hid (gk + k = b ∧ a ≤ k ∧ n' ≤ k) ∧ ix = .int .i64 k ∧ Hid (Pk wr g m v s out pl n' D') ∧ Hid (LastOK s k D') ∧ Hid (Below m w wr))
  case atStart => exact ⟨a, n, D, ⟨by omega, Nat.le_refl _, hn⟩, rfl, HP, HD, Below.refl _ _⟩
  case round =>
    obtain ⟨k, n', D', hgk, rfl, hP, hL, hB⟩ := hrel
    have hk1 := hgk.out.1
    by_cases hk : k < b
    · have c2 : wr.cell? ⟨g, 2, none⟩ = some (.string (ba s)) := by rw [Lib.cell_of_heap hP.out.blk]; rfl
      have hg := hP.out.lt
      have hmg := hP.out.mg
      by_cases h4 : k + 4 ≤ s.length
      · have FC := four_some g s k wr c2 hg hs h4
        have hF : Hid (fourAt s k = [s.getD k 0, s.getD (k + 1) 0, s.getD (k + 2) 0, s.getD (k + 3) 0]) := rfl
        generalize s.getD k 0 = k0 at FC hF
        generalize s.getD (k + 1) 0 = k1 at FC hF
        generalize s.getD (k + 2) 0 = k2 at FC hF
        generalize s.getD (k + 3) 0 = k3 at FC hF
        go_wp2_with fail
        refine FC.mono ?_
        rintro e w1 ⟨rfl, b1⟩
        clear FC c2
        unfold kv
        have HP1 : Hid (Pk (w1.alloc (.cells #[.int .u8 (k0.toNat : Int), .int .u8 (k1.toNat : Int), .int .u8 (k2.toNat : Int), .int .u8 (k3.toNat : Int)] 84)) g m v s out pl n' D') := (hP.out.below b1).below ((Below.refl _ _).alloc (Nat.le_refl _) _)
        have B1 : Hid (Below m w (w1.alloc (.cells #[.int .u8 (k0.toNat : Int), .int .u8 (k1.toNat : Int), .int .u8 (k2.toNat : Int), .int .u8 (k3.toNat : Int)] 84))) := (hB.out.trans ⟨b1.os, b1.tape, b1.output, b1.size, fun j hj => b1.block j (by omega)⟩).alloc (by have := b1.size; omega) _
        have q1 : Hid (St (w1.alloc (.cells #[.int .u8 (k0.toNat : Int), .int .u8 (k1.toNat : Int), .int .u8 (k2.toNat : Int), .int .u8 (k3.toNat : Int)] 84)) w1.heap.size [.int .u8 (k0.toNat : Int), .int .u8 (k1.toNat : Int), .int .u8 (k2.toNat : Int), .int .u8 (k3.toNat : Int)]) := St.new w1 _ _
        clear b1
        go_wp2_with fail
        generalize w1.alloc (.cells #[.int .u8 (k0.toNat : Int), .int .u8 (k1.toNat : Int), .int .u8 (k2.toNat : Int), .int .u8 (k3.toNat : Int)] 84) = W2 at HP1 B1 q1 ⊢
        have c3 : W2.cell? ⟨g, 3, none⟩ = some (.map (some m)) := by rw [Lib.cell_of_heap HP1.out.blk]; rfl
        have z0 := q1.out.get 0 _ rfl
        have z1 := q1.out.get 1 _ rfl
        have z2 := q1.out.get 2 _ rfl
        have z3 := q1.out.get 3 _ rfl
        obtain ⟨w3, hr, P3, B3⟩ := (HP1.out.drewN 1).store (by have := hgk.out.2.2; unfold maxLen; omega) k0 k1 k2 k3 k (by omega)
        have HP3 : Hid (Pk w3 g m v s out pl (n' + 1) (D'.put (.string (fourAt s k)) (.lit (.int .i64 (k : Int))))) := by unfold Hid; rw [hF.out]; exact P3
        have HL3 : Hid (LastOK s (k + 1) (D'.put (.string (fourAt s k)) (.lit (.int .i64 (k : Int))))) := hL.out.put hP.out.mp.isMap h4
        have HB3 : Hid (Below m w w3) := (bel_drewN B1.out 1).trans B3
        clear P3 B3
        have hr' : (Instr.mapUpdate 58 (.map (some m)) (.agg #[.int .u8 (k0.toNat : Int), .int .u8 (k1.toNat : Int), .int .u8 (k2.toNat : Int), .int .u8 (k3.toNat : Int)]) (.int .i64 (k : Int))).run Try.prog W2.drew = .ok () w3 := hr
        clear hr
        go_region
        all_goals (
          go_wp2
          go_roundg (gk - 1)
          case measure => omega
          case rel => exact ⟨k + 1, n' + 1, _, ⟨by omega, by have := hgk.out.2.1; omega, by have := hgk.out.2.2; omega⟩, by go_num, HP3, HL3, HB3⟩)
      · have FC := four_none g s k wr c2 hg hs (by omega) h4
        go_wp2_with fail
        refine FC.mono ?_
        rintro e w1 ⟨rfl, b1⟩
        clear FC c2
        have HP1 : Hid (Pk (w1.alloc (.cells #[.int .u8 0, .int .u8 0, .int .u8 0, .int .u8 0] 84)) g m v s out pl n' D') := (hP.out.below b1).below ((Below.refl _ _).alloc (Nat.le_refl _) _)
        have B1 : Hid (Below m w (w1.alloc (.cells #[.int .u8 0, .int .u8 0, .int .u8 0, .int .u8 0] 84))) := (hB.out.trans ⟨b1.os, b1.tape, b1.output, b1.size, fun j hj => b1.block j (by omega)⟩).alloc (by have := b1.size; omega) _
        have HL3 : Hid (LastOK s (k + 1) D') := hL.out.pass h4
        clear b1
        go_wp2
        go_roundg (gk - 1)
        case measure => omega
        case rel => exact ⟨k + 1, n', _, ⟨by omega, by have := hgk.out.2.1; omega, by have := hgk.out.2.2; omega⟩, by go_num, HP1, HL3, B1⟩
    · obtain rfl : k = b := by omega
      go_wp2
      go_end0
      exact ⟨rfl, ⟨n', D', hgk.out.2.2, hP.out, hL.out⟩, hB.out⟩

end Go.Proofs.Ythjpmiidbgaiaaa
