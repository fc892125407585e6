/- scan.Rewriter's Close and Places, walked (own text of the verifier). -/
import Derived.Test.YtojefckhefanhabScG
namespace Go.Proofs.Ytojefckhefanhab
open Go.RowKit
namespace Sc

theorem gbt {a b c : World} {r : Option Nat} (h : a.grownBy b r) (k : b.grownBy c r) : a.grownBy c r := ⟨k.os.trans h.os, k.tape.trans h.tape, k.output.trans h.output, Nat.le_trans h.size k.size, fun i h1 h2 => (k.block i (Nat.lt_of_lt_of_le h1 h.size) h2).trans (h.block i h1 h2)⟩
theorem RM.shut {W : World} {g n : Nat} {kept f t : List UInt8} {Ps : List Nat} {cl : Bool} {pv : Value} (h : RM W g n kept f t Ps cl pv) (v : Bool) : RM (W.setCell ⟨g, 36, none⟩ (.bool v)) g n kept f t Ps v pv := by
  have co : ∀ i, i ≠ 36 → (W.setCell ⟨g, 36, none⟩ (.bool v)).cell? ⟨g, i, none⟩ = W.cell? ⟨g, i, none⟩ := fun i hi => World.cell?_setCell_other _ _ _ _ (by intro q; injection q with _ q; exact hi q.symm)
  have fo : ∀ i, (W.setCell ⟨g, 36, none⟩ (.bool v)).frozen? ⟨g, i, none⟩ = W.frozen? ⟨g, i, none⟩ := fun i => World.frozen?_setCell _ _ _ _
  have hw := h.win
  have hsh := hw.sh
  refine ⟨⟨(co 0 (by omega)).trans hw.c0, (fo 0).trans hw.f0, (co 1 (by omega)).trans hw.c1, (fo 1).trans hw.f1, fun i b hb => (co _ (by have := (List.getElem?_eq_some_iff.1 hb).1; omega)).trans (hw.kp i b hb), fun i hi => by rw [co _ (by omega)]; exact hw.rm i hi, fun i hi => (fo _).trans (hw.fr i hi), hsh⟩, (co 33 (by omega)).trans h.cf, (co 34 (by omega)).trans h.ct, (co 35 (by omega)).trans h.cp, (fo 35).trans h.fp, World.cell?_setCell_same _ _ _ h.cc, (fo 36).trans h.fc, row_same h.pr (fun k hk => Below.heap_setCell W ⟨g, 36, none⟩ _ k (fun q => h.pg (by rw [hk, q]))), h.pg⟩

set_option maxRecDepth 100000 in
set_option maxHeartbeats 8000000 in
theorem rclose_any (g n : Nat) (f t kept : List UInt8) (Ps : List Nat) (pv : Value) (w : World) {cl : Bool} (hR : RM w g n kept f t Ps cl pv) :
    Calls Try.prog 9 #[.pointer (some ⟨g, 0, none⟩)] w fun e w' => e = .returned (.string (ba kept)) ∧ RM w' g n [] f t Ps true pv ∧ w.grownBy w' (some g) := by
  have HR : Hid (RM w g n kept f t Ps cl pv) := hR
  clear hR
  have CK := kept_any g n kept w HR.out.win
  go_enter Try.func9, Try.ntmps9
  go_wp2_with fail
  with_reducible refine CK.mono ?_
  rintro e w1 ⟨rfl, q, rfl⟩
  clear CK
  have R1 : Hid (RM (w.drewN q) g n kept f t Ps cl pv) := HR.out.below ⟨rfl, rfl, rfl, Nat.le_refl _, fun _ _ => rfl⟩
  have K1 : Hid (w.grownBy (w.drewN q) none) := ⟨rfl, rfl, rfl, Nat.le_refl _, fun _ _ _ => rfl⟩
  generalize w.drewN q = w1 at *
  have T1 : Txt w1 (.slice (some ⟨g, 2, none⟩) kept.length kept.length) kept := Txt.mk (Nat.le_refl _) fun i b hb => R1.out.win.kp i b hb
  have CV := conv_win T1 (p := 0) (q := kept.length) (Nat.zero_le _) (Nat.le_refl _) kept.length
  rw [List.take_length, List.drop_zero, Nat.add_zero, Nat.sub_zero] at CV
  clear T1
  go_wp2_with fail
  have CP := keep_any g n kept (.slice none 0 0) [] w1 R1.out.win (Txt.nil rfl rfl) (by simp)
  with_reducible refine CP.mono ?_
  rintro e w2 ⟨rfl, W2, G2, h2⟩
  clear CP CV
  have R2 : Hid (RM w2 g n [] f t Ps cl pv) := R1.out.taken W2 G2 h2
  have G : Hid (w.grownBy w2 (some g)) := gbt ⟨K1.out.os, K1.out.tape, K1.out.output, K1.out.size, fun k h1 _ => K1.out.block k h1 (by simp)⟩ G2
  clear W2 G2 h2 R1 K1
  have c36 := R2.out.cc
  have f36 := R2.out.fc
  go_wp2_with fail
  go_ret
  exact ⟨rfl, R2.out.shut true, gbt G.out (gb_setC w2 g 36 _)⟩

end Sc
end Go.Proofs.Ytojefckhefanhab
