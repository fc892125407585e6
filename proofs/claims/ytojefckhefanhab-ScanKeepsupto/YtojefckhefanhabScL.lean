/- scan.Rewrite, walked (own text of the verifier). -/
import Derived.Test.YtojefckhefanhabScJ
namespace Go.Proofs.Ytojefckhefanhab
open Go.RowKit
namespace Sc

theorem pl_len (f : List UInt8) (o : Nat) (l : List UInt8) : (pl f o l).length ≤ l.length := by
  have : ∀ (n o : Nat) (l : List UInt8), (plN f n o l).length ≤ n := by
    intro n
    induction n with
    | zero => intro o l; exact Nat.le_refl _
    | succ n ih =>
      intro o l
      unfold plN
      by_cases h1 : l.length < 32
      · rw [if_pos h1]; simp
      · rw [if_neg h1]
        by_cases h2 : l.take 32 = f
        · rw [if_pos h2, List.length_cons]; have := ih (o + 32) (l.drop 32); omega
        · rw [if_neg h2]; have := ih (o + 1) (l.drop 1); omega
  exact this _ o l
theorem rw_len {f t : List UInt8} (ht : t.length = 32) (l : List UInt8) : (rw' f t l).length = l.length := by
  have : ∀ (n : Nat) (l : List UInt8), (rwN f t n l).length = l.length := by
    intro n
    induction n with
    | zero => intro l; rfl
    | succ n ih =>
      intro l
      unfold rwN
      by_cases h1 : l.length < 32
      · rw [if_pos h1]
      · rw [if_neg h1]
        by_cases h2 : l.take 32 = f
        · rw [if_pos h2, List.length_append, ih, List.length_drop, ht]; omega
        · rw [if_neg h2, List.length_append, ih, List.length_drop, List.length_take]; omega
  exact this _ l
theorem hshOk_of {f : ByteArray} (h : hsh f = 0) : hshOk f := by
  unfold hsh at h
  by_cases q : hshOk f
  · exact q
  · rw [if_neg q] at h; cases h
theorem isH_of {f : ByteArray} (h : hsh f = 0) : isH Lt f.data.toList := by
  obtain ⟨h1, h2⟩ := hshOk_of h
  have hl : f.data.toList.length = 32 := by rw [Array.length_toList]; exact h1
  refine ⟨hl, fun b hb => ?_⟩
  obtain ⟨k, hk, rfl⟩ := List.mem_iff_getElem.1 hb
  have h3 := h2 k (by omega)
  have hk2 : k < f.size := by rw [h1]; omega
  rw [← get_bt f k hk2] at h3
  exact h3
theorem txt_str (W : World) (s : ByteArray) (c : Nat) (e : TypeId) (z : Nat × Nat) (hc : s.size ≤ c) : Txt (W.alloc (.cells (bytesRow s c) e z)) (.slice (some ⟨W.heap.size, 0, none⟩) s.size c) s.data.toList := by
  have hl : s.data.toList.length = s.size := by rw [Array.length_toList]; rfl
  have hb := heap_alloc_new W (.cells (bytesRow s c) e z)
  rw [← hl]
  refine Txt.mk (by rw [hl]; exact hc) fun i b hi => ?_
  rw [Nat.zero_add, Lib.cell_of_heap hb]
  have hlt : i < s.data.size := by have := (List.getElem?_eq_some_iff.1 hi).1; rw [Array.length_toList] at this; exact this
  rw [bytesRow_at s c i hlt]
  obtain ⟨_, rfl⟩ := List.getElem?_eq_some_iff.1 hi
  rfl

set_option maxRecDepth 100000 in
set_option maxHeartbeats 8000000 in
theorem rewrite_any (x f t : ByteArray) (w : World) (hx : x.size ≤ 268435456) :
    Calls Try.prog 10 #[.string x, .string f, .string t] w fun e w' => Below w.heap.size w w' ∧ ((hsh f ≠ 0 ∧ e = .returned (.tuple #[.string ⟨#[]⟩, .slice none 0 0, .int .i64 (hsh f)])) ∨ (hsh f = 0 ∧ hsh t ≠ 0 ∧ e = .returned (.tuple #[.string ⟨#[]⟩, .slice none 0 0, .int .i64 (hsh t)])) ∨ (hsh f = 0 ∧ hsh t = 0 ∧ ∃ v, w'.ownsRow w.heap.size 3 1 v (pl f.data.toList 0 x.data.toList).length (pv_ (pl f.data.toList 0 x.data.toList)) ∧ e = .returned (.tuple #[.string (ba (rw' f.data.toList t.data.toList x.data.toList)), v, .int .i64 0]))) := by
  have CN := newrw_any f t w
  go_enter Try.func10, Try.ntmps10
  go_wp2_with fail
  with_reducible refine CN.mono ?_
  rintro e w1 ⟨B1, ⟨h1, rfl⟩ | ⟨h1, h2, rfl⟩ | ⟨h1, h2, g, hg, rfl, RM1⟩⟩
  · clear CN
    go_wp2
    go_ret3
    exact ⟨B1, .inl ⟨h1, rfl⟩⟩
  · clear CN
    go_wp2
    go_ret3
    exact ⟨B1, .inr (.inl ⟨h1, h2, rfl⟩)⟩
  · clear CN
    have R1 : Hid _ := RM1
    have HB1 : Hid _ := B1
    have H1 : Hid (hsh f = 0) := h1
    have H2 : Hid (hsh t = 0) := h2
    clear RM1 B1 h1 h2
    have CV := run_bytes_of_string (P := Try.prog) w1 9 31 5 x Try.underlying9 und30 Try.underlying5
    have hcx := grownCap_ge w1 x.size 0 5
    generalize grownCap w1 x.size 0 5 = cx at *
    replace CV : (convert 9 31 (.string x)).run Try.prog w1 = .ok (.slice (some ⟨w1.heap.size, 0, none⟩) x.size cx) (w1.alloc (.cells (bytesRow x cx) 5 ((bytesRow x cx).size, (bytesRow x cx).size + 1))).drew := CV
    have TX : Hid (Txt (w1.alloc (.cells (bytesRow x cx) 5 ((bytesRow x cx).size, (bytesRow x cx).size + 1))).drew _ _) := (txt_str w1 x cx 5 ((bytesRow x cx).size, (bytesRow x cx).size + 1) hcx).below (Below.refl _ _).drew
    have b2 : Below w1.heap.size w1 (w1.alloc (.cells (bytesRow x cx) 5 ((bytesRow x cx).size, (bytesRow x cx).size + 1))).drew := ((Below.refl _ _).alloc (Nat.le_refl _) _).drew
    have R2 : Hid _ := R1.out.below b2
    have B2 : Hid (Below w.heap.size w (w1.alloc (.cells (bytesRow x cx) 5 ((bytesRow x cx).size, (bytesRow x cx).size + 1))).drew) := HB1.out.trans (b2.mono HB1.out.size)
    have hxl : x.data.toList.length = x.size := by rw [Array.length_toList]; rfl
    have lg := R1.out.lt
    clear b2 R1 HB1
    have CF := rfeed_any g [] f.data.toList t.data.toList [] [] x.data.toList [] (.slice none 0 0) (.slice (some ⟨w1.heap.size, 0, none⟩) x.size cx) _ R2.out (GS.start _ _) TX.out (fun a l c e => by injection e with e _ _; injection e with e; subst e; show w1.heap.size ≠ g; omega) (by omega) (by simp) (isH_of H1.out) (isH_of H2.out).len (by simp)
    generalize (w1.alloc (.cells (bytesRow x cx) 5 ((bytesRow x cx).size, (bytesRow x cx).size + 1))).drew = w2 at *
    clear hcx lg
    go_wp2_with fail
    with_reducible refine CF.mono ?_
    rintro e w3 ⟨ans, kept, Ps, pv', rfl, R3, G3, K3, p3⟩
    have RX : Hid (RM w3 g x.data.toList.length kept f.data.toList t.data.toList Ps false pv') := R3
    have GX : Hid (GS f.data.toList t.data.toList x.data.toList ans kept Ps) := G3
    have B3 : Hid (Below w.heap.size w w3) := ⟨K3.os.trans B2.out.os, K3.tape.trans B2.out.tape, K3.output.trans B2.out.output, Nat.le_trans B2.out.size K3.size, fun k hk => (K3.block k (Nat.lt_of_lt_of_le hk B2.out.size) (by omega) (by simp [Value.ownBlock])).trans (B2.out.block k hk)⟩
    clear CF CV R2 TX B2 R3 G3 K3 p3
    have CL := rclose_any g _ _ _ _ _ _ w3 RX.out
    go_wp2_with fail
    with_reducible refine CL.mono ?_
    rintro e w4 ⟨rfl, R4, G4⟩
    have RY : Hid _ := R4
    have B4 : Hid (Below w.heap.size w w4) := B3.out.grown G4 B3.out.size (fun k hk => by have := Option.some.inj hk; omega)
    clear CL RX B3 R4 G4
    have CP := rplaces_any g _ _ _ _ _ _ _ w4 RY.out (by rw [← GX.out.all.2]; have := pl_len f.data.toList 0 x.data.toList; omega)
    have hsum : ans.length + kept.length = x.data.toList.length := by
      have h1 := rw_len (f := f.data.toList) (isH_of H2.out).len x.data.toList
      rw [GX.out.all.1, List.length_append] at h1
      exact h1
    have hz1 := ba_size ans
    have hz2 := ba_size kept
    have hno : ¬ 9223372036854775807 < (ba ans).size + (ba kept).size := by omega
    have hcat : ba ans ++ ba kept = ba (ans ++ kept) := by
      apply ByteArray.ext
      simp [ba]
    clear hz1 hz2 hsum
    go_wp2_with fail
    with_reducible refine CP.mono ?_
    rintro e w5 ⟨v', rfl, o5, b5⟩
    clear CP hno
    go_wp2
    go_ret3
    have hz := B4.out.size
    refine ⟨B4.out.trans (b5.mono hz), .inr (.inr ⟨H1.out, H2.out, v', ?_, ?_⟩)⟩
    · rw [GX.out.all.2]
      exact ⟨o5.1, o5.2.imp id fun ⟨b, cap, cur, e1, e2, e3⟩ => ⟨b, cap, cur, e1, Nat.le_trans hz e2, e3⟩⟩
    · rw [GX.out.all.1]
      rfl

end Sc
end Go.Proofs.Ytojefckhefanhab
