/- The packer's matching, lastPlace, passBy. -/
import Derived.Test.YthjpmiidbgaiaaaPkC
import Derived.Deep.LoopGhost
import Derived.Deep.RegionWith
import Derived.Deep.RegionLaw
namespace Go.Proofs.Ythjpmiidbgaiaaa
open Go.RowKit Go.Maps Go.WideMaps

theorem mch_is (s : List UInt8) (a b n k : Nat) (hk : k ≤ n) (he : ∀ j, j < k → s.getD (a + j) 0 = s.getD (b + j) 0) (hne : k < n → s.getD (a + k) 0 ≠ s.getD (b + k) 0) : mch s a b n 0 = k := by
  have h1 := mch_ge s a b n 0 k (by omega) (fun j _ h => he j h)
  have h2 := mch_le s a b n 0
  apply Nat.le_antisymm _ h1
  apply Nat.le_of_not_lt
  intro h
  exact hne (by omega) (mch_eq s a b n 0 k (Nat.zero_le _) h)

set_option maxHeartbeats 2000000 in
set_option maxRecDepth 10000 in
theorem matching_any (g : Nat) (s : List UInt8) (a b : Nat) (w : World) (c2 : w.cell? ⟨g, 2, none⟩ = some (.string (ba s))) (hs : s.length ≤ 1048576) (hab : a < b) (hb : b < s.length) :
    Calls Try.prog 23 #[.pointer (some ⟨g, 0, none⟩), .int .i64 (a : Int), .int .i64 (b : Int)] w fun e w' => e = .returned (.int .i64 (mch s a b (min 131 (s.length - b)) 0 : Nat)) ∧ ∃ q, w' = w.drewN q := by
  have hsz := ba_size s
  have hgt : ∀ (n : Nat) (h : n < (ba s).size), (((ba s)[n]'h).toNat : Int) = bt (ba s) n := get_bt (ba s)
  have hBT : Hid (∀ i, i < s.length → bt (ba s) i = ((s.getD i 0).toNat : Int)) := bt_get s
  have hMI : Hid (∀ k, k ≤ min 131 (s.length - b) → (∀ j, j < k → s.getD (a + j) 0 = s.getD (b + j) 0) → (k < min 131 (s.length - b) → s.getD (a + k) 0 ≠ s.getD (b + k) 0) → mch s a b (min 131 (s.length - b)) 0 = k) := fun k => mch_is s a b _ k
  obtain ⟨M, hM⟩ : ∃ M, min 131 (s.length - b) = M := ⟨_, rfl⟩
  have hM1 : M ≤ s.length - b := by omega
  have hM2 : M ≤ 131 := by omega
  rw [hM] at hMI ⊢
  have HM : Hid (min 131 (s.length - b) = M) := hM
  clear hM
  have hmin : ((s.length : Int) - (b : Int) < 131 ∧ (s.length : Int) - (b : Int) = (M : Int)) ∨ (¬ (s.length : Int) - (b : Int) < 131 ∧ M = 131) := by
    have := HM.out
    omega
  rcases hmin with ⟨h1, h2⟩ | ⟨h1, h2⟩
  · skip
    go_enter Try.func23, Try.ntmps23
    go_wp2
    go_loopg [18] M (fun gk ix wr => ∃ k : Nat, Hid (gk + k = M) ∧ ix = .int .i64 k ∧ Hid (∀ j, j < k → s.getD (a + j) 0 = s.getD (b + j) 0) ∧ Hid (∃ q, wr = w.drewN q))
    case atStart => exact ⟨0, rfl, rfl, fun j h => absurd h (by omega), ⟨0, rfl⟩⟩
    case round =>
      obtain ⟨k, hgk, rfl, hE, hq⟩ := hrel
      obtain ⟨q, hqq⟩ := hq.out
      subst hqq
      clear hq
      by_cases hk : k < M
      · have x1 := hBT.out (a + k) (by omega)
        have x2 := hBT.out (b + k) (by omega)
        have c2' : (w.drewN q).cell? ⟨g, 2, none⟩ = some (.string (ba s)) := c2
        by_cases he : s.getD (a + k) 0 = s.getD (b + k) 0
        · have HE2 : Hid (∀ j, j < k + 1 → s.getD (a + j) 0 = s.getD (b + j) 0) := fun j hj => by
            by_cases e : j = k
            · rw [e]; exact he
            · exact hE.out j (by omega)
          rw [he] at x1
          generalize s.getD (b + k) 0 = B0 at x1 x2
          clear he
          go_wp2_with fail
          go_quiet (fail)
          generalize hw9 : (w.drewN q).drewN nq = w9
          have HW : Hid (w9 = w.drewN (q + nq)) := by unfold Hid; rw [← hw9, World.drewN_drewN]
          clear hw9
          go_wp2
          go_roundg (gk - 1)
          case measure => have := hgk.out; omega
          case rel => exact ⟨k + 1, by have := hgk.out; unfold Hid; omega, by go_num, HE2, ⟨_, HW.out⟩⟩
        · have HR : Hid (mch s a b M 0 = k) := hMI.out k (by omega) hE.out (fun _ => he)
          have hne : (((s.getD (a + k) 0).toNat : Int) != ((s.getD (b + k) 0).toNat : Int)) = true := by
            rw [bne_iff_ne]
            intro h
            exact he (UInt8.toNat_inj.1 (Int.ofNat_inj.1 h))
          generalize s.getD (a + k) 0 = A0 at x1 hne
          generalize s.getD (b + k) 0 = B0 at x2 hne
          clear he
          go_wp2_with fail
          go_quiet (fail)
          generalize hw9 : (w.drewN q).drewN nq = w9
          have HW : Hid (w9 = w.drewN (q + nq)) := by unfold Hid; rw [← hw9, World.drewN_drewN]
          clear hw9
          go_wp2
          go_ret
          exact ⟨by rw [HR.out]; rfl, _, HW.out⟩
      · have hkM : k = M := by have := hgk.out; omega
        have HR : Hid (mch s a b M 0 = k) := hMI.out k (by omega) hE.out (fun h => absurd h hk)
        subst hkM
        go_wp2
        go_ret
        exact ⟨by rw [HR.out]; rfl, _, rfl⟩
  · subst h2
    go_enter Try.func23, Try.ntmps23
    go_wp2
    go_loopg [18] 131 (fun gk ix wr => ∃ k : Nat, Hid (gk + k = 131) ∧ ix = .int .i64 k ∧ Hid (∀ j, j < k → s.getD (a + j) 0 = s.getD (b + j) 0) ∧ Hid (∃ q, wr = w.drewN q))
    case atStart => exact ⟨0, rfl, rfl, fun j h => absurd h (by omega), ⟨0, rfl⟩⟩
    case round =>
      obtain ⟨k, hgk, rfl, hE, hq⟩ := hrel
      obtain ⟨q, hqq⟩ := hq.out
      subst hqq
      clear hq
      by_cases hk : k < 131
      · have x1 := hBT.out (a + k) (by omega)
        have x2 := hBT.out (b + k) (by omega)
        have c2' : (w.drewN q).cell? ⟨g, 2, none⟩ = some (.string (ba s)) := c2
        by_cases he : s.getD (a + k) 0 = s.getD (b + k) 0
        · have HE2 : Hid (∀ j, j < k + 1 → s.getD (a + j) 0 = s.getD (b + j) 0) := fun j hj => by
            by_cases e : j = k
            · rw [e]; exact he
            · exact hE.out j (by omega)
          rw [he] at x1
          generalize s.getD (b + k) 0 = B0 at x1 x2
          clear he
          go_wp2_with fail
          go_quiet (fail)
          generalize hw9 : (w.drewN q).drewN nq = w9
          have HW : Hid (w9 = w.drewN (q + nq)) := by unfold Hid; rw [← hw9, World.drewN_drewN]
          clear hw9
          go_wp2
          go_roundg (gk - 1)
          case measure => have := hgk.out; omega
          case rel => exact ⟨k + 1, by have := hgk.out; unfold Hid; omega, by go_num, HE2, ⟨_, HW.out⟩⟩
        · have HR : Hid (mch s a b 131 0 = k) := hMI.out k (by omega) hE.out (fun _ => he)
          have hne : (((s.getD (a + k) 0).toNat : Int) != ((s.getD (b + k) 0).toNat : Int)) = true := by
            rw [bne_iff_ne]
            intro h
            exact he (UInt8.toNat_inj.1 (Int.ofNat_inj.1 h))
          generalize s.getD (a + k) 0 = A0 at x1 hne
          generalize s.getD (b + k) 0 = B0 at x2 hne
          clear he
          go_wp2_with fail
          go_quiet (fail)
          generalize hw9 : (w.drewN q).drewN nq = w9
          have HW : Hid (w9 = w.drewN (q + nq)) := by unfold Hid; rw [← hw9, World.drewN_drewN]
          clear hw9
          go_wp2
          go_ret
          exact ⟨by rw [HR.out]; rfl, _, HW.out⟩
      · have hkM : k = 131 := by have := hgk.out; omega
        have HR : Hid (mch s a b 131 0 = 131) := hMI.out 131 (by omega) (hkM ▸ hE.out) (fun h => absurd h (by omega))
        subst hkM
        go_wp2
        go_ret
        exact ⟨by rw [HR.out]; rfl, _, rfl⟩

/-- The map tells where each four bytes stood last ahead of i. -/
def LastOK (s : List UInt8) (i : Nat) (D : DataW Unit) : Prop := ∀ k, match lastOf s k i with
  | some p => Maps.has D (.string k) = true ∧ D.atKey (.string k) (.lit (.int .i64 0)) = .lit (.int .i64 (p : Int))
  | none => Maps.has D (.string k) = false

/-- What lastPlace leaves. -/
def LPost (s FK : List UInt8) (i : Nat) (e : Ending) : Prop := match lastOf s FK i with | some p => e = .returned (.tuple #[.int .i64 (p : Int), .bool true]) | none => ∃ z, e = .returned (.tuple #[.int .i64 z, .bool false])

theorem undMAP : Try.prog.underlying 58 = some (.map 84 3) := by kernel_rfl
theorem undI : Try.prog.underlying 3 = some (.int .i64) := by kernel_rfl
theorem zero3 (w : World) : (zeroValue 3).run Try.prog w = .ok (.int .i64 0) w := by kernel_rfl

set_option maxHeartbeats 2000000 in
set_option maxRecDepth 10000 in
theorem lastPlace_none (g m : Nat) (v : Value) (s out : List UInt8) (pl n : Nat) (D : DataW Unit) (i : Nat) (w : World) (h : Pk w g m v s out pl n D) (hs : s.length ≤ 1048576) (hi : i ≤ s.length) (h4 : ¬ i + 4 ≤ s.length) :
    Calls Try.prog 22 #[.pointer (some ⟨g, 0, none⟩), .int .i64 (i : Int)] w fun e w' => e = .returned (.tuple #[.int .i64 0, .bool false]) ∧ Below w.heap.size w w' := by
  have c2 : w.cell? ⟨g, 2, none⟩ = some (.string (ba s)) := by rw [Lib.cell_of_heap h.blk]; rfl
  have FC := four_none g s i w c2 h.lt hs hi h4
  clear h
  go_enter Try.func22, Try.ntmps22
  go_wp2_with fail
  refine FC.mono ?_
  rintro e w1 ⟨rfl, b1⟩
  have B1 : Hid (Below w.heap.size w w1) := b1
  have B1s : Hid (w.heap.size ≤ w1.heap.size) := b1.size
  clear b1 FC
  go_wp2
  go_ret2
  exact ⟨rfl, B1.out.alloc B1s.out _⟩

set_option maxHeartbeats 2000000 in
set_option maxRecDepth 10000 in
theorem lastPlace_some (g m : Nat) (v : Value) (s out : List UInt8) (pl n : Nat) (D : DataW Unit) (i : Nat) (w : World) (h : Pk w g m v s out pl n D) (hs : s.length ≤ 1048576) (h4 : i + 4 ≤ s.length) (hD : LastOK s i D) :
    Calls Try.prog 22 #[.pointer (some ⟨g, 0, none⟩), .int .i64 (i : Int)] w fun e w' => LPost s (fourAt s i) i e ∧ Below w.heap.size w w' := by
  have c2 : w.cell? ⟨g, 2, none⟩ = some (.string (ba s)) := by rw [Lib.cell_of_heap h.blk]; rfl
  have c3 : w.cell? ⟨g, 3, none⟩ = some (.map (some m)) := by rw [Lib.cell_of_heap h.blk]; rfl
  have FC := four_some g s i w c2 h.lt hs h4
  have HP : Hid (Pk w g m v s out pl n D) := h
  have HD : Hid (LastOK s i D) := hD
  have hF : Hid (fourAt s i = [s.getD i 0, s.getD (i + 1) 0, s.getD (i + 2) 0, s.getD (i + 3) 0]) := rfl
  have hg := h.lt
  clear h hD
  generalize s.getD i 0 = k0 at FC hF
  generalize s.getD (i + 1) 0 = k1 at FC hF
  generalize s.getD (i + 2) 0 = k2 at FC hF
  generalize s.getD (i + 3) 0 = k3 at FC hF
  have hK := key4 k0 k1 k2 k3
  rw [← hF.out] at hK
  go_enter Try.func22, Try.ntmps22
  go_wp2_with fail
  refine FC.mono ?_
  rintro e w1 ⟨rfl, b1⟩
  have HP1 : Hid (Pk (w1.alloc (.cells #[.int .u8 (k0.toNat : Int), .int .u8 (k1.toNat : Int), .int .u8 (k2.toNat : Int), .int .u8 (k3.toNat : Int)] 84)) g m v s out pl n D) := (HP.out.below b1).below ((Below.refl _ _).alloc (Nat.le_refl _) _)
  have B1 : Hid (Below w.heap.size w (w1.alloc (.cells #[.int .u8 (k0.toNat : Int), .int .u8 (k1.toNat : Int), .int .u8 (k2.toNat : Int), .int .u8 (k3.toNat : Int)] 84))) := b1.alloc b1.size _
  have q1 : Hid (St (w1.alloc (.cells #[.int .u8 (k0.toNat : Int), .int .u8 (k1.toNat : Int), .int .u8 (k2.toNat : Int), .int .u8 (k3.toNat : Int)] 84)) w1.heap.size [.int .u8 (k0.toNat : Int), .int .u8 (k1.toNat : Int), .int .u8 (k2.toNat : Int), .int .u8 (k3.toNat : Int)]) := St.new w1 _ _
  clear b1 FC c2 c3
  unfold kv
  go_wp2_with fail
  generalize w1.alloc (.cells #[.int .u8 (k0.toNat : Int), .int .u8 (k1.toNat : Int), .int .u8 (k2.toNat : Int), .int .u8 (k3.toNat : Int)] 84) = W2 at HP1 B1 q1 ⊢
  have c3 : W2.cell? ⟨g, 3, none⟩ = some (.map (some m)) := by rw [Lib.cell_of_heap HP1.out.blk]; rfl
  have z0 := q1.out.get 0 _ rfl
  have z1 := q1.out.get 1 _ rfl
  have z2 := q1.out.get 2 _ rfl
  have z3 := q1.out.get 3 _ rfl
  have LK : ∀ q, ∃ c : Int, (Instr.lookup 58 (.map (some m)) (.agg #[.int .u8 (k0.toNat : Int), .int .u8 (k1.toNat : Int), .int .u8 (k2.toNat : Int), .int .u8 (k3.toNat : Int)]) true).run Try.prog (W2.drewN q) = .ok (.tuple #[.int .i64 c, .bool (Maps.has D (.string (fourAt s i)))]) (W2.drewN q) ∧ D.atKey (.string (fourAt s i)) (.lit (.int .i64 0)) = .lit (.int .i64 c) := fun q => by
    obtain ⟨v1, ps, hr, hv⟩ := World.ownsMap.look_ok ((HP1.out.drewN q).mp) law84 undMAP (zero3 _) (plainElem_int undI (by decide)) hK
    obtain ⟨c, rfl, hc, _⟩ := plainElem_int_inv undI hv
    exact ⟨c, hr, congrArg Prod.fst hc⟩
  have hDk := HD.out (fourAt s i)
  generalize hFK : fourAt s i = FK at *
  have HFK : Hid (fourAt s i = FK) := hFK
  clear hFK
  obtain ⟨c, -, hc⟩ := LK 0
  have LK' : ∀ q, (Instr.lookup 58 (.map (some m)) (.agg #[.int .u8 (k0.toNat : Int), .int .u8 (k1.toNat : Int), .int .u8 (k2.toNat : Int), .int .u8 (k3.toNat : Int)]) true).run Try.prog (W2.drewN q) = .ok (.tuple #[.int .i64 c, .bool (Maps.has D (.string FK))]) (W2.drewN q) := fun q => by
    obtain ⟨c', hr, hc'⟩ := LK q
    rw [hc] at hc'
    injection hc' with hc'
    injection hc' with _ hc'
    subst hc'
    exact hr
  clear LK
  have HDK : Hid (match lastOf s FK i with
    | some p => Maps.has D (.string FK) = true ∧ D.atKey (.string FK) (.lit (.int .i64 0)) = .lit (.int .i64 (p : Int))
    | none => Maps.has D (.string FK) = false) := hDk
  have HC : Hid (D.atKey (.string FK) (.lit (.int .i64 0)) = .lit (.int .i64 c)) := hc
  clear hDk hc
  have POST : Hid (LPost s FK i (Ending.returned (.tuple #[.int .i64 c, .bool (Maps.has D (.string FK))]))) := by
    have h := HDK.out
    unfold Hid LPost
    cases hl : lastOf s FK i with
    | none =>
      rw [hl] at h
      dsimp only at h ⊢
      exact ⟨c, by rw [h]⟩
    | some p =>
      rw [hl] at h
      dsimp only at h ⊢
      have hh := h.2
      rw [HC.out] at hh
      injection hh with hh
      injection hh with _ hh
      rw [h.1, hh]
  clear HDK HC
  have HPO : Hid (∀ X : Bool, X = Maps.has D (.string FK) → X = Maps.has D (.string FK)) := fun _ h => h
  generalize Maps.has D (.string FK) = X at LK' POST HPO
  go_quiet (fail)
  generalize hw9 : W2.drewN nq = w9
  have HW : Hid (Below w.heap.size w w9) := by unfold Hid; rw [← hw9]; exact bel_drewN B1.out nq
  clear hw9
  go_wp2
  go_ret2
  exact ⟨by rw [HFK.out]; exact POST.out, HW.out⟩

theorem lastOf_step (s k : List UInt8) (i : Nat) : lastOf s k (i + 1) = if i + 4 ≤ s.length ∧ fourAt s i = k then some i else lastOf s k i := rfl
theorem LastOK.pass {s : List UInt8} {i : Nat} {D : DataW Unit} (h : LastOK s i D) (h4 : ¬ i + 4 ≤ s.length) : LastOK s (i + 1) D := fun k => by
  rw [lastOf_step, if_neg (fun c => h4 c.1)]
  exact h k
theorem LastOK.put {s : List UInt8} {i : Nat} {D : DataW Unit} (h : LastOK s i D) (hm : IsMap D) (h4 : i + 4 ≤ s.length) : LastOK s (i + 1) (D.put (.string (fourAt s i)) (.lit (.int .i64 (i : Int)))) := fun k => by
  rw [lastOf_step]
  by_cases e : fourAt s i = k
  · rw [if_pos ⟨h4, e⟩]
    subst e
    exact ⟨has_put_same hm (by unfold WideAt.IsKeyLit; trivial) _, atKey_put_same hm (by unfold WideAt.IsKeyLit; trivial) _ _⟩
  · rw [if_neg (fun c => e c.2)]
    have hk := h k
    have hne : Lit.string k ≠ Lit.string (fourAt s i) := fun c => e (by injection c with c; exact c.symm)
    rw [has_put_other hne, atKey_put_other hne]
    exact hk

end Go.Proofs.Ythjpmiidbgaiaaa
