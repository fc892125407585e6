/- Gathered: PkD PkE PkA PkF PkG PkH PkI. -/
import Derived.Test.YtljcbibcdajhiaaQb
import Derived.Deep.LoopGhost
import Derived.Deep.RegionWith
import Derived.Deep.RegionLaw
import Derived.Deep.RegionHeld3
/- The packer's matching, lastPlace, passBy. -/
namespace Go.Proofs.Ytljcbibcdajhiaa
open Go.RowKit Go.Maps Go.WideMaps

theorem mch_is (s : List UInt8) (a b n k : Nat) (hk : k ≤ n) (he : ∀ j, j < k → s.getD (a + j) 0 = s.getD (b + j) 0) (hne : k < n → s.getD (a + k) 0 ≠ s.getD (b + k) 0) : mch s a b n 0 = k := by
  have h1 := mch_ge s a b n 0 k (by omega) (fun j _ h => he j h)
  have h2 := mch_le s a b n 0
  apply Nat.le_antisymm _ h1
  apply Nat.le_of_not_lt
  intro h
  exact hne (by omega) (mch_eq s a b n 0 k (Nat.zero_le _) h)

set_option maxHeartbeats 2000000 in
set_option maxRecDepth 10000 in
theorem matching_any (g : Nat) (s : List UInt8) (a b : Nat) (w : World) (c2 : w.cell? ⟨g, 2, none⟩ = some (.string (ba s))) (hs : s.length ≤ 1048576) (hab : a < b) (hb : b < s.length) :
    Calls Try.prog 21 #[.pointer (some ⟨g, 0, none⟩), .int .i64 (a : Int), .int .i64 (b : Int)] w fun e w' => e = .returned (.int .i64 (mch s a b (min 131 (s.length - b)) 0 : Nat)) ∧ ∃ q, w' = w.drewN q := by
  have hsz := ba_size s
  have hgt : ∀ (n : Nat) (h : n < (ba s).size), (((ba s)[n]'h).toNat : Int) = bt (ba s) n := get_bt (ba s)
  have hBT : Hid (∀ i, i < s.length → bt (ba s) i = ((s.getD i 0).toNat : Int)) := bt_get s
  have hMI : Hid (∀ k, k ≤ min 131 (s.length - b) → (∀ j, j < k → s.getD (a + j) 0 = s.getD (b + j) 0) → (k < min 131 (s.length - b) → s.getD (a + k) 0 ≠ s.getD (b + k) 0) → mch s a b (min 131 (s.length - b)) 0 = k) := fun k => mch_is s a b _ k
  obtain ⟨M, hM⟩ : ∃ M, min 131 (s.length - b) = M := ⟨_, rfl⟩
  have hM1 : M ≤ s.length - b := by omega
  have hM2 : M ≤ 131 := by omega
  rw [hM] at hMI ⊢
  have HM : Hid (min 131 (s.length - b) = M) := hM
  clear hM
  have hmin : ((s.length : Int) - (b : Int) < 131 ∧ (s.length : Int) - (b : Int) = (M : Int)) ∨ (¬ (s.length : Int) - (b : Int) < 131 ∧ M = 131) := by
    have := HM.out
    omega
  rcases hmin with ⟨h1, h2⟩ | ⟨h1, h2⟩
  · skip
    go_enter Try.func21, Try.ntmps21
    go_wp2
    go_loopg [18] M (fun gk ix wr => ∃ k : Nat, Hid (gk + k = M) ∧ ix = .int .i64 k ∧ Hid (∀ j, j < k → s.getD (a + j) 0 = s.getD (b + j) 0) ∧ Hid (∃ q, wr = w.drewN q))
    case atStart => exact ⟨0, rfl, rfl, fun j h => absurd h (by omega), ⟨0, rfl⟩⟩
    case round =>
      obtain ⟨k, hgk, rfl, hE, hq⟩ := hrel
      obtain ⟨q, hqq⟩ := hq.out
      subst hqq
      clear hq
      by_cases hk : k < M
      · have x1 := hBT.out (a + k) (by omega)
        have x2 := hBT.out (b + k) (by omega)
        have c2' : (w.drewN q).cell? ⟨g, 2, none⟩ = some (.string (ba s)) := c2
        by_cases he : s.getD (a + k) 0 = s.getD (b + k) 0
        · have HE2 : Hid (∀ j, j < k + 1 → s.getD (a + j) 0 = s.getD (b + j) 0) := fun j hj => by
            by_cases e : j = k
            · rw [e]; exact he
            · exact hE.out j (by omega)
          rw [he] at x1
          generalize s.getD (b + k) 0 = B0 at x1 x2
          clear he
          go_wp2_with fail
          go_quiet (fail)
          generalize hw9 : (w.drewN q).drewN nq = w9
          have HW : Hid (w9 = w.drewN (q + nq)) := by unfold Hid; rw [← hw9, World.drewN_drewN]
          clear hw9
          go_wp2
          go_roundg (gk - 1)
          case measure => have := hgk.out; omega
          case rel => exact ⟨k + 1, by have := hgk.out; unfold Hid; omega, by go_num, HE2, ⟨_, HW.out⟩⟩
        · have HR : Hid (mch s a b M 0 = k) := hMI.out k (by omega) hE.out (fun _ => he)
          have hne : (((s.getD (a + k) 0).toNat : Int) != ((s.getD (b + k) 0).toNat : Int)) = true := by
            rw [bne_iff_ne]
            intro h
            exact he (UInt8.toNat_inj.1 (Int.ofNat_inj.1 h))
          generalize s.getD (a + k) 0 = A0 at x1 hne
          generalize s.getD (b + k) 0 = B0 at x2 hne
          clear he
          go_wp2_with fail
          go_quiet (fail)
          generalize hw9 : (w.drewN q).drewN nq = w9
          have HW : Hid (w9 = w.drewN (q + nq)) := by unfold Hid; rw [← hw9, World.drewN_drewN]
          clear hw9
          go_wp2
          go_ret
          exact ⟨by rw [HR.out]; rfl, _, HW.out⟩
      · have hkM : k = M := by have := hgk.out; omega
        have HR : Hid (mch s a b M 0 = k) := hMI.out k (by omega) hE.out (fun h => absurd h hk)
        subst hkM
        go_wp2
        go_ret
        exact ⟨by rw [HR.out]; rfl, _, rfl⟩
  · subst h2
    go_enter Try.func21, Try.ntmps21
    go_wp2
    go_loopg [18] 131 (fun gk ix wr => ∃ k : Nat, Hid (gk + k = 131) ∧ ix = .int .i64 k ∧ Hid (∀ j, j < k → s.getD (a + j) 0 = s.getD (b + j) 0) ∧ Hid (∃ q, wr = w.drewN q))
    case atStart => exact ⟨0, rfl, rfl, fun j h => absurd h (by omega), ⟨0, rfl⟩⟩
    case round =>
      obtain ⟨k, hgk, rfl, hE, hq⟩ := hrel
      obtain ⟨q, hqq⟩ := hq.out
      subst hqq
      clear hq
      by_cases hk : k < 131
      · have x1 := hBT.out (a + k) (by omega)
        have x2 := hBT.out (b + k) (by omega)
        have c2' : (w.drewN q).cell? ⟨g, 2, none⟩ = some (.string (ba s)) := c2
        by_cases he : s.getD (a + k) 0 = s.getD (b + k) 0
        · have HE2 : Hid (∀ j, j < k + 1 → s.getD (a + j) 0 = s.getD (b + j) 0) := fun j hj => by
            by_cases e : j = k
            · rw [e]; exact he
            · exact hE.out j (by omega)
          rw [he] at x1
          generalize s.getD (b + k) 0 = B0 at x1 x2
          clear he
          go_wp2_with fail
          go_quiet (fail)
          generalize hw9 : (w.drewN q).drewN nq = w9
          have HW : Hid (w9 = w.drewN (q + nq)) := by unfold Hid; rw [← hw9, World.drewN_drewN]
          clear hw9
          go_wp2
          go_roundg (gk - 1)
          case measure => have := hgk.out; omega
          case rel => exact ⟨k + 1, by have := hgk.out; unfold Hid; omega, by go_num, HE2, ⟨_, HW.out⟩⟩
        · have HR : Hid (mch s a b 131 0 = k) := hMI.out k (by omega) hE.out (fun _ => he)
          have hne : (((s.getD (a + k) 0).toNat : Int) != ((s.getD (b + k) 0).toNat : Int)) = true := by
            rw [bne_iff_ne]
            intro h
            exact he (UInt8.toNat_inj.1 (Int.ofNat_inj.1 h))
          generalize s.getD (a + k) 0 = A0 at x1 hne
          generalize s.getD (b + k) 0 = B0 at x2 hne
          clear he
          go_wp2_with fail
          go_quiet (fail)
          generalize hw9 : (w.drewN q).drewN nq = w9
          have HW : Hid (w9 = w.drewN (q + nq)) := by unfold Hid; rw [← hw9, World.drewN_drewN]
          clear hw9
          go_wp2
          go_ret
          exact ⟨by rw [HR.out]; rfl, _, HW.out⟩
      · have hkM : k = 131 := by have := hgk.out; omega
        have HR : Hid (mch s a b 131 0 = 131) := hMI.out 131 (by omega) (hkM ▸ hE.out) (fun h => absurd h (by omega))
        subst hkM
        go_wp2
        go_ret
        exact ⟨by rw [HR.out]; rfl, _, rfl⟩

/-- The map tells where each four bytes stood last ahead of i. -/
def LastOK (s : List UInt8) (i : Nat) (D : DataW Unit) : Prop := ∀ k, match lastOf s k i with
  | some p => Maps.has D (.string k) = true ∧ D.atKey (.string k) (.lit (.int .i64 0)) = .lit (.int .i64 (p : Int))
  | none => Maps.has D (.string k) = false

/-- What lastPlace leaves. -/
def LPost (s FK : List UInt8) (i : Nat) (e : Ending) : Prop := match lastOf s FK i with | some p => e = .returned (.tuple #[.int .i64 (p : Int), .bool true]) | none => ∃ z, e = .returned (.tuple #[.int .i64 z, .bool false])

theorem undMAP : Try.prog.underlying 57 = some (.map 94 3) := by kernel_rfl
theorem undI : Try.prog.underlying 3 = some (.int .i64) := by kernel_rfl
theorem zero3 (w : World) : (zeroValue 3).run Try.prog w = .ok (.int .i64 0) w := by kernel_rfl

set_option maxHeartbeats 2000000 in
set_option maxRecDepth 10000 in
theorem lastPlace_none (g m : Nat) (v : Value) (s out : List UInt8) (pl n : Nat) (D : DataW Unit) (i : Nat) (w : World) (h : Pk w g m v s out pl n D) (hs : s.length ≤ 1048576) (hi : i ≤ s.length) (h4 : ¬ i + 4 ≤ s.length) :
    Calls Try.prog 20 #[.pointer (some ⟨g, 0, none⟩), .int .i64 (i : Int)] w fun e w' => e = .returned (.tuple #[.int .i64 0, .bool false]) ∧ Below w.heap.size w w' := by
  have c2 : w.cell? ⟨g, 2, none⟩ = some (.string (ba s)) := by rw [Lib.cell_of_heap h.blk]; rfl
  have FC := four_none g s i w c2 h.lt hs hi h4
  clear h
  go_enter Try.func20, Try.ntmps20
  go_wp2_with fail
  refine FC.mono ?_
  rintro e w1 ⟨rfl, b1⟩
  have B1 : Hid (Below w.heap.size w w1) := b1
  have B1s : Hid (w.heap.size ≤ w1.heap.size) := b1.size
  clear b1 FC
  go_wp2
  go_ret2
  exact ⟨rfl, B1.out.alloc B1s.out _⟩

set_option maxHeartbeats 2000000 in
set_option maxRecDepth 10000 in
theorem lastPlace_some (g m : Nat) (v : Value) (s out : List UInt8) (pl n : Nat) (D : DataW Unit) (i : Nat) (w : World) (h : Pk w g m v s out pl n D) (hs : s.length ≤ 1048576) (h4 : i + 4 ≤ s.length) (hD : LastOK s i D) :
    Calls Try.prog 20 #[.pointer (some ⟨g, 0, none⟩), .int .i64 (i : Int)] w fun e w' => LPost s (fourAt s i) i e ∧ Below w.heap.size w w' := by
  have c2 : w.cell? ⟨g, 2, none⟩ = some (.string (ba s)) := by rw [Lib.cell_of_heap h.blk]; rfl
  have c3 : w.cell? ⟨g, 3, none⟩ = some (.map (some m)) := by rw [Lib.cell_of_heap h.blk]; rfl
  have FC := four_some g s i w c2 h.lt hs h4
  have HP : Hid (Pk w g m v s out pl n D) := h
  have HD : Hid (LastOK s i D) := hD
  have hF : Hid (fourAt s i = [s.getD i 0, s.getD (i + 1) 0, s.getD (i + 2) 0, s.getD (i + 3) 0]) := rfl
  have hg := h.lt
  clear h hD
  generalize s.getD i 0 = k0 at FC hF
  generalize s.getD (i + 1) 0 = k1 at FC hF
  generalize s.getD (i + 2) 0 = k2 at FC hF
  generalize s.getD (i + 3) 0 = k3 at FC hF
  have hK := key4 k0 k1 k2 k3
  rw [← hF.out] at hK
  go_enter Try.func20, Try.ntmps20
  go_wp2_with fail
  refine FC.mono ?_
  rintro e w1 ⟨rfl, b1⟩
  have HP1 : Hid (Pk (w1.alloc (.cells #[.int .u8 (k0.toNat : Int), .int .u8 (k1.toNat : Int), .int .u8 (k2.toNat : Int), .int .u8 (k3.toNat : Int)] 94)) g m v s out pl n D) := (HP.out.below b1).below ((Below.refl _ _).alloc (Nat.le_refl _) _)
  have B1 : Hid (Below w.heap.size w (w1.alloc (.cells #[.int .u8 (k0.toNat : Int), .int .u8 (k1.toNat : Int), .int .u8 (k2.toNat : Int), .int .u8 (k3.toNat : Int)] 94))) := b1.alloc b1.size _
  have q1 : Hid (StK (w1.alloc (.cells #[.int .u8 (k0.toNat : Int), .int .u8 (k1.toNat : Int), .int .u8 (k2.toNat : Int), .int .u8 (k3.toNat : Int)] 94)) w1.heap.size [.int .u8 (k0.toNat : Int), .int .u8 (k1.toNat : Int), .int .u8 (k2.toNat : Int), .int .u8 (k3.toNat : Int)]) := StK.new w1 _ _
  clear b1 FC c2 c3
  unfold kv
  go_wp2_with fail
  generalize w1.alloc (.cells #[.int .u8 (k0.toNat : Int), .int .u8 (k1.toNat : Int), .int .u8 (k2.toNat : Int), .int .u8 (k3.toNat : Int)] 94) = W2 at HP1 B1 q1 ⊢
  have c3 : W2.cell? ⟨g, 3, none⟩ = some (.map (some m)) := by rw [Lib.cell_of_heap HP1.out.blk]; rfl
  have z0 := q1.out.get 0 _ rfl
  have z1 := q1.out.get 1 _ rfl
  have z2 := q1.out.get 2 _ rfl
  have z3 := q1.out.get 3 _ rfl
  have LK : ∀ q, ∃ c : Int, (Instr.lookup 57 (.map (some m)) (.agg #[.int .u8 (k0.toNat : Int), .int .u8 (k1.toNat : Int), .int .u8 (k2.toNat : Int), .int .u8 (k3.toNat : Int)]) true).run Try.prog (W2.drewN q) = .ok (.tuple #[.int .i64 c, .bool (Maps.has D (.string (fourAt s i)))]) (W2.drewN q) ∧ D.atKey (.string (fourAt s i)) (.lit (.int .i64 0)) = .lit (.int .i64 c) := fun q => by
    obtain ⟨v1, ps, hr, hv⟩ := World.ownsMap.look_ok ((HP1.out.drewN q).mp) law84 undMAP (zero3 _) (plainElem_int undI (by decide)) hK
    obtain ⟨c, rfl, hc, _⟩ := plainElem_int_inv undI hv
    exact ⟨c, hr, congrArg Prod.fst hc⟩
  have hDk := HD.out (fourAt s i)
  generalize hFK : fourAt s i = FK at *
  have HFK : Hid (fourAt s i = FK) := hFK
  clear hFK
  obtain ⟨c, -, hc⟩ := LK 0
  have LK' : ∀ q, (Instr.lookup 57 (.map (some m)) (.agg #[.int .u8 (k0.toNat : Int), .int .u8 (k1.toNat : Int), .int .u8 (k2.toNat : Int), .int .u8 (k3.toNat : Int)]) true).run Try.prog (W2.drewN q) = .ok (.tuple #[.int .i64 c, .bool (Maps.has D (.string FK))]) (W2.drewN q) := fun q => by
    obtain ⟨c', hr, hc'⟩ := LK q
    rw [hc] at hc'
    injection hc' with hc'
    injection hc' with _ hc'
    subst hc'
    exact hr
  clear LK
  have HDK : Hid (match lastOf s FK i with
    | some p => Maps.has D (.string FK) = true ∧ D.atKey (.string FK) (.lit (.int .i64 0)) = .lit (.int .i64 (p : Int))
    | none => Maps.has D (.string FK) = false) := hDk
  have HC : Hid (D.atKey (.string FK) (.lit (.int .i64 0)) = .lit (.int .i64 c)) := hc
  clear hDk hc
  have POST : Hid (LPost s FK i (Ending.returned (.tuple #[.int .i64 c, .bool (Maps.has D (.string FK))]))) := by
    have h := HDK.out
    unfold Hid LPost
    cases hl : lastOf s FK i with
    | none =>
      rw [hl] at h
      dsimp only at h ⊢
      exact ⟨c, by rw [h]⟩
    | some p =>
      rw [hl] at h
      dsimp only at h ⊢
      have hh := h.2
      rw [HC.out] at hh
      injection hh with hh
      injection hh with _ hh
      rw [h.1, hh]
  clear HDK HC
  have HPO : Hid (∀ X : Bool, X = Maps.has D (.string FK) → X = Maps.has D (.string FK)) := fun _ h => h
  generalize Maps.has D (.string FK) = X at LK' POST HPO
  go_quiet (fail)
  generalize hw9 : W2.drewN nq = w9
  have HW : Hid (Below w.heap.size w w9) := by unfold Hid; rw [← hw9]; exact bel_drewN B1.out nq
  clear hw9
  go_wp2
  go_ret2
  exact ⟨by rw [HFK.out]; exact POST.out, HW.out⟩

theorem lastOf_step (s k : List UInt8) (i : Nat) : lastOf s k (i + 1) = if i + 4 ≤ s.length ∧ fourAt s i = k then some i else lastOf s k i := rfl
theorem LastOK.pass {s : List UInt8} {i : Nat} {D : DataW Unit} (h : LastOK s i D) (h4 : ¬ i + 4 ≤ s.length) : LastOK s (i + 1) D := fun k => by
  rw [lastOf_step, if_neg (fun c => h4 c.1)]
  exact h k
theorem LastOK.put {s : List UInt8} {i : Nat} {D : DataW Unit} (h : LastOK s i D) (hm : IsMap D) (h4 : i + 4 ≤ s.length) : LastOK s (i + 1) (D.put (.string (fourAt s i)) (.lit (.int .i64 (i : Int)))) := fun k => by
  rw [lastOf_step]
  by_cases e : fourAt s i = k
  · rw [if_pos ⟨h4, e⟩]
    subst e
    exact ⟨has_put_same hm (by unfold WideAt.IsKeyLit; trivial) _, atKey_put_same hm (by unfold WideAt.IsKeyLit; trivial) _ _⟩
  · rw [if_neg (fun c => e c.2)]
    have hk := h k
    have hne : Lit.string k ≠ Lit.string (fourAt s i) := fun c => e (by injection c with c; exact c.symm)
    rw [has_put_other hne, atKey_put_other hne]
    exact hk

end Go.Proofs.Ytljcbibcdajhiaa
/- The packer's passBy. -/
namespace Go.Proofs.Ytljcbibcdajhiaa
open Go.RowKit Go.Maps Go.WideMaps

/-- A key put into the packer's map. -/
theorem Pk.store {w : World} {g m : Nat} {v : Value} {s out : List UInt8} {pl n : Nat} {D : DataW Unit} (h : Pk w g m v s out pl n D) (hn : n < maxLen) (k0 k1 k2 k3 : UInt8) (i : Nat) (hi : i ≤ 1048576) :
    ∃ w', (Instr.mapUpdate 57 (.map (some m)) (.agg #[.int .u8 (k0.toNat : Int), .int .u8 (k1.toNat : Int), .int .u8 (k2.toNat : Int), .int .u8 (k3.toNat : Int)]) (.int .i64 (i : Int))).run Try.prog w = .ok () w' ∧ Pk w' g m v s out pl (n + 1) (D.put (.string [k0, k1, k2, k3]) (.lit (.int .i64 (i : Int)))) ∧ Below m w w' := by
  obtain ⟨w', hr, ho, ht⟩ := World.ownsMap.store h.mp law84 undMAP hn (key4 k0 k1 k2 k3) (plainElem_int undI (WalkArith.wf_i64 (n := (i : Int)) ⟨by omega, by omega⟩))
  have G := ht.grown
  have hm := h.mg
  have hl := h.lt
  refine ⟨w', hr, ⟨h.blk.same (G.block g hl (fun e => by injection e with e; omega)), row_same h.own (fun k hk => G.block k (h.own.lt k hk).2 (fun e => by injection e with e; have := (h.own.lt k hk).1; omega)), ho, hm⟩, (Below.refl m w).grown G (by omega) (fun k hk => by injection hk with hk; omega)⟩

set_option maxHeartbeats 2000000 in
set_option maxRecDepth 10000 in
theorem passBy_any (g m : Nat) (v : Value) (s out : List UInt8) (pl n : Nat) (D : DataW Unit) (a b : Nat) (w : World) (h : Pk w g m v s out pl n D) (hs : s.length ≤ 1048576) (hab : a ≤ b) (hb : b ≤ s.length) (hn : n ≤ a) (hD : LastOK s a D) :
    Calls Try.prog 24 #[.pointer (some ⟨g, 0, none⟩), .int .i64 (a : Int), .int .i64 (b : Int)] w fun e w' => e = .returned (.tuple #[]) ∧ (∃ n' D', n' ≤ b ∧ Pk w' g m v s out pl n' D' ∧ LastOK s b D') ∧ Below m w w' := by
  have HP : Hid (Pk w g m v s out pl n D) := h
  have HD : Hid (LastOK s a D) := hD
  clear h hD
  go_enter Try.func24, Try.ntmps24
  go_wp2
  go_loopg [6] (b - a) (fun gk ix wr => ∃ (k n' : Nat) (D' : DataW Unit), Hid (gk + k = b ∧ a ≤ k ∧ n' ≤ k) ∧ ix = .int .i64 k ∧ Hid (Pk wr g m v s out pl n' D') ∧ Hid (LastOK s k D') ∧ Hid (Below m w wr))
  case atStart => exact ⟨a, n, D, ⟨by omega, Nat.le_refl _, hn⟩, rfl, HP, HD, Below.refl _ _⟩
  case round =>
    obtain ⟨k, n', D', hgk, rfl, hP, hL, hB⟩ := hrel
    have hk1 := hgk.out.1
    by_cases hk : k < b
    · have c2 : wr.cell? ⟨g, 2, none⟩ = some (.string (ba s)) := by rw [Lib.cell_of_heap hP.out.blk]; rfl
      have hg := hP.out.lt
      have hmg := hP.out.mg
      by_cases h4 : k + 4 ≤ s.length
      · have FC := four_some g s k wr c2 hg hs h4
        have hF : Hid (fourAt s k = [s.getD k 0, s.getD (k + 1) 0, s.getD (k + 2) 0, s.getD (k + 3) 0]) := rfl
        generalize s.getD k 0 = k0 at FC hF
        generalize s.getD (k + 1) 0 = k1 at FC hF
        generalize s.getD (k + 2) 0 = k2 at FC hF
        generalize s.getD (k + 3) 0 = k3 at FC hF
        go_wp2_with fail
        refine FC.mono ?_
        rintro e w1 ⟨rfl, b1⟩
        clear FC c2
        unfold kv
        have HP1 : Hid (Pk (w1.alloc (.cells #[.int .u8 (k0.toNat : Int), .int .u8 (k1.toNat : Int), .int .u8 (k2.toNat : Int), .int .u8 (k3.toNat : Int)] 94)) g m v s out pl n' D') := (hP.out.below b1).below ((Below.refl _ _).alloc (Nat.le_refl _) _)
        have B1 : Hid (Below m w (w1.alloc (.cells #[.int .u8 (k0.toNat : Int), .int .u8 (k1.toNat : Int), .int .u8 (k2.toNat : Int), .int .u8 (k3.toNat : Int)] 94))) := (hB.out.trans ⟨b1.os, b1.tape, b1.output, b1.size, fun j hj => b1.block j (by omega)⟩).alloc (by have := b1.size; omega) _
        have q1 : Hid (StK (w1.alloc (.cells #[.int .u8 (k0.toNat : Int), .int .u8 (k1.toNat : Int), .int .u8 (k2.toNat : Int), .int .u8 (k3.toNat : Int)] 94)) w1.heap.size [.int .u8 (k0.toNat : Int), .int .u8 (k1.toNat : Int), .int .u8 (k2.toNat : Int), .int .u8 (k3.toNat : Int)]) := StK.new w1 _ _
        clear b1
        go_wp2_with fail
        generalize w1.alloc (.cells #[.int .u8 (k0.toNat : Int), .int .u8 (k1.toNat : Int), .int .u8 (k2.toNat : Int), .int .u8 (k3.toNat : Int)] 94) = W2 at HP1 B1 q1 ⊢
        have c3 : W2.cell? ⟨g, 3, none⟩ = some (.map (some m)) := by rw [Lib.cell_of_heap HP1.out.blk]; rfl
        have z0 := q1.out.get 0 _ rfl
        have z1 := q1.out.get 1 _ rfl
        have z2 := q1.out.get 2 _ rfl
        have z3 := q1.out.get 3 _ rfl
        obtain ⟨w3, hr, P3, B3⟩ := (HP1.out.drewN 1).store (by have := hgk.out.2.2; unfold maxLen; omega) k0 k1 k2 k3 k (by omega)
        have HP3 : Hid (Pk w3 g m v s out pl (n' + 1) (D'.put (.string (fourAt s k)) (.lit (.int .i64 (k : Int))))) := by unfold Hid; rw [hF.out]; exact P3
        have HL3 : Hid (LastOK s (k + 1) (D'.put (.string (fourAt s k)) (.lit (.int .i64 (k : Int))))) := hL.out.put hP.out.mp.isMap h4
        have HB3 : Hid (Below m w w3) := (bel_drewN B1.out 1).trans B3
        clear P3 B3
        have hr' : (Instr.mapUpdate 57 (.map (some m)) (.agg #[.int .u8 (k0.toNat : Int), .int .u8 (k1.toNat : Int), .int .u8 (k2.toNat : Int), .int .u8 (k3.toNat : Int)]) (.int .i64 (k : Int))).run Try.prog W2.drew = .ok () w3 := hr
        clear hr
        go_region
        all_goals (
          go_wp2
          go_roundg (gk - 1)
          case measure => omega
          case rel => exact ⟨k + 1, n' + 1, _, ⟨by omega, by have := hgk.out.2.1; omega, by have := hgk.out.2.2; omega⟩, by go_num, HP3, HL3, HB3⟩)
      · have FC := four_none g s k wr c2 hg hs (by omega) h4
        go_wp2_with fail
        refine FC.mono ?_
        rintro e w1 ⟨rfl, b1⟩
        clear FC c2
        have HP1 : Hid (Pk (w1.alloc (.cells #[.int .u8 0, .int .u8 0, .int .u8 0, .int .u8 0] 94)) g m v s out pl n' D') := (hP.out.below b1).below ((Below.refl _ _).alloc (Nat.le_refl _) _)
        have B1 : Hid (Below m w (w1.alloc (.cells #[.int .u8 0, .int .u8 0, .int .u8 0, .int .u8 0] 94))) := (hB.out.trans ⟨b1.os, b1.tape, b1.output, b1.size, fun j hj => b1.block j (by omega)⟩).alloc (by have := b1.size; omega) _
        have HL3 : Hid (LastOK s (k + 1) D') := hL.out.pass h4
        clear b1
        go_wp2
        go_roundg (gk - 1)
        case measure => omega
        case rel => exact ⟨k + 1, n', _, ⟨by omega, by have := hgk.out.2.1; omega, by have := hgk.out.2.2; omega⟩, by go_num, HP1, HL3, B1⟩
    · obtain rfl : k = b := by omega
      go_wp2
      go_end0
      exact ⟨rfl, ⟨n', D', hgk.out.2.2, hP.out, hL.out⟩, hB.out⟩

end Go.Proofs.Ytljcbibcdajhiaa
/- WriteByte, WriteString on the packer's builder. -/
namespace Go.Proofs.Ytljcbibcdajhiaa
open Go.RowKit Go.Maps Go.WideMaps

theorem bytes_app (a b : List UInt8) : Lib.byteCells a ++ Lib.byteCells b = Lib.byteCells (a ++ b) := by simp [Lib.byteCells]

/-- The builder's slice has grown. -/
theorem Pk.regrow {w w1 : World} {g m : Nat} {v v' : Value} {s out out' : List UInt8} {pl n : Nat} {D : DataW Unit} (h : Pk w g m v s out pl n D) (o : Option Nat) (G : w.grownBy w1 o) (ho : ∀ k, o = some k → g + 1 ≤ k) (hown : w1.ownsRow (g + 1) 5 1 v' out'.length (Lib.byteCells out')) :
    Pk (w1.setCell ⟨g, 1, none⟩ v') g m v' s out' pl n D ∧ Below g w (w1.setCell ⟨g, 1, none⟩ v') := by
  have hl := h.lt
  have hm := h.mg
  have eg : w1.heap[g]? = w.heap[g]? := G.block g hl (fun e => by have := ho g e.symm; omega)
  have em : w1.heap[m]? = w.heap[m]? := G.block m (by omega) (fun e => by have := ho m e.symm; omega)
  refine ⟨⟨(h.blk.same eg).setv v', row_same hown (fun k hk => Below.heap_setCell w1 _ _ k (by have := (hown.lt k hk).1; show k ≠ g; omega)), map_same (map_same h.mp em) (Below.heap_setCell w1 _ _ m (by show m ≠ g; omega)), hm⟩, ?_⟩
  exact ((Below.refl g w).grown G (by omega) (fun k hk => by have := ho k hk; omega)).setCell (p := ⟨g, 1, none⟩) (Nat.le_refl _) _

set_option maxHeartbeats 1000000 in
set_option maxRecDepth 100000 in
theorem wbyte_any (g m : Nat) (v : Value) (s out : List UInt8) (pl n : Nat) (D : DataW Unit) (b : UInt8) (w : World) (h : Pk w g m v s out pl n D) (hlen : out.length ≤ 1073741824) :
    Calls Try.prog 38 #[.pointer (some ⟨g, 0, none⟩), .int .u8 (b.toNat : Int)] w fun e w' => e = .returned .nilIface ∧ (∃ v', Pk w' g m v' s (out ++ [b]) pl n D) ∧ Below g w w' := by
  obtain ⟨i0, hi, hz0, hz1, hz2⟩ := info_parts infoU8K
  have HP : Hid (Pk w g m v s out pl n D) := h
  have hbw := h.lt
  have c0 : w.cell? ⟨g, 0, none⟩ = some (.pointer (some ⟨g, 0, none⟩)) := by rw [Lib.cell_of_heap h.blk]; rfl
  have c1 : w.cell? ⟨g, 1, none⟩ = some v := by rw [Lib.cell_of_heap h.blk]; rfl
  have hown := h.own
  clear h
  go_enter Try.func38, Try.ntmps38
  go_wp2_with fail
  refine (cpC_usedK g w c0).mono ?_
  rintro e w1 ⟨rfl, rfl⟩
  obtain ⟨v', w2, hr, hown', hgrow, -, hloc⟩ := run_append_own_at (P := Try.prog) (w1.alloc (.cells #[.int .u8 (b.toNat : Int)] 5)) (g + 1) 37 37 5 i0 (.int .u8 0) 1 1 undTBK hi hz0 hz1 hz2 rfl (by decide) v out.length (Lib.byteCells out) (hown.alloc _) ⟨w1.heap.size, 0, none⟩ 1 1 [.int .u8 (b.toNat : Int)] rfl (fun j u hj => by
      match j, hj with
      | 0, hj => simp at hj; subst hj; exact (World.cell?_alloc_new w1 _ _ 0).trans rfl) (by intro u hu; simp at hu; subst hu; rfl) (by unfold maxLen; omega) (by omega) (by rw [World.size_alloc]; omega)
  have G2 : w1.grownBy w2 v.ownBlock := (World.grownBy_alloc w1 _ _).trans hgrow
  have hX := HP.out.regrow (out' := out ++ [b]) v.ownBlock G2 (fun k hk => (hown.lt k hk).1) (by rw [← bytes_app, List.length_append]; exact hown')
  have d1 : w2.cell? ⟨g, 1, none⟩ = some v := (World.cell?_of_block (w := w1) (a := ⟨g, 1, none⟩) (G2.block g hbw (fun e => by have := (hown.lt g e.symm).1; omega))).trans c1
  have f1 : w2.frozen? ⟨g, 1, none⟩ = false := (World.frozen?_of_block (w := w1) (a := ⟨g, 1, none⟩) (G2.block g hbw (fun e => by have := (hown.lt g e.symm).1; omega))).trans (Lib.frozen_of_heap HP.out.blk 1)
  obtain ⟨ao, n', cap, rfl⟩ := slice_of_row hown'
  have HX : Hid (Pk (w2.setCell ⟨g, 1, none⟩ (.slice ao n' cap)) g m (.slice ao n' cap) s (out ++ [b]) pl n D ∧ Below g w1 (w2.setCell ⟨g, 1, none⟩ (.slice ao n' cap))) := hX
  obtain ⟨p0, n00, cc0, rfl⟩ := slice_of_row hown
  clear hX G2 hgrow hown' hown hloc
  go_wp2_with (first | (refine wpList_appB_is' (by rfl) (.tmp 11) (.tmp 13) (by rfl) _ _ _ _ (by rfl) (by rfl) hr ?_))
  go_ret
  exact ⟨rfl, ⟨_, HX.out.1⟩, HX.out.2⟩

set_option maxHeartbeats 1000000 in
set_option maxRecDepth 100000 in
theorem wstr_any (g m : Nat) (v : Value) (s out : List UInt8) (pl n : Nat) (D : DataW Unit) (t : List UInt8) (w : World) (h : Pk w g m v s out pl n D) (hlen : out.length + t.length ≤ 1073741824) :
    Calls Try.prog 18 #[.pointer (some ⟨g, 0, none⟩), .string (ba t)] w fun e w' => e = .returned (.tuple #[.int .i64 (t.length : Int), .nilIface]) ∧ (∃ v', Pk w' g m v' s (out ++ t) pl n D) ∧ Below g w w' := by
  obtain ⟨i0, hi, hz0, hz1, hz2⟩ := info_parts infoU8K
  have HP : Hid (Pk w g m v s out pl n D) := h
  have hbw := h.lt
  have c0 : w.cell? ⟨g, 0, none⟩ = some (.pointer (some ⟨g, 0, none⟩)) := by rw [Lib.cell_of_heap h.blk]; rfl
  have c1 : w.cell? ⟨g, 1, none⟩ = some v := by rw [Lib.cell_of_heap h.blk]; rfl
  have hown := h.own
  have hts := ba_size t
  clear h
  go_enter Try.func18, Try.ntmps18
  go_wp2_with fail
  refine (cpC_usedK g w c0).mono ?_
  rintro e w1 ⟨rfl, rfl⟩
  obtain ⟨v', w2, hr, hown', hgrow, -⟩ := Lib.run_append_own_string (P := Try.prog) w1 (g + 1) 37 9 37 5 i0 undTBK Try.underlying9 hi hz0 hz1 hz2 v out.length (Lib.byteCells out) hown (ba t) (by unfold maxLen; omega) (by omega) (by omega)
  have eC : Lib.byteCells out ++ Lib.strCells (ba t) = Lib.byteCells (out ++ t) := by rw [Lib.strCells_eq, ← bytes_app]; rfl
  have hX := HP.out.regrow (out' := out ++ t) v.ownBlock hgrow (fun k hk => (hown.lt k hk).1) (by rw [← eC, List.length_append, ← hts]; exact hown')
  have d1 : w2.cell? ⟨g, 1, none⟩ = some v := (World.cell?_of_block (w := w1) (a := ⟨g, 1, none⟩) (hgrow.block g hbw (fun e => by have := (hown.lt g e.symm).1; omega))).trans c1
  have f1 : w2.frozen? ⟨g, 1, none⟩ = false := (World.frozen?_of_block (w := w1) (a := ⟨g, 1, none⟩) (hgrow.block g hbw (fun e => by have := (hown.lt g e.symm).1; omega))).trans (Lib.frozen_of_heap HP.out.blk 1)
  obtain ⟨ao, n', cap, rfl⟩ := slice_of_row hown'
  have HX : Hid (Pk (w2.setCell ⟨g, 1, none⟩ (.slice ao n' cap)) g m (.slice ao n' cap) s (out ++ t) pl n D ∧ Below g w1 (w2.setCell ⟨g, 1, none⟩ (.slice ao n' cap))) := hX
  obtain ⟨p0, n00, cc0, rfl⟩ := slice_of_row hown
  clear hX hgrow hown' hown eC
  go_wp2_with (first | (refine wpList_appT_is (by rfl) (.tmp 12) (.tmp 13) (by rfl) _ _ _ _ (by rfl) (by rfl) hr ?_))
  go_ret2
  exact ⟨rfl, ⟨_, HX.out.1⟩, HX.out.2⟩

end Go.Proofs.Ytljcbibcdajhiaa
/- The packer's writeBack and writePlain. -/
namespace Go.Proofs.Ytljcbibcdajhiaa
open Go.RowKit Go.Maps Go.WideMaps

theorem u8wrap (z : Int) (n : Nat) (h : z = (n : Int)) : IntKind.u8.wrap z = ((UInt8.ofNat n).toNat : Int) := by
  subst h
  show (n : Int) % 256 = _
  rw [UInt8.toNat_ofNat']
  omega

set_option maxHeartbeats 2000000 in
set_option maxRecDepth 10000 in
theorem writeBack_any (g m : Nat) (v : Value) (s out : List UInt8) (pl n : Nat) (D : DataW Unit) (far k : Nat) (w : World) (h : Pk w g m v s out pl n D) (hlen : out.length ≤ 1073741821) (hf0 : 1 ≤ far) (hf : far ≤ 65536) (hk : k ≤ 131) (hk4 : 4 ≤ k) :
    Calls Try.prog 23 #[.pointer (some ⟨g, 0, none⟩), .int .i64 (far : Int), .int .i64 (k : Int)] w fun e w' => e = .returned (.tuple #[]) ∧ (∃ v', Pk w' g m v' s (out ++ bkT far k) pl n D) ∧ Below g w w' := by
  have HP : Hid (Pk w g m v s out pl n D) := h
  clear h
  have e1 : IntKind.u8.wrap (128 + (k : Int) - 4) = ((UInt8.ofNat (124 + k)).toNat : Int) := u8wrap _ _ (by omega)
  have e2 : IntKind.u8.wrap ((far : Int) - 1) = ((UInt8.ofNat ((far - 1) % 256)).toNat : Int) := by
    rw [u8wrap _ (far - 1) (by omega)]
    congr 1
    rw [UInt8.toNat_ofNat', UInt8.toNat_ofNat']
    omega
  have e3 : IntKind.u8.wrap (((far : Int) - 1) / 256) = ((UInt8.ofNat ((far - 1) / 256)).toNat : Int) := u8wrap _ _ (by omega)
  have hB : Hid (bkT far k = [UInt8.ofNat (124 + k), UInt8.ofNat ((far - 1) % 256), UInt8.ofNat ((far - 1) / 256)]) := rfl
  generalize UInt8.ofNat (124 + k) = x1 at e1 hB
  generalize UInt8.ofNat ((far - 1) % 256) = x2 at e2 hB
  generalize UInt8.ofNat ((far - 1) / 256) = x3 at e3 hB
  go_enter Try.func23, Try.ntmps23
  go_wp2_with fail
  refine (wbyte_any g m v s out pl n D x1 w HP.out (by omega)).mono ?_
  rintro e w1 ⟨rfl, ⟨v1, P1⟩, B1⟩
  have HP1 : Hid (Pk w1 g m v1 s (out ++ [x1]) pl n D) := P1
  have HB1 : Hid (Below g w w1) := B1
  clear P1 B1
  go_wp2_with fail
  refine (wbyte_any g m v1 s (out ++ [x1]) pl n D x2 w1 HP1.out (by simp; omega)).mono ?_
  rintro e w2 ⟨rfl, ⟨v2, P2⟩, B2⟩
  have HP2 : Hid (Pk w2 g m v2 s (out ++ [x1] ++ [x2]) pl n D) := P2
  have HB2 : Hid (Below g w w2) := HB1.out.trans B2
  clear P2 B2
  go_wp2_with fail
  refine (wbyte_any g m v2 s (out ++ [x1] ++ [x2]) pl n D x3 w2 HP2.out (by simp; omega)).mono ?_
  rintro e w3 ⟨rfl, ⟨v3, P3⟩, B3⟩
  have HP3 : Hid (Pk w3 g m v3 s (out ++ bkT far k) pl n D) := by unfold Hid; rw [hB.out]; simpa using P3
  have HB3 : Hid (Below g w w3) := HB2.out.trans B3
  clear P3 B3
  go_wp2
  go_end0
  exact ⟨rfl, ⟨v3, HP3.out⟩, HB3.out⟩

end Go.Proofs.Ytljcbibcdajhiaa
/- The packer's writePlain. -/
namespace Go.Proofs.Ytljcbibcdajhiaa
open Go.RowKit Go.Maps Go.WideMaps

theorem plT_fuel : ∀ (f f' : Nat) (l : List UInt8), l.length ≤ f → l.length ≤ f' → plT f l = plT f' l := by
  intro f
  induction f with
  | zero =>
    intro f' l h _
    have e : l.length = 0 := by omega
    cases f' with
    | zero => rfl
    | succ f' => unfold plT; rw [if_pos e]
  | succ f ih =>
    intro f' l h h'
    cases f' with
    | zero =>
      have e : l.length = 0 := by omega
      unfold plT; rw [if_pos e]
    | succ f' =>
      unfold plT
      by_cases e : l.length = 0
      · rw [if_pos e, if_pos e]
      · rw [if_neg e, if_neg e, ih f' (l.drop 128) (by rw [List.length_drop]; omega) (by rw [List.length_drop]; omega)]
theorem cutL_length (s : List UInt8) (p i : Nat) (h : i ≤ s.length) : (cutL s p i).length = i - p := by
  unfold cutL; rw [List.length_take, List.length_drop]; omega
theorem cutL_nil (s : List UInt8) (p i : Nat) (h : i ≤ p) : cutL s p i = [] := by unfold cutL; rw [show i - p = 0 by omega]; rfl
theorem plT_none (s : List UInt8) (p i : Nat) (h : i ≤ p) : plT (s.length + 1) (cutL s p i) = [] := by rw [cutL_nil s p i h]; rfl
theorem plT_step (s : List UInt8) (p i e : Nat) (hi : i ≤ s.length) (hp : p < i) (he : e = min (p + 128) i) :
    plT (s.length + 1) (cutL s p i) = UInt8.ofNat (e - p - 1) :: (cutL s p e ++ plT (s.length + 1) (cutL s e i)) := by
  have hl := cutL_length s p i hi
  rw [plT, if_neg (by omega), hl, show min 128 (i - p) - 1 = e - p - 1 by omega]
  have h1 : (cutL s p i).take 128 = cutL s p e := by
    unfold cutL
    rw [List.take_take, show min 128 (i - p) = e - p by omega]
  have h2 : (cutL s p i).drop 128 = cutL s e i := by
    unfold cutL
    rw [List.drop_take, List.drop_drop]
    by_cases h : i - p ≤ 128
    · rw [show i - p - 128 = 0 by omega, show i - e = 0 by omega, List.take_zero, List.take_zero]
    · rw [show p + 128 = e by omega, show i - p - 128 = i - e by omega]
  rw [h1, h2]
  have h3 : (cutL s e i).length ≤ s.length := by rw [cutL_length s e i hi]; omega
  rw [plT_fuel s.length (s.length + 1) _ h3 (by omega)]

theorem ba_cut (s : List UInt8) (p e : Nat) (h1 : p ≤ e) (h2 : e ≤ s.length) : (ba s).extract p e = ba (cutL s p e) := by
  apply bytes_ext
  · rw [ByteArray.size_extract, ba_size, ba_size, cutL_length s p e h2]; omega
  · intro k hk
    rw [ByteArray.size_extract, ba_size] at hk
    have h3 : k < (cutL s p e).length := by rw [cutL_length s p e h2]; omega
    rw [bt_ba _ _ h3]
    unfold bt
    rw [dif_pos (by rw [ByteArray.size_extract, ba_size]; omega), ByteArray.getElem_extract]
    have e2 : ∀ (j : Nat) (h : j < (ba s).size) (h4 : j = p + k), ((ba s)[j]'h).toNat = ((cutL s p e)[k]'h3).toNat := by
      intro j h h4
      subst h4
      show (s[p + k]'(by rw [ba_size] at h; exact h)).toNat = _
      simp only [cutL, List.getElem_take, List.getElem_drop]
    exact congrArg Int.ofNat (e2 _ _ rfl)

theorem i64wrap (z : Int) (h0 : 0 ≤ z) (h1 : z < 9223372036854775808) : IntKind.i64.wrap z = z := by
  rw [IntKind.wrap_i64]
  omega
theorem wbyte_b (wr : World) (g m : Nat) (v : Value) (s out : List UInt8) (pl n : Nat) (D : DataW Unit) (b : UInt8) (w : World) (q : Nat) (hw : w = wr.drewN q) (h : Pk wr g m v s out pl n D) (hlen : out.length ≤ 1073741824) :
    Calls Try.prog 38 #[.pointer (some ⟨g, 0, none⟩), .int .u8 (b.toNat : Int)] w fun e w' => e = .returned .nilIface ∧ (∃ v', Pk w' g m v' s (out ++ [b]) pl n D) ∧ Below g wr w' ∧ w'.cell? ⟨g, 4, none⟩ = some (.int .i64 (pl : Int)) := by
  subst hw
  refine (wbyte_any g m v s out pl n D b _ (h.drewN q) hlen).mono ?_
  rintro e w1 ⟨rfl, ⟨v1, P1⟩, B1⟩
  exact ⟨rfl, ⟨v1, P1⟩, (bel_drewN (Below.refl g wr) q).trans B1, by rw [Lib.cell_of_heap P1.blk]; rfl⟩
theorem wstr_b (wr : World) (g m : Nat) (v : Value) (s out : List UInt8) (pl n : Nat) (D : DataW Unit) (t : List UInt8) (T : ByteArray) (hT : T = ba t) (w : World) (q : Nat) (hw : w = wr.drewN q) (h : Pk wr g m v s out pl n D) (hlen : out.length + t.length ≤ 1073741824) :
    Calls Try.prog 18 #[.pointer (some ⟨g, 0, none⟩), .string T] w fun e w' => e = .returned (.tuple #[.int .i64 (t.length : Int), .nilIface]) ∧ (∃ v', Pk w' g m v' s (out ++ t) pl n D) ∧ Below g wr w' ∧ w'.cell? ⟨g, 4, none⟩ = some (.int .i64 (pl : Int)) ∧ w'.cell? ⟨g, 2, none⟩ = some (.string (ba s)) := by
  subst hw hT
  refine (wstr_any g m v s out pl n D t _ (h.drewN q) hlen).mono ?_
  rintro e w1 ⟨rfl, ⟨v1, P1⟩, B1⟩
  exact ⟨rfl, ⟨v1, P1⟩, (bel_drewN (Below.refl g wr) q).trans B1, by rw [Lib.cell_of_heap P1.blk]; rfl, by rw [Lib.cell_of_heap P1.blk]; rfl⟩

set_option maxHeartbeats 4000000 in
set_option maxRecDepth 10000 in
theorem writePlain_any (g m : Nat) (v : Value) (s out : List UInt8) (pl n : Nat) (D : DataW Unit) (to : Nat) (w : World) (h : Pk w g m v s out pl n D) (hs : s.length ≤ 1048576) (hto : to ≤ s.length) (hpl : pl ≤ to) (hlen : out.length + 2 * (to - pl) ≤ 1073741824) :
    Calls Try.prog 22 #[.pointer (some ⟨g, 0, none⟩), .int .i64 (to : Int)] w fun e w' => e = .returned (.tuple #[]) ∧ (∃ v', Pk w' g m v' s (out ++ plT (s.length + 1) (cutL s pl to)) to n D) ∧ Below g w w' := by
  have HP : Hid (Pk w g m v s out pl n D) := h
  have HL : Hid (out.length + 2 * (to - pl) ≤ 1073741824) := hlen
  have hsz := ba_size s
  clear h hlen
  go_enter Try.func22, Try.ntmps22
  go_wp2
  go_loopg [4] (to - pl) (fun gk _e wr => ∃ (k : Nat) (vk : Value) (ok : List UInt8), Hid (gk + k = to ∧ pl ≤ k ∧ ok.length + 2 * (to - k) ≤ 1073741824) ∧ Hid (Pk wr g m vk s ok k n D) ∧ Hid (ok ++ plT (s.length + 1) (cutL s k to) = out ++ plT (s.length + 1) (cutL s pl to)) ∧ Hid (Below g w wr))
  case atStart => exact ⟨pl, v, out, ⟨by omega, Nat.le_refl _, HL.out⟩, HP, rfl, Below.refl _ _⟩
  case round =>
    obtain ⟨k, vk, ok, hgk, hP, hO, hB⟩ := hrel
    have hk1 := hgk.out.1
    have hg := hP.out.lt
    have c4 : wr.cell? ⟨g, 4, none⟩ = some (.int .i64 (k : Int)) := by rw [Lib.cell_of_heap hP.out.blk]; rfl
    by_cases hk : k < to
    · obtain ⟨e, he⟩ : ∃ e, e = min (k + 128) to := ⟨_, rfl⟩
      have he1 : k < e := by omega
      have he2 : e ≤ to := by omega
      have he3 : e ≤ k + 128 := by omega
      have hst : Hid (plT (s.length + 1) (cutL s k to) = UInt8.ofNat (e - k - 1) :: (cutL s k e ++ plT (s.length + 1) (cutL s e to))) := plT_step s k to e hto hk he
      have hcl : Hid ((cutL s k e).length = e - k) := cutL_length s k e (by omega)
      have hbc : Hid ((ba s).extract k e = ba (cutL s k e)) := ba_cut s k e (by omega) (by omega)
      have hmin : (¬ (to : Int) < (k : Int) + 128 ∧ (k : Int) + 128 = (e : Int)) ∨ ((to : Int) < (k : Int) + 128 ∧ to = e) := by omega
      have hwr : IntKind.u8.wrap ((e : Int) - (k : Int) - 1) = ((UInt8.ofNat (e - k - 1)).toNat : Int) := u8wrap _ _ (by omega)
      generalize UInt8.ofNat (e - k - 1) = x1 at hwr hst
      clear he
      have ww1 : IntKind.i64.wrap ((e : Int) - (k : Int)) = (e : Int) - (k : Int) := i64wrap _ (by omega) (by omega)
      have ww2 : IntKind.i64.wrap ((e : Int) - (k : Int) - 1) = (e : Int) - (k : Int) - 1 := i64wrap _ (by omega) (by omega)
      rcases hmin with ⟨h1, h2⟩ | ⟨h1, h2⟩
      · skip
        go_wp2_with fail
        have cD : wr.drew.cell? ⟨g, 4, none⟩ = some (.int .i64 (k : Int)) := c4
        go_region_held3 (fun W => W.cell? ⟨g, 4, none⟩ = some (.int .i64 (k : Int)))
          (first | exact x8 | exact cD | exact c4)
          (first | (go_at_call 38; refine (wbyte_b wr g m vk s ok k n D x1 _ 1 rfl hP.out (by have := hgk.out.2.2; omega)).mono ?_; rintro e8 w8 ⟨rfl, P8, B8, x8⟩))
        obtain ⟨v5, P5⟩ := P8
        have HP5 : Hid (Pk w8 g m v5 s (ok ++ [x1]) k n D) := P5
        have HB5 : Hid (Below g w w8) := hB.out.trans B8
        have d2 : w8.cell? ⟨g, 2, none⟩ = some (.string (ba s)) := by rw [Lib.cell_of_heap P5.blk]; rfl
        clear P5 B8 cD c4
        go_wp2_with fail
        have cD4 : w8.drew.cell? ⟨g, 4, none⟩ = some (.int .i64 (k : Int)) := x8
        have cD2 : w8.drew.cell? ⟨g, 2, none⟩ = some (.string (ba s)) := d2
        have hslice := hbc.out
        have hk0 : (0 : Int) ≤ (k : Int) := by omega
        have hke : (k : Int) ≤ (e : Int) := by omega
        have hel : (e : Int) ≤ ((ba s).size : Int) := by rw [hsz]; omega
        have hel2 : (e : Int) ≤ (s.length : Int) := by omega
        have hel3 : e ≤ s.length := by omega
        have hel4 : k ≤ e := by omega
        go_region_held3 (fun W => W.cell? ⟨g, 4, none⟩ = some (.int .i64 (k : Int)) ∧ W.cell? ⟨g, 2, none⟩ = some (.string (ba s)))
          (first | exact ⟨y8, y2⟩ | exact ⟨cD4, cD2⟩ | exact ⟨x8, d2⟩)
          (first | (go_at_call 18; refine (wstr_b w8 g m v5 s (ok ++ [x1]) k n D (cutL s k e) _ rfl _ 1 rfl HP5.out (by have := hgk.out.2.2; rw [hcl.out]; simp; omega)).mono ?_; rintro e9 w9 ⟨rfl, P9, B9, y8, y2⟩))
        obtain ⟨v6, P6⟩ := P9
        have HP6 : Hid (Pk (w9.setCell ⟨g, 4, none⟩ (.int .i64 (e : Int))) g m v6 s (ok ++ [x1] ++ cutL s k e) e n D) := P6.setp e
        have HB6 : Hid (Below g w (w9.setCell ⟨g, 4, none⟩ (.int .i64 (e : Int)))) := (HB5.out.trans B9).setCell (p := ⟨g, 4, none⟩) (Nat.le_refl _) _
        have y4 : w9.frozen? ⟨g, 4, none⟩ = false := Lib.frozen_of_heap P6.blk 4
        clear P6 B9
        go_wp2
        go_roundg (to - e)
        case measure => omega
        case rel => exact ⟨e, v6, _, ⟨by omega, by have := hgk.out.2.1; omega, by have h7 := hgk.out.2.2; have h8 := hcl.out; simp; omega⟩, HP6, by have h7 := hO.out; rw [hst.out] at h7; unfold Hid; rw [← h7]; simp, HB6⟩
      · subst h2
        go_wp2_with fail
        have cD : wr.drew.cell? ⟨g, 4, none⟩ = some (.int .i64 (k : Int)) := c4
        go_region_held3 (fun W => W.cell? ⟨g, 4, none⟩ = some (.int .i64 (k : Int)))
          (first | exact x8 | exact cD | exact c4)
          (first | (go_at_call 38; refine (wbyte_b wr g m vk s ok k n D x1 _ 1 rfl hP.out (by have := hgk.out.2.2; omega)).mono ?_; rintro e8 w8 ⟨rfl, P8, B8, x8⟩))
        obtain ⟨v5, P5⟩ := P8
        have HP5 : Hid (Pk w8 g m v5 s (ok ++ [x1]) k n D) := P5
        have HB5 : Hid (Below g w w8) := hB.out.trans B8
        have d2 : w8.cell? ⟨g, 2, none⟩ = some (.string (ba s)) := by rw [Lib.cell_of_heap P5.blk]; rfl
        clear P5 B8 cD c4
        go_wp2_with fail
        have cD4 : w8.drew.cell? ⟨g, 4, none⟩ = some (.int .i64 (k : Int)) := x8
        have cD2 : w8.drew.cell? ⟨g, 2, none⟩ = some (.string (ba s)) := d2
        have hslice := hbc.out
        have hk0 : (0 : Int) ≤ (k : Int) := by omega
        have hke : (k : Int) ≤ (to : Int) := by omega
        have hel : (to : Int) ≤ ((ba s).size : Int) := by rw [hsz]; omega
        have hel2 : (to : Int) ≤ (s.length : Int) := by omega
        have hel3 : to ≤ s.length := by omega
        have hel4 : k ≤ to := by omega
        go_region_held3 (fun W => W.cell? ⟨g, 4, none⟩ = some (.int .i64 (k : Int)) ∧ W.cell? ⟨g, 2, none⟩ = some (.string (ba s)))
          (first | exact ⟨y8, y2⟩ | exact ⟨cD4, cD2⟩ | exact ⟨x8, d2⟩)
          (first | (go_at_call 18; refine (wstr_b w8 g m v5 s (ok ++ [x1]) k n D (cutL s k to) _ rfl _ 1 rfl HP5.out (by have := hgk.out.2.2; rw [hcl.out]; simp; omega)).mono ?_; rintro e9 w9 ⟨rfl, P9, B9, y8, y2⟩))
        obtain ⟨v6, P6⟩ := P9
        have HP6 : Hid (Pk (w9.setCell ⟨g, 4, none⟩ (.int .i64 (to : Int))) g m v6 s (ok ++ [x1] ++ cutL s k to) to n D) := P6.setp to
        have HB6 : Hid (Below g w (w9.setCell ⟨g, 4, none⟩ (.int .i64 (to : Int)))) := (HB5.out.trans B9).setCell (p := ⟨g, 4, none⟩) (Nat.le_refl _) _
        have y4 : w9.frozen? ⟨g, 4, none⟩ = false := Lib.frozen_of_heap P6.blk 4
        clear P6 B9
        go_wp2
        go_roundg (to - to)
        case measure => omega
        case rel => exact ⟨to, v6, _, ⟨by omega, by have := hgk.out.2.1; omega, by have h7 := hgk.out.2.2; have h8 := hcl.out; simp; omega⟩, HP6, by have h7 := hO.out; rw [hst.out] at h7; unfold Hid; rw [← h7]; simp, HB6⟩
    · obtain rfl : k = to := by have := hgk.out; omega
      have HF : Hid (ok = out ++ plT (s.length + 1) (cutL s pl k)) := by
        have := hO.out
        rw [plT_none s k k (Nat.le_refl _), List.append_nil] at this
        exact this
      go_wp2
      go_end0
      exact ⟨rfl, ⟨vk, HF.out ▸ hP.out⟩, hB.out⟩

end Go.Proofs.Ytljcbibcdajhiaa
/- The builder's String; the first WriteString. -/
namespace Go.Proofs.Ytljcbibcdajhiaa
open Go.RowKit Go.Maps Go.WideMaps

theorem und89 : Try.prog.underlying 91 = some (.pointer 5) := by kernel_rfl
theorem cellsB : Try.prog.cellsOf 5 = 1 := by kernel_rfl

set_option maxHeartbeats 2000000 in
set_option maxRecDepth 100000 in
theorem bstr_anyK (g m : Nat) (v : Value) (s out : List UInt8) (pl n : Nat) (D : DataW Unit) (w : World) (h : Pk w g m v s out pl n D) (h0 : out ≠ []) :
    Calls Try.prog 17 #[.pointer (some ⟨g, 0, none⟩)] w fun e w' => e = .returned (.string (ba out)) ∧ Below g w w' := by
  have hl0 : out.length ≠ 0 := by simpa using h0
  have c1 : w.cell? ⟨g, 1, none⟩ = some v := by rw [Lib.cell_of_heap h.blk]; rfl
  obtain ⟨k, cap, cur, rfl, hbg, hg, hnc, hcm, hcs, htake⟩ : ∃ k cap cur, v = .slice (some ⟨k, 0, none⟩) out.length cap ∧ g + 1 ≤ k ∧ w.heap[k]? = some (.cells cur 5 (0, 0)) ∧ out.length ≤ cap ∧ cap ≤ maxLen ∧ cur.size = cap * 1 ∧ cur.toList.take (out.length * 1) = Lib.byteCells out := by
    rcases h.own.2 with ⟨_, hz⟩ | ⟨k, cap, cur, hv, r⟩
    · exact absurd hz hl0
    · exact ⟨k, cap, cur, hv, r⟩
  have hSD : (Builtin.unsafeSliceData_ #[37] 91 #[.slice (some ⟨k, 0, none⟩) out.length cap]).run Try.prog w.drew = .ok (.pointer (some ⟨k, 0, none⟩)) w.drew :=
    Lib.run_unsafeSliceData_row _ _ _ _ _ _ (by omega)
  have hUS : (Builtin.unsafeString_ #[91, 3] 9 #[.pointer (some ⟨k, 0, none⟩), .int .i64 out.length]).run Try.prog w.drew = .ok (.string ⟨out.toArray⟩) (w.drew.freeze ⟨k, 0, none⟩ out.length) := by
    refine Lib.run_unsafeString_row w.drew 91 3 9 5 und89 cellsB k cur.size (by have hg' : w.drew.heap[k]? = some (.cells cur 5 (0, 0)) := hg; simp [World.shape?, hg']) out h0 (by omega) (by unfold maxLen at hcm; omega) ?_
    intro j x hx
    have := h.own.cells (g := k) rfl j (.int .u8 x.toNat) (by simp [Lib.byteCells, hx])
    exact this
  clear h htake hcs hg
  go_enter Try.func17, Try.ntmps17
  go_wp2_with fail
  go_region
  all_goals (
    go_wp2
    go_ret
    exact ⟨rfl, Lib.below_freeze (Below.drew (Below.refl g w)) (p := ⟨k, 0, none⟩) (by show g ≤ k; omega) _⟩)

set_option maxHeartbeats 1000000 in
set_option maxRecDepth 100000 in
theorem wstr_first (g m : Nat) (s : List UInt8) (n : Nat) (D : DataW Unit) (t : List UInt8) (w : World) (hb : PkB w g m (.pointer none) (.slice none 0 0) s 0) (hm : w.ownsMap Try.prog 94 (plainElem Try.prog 3) m n D) (hmg : m < g) (hlen : t.length ≤ 1073741824) :
    Calls Try.prog 18 #[.pointer (some ⟨g, 0, none⟩), .string (ba t)] w fun e w' => e = .returned (.tuple #[.int .i64 (t.length : Int), .nilIface]) ∧ (∃ v', Pk w' g m v' s t 0 n D) ∧ Below g w w' := by
  obtain ⟨i0, hi, hz0, hz1, hz2⟩ := info_parts infoU8K
  have hbw := hb.lt
  have c0 : w.cell? ⟨g, 0, none⟩ = some (.pointer none) := by rw [Lib.cell_of_heap hb]; rfl
  have f0 : w.frozen? ⟨g, 0, none⟩ = false := Lib.frozen_of_heap hb 0
  have hsh : w.shape? g = some (59, 5) := by unfold PkB at hb; simp [World.shape?, hb]
  have hts := ba_size t
  have HP : Hid (Pk (w.setCell ⟨g, 0, none⟩ (.pointer (some ⟨g, 0, none⟩))) g m (.slice none 0 0) s [] 0 n D) := ⟨hb.seta _, World.ownsRow_nil _ _ _ _, map_same hm (Below.heap_setCell w _ _ m (by show m ≠ g; omega)), hmg⟩
  have B0 : Hid (Below g w (w.setCell ⟨g, 0, none⟩ (.pointer (some ⟨g, 0, none⟩)))) := (Below.refl g w).setCell (p := ⟨g, 0, none⟩) (Nat.le_refl _) _
  clear hb hm
  go_enter Try.func18, Try.ntmps18
  go_wp2_with fail
  refine (cpC_freshK g w c0 hsh f0).mono ?_
  rintro e w1 ⟨rfl, rfl⟩
  clear c0 f0 hsh
  generalize w.setCell ⟨g, 0, none⟩ (.pointer (some ⟨g, 0, none⟩)) = w1 at HP B0 ⊢
  have hbw1 := HP.out.lt
  have c0 : w1.cell? ⟨g, 0, none⟩ = some (.pointer (some ⟨g, 0, none⟩)) := by rw [Lib.cell_of_heap HP.out.blk]; rfl
  have c1 : w1.cell? ⟨g, 1, none⟩ = some (.slice none 0 0) := by rw [Lib.cell_of_heap HP.out.blk]; rfl
  have hown := HP.out.own
  obtain ⟨v', w2, hr, hown', hgrow, -⟩ := Lib.run_append_own_string (P := Try.prog) w1 (g + 1) 37 9 37 5 i0 undTBK Try.underlying9 hi hz0 hz1 hz2 (.slice none 0 0) 0 (Lib.byteCells []) hown (ba t) (by unfold maxLen; omega) (by omega) (by omega)
  have eC : Lib.byteCells [] ++ Lib.strCells (ba t) = Lib.byteCells t := by rw [Lib.strCells_eq]; rfl
  have hX := HP.out.regrow (out' := t) (Value.slice none 0 0).ownBlock hgrow (fun k hk => by cases hk) (by rw [← eC, ← hts]; simpa using hown')
  have d1 : w2.cell? ⟨g, 1, none⟩ = some (.slice none 0 0) := (World.cell?_of_block (w := w1) (a := ⟨g, 1, none⟩) (hgrow.block g hbw1 (fun e => by cases e))).trans c1
  have f1 : w2.frozen? ⟨g, 1, none⟩ = false := (World.frozen?_of_block (w := w1) (a := ⟨g, 1, none⟩) (hgrow.block g hbw1 (fun e => by cases e))).trans (Lib.frozen_of_heap HP.out.blk 1)
  obtain ⟨ao, n', cap, rfl⟩ := slice_of_row hown'
  have HX : Hid (Pk (w2.setCell ⟨g, 1, none⟩ (.slice ao n' cap)) g m (.slice ao n' cap) s t 0 n D ∧ Below g w (w2.setCell ⟨g, 1, none⟩ (.slice ao n' cap))) := ⟨hX.1, B0.out.trans hX.2⟩
  clear hX hgrow hown' hown eC
  go_wp2_with (first | (refine wpList_appT_is (by rfl) (.tmp 12) (.tmp 13) (by rfl) _ _ _ _ (by rfl) (by rfl) hr ?_))
  go_ret2
  exact ⟨rfl, ⟨_, HX.out.1⟩, HX.out.2⟩

end Go.Proofs.Ytljcbibcdajhiaa
/- Pack, walked. -/
namespace Go.Proofs.Ytljcbibcdajhiaa
open Go.RowKit Go.Maps Go.WideMaps

theorem plT_length : ∀ (f : Nat) (l : List UInt8), (plT f l).length ≤ 2 * l.length := by
  intro f
  induction f with
  | zero => intro l; exact Nat.zero_le _
  | succ f ih =>
    intro l
    unfold plT
    by_cases e : l.length = 0
    · rw [if_pos e]; exact Nat.zero_le _
    · rw [if_neg e, List.length_cons, List.length_append, List.length_take]
      have := ih (l.drop 128)
      rw [List.length_drop] at this
      omega
theorem pkGo_none (s : List UInt8) (f i p : Nat) (hi : i < s.length) (h : findB s i = none) : pkGo s (f + 1) i p = pkGo s f (i + 1) p := by
  rw [pkGo, if_pos hi, h]
theorem pkGo_some (s : List UInt8) (f i p q : Nat) (hi : i < s.length) (h : findB s i = some q) : pkGo s (f + 1) i p = plT (s.length + 1) (cutL s p i) ++ bkT (i - q) (mch s q i (min 131 (s.length - i)) 0) ++ pkGo s f (i + mch s q i (min 131 (s.length - i)) 0) (i + mch s q i (min 131 (s.length - i)) 0) := by
  rw [pkGo, if_pos hi, h]
theorem pkGo_end (s : List UInt8) (f i p : Nat) (hi : ¬ i < s.length) : pkGo s f i p = plT (s.length + 1) (cutL s p s.length) := by
  cases f with
  | zero => rfl
  | succ f => rw [pkGo, if_neg hi]
theorem pkGo_fuel (s : List UInt8) : ∀ (f f' i p : Nat), s.length - i ≤ f → s.length - i ≤ f' → pkGo s f i p = pkGo s f' i p := by
  intro f
  induction f with
  | zero => intro f' i p h _; rw [pkGo_end s 0 i p (by omega), pkGo_end s f' i p (by omega)]
  | succ f ih =>
    intro f' i p h h'
    by_cases hi : i < s.length
    · obtain ⟨f'', rfl⟩ : ∃ f'', f' = f'' + 1 := ⟨f' - 1, by omega⟩
      cases hb : findB s i with
      | none => rw [pkGo_none s f i p hi hb, pkGo_none s f'' i p hi hb, ih f'' (i + 1) p (by omega) (by omega)]
      | some q =>
        have h4 := (findB_some hb).2.2.2
        rw [pkGo_some s f i p q hi hb, pkGo_some s f'' i p q hi hb]
        rw [ih f'' _ _ (by omega) (by omega)]
    · rw [pkGo_end s _ i p hi, pkGo_end s _ i p hi]

theorem lek_lenK (k n : Nat) : (lekK k n).length = k := by
  induction k generalizing n with
  | zero => rfl
  | succ k ih => show (lekK k (n / 256)).length + 1 = k + 1; rw [ih]
theorem leN_lekK (k n : Nat) : leNK (lekK k n) = n % 256 ^ k := by
  induction k generalizing n with
  | zero => show 0 = n % 1; omega
  | succ k ih =>
    show (UInt8.ofNat (n % 256)).toNat + 256 * leNK (lekK k (n / 256)) = n % 256 ^ (k + 1)
    rw [ih, Nat.pow_succ, Nat.mul_comm (256 ^ k) 256, Nat.mod_mul]
    congr 1
    simp
theorem w8_nat (n j : Nat) : (w8 n j).toNat = n / 2 ^ (8 * j) % 256 := by
  have : w8 n j = ((n / 2 ^ (8 * j) % 256 : Nat) : Int) := by unfold w8; rw [Int.natCast_emod, Int.natCast_ediv, Int.natCast_pow]; rfl
  rw [this, Int.toNat_natCast]
theorem le8_eq (n : Nat) : strFn 8 (w8 n) = ba (lekK 8 n) := by
  have e : ∀ m : Nat, m % 256 % 256 = m % 256 := fun m => by omega
  show ByteArray.mk _ = ByteArray.mk _
  congr 2
  simp [List.range_succ, w8_nat, lekK, Nat.div_div_eq_div_mul]
theorem leN_lek8K (n : Nat) (h : n ≤ 1048576) : leNK (lekK 8 n) = n := by
  rw [leN_lekK]
  exact Nat.mod_eq_of_lt (Nat.lt_of_le_of_lt h (by decide))

/-- What is true ahead of each place. -/
structure PLoop (w0 wr : World) (g m : Nat) (s : List UInt8) (gk i : Nat) : Prop where
  fu : gk + i = s.length
  ex : ∃ (v : Value) (out : List UInt8) (p n : Nat) (D : DataW Unit), Pk wr g m v s out p n D ∧ n ≤ i ∧ LastOK s i D ∧ p ≤ i ∧ out ++ pkGo s gk i p = pk s ∧ 8 ≤ out.length ∧ out.length ≤ 8 + 2 * p
  be : Below m w0 wr

theorem pk_big (s : ByteArray) (w : World) (h : 1048576 < s.size) (h2 : s.size ≤ 9223372036854775807) :
    Calls Try.prog 6 #[.string s] w fun e w' => e = .returned (.tuple #[.string ⟨#[]⟩, .int .i64 2]) ∧ w' = w := by
  go_enter Try.func6, Try.ntmps6
  go_wp2
  go_ret2
  exact ⟨rfl, rfl⟩

set_option maxHeartbeats 4000000 in
set_option maxRecDepth 10000 in
theorem pack_any (s : List UInt8) (w : World) (hs : s.length ≤ 1048576) :
    Calls Try.prog 6 #[.string (ba s)] w fun e w' => e = .returned (.tuple #[.string (ba (pk s)), .int .i64 0]) ∧ Below w.heap.size w w' := by
  have hsz := ba_size s
  have hmm := @run_makeMap Try.prog
  go_enter Try.func6, Try.ntmps6
  go_wp2_with fail
  refine (int_any (s.length : Int) _ (by omega) (by omega)).mono ?_
  rintro e w1 ⟨rfl, b1⟩
  have hz1 : ((w.alloc (.map #[] 0)).alloc (.cells #[.pointer none, .slice none 0 0, .string (ba s), .map (some w.heap.size), .int .i64 0] 59)).heap.size = w.heap.size + 2 := by rw [World.size_alloc, World.size_alloc]
  have sA : (w.alloc (.map #[] 0)).heap.size = w.heap.size + 1 := World.size_alloc _ _
  rw [hz1] at b1
  have PB : PkB w1 (w.heap.size + 1) w.heap.size (.pointer none) (.slice none 0 0) s 0 := by
    unfold PkB
    rw [b1.block _ (by omega), ← sA]
    exact Array.getElem?_push_size
  have MP : w1.ownsMap Try.prog 94 (plainElem Try.prog 3) w.heap.size 0 (.map []) := map_same (World.ownsMap_made w Try.prog 94 (plainElem Try.prog 3)) (by rw [b1.block _ (by omega), Below.heap_alloc _ _ _ (by rw [sA]; omega)])
  have B1 : Hid (Below w.heap.size w w1) := (((Below.refl _ _).alloc (Nat.le_refl _) _).alloc (by rw [sA]; omega) _).trans ⟨b1.os, b1.tape, b1.output, b1.size, fun k hk => b1.block k (by omega)⟩
  rw [le8_eq]
  have WF := wstr_first (w.heap.size + 1) w.heap.size s 0 (.map []) (lekK 8 s.length) w1 PB MP (by omega) (by rw [lek_lenK]; omega)
  clear PB MP b1 hz1 sA
  have hm0 : Hid (w.heap.size ≤ w.heap.size) := Nat.le_refl _
  generalize hM : w.heap.size = m at *
  obtain ⟨g, hg⟩ : ∃ g, g = m + 1 := ⟨_, rfl⟩
  rw [← hg] at WF ⊢
  have HG : Hid (g = m + 1 ∧ w.heap.size = m) := ⟨hg, hM⟩
  clear hg hM
  go_wp2_with fail
  refine WF.mono ?_
  rintro e w2 ⟨rfl, ⟨v2, P2⟩, B2⟩
  have HI : Hid (PLoop w w2 g m s s.length 0) := ⟨by omega, ⟨v2, lekK 8 s.length, 0, 0, .map [], P2, Nat.le_refl _, fun k => rfl, Nat.le_refl _, rfl, by rw [lek_lenK]; omega, by rw [lek_lenK]; omega⟩, B1.out.trans ⟨B2.os, B2.tape, B2.output, B2.size, fun k hk => B2.block k (by have := HG.out.1; omega)⟩⟩
  clear WF P2 B2 B1
  go_wp2_with fail
  go_loopg [5] s.length (fun gk ix wr => ∃ i : Nat, ix = .int .i64 i ∧ Hid (PLoop w wr g m s gk i))
  case atStart => exact ⟨0, rfl, HI⟩
  case round =>
    obtain ⟨i, rfl, hPL⟩ := hrel
    clear HI
    have hfu := hPL.out.fu
    obtain ⟨v, out, p, n, D, P, hn, hL, hpi, hout, hbs, hbl⟩ := hPL.out.ex
    have HP : Hid (Pk wr g m v s out p n D) := P
    have HL : Hid (LastOK s i D) := hL
    have HO : Hid (out ++ pkGo s gk i p = pk s) := hout
    have HB : Hid (Below m w wr) := hPL.out.be
    have hgm : m < g := P.mg
    clear P hL hout hPL
    by_cases hi : i < s.length
    · by_cases h4 : i + 4 ≤ s.length
      · have LP := lastPlace_some g m v s out p n D i wr HP.out hs h4 HL.out
        cases hl : lastOf s (fourAt s i) i with
        | none =>
          have HNX : Hid (out ++ pkGo s (gk - 1) (i + 1) p = pk s) := by
            have hb : findB s i = none := by unfold findB; rw [if_pos h4, hl]
            have := HO.out
            rw [show gk = gk - 1 + 1 by omega, pkGo_none s _ i p hi hb] at this
            exact this
          unfold LPost at LP
          rw [hl] at LP
          dsimp only at LP
          go_wp2_with fail
          refine LP.mono ?_
          rintro e w3 ⟨⟨z, rfl⟩, B3⟩
          have HP3 : Hid (Pk w3 g m v s out p n D) := HP.out.below B3
          have HB3 : Hid (Below m w w3) := HB.out.trans ⟨B3.os, B3.tape, B3.output, B3.size, fun k hk => B3.block k (by have := HP.out.lt; omega)⟩
          clear LP B3
          go_wp2_with fail
          refine (passBy_any g m v s out p n D i (i + 1) _ HP3.out hs (by omega) (by omega) hn HL.out).mono ?_
          rintro e w9 ⟨rfl, ⟨n9, D9, hn9, P9, L9⟩, B9⟩
          have HF : Hid (PLoop w w9 g m s (gk - 1) (i + 1)) := ⟨by omega, ⟨v, out, p, n9, D9, P9, hn9, L9, by omega, HNX.out, hbs, hbl⟩, HB3.out.trans B9⟩
          clear P9 L9 B9
          go_wp2
          go_roundg (gk - 1)
          case measure => omega
          case rel => exact ⟨i + 1, by go_num, HF⟩
        | some q =>
          obtain ⟨hq1, hq2, hq3⟩ := lastOf_some hl
          unfold LPost at LP
          rw [hl] at LP
          dsimp only at LP
          go_wp2_with fail
          refine LP.mono ?_
          rintro e w3 ⟨rfl, B3⟩
          have HP3 : Hid (Pk w3 g m v s out p n D) := HP.out.below B3
          have HB3 : Hid (Below m w w3) := HB.out.trans ⟨B3.os, B3.tape, B3.output, B3.size, fun k hk => B3.block k (by have := HP.out.lt; omega)⟩
          clear LP B3
          by_cases hfar : i - q ≤ 65536
          · have hb : findB s i = some q := by unfold findB; rw [if_pos h4, hl]; dsimp only; rw [if_pos hfar]
            have hk4 := (findB_some hb).2.2.2
            have hkm := mch_le s q i (min 131 (s.length - i)) 0
            have HNX : Hid (out ++ plT (s.length + 1) (cutL s p i) ++ bkT (i - q) (mch s q i (min 131 (s.length - i)) 0) ++ pkGo s (gk - mch s q i (min 131 (s.length - i)) 0) (i + mch s q i (min 131 (s.length - i)) 0) (i + mch s q i (min 131 (s.length - i)) 0) = pk s) := by
              have := HO.out
              rw [show gk = gk - 1 + 1 by omega, pkGo_some s _ i p q hi hb, pkGo_fuel s (gk - 1) (gk - mch s q i (min 131 (s.length - i)) 0) _ _ (by omega) (by omega)] at this
              unfold Hid
              rw [← this]
              simp
            have MC := fun w c2 => matching_any g s q i w c2 hs hq1 hi
            have hfar' : (i : Int) - (q : Int) ≤ 65536 := by omega
            have hL1 : mch s q i (min 131 (s.length - i)) 0 ≤ 131 := by omega
            have hL2 : i + mch s q i (min 131 (s.length - i)) 0 ≤ s.length := by omega
            generalize mch s q i (min 131 (s.length - i)) 0 = K at HNX MC hk4 hL1 hL2
            clear hkm hb
            go_wp2_with fail
            refine (MC w3 (by rw [Lib.cell_of_heap HP3.out.blk]; rfl)).mono ?_
            rintro e w4 ⟨rfl, qq, rfl⟩
            clear MC
            go_wp2_with fail
            refine (writePlain_any g m v s out p n D i _ (HP3.out.drewN qq) hs (by omega) hpi (by omega)).mono ?_
            rintro e w5 ⟨rfl, ⟨v5, P5⟩, B5⟩
            have hpl := plT_length (s.length + 1) (cutL s p i)
            rw [cutL_length s p i (by omega)] at hpl
            have HP5 : Hid (Pk w5 g m v5 s (out ++ plT (s.length + 1) (cutL s p i)) i n D) := P5
            have HB5 : Hid (Below m w w5) := (bel_drewN HB3.out qq).trans ⟨B5.os, B5.tape, B5.output, B5.size, fun k hk => B5.block k (by omega)⟩
            clear P5 B5
            have hsub : (i : Int) - (q : Int) = ((i - q : Nat) : Int) := by omega
            go_wp2_with fail
            refine (writeBack_any g m v5 s (out ++ plT (s.length + 1) (cutL s p i)) i n D (i - q) K w5 HP5.out (by rw [List.length_append]; omega) (by omega) hfar hL1 hk4).mono ?_
            rintro e w6 ⟨rfl, ⟨v6, P6⟩, B6⟩
            have x4 : w6.cell? ⟨g, 4, none⟩ = some (.int .i64 (i : Int)) := by rw [Lib.cell_of_heap P6.blk]; rfl
            have y4 : w6.frozen? ⟨g, 4, none⟩ = false := Lib.frozen_of_heap P6.blk 4
            have HP6 : Hid (Pk (w6.setCell ⟨g, 4, none⟩ (.int .i64 ((i : Int) + (K : Int)))) g m v6 s (out ++ plT (s.length + 1) (cutL s p i) ++ bkT (i - q) K) (i + K) n D) := P6.setp (i + K)
            have HB6 : Hid (Below m w (w6.setCell ⟨g, 4, none⟩ (.int .i64 ((i : Int) + (K : Int))))) := (HB5.out.trans ⟨B6.os, B6.tape, B6.output, B6.size, fun k hk => B6.block k (by omega)⟩).setCell (p := ⟨g, 4, none⟩) (by show m ≤ g; omega) _
            have hlen6 : Hid ((out ++ plT (s.length + 1) (cutL s p i) ++ bkT (i - q) K).length ≤ 8 + 2 * (i + K) ∧ 8 ≤ (out ++ plT (s.length + 1) (cutL s p i) ++ bkT (i - q) K).length) := by
              have : (bkT (i - q) K).length = 3 := rfl
              refine ⟨?_, ?_⟩ <;> rw [List.length_append, List.length_append, this] <;> omega
            clear P6 B6 hsub
            go_wp2_with fail
            generalize w6.setCell ⟨g, 4, none⟩ (.int .i64 ((i : Int) + (K : Int))) = w7 at HP6 HB6 ⊢
            refine (passBy_any g m v6 s _ (i + K) n D i (i + K) w7 HP6.out hs (by omega) hL2 hn HL.out).mono ?_
            rintro e w9 ⟨rfl, ⟨n9, D9, hn9, P9, L9⟩, B9⟩
            have HF : Hid (PLoop w w9 g m s (gk - K) (i + K)) := ⟨by omega, ⟨v6, _, i + K, n9, D9, P9, hn9, L9, by omega, HNX.out, hlen6.out.2, hlen6.out.1⟩, HB6.out.trans B9⟩
            clear P9 L9 B9
            go_wp2
            go_roundg (gk - K)
            case measure => omega
            case rel => exact ⟨i + K, by go_num, HF⟩
          · have HNX : Hid (out ++ pkGo s (gk - 1) (i + 1) p = pk s) := by
              have hb : findB s i = none := by unfold findB; rw [if_pos h4, hl]; dsimp only; rw [if_neg hfar]
              have := HO.out
              rw [show gk = gk - 1 + 1 by omega, pkGo_none s _ i p hi hb] at this
              exact this
            have hfar' : ¬ (i : Int) - (q : Int) ≤ 65536 := by omega
            go_wp2_with fail
            refine (passBy_any g m v s out p n D i (i + 1) _ HP3.out hs (by omega) (by omega) hn HL.out).mono ?_
            rintro e w9 ⟨rfl, ⟨n9, D9, hn9, P9, L9⟩, B9⟩
            have HF : Hid (PLoop w w9 g m s (gk - 1) (i + 1)) := ⟨by omega, ⟨v, out, p, n9, D9, P9, hn9, L9, by omega, HNX.out, hbs, hbl⟩, HB3.out.trans B9⟩
            clear P9 L9 B9
            go_wp2
            go_roundg (gk - 1)
            case measure => omega
            case rel => exact ⟨i + 1, by go_num, HF⟩
      · have LP := lastPlace_none g m v s out p n D i wr HP.out hs (by omega) h4
        have HNX : Hid (out ++ pkGo s (gk - 1) (i + 1) p = pk s) := by
          have hb : findB s i = none := by unfold findB; rw [if_neg h4]
          have := HO.out
          rw [show gk = gk - 1 + 1 by omega, pkGo_none s _ i p hi hb] at this
          exact this
        go_wp2_with fail
        refine LP.mono ?_
        rintro e w3 ⟨rfl, B3⟩
        have HP3 : Hid (Pk w3 g m v s out p n D) := HP.out.below B3
        have HB3 : Hid (Below m w w3) := HB.out.trans ⟨B3.os, B3.tape, B3.output, B3.size, fun k hk => B3.block k (by have := HP.out.lt; omega)⟩
        clear LP B3
        go_wp2_with fail
        refine (passBy_any g m v s out p n D i (i + 1) _ HP3.out hs (by omega) (by omega) hn HL.out).mono ?_
        rintro e w9 ⟨rfl, ⟨n9, D9, hn9, P9, L9⟩, B9⟩
        have HF : Hid (PLoop w w9 g m s (gk - 1) (i + 1)) := ⟨by omega, ⟨v, out, p, n9, D9, P9, hn9, L9, by omega, HNX.out, hbs, hbl⟩, HB3.out.trans B9⟩
        clear P9 L9 B9
        go_wp2
        go_roundg (gk - 1)
        case measure => omega
        case rel => exact ⟨i + 1, by go_num, HF⟩
    · have HE : Hid (out ++ plT (s.length + 1) (cutL s p s.length) = pk s) := by
        have := HO.out
        rw [pkGo_end s _ i p hi] at this
        exact this
      go_wp2_with fail
      refine (writePlain_any g m v s out p n D s.length wr HP.out hs (Nat.le_refl _) (by omega) (by omega)).mono ?_
      rintro e w5 ⟨rfl, ⟨v5, P5⟩, B5⟩
      rw [HE.out] at P5
      have hne : pk s ≠ [] := by unfold pk; intro h; have := congrArg List.length h; rw [List.length_append, lek_lenK] at this; simp at this
      have BS := bstr_anyK g m v5 s (pk s) s.length n D w5 P5 hne
      have HB5 : Hid (Below m w w5) := HB.out.trans ⟨B5.os, B5.tape, B5.output, B5.size, fun k hk => B5.block k (by omega)⟩
      clear P5 B5
      go_wp2_with fail
      refine BS.mono ?_
      rintro e w6 ⟨rfl, B6⟩
      have HB6 : Hid (Below w.heap.size w w6) := by unfold Hid; rw [HG.out.2]; exact HB5.out.trans ⟨B6.os, B6.tape, B6.output, B6.size, fun k hk => B6.block k (by omega)⟩
      clear B6 BS
      go_wp2
      go_ret2
      exact ⟨rfl, HB6.out⟩

end Go.Proofs.Ytljcbibcdajhiaa
