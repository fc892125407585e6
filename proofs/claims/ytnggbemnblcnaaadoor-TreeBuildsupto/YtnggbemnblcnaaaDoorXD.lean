/- TxR UhB UhC, gathered (own text of the verifier). -/
import Derived.Test.YtnggbemnblcnaaaDoorTvF
import Derived.Test.YtnggbemnblcnaaaDoorXB
import Derived.Test.YtnggbemnblcnaaaDoorXM
import Derived.Test.YtnggbemnblcnaaaDoorXK
import Derived.Test.YtnggbemnblcnaaaDoorXA
namespace Go.Proofs.YtnggbemnblcnaaaDoor
open Go.RowKit

/-- Rows in memory. -/
def RIs (w : World) (x : Option Addr) (L : List RW) : Prop := ∀ i r, L[i]? = some r → ∃ g o, x = some ⟨g, o, none⟩ ∧ g < w.heap.size ∧ w.cell? ⟨g, o + i * 4, none⟩ = some (.string r.1) ∧ w.cell? ⟨g, o + i * 4 + 1, none⟩ = some (.int .i64 r.2.1) ∧ w.cell? ⟨g, o + i * 4 + 2, none⟩ = some (.bool r.2.2.1) ∧ w.cell? ⟨g, o + i * 4 + 3, none⟩ = some (.string r.2.2.2)
theorem RIs.below {w w' : World} {x : Option Addr} {L : List RW} {B : Nat} (h : RIs w x L) (b : Below B w w') (hB : w.heap.size ≤ B) : RIs w' x L := fun i r hr => by
  obtain ⟨g, o, h1, h2, c0, c1, c2, c3⟩ := h i r hr
  exact ⟨g, o, h1, Nat.lt_of_lt_of_le h2 b.size, (b.cell (p := ⟨g, o + i * 4, none⟩) (Nat.lt_of_lt_of_le h2 hB)).trans c0, (b.cell (p := ⟨g, o + i * 4 + 1, none⟩) (Nat.lt_of_lt_of_le h2 hB)).trans c1, (b.cell (p := ⟨g, o + i * 4 + 2, none⟩) (Nat.lt_of_lt_of_le h2 hB)).trans c2, (b.cell (p := ⟨g, o + i * 4 + 3, none⟩) (Nat.lt_of_lt_of_le h2 hB)).trans c3⟩
theorem RIs.take {w : World} {x : Option Addr} {L : List RW} (h : RIs w x L) (n : Nat) : RIs w x (L.take n) := fun i r hr => h i r (by
  rw [List.getElem?_take] at hr
  split at hr
  · exact hr
  · cases hr)
/-- All texts of the rows are small. -/
def smR (L : List RW) : Prop := ∀ r ∈ L, r.1.size ≤ 1048576 ∧ r.2.2.2.size ≤ 1048576

end Go.Proofs.YtnggbemnblcnaaaDoor
namespace Go.Proofs.YtnggbemnblcnaaaDoor
open Go.RowKit

theorem SL.tns {w : World} {v : Value} {L : List ByteArray} (h : SL w v L) : ∃ x c, v = .slice x L.length c ∧ L.length ≤ c ∧ Tns w x L := by
  rcases h with ⟨h1, h2⟩ | ⟨g, c, h1, h2, h4⟩
  · subst h2
    exact ⟨none, 0, h1, Nat.le_refl _, fun i s hs => by simp at hs⟩
  · refine ⟨_, c, h1, h2, fun i s hs => ?_⟩
    have hi : i < L.length := (List.getElem?_eq_some_iff.1 hs).1
    refine ⟨g, 0, rfl, h4.lt (by omega), ?_⟩
    have := h4.cell i (by omega)
    rw [Nat.zero_add]
    rw [this]
    have e : nth L i = s := by unfold nth; rw [List.getD_eq_getElem?_getD, hs]; rfl
    rw [e]

/-- The first run of rows that begin with the names. -/
structure Fst (L : List RW) (M : List ByteArray) (a c : Nat) : Prop where
  lo : ∀ (i : Nat) (r : RW), i < a → L[i]? = some r → ¬ (M <+: pathN r.1)
  mid : ∀ (i : Nat) (r : RW), a ≤ i → i < c → L[i]? = some r → M <+: pathN r.1
  le : a < c
  len : c ≤ L.length
  stop : ∀ (r : RW), L[c]? = some r → ¬ (M <+: pathN r.1)
def UnR (L : List RW) (M : List ByteArray) (a c : Int) : Prop := (a = -1 ∧ c = L.length ∧ ∀ (i : Nat) (r : RW), L[i]? = some r → ¬ (M <+: pathN r.1)) ∨ ∃ a' c' : Nat, a = a' ∧ c = c' ∧ Fst L M a' c'
def UnP (L : List RW) (M : List ByteArray) (w : World) (e : Ending) (w' : World) : Prop := (∃ a c, e = .returned (.tuple #[.int .i64 a, .int .i64 c]) ∧ UnR L M a c) ∧ Below w.heap.size w w'
/-- Between two rounds: k rows are looked at. -/
def UnI (L : List RW) (M : List ByteArray) (k : Nat) (f : Int) : Prop := (f = -1 ∧ ∀ (i : Nat) (r : RW), i < k → L[i]? = some r → ¬ (M <+: pathN r.1)) ∨ ∃ a : Nat, f = a ∧ a < k ∧ (∀ (i : Nat) (r : RW), i < a → L[i]? = some r → ¬ (M <+: pathN r.1)) ∧ ∀ (i : Nat) (r : RW), a ≤ i → i < k → L[i]? = some r → M <+: pathN r.1
theorem UnI.zero (L : List RW) (M : List ByteArray) : UnI L M 0 (-1) := .inl ⟨rfl, fun i r hi => absurd hi (by omega)⟩
theorem UnI.no {L : List RW} {M : List ByteArray} {k : Nat} {r : RW} (h : UnI L M k (-1)) (hr : L[k]? = some r) (hn : ¬ (M <+: pathN r.1)) : UnI L M (k + 1) (-1) := by
  rcases h with ⟨_, h⟩ | ⟨a, h, _⟩
  · refine .inl ⟨rfl, fun i q hi hq => ?_⟩
    by_cases e : i = k
    · subst e; rw [hr] at hq; cases hq; exact hn
    · exact h i q (by omega) hq
  · omega
theorem UnI.first {L : List RW} {M : List ByteArray} {k : Nat} {r : RW} (h : UnI L M k (-1)) (hr : L[k]? = some r) (hn : M <+: pathN r.1) : UnI L M (k + 1) k := by
  rcases h with ⟨_, h⟩ | ⟨a, h, _⟩
  · refine .inr ⟨k, rfl, by omega, h, fun i q h1 h2 hq => ?_⟩
    obtain rfl : i = k := by omega
    rw [hr] at hq; cases hq; exact hn
  · omega
theorem UnI.more {L : List RW} {M : List ByteArray} {k : Nat} {f : Int} {r : RW} (h : UnI L M k f) (hf : 0 ≤ f) (hr : L[k]? = some r) (hn : M <+: pathN r.1) : UnI L M (k + 1) f := by
  rcases h with ⟨h, _⟩ | ⟨a, h, h1, h2, h3⟩
  · omega
  · refine .inr ⟨a, h, by omega, h2, fun i q g1 g2 hq => ?_⟩
    by_cases e : i = k
    · subst e; rw [hr] at hq; cases hq; exact hn
    · exact h3 i q g1 (by omega) hq
theorem UnI.stop {L : List RW} {M : List ByteArray} {k : Nat} {f : Int} {r : RW} (h : UnI L M k f) (hf : 0 ≤ f) (hr : L[k]? = some r) (hn : ¬ (M <+: pathN r.1)) : UnR L M f k := by
  rcases h with ⟨h, _⟩ | ⟨a, h, h1, h2, h3⟩
  · omega
  · exact .inr ⟨a, k, h, rfl, h2, h3, h1, Nat.le_of_lt (List.getElem?_eq_some_iff.1 hr).1, fun q hq => by rw [hr] at hq; cases hq; exact hn⟩
theorem UnI.done {L : List RW} {M : List ByteArray} {f : Int} (h : UnI L M L.length f) : UnR L M f L.length := by
  rcases h with ⟨h, h1⟩ | ⟨a, h, h1, h2, h3⟩
  · exact .inl ⟨h, rfl, fun i r hr => h1 i r (List.getElem?_eq_some_iff.1 hr).1 hr⟩
  · exact .inr ⟨a, L.length, h, rfl, h2, h3, h1, Nat.le_refl _, fun q hq => by simp at hq⟩
theorem UnI.neg {L : List RW} {M : List ByteArray} {k : Nat} {f : Int} (h : UnI L M k f) : f = -1 ∨ 0 ≤ f ∧ f < k := by
  rcases h with ⟨h, _⟩ | ⟨a, h, h1, _⟩
  · exact .inl h
  · exact .inr ⟨by omega, by omega⟩

set_option maxHeartbeats 4000000 in
theorem under_any (x y : Option Addr) (n c m d : Nat) (L : List RW) (M : List ByteArray) (w : World) (hX : RIs w x L) (hY : Tns w y M) (lx : L.length = n) (ly : M.length = m) (hn : n ≤ 1073741824) (hsm : smR L) :
    Calls Tryd.prog 32 #[.slice x n c, .slice y m d] w (UnP L M w) := by
  have HX : Hid (RIs w x L ∧ L.length = n ∧ smR L) := ⟨hX, lx, hsm⟩
  have HY : Hid (Tns w y M ∧ M.length = m) := ⟨hY, ly⟩
  clear hX hY lx ly hsm
  go_enter Tryd.func32, Tryd.ntmps32
  go_wp2
  go_loopw [6, 7] (fun xf xi wr => ∃ (k : Nat) (f : Int), k ≤ n ∧ xf = .int .i64 f ∧ xi = .int .i64 k ∧ Hid (UnI L M k f) ∧ Hid (Below w.heap.size w wr)) (fun _ i _ => n - (intOf i).toNat)
  case atStart => exact ⟨0, -1, Nat.zero_le _, rfl, rfl, UnI.zero L M, Below.refl _ _⟩
  case round =>
    obtain ⟨k, f, hk, rfl, rfl, hI, hB⟩ := hrel
    by_cases hlt : k < n
    · obtain ⟨r, hr⟩ : ∃ r, L[k]? = some r := ⟨_, List.getElem?_eq_getElem (by rw [HX.out.2.1]; exact hlt)⟩
      have HR : Hid (L[k]? = some r) := hr
      obtain ⟨g, o, rfl, hg, c0, _⟩ := HX.out.1.below hB.out (Nat.le_refl _) k r hr
      have hps := (HX.out.2.2 r (List.mem_of_getElem? hr)).1
      obtain ⟨p, hp⟩ : ∃ p, p = r.1 := ⟨_, rfl⟩
      rw [← hp] at c0 hps
      have HP : Hid (p = r.1) := hp
      have hf' := hI.out.neg
      clear hp hr
      have CC := rsplit_any p wr (by omega)
      go_wp2_with fail
      refine CC.mono ?_
      rintro e5 w5 ⟨v5, rfl, hs5, b5⟩
      obtain ⟨x5, c5, rfl, _, T5⟩ := hs5.tns
      have HB5 : Hid (Below w.heap.size w w5) := hB.out.trans (b5.mono (hB.out.size))
      have CB := rbegins_any x5 y (pathN p).length c5 m d (pathN p) M w5 T5 (HY.out.1.below HB5.out) rfl HY.out.2 (by have := pathN_short p; omega)
      obtain ⟨E, hE⟩ : ∃ E, E = decide (M <+: pathN p) := ⟨_, rfl⟩
      rw [← hE] at CB
      have HE : Hid (E = decide (M <+: pathN p)) := hE
      clear hE hs5 T5 b5 c0
      generalize (pathN p).length = q5 at *
      generalize (pathF p).1 = z1 at *
      generalize (pathF p).2 = z2 at *
      go_wp2_with fail
      refine CB.mono ?_
      rintro e6 w6 ⟨rfl, b6⟩
      have HB6 : Hid (Below w.heap.size w w6) := HB5.out.trans (b6.mono (HB5.out.size))
      clear b6 HB5 CC CB
      cases E
      · have hno : Hid (¬ (M <+: pathN r.1)) := by
          show ¬ (M <+: pathN r.1)
          rw [← HP.out]; exact of_decide_eq_false HE.out.symm
        rcases hf' with rfl | ⟨h1, h2⟩
        · go_wp2
          go_roundw
          case rel => exact ⟨k + 1, -1, by omega, rfl, by go_num, hI.out.no HR.out hno.out, HB6⟩
          case measure => simp [intOf]; omega
        · have hd : decide ((0 : Int) ≤ f) = true := decide_eq_true h1
          go_wp2
          try rw [Exit.noGoto_ret]
          go_ret2
          exact ⟨⟨_, _, rfl, hI.out.stop h1 HR.out hno.out⟩, HB6.out⟩
      · have hyes : Hid (M <+: pathN r.1) := by
          show M <+: pathN r.1
          rw [← HP.out]; exact of_decide_eq_true HE.out.symm
        rcases hf' with rfl | ⟨h1, h2⟩
        · go_wp2
          go_roundw
          case rel => exact ⟨k + 1, k, by omega, rfl, by go_num, hI.out.first HR.out hyes.out, HB6⟩
          case measure => simp [intOf]; omega
        · have hd : decide (f < (0 : Int)) = false := decide_eq_false (by omega)
          go_wp2
          go_roundw
          case rel => exact ⟨k + 1, f, by omega, rfl, by go_num, hI.out.more h1 HR.out hyes.out, HB6⟩
          case measure => simp [intOf]; omega
    · obtain rfl : k = n := by omega
      go_wp2
      go_ret2
      refine ⟨⟨_, _, rfl, ?_⟩, hB.out⟩
      have := hI.out
      rw [← HX.out.2.1] at this ⊢
      exact this.done
end Go.Proofs.YtnggbemnblcnaaaDoor
namespace Go.Proofs.YtnggbemnblcnaaaDoor
open Go.RowKit

theorem Tns.take {w : World} {x : Option Addr} {L : List ByteArray} (h : Tns w x L) (n : Nat) : Tns w x (L.take n) := fun i s hs => h i s (by
  rw [List.getElem?_take] at hs
  split at hs
  · exact hs
  · cases hs)
theorem Fst.run {nm : ByteArray → List ByteArray} {L : List RW} {M : List ByteArray} {a c a' c' : Nat} (h : Fst L M a c) (hn : nm = pathN) (r : Run nm M L a' c') : a = a' ∧ c = c' := by
  subst hn
  have ha : a = a' := by
    rcases Nat.lt_trichotomy a a' with hl | hl | hl
    · have hal : a < L.length := by have := h.le; have := h.len; omega
      exact absurd (h.mid a _ (Nat.le_refl _) h.le (List.getElem?_eq_getElem hal)) (r.lo a _ hl (List.getElem?_eq_getElem hal))
    · exact hl
    · have hal : a' < L.length := by have := r.le; have := r.len; omega
      exact absurd (r.mid a' _ (Nat.le_refl _) r.le (List.getElem?_eq_getElem hal)) (h.lo a' _ hl (List.getElem?_eq_getElem hal))
  subst ha
  refine ⟨rfl, ?_⟩
  rcases Nat.lt_trichotomy c c' with hl | hl | hl
  · have hal : c < L.length := by have := r.len; omega
    exact absurd (r.mid c _ (Nat.le_of_lt h.le) hl (List.getElem?_eq_getElem hal)) (h.stop _ (List.getElem?_eq_getElem hal))
  · exact hl
  · have hal : c' < L.length := by have := h.len; omega
    exact absurd (h.mid c' _ (Nat.le_of_lt r.le) hl (List.getElem?_eq_getElem hal)) (r.hi c' _ (Nat.le_refl _) (List.getElem?_eq_getElem hal))
/-- What under answers over the rows of a well-formed tree. -/
theorem UnR.tree {T : Tr} {M : List ByteArray} {a c : Int} (h : UnR (rwT [] T) M a c) (hv : (vT [] 24 T).off = none) (ha : ascT T) :
    (lk M T = none ∧ a = -1) ∨ ∃ (K : Tr) (A B : List (List ByteArray × Tr)), lk M T = some K ∧ rnT [] T = A ++ rnT M K ++ B ∧ a = A.length ∧ c = (A.length + (rnT M K).length : Nat) ∧ (rwT [] T)[A.length]? = some (joinB M, K.k, K.e, K.t) := by
  cases hk : lk M T with
  | none =>
    have hr := run_none pathN_ok hv ha hk
    rcases h with ⟨h1, _⟩ | ⟨a', c', h1, _, hF⟩
    · exact .inl ⟨rfl, h1⟩
    · exfalso
      have hal : a' < (rwT [] T).length := by have := hF.le; have := hF.len; omega
      exact hr _ (List.getElem_mem hal) (hF.mid a' _ (Nat.le_refl _) hF.le (List.getElem?_eq_getElem hal))
  | some K =>
    obtain ⟨A, B, e, R, hat⟩ := run_some pathN_ok hv ha hk
    right
    rcases h with ⟨_, _, h3⟩ | ⟨a', c', h1, h2, hF⟩
    · exfalso
      have hal : A.length < (rwT [] T).length := by have := R.le; have := R.len; omega
      exact h3 _ _ (List.getElem?_eq_getElem hal) (R.mid A.length _ (Nat.le_refl _) R.le (List.getElem?_eq_getElem hal))
    · obtain ⟨e1, e2⟩ := hF.run rfl R
      exact ⟨K, A, B, rfl, e, by rw [h1, e1], by rw [h2, e2], hat⟩

set_option maxHeartbeats 4000000 in
theorem way_any (x y : Option Addr) (n c m d : Nat) (T : Tr) (M : List ByteArray) (w : World) (hX : RIs w x (rwT [] T)) (hY : Tns w y M) (lx : (rwT [] T).length = n) (ly : M.length = m) (hn : n ≤ 1073741824) (hsm : smR (rwT [] T)) (hd : m ≤ d) (hm : m ≤ 1073741824) (hv : (vT [] 24 T).off = none) (ha : ascT T) :
    Calls Tryd.prog 31 #[.slice x n c, .slice y m d] w fun e w' => e = .returned (.int .i64 (wayC T M)) ∧ Below w.heap.size w w' := by
  have HX : Hid (RIs w x (rwT [] T) ∧ (rwT [] T).length = n ∧ smR (rwT [] T)) := ⟨hX, lx, hsm⟩
  have HY : Hid (Tns w y M ∧ M.length = m) := ⟨hY, ly⟩
  have HV : Hid ((vT [] 24 T).off = none ∧ ascT T) := ⟨hv, ha⟩
  clear hX hY lx ly hsm hv ha
  generalize hC : wayC T M = C
  have HC : Hid (wayC T M = C) := hC
  clear hC
  go_enter Tryd.func31, Tryd.ntmps31
  go_wp2
  go_loopw [5] (fun xi wr => ∃ (k : Nat), k ≤ m ∧ xi = .int .i64 k ∧ Hid (∀ j, j < k → ∃ K, lk (M.take j) T = some K ∧ K.k = 3) ∧ Hid (Below w.heap.size w wr)) (fun i _ => m - (intOf i).toNat)
  case atStart => exact ⟨0, Nat.zero_le _, rfl, fun j hj => absurd hj (by omega), Below.refl _ _⟩
  case round =>
    obtain ⟨k, hk, rfl, hI, hB⟩ := hrel
    by_cases hlt : k < m
    · have CU := under_any x y n c k d (rwT [] T) (M.take k) wr (HX.out.1.below hB.out (Nat.le_refl _)) ((HY.out.1.below hB.out).take k) HX.out.2.1 (by rw [List.length_take, HY.out.2]; omega) hn HX.out.2.2
      go_wp2_with fail
      refine CU.mono ?_
      rintro e5 w5 ⟨⟨a, q, rfl, hU⟩, b5⟩
      have HB5 : Hid (Below w.heap.size w w5) := hB.out.trans (b5.mono (hB.out.size))
      have hW := wayC_bad (T := T) (names := M) (k := k) (by rw [HY.out.2]; exact hlt) hI.out
      have hU' := hU.tree HV.out.1 HV.out.2
      clear CU b5 hU
      rcases hU' with ⟨hno, rfl⟩ | ⟨K, A, B, hK, e1, rfl, rfl, hat⟩
      · have h3 : C = 3 := by rw [← HC.out]; exact hW.1 hno
        subst h3
        clear hno hW
        go_wp2
        try rw [Exit.noGoto_ret]
        go_ret
        exact ⟨rfl, HB5.out⟩
      · obtain ⟨g, o, rfl, hg, _, c1, _⟩ := HX.out.1.below HB5.out (Nat.le_refl _) _ _ hat
        have HA : Hid (A.length < n) := by
          rw [← HX.out.2.1]; exact (List.getElem?_eq_some_iff.1 hat).1
        have hAn := HA.out
        have HK : Hid (lk (M.take k) T = some K) := hK
        have HW : Hid (K.k ≠ 3 → C = 65) := fun h => by rw [← HC.out]; exact hW.2 K hK h
        clear hW hK e1 hat
        generalize A.length = a at *
        generalize a + (rnT (M.take k) K).length = q at *
        obtain ⟨kk, hkk⟩ : ∃ kk, K.k = kk := ⟨_, rfl⟩
        rw [hkk] at c1
        have HKK : Hid (K.k = kk) := hkk
        clear hkk
        have c1' : w5.cell? ⟨g, o + a * 4 + 1, none⟩ = some (.int .i64 kk) := c1
        clear c1
        by_cases h3 : kk = 3
        · have hI2 : Hid (∀ j, j < k + 1 → ∃ K, lk (M.take j) T = some K ∧ K.k = 3) := fun j hj => by
            by_cases e : j = k
            · exact ⟨K, by rw [e]; exact HK.out, by rw [HKK.out, h3]⟩
            · exact hI.out j (by omega)
          rw [h3] at c1'
          clear h3
          go_wp2
          go_roundw
          case rel => exact ⟨k + 1, by omega, by go_num, hI2, HB5⟩
          case measure => simp [intOf]; omega
        · have h65 : C = 65 := HW.out (by rw [HKK.out]; exact h3)
          subst h65
          have hne : (kk == 3) = false := by simp [h3]
          go_wp2
          try rw [Exit.noGoto_ret]
          go_ret
          exact ⟨rfl, HB5.out⟩
    · obtain rfl : k = m := by omega
      have h0 : C = 0 := by rw [← HC.out]; exact wayC_ok (by rw [HY.out.2]; exact hI.out)
      subst h0
      go_wp2
      go_ret
      exact ⟨rfl, hB.out⟩
end Go.Proofs.YtnggbemnblcnaaaDoor
