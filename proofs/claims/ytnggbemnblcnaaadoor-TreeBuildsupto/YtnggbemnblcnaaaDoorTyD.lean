/- namesOf and reachHolder, walked (own text of the verifier). -/
import Derived.Test.YtnggbemnblcnaaaDoorTyC
import Derived.Test.YtnggbemnblcnaaaDoorTvD
import Derived.Test.YtnggbemnblcnaaaDoorSpB
import Derived.BigQuiet
namespace Go.Proofs.YtnggbemnblcnaaaDoor
open Go.RowKit

/-- A row of nodes. -/
def Nds (w : World) (x : Option Addr) (Ts : List Tr) : Prop := ∀ j T, Ts[j]? = some T → smT T ∧ ∃ (m g o : Nat), x = some ⟨g, o, none⟩ ∧ NP w m g (o + j * 4) T
theorem NP.below {w w' : World} {m g o : Nat} {T : Tr} (h : NP w m g o T) (b : Below w.heap.size w w') : NP w' m g o T := by
  obtain ⟨h1, x, n, c, c0, c1, c2, c3, hA⟩ := h
  refine ⟨Nat.lt_of_lt_of_le h1 b.size, x, n, c, ?_, ?_, ?_, ?_, hA.below b⟩
  · rw [b.cell (p := ⟨g, o, none⟩) h1]; exact c0
  · rw [b.cell (p := ⟨g, o + 1, none⟩) h1]; exact c1
  · rw [b.cell (p := ⟨g, o + 2, none⟩) h1]; exact c2
  · rw [b.cell (p := ⟨g, o + 3, none⟩) h1]; exact c3
theorem Nds.below {w w' : World} {x : Option Addr} {Ts : List Tr} (h : Nds w x Ts) (b : Below w.heap.size w w') : Nds w' x Ts := fun j T hT => by
  obtain ⟨h0, m, g, o, h1, h2⟩ := h j T hT
  exact ⟨h0, m, g, o, h1, h2.below b⟩

theorem SLc.alloc {w : World} {B : Nat} {v : Value} {L : List ByteArray} (h : SLc w B v L) (o : Obj) : SLc (w.alloc o) B v L := by
  rcases h with h | ⟨g, c, h1, h2, h3, h4⟩
  · exact Or.inl h
  · exact Or.inr ⟨g, c, h1, h2, h3, h4.alloc (h4.lt (by omega)) o⟩
theorem SLc.drewN {w : World} {B : Nat} {v : Value} {L : List ByteArray} (h : SLc w B v L) (q : Nat) : SLc (w.drewN q) B v L := by
  rcases h with h | ⟨g, c, h1, h2, h3, h4⟩
  · exact Or.inl h
  · exact Or.inr ⟨g, c, h1, h2, h3, h4.drewN q⟩

/-- The first code that Check has for the trees. -/
def ckS : List Tr → Int
  | [] => 0
  | T :: l => if (ckT T).2 ≠ 0 then (ckT T).2 else ckS l
/-- What namesOf answers. -/
def nmO (Ts : List Tr) (p : ByteArray) : Int := if ckS Ts ≠ 0 then ckS Ts else (pathF p).1
def NmP (Ts : List Tr) (p : ByteArray) (w : World) (e : Ending) (w' : World) : Prop := (∃ v, e = .returned (.tuple #[v, .int .i64 (nmO Ts p)]) ∧ (nmO Ts p = 0 → SLc w' w.heap.size v (pathN p))) ∧ Below w.heap.size w w'
theorem NmP.bad {Ts : List Tr} {p : ByteArray} {w w' : World} {c : Int} {v : Value} (h : ckS Ts = c) (hc : c ≠ 0) (b : Below w.heap.size w w') : NmP Ts p w (.returned (.tuple #[v, .int .i64 c])) w' := by
  have e : nmO Ts p = c := by unfold nmO; rw [h, if_pos hc]
  refine ⟨⟨_, by rw [e], fun h' => ?_⟩, b⟩
  rw [e] at h'; exact absurd h' hc
theorem NmP.ok {Ts : List Tr} {p : ByteArray} {w w' : World} {c : Int} {v : Value} (h : ckS Ts = 0) (hc : (pathF p).1 = c) (hs : SLc w' w.heap.size v (pathN p)) (b : Below w.heap.size w w') : NmP Ts p w (.returned (.tuple #[v, .int .i64 c])) w' := by
  have e : nmO Ts p = c := by unfold nmO; rw [h, hc, if_neg (by decide)]
  exact ⟨⟨_, by rw [e], fun _ => hs⟩, b⟩

set_option maxHeartbeats 8000000 in
theorem namesOf_any (p : ByteArray) (x : Option Addr) (Ts : List Tr) (n c : Nat) (w : World) (hp : p.size ≤ 140737488351232) (hl : Ts.length = n) (hn : n ≤ 2) (H : Nds w x Ts) :
    Calls Tryd.prog 26 #[.string p, .slice x n c] w (NmP Ts p w) := by
  have HH : Hid (Nds w x Ts) := H
  have HL : Hid (Ts.length = n) := hl
  clear H hl
  go_enter Tryd.func26, Tryd.ntmps26
  go_wp2
  go_loopw [14] (fun xi wr => ∃ k : Nat, k ≤ n ∧ xi = .int .i64 k ∧ Hid (Below w.heap.size w wr) ∧ Hid (ckS (Ts.drop k) = ckS Ts)) (fun i _ => n - (intOf i).toNat)
  case atStart => exact ⟨0, Nat.zero_le _, rfl, Below.refl _ _, rfl⟩
  case round =>
    obtain ⟨k, hk, rfl, hB, HI⟩ := hrel
    by_cases hlt : k < n
    · obtain ⟨T, hT⟩ : ∃ T, Ts[k]? = some T := ⟨_, List.getElem?_eq_getElem (by rw [HL.out]; exact hlt)⟩
      obtain ⟨hsm, m, g, o, rfl, hg, y, n1, c1, d0, d1, d2, d3, hA⟩ := HH.out.below hB.out k T hT
      have HD : Hid (Ts.drop k = T :: Ts.drop (k + 1)) := by
        show Ts.drop k = T :: Ts.drop (k + 1)
        rw [List.drop_eq_getElem_cons (by rw [HL.out]; exact hlt)]; rw [List.getElem?_eq_getElem (by rw [HL.out]; exact hlt)] at hT; rw [Option.some.inj hT]
      have HA : Hid (At wr m (.agg #[.int .i64 T.k, .bool T.e, .string T.t, .slice y n1 c1]) T ∧ smT T) := ⟨hA, hsm⟩
      clear hA hsm hT
      generalize q1 : T.k = kk at d0 HA
      generalize q2 : T.e = ee at d1 HA
      generalize q3 : T.t = tt at d2 HA
      clear q1 q2 q3
      go_wp2_with fail
      refine (check_tree m _ T _ (HA.out.1.below ((Below.refl _ _).alloc (Nat.le_refl _) _)) HA.out.2).mono ?_
      rintro e w2 ⟨rfl, b2⟩
      have B2 : Hid (Below w.heap.size w w2) := hB.out.trans ((((Below.refl _ _).alloc (Nat.le_refl _) _).trans (b2.mono (by rw [World.size_alloc]; omega))).mono hB.out.size)
      clear b2 d0 d1 d2 d3 HA hg hB
      obtain ⟨cc, hcc⟩ : ∃ cc, (ckT T).2 = cc := ⟨_, rfl⟩
      rw [hcc]
      by_cases hz : cc = 0
      · have HR : Hid (ckS (Ts.drop (k + 1)) = ckS Ts) := by
          show ckS (Ts.drop (k + 1)) = ckS Ts
          rw [← HI.out, HD.out, ckS, hcc, if_neg (by rw [hz]; decide)]
        subst hz
        clear hcc
        go_wp2
        go_roundw
        case rel => exact ⟨k + 1, by omega, by go_num, B2, HR⟩
        case measure => simp [intOf]; omega
      · have HR : Hid (ckS Ts = cc) := by
          show ckS Ts = cc
          rw [← HI.out, HD.out, ckS, hcc, if_pos hz]
        clear hcc
        go_wp2
        go_ret2
        exact NmP.bad HR.out hz B2.out
    · obtain rfl : k = n := by omega
      have HR : Hid (ckS Ts = 0) := by
        show ckS Ts = 0
        rw [← HI.out, List.drop_of_length_le (by rw [HL.out]; exact Nat.le_refl _), ckS]
      go_wp2_with fail
      refine (split_full p _ hp).mono ?_
      rintro e w2 ⟨v, rfl, hS, b2⟩
      have B2 : Hid (Below w.heap.size w w2) := hB.out.trans (b2.mono hB.out.size)
      have HS : Hid (SLc w2 w.heap.size v (pathN p)) := by
        rcases hS with h | ⟨g, c, h1, h2, h3, h4⟩
        · exact Or.inl h
        · exact Or.inr ⟨g, c, h1, h2, ⟨Nat.le_trans hB.out.size h3.1, h3.2⟩, h4⟩
      clear b2 hS hB
      obtain ⟨c1, hc1⟩ : ∃ c1, (pathF p).1 = c1 := ⟨_, rfl⟩
      obtain ⟨c2, hc2⟩ : ∃ c2, (pathF p).2 = c2 := ⟨_, rfl⟩
      have HC : Hid ((pathF p).1 = c1) := hc1
      rw [hc1, hc2]
      clear hc1 hc2
      go_wp2_with fail
      go_quiet (fail)
      go_wp2
      go_ret2
      exact NmP.ok HR.out HC.out ((HS.out.alloc _).drewN _) (bel_drewN (B2.out.alloc B2.out.size _) _)

theorem Rch.bel {w w' : World} {g o g' o' : Nat} {L : List ByteArray} (h : Rch w g o L g' o') (b : Below w.heap.size w w') : Rch w' g o L g' o' := by
  induction h with
  | nil => exact Rch.nil _ _
  | snoc _ h2 h3 h4 ih => exact ih.snoc ((b.cell (World.block_lt_of_cell? _ _ h2)).trans h2) h3 ((b.cell (World.block_lt_of_cell? _ _ h4)).trans h4)
theorem undrew (w : World) (q : Nat) : Below (w.drewN q).heap.size (w.drewN q) w := ⟨rfl, rfl, rfl, Nat.le_refl _, fun _ _ => rfl⟩

/-- A row of texts that Split made. -/
theorem SLc.tns {w : World} {B : Nat} {v : Value} {L : List ByteArray} (h : SLc w B v L) : ∃ x c, v = .slice x L.length c ∧ L.length ≤ c ∧ Tns w x L := by
  rcases h with ⟨h1, h2⟩ | ⟨g, c, h1, h2, h3, h4⟩
  · subst h2
    exact ⟨none, 0, h1, Nat.le_refl _, fun i s hs => by simp at hs⟩
  · refine ⟨_, c, h1, h2, fun i s hs => ?_⟩
    have hi : i < L.length := (List.getElem?_eq_some_iff.1 hs).1
    refine ⟨g, 0, rfl, h4.lt (by omega), ?_⟩
    have := h4.cell i (by omega)
    rw [Nat.zero_add]
    rw [this]
    have e : nth L i = s := by unfold nth; rw [List.getD_eq_getElem?_getD, hs]; rfl
    rw [e]

/-- What reachHolder answers. -/
def rchH (L : List ByteArray) (T : Tr) : Int × Tr := if (rch L T).1 ≠ 0 then rch L T else if (rch L T).2.k ≠ 3 then (65, (rch L T).2) else rch L T
def RhP (w : World) (g o : Nat) (L : List ByteArray) (s : ByteArray) (T : Tr) (e : Ending) (w' : World) : Prop := (((rchH L T).1 ≠ 0 ∧ e = .returned (.tuple #[.pointer none, .string ⟨#[]⟩, .int .i64 (rchH L T).1])) ∨ ((rchH L T).1 = 0 ∧ ∃ g' o' m', e = .returned (.tuple #[.pointer (some ⟨g', o', none⟩), .string s, .int .i64 0]) ∧ (rch L T).1 = 0 ∧ (rch L T).2.k = 3 ∧ NP w m' g' o' (rch L T).2 ∧ ascT (rch L T).2 ∧ Rch w g o L g' o')) ∧ Below w.heap.size w w'
theorem RhP.bad {w w' : World} {g o : Nat} {L : List ByteArray} {s : ByteArray} {T : Tr} {c : Int} (h : (rchH L T).1 = c) (hc : c ≠ 0) (b : Below w.heap.size w w') : RhP w g o L s T (.returned (.tuple #[.pointer none, .string ⟨#[]⟩, .int .i64 c])) w' :=
  ⟨Or.inl ⟨by rw [h]; exact hc, by rw [h]⟩, b⟩

set_option maxHeartbeats 8000000 in
theorem reachH_any (m g o c : Nat) (T : Tr) (x : Option Addr) (L : List ByteArray) (s : ByteArray) (w : World) (H : NP w m g o T) (A : ascT T) (N : Tns w x (L ++ [s])) (hl : L.length ≤ 999999) (hc : L.length + 1 ≤ c) :
    Calls Tryd.prog 34 #[.pointer (some ⟨g, o, none⟩), .slice x ((L.length + 1 : Nat) : Nat) c] w (RhP w g o L s T) := by
  obtain ⟨gx, ox, rfl, hgx, cx⟩ := N L.length s (by simp)
  have N1 : Hid (Tns w (some ⟨gx, ox, none⟩) L) := fun i z hz => N i z (by rw [List.getElem?_append_left (List.getElem?_eq_some_iff.1 hz).1]; exact hz)
  have HH : Hid (NP w m g o T ∧ ascT T) := ⟨H, A⟩
  clear H A N
  obtain ⟨n, hn⟩ : ∃ n, L.length = n := ⟨_, rfl⟩
  have HL : Hid (L.length = n) := hn
  rw [hn] at hl hc cx ⊢
  clear hn
  go_enter Tryd.func34, Tryd.ntmps34
  go_wp2_with fail
  go_quiet (fail)
  have B0 : Below w.heap.size w (w.drewN nq) := bel_drewN (Below.refl _ _) _
  have HH2 : Hid (NP (w.drewN nq) m g o T ∧ ascT T) := ⟨HH.out.1.below B0, HH.out.2⟩
  have N2 : Hid (Tns (w.drewN nq) (some ⟨gx, ox, none⟩) L) := N1.out.below B0
  go_wp2_with fail
  rw [← HL.out]
  refine (reach_any m g o c T _ L (w.drewN nq) HH2.out.1 HH2.out.2 N2.out (by rw [HL.out]; omega)).mono ?_
  rintro e w2 ⟨⟨pv, rfl, h1, h2⟩, b2⟩
  rw [HL.out]
  have B2 : Hid (Below w.heap.size w w2) := B0.trans b2
  have B3 : Hid (Below w.heap.size (w.drewN nq) w2) := b2
  clear b2 HH2 N2 cx hgx B0
  obtain ⟨cc, hcc⟩ : ∃ cc, (rch L T).1 = cc := ⟨_, rfl⟩
  have HC : Hid ((rch L T).1 = cc) := hcc
  rw [hcc] at h1 h2 ⊢
  clear hcc
  by_cases hz : cc = 0
  · obtain ⟨g', o', m', rfl, i1, i2, i3⟩ := h2 hz
    have HN : Hid (NP w m' g' o' (rch L T).2 ∧ ascT (rch L T).2 ∧ Rch w g o L g' o') := ⟨i1.below (undrew w nq), i2, i3.bel (undrew w nq)⟩
    obtain ⟨hg', x1, n1, c1, d0, _, _, _, _⟩ := i1
    have e0 : w2.cell? ⟨g', o', none⟩ = some (.int .i64 (rch L T).2.k) := by rw [B3.out.cell (p := ⟨g', o', none⟩) hg']; exact d0
    have hg2 : g' < w2.heap.size := Nat.lt_of_lt_of_le hg' B2.out.size
    clear h1 h2 i2 i3 d0 hg'
    subst hz
    obtain ⟨kd, hkd⟩ : ∃ kd, (rch L T).2.k = kd := ⟨_, rfl⟩
    rw [hkd] at e0
    have HK : Hid ((rch L T).2.k = kd) := hkd
    clear hkd
    by_cases h3 : kd = 3
    · subst h3
      have HR : Hid ((rchH L T).1 = 0) := by
        show (rchH L T).1 = 0
        unfold rchH; rw [if_neg (by rw [HC.out]; decide), if_neg (by rw [HK.out]; decide)]; exact HC.out
      go_wp2
      go_ret3
      exact ⟨Or.inr ⟨HR.out, g', o', m', rfl, HC.out, HK.out, HN.out.1, HN.out.2.1, HN.out.2.2⟩, B2.out⟩
    · have HR : Hid ((rchH L T).1 = 65) := by
        show (rchH L T).1 = 65
        unfold rchH; rw [if_neg (by rw [HC.out]; decide), if_pos (by rw [HK.out]; exact h3)]
      go_wp2
      go_ret3
      exact RhP.bad HR.out (by decide) B2.out
  · have HR : Hid ((rchH L T).1 = cc) := by
      show (rchH L T).1 = cc
      unfold rchH; rw [if_pos (by rw [HC.out]; exact hz), HC.out]
    obtain rfl := h1 hz
    clear h1 h2
    go_wp2
    go_ret3
    exact RhP.bad HR.out hz B2.out
end Go.Proofs.YtnggbemnblcnaaaDoor
