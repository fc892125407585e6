/- openFor, walked (own text of the verifier). -/
import Derived.Test.YtmknnblogfpifaaDoorTxC
import Derived.Test.YtmknnblogfpifaaDoorCmA
import Derived.Deep.QuietTactic
import Derived.BigQuiet
namespace Go.Proofs.YtmknnblogfpifaaDoor
open Go.RowKit

theorem way_get (S : List OE) (j : Nat) (h : j + 1 < S.length) : ∃ o, S.reverse[j + 1]? = some o ∧ (way S)[j]? = some o.nm := by
  have h1 : j + 1 < S.reverse.length := by rw [List.length_reverse]; exact h
  refine ⟨S.reverse[j + 1], List.getElem?_eq_getElem h1, ?_⟩
  unfold way
  rw [List.getElem?_map, List.getElem?_drop, Nat.add_comm 1 j, List.getElem?_eq_getElem h1]
  rfl
theorem nth_get (ns : List ByteArray) (j : Nat) (h : j < ns.length) : ns[j]? = some (nth ns j) := by
  unfold nth
  rw [List.getD_eq_getElem?_getD, List.getElem?_eq_getElem h]
  rfl
theorem way_eq (S : List OE) (ns : List ByteArray) (h : ∀ j, j < ns.length - 1 → (way S)[j]? = some (nth ns j)) : (way S).take (ns.length - 1) = ns.dropLast := by
  apply List.ext_getElem?
  intro j
  by_cases hj : j < ns.length - 1
  · rw [List.getElem?_take_of_lt hj, h j hj, List.getElem?_dropLast, if_pos hj, nth_get ns j (by omega)]
  · rw [List.getElem?_take, if_neg hj, List.getElem?_dropLast, if_neg hj]
theorem last_get (ns : List ByteArray) (h : ns ≠ []) : ns.getLast? = some (nth ns (ns.length - 1)) := by
  have hl : 0 < ns.length := List.length_pos_iff.2 h
  rw [List.getLast?_eq_getElem?, nth_get ns _ (by omega)]
theorem rev_last (h : OE) (R : List OE) : (h :: R).reverse[R.length]? = some h := by
  rw [List.reverse_cons, List.getElem?_append_right (by simp)]
  simp

theorem TrV.len {w : World} {B : Nat} {T : Tr} {v : Value} {fp : List Nat} (h : TrV w B T v fp) : T.nms.length = T.ks.length := by
  obtain ⟨k, e, t, nms, ks⟩ := T
  rw [TrV] at h
  obtain ⟨cs, fq, ho, hk, rfl⟩ := h
  exact (KidV.len nms ks cs fq hk).2
theorem TrV.small {w : World} {B : Nat} {T : Tr} {x : Option Addr} {n c : Nat} {fp : List Nat} (h : TrV w B T (.slice x n c) fp) : n ≤ maxLen := by
  obtain ⟨k, e, t, nms, ks⟩ := T
  rw [TrV] at h
  obtain ⟨cs, fq, ho, _, _⟩ := h
  rcases ho.2 with ⟨e, _⟩ | ⟨_, cap, _, e, _, _, hn, hm, _⟩
  · injection e with _ e2 _
    rw [e2]
    exact Nat.zero_le _
  · injection e with _ e2 e3
    rw [e2]
    exact Nat.le_trans hn hm
/-- The builder where only blocks beside its own have turned. -/
theorem Bst.same {w w' : World} {g B : Nat} {S : List OE} {b : Int} {v : Value} {fp : List Nat} (h : Bst w g B S b v fp) (e : ∀ k, k < w.heap.size → w'.heap[k]? = w.heap[k]?) (hs : w.heap.size ≤ w'.heap.size) : Bst w' g B S b v fp :=
  ⟨(e g (Nat.lt_of_lt_of_le h.lt h.hB)).trans h.hg, h.op.same (fun x hx => e x (h.op.lt x hx).2), h.lt, Nat.le_trans h.hB hs⟩
theorem Ff.below {g : Nat} {fp : List Nat} {a b c : World} (h : Ff g fp a b) (k : Below b.heap.size b c) : Ff g fp a c :=
  ⟨k.os.trans h.os, k.tape.trans h.tape, k.output.trans h.output, Nat.le_trans h.size k.size, fun i hi h1 h2 => (k.block i (Nat.lt_of_lt_of_le hi h.size)).trans (h.keep i hi h1 h2)⟩
theorem Bst.below {w w' : World} {g B : Nat} {S : List OE} {b : Int} {v : Value} {fp : List Nat} (h : Bst w g B S b v fp) (k : Below w.heap.size w w') : Bst w' g B S b v fp := h.same (fun i hi => k.block i hi) k.size
/-- What openFor leaves where it opens. -/
def OpL (S : List OE) (ns : List ByteArray) (g B : Nat) (b : Int) (fp : List Nat) (w w' : World) : Prop := opB S ns = true → ∃ v' fp', Bst w' g B (clo ns.length S) b v' fp' ∧ ∀ x ∈ fp', x ∈ fp ∨ w.heap.size ≤ x
theorem OpL.no {S : List OE} {ns : List ByteArray} {g B : Nat} {b : Int} {fp : List Nat} {w w' : World} (h : opB S ns = false) : OpL S ns g B b fp w w' := fun e => by rw [h] at e; cases e

set_option maxHeartbeats 16000000 in
set_option maxRecDepth 20000 in
theorem openFor_any (g B : Nat) (S : List OE) (b : Int) (v : Value) (fp : List Nat) (xn : Option Addr) (cn : Nat) (ns : List ByteArray) (w : World) (H : Bst w g B S b v fp) (hS0 : S ≠ []) (hl : lenS S) (hr : (rowsS S).length ≤ 1073741824) (hSl : S.length ≤ 1073741824) (hN : Nam w g fp xn ns) (hns : ns.length ≤ 32) (hcn : ns.length ≤ cn) :
    Calls Tryd.prog 42 #[.pointer (some ⟨g, 0, none⟩), .slice xn ns.length cn] w fun e w' => e = .returned (.bool (opB S ns)) ∧ OpL S ns g B b fp w w' ∧ Ff g fp w w' := by
  have HB : Hid (Bst w g B S b v fp) := H
  have HL : Hid (lenS S) := hl
  have HR : Hid ((rowsS S).length ≤ 1073741824) := hr
  have HN : Hid (Nam w g fp xn ns) := hN
  have HS0 : Hid (S ≠ []) := hS0
  obtain ⟨xo, co, rfl⟩ := H.op.shape
  have a0 : w.cell? ⟨g, 0, none⟩ = some (.slice xo S.length co) := by rw [Lib.cell_of_heap H.hg]; rfl
  clear H hl hr hN hS0
  by_cases hn0 : ns = []
  · have hO : opB S ns = false := by rw [hn0]; rfl
    have HO : Hid (opB S ns = false) := hO
    rw [hO]
    clear hO
    have hnl : ns.length = 0 := by rw [hn0]; rfl
    rw [hnl]
    clear hn0 hnl hcn hns
    go_enter Tryd.func42, Tryd.ntmps42
    go_wp2
    try rw [Exit.noGoto_ret]
    go_ret
    exact ⟨rfl, OpL.no HO.out, Ff.refl _ _ _⟩
  · have hlast := last_get ns hn0
    have hpos : 0 < ns.length := List.length_pos_iff.2 hn0
    obtain ⟨m, hm⟩ : ∃ m, ns.length = m + 1 := ⟨ns.length - 1, by omega⟩
    have hm31 : m ≤ 31 := by omega
    have j1 : ¬ ((m : Int) < 0) := by omega
    have j1' : decide ((m : Int) < 0) = false := decide_eq_false j1
    by_cases hlen : S.length < ns.length
    · have hO : opB S ns = false := by unfold opB; rw [hlast]; dsimp only; rw [if_pos hlen]
      have HO : Hid (opB S ns = false) := hO
      rw [hO, hm]
      have j2 : (S.length : Int) ≤ (m : Int) := by omega
      have j2' : decide ((S.length : Int) ≤ (m : Int)) = true := decide_eq_true j2
      clear hn0 hlast hlen hm hO hcn hns hpos
      go_enter Tryd.func42, Tryd.ntmps42
      go_wp2
      try rw [Exit.noGoto_ret]
      go_ret
      exact ⟨rfl, OpL.no HO.out, Ff.refl _ _ _⟩
    · have j2 : ¬ ((S.length : Int) ≤ (m : Int)) := by omega
      have j2' : decide ((S.length : Int) ≤ (m : Int)) = false := decide_eq_false j2
      have HM : Hid (ns.length = m + 1) := hm
      have hmS : m + 1 ≤ S.length := by omega
      have hO1 : Hid ((way S).take (ns.length - 1) ≠ ns.dropLast → opB S ns = false) := fun h => by unfold opB; rw [hlast]; dsimp only; rw [if_neg hlen, if_pos h]
      have hO2 : Hid ((way S).take (ns.length - 1) = ns.dropLast → ∀ h R, clo ns.length S = h :: R → opB S ns = (decide (h.k = 3) && !late h.nms (nth ns m))) := fun h h' R' hc => by unfold opB; rw [hlast]; dsimp only; rw [if_neg hlen, if_neg (fun g => g h), hc, show ns.length - 1 = m by omega]
      have hcm : m + 1 ≤ cn := by omega
      rw [hm]
      have i2 : (m : Int) ≤ (cn : Int) := by omega
      have i3 : m ≤ cn := by omega
      clear hn0 hlast hlen hm hpos hcn hns
      go_enter Tryd.func42, Tryd.ntmps42
      go_wp2_with fail
      go_loopg [6, 7, 28] m (fun gk u6 u7 kv wr => ∃ k : Nat, gk + k = m ∧ kv = .int .i64 (k : Int) ∧ Hid (∀ j, j < k → (way S)[j]? = some (nth ns j)) ∧ wr = w)
      case atStart => exact ⟨0, rfl, rfl, fun j hj => absurd hj (by omega), rfl⟩
      case round =>
        obtain ⟨k, hgk, rfl, hW, rfl⟩ := hrel
        by_cases hk : k < m
        · have hk' : (k : Int) < (m : Int) := by omega
          obtain ⟨an, rfl, cn1⟩ := HN.out.get k (by rw [HM.out]; omega)
          obtain ⟨o, ho1, ho2⟩ := way_get S k (by omega)
          obtain ⟨q, co', u, fk, hv, hco, hqf, hcell, -⟩ := HB.out.op.get (k + 1) o ho1
          injection hv with e1 _ e2
          subst e1 e2
          have cnm : wr.cell? ⟨q, (k + 1) * 5, none⟩ = some (.string o.nm) := hcell 0 (by decide)
          have hkS : (k : Int) + 1 < (S.length : Int) := by omega
          have hkN : k + 1 < S.length := by omega
          have HO2 : Hid ((way S)[k]? = some o.nm) := ho2
          clear hcell ho1 ho2
          by_cases he : o.nm = nth ns k
          · have HW2 : Hid (∀ j, j < k + 1 → (way S)[j]? = some (nth ns j)) := fun j hj => by
              by_cases ej : j = k
              · rw [ej, HO2.out, he]
              · exact hW.out j (by omega)
            rw [he] at cnm
            generalize nth ns k = s at cn1 cnm
            have hne : (s.toList != s.toList) = false := by simp
            have hne2 : (s.toList == s.toList) = true := by simp
            clear he hW
            go_wp2
            go_roundg (gk - 1)
            case measure => omega
            case rel => exact ⟨k + 1, by omega, by go_num, HW2, rfl⟩
          · have HOF : Hid (opB S ns = false) := hO1.out (fun h => by
              have h2 : ((way S).take (ns.length - 1))[k]? = ns.dropLast[k]? := by rw [h]
              rw [HM.out, Nat.add_sub_cancel, List.getElem?_take_of_lt hk, HO2.out, List.getElem?_dropLast, HM.out, Nat.add_sub_cancel, if_pos hk, nth_get ns k (by rw [HM.out]; omega)] at h2
              exact he (Option.some.inj h2))
            generalize nth ns k = s at cn1 he
            have hne : (o.nm.toList != s.toList) = true := by
              rw [bne_iff_ne]
              intro e
              exact he (by apply ByteArray.ext; apply Array.toList_inj.1; rw [ByteArray.toList_eq, ByteArray.toList_eq] at e; exact e)
            have hne2 : (o.nm.toList == s.toList) = false := by rw [beq_eq_false_iff_ne]; rw [bne_iff_ne] at hne; exact hne
            clear he hW
            go_wp2
            try rw [Exit.noGoto_ret]
            go_ret
            exact ⟨by rw [HOF.out]; rfl, OpL.no HOF.out, Ff.refl _ _ _⟩
        · have hk' : ¬ (k : Int) < (m : Int) := by omega
          have HWY : Hid ((way S).take (ns.length - 1) = ns.dropLast) := way_eq S ns (fun j hj => hW.out j (by have := HM.out; omega))
          have C := closeTo_any g B (m + 1) (by omega) (by omega) S b _ fp wr HB.out HL.out HR.out hSl
          rw [show (((m + 1 : Nat)) : Int) = (m : Int) + 1 from by omega] at C
          have HCL : Hid ((clo (m + 1) S).length = m + 1) := clo_len (m + 1) (by omega) S hmS
          clear hW
          go_wp2_with fail
          refine C.mono ?_
          rintro e w2 ⟨rfl, ⟨v2, fp2, B2, hf2⟩, F2⟩
          clear C
          obtain ⟨h, R, hcl⟩ : ∃ h R, clo (m + 1) S = h :: R := by
            have hl := HCL.out
            cases hc : clo (m + 1) S with
            | nil => rw [hc] at hl; simp at hl
            | cons h R => exact ⟨h, R, rfl⟩
          have hRl : R.length = m := by have h1 := HCL.out; rw [hcl] at h1; simpa using h1
          rw [hcl] at B2
          obtain ⟨q, co', u, fk, hv, hco, hqf, hcell, hTh, hfk⟩ := B2.op.get R.length h (rev_last h R)
          subst hv
          have a2 : w2.cell? ⟨g, 0, none⟩ = some (.slice (some ⟨q, 0, none⟩) (m + 1) co') := by rw [Lib.cell_of_heap B2.hg, show (h :: R).length = m + 1 by rw [List.length_cons, hRl]]; rfl
          obtain ⟨xk, ck, rfl⟩ := hTh.shape
          have eN : h.tr.nms.length = h.nms.length := rfl
          rw [eN] at hcell hTh
          rw [hRl] at hcell
          have n1 : w2.cell? ⟨q, m * 5 + 1, none⟩ = some (.int .i64 h.k) := hcell 1 (by decide)
          have n2 : w2.cell? ⟨q, m * 5 + 2, none⟩ = some (.bool h.e) := hcell 2 (by decide)
          have n3 : w2.cell? ⟨q, m * 5 + 3, none⟩ = some (.string h.t) := hcell 3 (by decide)
          have n4 : w2.cell? ⟨q, m * 5 + 4, none⟩ = some (.slice xk h.nms.length ck) := hcell 4 (by decide)
          have HOP : Hid (opB S ns = (decide (h.k = 3) && !late h.nms (nth ns m))) := hO2.out HWY.out h R (by rw [HM.out]; exact hcl)
          have HB2 : Hid (Bst w2 g B (h :: R) b (.slice (some ⟨q, 0, none⟩) (h :: R).length co') fp2) := B2
          have HF2 : Hid (Ff g fp wr w2) := F2
          have HFP2 : Hid (∀ x ∈ fp2, x ∈ fp ∨ wr.heap.size ≤ x) := hf2
          have HN2 : Hid (Nam w2 g fp2 xn ns) := HN.out.ff F2 hf2
          have HCLO : Hid (clo ns.length S = h :: R) := by unfold Hid; rw [HM.out]; exact hcl
          have m1 : (m : Int) < (m : Int) + 1 := by omega
          have m2 : m < m + 1 := by omega
          have hqw : q < w2.heap.size := (B2.op.lt q hqf).2
          clear hcell B2 F2 hf2 hcl HCL hco hO1 hO2 HL HR HN HB HWY a0
          have hW3 : Below w2.heap.size w2 (w2.alloc (.cells #[.int .i64 h.k, .bool h.e, .string h.t, .slice xk h.nms.length ck] 25)) := (Below.refl _ _).alloc (Nat.le_refl _) _
          have hl3 : w2.heap.size < (w2.alloc (.cells #[.int .i64 h.k, .bool h.e, .string h.t, .slice xk h.nms.length ck] 25)).heap.size := by rw [World.size_alloc]; omega
          have d3 : (w2.alloc (.cells #[.int .i64 h.k, .bool h.e, .string h.t, .slice xk h.nms.length ck] 25)).cell? ⟨w2.heap.size, 3, none⟩ = some (.slice xk h.nms.length ck) := (World.cell?_alloc_new w2 _ _ 3).trans rfl
          by_cases h3 : h.k = 3
          · have g1 : (h.k != 3) = false := by rw [h3]; rfl
            have g2 : (h.k == 3) = true := by rw [h3]; rfl
            by_cases hz : h.nms = []
            · have HT : Hid (opB S ns = true) := by unfold Hid; rw [HOP.out, hz]; simp [h3, late]
              have hn0 : (h.nms.length : Int) = 0 := by rw [hz]; rfl
              have hn1 : ((h.nms.length : Int) == 0) = true := by rw [hz]; rfl
              clear hz h3
              go_wp2_with fail
              generalize w2.alloc (.cells #[.int .i64 h.k, .bool h.e, .string h.t, .slice xk h.nms.length ck] 25) = W3 at hW3 hl3 d3 ⊢
              have HB3 : Hid (Bst W3 g B (h :: R) b (.slice (some ⟨q, 0, none⟩) (h :: R).length co') fp2) := HB2.out.below hW3
              have HF3 : Hid (Ff g fp wr W3) := HF2.out.below hW3
              clear hW3 HB2 HF2 HN2 n1 n2 n3 n4 a2
              go_quiet ((go_at_call 46; exact Calls.quiet_of_same (compare_any _ _ _)))
              generalize hw9 : W3.drewN nq = w9
              have HB9 : Hid (Bst w9 g B (h :: R) b (.slice (some ⟨q, 0, none⟩) (h :: R).length co') fp2) := by rw [← hw9]; exact HB3.out.same (fun _ _ => rfl) (Nat.le_refl _)
              have HF9 : Hid (Ff g fp wr w9) := by rw [← hw9]; exact HF3.out.below ⟨rfl, rfl, rfl, Nat.le_refl _, fun _ _ => rfl⟩
              clear hw9 HB3 HF3
              go_wp2
              go_ret
              exact ⟨by rw [HT.out]; rfl, fun _ => ⟨_, fp2, by rw [HCLO.out]; exact HB9.out, HFP2.out⟩, HF9.out⟩
            · obtain ⟨n, hn⟩ : ∃ n, h.nms.length = n + 1 := ⟨h.nms.length - 1, by have := List.length_pos_iff.2 hz; omega⟩
              obtain ⟨sl, hsl⟩ : ∃ sl, h.nms[n]? = some sl := ⟨_, List.getElem?_eq_getElem (by omega)⟩
              obtain ⟨Kl, hKl⟩ : ∃ Kl, h.ks[n]? = some Kl := ⟨_, List.getElem?_eq_getElem (by have hq : h.nms.length = h.ks.length := TrV.len hTh; omega)⟩
              obtain ⟨gk2, cap3, u3, fk3, hv3, hcap3, hgk3, hcell3, -⟩ := TrV.get hTh n sl Kl hsl hKl
              injection hv3 with e1 _ e2
              subst e1 e2
              have hnl3 : n + 1 ≤ ck := by rw [← hn]; exact hcap3
              have p0 : w2.cell? ⟨gk2, n * 5, none⟩ = some (.string sl) := hcell3 0 (by decide)
              have hgw : gk2 < w2.heap.size := (TrV.lt _ _ _ hTh gk2 hgk3).2
              obtain ⟨an, hxn, cnm⟩ := HN2.out.get m (by rw [HM.out]; omega)
              obtain ⟨hab, -, -⟩ := HN2.out.far an hxn
              subst hxn
              have hlt9 : late h.nms (nth ns m) = decide (0 ≤ cmpB sl (nth ns m)) := by
                unfold late
                rw [List.getLast?_eq_getElem?, hn, Nat.add_sub_cancel, hsl]
              have HT : Hid (opB S ns = decide (cmpB sl (nth ns m) < 0)) := by
                unfold Hid
                rw [HOP.out, hlt9, decide_eq_true h3]
                by_cases hcc : cmpB sl (nth ns m) < 0
                · rw [decide_eq_true hcc, decide_eq_false (by omega)]; rfl
                · rw [decide_eq_false hcc, decide_eq_true (by omega)]; rfl
              rw [hn] at d3 n4 hl3 hW3
              have hn1 : (((n : Int) + 1) == 0) = false := by rw [beq_eq_false_iff_ne]; omega
              have hn0 : ¬ ((n : Int) + 1 = 0) := by omega
              have hnb : n + 1 ≤ 9223372036854775807 := by have h9 := TrV.small hTh; unfold maxLen at h9; rw [hn] at h9; omega
              clear hz h3 hsl hKl hcell3 hlt9 hcap3 HOP hn
              go_wp2_with fail
              have p1 := (hW3.cell (p := ⟨gk2, n * 5, none⟩) hgw).trans p0
              have p2 := (hW3.cell (p := an.add m) (by rw [add_block]; exact hab)).trans cnm
              generalize w2.alloc (.cells #[.int .i64 h.k, .bool h.e, .string h.t, .slice (some ⟨gk2, 0, none⟩) (n + 1) ck] 25) = W3 at hW3 hl3 d3 p1 p2 ⊢
              have HB3 : Hid (Bst W3 g B (h :: R) b (.slice (some ⟨q, 0, none⟩) (h :: R).length co') fp2) := HB2.out.below hW3
              have HF3 : Hid (Ff g fp wr W3) := HF2.out.below hW3
              clear hW3 HB2 HF2 HN2 n1 n2 n3 n4 a2 p0 cnm
              generalize nth ns m = sm at p2 HT
              generalize hcv : cmpB sl sm = cv at HT
              have CC := fun W => compare_any sl sm W
              rw [hcv] at CC
              clear hcv
              go_quiet ((go_at_call 46; exact Calls.quiet_of_same (CC _)))
              generalize hw9 : W3.drewN nq = w9
              have HB9 : Hid (Bst w9 g B (h :: R) b (.slice (some ⟨q, 0, none⟩) (h :: R).length co') fp2) := by rw [← hw9]; exact HB3.out.same (fun _ _ => rfl) (Nat.le_refl _)
              have HF9 : Hid (Ff g fp wr w9) := by rw [← hw9]; exact HF3.out.below ⟨rfl, rfl, rfl, Nat.le_refl _, fun _ _ => rfl⟩
              clear hw9 HB3 HF3
              go_wp2
              go_ret
              exact ⟨by rw [HT.out]; rfl, fun _ => ⟨_, fp2, by rw [HCLO.out]; exact HB9.out, HFP2.out⟩, HF9.out⟩
          · have HOF : Hid (opB S ns = false) := by unfold Hid; rw [HOP.out, decide_eq_false h3]; rfl
            have g1 : (h.k != 3) = true := by rw [bne_iff_ne]; exact h3
            have g2 : (h.k == 3) = false := by rw [beq_eq_false_iff_ne]; exact h3
            have HF3 : Hid (Ff g fp wr (w2.alloc (.cells #[.int .i64 h.k, .bool h.e, .string h.t, .slice xk h.nms.length ck] 25))) := HF2.out.below hW3
            go_wp2
            try rw [Exit.noGoto_ret]
            go_ret
            exact ⟨by rw [HOF.out]; rfl, OpL.no HOF.out, HF3.out⟩

end Go.Proofs.YtmknnblogfpifaaDoor
