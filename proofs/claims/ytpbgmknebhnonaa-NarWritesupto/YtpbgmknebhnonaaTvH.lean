/- The document's walk of a tree, walked. -/
import Derived.Test.YtpbgmknebhnonaaTvG
import Derived.Deep.QuietTactic
import Derived.BigQuiet
namespace Go.Proofs.Ytpbgmknebhnonaa
open Go.RowKit

set_option maxHeartbeats 64000000 in
set_option maxRecDepth 10000 in
theorem visit_any (f : Nat) : VsAt f := by
  induction f with
  | zero => intro u T ns b xv cv L p0 B w0 w h; exact h.elim
  | succ f IH =>
    rintro u ⟨k, e, t, nms, ks⟩ ns b xv cv L p0 B w0 w ⟨x, n, c, rfl, l1, l2, l3, l4, hx⟩ hsm hB0 hw0 hBw hR hLb hnl hns hb0 hb1
    have EX : Hid (Ents w0 f x n nms ks) := At.ents hx
    have LL : Hid (nms.length = n ∧ ks.length = n) := ⟨l1, l2⟩
    have HSL : Hid (smL nms ks) := by unfold Hid; rw [smT] at hsm; exact hsm.2
    have htz : t.size ≤ 140737488351232 := by rw [smT] at hsm; omega
    have HNS : Hid (∀ s ∈ ns, s.size ≤ 1048576) := hns
    have HIH : Hid (VsAt f) := IH
    have HB0 : Hid (Below w0.heap.size w0 w) := hB0
    have hV : vT ns b (.mk k e t nms ks) = if 32 < 1 + ns.length then ⟨b, some (joinB ns, 61)⟩
      else if cfP k e t n ≠ 0 then ⟨b, some (joinB ns, cfP k e t n)⟩
      else if 1048576 < b + nbP k e t then ⟨b + nbP k e t, some (joinB ns, 2)⟩
      else vL ns (b + nbP k e t) none nms ks := by rw [vT, l1]
    have HM : Hid (rwT ns (.mk k e t nms ks) = (joinB ns, k, e, t) :: rwL ns nms ks) := by unfold Hid; rw [rwT]
    generalize vT ns b (.mk k e t nms ks) = R at hV ⊢
    generalize rwT ns (.mk k e t nms ks) = MM at HM ⊢
    have hjs := joinB_size ns hns
    have HJ : Hid (∀ s, joinB (ns ++ [s]) = if ns.length = 0 then s else joinB ns ++ ⟨#[47]⟩ ++ s) := fun s => by
      by_cases h0 : ns.length = 0
      · rw [if_pos h0, List.eq_nil_of_length_eq_zero h0]; rfl
      · rw [if_neg h0]; exact joinB_snoc ns s (fun e => h0 (by rw [e]; rfl))
    have hJN : Hid (∃ JN, JN = joinB ns) := ⟨_, rfl⟩
    obtain ⟨JN, hJN⟩ := hJN.out
    rw [← hJN] at hV HM hjs HJ ⊢
    have HJN : Hid (JN = joinB ns) := hJN
    have e1 : (w.alloc (.cells #[.slice xv L.length cv, .int .i64 b, .int .i64 0, .string p0] 77)).heap.size = w.heap.size + 1 := World.size_alloc _ _
    have e2 : ((w.alloc (.cells #[.slice xv L.length cv, .int .i64 b, .int .i64 0, .string p0] 77)).alloc (.cells #[.int .i64 k, .bool e, .string t, .slice x n c] 25)).heap.size = w.heap.size + 1 + 1 := by rw [World.size_alloc, e1]
    have b0 : Below w.heap.size w (((w.alloc (.cells #[.slice xv L.length cv, .int .i64 b, .int .i64 0, .string p0] 77)).alloc (.cells #[.int .i64 k, .bool e, .string t, .slice x n c] 25)).alloc (.cells #[.slice none 0 0, .int .i64 0, .int .i64 0, .string ⟨#[]⟩] 77)) := (((Below.refl _ _).alloc (Nat.le_refl _) _).alloc (by rw [e1]; omega) _).alloc (by rw [e2]; omega) _
    have V0 : VS (((w.alloc (.cells #[.slice xv L.length cv, .int .i64 b, .int .i64 0, .string p0] 77)).alloc (.cells #[.int .i64 k, .bool e, .string t, .slice x n c] 25)).alloc (.cells #[.slice none 0 0, .int .i64 0, .int .i64 0, .string ⟨#[]⟩] 77)) w.heap.size (w.heap.size + 1) (w.heap.size + 1 + 1) (.slice xv L.length cv) b 0 p0 k e t x n c := by
      refine ⟨(Below.heap_alloc _ _ _ (by rw [e2]; omega)).trans ((Below.heap_alloc _ _ _ (by rw [e1]; omega)).trans Array.getElem?_push_size), (Below.heap_alloc _ _ _ (by rw [e2]; omega)).trans ?_, ?_⟩
      · have h := NB.new (w.alloc (.cells #[.slice xv L.length cv, .int .i64 b, .int .i64 0, .string p0] 77)) k e t x n c
        rw [e1] at h
        exact h
      · rw [← e2]
        exact Array.getElem?_push_size
    have HF1 : Hid (Fk B 125 w (((w.alloc (.cells #[.slice xv L.length cv, .int .i64 b, .int .i64 0, .string p0] 77)).alloc (.cells #[.int .i64 k, .bool e, .string t, .slice x n c] 25)).alloc (.cells #[.slice none 0 0, .int .i64 0, .int .i64 0, .string ⟨#[]⟩] 77))) := Fk.of_below b0 hBw
    have HR1 : Hid (Rws 125 (((w.alloc (.cells #[.slice xv L.length cv, .int .i64 b, .int .i64 0, .string p0] 77)).alloc (.cells #[.int .i64 k, .bool e, .string t, .slice x n c] 25)).alloc (.cells #[.slice none 0 0, .int .i64 0, .int .i64 0, .string ⟨#[]⟩] 77)) B (.slice xv L.length cv) L) := hR.below b0
    have HV1 : Hid (VS (((w.alloc (.cells #[.slice xv L.length cv, .int .i64 b, .int .i64 0, .string p0] 77)).alloc (.cells #[.int .i64 k, .bool e, .string t, .slice x n c] 25)).alloc (.cells #[.slice none 0 0, .int .i64 0, .int .i64 0, .string ⟨#[]⟩] 77)) w.heap.size (w.heap.size + 1) (w.heap.size + 1 + 1) (.slice xv L.length cv) b 0 p0 k e t x n c) := V0
    clear e1 e2 b0 V0 hx hsm IH hns hB0 l1 l2 hR hJN
    go_enter Try.func44, Try.ntmps44
    go_upto_region 1 with fail
    generalize (((w.alloc (.cells #[.slice xv L.length cv, .int .i64 b, .int .i64 0, .string p0] 77)).alloc (.cells #[.int .i64 k, .bool e, .string t, .slice x n c] 25)).alloc (.cells #[.slice none 0 0, .int .i64 0, .int .i64 0, .string ⟨#[]⟩] 77)) = w1 at HF1 HR1 HV1 ⊢
    obtain ⟨P, hP⟩ : ∃ P, P = w.heap.size := ⟨_, rfl⟩
    obtain ⟨N, hN⟩ : ∃ P', P' = P + 1 := ⟨_, rfl⟩
    obtain ⟨Z, hZ⟩ : ∃ P', P' = N + 1 := ⟨_, rfl⟩
    rw [← hP, ← hN, ← hZ] at HV1
    rw [← hP, ← hN, ← hZ]
    have HP : Hid (P = w.heap.size) := hP
    have hNP : N ≠ P := by omega
    have hPN : P ≠ N := by omega
    have hZP : Z ≠ P := by omega
    have hPZ : P ≠ Z := by omega
    have hZN : Z ≠ N := by omega
    have hNZ : N ≠ Z := by omega
    have hgP : Hid (w.heap.size ≤ P ∧ w.heap.size ≤ N ∧ w.heap.size ≤ Z) := by unfold Hid; omega
    clear hP hN hZ
    have y3 := HV1.out.p3
    have y3f := HV1.out.pf 3
    have HV2 : Hid (VS (w1.setCell ⟨P, 3, none⟩ (.string JN)) P N Z (.slice xv L.length cv) b 0 JN k e t x n c) := HV1.out.set3 hNP hZP JN
    have HR2 : Hid (Rws 125 (w1.setCell ⟨P, 3, none⟩ (.string JN)) B (.slice xv L.length cv) L) := HR1.out.over HV1.out.hp (by decide) 3 _
    have HF2 : Hid (Fk B 125 w (w1.setCell ⟨P, 3, none⟩ (.string JN))) := HF1.out.over hBw P 3 _ hgP.out.1
    clear HV1 HR1 HF1
    go_upto_region 2 with fail
    generalize w1.setCell ⟨P, 3, none⟩ (.string JN) = w2 at HV2 HR2 HF2 ⊢
    clear y3 y3f
    -- an exit: the code is stored, what was seen is handed back
    have EXIT : Hid (∀ (W : World) (x' : Option Addr) (n' c' : Nat) (b' code' code : Int) (p : ByteArray), R.off = some (p, code) → VS W P N Z (.slice x' n' c') b' code p k e t x n c → Fk B 125 w W →
        VsR R B (L ++ MM) w (.returned (.agg #[.slice x' n' c', .int .i64 b', .int .i64 code, .string p])) ((((W.setCell ⟨Z, 0, none⟩ (.slice x' n' c')).setCell ⟨Z, 1, none⟩ (.int .i64 b')).setCell ⟨Z, 2, none⟩ (.int .i64 code)).setCell ⟨Z, 3, none⟩ (.string p))) := fun W x' n' c' b' code' code p h1 h2 h3 =>
      VsR.bad h1 ((((h3.over hBw Z 0 _ hgP.out.2.2).over hBw Z 1 _ hgP.out.2.2).over hBw Z 2 _ hgP.out.2.2).over hBw Z 3 _ hgP.out.2.2)
    -- @1
    by_cases hd : 32 < 1 + ns.length
    · rw [if_pos hd] at hV
      have hdI : (32 : Int) < (ns.length : Int) + 1 := by omega
      have HO : Hid (R.off = some (JN, 61)) := by unfold Hid; rw [hV]
      clear hV
      have a0 := HV2.out.p0
      have a1 := HV2.out.p1
      have a2 := HV2.out.p2
      have a3 := HV2.out.p3
      have af := HV2.out.pf 2
      have HV9 : Hid (VS (w2.setCell ⟨P, 2, none⟩ (.int .i64 61)) P N Z (.slice xv L.length cv) b 61 JN k e t x n c) := HV2.out.set2 hNP hZP 61
      have HF9 : Hid (Fk B 125 w (w2.setCell ⟨P, 2, none⟩ (.int .i64 61))) := HF2.out.over hBw P 2 _ hgP.out.1
      go_upto_region 4 with fail
      generalize w2.setCell ⟨P, 2, none⟩ (.int .i64 61) = w3 at HV9 HF9 ⊢
      clear a0 a1 a2 a3 af
      have a0 := HV9.out.p0
      have a1 := HV9.out.p1
      have a2 := HV9.out.p2
      have a3 := HV9.out.p3
      have z0 := HV9.out.z0
      have z1 := HV9.out.z1
      have z2 := HV9.out.z2
      have z3 := HV9.out.z3
      have zf0 := HV9.out.zf 0
      have zf1 := HV9.out.zf 1
      have zf2 := HV9.out.zf 2
      have zf3 := HV9.out.zf 3
      go_wp2
      refine exit_seen HV9.out.hz rfl ?_
      exact EXIT.out w3 _ _ _ _ 0 _ _ HO.out HV9.out HF9.out
    rw [if_neg hd] at hV
    have hdI : ¬ (32 : Int) < (ns.length : Int) + 1 := by omega
    have OC := own_any k e t x n c w2 htz
    unfold ndV at OC
    have n0 := HV2.out.hn.c0
    have n1 := HV2.out.hn.c1
    have n2 := HV2.out.hn.c2
    have n3 := HV2.out.hn.c3
    go_wp2_with fail
    refine OC.mono ?_
    rintro e5 w3 ⟨rfl, b3⟩
    have HV3 : Hid (VS w3 P N Z (.slice xv L.length cv) b 0 JN k e t x n c) := HV2.out.below b3
    have HR3 : Hid (Rws 125 w3 B (.slice xv L.length cv) L) := HR2.out.below b3
    have HF3 : Hid (Fk B 125 w w3) := HF2.out.trans (Fk.of_below b3 (Nat.le_trans hBw HF2.out.size))
    clear OC b3 HV2 HR2 HF2 n0 n1 n2 n3
    by_cases hc : cfP k e t n ≠ 0
    · rw [if_pos hc] at hV
      have HO : Hid (R.off = some (JN, cfP k e t n)) := by unfold Hid; rw [hV]
      clear hV
      generalize cfP k e t n = CFV at *
      have q1 : (CFV != 0) = true := by simpa using hc
      have a0 := HV3.out.p0
      have a1 := HV3.out.p1
      have a2 := HV3.out.p2
      have a3 := HV3.out.p3
      have af := HV3.out.pf 2
      have HV9 : Hid (VS (w3.setCell ⟨P, 2, none⟩ (.int .i64 CFV)) P N Z (.slice xv L.length cv) b CFV JN k e t x n c) := HV3.out.set2 hNP hZP CFV
      have HF9 : Hid (Fk B 125 w (w3.setCell ⟨P, 2, none⟩ (.int .i64 CFV))) := HF3.out.over hBw P 2 _ hgP.out.1
      go_upto_region 8 with fail
      generalize w3.setCell ⟨P, 2, none⟩ (.int .i64 CFV) = w4 at HV9 HF9 ⊢
      clear a0 a1 a2 a3 af
      have a0 := HV9.out.p0
      have a1 := HV9.out.p1
      have a2 := HV9.out.p2
      have a3 := HV9.out.p3
      have z0 := HV9.out.z0
      have z1 := HV9.out.z1
      have z2 := HV9.out.z2
      have z3 := HV9.out.z3
      have zf0 := HV9.out.zf 0
      have zf1 := HV9.out.zf 1
      have zf2 := HV9.out.zf 2
      have zf3 := HV9.out.zf 3
      go_wp2
      refine exit_seen HV9.out.hz rfl ?_
      exact EXIT.out w4 _ _ _ _ 0 _ _ HO.out HV9.out HF9.out
    rw [if_neg hc] at hV
    have hc0 : cfP k e t n = 0 := by omega
    have how : ownB k e t n = nbP k e t := by unfold ownB; rw [if_pos hc0]
    rw [hc0, how]
    clear hc hc0 how
    have hnb := nbP_bd k e t
    have hnp := nbP_pos k e t
    generalize nbP k e t = NBV at *
    have a1 := HV3.out.p1
    have af := HV3.out.pf 1
    have HV4 : Hid (VS (w3.setCell ⟨P, 1, none⟩ (.int .i64 (b + NBV))) P N Z (.slice xv L.length cv) (b + NBV) 0 JN k e t x n c) := HV3.out.set1 hNP hZP (b + NBV)
    have HR4 : Hid (Rws 125 (w3.setCell ⟨P, 1, none⟩ (.int .i64 (b + NBV))) B (.slice xv L.length cv) L) := HR3.out.over HV3.out.hp (by decide) 1 _
    have HF4 : Hid (Fk B 125 w (w3.setCell ⟨P, 1, none⟩ (.int .i64 (b + NBV)))) := HF3.out.over hBw P 1 _ hgP.out.1
    clear HV3 HR3 HF3
    go_upto_region 10 with fail
    generalize w3.setCell ⟨P, 1, none⟩ (.int .i64 (b + NBV)) = w4 at HV4 HR4 HF4 ⊢
    clear a1 af
    have hLn : ((L.length : Int) + 1) ≤ b + NBV := by omega
    have hb4 : 0 ≤ b + NBV := by omega
    obtain ⟨b4, hb4e⟩ : ∃ b4, b4 = b + NBV := ⟨_, rfl⟩
    rw [← hb4e] at HV4 hV hLn hb4
    clear hb4e
    by_cases hq : 1048576 < b4
    · rw [if_pos hq] at hV
      have HO : Hid (R.off = some (JN, 2)) := by unfold Hid; rw [hV]
      clear hV
      have a0 := HV4.out.p0
      have a1 := HV4.out.p1
      have a2 := HV4.out.p2
      have a3 := HV4.out.p3
      have af := HV4.out.pf 2
      have HV9 : Hid (VS (w4.setCell ⟨P, 2, none⟩ (.int .i64 2)) P N Z (.slice xv L.length cv) b4 2 JN k e t x n c) := HV4.out.set2 hNP hZP 2
      have HF9 : Hid (Fk B 125 w (w4.setCell ⟨P, 2, none⟩ (.int .i64 2))) := HF4.out.over hBw P 2 _ hgP.out.1
      go_upto_region 12 with fail
      generalize w4.setCell ⟨P, 2, none⟩ (.int .i64 2) = w5 at HV9 HF9 ⊢
      clear a0 a1 a2 a3 af
      have a0 := HV9.out.p0
      have a1 := HV9.out.p1
      have a2 := HV9.out.p2
      have a3 := HV9.out.p3
      have z0 := HV9.out.z0
      have z1 := HV9.out.z1
      have z2 := HV9.out.z2
      have z3 := HV9.out.z3
      have zf0 := HV9.out.zf 0
      have zf1 := HV9.out.zf 1
      have zf2 := HV9.out.zf 2
      have zf3 := HV9.out.zf 3
      go_wp2
      refine exit_seen HV9.out.hz rfl ?_
      exact EXIT.out w5 _ _ _ _ 0 _ _ HO.out HV9.out HF9.out
    rw [if_neg hq] at hV
    have hq4 : b4 ≤ 1048576 := by omega
    -- @2
    obtain ⟨p5, c5, w5, hr5, T5, F5⟩ := HR4.out.app infoRROW undLRROW (JN, k, e, t) (Nat.le_trans hBw HF4.out.size) (by omega)
    dsimp only at hr5
    have HV5 : Hid (VS w5 P N Z (.slice xv L.length cv) b4 0 JN k e t x n c) := HV4.out.fk F5
    have HV6 : Hid (VS (w5.setCell ⟨P, 0, none⟩ (.slice p5 (L.length + 1) c5)) P N Z (.slice p5 (L.length + 1) c5) b4 0 JN k e t x n c) := HV5.out.set0 hNP hZP _
    have HR6 : Hid (Rws 125 (w5.setCell ⟨P, 0, none⟩ (.slice p5 (L.length + 1) c5)) B (.slice p5 (L.length + 1) c5) (L ++ [(JN, k, e, t)])) := T5.over HV5.out.hp (by decide) 0 _
    have HF6 : Hid (Fk B 125 w (w5.setCell ⟨P, 0, none⟩ (.slice p5 (L.length + 1) c5))) := (HF4.out.trans F5).over hBw P 0 _ hgP.out.1
    have a0 := HV4.out.p0
    have a1 := HV4.out.p1
    have n0 := HV4.out.hn.c0
    have n1 := HV4.out.hn.c1
    have n2 := HV4.out.hn.c2
    have n3 := HV4.out.hn.c3
    have d0 := HV5.out.p0
    have df := HV5.out.pf 0
    have hqI : ¬ (1048576 : Int) < b4 := hq
    clear T5 F5
    go_upto_region 13 with fail
    go_wp2_with (first | (refine wpList_app_is (by rfl) 75 75 (.tmp 40) (.tmp 49) (by rfl) _ _ _ _ (by rfl) (by rfl) hr5 ?_))
    clear hr5 a0 a1 n0 n1 n2 n3 d0 df HV4 HV5 HR4 HF4
    generalize w5.setCell ⟨P, 0, none⟩ (.slice p5 (L.length + 1) c5) = w6 at HV6 HR6 HF6 ⊢
    have HVL : Hid (R = vL ns b4 none nms ks) := hV
    have HMM : Hid (MM = (JN, k, e, t) :: rwL ns nms ks) := HM.out
    clear hV
    go_loopw [11, 12] (fun ix _ wr => ∃ (i : Nat) (bi : Int) (x' : Option Addr) (c' : Nat) (M : List RW) (p' : ByteArray) (prev : Option ByteArray), i ≤ n ∧ ix = .int .i64 i ∧ 0 ≤ bi ∧ bi ≤ 1048576 ∧ ((M.length : Int) ≤ bi) ∧ Hid (M = L ++ (JN, k, e, t) :: rwL ns (nms.take i) (ks.take i)) ∧ Hid (VS wr P N Z (.slice x' M.length c') bi 0 p' k e t x n c) ∧ Hid (Rws 125 wr B (.slice x' M.length c') M) ∧ Hid (Fk B 125 w wr) ∧ Hid (R = vL ns bi prev (nms.drop i) (ks.drop i)) ∧ Hid ((i = 0 ∧ prev = none) ∨ ∃ s', 0 < i ∧ prev = some s' ∧ nms[i - 1]? = some s')) (fun i _ _ => n - (intOf i).toNat)
    case atStart => exact ⟨0, b4, p5, c5, L ++ [(JN, k, e, t)], JN, none, Nat.zero_le _, rfl, hb4, hq4, by rw [List.length_append]; simp; omega, by unfold Hid; simp [rwL], by rw [List.length_append]; exact HV6, by rw [List.length_append]; exact HR6, HF6, HVL, Or.inl ⟨rfl, rfl⟩⟩
    case round =>
      obtain ⟨i, bi, x', c', M, p', prev, hi, rfl, hbi0, hbi1, hMl, hM, hVS, hRS, hFK, hV, hPV⟩ := hrel
      clear HV6 HR6 HF6 HVL
      by_cases hlt : i < n
      · obtain ⟨l1, l2⟩ := LL.out
        obtain ⟨s, hs⟩ : ∃ s, nms[i]? = some s := ⟨_, List.getElem?_eq_getElem (by omega)⟩
        obtain ⟨S, hS⟩ : ∃ s, ks[i]? = some s := ⟨_, List.getElem?_eq_getElem (by omega)⟩
        have hBr : Hid (Below w0.heap.size w0 wr) := HB0.out.trans (hFK.out.below.mono hw0)
        obtain ⟨q, o, a, b', d, fx, pp, q', rfl, hgq, d0, d1, d2, d3, d4, hA⟩ := EX.out i s S hlt hs hS
        have c0 : wr.cell? ⟨q, o + i * 5, none⟩ = some (.string s) := (hBr.out.cell (p := ⟨q, o + i * 5, none⟩) hgq).trans d0
        have c1 : wr.cell? ⟨q, o + i * 5 + 1, none⟩ = some (.int .i64 a) := (hBr.out.cell (p := ⟨q, o + i * 5 + 1, none⟩) hgq).trans d1
        have c2 : wr.cell? ⟨q, o + i * 5 + 2, none⟩ = some (.bool b') := (hBr.out.cell (p := ⟨q, o + i * 5 + 2, none⟩) hgq).trans d2
        have c3 : wr.cell? ⟨q, o + i * 5 + 3, none⟩ = some (.string d) := (hBr.out.cell (p := ⟨q, o + i * 5 + 3, none⟩) hgq).trans d3
        have c4 : wr.cell? ⟨q, o + i * 5 + 4, none⟩ = some (.slice fx pp q') := (hBr.out.cell (p := ⟨q, o + i * 5 + 4, none⟩) hgq).trans d4
        have HA : Hid (At w0 f (.agg #[.int .i64 a, .bool b', .string d, .slice fx pp q']) S) := hA
        obtain ⟨hsz, hST⟩ := smL_at nms ks i s S HSL.out hs hS
        have HST : Hid (smT S) := hST
        have VV := vL_at ns bi prev nms ks i s S hs hS
        rw [← hV.out] at VV
        obtain ⟨s', hP1, hP2⟩ : ∃ s', entO prev s bi = entC (i + 1) s' s bi ∧ Hid (1 < i + 1 → w0.cell? ⟨q, o + (i - 1) * 5, none⟩ = some (.string s') ∧ s'.size ≤ 1048576) := by
          rcases hPV.out with ⟨rfl, rfl⟩ | ⟨s', h0, rfl, hs'⟩
          · exact ⟨s, rfl, fun h => absurd h (by decide)⟩
          · refine ⟨s', ?_, fun _ => ?_⟩
            · show entC 2 s' s bi = entC (i + 1) s' s bi
              unfold entC
              simp [h0]
            · obtain ⟨S', hS'⟩ : ∃ s, ks[i - 1]? = some s := ⟨_, List.getElem?_eq_getElem (by omega)⟩
              obtain ⟨q9, o9, _, _, _, _, _, _, e9, _, d9, _⟩ := EX.out (i - 1) s' S' (by omega) hs' hS'
              injection e9 with e9
              injection e9 with e9 e8
              subst e9 e8
              exact ⟨d9, (smL_at nms ks (i - 1) s' S' HSL.out hs' hS').1⟩
        rw [hP1] at VV
        have HVV : Hid (R = if entC (i + 1) s' s bi ≠ 0 then ⟨bi, some (joinB (ns ++ [s]), entC (i + 1) s' s bi)⟩
            else match (vT (ns ++ [s]) (bi + ebP s) S).off with
              | none => vL ns (vT (ns ++ [s]) (bi + ebP s) S).bytes (some s) (nms.drop (i + 1)) (ks.drop (i + 1))
              | some o => ⟨(vT (ns ++ [s]) (bi + ebP s) S).bytes, some o⟩) := VV
        have HS9 : Hid (nms[i]? = some s) := hs
        have HM9 : Hid (M ++ rwT (ns ++ [s]) S = L ++ (JN, k, e, t) :: rwL ns (nms.take (i + 1)) (ks.take (i + 1))) := by
          unfold Hid
          rw [rwL_take ns nms ks i s S hs hS, hM.out]
          simp
        have n3 := hVS.out.hn.c3
        have HE : Hid ((wr.alloc (.cells #[.string s, .int .i64 a, .bool b', .string d, .slice fx pp q'] 82)).heap[wr.heap.size]? = some (.cells #[.string s, .int .i64 a, .bool b', .string d, .slice fx pp q'] 82 (0, 0))) := Array.getElem?_push_size
        have bE : Below wr.heap.size wr (wr.alloc (.cells #[.string s, .int .i64 a, .bool b', .string d, .slice fx pp q'] 82)) := (Below.refl _ _).alloc (Nat.le_refl _) _
        have HVE : Hid (VS (wr.alloc (.cells #[.string s, .int .i64 a, .bool b', .string d, .slice fx pp q'] 82)) P N Z (.slice x' M.length c') bi 0 p' k e t (some ⟨q, o, none⟩) n c) := hVS.out.below bE
        have HRE : Hid (Rws 125 (wr.alloc (.cells #[.string s, .int .i64 a, .bool b', .string d, .slice fx pp q'] 82)) B (.slice x' M.length c') M) := hRS.out.below bE
        have HFE : Hid (Fk B 125 w (wr.alloc (.cells #[.string s, .int .i64 a, .bool b', .string d, .slice fx pp q'] 82))) := hFK.out.trans (Fk.of_below bE (Nat.le_trans hBw hFK.out.size))
        have hPl : P < wr.heap.size := heap_lt hVS.out.hp
        have hNl : N < wr.heap.size := heap_lt hVS.out.hn
        have hZl : Z < wr.heap.size := heap_lt hVS.out.hz
        clear VV hV hPV hP1 hA hST hs hS d0 d1 d2 d3 d4 l1 l2 bE hVS hRS hFK
        go_upto_region 18 with fail
        generalize hEe : wr.heap.size = E at *
        generalize wr.alloc (.cells #[.string s, .int .i64 a, .bool b', .string d, .slice fx pp q'] 82) = wE at *
        have hEP : E ≠ P := by omega
        have hPE : P ≠ E := by omega
        have hEZ : E ≠ Z := by omega
        have hZE : Z ≠ E := by omega
        clear c0 c1 c2 c3 c4 n3 hBr hEe
        have e0 : wE.cell? ⟨E, 0, none⟩ = some (.string s) := by rw [Lib.cell_of_heap HE.out]; rfl
        have a3 := HVE.out.p3
        have af := HVE.out.pf 3
        have HVF : Hid (VS (wE.setCell ⟨P, 3, none⟩ (.string s)) P N Z (.slice x' M.length c') bi 0 s k e t (some ⟨q, o, none⟩) n c) := HVE.out.set3 hNP hZP s
        have HRF : Hid (Rws 125 (wE.setCell ⟨P, 3, none⟩ (.string s)) B (.slice x' M.length c') M) := HRE.out.over HVE.out.hp (by decide) 3 _
        have HFF : Hid (Fk B 125 w (wE.setCell ⟨P, 3, none⟩ (.string s))) := HFE.out.over hBw P 3 _ hgP.out.1
        have HEF : Hid ((wE.setCell ⟨P, 3, none⟩ (.string s)).heap[E]? = some (.cells #[.string s, .int .i64 a, .bool b', .string d, .slice fx pp q'] 82 (0, 0))) := (Below.heap_setCell _ _ _ E hEP).trans HE.out
        clear HVE HRE HFE HE
        go_upto_region 19 with fail
        generalize wE.setCell ⟨P, 3, none⟩ (.string s) = wF at *
        clear e0 a3 af
        go_upto_if 68 with fail
        go_cut [] from 52 to 123 (fun wx => Hid (VS wx P N Z (.slice x' M.length c') bi 0 (joinB (ns ++ [s])) k e t (some ⟨q, o, none⟩) n c) ∧ Hid (Rws 125 wx B (.slice x' M.length c') M) ∧ Hid (Fk B 125 w wx) ∧ Hid (wx.heap[E]? = some (.cells #[.string s, .int .i64 a, .bool b', .string d, .slice fx pp q'] 82 (0, 0))))
        case first =>
          by_cases h0 : ns.length = 0
          · have hj := HJ.out s
            rw [if_pos h0] at hj
            have hq0 : ¬ (1 : Int) < (ns.length : Int) + 1 := by omega
            have HJ2 : Hid (joinB (ns ++ [s]) = s) := hj
            clear hj h0
            go_wp2_with fail
            go_meet
            exact ⟨by rw [HJ2.out]; exact HVF, HRF, HFF, HEF⟩
          · have hj := HJ.out s
            rw [if_neg h0] at hj
            have hq0 : (1 : Int) < (ns.length : Int) + 1 := by omega
            have HJ2 : Hid (joinB (ns ++ [s]) = JN ++ ⟨#[47]⟩ ++ s) := hj
            clear h0
            have e0 : wF.cell? ⟨E, 0, none⟩ = some (.string s) := by rw [Lib.cell_of_heap HEF.out]; rfl
            have a3 := HVF.out.p3
            have af := HVF.out.pf 3
            have HVG : Hid (VS (wF.setCell ⟨P, 3, none⟩ (.string (JN ++ ⟨#[47]⟩ ++ s))) P N Z (.slice x' M.length c') bi 0 (JN ++ ⟨#[47]⟩ ++ s) k e t (some ⟨q, o, none⟩) n c) := HVF.out.set3 hNP hZP _
            have HRG : Hid (Rws 125 (wF.setCell ⟨P, 3, none⟩ (.string (JN ++ ⟨#[47]⟩ ++ s))) B (.slice x' M.length c') M) := HRF.out.over HVF.out.hp (by decide) 3 _
            have HFG : Hid (Fk B 125 w (wF.setCell ⟨P, 3, none⟩ (.string (JN ++ ⟨#[47]⟩ ++ s)))) := HFF.out.over hBw P 3 _ hgP.out.1
            have HEG : Hid ((wF.setCell ⟨P, 3, none⟩ (.string (JN ++ ⟨#[47]⟩ ++ s))).heap[E]? = some (.cells #[.string s, .int .i64 a, .bool b', .string d, .slice fx pp q'] 82 (0, 0))) := (Below.heap_setCell _ _ _ E hEP).trans HEF.out
            clear hj
            go_wp2_with fail
            go_meet
            exact ⟨by rw [HJ2.out]; exact HVG, HRG, HFG, HEG⟩
        case rest =>
          obtain ⟨HVG, HRG, HFG, HEG⟩ := hcut
          clear HVF HRF HFF HEF
          obtain ⟨PJ, hPJ⟩ : ∃ PJ, PJ = joinB (ns ++ [s]) := ⟨_, rfl⟩
          have HPJ : Hid (PJ = joinB (ns ++ [s])) := hPJ
          rw [← hPJ] at HVG HVV
          clear hPJ
          have e0 : wc.cell? ⟨E, 0, none⟩ = some (.string s) := by rw [Lib.cell_of_heap HEG.out]; rfl
          have a2 := HVG.out.p2
          have af := HVG.out.pf 2
          have RC := rcheck_any s wc
          have HVH : Hid (VS (wc.setCell ⟨P, 2, none⟩ (.int .i64 (chk s))) P N Z (.slice x' M.length c') bi (chk s) PJ k e t (some ⟨q, o, none⟩) n c) := HVG.out.set2 hNP hZP _
          have HRH : Hid (Rws 125 (wc.setCell ⟨P, 2, none⟩ (.int .i64 (chk s))) B (.slice x' M.length c') M) := HRG.out.over HVG.out.hp (by decide) 2 _
          have HFH : Hid (Fk B 125 w (wc.setCell ⟨P, 2, none⟩ (.int .i64 (chk s)))) := HFG.out.over hBw P 2 _ hgP.out.1
          have HEH : Hid ((wc.setCell ⟨P, 2, none⟩ (.int .i64 (chk s))).heap[E]? = some (.cells #[.string s, .int .i64 a, .bool b', .string d, .slice fx pp q'] 82 (0, 0))) := (Below.heap_setCell _ _ _ E hEP).trans HEG.out
          have HEC : Hid (entC (i + 1) s' s bi = if chk s ≠ 0 then chk s else if 1 < i + 1 ∧ 0 ≤ cmpB s' s then 64 else if 1048576 < bi + ebP s then 2 else 0) := rfl
          generalize chk s = CK at *
          go_wp2_with fail
          refine RC.mono ?_
          rintro e6 w6 ⟨rfl, rfl⟩
          clear RC HVG HRG HFG HEG
          go_upto_region 22 with fail
          generalize w6.setCell ⟨P, 2, none⟩ (.int .i64 CK) = w8 at *
          clear e0 a2 af
          by_cases hCK : CK ≠ 0
          · have hec := HEC.out
            rw [if_pos hCK] at hec
            have hv := HVV.out
            rw [hec, if_pos hCK] at hv
            have HO : Hid (R.off = some (PJ, CK)) := by unfold Hid; rw [hv]
            have q1 : (CK != 0) = true := by simpa using hCK
            clear hec hv HEC HVV
            have a0 := HVH.out.p0
            have a1 := HVH.out.p1
            have a2 := HVH.out.p2
            have a3 := HVH.out.p3
            have z0 := HVH.out.z0
            have z1 := HVH.out.z1
            have z2 := HVH.out.z2
            have z3 := HVH.out.z3
            have zf0 := HVH.out.zf 0
            have zf1 := HVH.out.zf 1
            have zf2 := HVH.out.zf 2
            have zf3 := HVH.out.zf 3
            go_upto_region 23 with fail
            rename_i kk ha
            go_hide hQ
            go_wp2
            subst hQ
            refine ha _ _ ?_
            go_hide hQ
            go_wp2
            subst hQ
            refine (show bodyPost Try.prog Try.f44 (fun e w' => VsR R B (L ++ MM) w e w') Exit.ret _ _ from ?_)
            refine exit_seen HVH.out.hz rfl ?_
            exact EXIT.out w8 _ _ _ _ 0 _ _ HO.out HVH.out HFH.out
          obtain rfl : CK = 0 := by omega
          have hec := HEC.out
          rw [if_neg hCK] at hec
          have HEC2 : Hid (entC (i + 1) s' s bi = if 1 < i + 1 ∧ 0 ≤ cmpB s' s then 64 else if 1048576 < bi + ebP s then 2 else 0) := hec
          clear hec HEC hCK
          -- @4
          have CM := fun (h : s'.size ≤ 140737488351232) w => rcompare_quiet s' s w h
          have hcb := cmpB_bd s' s
          have HCM : Hid (∀ (h : s'.size ≤ 140737488351232) w, Calls Try.prog 64 #[.string s', .string s] w fun e w' => e = .returned (.int .i64 (cmpB s' s)) ∧ ∃ q, w' = w.drewN q) := CM
          clear CM
          generalize cmpB s' s = CMP at *
          obtain ⟨BB, hBB⟩ : ∃ BB, BB = decide (1 < i + 1 ∧ 0 ≤ CMP) := ⟨_, rfl⟩
          have HBB : Hid (BB = decide (1 < i + 1 ∧ 0 ≤ CMP)) := hBB
          clear hBB
          have a2 := HVH.out.p2
          have e0 : w8.cell? ⟨E, 0, none⟩ = some (.string s) := by rw [Lib.cell_of_heap HEH.out]; rfl
          have n3 := HVH.out.hn.c3
          have hB8 : Hid (Below w0.heap.size w0 w8) := HB0.out.trans (HFH.out.below.mono hw0)
          go_upto_region 24 with fail
          go_cut [97] from 52 to 123 (fun v97 wx => v97 = .bool BB ∧ ∃ nq, wx = w8.drewN nq)
          case first =>
            by_cases h1 : 0 < i
            · obtain ⟨k5, hs5⟩ := hP2.out (by omega)
              have k0 : w8.cell? ⟨q, o + (i - 1) * 5, none⟩ = some (.string s') := (hB8.out.cell (p := ⟨q, o + (i - 1) * 5, none⟩) hgq).trans k5
              have CM := fun w => HCM.out (by omega) w
              have g2 : decide ((0 : Int) < (i : Int)) = true := by apply decide_eq_true; omega
              have g3 : (0 : Int) < (i : Int) := by omega
              have g6 : IntKind.i64.wrap ((i : Int) - 1) = (i : Int) - 1 := by rw [IntKind.wrap_i64]; omega
              have g7 : ((i : Int) - 1).toNat = i - 1 := by omega
              have g8 : (0 : Int) ≤ (i : Int) - 1 := by omega
              have g9 : (i : Int) - 1 < (n : Int) := by omega
              clear k5 a2
              by_cases hC : 0 ≤ CMP
              · have g1 : decide (0 ≤ CMP) = true := by simpa using hC
                have HB2 : Hid (BB = true) := by unfold Hid; rw [HBB.out]; apply decide_eq_true; exact ⟨by omega, hC⟩
                go_quiet ((go_at_call 64; exact Calls.quiet_of (CM _)))
                (try go_wp2_with fail)
                go_meet
                exact ⟨by rw [HB2.out], nq, rfl⟩
              · have g1 : decide (0 ≤ CMP) = false := by simpa using hC
                have HB2 : Hid (BB = false) := by unfold Hid; rw [HBB.out]; apply decide_eq_false; intro hh; exact hC hh.2
                go_quiet ((go_at_call 64; exact Calls.quiet_of (CM _)))
                (try go_wp2_with fail)
                go_meet
                exact ⟨by rw [HB2.out], nq, rfl⟩
            · have g2 : decide ((0 : Int) < (i : Int)) = false := by apply decide_eq_false; omega
              have g3 : ¬ (0 : Int) < (i : Int) := by omega
              have HB2 : Hid (BB = false) := by unfold Hid; rw [HBB.out]; apply decide_eq_false; intro hh; omega
              clear a2
              go_quiet (fail)
              (try go_wp2_with fail)
              go_meet
              exact ⟨by rw [HB2.out], nq, rfl⟩
          case rest =>
            obtain ⟨rfl, nq, rfl⟩ := hcut
            have HVI : Hid (VS (w8.drewN nq) P N Z (.slice x' M.length c') bi 0 PJ k e t (some ⟨q, o, none⟩) n c) := ⟨HVH.out.hp, HVH.out.hn, HVH.out.hz⟩
            have HRI : Hid (Rws 125 (w8.drewN nq) B (.slice x' M.length c') M) := HRH.out.same (fun _ _ => rfl)
            have HFI : Hid (Fk B 125 w (w8.drewN nq)) := HFH.out.drewN nq
            have HEI : Hid ((w8.drewN nq).heap[E]? = some (.cells #[.string s, .int .i64 a, .bool b', .string d, .slice fx pp q'] 82 (0, 0))) := HEH.out
            clear HVH HRH HFH HEH hB8 a2 e0 n3 HCM
            generalize w8.drewN nq = w9 at *
            have heb := ebP_bd s
            have EBC : Hid (∀ W, Calls Try.prog 65 #[.string s] W fun e w'' => e = .returned (.int .i64 (ebP s)) ∧ Below W.heap.size W w'') := fun W => rentry_any s W (by omega)
            generalize ebP s = EB at *
            cases BB with
            | true =>
              have hbb := of_decide_eq_true HBB.out.symm
              have hec := HEC2.out
              rw [if_pos hbb] at hec
              have hv := HVV.out
              rw [hec, if_pos (by decide)] at hv
              have HO : Hid (R.off = some (PJ, 64)) := by unfold Hid; rw [hv]
              clear hec hv HEC2 HVV hbb
              have a0 := HVI.out.p0
              have a1 := HVI.out.p1
              have a2 := HVI.out.p2
              have a3 := HVI.out.p3
              have af := HVI.out.pf 2
              have HV9 : Hid (VS (w9.setCell ⟨P, 2, none⟩ (.int .i64 64)) P N Z (.slice x' M.length c') bi 64 PJ k e t (some ⟨q, o, none⟩) n c) := HVI.out.set2 hNP hZP 64
              have HF9 : Hid (Fk B 125 w (w9.setCell ⟨P, 2, none⟩ (.int .i64 64))) := HFI.out.over hBw P 2 _ hgP.out.1
              go_upto_region 26 with fail
              generalize w9.setCell ⟨P, 2, none⟩ (.int .i64 64) = w10 at HV9 HF9 ⊢
              clear a0 a1 a2 a3 af
              have a0 := HV9.out.p0
              have a1 := HV9.out.p1
              have a2 := HV9.out.p2
              have a3 := HV9.out.p3
              have z0 := HV9.out.z0
              have z1 := HV9.out.z1
              have z2 := HV9.out.z2
              have z3 := HV9.out.z3
              have zf0 := HV9.out.zf 0
              have zf1 := HV9.out.zf 1
              have zf2 := HV9.out.zf 2
              have zf3 := HV9.out.zf 3
              rename_i kk ha
              go_hide hQ
              go_wp2
              subst hQ
              refine ha _ _ ?_
              go_hide hQ
              go_wp2
              subst hQ
              refine (show bodyPost Try.prog Try.f44 (fun e w' => VsR R B (L ++ MM) w e w') Exit.ret _ _ from ?_)
              refine exit_seen HV9.out.hz rfl ?_
              exact EXIT.out w10 _ _ _ _ 0 _ _ HO.out HV9.out HF9.out
            | false =>
              have hbb := of_decide_eq_false HBB.out.symm
              have hec := HEC2.out
              rw [if_neg hbb] at hec
              have HEC3 : Hid (entC (i + 1) s' s bi = if 1048576 < bi + EB then 2 else 0) := hec
              clear hec HEC2 hbb
              go_upto_region 27 with fail
              have a1 := HVI.out.p1
              have e0 : w9.cell? ⟨E, 0, none⟩ = some (.string s) := by rw [Lib.cell_of_heap HEI.out]; rfl
              have hPl9 : P < w9.heap.size := heap_lt HVI.out.hp
              have af := HVI.out.pf 1
              have hwr : IntKind.i64.wrap (bi + EB) = bi + EB := by rw [IntKind.wrap_i64]; omega
              go_cut [] from 52 to 123 (fun wx => Hid (VS wx P N Z (.slice x' M.length c') (bi + EB) 0 PJ k e t (some ⟨q, o, none⟩) n c) ∧ Hid (Rws 125 wx B (.slice x' M.length c') M) ∧ Hid (Fk B 125 w wx) ∧ Hid (wx.heap[E]? = some (.cells #[.string s, .int .i64 a, .bool b', .string d, .slice fx pp q'] 82 (0, 0))))
              case first =>
                go_region_with ((go_at_call 65; refine (EBC.out _).mono ?_; rintro e5 w5 ⟨rfl, b5⟩; have m1 : w5.cell? ⟨P, 1, none⟩ = some (.int .i64 bi) := (b5.cell (p := ⟨P, 1, none⟩) hPl9).trans a1; have mf : w5.frozen? ⟨P, 1, none⟩ = false := (b5.frozen (p := ⟨P, 1, none⟩) hPl9).trans af))
                all_goals (try go_wp2_with fail)
                all_goals go_meet
                all_goals (
                  have b6 : Below w9.heap.size w9 w5 := ⟨b5.os, b5.tape, b5.output, b5.size, b5.block⟩
                  have V5 := HVI.out.below b6
                  exact ⟨V5.set1 hNP hZP _, (HRI.out.below b6).over V5.hp (by decide) 1 _, (HFI.out.trans (Fk.of_below b6 (Nat.le_trans hBw HFI.out.size))).over hBw P 1 _ hgP.out.1, (Below.heap_setCell _ _ _ E hEP).trans ((b6.block E (heap_lt HEI.out)).trans HEI.out)⟩)
              case rest =>
                obtain ⟨HVK, HRK, HFK, HEK⟩ := hcut
                clear HVI HRI HFI HEI a1 e0 af EBC hwr hPl9
                have a1 := HVK.out.p1
                by_cases hq5 : 1048576 < bi + EB
                · have hec := HEC3.out
                  rw [if_pos hq5] at hec
                  have hv := HVV.out
                  rw [hec, if_pos (by decide)] at hv
                  have HO : Hid (R.off = some (PJ, 2)) := by unfold Hid; rw [hv]
                  have ha5 : 0 ≤ bi + EB := by omega
                  clear hec hv HEC3 HVV
                  obtain ⟨b7, hb7⟩ : ∃ b7, b7 = bi + EB := ⟨_, rfl⟩
                  rw [← hb7] at HVK a1 hq5
                  clear hb7
                  have a0 := HVK.out.p0
                  have a1 := HVK.out.p1
                  have a2 := HVK.out.p2
                  have a3 := HVK.out.p3
                  have af := HVK.out.pf 2
                  have HV9 : Hid (VS (wc.setCell ⟨P, 2, none⟩ (.int .i64 2)) P N Z (.slice x' M.length c') b7 2 PJ k e t (some ⟨q, o, none⟩) n c) := HVK.out.set2 hNP hZP 2
                  have HF9 : Hid (Fk B 125 w (wc.setCell ⟨P, 2, none⟩ (.int .i64 2))) := HFK.out.over hBw P 2 _ hgP.out.1
                  go_upto_region 30 with fail
                  generalize wc.setCell ⟨P, 2, none⟩ (.int .i64 2) = w10 at HV9 HF9 ⊢
                  clear a0 a1 a2 a3 af
                  have a0 := HV9.out.p0
                  have a1 := HV9.out.p1
                  have a2 := HV9.out.p2
                  have a3 := HV9.out.p3
                  have z0 := HV9.out.z0
                  have z1 := HV9.out.z1
                  have z2 := HV9.out.z2
                  have z3 := HV9.out.z3
                  have zf0 := HV9.out.zf 0
                  have zf1 := HV9.out.zf 1
                  have zf2 := HV9.out.zf 2
                  have zf3 := HV9.out.zf 3
                  rename_i kk ha
                  go_hide hQ
                  go_wp2
                  subst hQ
                  refine ha _ _ ?_
                  go_hide hQ
                  go_wp2
                  subst hQ
                  refine (show bodyPost Try.prog Try.f44 (fun e w' => VsR R B (L ++ MM) w e w') Exit.ret _ _ from ?_)
                  refine exit_seen HV9.out.hz rfl ?_
                  exact EXIT.out w10 _ _ _ _ 0 _ _ HO.out HV9.out HF9.out
                have hec := HEC3.out
                rw [if_neg hq5] at hec
                have hv := HVV.out
                rw [hec, if_neg (by decide)] at hv
                have HV7 : Hid (R = match (vT (ns ++ [s]) (bi + EB) S).off with
                  | none => vL ns (vT (ns ++ [s]) (bi + EB) S).bytes (some s) (nms.drop (i + 1)) (ks.drop (i + 1))
                  | some o => ⟨(vT (ns ++ [s]) (bi + EB) S).bytes, some o⟩) := hv
                clear hec hv HEC3 HVV
                obtain ⟨b7, hb7⟩ : ∃ b7, b7 = bi + EB := ⟨_, rfl⟩
                rw [← hb7] at HVK HV7 a1 hq5
                have hb70 : 0 ≤ b7 := by omega
                have hb71 : b7 ≤ 1048576 := by omega
                have hMl7 : (M.length : Int) ≤ b7 := by omega
                clear hb7
                have hBK : Below w0.heap.size w0 wc := HB0.out.trans (HFK.out.below.mono hw0)
                have g9 : (ns ++ [s]).length = ns.length + 1 := by rw [List.length_append]; rfl
                have g9I : ((ns ++ [s]).length : Int) + 1 = (ns.length : Int) + 1 + 1 := by rw [g9]; omega
                have hNS2 : ∀ s_1 ∈ ns ++ [s], s_1.size ≤ 1048576 := fun z hz => by
                  rcases List.mem_append.1 hz with hz | hz
                  · exact HNS.out z hz
                  · simp at hz; subst hz; exact hsz
                have NC := HIH.out _ S (ns ++ [s]) b7 x' c' M PJ B w0 wc HA.out HST.out hBK hw0 (Nat.le_trans hBw HFK.out.size) HRK.out hMl7 (by rw [g9]; omega) hNS2 hb70 hb71
                rw [g9I, ← HPJ.out] at NC
                have hbd := vT_bd (ns ++ [s]) b7 S
                have hcd := vT_code (ns ++ [s]) b7 S
                have a0 := HVK.out.p0
                have a2 := HVK.out.p2
                have a3 := HVK.out.p3
                have e1 : wc.cell? ⟨E, 1, none⟩ = some (.int .i64 a) := by rw [Lib.cell_of_heap HEK.out]; rfl
                have e2 : wc.cell? ⟨E, 2, none⟩ = some (.bool b') := by rw [Lib.cell_of_heap HEK.out]; rfl
                have e3 : wc.cell? ⟨E, 3, none⟩ = some (.string d) := by rw [Lib.cell_of_heap HEK.out]; rfl
                have e4 : wc.cell? ⟨E, 4, none⟩ = some (.slice fx pp q') := by rw [Lib.cell_of_heap HEK.out]; rfl
                have HBD : Hid ((vT (ns ++ [s]) b7 S).off = none → 0 ≤ b7 → b7 ≤ 1048576 → 0 ≤ (vT (ns ++ [s]) b7 S).bytes ∧ (vT (ns ++ [s]) b7 S).bytes ≤ 1048576) := hbd
                have HCD : Hid (∀ o, (vT (ns ++ [s]) b7 S).off = some o → o.2 ≠ 0) := hcd
                have HRL : Hid ((vT (ns ++ [s]) b7 S).off = none → ((rwT (ns ++ [s]) S).length : Int) + b7 ≤ (vT (ns ++ [s]) b7 S).bytes) := fun h => rw_le (ns ++ [s]) b7 S h
                generalize vT (ns ++ [s]) b7 S = RS at NC HBD HCD HRL HV7
                generalize rwT (ns ++ [s]) S = MS at NC HRL HM9
                clear hbd hcd hBK g9 g9I hNS2
                go_wp2_with fail
                refine NC.mono ?_
                rintro e6 w11 ⟨h6, F6⟩
                clear NC e1 e2 e3 e4 a0 a1 a2 a3
                have HV9 : Hid (VS w11 P N Z (.slice x' M.length c') b7 0 PJ k e t (some ⟨q, o, none⟩) n c) := HVK.out.fk F6
                have HF9 : Hid (Fk B 125 w w11) := HFK.out.trans F6
                have d0 := HV9.out.p0
                have d1 := HV9.out.p1
                have d2 := HV9.out.p2
                have d3 := HV9.out.p3
                have df0 := HV9.out.pf 0
                have df1 := HV9.out.pf 1
                have df2 := HV9.out.pf 2
                have df3 := HV9.out.pf 3
                clear HVK HRK HFK HEK F6
                cases hX : RS.off with
                | some oo =>
                  have hv := HV7.out
                  rw [hX] at h6 hv
                  obtain ⟨op, oc⟩ := oo
                  dsimp only at h6 hv
                  obtain ⟨x9, n9, c9, b9, rfl⟩ := h6
                  have HO : Hid (R.off = some (op, oc)) := by unfold Hid; rw [hv]
                  have hoc : oc ≠ 0 := HCD.out _ hX
                  have q1 : (oc != 0) = true := by simpa using hoc
                  have HVa : Hid (VS ((((w11.setCell ⟨P, 0, none⟩ (.slice x9 n9 c9)).setCell ⟨P, 1, none⟩ (.int .i64 b9)).setCell ⟨P, 2, none⟩ (.int .i64 oc)).setCell ⟨P, 3, none⟩ (.string op)) P N Z (.slice x9 n9 c9) b9 oc op k e t (some ⟨q, o, none⟩) n c) := (((HV9.out.set0 hNP hZP _).set1 hNP hZP _).set2 hNP hZP _).set3 hNP hZP _
                  have HFa : Hid (Fk B 125 w ((((w11.setCell ⟨P, 0, none⟩ (.slice x9 n9 c9)).setCell ⟨P, 1, none⟩ (.int .i64 b9)).setCell ⟨P, 2, none⟩ (.int .i64 oc)).setCell ⟨P, 3, none⟩ (.string op))) := (((HF9.out.over hBw P 0 _ hgP.out.1).over hBw P 1 _ hgP.out.1).over hBw P 2 _ hgP.out.1).over hBw P 3 _ hgP.out.1
                  clear hv HV7 hX HV9 HF9
                  go_upto_region 32 with fail
                  generalize (((w11.setCell ⟨P, 0, none⟩ (.slice x9 n9 c9)).setCell ⟨P, 1, none⟩ (.int .i64 b9)).setCell ⟨P, 2, none⟩ (.int .i64 oc)).setCell ⟨P, 3, none⟩ (.string op) = w12 at *
                  clear d0 d1 d2 d3 df0 df1 df2 df3
                  have a0 := HVa.out.p0
                  have a1 := HVa.out.p1
                  have a2 := HVa.out.p2
                  have a3 := HVa.out.p3
                  have z0 := HVa.out.z0
                  have z1 := HVa.out.z1
                  have z2 := HVa.out.z2
                  have z3 := HVa.out.z3
                  have zf0 := HVa.out.zf 0
                  have zf1 := HVa.out.zf 1
                  have zf2 := HVa.out.zf 2
                  have zf3 := HVa.out.zf 3
                  go_upto_region 33 with fail
                  rename_i kk ha
                  go_hide hQ
                  go_wp2
                  subst hQ
                  refine ha _ _ ?_
                  go_hide hQ
                  go_wp2
                  subst hQ
                  refine (show bodyPost Try.prog Try.f44 (fun e w' => VsR R B (L ++ MM) w e w') Exit.ret _ _ from ?_)
                  refine exit_seen HVa.out.hz rfl ?_
                  exact EXIT.out w12 _ _ _ _ 0 _ _ HO.out HVa.out HFa.out
                | none =>
                  have hv := HV7.out
                  rw [hX] at h6 hv
                  obtain ⟨x9, c9, p9, rfl, R9⟩ := h6
                  dsimp only at hv
                  obtain ⟨hbb0, hbb1⟩ := HBD.out hX hb70 hb71
                  have hll := HRL.out hX
                  have HV8 : Hid (R = vL ns RS.bytes (some s) (nms.drop (i + 1)) (ks.drop (i + 1))) := hv
                  have hl9 : ((M ++ MS).length : Int) ≤ RS.bytes := by rw [List.length_append]; omega
                  generalize RS.bytes = b9 at *
                  generalize M ++ MS = M9 at *
                  have V1 := HV9.out.set0 hNP hZP (.slice x9 M9.length c9)
                  have V2 := V1.set1 hNP hZP b9
                  have V3 := V2.set2 hNP hZP 0
                  have HVa : Hid (VS ((((w11.setCell ⟨P, 0, none⟩ (.slice x9 M9.length c9)).setCell ⟨P, 1, none⟩ (.int .i64 b9)).setCell ⟨P, 2, none⟩ (.int .i64 0)).setCell ⟨P, 3, none⟩ (.string p9)) P N Z (.slice x9 M9.length c9) b9 0 p9 k e t (some ⟨q, o, none⟩) n c) := V3.set3 hNP hZP _
                  have HFa : Hid (Fk B 125 w ((((w11.setCell ⟨P, 0, none⟩ (.slice x9 M9.length c9)).setCell ⟨P, 1, none⟩ (.int .i64 b9)).setCell ⟨P, 2, none⟩ (.int .i64 0)).setCell ⟨P, 3, none⟩ (.string p9))) := (((HF9.out.over hBw P 0 _ hgP.out.1).over hBw P 1 _ hgP.out.1).over hBw P 2 _ hgP.out.1).over hBw P 3 _ hgP.out.1
                  have HRa : Hid (Rws 125 ((((w11.setCell ⟨P, 0, none⟩ (.slice x9 M9.length c9)).setCell ⟨P, 1, none⟩ (.int .i64 b9)).setCell ⟨P, 2, none⟩ (.int .i64 0)).setCell ⟨P, 3, none⟩ (.string p9)) B (.slice x9 M9.length c9) M9) := (((R9.over HV9.out.hp (by decide) 0 _).over V1.hp (by decide) 1 _).over V2.hp (by decide) 2 _).over V3.hp (by decide) 3 _
                  clear hv HV7 hX HV9 HF9 V1 V2 V3 R9
                  go_upto_region 32 with fail
                  generalize (((w11.setCell ⟨P, 0, none⟩ (.slice x9 M9.length c9)).setCell ⟨P, 1, none⟩ (.int .i64 b9)).setCell ⟨P, 2, none⟩ (.int .i64 0)).setCell ⟨P, 3, none⟩ (.string p9) = w12 at *
                  clear d0 d1 d2 d3 df0 df1 df2 df3
                  have a2 := HVa.out.p2
                  go_wp2
                  go_roundw
                  case rel => exact ⟨i + 1, b9, x9, c9, M9, p9, some s, by omega, by go_num, hbb0, hbb1, hl9, HM9, HVa, HRa, HFa, HV8, Or.inr ⟨s, by omega, rfl, by rw [Nat.add_sub_cancel]; exact HS9.out⟩⟩
                  case measure => simp [intOf]; omega
      · obtain rfl : i = n := by omega
        obtain ⟨l1, l2⟩ := LL.out
        have hv := hV.out
        rw [List.drop_of_length_le (by omega), vL_end] at hv
        have HV : Hid (R.off = none ∧ R.bytes = bi) := by unfold Hid; rw [hv]; exact ⟨rfl, rfl⟩
        have HMe : Hid (M = L ++ MM) := by
          unfold Hid
          rw [hM.out, HMM.out, List.take_of_length_le (by omega), List.take_of_length_le (by omega)]
        clear hv l1 l2
        have n3 := hVS.out.hn.c3
        have a0 := hVS.out.p0
        have a1 := hVS.out.p1
        have a2 := hVS.out.p2
        have a3 := hVS.out.p3
        have z0 := hVS.out.z0
        have z1 := hVS.out.z1
        have z2 := hVS.out.z2
        have z3 := hVS.out.z3
        have zf0 := hVS.out.zf 0
        have zf1 := hVS.out.zf 1
        have zf2 := hVS.out.zf 2
        have zf3 := hVS.out.zf 3
        go_wp2
        refine exit_seen hVS.out.hz rfl ?_
        rw [← HMe.out, ← HV.out.2]
        refine VsR.fine HV.out.1 ((((hFK.out.over hBw Z 0 _ hgP.out.2.2).over hBw Z 1 _ hgP.out.2.2).over hBw Z 2 _ hgP.out.2.2).over hBw Z 3 _ hgP.out.2.2) ?_
        exact hRS.out.same fun kk hk => by
          have hne : kk ≠ Z := fun e9 => by
            subst e9
            obtain ⟨c9, fz9, hh⟩ := Lib.ownsRow_kind hRS.out kk hk
            rw [hVS.out.hz] at hh
            injection hh with hh
            injection hh with _ hh
            exact absurd hh (by decide)
          exact (Below.heap_setCell _ ⟨Z, 3, none⟩ _ kk hne).trans ((Below.heap_setCell _ ⟨Z, 2, none⟩ _ kk hne).trans ((Below.heap_setCell _ ⟨Z, 1, none⟩ _ kk hne).trans (Below.heap_setCell _ ⟨Z, 0, none⟩ _ kk hne)))

end Go.Proofs.Ytpbgmknebhnonaa
