/- UiA UiB UiD, gathered (own text of the verifier). -/
import Derived.Test.YtnggbemnblcnaaaDoorXD
import Derived.Test.YtnggbemnblcnaaaDoorXA
import Derived.Test.YtnggbemnblcnaaaDoorTyEx
import Derived.Test.YtnggbemnblcnaaaDoorXK
import Derived.Deep.CutRange
import Derived.Deep.RegionHeld3
namespace Go.Proofs.YtnggbemnblcnaaaDoor
open Go.RowKit

/-- What gather answers and leaves. -/
def GaP (g : List ByteArray × List Tr × List RW) (n : Nat) (w : World) (e : Ending) (w' : World) : Prop := (∃ v fp, e = .returned (.tuple #[v, .int .i64 ((n - g.2.2.length : Nat) : Int)]) ∧ TrV w' w.heap.size (.mk 0 false ⟨#[]⟩ g.1 g.2.1) v fp ∧ fp.Nodup) ∧ Below w.heap.size w w'
theorem GaP.at {g : List ByteArray × List Tr × List RW} {n i : Nat} {L : List RW} {ns : List ByteArray} {ks : List Tr} {w w' : World} {v : Value} {fp : List Nat} {Z : Prop} (hg : g = (ns, ks, L.drop i)) (hl : L.length = n) (hi : i ≤ n) (h : TrV w' w.heap.size (.mk 0 false ⟨#[]⟩ ns ks) v fp ∧ fp.Nodup ∧ Below w.heap.size w w' ∧ Z) : GaP g n w (.returned (.tuple #[v, .int .i64 (i : Int)])) w' := by
  subst hg
  refine ⟨⟨v, fp, ?_, h.1, h.2.1⟩, h.2.2.1⟩
  have : n - (L.drop i).length = i := by rw [List.length_drop]; omega
  show _ = Ending.returned (.tuple #[v, .int .i64 ((n - (L.drop i).length : Nat) : Int)])
  rw [this]
theorem spN_some {p : ByteArray} (h : (pathF p).1 = 0) : spN p = some (pathN p) := by unfold spN; rw [if_pos h]
theorem spN_none {p : ByteArray} (h : (pathF p).1 ≠ 0) : spN p = none := by unfold spN; rw [if_neg h]

set_option maxHeartbeats 8000000 in
set_option maxRecDepth 10000 in
theorem rgather_any : ∀ (f : Nat) (x y : Option Addr) (n c i0 m d : Nat) (L : List RW) (dir : List ByteArray) (w : World), RIs w x L → L.length = n → n ≤ 1048576 → smR L → Tns w y dir → dir.length = m → m ≤ 64 → i0 ≤ n → n - i0 ≤ f →
    Calls Tryd.prog 24 #[.slice x n c, .int .i64 i0, .slice y m d] w (GaP (gth spN f dir [] [] (L.drop i0)) n w) := by
  intro f
  induction f using Nat.strongRecOn with
  | _ f IH =>
  intro x y n c i0 m d L dir w hX hl hn hsm hY hm hm2 hi0 hf
  have HX : Hid (RIs w x L ∧ L.length = n ∧ smR L) := ⟨hX, hl, hsm⟩
  have HY : Hid (Tns w y dir ∧ dir.length = m) := ⟨hY, hm⟩
  obtain ⟨RES, hRES⟩ : ∃ RES, gth spN f dir [] [] (L.drop i0) = RES := ⟨_, rfl⟩
  have HG0 : Hid (n - i0 ≤ f ∧ f ≤ f ∧ gth spN f dir [] [] (L.drop i0) = RES) := ⟨hf, Nat.le_refl _, hRES⟩
  rw [hRES]
  clear hX hl hsm hY hm hRES hf
  have hi0I : (i0 : Int) ≤ (n : Int) := by omega
  go_enter Tryd.func24, Tryd.ntmps24
  go_wp2
  go_loopw [1, 8] (fun xi xk wr => ∃ (i f1 : Nat) (ns : List ByteArray) (ks : List Tr) (yk : Option Addr) (ck : Nat) (fp : List Nat), i ≤ n ∧ xi = .int .i64 i ∧ xk = .slice yk ns.length ck ∧ Hid (n - i ≤ f1 ∧ f1 ≤ f ∧ gth spN f1 dir ns ks (L.drop i) = RES) ∧ Hid (TrV wr w.heap.size (.mk 0 false ⟨#[]⟩ ns ks) (.slice yk ns.length ck) fp ∧ fp.Nodup ∧ Below w.heap.size w wr ∧ ns.length ≤ i) ∧ Hid (∀ z ∈ ns, z.size ≤ 255)) (fun i _ _ => n - (intOf i).toNat)
  case atStart => exact ⟨i0, f, [], [], none, 0, [], hi0, rfl, rfl, HG0, ⟨TrV.zero _ _ _ _ _ rfl rfl, List.nodup_nil, Below.refl _ _, Nat.zero_le _⟩, by intro z hz; cases hz⟩
  case round =>
    obtain ⟨i, f1, ns, ks, yk, ck, fp, hi, rfl, rfl, HGI, HT, HNS⟩ := hrel
    by_cases hlt : i < n
    · obtain ⟨r, hr⟩ : ∃ r, L[i]? = some r := ⟨_, List.getElem?_eq_getElem (by rw [HX.out.2.1]; exact hlt)⟩
      have HR : Hid (L[i]? = some r ∧ L.drop i = r :: L.drop (i + 1)) := by
        obtain ⟨h1, h2⟩ := List.getElem?_eq_some_iff.1 hr
        exact ⟨hr, by rw [List.drop_eq_getElem_cons h1, h2]⟩
      obtain ⟨f2, hf2⟩ : ∃ f2, f1 = f2 + 1 := ⟨f1 - 1, by have := HGI.out.1; omega⟩
      subst hf2
      have hps := HX.out.2.2 r (List.mem_of_getElem? hr)
      obtain ⟨g, o, rfl, hg, c0, _⟩ := HX.out.1.below HT.out.2.2.1 (Nat.le_refl _) i r hr
      obtain ⟨p, hp⟩ : ∃ p, p = r.1 := ⟨_, rfl⟩
      rw [← hp] at c0 hps
      have HP : Hid (p = r.1) := hp
      have HGW : Hid (g < w.heap.size) := by
        obtain ⟨_, _, hxe, hgg, _⟩ := HX.out.1 i r hr
        injection hxe with hxe
        injection hxe with q1 q2
        rw [q1]; exact hgg
      clear hp hr
      have CC := rsplit_any p wr (by omega)
      go_wp2_with fail
      refine CC.mono ?_
      rintro e5 w5 ⟨v5, rfl, hs5, b5⟩
      obtain ⟨x5, c5, rfl, _, T5⟩ := hs5.tns
      have HT5 : Hid (TrV w5 w.heap.size (.mk 0 false ⟨#[]⟩ ns ks) (.slice yk ns.length ck) fp ∧ fp.Nodup ∧ Below w.heap.size w w5 ∧ ns.length ≤ i) := ⟨TrV.same _ _ _ HT.out.1 (fun b hb => b5.block b (TrV.lt _ _ _ HT.out.1 b hb).2), HT.out.2.1, HT.out.2.2.1.trans (b5.mono HT.out.2.2.1.size), HT.out.2.2.2⟩
      have HTN : Hid (Tns w5 x5 (pathN p)) := T5
      have hsh := pathN_short p
      obtain ⟨q5, hq5⟩ : ∃ q5, (pathN p).length = q5 := ⟨_, rfl⟩
      have HQ5 : Hid ((pathN p).length = q5) := hq5
      obtain ⟨C, hC⟩ : ∃ C, (pathF p).1 = C := ⟨_, rfl⟩
      have HC : Hid ((pathF p).1 = C) := hC
      rw [hq5] at hsh ⊢
      rw [hC]
      generalize (pathF p).2 = pf2
      clear hq5 hC hs5 T5 b5 c0 CC HT
      by_cases hz : C = 0
      · subst hz
        have HSP : Hid (spN r.1 = some (pathN p)) := by rw [Hid, ← HP.out]; exact spN_some HC.out
        by_cases hl5 : q5 = m + 1
        · subst hl5
          have CB := rbegins_any x5 y (m + 1) c5 m d (pathN p) dir w5 HTN.out (HY.out.1.below HT5.out.2.2.1) HQ5.out HY.out.2 (by omega)
          obtain ⟨E, hE⟩ : ∃ E, E = decide (dir <+: pathN p) := ⟨_, rfl⟩
          rw [← hE] at CB
          have HE : Hid (E = decide (dir <+: pathN p)) := hE
          clear hE
          have ge : (((m : Int) + 1) == ((m : Int) + 1)) = true := by simp
          go_wp2_with fail
          refine CB.mono ?_
          rintro e6 w6 ⟨rfl, b6⟩
          have HT6 : Hid (TrV w6 w.heap.size (.mk 0 false ⟨#[]⟩ ns ks) (.slice yk ns.length ck) fp ∧ fp.Nodup ∧ Below w.heap.size w w6 ∧ ns.length ≤ i) := ⟨TrV.same _ _ _ HT5.out.1 (fun b hb => b6.block b (TrV.lt _ _ _ HT5.out.1 b hb).2), HT5.out.2.1, HT5.out.2.2.1.trans (b6.mono HT5.out.2.2.1.size), HT5.out.2.2.2⟩
          have HTN6 : Hid (Tns w6 x5 (pathN p)) := HTN.out.below b6
          clear b6 CB HT5 HTN
          cases E
          · have HF : Hid (RES = (ns, ks, L.drop i)) := by
              rw [Hid, ← HGI.out.2.2, HR.out.2]
              exact gth_no HSP.out (fun h => absurd h.2.1 (of_decide_eq_false HE.out.symm)) _ _ _
            go_wp2
            try rw [Exit.noGoto_ret]
            go_ret2
            exact GaP.at HF.out HX.out.2.1 hi HT6.out
          · have HPX : Hid (dir <+: pathN p) := by show dir <+: pathN p; exact of_decide_eq_true HE.out.symm
            obtain ⟨s, hs⟩ : ∃ s, (pathN p)[m]? = some s := ⟨_, List.getElem?_eq_getElem (by rw [HQ5.out]; omega)⟩
            have HS : Hid ((pathN p)[m]? = some s ∧ (pathN p).getLast? = some s ∧ s.size ≤ 255) := by
              refine ⟨hs, ?_, chk_short s ((spN_right p (pathN p) (spN_some HC.out)).2.1 s (List.mem_of_getElem? hs))⟩
              rw [List.getLast?_eq_getElem?, HQ5.out]
              exact hs
            obtain ⟨g5, o5, rfl, hg5, c5s⟩ := HTN6.out m s hs
            have gm : ((m : Int) + 1 - 1) = (m : Int) := by omega
            clear hs
            obtain ⟨BB, hBB⟩ : ∃ BB, BB = !(nxt ns s) := ⟨_, rfl⟩
            have HBB : Hid (BB = !(nxt ns s)) := hBB
            clear hBB
            have hss := HS.out.2.2
            have hnl := HT6.out.2.2.2
            go_upto_region 7 with fail
            go_cut [68] from 54 to 68 (fun v68 wx => v68 = .bool BB ∧ ∃ nq, wx = w6.drewN nq)
            case first =>
              by_cases hk : ns.length = 0
              · have HB2 : Hid (BB = false) := by
                  rw [Hid, HBB.out]
                  have : ns = [] := List.length_eq_zero_iff.1 hk
                  subst this
                  rfl
                have g1 : decide ((0 : Int) < (ns.length : Int)) = false := decide_eq_false (by omega)
                have g1' : ¬ (0 : Int) < (ns.length : Int) := by omega
                clear hk
                (try go_wp2_with fail)
                go_meet
                exact ⟨by rw [HB2.out], 0, rfl⟩
              · obtain ⟨z, hz⟩ : ∃ z, ns[ns.length - 1]? = some z := ⟨_, List.getElem?_eq_getElem (by omega)⟩
                have hkl := wfT_len (TrV.wf _ _ _ HT6.out.1)
                change ns.length = ks.length at hkl
                obtain ⟨K, hK⟩ : ∃ z, ks[ns.length - 1]? = some z := ⟨_, List.getElem?_eq_getElem (by omega)⟩
                obtain ⟨gk, capk, uk, fk, hvk, _, _, hck, _⟩ := TrV.get HT6.out.1 (ns.length - 1) z K hz hK
                injection hvk with hv1 hv2 hv3
                subst hv1 hv3
                clear hv2
                have ck0 : w6.cell? ⟨gk, (ns.length - 1) * 5, none⟩ = some (.string z) := hck 0 (by omega)
                have hzl : ns.getLast? = some z := by rw [List.getLast?_eq_getElem?]; exact hz
                have HZ : Hid (ns.getLast? = some z) := hzl
                have hzs : z.size ≤ 140737488351232 := by have := HNS.out z (List.mem_of_getElem? hz); omega
                have CM := rcompare_quiet z s
                have g1 : decide ((0 : Int) < (ns.length : Int)) = true := decide_eq_true (by omega)
                have g2 : ((ns.length : Int) - 1).toNat = ns.length - 1 := by omega
                have g3 : (0 : Int) ≤ (ns.length : Int) - 1 := by omega
                have g4 : (ns.length : Int) - 1 < (ns.length : Int) := by omega
                clear hck hz hK hkl hzl hk
                go_wp2_with fail
                refine (CM w6 hzs).mono ?_
                rintro e7 w7 ⟨rfl, nq, rfl⟩
                by_cases hC : 0 ≤ cmpB z s
                · have HB2 : Hid (BB = true) := by
                    rw [Hid, HBB.out]
                    unfold nxt
                    rw [HZ.out]
                    show (!(decide (cmpB z s < 0))) = true
                    rw [decide_eq_false (by omega)]
                    rfl
                  have g5 : decide (0 ≤ cmpB z s) = true := decide_eq_true hC
                  generalize cmpB z s = CMP at *
                  (try go_wp2_with fail)
                  go_meet
                  exact ⟨by rw [HB2.out], nq, rfl⟩
                · have HB2 : Hid (BB = false) := by
                    rw [Hid, HBB.out]
                    unfold nxt
                    rw [HZ.out]
                    show (!(decide (cmpB z s < 0))) = false
                    rw [decide_eq_true (by omega)]
                    rfl
                  have g5 : decide (0 ≤ cmpB z s) = false := decide_eq_false hC
                  generalize cmpB z s = CMP at *
                  (try go_wp2_with fail)
                  go_meet
                  exact ⟨by rw [HB2.out], nq, rfl⟩
            case rest =>
              obtain ⟨rfl, nq, rfl⟩ := hcut
              have HT7 : Hid (TrV (w6.drewN nq) w.heap.size (.mk 0 false ⟨#[]⟩ ns ks) (.slice yk ns.length ck) fp ∧ fp.Nodup ∧ Below w.heap.size w (w6.drewN nq) ∧ ns.length ≤ i) := ⟨TrV.same _ _ _ HT6.out.1 (fun b hb => rfl), HT6.out.2.1, bel_drewN HT6.out.2.2.1 nq, HT6.out.2.2.2⟩
              have HTN7 : Hid (Tns (w6.drewN nq) (some ⟨g5, o5, none⟩) (pathN p)) := HTN6.out.below (bel_drewN (Below.refl _ _) nq)
              clear HT6 HTN6 c5s hg5
              generalize w6.drewN nq = w7 at *
              cases BB with
              | true =>
                have HF : Hid (RES = (ns, ks, L.drop i)) := by
                  rw [Hid, ← HGI.out.2.2, HR.out.2]
                  refine gth_no HSP.out (fun h => ?_) _ _ _
                  have h3 := h.2.2.1
                  rw [HS.out.2.1] at h3
                  have h4 := HBB.out
                  rw [show nxt ns s = true from h3] at h4
                  cases h4
                go_wp2
                try rw [Exit.noGoto_ret]
                go_ret2
                exact GaP.at HF.out HX.out.2.1 hi HT7.out
              | false =>
                have HNX : Hid (nxt ns s = true) := by
                  rw [Hid]
                  have := HBB.out
                  cases h : nxt ns s with
                  | true => rfl
                  | false => rw [h] at this; cases this
                have hgw : g < w.heap.size := HGW.out
                have SA : ∀ W : World, Below w.heap.size w W → (fun W : World => W.cell? ⟨g, o + i * 4 + 1, none⟩ = some (.int .i64 r.2.1) ∧ W.cell? ⟨g, o + i * 4 + 2, none⟩ = some (.bool r.2.2.1) ∧ W.cell? ⟨g, o + i * 4 + 3, none⟩ = some (.string r.2.2.2)) W := fun W hW => by
                  obtain ⟨_, _, hxe, _, _, m1, m2, m3⟩ := HX.out.1.below hW (Nat.le_refl _) i r HR.out.1
                  injection hxe with hxe
                  injection hxe with q1 q2
                  subst q1 q2
                  exact ⟨m1, m2, m3⟩
                have bD : Below w7.heap.size w7 w7.drew := ⟨rfl, rfl, rfl, Nat.le_refl _, fun _ _ => rfl⟩
                have bA : Below w7.drew.heap.size w7.drew (w7.drew.alloc (Obj.cells #[Value.int IntKind.i64 0, Value.bool false, Value.string ⟨#[]⟩, Value.slice none 0 0] 32)) := (Below.refl _ _).alloc (Nat.le_refl _) _
                have B0 : Below w.heap.size w w7.drew := HT7.out.2.2.1.trans (bD.mono HT7.out.2.2.1.size)
                have B1 : Below w.heap.size w (w7.drew.alloc (Obj.cells #[Value.int IntKind.i64 0, Value.bool false, Value.string ⟨#[]⟩, Value.slice none 0 0] 32)) := B0.trans (bA.mono B0.size)
                have bA8 : Below w7.heap.size w7 (w7.alloc (Obj.cells #[Value.int IntKind.i64 r.2.1, Value.bool r.2.2.1, Value.string r.2.2.2, Value.slice none 0 0] 32)).drew := ((Below.refl _ _).alloc (Nat.le_refl _) _).trans ⟨rfl, rfl, rfl, Nat.le_refl _, fun _ _ => rfl⟩
                have B2 : Below w.heap.size w (w7.alloc (Obj.cells #[Value.int IntKind.i64 r.2.1, Value.bool r.2.2.1, Value.string r.2.2.2, Value.slice none 0 0] 32)).drew := HT7.out.2.2.1.trans (bA8.mono HT7.out.2.2.1.size)
                have N0 := SA _ B0
                have N1 := SA _ B1
                have N2 := SA _ B2
                have HT8 : Hid (TrV (w7.alloc (Obj.cells #[Value.int IntKind.i64 r.2.1, Value.bool r.2.2.1, Value.string r.2.2.2, Value.slice none 0 0] 32)).drew w.heap.size (.mk 0 false ⟨#[]⟩ ns ks) (.slice yk ns.length ck) fp ∧ fp.Nodup ∧ Below w.heap.size w (w7.alloc (Obj.cells #[Value.int IntKind.i64 r.2.1, Value.bool r.2.2.1, Value.string r.2.2.2, Value.slice none 0 0] 32)).drew ∧ ns.length ≤ i) := ⟨TrV.same _ _ _ HT7.out.1 (fun b hb => bA8.block b (TrV.lt _ _ _ HT7.out.1 b hb).2), HT7.out.2.1, B2, HT7.out.2.2.2⟩
                have HTN8 : Hid (Tns (w7.alloc (Obj.cells #[Value.int IntKind.i64 r.2.1, Value.bool r.2.2.1, Value.string r.2.2.2, Value.slice none 0 0] 32)).drew (some ⟨g5, o5, none⟩) (pathN p)) := HTN7.out.below bA8
                have HE8 : Hid ((w7.alloc (Obj.cells #[Value.int IntKind.i64 r.2.1, Value.bool r.2.2.1, Value.string r.2.2.2, Value.slice none 0 0] 32)).drew.heap[w7.heap.size]? = some (.cells #[Value.int IntKind.i64 r.2.1, Value.bool r.2.2.1, Value.string r.2.2.2, Value.slice none 0 0] 32 (0, 0)) ∧ w.heap.size ≤ w7.heap.size ∧ (∀ b ∈ fp, b < w7.heap.size)) := ⟨heap_alloc_new w7 _, HT7.out.2.2.1.size, fun b hb => (TrV.lt _ _ _ HT7.out.1 b hb).2⟩
                clear SA bD bA B0 B1 B2 bA8 HT7 HTN7
                go_upto_region 9 with fail
                go_region_held3 (fun W : World => W.cell? ⟨g, o + i * 4 + 1, none⟩ = some (.int .i64 r.2.1) ∧ W.cell? ⟨g, o + i * 4 + 2, none⟩ = some (.bool r.2.2.1) ∧ W.cell? ⟨g, o + i * 4 + 3, none⟩ = some (.string r.2.2.2)) (first | exact N0 | exact N1 | exact N2) (fail)
                go_upto_region 10 with fail
                clear N0 N1 N2
                obtain ⟨E, hE⟩ : ∃ E, w7.heap.size = E := ⟨_, rfl⟩
                generalize (w7.alloc (Obj.cells #[Value.int IntKind.i64 r.2.1, Value.bool r.2.2.1, Value.string r.2.2.2, Value.slice none 0 0] 32)).drew = w8 at *
                rw [hE] at HE8 ⊢
                clear hE
                obtain ⟨a0, a1, a2, a3, _⟩ := cell4 HE8.out.1
                have CO := own_any r.2.1 r.2.2.1 r.2.2.2 none 0 0 w8 (by omega)
                unfold ndV at CO
                obtain ⟨C2, hC2⟩ : ∃ C2, cfP r.2.1 r.2.2.1 r.2.2.2 0 = C2 := ⟨_, rfl⟩
                have HC2 : Hid (cfP r.2.1 r.2.2.1 r.2.2.2 0 = C2) := hC2
                rw [hC2] at CO
                generalize ownB r.2.1 r.2.2.1 r.2.2.2 0 = ob at CO
                clear hC2
                go_wp2_with fail
                refine CO.mono ?_
                rintro e9 w9 ⟨rfl, b9⟩
                have HT9 : Hid (TrV w9 w.heap.size (.mk 0 false ⟨#[]⟩ ns ks) (.slice yk ns.length ck) fp ∧ fp.Nodup ∧ Below w.heap.size w w9 ∧ ns.length ≤ i) := ⟨TrV.same _ _ _ HT8.out.1 (fun b hb => b9.block b (TrV.lt _ _ _ HT8.out.1 b hb).2), HT8.out.2.1, HT8.out.2.2.1.trans (b9.mono HT8.out.2.2.1.size), HT8.out.2.2.2⟩
                have HTN9 : Hid (Tns w9 (some ⟨g5, o5, none⟩) (pathN p)) := HTN8.out.below b9
                have HE9 : Hid (w9.heap[E]? = some (.cells #[Value.int IntKind.i64 r.2.1, Value.bool r.2.2.1, Value.string r.2.2.2, Value.slice none 0 0] 32 (0, 0)) ∧ w.heap.size ≤ E ∧ (∀ b ∈ fp, b < E)) := ⟨(b9.block _ (heap_lt HE8.out.1)).trans HE8.out.1, HE8.out.2⟩
                clear b9 CO HT8 HTN8 HE8 a0 a1 a2 a3
                by_cases hz2 : C2 = 0
                · subst hz2
                  have HFIT : Hid (fitR dir ns (pathN p) r) := ⟨by rw [HQ5.out, HY.out.2], HPX.out, by rw [HS.out.2.1]; exact HNX.out, HC2.out⟩
                  obtain ⟨_, _, hxe, hg', _, k1, k2, k3⟩ := HX.out.1.below HT9.out.2.2.1 (Nat.le_refl _) i r HR.out.1
                  injection hxe with hxe
                  injection hxe with q1 q2
                  subst q1 q2
                  obtain ⟨a0, a1, a2, a3, af⟩ := cell4 HE9.out.1
                  have af3 := af 3
                  obtain ⟨kk, hkk⟩ : ∃ kk, kk = r.2.1 := ⟨_, rfl⟩
                  have k1' : w9.cell? ⟨g, o + i * 4 + 1, none⟩ = some (.int .i64 kk) := by rw [hkk]; exact k1
                  have HKK : Hid (kk = r.2.1) := hkk
                  clear hkk k1 k2 k3 af hg'
                  have gi1 : ((i : Int) + 1 - 1) = (i : Int) := by omega
                  by_cases h3 : kk = 3
                  · have CG := IH f2 (by have := HGI.out.2.1; omega) (some ⟨g, o, none⟩) (some ⟨g5, o5, none⟩) n c (i + 1) (m + 1) c5 L (pathN p) w9 (HX.out.1.below HT9.out.2.2.1 (Nat.le_refl _)) HX.out.2.1 hn HX.out.2.2 HTN9.out HQ5.out (by omega) (by omega) (by have := HGI.out.1; omega)
                    have HSF := gth_suf spN f2 (pathN p) [] [] (L.drop (i + 1))
                    obtain ⟨q, hq⟩ : ∃ q, gth spN f2 (pathN p) [] [] (L.drop (i + 1)) = q := ⟨_, rfl⟩
                    rw [hq] at CG HSF
                    have HQQ : Hid ((if r.2.1 = 3 then gth spN f2 (pathN p) [] [] (L.drop (i + 1)) else ([], [], L.drop (i + 1))) = q) := by rw [Hid, if_pos (by rw [← HKK.out]; exact h3)]; exact hq
                    have hsl := HSF.1.length_le
                    rw [List.length_drop, HX.out.2.1] at hsl
                    have HDR : Hid (q.2.2 = L.drop (n - q.2.2.length)) := by
                      have := suf_drop (HSF.1.trans (List.drop_suffix (i + 1) L))
                      rw [HX.out.2.1] at this
                      exact this
                    obtain ⟨j, hj⟩ : ∃ j, n - q.2.2.length = j := ⟨_, rfl⟩
                    have hj1 : i < j := by omega
                    have hj2 : j ≤ n := by omega
                    have HIN : Hid (ns.length + 1 ≤ j) := by rw [Hid]; have := HT9.out.2.2.2; omega
                    unfold GaP at CG
                    rw [hj] at CG HDR
                    have HGN : Hid (n - j ≤ f2 ∧ f2 ≤ f ∧ gth spN f2 dir (ns ++ [s]) (ks ++ [.mk r.2.1 r.2.2.1 r.2.2.2 q.1 q.2.1]) (L.drop j) = RES) := by
                      refine ⟨by have := HGI.out.1; omega, by have := HGI.out.2.1; omega, ?_⟩
                      rw [← HGI.out.2.2, HR.out.2, gth_yes HSP.out HS.out.2.1 HFIT.out f2 ks _ HQQ.out, HDR.out]
                    clear hq HSF hsl hj
                    rw [h3] at k1'
                    go_wp2_with fail
                    refine CG.mono ?_
                    rintro e10 w10 ⟨⟨v10, fp10, rfl, hV10, hn10⟩, b10⟩
                    obtain ⟨x10, c10, rfl⟩ : ∃ xx cc, v10 = .slice xx q.1.length cc := hV10.shape
                    change TrV w10 w9.heap.size (.mk 0 false ⟨#[]⟩ q.1 q.2.1) (.slice x10 q.1.length c10) fp10 at hV10
                    have hE10 : w10.heap[E]? = some (.cells #[Value.int IntKind.i64 r.2.1, Value.bool r.2.2.1, Value.string r.2.2.2, Value.slice none 0 0] 32 (0, 0)) := (b10.block _ (heap_lt HE9.out.1)).trans HE9.out.1
                    obtain ⟨a0, a1, a2, a3, af⟩ := cell4 hE10
                    have af3 := af 3
                    have hEne : ∀ b ∈ fp, b ≠ E := fun b hb => by have := HE9.out.2.2 b hb; omega
                    have hE9 : E < w9.heap.size := heap_lt HE9.out.1
                    have hEne2 : ∀ b ∈ fp10, b ≠ E := fun b hb => by have := (TrV.lt _ _ _ hV10 b hb).1; omega
                    have HTX : Hid (TrV (w10.setCell ⟨E, 3, none⟩ (.slice x10 q.1.length c10)) w.heap.size (.mk 0 false ⟨#[]⟩ ns ks) (.slice yk ns.length ck) fp ∧ fp.Nodup ∧ Below w.heap.size w (w10.setCell ⟨E, 3, none⟩ (.slice x10 q.1.length c10)) ∧ ns.length ≤ i) := ⟨TrV.same _ _ _ HT9.out.1 (fun b hb => (Below.heap_setCell _ _ _ b (hEne b hb)).trans (b10.block b (TrV.lt _ _ _ HT9.out.1 b hb).2)), HT9.out.2.1, (HT9.out.2.2.1.trans (b10.mono HT9.out.2.2.1.size)).setCell HE9.out.2.1 _, HT9.out.2.2.2⟩
                    have HKX : Hid (TrV (w10.setCell ⟨E, 3, none⟩ (.slice x10 q.1.length c10)) w.heap.size (.mk r.2.1 r.2.2.1 r.2.2.2 q.1 q.2.1) (.slice x10 q.1.length c10) fp10 ∧ (fp ++ fp10).Nodup) := by
                      refine ⟨?_, List.nodup_append.2 ⟨HT9.out.2.1, hn10, fun a ha b hb hab => by
                        have p1 := (TrV.lt _ _ _ HT9.out.1 a ha).2
                        have p2 := (TrV.lt _ _ _ hV10 b hb).1
                        omega⟩⟩
                      have hh := TrV.low (Nat.le_trans HE9.out.2.1 (Nat.le_of_lt hE9)) _ _ _ (TrV.same (w' := w10.setCell ⟨E, 3, none⟩ (.slice x10 q.1.length c10)) _ _ _ hV10 (fun b hb => Below.heap_setCell _ _ _ b (hEne2 b hb)))
                      rw [TrV] at hh ⊢
                      exact hh
                    have hEX : (w10.setCell ⟨E, 3, none⟩ (.slice x10 q.1.length c10)).heap[E]? = some (.cells #[Value.int IntKind.i64 r.2.1, Value.bool r.2.2.1, Value.string r.2.2.2, .slice x10 q.1.length c10] 32 (0, 0)) := Go.Joins.block_setCell (i := 3) hE10 _
                    clear hV10 hn10 b10 hEne hEne2 hE9 CG
                    go_upto_region 16 with fail
                    clear a0 a1 a2 a3 af af3 hE10 k1'
                    generalize w10.setCell ⟨E, 3, none⟩ (.slice x10 q.1.length c10) = wx at *
                    obtain ⟨a0, a1, a2, a3, _⟩ := cell4 hEX
                    generalize q.1.length = nk at *
                    have bN : Below wx.heap.size wx (wx.alloc (Obj.cells #[Value.string s, Value.int IntKind.i64 r.2.1, Value.bool r.2.2.1, Value.string r.2.2.2, Value.slice x10 nk c10] 52)) := (Below.refl _ _).alloc (Nat.le_refl _) _
                    obtain ⟨g2, cap, w8, hr, ⟨fp8, hV8, hn8, hs8⟩, hgr, hcap⟩ := TrV.app (w := wx.alloc (Obj.cells #[Value.string s, Value.int IntKind.i64 r.2.1, Value.bool r.2.2.1, Value.string r.2.2.2, Value.slice x10 nk c10] 52)) (B := w.heap.size) (T := .mk 0 false ⟨#[]⟩ ns ks) (v := .slice yk ns.length ck) (fp := fp) (TrV.same _ _ _ HTX.out.1 (fun b hb => bN.block b (TrV.lt _ _ _ HTX.out.1 b hb).2)) s (.mk r.2.1 r.2.2.1 r.2.2.2 q.1 q.2.1) (.slice x10 nk c10) fp10 (TrV.same _ _ _ HKX.out.1 (fun b hb => bN.block b (TrV.lt _ _ _ HKX.out.1 b hb).2)) HKX.out.2 ⟨wx.heap.size, 0, none⟩ 1 (fun j x hj => by
                        rw [Addr.add_lit, Nat.zero_add, World.cell?_alloc_new, ← Array.getElem?_toList]; exact hj) (Nat.le_trans HTX.out.2.2.1.size bN.size) (by have := HTX.out.2.2.2; show ns.length ≤ _; omega)
                    have hr' : (Builtin.append_ #[30, 30] 30 #[.slice yk ns.length ck, .slice (some ⟨wx.heap.size, 0, none⟩) 1 1]).run Tryd.prog (wx.alloc (Obj.cells #[Value.string s, Value.int IntKind.i64 r.2.1, Value.bool r.2.2.1, Value.string r.2.2.2, Value.slice x10 nk c10] 52)) = .ok (.slice (some ⟨g2, 0, none⟩) (ns.length + 1) cap) w8 := hr
                    have HN : Hid (TrV w8 w.heap.size (.mk 0 false ⟨#[]⟩ (ns ++ [s]) (ks ++ [.mk r.2.1 r.2.2.1 r.2.2.2 q.1 q.2.1])) (.slice (some ⟨g2, 0, none⟩) (ns ++ [s]).length cap) fp8 ∧ fp8.Nodup ∧ Below w.heap.size w w8 ∧ (ns ++ [s]).length ≤ j) := by
                      have hlen : (ns ++ [s]).length = ns.length + 1 := by simp
                      refine ⟨by rw [hlen]; exact hV8, hn8, ?_, by rw [hlen]; exact HIN.out⟩
                      have hlo := HTX.out.2.2.1
                      refine ⟨hgr.os.trans (bN.os.trans hlo.os), hgr.tape.trans (bN.tape.trans hlo.tape), hgr.output.trans (bN.output.trans hlo.output), Nat.le_trans hlo.size (Nat.le_trans bN.size hgr.size), fun b hb => ?_⟩
                      have hb1 : b < wx.heap.size := Nat.lt_of_lt_of_le hb hlo.size
                      have := bN.size
                      refine (hgr.block b (by omega) (fun hh => ?_)).trans ((bN.block b hb1).trans (hlo.block b hb))
                      have h4 := HTX.out.1
                      have h5 := TrV.lt _ _ _ h4 b (by
                        rw [TrV] at h4
                        obtain ⟨_, fq, _, _, rfl⟩ := h4
                        simp [blkL, ← hh])
                      omega
                    clear hr hV8 hn8 hs8 hgr hcap bN
                    go_wp2_with (first | (refine wpList_app_is (by rfl) 30 30 (.tmp 113) (.tmp 117) (by rfl) _ _ _ _ (by rfl) (by rfl) hr' ?_))
                    go_roundw
                    case rel => exact ⟨j, f2, ns ++ [s], ks ++ [.mk r.2.1 r.2.2.1 r.2.2.2 q.1 q.2.1], some ⟨g2, 0, none⟩, cap, fp8, by omega, by first | rfl | go_num, by simp, HGN, HN, fun z hz => by
                        rcases List.mem_append.1 hz with hz | hz
                        · exact HNS.out z hz
                        · simp at hz; subst hz; exact HS.out.2.2⟩
                    case measure => simp [intOf]; omega
                  · have hk3 : (kk == 3) = false := by simp [h3]
                    have HQQ : Hid ((if r.2.1 = 3 then gth spN f2 (pathN p) [] [] (L.drop (i + 1)) else ([], [], L.drop (i + 1))) = (([], [], L.drop (i + 1)) : List ByteArray × List Tr × List RW)) := by rw [Hid, if_neg (by rw [← HKK.out]; exact h3)]
                    have HGN : Hid (n - (i + 1) ≤ f2 ∧ f2 ≤ f ∧ gth spN f2 dir (ns ++ [s]) (ks ++ [.mk r.2.1 r.2.2.1 r.2.2.2 [] []]) (L.drop (i + 1)) = RES) := by
                      refine ⟨by have := HGI.out.1; omega, by have := HGI.out.2.1; omega, ?_⟩
                      rw [← HGI.out.2.2, HR.out.2, gth_yes HSP.out HS.out.2.1 HFIT.out f2 ks _ HQQ.out]
                    have HIN : Hid (ns.length + 1 ≤ i + 1) := by rw [Hid]; have := HT9.out.2.2.2; omega
                    have HTX : Hid (TrV w9 w.heap.size (.mk 0 false ⟨#[]⟩ ns ks) (.slice yk ns.length ck) fp ∧ fp.Nodup ∧ Below w.heap.size w w9 ∧ ns.length ≤ i) := HT9
                    have HKX : Hid (TrV w9 w.heap.size (.mk r.2.1 r.2.2.1 r.2.2.2 [] []) (.slice none 0 0) [] ∧ (fp ++ []).Nodup) := ⟨TrV.zero _ _ _ _ _ rfl rfl, by rw [List.append_nil]; exact HT9.out.2.1⟩
                    have bN : Below w9.heap.size w9 (w9.alloc (Obj.cells #[Value.string s, Value.int IntKind.i64 r.2.1, Value.bool r.2.2.1, Value.string r.2.2.2, Value.slice none 0 0] 52)) := (Below.refl _ _).alloc (Nat.le_refl _) _
                    obtain ⟨g2, cap, w8, hr, ⟨fp8, hV8, hn8, hs8⟩, hgr, hcap⟩ := TrV.app (w := w9.alloc (Obj.cells #[Value.string s, Value.int IntKind.i64 r.2.1, Value.bool r.2.2.1, Value.string r.2.2.2, Value.slice none 0 0] 52)) (B := w.heap.size) (T := .mk 0 false ⟨#[]⟩ ns ks) (v := .slice yk ns.length ck) (fp := fp) (TrV.same _ _ _ HTX.out.1 (fun b hb => bN.block b (TrV.lt _ _ _ HTX.out.1 b hb).2)) s (.mk r.2.1 r.2.2.1 r.2.2.2 [] []) (.slice none 0 0) [] (TrV.same _ _ _ HKX.out.1 (fun b hb => bN.block b (TrV.lt _ _ _ HKX.out.1 b hb).2)) HKX.out.2 ⟨w9.heap.size, 0, none⟩ 1 (fun j x hj => by
                        rw [Addr.add_lit, Nat.zero_add, World.cell?_alloc_new, ← Array.getElem?_toList]; exact hj) (Nat.le_trans HTX.out.2.2.1.size bN.size) (by have := HTX.out.2.2.2; show ns.length ≤ _; omega)
                    have hr' : (Builtin.append_ #[30, 30] 30 #[.slice yk ns.length ck, .slice (some ⟨w9.heap.size, 0, none⟩) 1 1]).run Tryd.prog (w9.alloc (Obj.cells #[Value.string s, Value.int IntKind.i64 r.2.1, Value.bool r.2.2.1, Value.string r.2.2.2, Value.slice none 0 0] 52)) = .ok (.slice (some ⟨g2, 0, none⟩) (ns.length + 1) cap) w8 := hr
                    have HN : Hid (TrV w8 w.heap.size (.mk 0 false ⟨#[]⟩ (ns ++ [s]) (ks ++ [.mk r.2.1 r.2.2.1 r.2.2.2 [] []])) (.slice (some ⟨g2, 0, none⟩) (ns ++ [s]).length cap) fp8 ∧ fp8.Nodup ∧ Below w.heap.size w w8 ∧ (ns ++ [s]).length ≤ (i + 1)) := by
                      have hlen : (ns ++ [s]).length = ns.length + 1 := by simp
                      refine ⟨by rw [hlen]; exact hV8, hn8, ?_, by rw [hlen]; exact HIN.out⟩
                      have hlo := HTX.out.2.2.1
                      refine ⟨hgr.os.trans (bN.os.trans hlo.os), hgr.tape.trans (bN.tape.trans hlo.tape), hgr.output.trans (bN.output.trans hlo.output), Nat.le_trans hlo.size (Nat.le_trans bN.size hgr.size), fun b hb => ?_⟩
                      have hb1 : b < w9.heap.size := Nat.lt_of_lt_of_le hb hlo.size
                      have := bN.size
                      refine (hgr.block b (by omega) (fun hh => ?_)).trans ((bN.block b hb1).trans (hlo.block b hb))
                      have h4 := HTX.out.1
                      have h5 := TrV.lt _ _ _ h4 b (by
                        rw [TrV] at h4
                        obtain ⟨_, fq, _, _, rfl⟩ := h4
                        simp [blkL, ← hh])
                      omega
                    clear hr hV8 hn8 hs8 hgr hcap bN
                    go_wp2_with (first | (refine wpList_app_is (by rfl) 30 30 (.tmp 113) (.tmp 117) (by rfl) _ _ _ _ (by rfl) (by rfl) hr' ?_))
                    go_roundw
                    case rel => exact ⟨(i + 1), f2, ns ++ [s], ks ++ [.mk r.2.1 r.2.2.1 r.2.2.2 [] []], some ⟨g2, 0, none⟩, cap, fp8, by omega, by first | rfl | go_num, by simp, HGN, HN, fun z hz => by
                        rcases List.mem_append.1 hz with hz | hz
                        · exact HNS.out z hz
                        · simp at hz; subst hz; exact HS.out.2.2⟩
                    case measure => simp [intOf]; omega
                · have HF : Hid (RES = (ns, ks, L.drop i)) := by
                    rw [Hid, ← HGI.out.2.2, HR.out.2]
                    exact gth_no HSP.out (fun h => hz2 (by rw [← HC2.out]; exact h.2.2.2)) _ _ _
                  have hne : (C2 == 0) = false := by simp [hz2]
                  go_wp2
                  try rw [Exit.noGoto_ret]
                  go_ret2
                  exact GaP.at HF.out HX.out.2.1 hi HT9.out
        · have HF : Hid (RES = (ns, ks, L.drop i)) := by
            rw [Hid, ← HGI.out.2.2, HR.out.2]
            exact gth_no HSP.out (fun h => hl5 (by have := h.1; rw [HQ5.out, HY.out.2] at this; exact this)) _ _ _
          have ge : ((q5 : Int) == ((m : Int) + 1)) = false := by simp; omega
          go_wp2
          try rw [Exit.noGoto_ret]
          go_ret2
          exact GaP.at HF.out HX.out.2.1 hi HT5.out
      · have HF : Hid (RES = (ns, ks, L.drop i)) := by
          rw [Hid, ← HGI.out.2.2, HR.out.2]
          exact gth_bad (by rw [← HP.out]; exact spN_none (by rw [HC.out]; exact hz)) _ _ _ _ _
        have hne : (C == 0) = false := by simp [hz]
        go_wp2
        try rw [Exit.noGoto_ret]
        go_ret2
        exact GaP.at HF.out HX.out.2.1 hi HT5.out
    · obtain rfl : i = n := by omega
      have HF : Hid (RES = (ns, ks, L.drop i)) := by
        rw [Hid, ← HGI.out.2.2]
        have : L.drop i = [] := List.drop_eq_nil_of_le (by rw [HX.out.2.1]; exact Nat.le_refl _)
        rw [this, gth_nil]
      go_wp2
      try rw [Exit.noGoto_ret]
      go_ret2
      exact GaP.at HF.out HX.out.2.1 hi HT.out
end Go.Proofs.YtnggbemnblcnaaaDoor
namespace Go.Proofs.YtnggbemnblcnaaaDoor
open Go.RowKit

/-- How many of the first rows fit. -/
def ftG : List RW → Int → Nat
  | [], _ => 0
  | r :: rs, b => if 1048576 < addB pathN b r then 0 else 1 + ftG rs (addB pathN b r)
theorem ftG_le : ∀ (L : List RW) (b : Int), ftG L b ≤ L.length
  | [], _ => Nat.le_refl _
  | r :: rs, b => by
    rw [ftG]
    split
    · exact Nat.zero_le _
    · have := ftG_le rs (addB pathN b r)
      simp only [List.length_cons]
      omega
theorem ftG_all : ∀ (L : List RW) (b : Int), L.foldl (addB pathN) b ≤ 1048576 → ftG L b = L.length
  | [], _, _ => rfl
  | r :: rs, b, h => by
    have h1 := sumB_le pathN rs (addB pathN b r)
    rw [List.foldl_cons] at h
    rw [ftG, if_neg (by omega), ftG_all rs _ h]
    simp only [List.length_cons]
    omega
theorem addB_split (b : Int) (r : RW) : addB pathN b r = b + ownB r.2.1 r.2.2.1 r.2.2.2 0 + (match (pathN r.1).getLast? with | none => 0 | some s => ebP s) := rfl

set_option maxHeartbeats 8000000 in
theorem fits_any (x : Option Addr) (n c : Nat) (L : List RW) (w : World) (hX : RIs w x L) (hl : L.length = n) (hn : n ≤ 1048576) (hsm : smR L) :
    Calls Tryd.prog 25 #[.slice x n c] w fun e w' => e = .returned (.int .i64 ((ftG L 24 : Nat) : Int)) ∧ Below w.heap.size w w' := by
  have HX : Hid (RIs w x L ∧ L.length = n ∧ smR L) := ⟨hX, hl, hsm⟩
  clear hX hl hsm
  obtain ⟨F, hF⟩ : ∃ F, ftG L 24 = F := ⟨_, rfl⟩
  have HF : Hid (ftG L 24 = F) := hF
  rw [hF]
  clear hF
  go_enter Tryd.func25, Tryd.ntmps25
  go_wp2_with fail
  refine (magic_any w).mono ?_
  rintro e1 w1 ⟨rfl, b1⟩
  have HB1 : Hid (Below w.heap.size w w1) := b1
  clear b1
  go_wp2
  go_loopw [3, 4] (fun xb xi wr => ∃ (i : Nat) (b : Int), i ≤ n ∧ xb = .int .i64 b ∧ xi = .int .i64 i ∧ 0 ≤ b ∧ b ≤ 1048576 ∧ Hid (i + ftG (L.drop i) b = F) ∧ Hid (Below w.heap.size w wr)) (fun _ i _ => n - (intOf i).toNat)
  case atStart => exact ⟨0, 24, Nat.zero_le _, rfl, rfl, by decide, by decide, by rw [Hid, List.drop_zero, Nat.zero_add]; exact HF.out, HB1⟩
  case round =>
    obtain ⟨i, b, hi, rfl, rfl, hb0, hb1, HI, HB⟩ := hrel
    by_cases hlt : i < n
    · obtain ⟨r, hr⟩ : ∃ r, L[i]? = some r := ⟨_, List.getElem?_eq_getElem (by rw [HX.out.2.1]; exact hlt)⟩
      have HR : Hid (L[i]? = some r ∧ L.drop i = r :: L.drop (i + 1)) := by
        obtain ⟨h1, h2⟩ := List.getElem?_eq_some_iff.1 hr
        exact ⟨hr, by rw [List.drop_eq_getElem_cons h1, h2]⟩
      have hps := HX.out.2.2 r (List.mem_of_getElem? hr)
      obtain ⟨g, o, rfl, hg, c0, c1, c2, c3⟩ := HX.out.1 i r hr
      have SA : ∀ W : World, Below w.heap.size w W → (fun W : World => W.cell? ⟨g, o + i * 4 + 1, none⟩ = some (.int .i64 r.2.1) ∧ W.cell? ⟨g, o + i * 4 + 2, none⟩ = some (.bool r.2.2.1) ∧ W.cell? ⟨g, o + i * 4 + 3, none⟩ = some (.string r.2.2.2)) W := fun W hW => ⟨(hW.cell (p := ⟨g, o + i * 4 + 1, none⟩) hg).trans c1, (hW.cell (p := ⟨g, o + i * 4 + 2, none⟩) hg).trans c2, (hW.cell (p := ⟨g, o + i * 4 + 3, none⟩) hg).trans c3⟩
      have HC0 : Hid (∀ W : World, Below w.heap.size w W → W.cell? ⟨g, o + i * 4, none⟩ = some (.string r.1)) := fun W hW => (hW.cell (p := ⟨g, o + i * 4, none⟩) hg).trans c0
      have hD : Below w.heap.size w wr.drew := HB.out.trans ⟨rfl, rfl, rfl, Nat.le_refl _, fun _ _ => rfl⟩
      have N0 := SA _ hD
      have CO := own_any r.2.1 r.2.2.1 r.2.2.2 none 0 0 wr.drew (by omega)
      unfold ndV at CO
      obtain ⟨ob, hob⟩ : ∃ ob, ownB r.2.1 r.2.2.1 r.2.2.2 0 = ob := ⟨_, rfl⟩
      have HOB : Hid (ownB r.2.1 r.2.2.1 r.2.2.2 0 = ob) := hob
      have hobd : 0 ≤ ob ∧ ob ≤ 1099511628000 := by
        rw [← hob]
        have h1 := nbP_bd r.2.1 r.2.2.1 r.2.2.2
        unfold ownB
        split <;> omega
      rw [hob] at CO
      generalize cfP r.2.1 r.2.2.1 r.2.2.2 0 = cf at CO
      have HSA : Hid (∀ W : World, Below w.heap.size w W → (fun W : World => W.cell? ⟨g, o + i * 4 + 1, none⟩ = some (.int .i64 r.2.1) ∧ W.cell? ⟨g, o + i * 4 + 2, none⟩ = some (.bool r.2.2.1) ∧ W.cell? ⟨g, o + i * 4 + 3, none⟩ = some (.string r.2.2.2)) W) := SA
      clear hr hg c0 c1 c2 c3 hob SA
      go_upto_region 5 with fail
      go_region_held3 (fun W : World => W.cell? ⟨g, o + i * 4 + 1, none⟩ = some (.int .i64 r.2.1) ∧ W.cell? ⟨g, o + i * 4 + 2, none⟩ = some (.bool r.2.2.1) ∧ W.cell? ⟨g, o + i * 4 + 3, none⟩ = some (.string r.2.2.2)) (first | exact N0 | exact N5) (first | (go_at_call 23; refine CO.mono ?_; rintro e5 w5 ⟨rfl, b5⟩; have N5 := HSA.out _ (hD.trans (b5.mono hD.size))))
      have hb5 : Below w.heap.size w w5 := hD.trans (b5.mono hD.size)
      have c0 := HC0.out w5 hb5
      have HB5 : Hid (Below w.heap.size w w5) := hb5
      clear hb5 b5 N0 N5 hD CO HB
      obtain ⟨p, hp⟩ : ∃ p, p = r.1 := ⟨_, rfl⟩
      rw [← hp] at c0 hps
      have HP : Hid (p = r.1) := hp
      clear hp
      have CC := rsplit_any p w5 (by omega)
      go_wp2_with fail
      refine CC.mono ?_
      rintro e6 w6 ⟨v6, rfl, hs6, b6⟩
      obtain ⟨x6, c6, rfl, _, T6⟩ := hs6.tns
      have HB6 : Hid (Below w.heap.size w w6) := HB5.out.trans (b6.mono HB5.out.size)
      have hsh := pathN_short p
      have HTN : Hid (Tns w6 x6 (pathN p)) := T6
      clear hs6 b6 CC c0 HB5 T6
      generalize (pathF p).1 = pf1
      generalize (pathF p).2 = pf2
      obtain ⟨q, hq⟩ : ∃ q, (pathN p).length = q := ⟨_, rfl⟩
      have HQ : Hid ((pathN p).length = q) := hq
      rw [hq] at hsh ⊢
      clear hq
      by_cases hq0 : q = 0
      · subst hq0
        have HA : Hid (addB pathN b r = b + ob) := by
          rw [Hid, addB_split, HOB.out, ← HP.out, List.length_eq_zero_iff.1 HQ.out]
          simp
        by_cases hbig : 1048576 < b + ob
        · obtain rfl : F = i := by
            have := HI.out
            rw [HR.out.2, ftG, HA.out, if_pos hbig] at this
            omega
          have gd : decide ((1048576 : Int) < b + ob) = true := decide_eq_true hbig
          go_wp2
          try rw [Exit.noGoto_ret]
          go_ret
          exact ⟨rfl, HB6.out⟩
        · have HI2 : Hid (i + 1 + ftG (L.drop (i + 1)) (b + ob) = F) := by
            have := HI.out
            rw [HR.out.2, ftG, HA.out, if_neg hbig] at this
            rw [Hid]
            omega
          have gd : decide ((1048576 : Int) < b + ob) = false := decide_eq_false hbig
          go_wp2
          go_roundw
          case rel => exact ⟨i + 1, b + ob, by omega, rfl, by go_num, by omega, by omega, HI2, HB6⟩
          case measure => simp [intOf]; omega
      · obtain ⟨s, hs⟩ : ∃ s, (pathN p)[q - 1]? = some s := ⟨_, List.getElem?_eq_getElem (by rw [HQ.out]; omega)⟩
        have HA0 : Hid ((pathN p).getLast? = some s) := by rw [Hid, List.getLast?_eq_getElem?, HQ.out]; exact hs
        obtain ⟨g6, o6, rfl, hg6, c6s⟩ := HTN.out (q - 1) s hs
        have hss : s.size ≤ 1048576 := by
          by_cases hz : (pathF p).1 = 0
          · have := (spN_right p (pathN p) (by unfold spN; rw [if_pos hz])).2.1 s (List.mem_of_getElem? hs)
            have := chk_short s this
            omega
          · exfalso
            have hN : pathN p = [] := by
              unfold pathN
              split
              · rfl
              · rfl
            rw [hN] at hs
            simp at hs
        obtain ⟨eb, heb⟩ : ∃ eb, ebP s = eb := ⟨_, rfl⟩
        have HEB : Hid (ebP s = eb) := heb
        have hebd : 0 ≤ eb ∧ eb ≤ 1099511628000 := by rw [← heb]; exact ebP_bd s
        have CE := rentry_any s w6 (by omega)
        rw [heb] at CE
        have HA : Hid (addB pathN b r = b + ob + eb) := by
          rw [Hid, addB_split, HOB.out, ← HP.out, HA0.out]
          show b + ob + ebP s = _
          rw [heb]
        have g0 : decide ((0 : Int) < (q : Int)) = true := decide_eq_true (by omega)
        have g2 : ((q : Int) - 1).toNat = q - 1 := by omega
        have g3 : (0 : Int) ≤ (q : Int) - 1 := by omega
        have g4 : (q : Int) - 1 < (q : Int) := by omega
        clear hs heb
        go_wp2_with fail
        refine CE.mono ?_
        rintro e7 w7 ⟨rfl, b7⟩
        have HB7 : Hid (Below w.heap.size w w7) := HB6.out.trans (b7.mono HB6.out.size)
        clear b7 CE c6s hg6
        by_cases hbig : 1048576 < b + ob + eb
        · obtain rfl : F = i := by
            have := HI.out
            rw [HR.out.2, ftG, HA.out, if_pos hbig] at this
            omega
          have gd : decide ((1048576 : Int) < b + ob + eb) = true := decide_eq_true hbig
          go_wp2
          try rw [Exit.noGoto_ret]
          go_ret
          exact ⟨rfl, HB7.out⟩
        · have HI2 : Hid (i + 1 + ftG (L.drop (i + 1)) (b + ob + eb) = F) := by
            have := HI.out
            rw [HR.out.2, ftG, HA.out, if_neg hbig] at this
            rw [Hid]
            omega
          have gd : decide ((1048576 : Int) < b + ob + eb) = false := decide_eq_false hbig
          go_wp2
          go_roundw
          case rel => exact ⟨i + 1, b + ob + eb, by omega, rfl, by go_num, by omega, by omega, HI2, HB7⟩
          case measure => simp [intOf]; omega
    · obtain rfl : i = n := by omega
      obtain rfl : F = i := by
        have := HI.out
        rw [List.drop_eq_nil_of_le (by rw [HX.out.2.1]; exact Nat.le_refl _), ftG] at this
        omega
      go_wp2
      go_ret
      exact ⟨rfl, HB.out⟩
end Go.Proofs.YtnggbemnblcnaaaDoor
namespace Go.Proofs.YtnggbemnblcnaaaDoor
open Go.RowKit

/-- What Build answers: the tree, the fault, its place. -/
noncomputable def bldT : List RW → Tr × Int × Int
  | [] => (zT, 50, 0)
  | r :: rs => if r.1.size ≠ 0 ∨ cfP r.2.1 r.2.2.1 r.2.2.2 0 ≠ 0 then (zT, 64, 0) else
    (fun q : List ByteArray × List Tr × List RW => if ftG ((r :: rs).take ((r :: rs).length - q.2.2.length)) 24 < (r :: rs).length then (zT, 64, ((ftG ((r :: rs).take ((r :: rs).length - q.2.2.length)) 24 : Nat) : Int)) else (.mk r.2.1 r.2.2.1 r.2.2.2 q.1 q.2.1, 0, 0))
      (if r.2.1 = 3 then gth spN (r :: rs).length [] [] [] rs else ([], [], rs))
def BuP (R : Tr × Int × Int) (w : World) (e : Ending) (w' : World) : Prop := (∃ x fp, e = .returned (.tuple #[.agg #[.int .i64 R.1.k, .bool R.1.e, .string R.1.t, x], .int .i64 R.2.1, .int .i64 R.2.2]) ∧ TrV w' w.heap.size R.1 x fp ∧ fp.Nodup) ∧ Below w.heap.size w w'
theorem BuP.bad {R : Tr × Int × Int} {w w' : World} {c a : Int} (h : R = (zT, c, a)) (b : Below w.heap.size w w') : BuP R w (.returned (.tuple #[.agg #[Value.int IntKind.i64 0, Value.bool false, Value.string ⟨#[]⟩, Value.slice none 0 0], .int .i64 c, .int .i64 a])) w' := by
  rw [h]
  exact ⟨⟨_, [], rfl, TrV.zero _ _ _ _ _ rfl rfl, List.nodup_nil⟩, b⟩
theorem BuP.ok {R : Tr × Int × Int} {w w' : World} {c a : Int} {T : Tr} {x : Value} {fp : List Nat} (h : R = (T, c, a)) (hV : TrV w' w.heap.size T x fp) (hn : fp.Nodup) (b : Below w.heap.size w w') : BuP R w (.returned (.tuple #[.agg #[.int .i64 T.k, .bool T.e, .string T.t, x], .int .i64 c, .int .i64 a])) w' := by
  rw [h]
  exact ⟨⟨x, fp, rfl, hV, hn⟩, b⟩

set_option maxHeartbeats 8000000 in
set_option maxRecDepth 10000 in
theorem rbuild_any (x : Option Addr) (n c : Nat) (L : List RW) (w : World) (hX : RIs w x L) (hl : L.length = n) (hn : n ≤ 1048576) (hc : n ≤ c) (hsm : smR L) :
    Calls Tryd.prog 8 #[.slice x n c] w (BuP (bldT L) w) := by
  have HX : Hid (RIs w x L ∧ L.length = n ∧ smR L) := ⟨hX, hl, hsm⟩
  clear hX hl hsm
  obtain ⟨R, hR⟩ : ∃ R, bldT L = R := ⟨_, rfl⟩
  have HR : Hid (bldT L = R) := hR
  rw [hR]
  clear hR
  have P1 : Hid ((w.alloc (Obj.cells #[Value.int IntKind.i64 0, Value.bool false, Value.string ⟨#[]⟩, Value.slice none 0 0] 32)).heap[w.heap.size]? = some (.cells #[Value.int IntKind.i64 0, Value.bool false, Value.string ⟨#[]⟩, Value.slice none 0 0] 32 (0, 0)) ∧ w.heap.size < (w.alloc (Obj.cells #[Value.int IntKind.i64 0, Value.bool false, Value.string ⟨#[]⟩, Value.slice none 0 0] 32)).heap.size ∧ Below w.heap.size w (w.alloc (Obj.cells #[Value.int IntKind.i64 0, Value.bool false, Value.string ⟨#[]⟩, Value.slice none 0 0] 32))) := ⟨heap_alloc_new _ _, by rw [World.size_alloc]; omega, (Below.refl _ _).alloc (Nat.le_refl _) _⟩
  by_cases hn0 : n = 0
  · subst hn0
    have HRB : Hid (R = (zT, 50, 0)) := by
      rw [Hid, ← HR.out, List.length_eq_zero_iff.1 HX.out.2.1]
      unfold bldT
      rfl
    go_enter Tryd.func8, Tryd.ntmps8
    go_upto_region 1 with fail
    obtain ⟨G, hG⟩ : ∃ G, w.heap.size = G := ⟨_, rfl⟩
    have HG : Hid (w.heap.size = G) := hG
    generalize (w.alloc (Obj.cells #[Value.int IntKind.i64 0, Value.bool false, Value.string ⟨#[]⟩, Value.slice none 0 0] 32)) = w1 at *
    rw [hG] at P1 ⊢
    clear hG
    obtain ⟨r0, r1, r2, r3, uf⟩ := cell4 P1.out.1
    have v0 := uf 0
    have v1 := uf 1
    have v2 := uf 2
    have v3 := uf 3
    clear uf
    go_wp2
    have hq := put4 P1.out.1 (Value.int .i64 0) (.bool false) (.string ⟨#[]⟩) (.slice none 0 0)
    have hB : Below w.heap.size w (w1.setCells G 0 [Value.int .i64 0, .bool false, .string ⟨#[]⟩, .slice none 0 0]) := belowE_setCells _ _ _ (by rw [HG.out]; exact Nat.le_refl _) (by rw [HG.out]; exact P1.out.2.2)
    change bodyPost _ _ _ _ _ (w1.setCells G 0 [Value.int .i64 0, .bool false, .string ⟨#[]⟩, .slice none 0 0])
    generalize w1.setCells G 0 [Value.int .i64 0, .bool false, .string ⟨#[]⟩, .slice none 0 0] = WE at *
    obtain ⟨z0, z1, z2, z3, _⟩ := cell4 hq
    exact bodyPost_ret (v := .tuple #[.agg #[Value.int IntKind.i64 0, Value.bool false, Value.string ⟨#[]⟩, Value.slice none 0 0], .int .i64 50, .int .i64 0]) (by simp [results, Tryd.results8, go_sem, z0, z1, z2, z3]) rfl (BuP.bad HRB.out hB)
  · obtain ⟨r, rs, hLr⟩ : ∃ r rs, L = r :: rs := by
      cases hh : L with
      | nil => rw [hh] at HX; exact absurd HX.out.2.1.symm hn0
      | cons r rs => exact ⟨r, rs, rfl⟩
    have HL : Hid (L = r :: rs) := hLr
    obtain ⟨g, o, rfl, hg, c0, c1, c2, c3⟩ := HX.out.1 0 r (by rw [hLr]; rfl)
    have hps := HX.out.2.2 r (by rw [hLr]; simp)
    rw [Nat.zero_mul, Nat.add_zero] at c0 c1 c2 c3
    have HSA : Hid (∀ W : World, Below w.heap.size w W → (fun W : World => W.cell? ⟨g, o + 1, none⟩ = some (.int .i64 r.2.1) ∧ W.cell? ⟨g, o + 2, none⟩ = some (.bool r.2.2.1) ∧ W.cell? ⟨g, o + 3, none⟩ = some (.string r.2.2.2)) W) := fun W hW => ⟨(hW.cell (p := ⟨g, o + 1, none⟩) hg).trans c1, (hW.cell (p := ⟨g, o + 2, none⟩) hg).trans c2, (hW.cell (p := ⟨g, o + 3, none⟩) hg).trans c3⟩
    have HC0 : Hid (∀ W : World, Below w.heap.size w W → W.cell? ⟨g, o, none⟩ = some (.string r.1)) := fun W hW => (hW.cell (p := ⟨g, o, none⟩) hg).trans c0
    have hn1 : 1 ≤ n := by omega
    have gn : ((n : Int) == 0) = false := by simp; omega
    have hnI : (0 : Int) < (n : Int) := by omega
    have hnN : 0 < n := by omega
    have hnd : decide ((0 : Int) < (n : Int)) = true := decide_eq_true hnI
    clear hLr hg c0 c1 c2 c3 hn0
    go_enter Tryd.func8, Tryd.ntmps8
    go_upto_region 1 with fail
    obtain ⟨G, hG⟩ : ∃ G, w.heap.size = G := ⟨_, rfl⟩
    have HG : Hid (w.heap.size = G) := hG
    generalize (w.alloc (Obj.cells #[Value.int IntKind.i64 0, Value.bool false, Value.string ⟨#[]⟩, Value.slice none 0 0] 32)) = w1 at *
    rw [hG] at P1 ⊢
    clear hG
    go_upto_region 3 with fail
    have bA8 : Below w1.heap.size w1 (w1.alloc (Obj.cells #[Value.int IntKind.i64 r.2.1, Value.bool r.2.2.1, Value.string r.2.2.2, Value.slice none 0 0] 32)).drew := ((Below.refl _ _).alloc (Nat.le_refl _) _).trans ⟨rfl, rfl, rfl, Nat.le_refl _, fun _ _ => rfl⟩
    have N0 := HSA.out w1.drew (by rw [HG.out]; exact P1.out.2.2.trans ⟨rfl, rfl, rfl, Nat.le_refl _, fun _ _ => rfl⟩)
    have N1 := HSA.out (w1.drew.alloc (Obj.cells #[Value.int IntKind.i64 0, Value.bool false, Value.string ⟨#[]⟩, Value.slice none 0 0] 32)) (by rw [HG.out]; exact (show Below G w w1.drew from P1.out.2.2.trans ⟨rfl, rfl, rfl, Nat.le_refl _, fun _ _ => rfl⟩).alloc (Nat.le_of_lt P1.out.2.1) _)
    have N2 := HSA.out (w1.alloc (Obj.cells #[Value.int IntKind.i64 r.2.1, Value.bool r.2.2.1, Value.string r.2.2.2, Value.slice none 0 0] 32)).drew (by rw [HG.out]; exact P1.out.2.2.trans (bA8.mono (Nat.le_of_lt P1.out.2.1)))
    go_region_held3 (fun W : World => W.cell? ⟨g, o + 1, none⟩ = some (.int .i64 r.2.1) ∧ W.cell? ⟨g, o + 2, none⟩ = some (.bool r.2.2.1) ∧ W.cell? ⟨g, o + 3, none⟩ = some (.string r.2.2.2)) (first | exact N0 | exact N1 | exact N2) (fail)
    have P2 : Hid ((w1.alloc (Obj.cells #[Value.int IntKind.i64 r.2.1, Value.bool r.2.2.1, Value.string r.2.2.2, Value.slice none 0 0] 32)).drew.heap[G]? = some (.cells #[Value.int IntKind.i64 0, Value.bool false, Value.string ⟨#[]⟩, Value.slice none 0 0] 32 (0, 0)) ∧ G < (w1.alloc (Obj.cells #[Value.int IntKind.i64 r.2.1, Value.bool r.2.2.1, Value.string r.2.2.2, Value.slice none 0 0] 32)).drew.heap.size ∧ Below G w (w1.alloc (Obj.cells #[Value.int IntKind.i64 r.2.1, Value.bool r.2.2.1, Value.string r.2.2.2, Value.slice none 0 0] 32)).drew) := ⟨(bA8.block _ P1.out.2.1).trans P1.out.1, Nat.lt_of_lt_of_le P1.out.2.1 bA8.size, P1.out.2.2.trans (bA8.mono (Nat.le_of_lt P1.out.2.1))⟩
    have HE2 : Hid ((w1.alloc (Obj.cells #[Value.int IntKind.i64 r.2.1, Value.bool r.2.2.1, Value.string r.2.2.2, Value.slice none 0 0] 32)).drew.heap[w1.heap.size]? = some (.cells #[Value.int IntKind.i64 r.2.1, Value.bool r.2.2.1, Value.string r.2.2.2, Value.slice none 0 0] 32 (0, 0)) ∧ G < w1.heap.size) := ⟨heap_alloc_new w1 _, P1.out.2.1⟩
    clear bA8 N0 N1 N2 P1
    go_upto_region 4 with fail
    obtain ⟨E, hE⟩ : ∃ E, w1.heap.size = E := ⟨_, rfl⟩
    generalize (w1.alloc (Obj.cells #[Value.int IntKind.i64 r.2.1, Value.bool r.2.2.1, Value.string r.2.2.2, Value.slice none 0 0] 32)).drew = w2 at *
    rw [hE] at HE2 ⊢
    clear hE
    obtain ⟨a0, a1, a2, a3, _⟩ := cell4 HE2.out.1
    have CO := own_any r.2.1 r.2.2.1 r.2.2.2 none 0 0 w2 (by omega)
    unfold ndV at CO
    obtain ⟨C2, hC2⟩ : ∃ C2, cfP r.2.1 r.2.2.1 r.2.2.2 0 = C2 := ⟨_, rfl⟩
    have HC2 : Hid (cfP r.2.1 r.2.2.1 r.2.2.2 0 = C2) := hC2
    rw [hC2] at CO
    generalize ownB r.2.1 r.2.2.1 r.2.2.2 0 = ob at CO
    clear hC2
    go_wp2_with fail
    refine CO.mono ?_
    rintro e3 w3 ⟨rfl, b3⟩
    have P3 : Hid (w3.heap[G]? = some (.cells #[Value.int IntKind.i64 0, Value.bool false, Value.string ⟨#[]⟩, Value.slice none 0 0] 32 (0, 0)) ∧ G < w3.heap.size ∧ Below G w w3) := ⟨(b3.block _ P2.out.2.1).trans P2.out.1, Nat.lt_of_lt_of_le P2.out.2.1 b3.size, P2.out.2.2.trans (b3.mono (Nat.le_of_lt P2.out.2.1))⟩
    have HE3 : Hid (w3.heap[E]? = some (.cells #[Value.int IntKind.i64 r.2.1, Value.bool r.2.2.1, Value.string r.2.2.2, Value.slice none 0 0] 32 (0, 0)) ∧ G < E) := ⟨(b3.block _ (heap_lt HE2.out.1)).trans HE2.out.1, HE2.out.2⟩
    clear b3 CO P2 HE2 a0 a1 a2 a3
    have c0 := HC0.out w3 (by rw [HG.out]; exact P3.out.2.2)
    obtain ⟨p, hp⟩ : ∃ p, p = r.1 := ⟨_, rfl⟩
    rw [← hp] at c0
    have HP : Hid (p = r.1) := hp
    clear hp
    by_cases hok : r.1.size ≠ 0 ∨ C2 ≠ 0
    · have HRB : Hid (R = (zT, 64, 0)) := by
        rw [Hid, ← HR.out]
        unfold bldT
        rw [HL.out]
        dsimp only
        rw [if_pos (by rw [HC2.out]; exact hok)]
      cases hpe : p.toList.isEmpty with
      | true =>
        have hpe2 : p = ⟨#[]⟩ := by
          apply ByteArray.ext
          have : p.data.toList = [] := by rw [← Lib.toList_data]; exact List.isEmpty_iff.1 hpe
          exact Array.toList_inj.1 this
        have hz2 : C2 ≠ 0 := by
          rcases hok with h | h
          · rw [← HP.out, hpe2] at h; exact absurd rfl h
          · exact h
        have hne : (C2 == 0) = false := by simp [hz2]
        subst hpe2
        clear hok hpe
        obtain ⟨r0, r1, r2, r3, uf⟩ := cell4 P3.out.1
        have v0 := uf 0
        have v1 := uf 1
        have v2 := uf 2
        have v3 := uf 3
        clear uf
        go_wp2
        have hq := put4 P3.out.1 (Value.int .i64 0) (.bool false) (.string ⟨#[]⟩) (.slice none 0 0)
        have hB : Below w.heap.size w (w3.setCells G 0 [Value.int .i64 0, .bool false, .string ⟨#[]⟩, .slice none 0 0]) := belowE_setCells _ _ _ (by rw [HG.out]; exact Nat.le_refl _) (by rw [HG.out]; exact P3.out.2.2)
        change bodyPost _ _ _ _ _ (w3.setCells G 0 [Value.int .i64 0, .bool false, .string ⟨#[]⟩, .slice none 0 0])
        generalize w3.setCells G 0 [Value.int .i64 0, .bool false, .string ⟨#[]⟩, .slice none 0 0] = WE at *
        obtain ⟨z0, z1, z2, z3, _⟩ := cell4 hq
        exact bodyPost_ret (v := .tuple #[.agg #[Value.int IntKind.i64 0, Value.bool false, Value.string ⟨#[]⟩, Value.slice none 0 0], .int .i64 64, .int .i64 0]) (by simp [results, Tryd.results8, go_sem, z0, z1, z2, z3]) rfl (BuP.bad HRB.out hB)
      | false =>
        have hq1 : (p.toList == []) = false := by cases hl : p.toList with
          | nil => rw [hl] at hpe; cases hpe
          | cons _ _ => rfl
        clear hok
        obtain ⟨r0, r1, r2, r3, uf⟩ := cell4 P3.out.1
        have v0 := uf 0
        have v1 := uf 1
        have v2 := uf 2
        have v3 := uf 3
        clear uf
        go_wp2
        have hq := put4 P3.out.1 (Value.int .i64 0) (.bool false) (.string ⟨#[]⟩) (.slice none 0 0)
        have hB : Below w.heap.size w (w3.setCells G 0 [Value.int .i64 0, .bool false, .string ⟨#[]⟩, .slice none 0 0]) := belowE_setCells _ _ _ (by rw [HG.out]; exact Nat.le_refl _) (by rw [HG.out]; exact P3.out.2.2)
        change bodyPost _ _ _ _ _ (w3.setCells G 0 [Value.int .i64 0, .bool false, .string ⟨#[]⟩, .slice none 0 0])
        generalize w3.setCells G 0 [Value.int .i64 0, .bool false, .string ⟨#[]⟩, .slice none 0 0] = WE at *
        obtain ⟨z0, z1, z2, z3, _⟩ := cell4 hq
        exact bodyPost_ret (v := .tuple #[.agg #[Value.int IntKind.i64 0, Value.bool false, Value.string ⟨#[]⟩, Value.slice none 0 0], .int .i64 64, .int .i64 0]) (by simp [results, Tryd.results8, go_sem, z0, z1, z2, z3]) rfl (BuP.bad HRB.out hB)
    · have HOK : Hid (¬ (r.1.size ≠ 0 ∨ cfP r.2.1 r.2.2.1 r.2.2.2 0 ≠ 0)) := by rw [Hid, HC2.out]; exact hok
      have hz2 : C2 = 0 := by
        by_cases h : C2 = 0
        · exact h
        · exact absurd (Or.inr h) hok
      have hpe : p = ⟨#[]⟩ := by
        have : r.1.size = 0 := by
          by_cases h : r.1.size = 0
          · exact h
          · exact absurd (Or.inl h) hok
        rw [HP.out]
        apply ByteArray.ext
        exact Array.eq_empty_of_size_eq_zero this
      subst hz2
      rw [hpe] at c0
      clear hok
      obtain ⟨kk, hkk⟩ : ∃ kk, kk = r.2.1 := ⟨_, rfl⟩
      have HKK : Hid (kk = r.2.1) := hkk
      have k1 : w3.cell? ⟨g, o + 1, none⟩ = some (.int .i64 kk) := by rw [hkk]; exact (HSA.out w3 (by rw [HG.out]; exact P3.out.2.2)).1
      clear hkk
      obtain ⟨a0, a1, a2, a3, af⟩ := cell4 HE3.out.1
      have af3 := af 3
      clear af
      by_cases h3 : kk = 3
      · rw [h3] at k1
        have CG := rgather_any n (some ⟨g, o, none⟩) none n c 1 0 0 L [] w3 (HX.out.1.below P3.out.2.2 (by rw [HG.out]; exact Nat.le_refl _)) HX.out.2.1 hn HX.out.2.2 (fun i s hs => by simp at hs) rfl (by omega) hn1 (by omega)
        have HD1 : L.drop 1 = rs := by rw [HL.out]; rfl
        rw [HD1] at CG
        have HSF := gth_suf spN n [] [] [] rs
        obtain ⟨q, hq⟩ : ∃ q, gth spN n [] [] [] rs = q := ⟨_, rfl⟩
        rw [hq] at CG HSF
        have hrl : rs.length + 1 = n := by rw [← HX.out.2.1, HL.out]; rfl
        have HQ : Hid ((if r.2.1 = 3 then gth spN (r :: rs).length [] [] [] rs else (([], [], rs) : List ByteArray × List Tr × List RW)) = q) := by
          rw [Hid, if_pos (by rw [← HKK.out]; exact h3), ← hq, ← hrl]
          rfl
        have hsl := HSF.1.length_le
        obtain ⟨gd, hgd⟩ : ∃ gd, n - q.2.2.length = gd := ⟨_, rfl⟩
        have HGD : Hid (gd = (r :: rs).length - q.2.2.length) := by rw [Hid, ← hgd, ← hrl]; rfl
        have hgn : gd ≤ n := by omega
        unfold GaP at CG
        rw [hgd] at CG
        clear hq HSF hsl hgd HD1 h3 hrl
        go_wp2_with fail
        refine CG.mono ?_
        rintro e10 w10 ⟨⟨v10, fp10, rfl, hV10, hn10⟩, b10⟩
        obtain ⟨x10, c10, rfl⟩ : ∃ xx cc, v10 = .slice xx q.1.length cc := hV10.shape
        have hE10 : w10.heap[E]? = some (.cells #[Value.int IntKind.i64 r.2.1, Value.bool r.2.2.1, Value.string r.2.2.2, Value.slice none 0 0] 32 (0, 0)) := (b10.block _ (heap_lt HE3.out.1)).trans HE3.out.1
        obtain ⟨a0, a1, a2, a3, af⟩ := cell4 hE10
        have af3 := af 3
        have hEl : E < w3.heap.size := heap_lt HE3.out.1
        have hEne2 : ∀ b ∈ fp10, b ≠ E := fun b hb => by have := (TrV.lt _ _ _ hV10 b hb).1; omega
        have P5 : Hid ((w10.setCell ⟨E, 3, none⟩ (.slice x10 q.1.length c10)).heap[G]? = some (.cells #[Value.int IntKind.i64 0, Value.bool false, Value.string ⟨#[]⟩, Value.slice none 0 0] 32 (0, 0)) ∧ G < (w10.setCell ⟨E, 3, none⟩ (.slice x10 q.1.length c10)).heap.size ∧ Below G w (w10.setCell ⟨E, 3, none⟩ (.slice x10 q.1.length c10))) := ⟨(Below.heap_setCell _ _ _ G (by show G ≠ E; have := HE3.out.2; omega)).trans ((b10.block _ P3.out.2.1).trans P3.out.1), by rw [World.size_setCell]; exact Nat.lt_of_lt_of_le P3.out.2.1 b10.size, (P3.out.2.2.trans (b10.mono (Nat.le_of_lt P3.out.2.1))).setCell (by show G ≤ E; have := HE3.out.2; omega) _⟩
        have HKX : Hid (TrV (w10.setCell ⟨E, 3, none⟩ (.slice x10 q.1.length c10)) (G + 1) (.mk r.2.1 r.2.2.1 r.2.2.2 q.1 q.2.1) (.slice x10 q.1.length c10) fp10 ∧ fp10.Nodup) := by
          refine ⟨?_, hn10⟩
          have hh := TrV.low (show G + 1 ≤ w3.heap.size by have := P3.out.2.1; omega) _ _ _ (TrV.same (w' := w10.setCell ⟨E, 3, none⟩ (.slice x10 q.1.length c10)) _ _ _ hV10 (fun b hb => Below.heap_setCell _ _ _ b (hEne2 b hb)))
          rw [TrV] at hh ⊢
          exact hh
        have hEX : (w10.setCell ⟨E, 3, none⟩ (.slice x10 q.1.length c10)).heap[E]? = some (.cells #[Value.int IntKind.i64 r.2.1, Value.bool r.2.2.1, Value.string r.2.2.2, .slice x10 q.1.length c10] 32 (0, 0)) := Go.Joins.block_setCell (i := 3) hE10 _
        clear hV10 hn10 b10 hEne2 hEl CG P3 HE3 c0 k1
        go_upto_region 10 with fail
        clear a0 a1 a2 a3 af af3 hE10
        generalize w10.setCell ⟨E, 3, none⟩ (.slice x10 q.1.length c10) = wx at *
        generalize q.1.length = nk at *
        have CF := fits_any (some ⟨g, o, none⟩) gd c (L.take gd) wx ((HX.out.1.below P5.out.2.2 (by rw [HG.out]; exact Nat.le_refl _)).take gd) (by rw [List.length_take, HX.out.2.1]; omega) (by omega) (fun r hr => HX.out.2.2 r (List.mem_of_mem_take hr))
        obtain ⟨F, hF⟩ : ∃ F, ftG (L.take gd) 24 = F := ⟨_, rfl⟩
        have HF : Hid (ftG (L.take gd) 24 = F) := hF
        have hFl := ftG_le (L.take gd) 24
        rw [hF] at CF hFl
        rw [List.length_take, HX.out.2.1] at hFl
        clear hF
        go_wp2_with fail
        refine CF.mono ?_
        rintro e9 w9 ⟨rfl, b9⟩
        have P9 : Hid (w9.heap[G]? = some (.cells #[Value.int IntKind.i64 0, Value.bool false, Value.string ⟨#[]⟩, Value.slice none 0 0] 32 (0, 0)) ∧ G < w9.heap.size ∧ Below G w w9) := ⟨(b9.block _ P5.out.2.1).trans P5.out.1, Nat.lt_of_lt_of_le P5.out.2.1 b9.size, P5.out.2.2.trans (b9.mono (Nat.le_of_lt P5.out.2.1))⟩
        have hE9 : w9.heap[E]? = some (.cells #[Value.int IntKind.i64 r.2.1, Value.bool r.2.2.1, Value.string r.2.2.2, .slice x10 nk c10] 32 (0, 0)) := (b9.block _ (heap_lt hEX)).trans hEX
        have HV9 : Hid (TrV w9 (G + 1) (.mk r.2.1 r.2.2.1 r.2.2.2 q.1 q.2.1) (.slice x10 nk c10) fp10 ∧ (fp10 : List Nat).Nodup) := ⟨TrV.same _ _ _ HKX.out.1 (fun b hb => b9.block b (TrV.lt _ _ _ HKX.out.1 b hb).2), HKX.out.2⟩
        clear b9 CF P5 hEX HKX
        by_cases hFn : F < n
        · have HRB : Hid (R = (zT, 64, (F : Int))) := by
            rw [Hid, ← HR.out]
            unfold bldT
            rw [HL.out]
            dsimp only
            rw [if_neg HOK.out, HQ.out, ← HGD.out, ← HL.out, HF.out, HX.out.2.1, if_pos hFn]
          have gF : decide ((F : Int) < (n : Int)) = true := decide_eq_true (by omega)
          clear hE9 HV9
          obtain ⟨r0, r1, r2, r3, uf⟩ := cell4 P9.out.1
          have v0 := uf 0
          have v1 := uf 1
          have v2 := uf 2
          have v3 := uf 3
          clear uf
          go_wp2
          have hq := put4 P9.out.1 (Value.int .i64 0) (.bool false) (.string ⟨#[]⟩) (.slice none 0 0)
          have hB : Below w.heap.size w (w9.setCells G 0 [Value.int .i64 0, .bool false, .string ⟨#[]⟩, .slice none 0 0]) := belowE_setCells _ _ _ (by rw [HG.out]; exact Nat.le_refl _) (by rw [HG.out]; exact P9.out.2.2)
          change bodyPost _ _ _ _ _ (w9.setCells G 0 [Value.int .i64 0, .bool false, .string ⟨#[]⟩, .slice none 0 0])
          generalize w9.setCells G 0 [Value.int .i64 0, .bool false, .string ⟨#[]⟩, .slice none 0 0] = WE at *
          obtain ⟨z0, z1, z2, z3, _⟩ := cell4 hq
          exact bodyPost_ret (v := .tuple #[.agg #[Value.int IntKind.i64 0, Value.bool false, Value.string ⟨#[]⟩, Value.slice none 0 0], .int .i64 64, .int .i64 (F : Int)]) (by simp [results, Tryd.results8, go_sem, z0, z1, z2, z3]) rfl (BuP.bad HRB.out hB)
        · have HRF : Hid (R = (.mk r.2.1 r.2.2.1 r.2.2.2 q.1 q.2.1, 0, 0)) := by
            rw [Hid, ← HR.out]
            unfold bldT
            rw [HL.out]
            dsimp only
            rw [if_neg HOK.out, HQ.out, ← HGD.out, ← HL.out, HF.out, HX.out.2.1, if_neg hFn]
          have gF : decide ((F : Int) < (n : Int)) = false := decide_eq_false (by omega)
          have gF' : ¬ (F : Int) < (n : Int) := by omega
          obtain ⟨a0, a1, a2, a3, _⟩ := cell4 hE9
          obtain ⟨r0, r1, r2, r3, uf⟩ := cell4 P9.out.1
          have v0 := uf 0
          have v1 := uf 1
          have v2 := uf 2
          have v3 := uf 3
          clear uf
          go_wp2
          have hq := put4 P9.out.1 (Value.int .i64 r.2.1) (.bool r.2.2.1) (.string r.2.2.2) (.slice x10 nk c10)
          have hB : Below w.heap.size w (w9.setCells G 0 [Value.int .i64 r.2.1, .bool r.2.2.1, .string r.2.2.2, .slice x10 nk c10]) := belowE_setCells _ _ _ (by rw [HG.out]; exact Nat.le_refl _) (by rw [HG.out]; exact P9.out.2.2)
          have hVE := TrV.low (show w.heap.size ≤ G + 1 by rw [HG.out]; omega) _ _ _ (TrV.same (w' := w9.setCells G 0 [Value.int .i64 r.2.1, .bool r.2.2.1, .string r.2.2.2, .slice x10 nk c10]) _ _ _ HV9.out.1 (fun b hb => heapE_setCells G _ _ b (fun hh => by have := (TrV.lt _ _ _ HV9.out.1 b hb).1; omega) w9))
          change bodyPost _ _ _ _ _ (w9.setCells G 0 [Value.int .i64 r.2.1, .bool r.2.2.1, .string r.2.2.2, .slice x10 nk c10])
          generalize w9.setCells G 0 [Value.int .i64 r.2.1, .bool r.2.2.1, .string r.2.2.2, .slice x10 nk c10] = WE at *
          obtain ⟨z0, z1, z2, z3, _⟩ := cell4 hq
          exact bodyPost_ret (v := .tuple #[.agg #[.int .i64 r.2.1, .bool r.2.2.1, .string r.2.2.2, .slice x10 nk c10], .int .i64 0, .int .i64 0]) (by simp [results, Tryd.results8, go_sem, z0, z1, z2, z3]) rfl (BuP.ok HRF.out hVE HV9.out.2 hB)
      · have hk3 : (kk == 3) = false := by simp [h3]
        obtain ⟨gd, hgd⟩ : ∃ gd, gd = 1 := ⟨_, rfl⟩
        have hgn : gd ≤ n := by omega
        have HQ : Hid ((if r.2.1 = 3 then gth spN (r :: rs).length [] [] [] rs else (([], [], rs) : List ByteArray × List Tr × List RW)) = ([], [], rs)) := by
          rw [Hid, if_neg (by rw [← HKK.out]; exact h3)]
        have HGD : Hid (gd = (r :: rs).length - (([], [], rs) : List ByteArray × List Tr × List RW).2.2.length) := by rw [Hid, hgd]; show 1 = rs.length + 1 - rs.length; omega
        have hEX := HE3.out.1
        have HKX : Hid (TrV w3 (G + 1) (.mk r.2.1 r.2.2.1 r.2.2.2 [] []) (.slice none 0 0) [] ∧ ([] : List Nat).Nodup) := ⟨TrV.zero _ _ _ _ _ rfl rfl, List.nodup_nil⟩
        go_upto_region 10 with fail
        clear a0 a1 a2 a3 af3 c0 k1
        rw [← show ((gd : Nat) : Int) = 1 by rw [hgd]; rfl]
        clear hgd
        have CF := fits_any (some ⟨g, o, none⟩) gd c (L.take gd) w3 ((HX.out.1.below P3.out.2.2 (by rw [HG.out]; exact Nat.le_refl _)).take gd) (by rw [List.length_take, HX.out.2.1]; omega) (by omega) (fun r hr => HX.out.2.2 r (List.mem_of_mem_take hr))
        obtain ⟨F, hF⟩ : ∃ F, ftG (L.take gd) 24 = F := ⟨_, rfl⟩
        have HF : Hid (ftG (L.take gd) 24 = F) := hF
        have hFl := ftG_le (L.take gd) 24
        rw [hF] at CF hFl
        rw [List.length_take, HX.out.2.1] at hFl
        clear hF
        go_wp2_with fail
        refine CF.mono ?_
        rintro e9 w9 ⟨rfl, b9⟩
        have P9 : Hid (w9.heap[G]? = some (.cells #[Value.int IntKind.i64 0, Value.bool false, Value.string ⟨#[]⟩, Value.slice none 0 0] 32 (0, 0)) ∧ G < w9.heap.size ∧ Below G w w9) := ⟨(b9.block _ P3.out.2.1).trans P3.out.1, Nat.lt_of_lt_of_le P3.out.2.1 b9.size, P3.out.2.2.trans (b9.mono (Nat.le_of_lt P3.out.2.1))⟩
        have hE9 : w9.heap[E]? = some (.cells #[Value.int IntKind.i64 r.2.1, Value.bool r.2.2.1, Value.string r.2.2.2, .slice none 0 0] 32 (0, 0)) := (b9.block _ (heap_lt hEX)).trans hEX
        have HV9 : Hid (TrV w9 (G + 1) (.mk r.2.1 r.2.2.1 r.2.2.2 (([], [], rs) : List ByteArray × List Tr × List RW).1 (([], [], rs) : List ByteArray × List Tr × List RW).2.1) (.slice none 0 0) [] ∧ ([] : List Nat).Nodup) := ⟨TrV.same _ _ _ HKX.out.1 (fun b hb => b9.block b (TrV.lt _ _ _ HKX.out.1 b hb).2), HKX.out.2⟩
        clear b9 CF P3 hEX HKX
        by_cases hFn : F < n
        · have HRB : Hid (R = (zT, 64, (F : Int))) := by
            rw [Hid, ← HR.out]
            unfold bldT
            rw [HL.out]
            dsimp only
            rw [if_neg HOK.out, HQ.out, ← HGD.out, ← HL.out, HF.out, HX.out.2.1, if_pos hFn]
          have gF : decide ((F : Int) < (n : Int)) = true := decide_eq_true (by omega)
          clear hE9 HV9
          obtain ⟨r0, r1, r2, r3, uf⟩ := cell4 P9.out.1
          have v0 := uf 0
          have v1 := uf 1
          have v2 := uf 2
          have v3 := uf 3
          clear uf
          go_wp2
          have hq := put4 P9.out.1 (Value.int .i64 0) (.bool false) (.string ⟨#[]⟩) (.slice none 0 0)
          have hB : Below w.heap.size w (w9.setCells G 0 [Value.int .i64 0, .bool false, .string ⟨#[]⟩, .slice none 0 0]) := belowE_setCells _ _ _ (by rw [HG.out]; exact Nat.le_refl _) (by rw [HG.out]; exact P9.out.2.2)
          change bodyPost _ _ _ _ _ (w9.setCells G 0 [Value.int .i64 0, .bool false, .string ⟨#[]⟩, .slice none 0 0])
          generalize w9.setCells G 0 [Value.int .i64 0, .bool false, .string ⟨#[]⟩, .slice none 0 0] = WE at *
          obtain ⟨z0, z1, z2, z3, _⟩ := cell4 hq
          exact bodyPost_ret (v := .tuple #[.agg #[Value.int IntKind.i64 0, Value.bool false, Value.string ⟨#[]⟩, Value.slice none 0 0], .int .i64 64, .int .i64 (F : Int)]) (by simp [results, Tryd.results8, go_sem, z0, z1, z2, z3]) rfl (BuP.bad HRB.out hB)
        · have HRF : Hid (R = (.mk r.2.1 r.2.2.1 r.2.2.2 (([], [], rs) : List ByteArray × List Tr × List RW).1 (([], [], rs) : List ByteArray × List Tr × List RW).2.1, 0, 0)) := by
            rw [Hid, ← HR.out]
            unfold bldT
            rw [HL.out]
            dsimp only
            rw [if_neg HOK.out, HQ.out, ← HGD.out, ← HL.out, HF.out, HX.out.2.1, if_neg hFn]
          have gF : decide ((F : Int) < (n : Int)) = false := decide_eq_false (by omega)
          have gF' : ¬ (F : Int) < (n : Int) := by omega
          obtain ⟨a0, a1, a2, a3, _⟩ := cell4 hE9
          obtain ⟨r0, r1, r2, r3, uf⟩ := cell4 P9.out.1
          have v0 := uf 0
          have v1 := uf 1
          have v2 := uf 2
          have v3 := uf 3
          clear uf
          go_wp2
          have hq := put4 P9.out.1 (Value.int .i64 r.2.1) (.bool r.2.2.1) (.string r.2.2.2) (.slice none 0 0)
          have hB : Below w.heap.size w (w9.setCells G 0 [Value.int .i64 r.2.1, .bool r.2.2.1, .string r.2.2.2, .slice none 0 0]) := belowE_setCells _ _ _ (by rw [HG.out]; exact Nat.le_refl _) (by rw [HG.out]; exact P9.out.2.2)
          have hVE := TrV.low (show w.heap.size ≤ G + 1 by rw [HG.out]; omega) _ _ _ (TrV.same (w' := w9.setCells G 0 [Value.int .i64 r.2.1, .bool r.2.2.1, .string r.2.2.2, .slice none 0 0]) _ _ _ HV9.out.1 (fun b hb => heapE_setCells G _ _ b (fun hh => by have := (TrV.lt _ _ _ HV9.out.1 b hb).1; omega) w9))
          change bodyPost _ _ _ _ _ (w9.setCells G 0 [Value.int .i64 r.2.1, .bool r.2.2.1, .string r.2.2.2, .slice none 0 0])
          generalize w9.setCells G 0 [Value.int .i64 r.2.1, .bool r.2.2.1, .string r.2.2.2, .slice none 0 0] = WE at *
          obtain ⟨z0, z1, z2, z3, _⟩ := cell4 hq
          exact bodyPost_ret (v := .tuple #[.agg #[.int .i64 r.2.1, .bool r.2.2.1, .string r.2.2.2, .slice none 0 0], .int .i64 0, .int .i64 0]) (by simp [results, Tryd.results8, go_sem, z0, z1, z2, z3]) rfl (BuP.ok HRF.out hVE HV9.out.2 hB)
end Go.Proofs.YtnggbemnblcnaaaDoor
