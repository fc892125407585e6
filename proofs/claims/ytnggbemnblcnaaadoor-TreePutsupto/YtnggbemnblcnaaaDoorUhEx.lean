/- The document's graft, walked (own text of the verifier). -/
import Derived.Test.YtnggbemnblcnaaaDoorXB
import Derived.Deep.RegionHeld3
import Derived.Deep.CutRange
namespace Go.Proofs.YtnggbemnblcnaaaDoor
open Go.RowKit

set_option maxHeartbeats 8000000 in
set_option maxRecDepth 10000 in
theorem graft_any : ∀ (M : List ByteArray) (f : Nat) (k : Int) (e : Bool) (t : ByteArray) (x : Option Addr) (n c : Nat) (T : Tr) (fu : Nat) (ku : Int) (eu : Bool) (tu : ByteArray) (xu : Option Addr) (nu cu : Nat) (U : Tr) (y : Option Addr) (m d : Nat) (w : World), At w f (.agg #[Value.int IntKind.i64 k, Value.bool e, Value.string t, Value.slice x n c]) T → At w fu (.agg #[Value.int IntKind.i64 ku, Value.bool eu, Value.string tu, Value.slice xu nu cu]) U → lnT T → lnT U → smT T → ascT T → Tns w y M → (∀ z ∈ M, z.size ≤ 1048576) → M.length = m → m ≤ d → m ≤ 64 →
    Calls Tryd.prog 39 #[.agg #[Value.int IntKind.i64 k, Value.bool e, Value.string t, Value.slice x n c], .slice y m d, .agg #[Value.int IntKind.i64 ku, Value.bool eu, Value.string tu, Value.slice xu nu cu]] w (CvP (grf M T U) w) := by
  intro M
  induction M with
  | nil =>
    intro f k e t x n c T fu ku eu tu xu nu cu U y m d w HT HU LT LU ST AT HM HS hm hd hm2
    have hm0 : m = 0 := by rw [← hm]; rfl
    subst hm0
    rw [grf]
    have HHU : Hid (At w fu (.agg #[Value.int IntKind.i64 ku, Value.bool eu, Value.string tu, Value.slice xu nu cu]) U ∧ lnT U) := ⟨HU, LU⟩
    clear HT HU LT LU ST AT HM HS hm hd
    go_enter Tryd.func39, Tryd.ntmps39
    go_wp2_with fail
    have hs1 : (w.alloc (Obj.cells #[Value.int IntKind.i64 k, Value.bool e, Value.string t, Value.slice x n c] 32)).heap.size = w.heap.size + 1 := World.size_alloc _ _
    have hs2 : ((w.alloc (Obj.cells #[Value.int IntKind.i64 k, Value.bool e, Value.string t, Value.slice x n c] 32)).alloc (Obj.cells #[Value.int IntKind.i64 ku, Value.bool eu, Value.string tu, Value.slice xu nu cu] 32)).heap.size = w.heap.size + 1 + 1 := by rw [World.size_alloc, hs1]
    have b3 : Below w.heap.size w (((w.alloc (Obj.cells #[Value.int IntKind.i64 k, Value.bool e, Value.string t, Value.slice x n c] 32)).alloc (Obj.cells #[Value.int IntKind.i64 ku, Value.bool eu, Value.string tu, Value.slice xu nu cu] 32)).alloc (Obj.cells #[Value.int IntKind.i64 0, Value.bool false, Value.string ⟨#[]⟩, Value.slice none 0 0] 32)) := (((Below.refl _ _).alloc (Nat.le_refl _) _).alloc (by rw [hs1]; omega) _).alloc (by rw [hs2]; omega) _
    have HN3 : Hid ((((w.alloc (Obj.cells #[Value.int IntKind.i64 k, Value.bool e, Value.string t, Value.slice x n c] 32)).alloc (Obj.cells #[Value.int IntKind.i64 ku, Value.bool eu, Value.string tu, Value.slice xu nu cu] 32)).alloc (Obj.cells #[Value.int IntKind.i64 0, Value.bool false, Value.string ⟨#[]⟩, Value.slice none 0 0] 32)).heap[w.heap.size + 1 + 1]? = some (.cells #[Value.int IntKind.i64 0, Value.bool false, Value.string ⟨#[]⟩, Value.slice none 0 0] 32 (0, 0)) ∧ w.heap.size + 1 + 1 < (((w.alloc (Obj.cells #[Value.int IntKind.i64 k, Value.bool e, Value.string t, Value.slice x n c] 32)).alloc (Obj.cells #[Value.int IntKind.i64 ku, Value.bool eu, Value.string tu, Value.slice xu nu cu] 32)).alloc (Obj.cells #[Value.int IntKind.i64 0, Value.bool false, Value.string ⟨#[]⟩, Value.slice none 0 0] 32)).heap.size ∧ Below w.heap.size w (((w.alloc (Obj.cells #[Value.int IntKind.i64 k, Value.bool e, Value.string t, Value.slice x n c] 32)).alloc (Obj.cells #[Value.int IntKind.i64 ku, Value.bool eu, Value.string tu, Value.slice xu nu cu] 32)).alloc (Obj.cells #[Value.int IntKind.i64 0, Value.bool false, Value.string ⟨#[]⟩, Value.slice none 0 0] 32))) := by
      refine ⟨?_, ?_, b3⟩
      · rw [← hs2]; exact heap_alloc_new _ _
      · rw [World.size_alloc, hs2]; omega
    clear b3 hs1 hs2
    obtain ⟨G, hG⟩ : ∃ G, w.heap.size = G := ⟨_, rfl⟩
    have HG : Hid (w.heap.size = G) := hG
    rw [hG] at HN3 ⊢
    clear hG
    generalize (((w.alloc (Obj.cells #[Value.int IntKind.i64 k, Value.bool e, Value.string t, Value.slice x n c] 32)).alloc (Obj.cells #[Value.int IntKind.i64 ku, Value.bool eu, Value.string tu, Value.slice xu nu cu] 32)).alloc (Obj.cells #[Value.int IntKind.i64 0, Value.bool false, Value.string ⟨#[]⟩, Value.slice none 0 0] 32)) = w3 at *
    refine (clone_any fu _ U w3 (HHU.out.1.below (by rw [HG.out]; exact HN3.out.2.2)) HHU.out.2).mono ?_
    rintro e5 w5 ⟨⟨v5, fp5, rfl, hv, hnd⟩, b5⟩
    obtain ⟨x5, q5, rfl⟩ := hv.shape
    have hz5 : w5.heap[G + 1 + 1]? = some (.cells #[Value.int IntKind.i64 0, Value.bool false, Value.string ⟨#[]⟩, Value.slice none 0 0] 32 (0, 0)) := (b5.block _ HN3.out.2.1).trans HN3.out.1
    have B5 : Hid (Below w.heap.size w w5) := by rw [Hid, HG.out]; exact HN3.out.2.2.trans (b5.mono (by have := HN3.out.2.1; omega))
    have HV : Hid (TrV w5 w3.heap.size U (.slice x5 U.nms.length q5) fp5 ∧ fp5.Nodup ∧ G + 1 + 1 < w3.heap.size) := ⟨hv, hnd, HN3.out.2.1⟩
    obtain ⟨u0, u1, u2, u3, uf⟩ := cell4 hz5
    have v0 := uf 0
    have v1 := uf 1
    have v2 := uf 2
    have v3 := uf 3
    clear uf hv hnd b5 HN3
    go_wp2
    have hq := put4 hz5 (Value.int .i64 U.k) (.bool U.e) (.string U.t) (.slice x5 U.nms.length q5)
    have hB : Below w.heap.size w (w5.setCells (G + 1 + 1) 0 [Value.int .i64 U.k, .bool U.e, .string U.t, .slice x5 U.nms.length q5]) := belowE_setCells _ _ _ (by rw [HG.out]; omega) B5.out
    have hVE := TrV.low (show w.heap.size ≤ w3.heap.size by rw [HG.out]; have := HV.out.2.2; omega) _ _ _ (TrV.same (w' := w5.setCells (G + 1 + 1) 0 [Value.int .i64 U.k, .bool U.e, .string U.t, .slice x5 U.nms.length q5]) _ _ _ HV.out.1 (fun b hb => heapE_setCells (G + 1 + 1) _ _ b (fun hh => by have := (TrV.lt _ _ _ HV.out.1 b hb).1; have := HV.out.2.2; omega) w5))
    change bodyPost _ _ _ _ _ (w5.setCells (G + 1 + 1) 0 [Value.int .i64 U.k, .bool U.e, .string U.t, .slice x5 U.nms.length q5])
    generalize w5.setCells (G + 1 + 1) 0 [Value.int .i64 U.k, .bool U.e, .string U.t, .slice x5 U.nms.length q5] = W at *
    obtain ⟨z0, z1, z2, z3, _⟩ := cell4 hq
    exact bodyPost_ret (v := .agg #[.int .i64 U.k, .bool U.e, .string U.t, .slice x5 U.nms.length q5]) (by simp [results, Tryd.results39, go_sem, z0, z1, z2, z3]) rfl ⟨⟨_, fp5, rfl, hVE, HV.out.2.1⟩, hB⟩
  | cons s l IH =>
    intro f k e t x n c T fu ku eu tu xu nu cu U y m d w HT HU LT LU ST AT HM HS hm hd hm2
    cases f with
    | zero => exact HT.elim
    | succ f =>
    obtain ⟨k', e', t', ns, ks⟩ := T
    obtain ⟨x', n', c', ev, l1, l2, l3, l4, hx⟩ := HT
    injection ev with ev; simp at ev
    obtain ⟨rfl, rfl, rfl, rfl, rfl, rfl⟩ := ev
    have EX : Hid (Ents w f x n ns ks) := At.ents hx
    have hUp : Up ns := by rw [ascT] at AT; exact AT.1
    have LL : Hid (ns.length = n ∧ ks.length = n ∧ n ≤ 1073741824 ∧ lnL ks ∧ smL ns ks ∧ ascL ks ∧ Up ns) := by
      rw [lnT] at LT; rw [smT] at ST; rw [ascT] at AT
      exact ⟨l1, l2, by omega, LT.2, ST.2, AT.2, AT.1⟩
    have HHU : Hid (At w fu (.agg #[Value.int IntKind.i64 ku, Value.bool eu, Value.string tu, Value.slice xu nu cu]) U ∧ lnT U) := ⟨HU, LU⟩
    obtain ⟨gy, oy, rfl, hgy, cy⟩ := HM 0 s rfl
    obtain ⟨ml, hml⟩ : ∃ ml, l.length = ml := ⟨_, rfl⟩
    obtain rfl : m = ml + 1 := by rw [← hm, ← hml]; rfl
    have HMM : Hid (Tns w (some ⟨gy, oy, none⟩) (s :: l) ∧ (∀ z ∈ s :: l, z.size ≤ 1048576) ∧ l.length = ml ∧ gy < w.heap.size ∧ w.cell? ⟨gy, oy, none⟩ = some (.string s)) := ⟨HM, HS, hml, hgy, cy⟩
    have hs2 := HS s (by simp)
    have hn2 : n ≤ 1073741824 := LL.out.2.2.1
    obtain ⟨Kn, hKn⟩ : ∃ Kn, Kn = grf l ((sub s ns ks).getD zT) U := ⟨_, rfl⟩
    have HKn : Hid (Kn = grf l ((sub s ns ks).getD zT) U) := hKn
    have hE := grf_at (s := s) (l := l) (k := k) (e := e) (t := t) (U := U) hUp (show ns.length = ks.length by omega)
    rw [← hKn] at hE
    rw [hE]
    clear hE hKn
    obtain ⟨p, hp⟩ : ∃ p, p = pos ns s := ⟨_, rfl⟩
    obtain ⟨q, hq⟩ : ∃ q, q = posQ ns s := ⟨_, rfl⟩
    rw [← hp, ← hq]
    have HPQ : Hid (p = pos ns s ∧ q = posQ ns s) := ⟨hp, hq⟩
    have hpn : p ≤ n := by rw [hp, ← l1]; exact pos_le ns s
    have HQ : Hid (p ≤ q ∧ q ≤ p + 1) := by
      rw [Hid, hq, hp]
      unfold posQ
      split <;> omega
    have HLp : Hid (∀ i z, i < p → ns[i]? = some z → cmpB z s < 0) := fun i z hi hz => pos_lo hz (by rw [hp] at hi; exact hi)
    have HAt : Hid (∀ z, ns[p]? = some z → 0 ≤ cmpB z s) := fun z hz => pos_at (by rw [hp] at hz; exact hz)
    have HBy : Hid (∀ i z, p < i → ns[i]? = some z → z ≠ s) := fun i z hi hz => pos_beyond hUp (by rw [hp] at hi; exact hi) hz
    clear hx l1 l2 l3 l4 LT LU ST AT HM HS HU hp hq hUp hm hml hgy cy
    go_enter Tryd.func39, Tryd.ntmps39
    go_wp2
    rw [show (((ml : Nat) : Int) + 1 == 0) = false from by simp; omega]
    have hs1 : (w.alloc (Obj.cells #[Value.int IntKind.i64 k, Value.bool e, Value.string t, Value.slice x n c] 32)).heap.size = w.heap.size + 1 := World.size_alloc _ _
    have hs2' : ((w.alloc (Obj.cells #[Value.int IntKind.i64 k, Value.bool e, Value.string t, Value.slice x n c] 32)).alloc (Obj.cells #[Value.int IntKind.i64 ku, Value.bool eu, Value.string tu, Value.slice xu nu cu] 32)).heap.size = w.heap.size + 1 + 1 := by rw [World.size_alloc, hs1]
    have hs3 : (((w.alloc (Obj.cells #[Value.int IntKind.i64 k, Value.bool e, Value.string t, Value.slice x n c] 32)).alloc (Obj.cells #[Value.int IntKind.i64 ku, Value.bool eu, Value.string tu, Value.slice xu nu cu] 32)).alloc (Obj.cells #[Value.int IntKind.i64 0, Value.bool false, Value.string ⟨#[]⟩, Value.slice none 0 0] 32)).heap.size = w.heap.size + 1 + 1 + 1 := by rw [World.size_alloc, hs2']
    have I0 : Hid (GrI w w.heap.size #[Value.int IntKind.i64 k, Value.bool e, Value.string t, Value.slice x n c] #[Value.int IntKind.i64 ku, Value.bool eu, Value.string tu, Value.slice xu nu cu] (gOut ns s p q 0) (gOut ks Kn p q 0) none 0 [] ((((w.alloc (Obj.cells #[Value.int IntKind.i64 k, Value.bool e, Value.string t, Value.slice x n c] 32)).alloc (Obj.cells #[Value.int IntKind.i64 ku, Value.bool eu, Value.string tu, Value.slice xu nu cu] 32)).alloc (Obj.cells #[Value.int IntKind.i64 0, Value.bool false, Value.string ⟨#[]⟩, Value.slice none 0 0] 32)).alloc (Obj.cells #[Value.int IntKind.i64 3, Value.bool false, Value.string ⟨#[]⟩, Value.slice none 0 0] 32))) := by
      rw [gOut_zero, gOut_zero]
      refine ⟨?_, ?_, ?_, ?_, TrV.zero _ _ _ _ _ rfl rfl, List.nodup_nil, by rw [World.size_alloc, hs3]; omega, ((((Below.refl _ _).alloc (Nat.le_refl _) _).alloc (by rw [hs1]; omega) _).alloc (by rw [hs2']; omega) _).alloc (by rw [hs3]; omega) _⟩
      · rw [Below.heap_alloc _ _ _ (by rw [hs3]; omega), Below.heap_alloc _ _ _ (by rw [hs2']; omega), Below.heap_alloc _ _ _ (by rw [hs1]; omega)]; exact heap_alloc_new w _
      · rw [Below.heap_alloc _ _ _ (by rw [hs3]; omega), Below.heap_alloc _ _ _ (by rw [hs2']; omega), ← hs1]; exact heap_alloc_new _ _
      · rw [Below.heap_alloc _ _ _ (by rw [hs3]; omega), ← hs2']; exact heap_alloc_new _ _
      · rw [← hs3]; exact heap_alloc_new _ _
    clear hs1 hs2' hs3
    obtain ⟨G, hG⟩ : ∃ G, w.heap.size = G := ⟨_, rfl⟩
    have HG : Hid (w.heap.size = G) := hG
    generalize ((((w.alloc (Obj.cells #[Value.int IntKind.i64 k, Value.bool e, Value.string t, Value.slice x n c] 32)).alloc (Obj.cells #[Value.int IntKind.i64 ku, Value.bool eu, Value.string tu, Value.slice xu nu cu] 32)).alloc (Obj.cells #[Value.int IntKind.i64 0, Value.bool false, Value.string ⟨#[]⟩, Value.slice none 0 0] 32)).alloc (Obj.cells #[Value.int IntKind.i64 3, Value.bool false, Value.string ⟨#[]⟩, Value.slice none 0 0] 32)) = w4 at *
    rw [hG] at I0 ⊢
    clear hG
    go_loopw [8, 9] (fun xd xi wr => ∃ (i : Nat) (y : Option Addr) (cp : Nat) (fp : List Nat) (Ls : List ByteArray) (Ks : List Tr), i ≤ n + 1 ∧ xd = .bool (decide (p < i)) ∧ xi = .int .i64 i ∧ Hid (Ls = gOut ns s p q i ∧ Ks = gOut ks Kn p q i) ∧ Hid (GrI w G #[Value.int IntKind.i64 k, Value.bool e, Value.string t, Value.slice x n c] #[Value.int IntKind.i64 ku, Value.bool eu, Value.string tu, Value.slice xu nu cu] Ls Ks y cp fp wr)) (fun _ i _ => n + 1 - (intOf i).toNat)
    case atStart => exact ⟨0, none, 0, [], _, _, Nat.zero_le _, by simp, rfl, ⟨rfl, rfl⟩, I0⟩
    case round =>
      obtain ⟨i, y', cp, fp, Ls, Ks, hi, rfl, rfl, hL, hI⟩ := hrel
      obtain ⟨u0, u1, u2, u3, _⟩ := cell4 hI.out.1
      have hB : Hid (Below w.heap.size w wr) := by rw [Hid, HG.out]; exact hI.out.2.2.2.2.2.2.2
      by_cases hin : i ≤ n
      · obtain ⟨BB, hBB⟩ : ∃ BB, BB = decide (i = p) := ⟨_, rfl⟩
        have HBB : Hid (BB = decide (i = p)) := hBB
        clear hBB
        have cy : wr.cell? ⟨gy, oy, none⟩ = some (.string s) := (hB.out.cell (p := ⟨gy, oy, none⟩) HMM.out.2.2.2.1).trans HMM.out.2.2.2.2
        have hiI : (i : Int) ≤ (n : Int) := by omega
        obtain ⟨D, hD⟩ : ∃ D, D = decide (p < i) := ⟨_, rfl⟩
        have HD : Hid (D = decide (p < i)) := hD
        rw [← hD]
        clear hD
        go_upto_region 8 with fail
        go_cut [45] from 24 to 45 (fun v45 wx => v45 = .bool BB ∧ ∃ nq, wx = wr.drewN nq)
        case first =>
          by_cases hpi : p < i
          · obtain rfl : D = true := by rw [HD.out]; exact decide_eq_true hpi
            have HB2 : Hid (BB = false) := by rw [Hid, HBB.out]; exact decide_eq_false (by omega)
            go_quiet (fail)
            (try go_wp2_with fail)
            go_meet
            exact ⟨by rw [HB2.out], nq, rfl⟩
          · obtain rfl : D = false := by rw [HD.out]; exact decide_eq_false hpi
            by_cases hie : i = n
            · have HB2 : Hid (BB = true) := by rw [Hid, HBB.out]; exact decide_eq_true (by omega)
              have g1 : ((i : Int) == (n : Int)) = true := by simp; omega
              go_quiet (fail)
              (try go_wp2_with fail)
              go_meet
              exact ⟨by rw [HB2.out], nq, rfl⟩
            · have g1 : ((i : Int) == (n : Int)) = false := by simp; omega
              have hlt : i < n := by omega
              obtain ⟨z, hz⟩ : ∃ z, ns[i]? = some z := ⟨_, List.getElem?_eq_getElem (by rw [LL.out.1]; omega)⟩
              obtain ⟨K, hK⟩ : ∃ z, ks[i]? = some z := ⟨_, List.getElem?_eq_getElem (by rw [LL.out.2.1]; omega)⟩
              have hzs := (smL_at ns ks i z K LL.out.2.2.2.2.1 hz hK).1
              obtain ⟨g, o, a, b, d', f', p', q', rfl, hg, c0, _⟩ := EX.out.below hB.out i z K hlt hz hK
              have CM : ∀ W, Calls Tryd.prog 52 #[.string z, .string s] W fun e w' => e = .returned (.int .i64 (cmpB z s)) ∧ ∃ n, w' = W.drewN n := fun W => rcompare_quiet z s W (by omega)
              have HS1 : Hid (0 ≤ cmpB z s ↔ i = p) := by
                constructor
                · intro h0
                  have : ¬ i < p := fun hl => by have := HLp.out i z hl hz; omega
                  omega
                · intro h0
                  exact HAt.out z (by rw [← h0]; exact hz)
              clear hz hK hzs
              generalize cmpB z s = CMP at *
              by_cases hC : 0 ≤ CMP
              · have g2 : decide (0 ≤ CMP) = true := by simpa using hC
                have HB2 : Hid (BB = true) := by rw [Hid, HBB.out]; exact decide_eq_true (HS1.out.1 hC)
                go_quiet ((go_at_call 52; exact Calls.quiet_of (CM _)))
                (try go_wp2_with fail)
                go_meet
                exact ⟨by rw [HB2.out], nq, rfl⟩
              · have g2 : decide (0 ≤ CMP) = false := by simpa using hC
                have HB2 : Hid (BB = false) := by rw [Hid, HBB.out]; exact decide_eq_false (fun h => hC (HS1.out.2 h))
                go_quiet ((go_at_call 52; exact Calls.quiet_of (CM _)))
                (try go_wp2_with fail)
                go_meet
                exact ⟨by rw [HB2.out], nq, rfl⟩
        case rest =>
          obtain ⟨rfl, nq, rfl⟩ := hcut
          have hI1 : Hid (GrI w G #[Value.int IntKind.i64 k, Value.bool e, Value.string t, Value.slice x n c] #[Value.int IntKind.i64 ku, Value.bool eu, Value.string tu, Value.slice xu nu cu] Ls Ks y' cp fp (wr.drewN nq)) := hI.out.on (bel_drewN (Below.refl _ _) nq)
          have hB1 : Hid (Below w.heap.size w (wr.drewN nq)) := bel_drewN hB.out nq
          clear hI hB u0 u1 u2 u3 cy
          generalize wr.drewN nq = wa at *
          cases BB with
          | true =>
            have HIP : Hid (i = p) := by show i = p; exact of_decide_eq_true HBB.out.symm
            obtain ⟨u0, u1, u2, u3, _⟩ := cell4 hI1.out.1
            go_upto_region 11 with fail
            have bE : Below wa.heap.size wa (wa.alloc (Obj.cells #[Value.int IntKind.i64 0, Value.bool false, Value.string ⟨#[]⟩, Value.slice none 0 0] 32)) := (Below.refl _ _).alloc (Nat.le_refl _) _
            have hI2 : Hid (GrI w G #[Value.int IntKind.i64 k, Value.bool e, Value.string t, Value.slice x n c] #[Value.int IntKind.i64 ku, Value.bool eu, Value.string tu, Value.slice xu nu cu] Ls Ks y' cp fp (wa.alloc (Obj.cells #[Value.int IntKind.i64 0, Value.bool false, Value.string ⟨#[]⟩, Value.slice none 0 0] 32))) := hI1.out.on bE
            have hB2 : Hid (Below w.heap.size w (wa.alloc (Obj.cells #[Value.int IntKind.i64 0, Value.bool false, Value.string ⟨#[]⟩, Value.slice none 0 0] 32))) := hB1.out.trans (bE.mono hB1.out.size)
            have HE2 : Hid ((wa.alloc (Obj.cells #[Value.int IntKind.i64 0, Value.bool false, Value.string ⟨#[]⟩, Value.slice none 0 0] 32)).heap[wa.heap.size]? = some (.cells #[Value.int IntKind.i64 0, Value.bool false, Value.string ⟨#[]⟩, Value.slice none 0 0] 32 (0, 0)) ∧ (∀ b ∈ fp, b < wa.heap.size) ∧ G + 1 + 1 + 1 < wa.heap.size ∧ w.heap.size ≤ wa.heap.size) := ⟨heap_alloc_new _ _, fun b hb => (TrV.lt _ _ _ hI1.out.2.2.2.2.1 b hb).2, hI1.out.2.2.2.2.2.2.1, hB1.out.size⟩
            clear bE hI1 hB1 u0 u1 u2 u3
            obtain ⟨E, hE⟩ : ∃ E, wa.heap.size = E := ⟨_, rfl⟩
            generalize wa.alloc (Obj.cells #[Value.int IntKind.i64 0, Value.bool false, Value.string ⟨#[]⟩, Value.slice none 0 0] 32) = wb at *
            rw [hE] at HE2 ⊢
            clear hE
            obtain ⟨FF, hFF⟩ : ∃ FF, FF = decide (ns[i]? = some s) := ⟨_, rfl⟩
            have HFF : Hid (FF = decide (ns[i]? = some s)) := hFF
            clear hFF
            obtain ⟨u0, u1, u2, u3, _⟩ := cell4 hI2.out.1
            have cy : wb.cell? ⟨gy, oy, none⟩ = some (.string s) := (hB2.out.cell (p := ⟨gy, oy, none⟩) HMM.out.2.2.2.1).trans HMM.out.2.2.2.2
            go_cut [62] from 46 to 62 (fun v62 wx => v62 = .bool FF ∧ ∃ nq, wx = wb.drewN nq)
            case first =>
              by_cases hie : i = n
              · have HB2 : Hid (FF = false) := by
                  rw [Hid, HFF.out]
                  refine decide_eq_false (fun h => ?_)
                  have := (List.getElem?_eq_some_iff.1 h).1
                  rw [LL.out.1] at this
                  omega
                have g1 : decide ((i : Int) < (n : Int)) = false := decide_eq_false (by omega)
                have g1' : ¬ (i : Int) < (n : Int) := by omega
                clear hie
                go_quiet (fail)
                (try go_wp2_with fail)
                go_meet
                exact ⟨by rw [HB2.out], nq, rfl⟩
              · have hlt : i < n := by omega
                have g1 : decide ((i : Int) < (n : Int)) = true := decide_eq_true (by omega)
                obtain ⟨z, hz⟩ : ∃ z, ns[i]? = some z := ⟨_, List.getElem?_eq_getElem (by rw [LL.out.1]; omega)⟩
                obtain ⟨K, hK⟩ : ∃ z, ks[i]? = some z := ⟨_, List.getElem?_eq_getElem (by rw [LL.out.2.1]; omega)⟩
                obtain ⟨g, o, a, b, d', f', p', q', rfl, hg, c0, _⟩ := EX.out.below hB2.out i z K hlt hz hK
                by_cases hzs : z = s
                · have HB2 : Hid (FF = true) := by rw [Hid, HFF.out]; exact decide_eq_true (by rw [hz, hzs])
                  rw [hzs] at c0
                  have g3 : (s.toList == s.toList) = true := by simp
                  clear hzs hz hK
                  go_quiet (fail)
                  (try go_wp2_with fail)
                  go_meet
                  exact ⟨by rw [HB2.out], nq, rfl⟩
                · have HB2 : Hid (FF = false) := by rw [Hid, HFF.out]; exact decide_eq_false (fun h => hzs (by rw [hz] at h; injection h))
                  have g3 : (z.toList == s.toList) = false := by rw [beq_eq_false_iff_ne]; intro e; exact hzs (btl_inj e)
                  have g5 : ¬ z.toList = s.toList := fun e => hzs (btl_inj e)
                  clear hzs hz hK
                  go_quiet (fail)
                  (try go_wp2_with fail)
                  go_meet
                  exact ⟨by rw [HB2.out], nq, rfl⟩
            case rest =>
              obtain ⟨rfl, nq, rfl⟩ := hcut
              have hI3 : Hid (GrI w G #[Value.int IntKind.i64 k, Value.bool e, Value.string t, Value.slice x n c] #[Value.int IntKind.i64 ku, Value.bool eu, Value.string tu, Value.slice xu nu cu] Ls Ks y' cp fp (wb.drewN nq)) := hI2.out.on (bel_drewN (Below.refl _ _) nq)
              have hB3 : Hid (Below w.heap.size w (wb.drewN nq)) := bel_drewN hB2.out nq
              have HE3 : Hid ((wb.drewN nq).heap[E]? = some (.cells #[Value.int IntKind.i64 0, Value.bool false, Value.string ⟨#[]⟩, Value.slice none 0 0] 32 (0, 0)) ∧ (∀ b ∈ fp, b < E) ∧ G + 1 + 1 + 1 < E ∧ w.heap.size ≤ E) := HE2.out
              clear hI2 hB2 HE2 u0 u1 u2 u3 cy
              generalize wb.drewN nq = wc at *
              obtain ⟨pa, hpa⟩ : ∃ pa, (if d = 1 then some (⟨gy, oy, none⟩ : Addr) else some ⟨gy, oy + 1, none⟩) = pa := ⟨_, rfl⟩
              have HT1 : Hid (Tns w pa l) := HMM.out.1.tail (by rw [HMM.out.2.2.1]; exact hd) hpa
              have h1i : (1 : Int) ≤ (ml : Int) + 1 := by omega
              cases FF with
              | true =>
                have hz : ns[i]? = some s := of_decide_eq_true HFF.out.symm
                have hlt : i < n := by rw [← LL.out.1]; exact (List.getElem?_eq_some_iff.1 hz).1
                obtain ⟨K, hK⟩ : ∃ z, ks[i]? = some z := ⟨_, List.getElem?_eq_getElem (by rw [LL.out.2.1]; omega)⟩
                have HSUB : Hid ((sub s ns ks).getD zT = K ∧ q = i + 1) := by
                  have hz' := hz
                  rw [HIP.out, HPQ.out.1] at hz'
                  refine ⟨?_, by rw [HPQ.out.2, posQ_yes hz', ← HPQ.out.1, HIP.out]⟩
                  rw [sub_pos LL.out.2.2.2.2.2.2, if_pos hz', ← HPQ.out.1, ← HIP.out, hK]
                  rfl
                obtain ⟨g, o, a, b, d', f', p', q', rfl, hg, c0w, c1w, c2w, c3w, c4w, hA⟩ := EX.out i s K hlt hz hK
                have c1 : wc.cell? ⟨g, o + i * 5 + 1, none⟩ = some (.int .i64 a) := (hB3.out.cell (p := ⟨g, o + i * 5 + 1, none⟩) hg).trans c1w
                have c2 : wc.cell? ⟨g, o + i * 5 + 2, none⟩ = some (.bool b) := (hB3.out.cell (p := ⟨g, o + i * 5 + 2, none⟩) hg).trans c2w
                have c3 : wc.cell? ⟨g, o + i * 5 + 3, none⟩ = some (.string d') := (hB3.out.cell (p := ⟨g, o + i * 5 + 3, none⟩) hg).trans c3w
                have c4 : wc.cell? ⟨g, o + i * 5 + 4, none⟩ = some (.slice f' p' q') := (hB3.out.cell (p := ⟨g, o + i * 5 + 4, none⟩) hg).trans c4w
                have hgE : g ≠ E := by have := HE3.out.2.2.2; omega
                have hgE' : E ≠ g := Ne.symm hgE
                have HZ : Hid (ns[i]? = some s ∧ ks[i]? = some K ∧ lnT K ∧ smT K ∧ ascT K) := ⟨hz, hK, lnL_at _ _ _ LL.out.2.2.2.1 hK, (smL_at ns ks i s K LL.out.2.2.2.2.1 hz hK).2, ascL_at _ _ _ LL.out.2.2.2.2.2.1 hK⟩
                have HA : Hid (At w f (.agg #[.int .i64 a, .bool b, .string d', .slice f' p' q']) K) := hA
                obtain ⟨e0, e1, e2, e3, uf⟩ := cell4 HE3.out.1
                have v0 := uf 0
                have v1 := uf 1
                have v2 := uf 2
                have v3 := uf 3
                obtain ⟨u0, u1, u2, u3, _⟩ := cell4 hI3.out.1
                clear uf hA hz hK c0w c1w c2w c3w c4w hg
                go_upto_region 13 with fail
                -- @K1
                have hq4 := put4 HE3.out.1 (Value.int .i64 a) (.bool b) (.string d') (.slice f' p' q')
                have hI4 : Hid (GrI w G #[Value.int IntKind.i64 k, Value.bool e, Value.string t, Value.slice (some ⟨g, o, none⟩) n c] #[Value.int IntKind.i64 ku, Value.bool eu, Value.string tu, Value.slice xu nu cu] Ls Ks y' cp fp (wc.setCells E 0 [Value.int .i64 a, .bool b, .string d', .slice f' p' q'])) := hI3.out.setE HE3.out.2.2.1 (fun hf => by have := HE3.out.2.1 E hf; omega) _
                have hB4 : Hid (Below w.heap.size w (wc.setCells E 0 [Value.int .i64 a, .bool b, .string d', .slice f' p' q'])) := belowE_setCells _ _ _ HE3.out.2.2.2 hB3.out
                have HE4 : Hid ((wc.setCells E 0 [Value.int .i64 a, .bool b, .string d', .slice f' p' q']).heap[E]? = some (.cells #[Value.int .i64 a, .bool b, .string d', .slice f' p' q'] 32 (0, 0)) ∧ (∀ b ∈ fp, b < E) ∧ G + 1 + 1 + 1 < E ∧ w.heap.size ≤ E) := ⟨hq4, HE3.out.2⟩
                change Code.wp _ _ _ _ (wc.setCells E 0 [Value.int .i64 a, .bool b, .string d', .slice f' p' q'])
                clear hq4 hI3 hB3 HE3 e0 e1 e2 e3 v0 v1 v2 v3 u0 u1 u2 u3 c1 c2 c3 c4
                generalize wc.setCells E 0 [Value.int .i64 a, .bool b, .string d', .slice f' p' q'] = wx at *
                have bD : Below wx.heap.size wx wx.drew := ⟨rfl, rfl, rfl, Nat.le_refl _, fun _ _ => rfl⟩
                have HI0 : Hid (GrI w G #[Value.int IntKind.i64 k, Value.bool e, Value.string t, Value.slice (some ⟨g, o, none⟩) n c] #[Value.int IntKind.i64 ku, Value.bool eu, Value.string tu, Value.slice xu nu cu] Ls Ks y' cp fp wx.drew) := hI4.out.on bD
                have HB0 : Hid (Below w.heap.size w wx.drew) := hB4.out.trans (bD.mono hB4.out.size)
                have CG := IH _ _ _ _ _ _ _ K fu ku eu tu xu nu cu U pa ml (d - 1) wx.drew (HA.out.below HB0.out) (HHU.out.1.below HB0.out) HZ.out.2.2.1 HHU.out.2 HZ.out.2.2.2.1 HZ.out.2.2.2.2 (HT1.out.below HB0.out) (fun z hz => HMM.out.2.1 z (List.mem_cons_of_mem _ hz)) HMM.out.2.2.1 (by omega) (by omega)
                have hKO : Kn = grf l K U := by rw [HKn.out, HSUB.out.1]
                rw [← hKO] at CG
                clear hKO
                have d0 : wx.drew.cell? ⟨gy, oy, none⟩ = some (.string s) := (HB0.out.cell (p := ⟨gy, oy, none⟩) HMM.out.2.2.2.1).trans HMM.out.2.2.2.2
                obtain ⟨d1, d2, d3, d4, _⟩ := cell4 (show wx.drew.heap[E]? = _ from HE4.out.1)
                obtain ⟨d5, d6, d7, d8, _⟩ := cell4 HI0.out.2.1
                have HLN : Hid (Ls.length ≤ 1073741824) := by
                  rw [Hid, hL.out.1, HIP.out]
                  unfold gOut
                  rw [if_pos (Nat.le_refl _), List.length_take]
                  omega
                have HBS : Hid (∀ b ∈ [G + 1, E, gy], b < wx.drew.heap.size ∧ b ∉ fp ∧ b ≠ G + 1 + 1 + 1) := by
                  have hgG : gy < G := by rw [← HG.out]; exact HMM.out.2.2.2.1
                  have hsz := HI0.out.2.2.2.2.2.2.1
                  have hEl : E < wx.drew.heap.size := heap_lt (show wx.drew.heap[E]? = _ from HE4.out.1)
                  have h1 := HE4.out.2.2.1
                  have hfl : ∀ b ∈ fp, G + 1 + 1 + 1 + 1 ≤ b ∧ b < E := fun b hb => ⟨(TrV.lt _ _ _ HI0.out.2.2.2.2.1 b hb).1, HE4.out.2.1 b hb⟩
                  intro b hb
                  rcases List.mem_cons.1 hb with rfl | hb
                  · exact ⟨by omega, fun hf => by have := hfl _ hf; omega, by omega⟩
                  rcases List.mem_cons.1 hb with rfl | hb
                  · exact ⟨hEl, fun hf => by have := hfl _ hf; omega, by omega⟩
                  · simp at hb
                    subst hb
                    exact ⟨by omega, fun hf => by have := hfl _ hf; omega, by omega⟩
                clear hI4 hB4 HE4 bD
                refine wp_region_held_drew (S := KB [G + 1, E, gy] wx.drew) (by kernel_rfl) (KB.refl _ _) (fun _ => ?_)
                have N0 : KB [G + 1, E, gy] wx.drew wx.drew := KB.refl _ _
                generalize wx.drew = Wd at *
                refine wpAnyH_take (i := 0) (oi := { dst := some 69, op := Op.fieldAddr 32 (Operand.tmp 7) 3, type := 0, pos := "ref.go:375", after := #[], guard := none }) (v := .pointer (some ⟨G + 1 + 1 + 1, 3, none⟩)) rfl (by kernel_rfl) (by kernel_rfl) (by kernel_rfl) (fun _ _ _ h => h) (Or.inl ⟨by rfl, by intro w _; go_simp⟩) N0 ?_
                try simp only [Act.put, List.setIfInBounds_toArray, List.set_cons_zero, List.set_cons_succ]
                refine wpAnyH_take (i := 2) (oi := { dst := some 71, op := Op.move (Operand.tmp 1), type := 69, pos := "ref.go:375", after := #[], guard := none }) (v := .slice (some ⟨gy, oy, none⟩) (ml + 1) d) rfl (by kernel_rfl) (by kernel_rfl) (by kernel_rfl) (fun _ _ _ h => h) (Or.inl ⟨by rfl, by intro w _; go_simp⟩) N0 ?_
                try simp only [Act.put, List.setIfInBounds_toArray, List.set_cons_zero, List.set_cons_succ]
                refine wpAnyH_take (i := 3) (oi := { dst := some 72, op := Op.indexAddr 69 (Operand.tmp 71) (Operand.const (Value.int IntKind.i64 0)), type := 0, pos := "ref.go:375", after := #[{ on := 2, ground := Ground.data }], guard := none }) (v := .pointer (some ⟨gy, oy, none⟩)) rfl (by kernel_rfl) (by kernel_rfl) (by kernel_rfl) (fun _ _ _ h => h) (Or.inl ⟨by rfl, by intro w _; go_simp⟩) N0 ?_
                try simp only [Act.put, List.setIfInBounds_toArray, List.set_cons_zero, List.set_cons_succ]
                refine wpAnyH_take (i := 4) (oi := { dst := some 73, op := Op.load 9 (Operand.tmp 72), type := 9, pos := "ref.go:375", after := #[{ on := 3, ground := Ground.data }], guard := none }) (v := .string s) rfl (by kernel_rfl) (by kernel_rfl) (by kernel_rfl) (fun _ _ _ h => h) (Or.inl ⟨by rfl, by intro w hw; have y0 := hw.cell d0 (by simp); go_simp⟩) N0 ?_
                try simp only [Act.put, List.setIfInBounds_toArray, List.set_cons_zero, List.set_cons_succ]
                refine wpAnyH_take (i := 5) (oi := { dst := some 74, op := Op.load 32 (Operand.tmp 10), type := 32, pos := "ref.go:375", after := #[], guard := none }) (v := .agg #[.int .i64 a, .bool b, .string d', .slice f' p' q']) rfl (by kernel_rfl) (by kernel_rfl) (by kernel_rfl) (fun _ _ _ h => h) (Or.inl ⟨by rfl, by intro w hw; have y0 := hw.cell d1 (by simp); have y1 := hw.cell d2 (by simp); have y2 := hw.cell d3 (by simp); have y3 := hw.cell d4 (by simp); go_simp⟩) N0 ?_
                try simp only [Act.put, List.setIfInBounds_toArray, List.set_cons_zero, List.set_cons_succ]
                refine wpAnyH_take (i := 6) (oi := { dst := some 75, op := Op.move (Operand.tmp 1), type := 69, pos := "ref.go:375", after := #[], guard := none }) (v := .slice (some ⟨gy, oy, none⟩) (ml + 1) d) rfl (by kernel_rfl) (by kernel_rfl) (by kernel_rfl) (fun _ _ _ h => h) (Or.inl ⟨by rfl, by intro w _; go_simp⟩) N0 ?_
                try simp only [Act.put, List.setIfInBounds_toArray, List.set_cons_zero, List.set_cons_succ]
                refine wpAnyH_take (i := 7) (oi := { dst := some 76, op := Op.slice 69 (Operand.tmp 75) (some (Operand.const (Value.int IntKind.i64 1))) none none, type := 69, pos := "ref.go:375", after := #[{ on := 6, ground := Ground.data }], guard := none }) (v := .slice pa ml (d - 1)) rfl (by kernel_rfl) (by kernel_rfl) (by kernel_rfl) (fun _ _ _ h => h) (Or.inl ⟨by rfl, by intro w _; go_simp⟩) N0 ?_
                try simp only [Act.put, List.setIfInBounds_toArray, List.set_cons_zero, List.set_cons_succ]
                refine wpAnyH_take (i := 8) (oi := { dst := some 77, op := Op.load 32 (Operand.tmp 5), type := 32, pos := "ref.go:375", after := #[], guard := none }) (v := .agg #[Value.int IntKind.i64 ku, Value.bool eu, Value.string tu, Value.slice xu nu cu]) rfl (by kernel_rfl) (by kernel_rfl) (by kernel_rfl) (fun _ _ _ h => h) (Or.inl ⟨by rfl, by intro w hw; have y0 := hw.cell d5 (by simp); have y1 := hw.cell d6 (by simp); have y2 := hw.cell d7 (by simp); have y3 := hw.cell d8 (by simp); go_simp⟩) N0 ?_
                try simp only [Act.put, List.setIfInBounds_toArray, List.set_cons_zero, List.set_cons_succ]
                refine wpAnyH_ready (rs := [1, 9]) (by kernel_rfl) (by decide) (AllReadyH.cons rfl (fun K1 hK1 => ?_) (AllReadyH.cons rfl (fun K1 hK1 => ?_) AllReadyH.nil))
                · skip
                  have kk := (cell4 HI0.out.2.2.2.1).2.2.2.1
                  rw [if_pos (by rfl)]
                  go_simp
                  refine hK1.out _ _ N0 (fun _ => ?_)
                  clear hK1 K1 kk
                  try simp only [Act.put, List.setIfInBounds_toArray, List.set_cons_zero, List.set_cons_succ]
                  refine wpAnyH_ready (rs := [9]) (by kernel_rfl) (by decide) (AllReadyH.cons rfl (fun K1 hK1 => ?_) AllReadyH.nil)
                  rw [if_pos (by rfl)]
                  go_simp
                  refine CG.mono ?_
                  rintro e5 w5 ⟨⟨v5, fp5, rfl, hv, hnd⟩, b5⟩
                  obtain ⟨x5, q5, rfl⟩ := hv.shape
                  have HI5 : Hid (GrI w G #[Value.int IntKind.i64 k, Value.bool e, Value.string t, Value.slice (some ⟨g, o, none⟩) n c] #[Value.int IntKind.i64 ku, Value.bool eu, Value.string tu, Value.slice xu nu cu] Ls Ks y' cp fp w5) := HI0.out.on b5
                  obtain ⟨g2, cap, w8, fp8, hr, ⟨hz8, hf8⟩, hyo, hb8, hI9⟩ := HI5.out.app s Kn x5 q5 fp5 Wd.heap.size hv hnd HI0.out.2.2.2.2.2.2.1 (fun b hb => (TrV.lt _ _ _ HI0.out.2.2.2.2.1 b hb).2) HLN.out
                  have HI9 : Hid (GrI w G #[Value.int IntKind.i64 k, Value.bool e, Value.string t, Value.slice (some ⟨g, o, none⟩) n c] #[Value.int IntKind.i64 ku, Value.bool eu, Value.string tu, Value.slice xu nu cu] (Ls ++ [s]) (Ks ++ [Kn]) (some ⟨g2, 0, none⟩) cap fp8 (w8.setCell ⟨G + 1 + 1 + 1, 3, none⟩ (.slice (some ⟨g2, 0, none⟩) (Ls.length + 1) cap))) := hI9
                  have hl5 : ∀ b ∈ [G + 1, E, gy], b < w5.heap.size := fun b hb => Nat.lt_of_lt_of_le (HBS.out b hb).1 b5.size
                  have N5 : KB [G + 1, E, gy] Wd w5 := N0.below (fun b hb => (HBS.out b hb).1) b5
                  have bN6 : Below w5.heap.size w5 (w5.alloc (Obj.cells #[Value.string s, Value.int IntKind.i64 Kn.k, Value.bool Kn.e, Value.string Kn.t, Value.slice x5 Kn.nms.length q5] 52)) := (Below.refl _ _).alloc (Nat.le_refl _) _
                  have N6 : KB [G + 1, E, gy] Wd (w5.alloc (Obj.cells #[Value.string s, Value.int IntKind.i64 Kn.k, Value.bool Kn.e, Value.string Kn.t, Value.slice x5 Kn.nms.length q5] 52)) := N5.below hl5 bN6
                  have N8 : KB [G + 1, E, gy] Wd w8 := N5.keep hl5 (fun b hb => (HBS.out b hb).2.1) hyo
                  have N9 : KB [G + 1, E, gy] Wd (w8.setCell ⟨G + 1 + 1 + 1, 3, none⟩ (.slice (some ⟨g2, 0, none⟩) (Ls.length + 1) cap)) := N8.set _ _ (fun b hb => (HBS.out b hb).2.2)
                  have H56 : Hid (w5.cell? ⟨G + 1 + 1 + 1, 3, none⟩ = some (.slice y' Ls.length cp) ∧ (w5.alloc (Obj.cells #[Value.string s, Value.int IntKind.i64 Kn.k, Value.bool Kn.e, Value.string Kn.t, Value.slice x5 Kn.nms.length q5] 52)).cell? ⟨G + 1 + 1 + 1, 3, none⟩ = some (.slice y' Ls.length cp)) := ⟨(cell4 HI5.out.2.2.2.1).2.2.2.1, (cell4 (HI5.out.on bN6).2.2.2.1).2.2.2.1⟩
                  clear hI9 hyo hb8 hv hnd b5 hl5 bN6 HI5
                  refine hK1.out _ _ N5 (fun _ => ?_)
                  clear hK1 K1
                  try simp only [Act.put, List.setIfInBounds_toArray, List.set_cons_zero, List.set_cons_succ]
                  refine wpAnyH_take (i := 10) (oi := { dst := some 79, op := Op.build 52 #[(0, Operand.tmp 73), (1, Operand.tmp 78)], type := 52, pos := "ref.go:375", after := #[{ on := 4, ground := Ground.data }, { on := 9, ground := Ground.data }], guard := none }) (v := .agg #[.string s, .int .i64 Kn.k, .bool Kn.e, .string Kn.t, .slice x5 Kn.nms.length q5]) rfl (by kernel_rfl) (by kernel_rfl) (by kernel_rfl) (fun _ _ _ h => h) (Or.inl ⟨by rfl, by intro w _; go_simp⟩) N5 ?_
                  try simp only [Act.put, List.setIfInBounds_toArray, List.set_cons_zero, List.set_cons_succ]
                  refine wpAnyH_ready (rs := [11]) (by kernel_rfl) (by decide) (AllReadyH.cons rfl (fun K1 hK1 => ?_) AllReadyH.nil)
                  rw [if_pos (by rfl)]
                  go_simp
                  refine hK1.out _ _ N6 (fun _ => ?_)
                  clear hK1 K1
                  try simp only [Act.put, List.setIfInBounds_toArray, List.set_cons_zero, List.set_cons_succ]
                  refine wpAnyH_ready (rs := [12]) (by kernel_rfl) (by decide) (AllReadyH.cons rfl (fun K1 hK1 => ?_) AllReadyH.nil)
                  refine step_append_runI (o := { dst := some 81, op := Op.call { callee := Callee.builtin Builtin.append, args := #[Operand.tmp 70, Operand.tmp 80], argTypes := #[30, 30] }, type := 30, pos := "ref.go:375", after := #[{ on := 1, ground := Ground.data }, { on := 11, ground := Ground.data }, { on := 9, ground := Ground.chain }], guard := none }) rfl (.tmp 70) (.tmp 80) 30 30 rfl _ _ rfl rfl hr ?_
                  refine hK1.out _ _ N8 (fun _ => ?_)
                  clear hK1 K1
                  try simp only [Act.put, List.setIfInBounds_toArray, List.set_cons_zero, List.set_cons_succ]
                  refine wpAnyH_take (i := 13) (oi := { dst := some 82, op := Op.fieldAddr 32 (Operand.tmp 7) 3, type := 0, pos := "ref.go:375", after := #[{ on := 0, ground := Ground.phase }, { on := 1, ground := Ground.phase }, { on := 2, ground := Ground.phase }, { on := 3, ground := Ground.phase }, { on := 4, ground := Ground.phase }, { on := 5, ground := Ground.phase }, { on := 6, ground := Ground.phase }, { on := 7, ground := Ground.phase }, { on := 8, ground := Ground.phase }, { on := 9, ground := Ground.phase }, { on := 10, ground := Ground.phase }, { on := 11, ground := Ground.phase }, { on := 12, ground := Ground.phase }], guard := none }) (v := .pointer (some ⟨G + 1 + 1 + 1, 3, none⟩)) rfl (by kernel_rfl) (by kernel_rfl) (by kernel_rfl) (fun _ _ _ h => h) (Or.inl ⟨by rfl, by intro w _; go_simp⟩) N8 ?_
                  try simp only [Act.put, List.setIfInBounds_toArray, List.set_cons_zero, List.set_cons_succ]
                  refine wpAnyH_ready (rs := [14]) (by kernel_rfl) (by decide) (AllReadyH.cons rfl (fun K1 hK1 => ?_) AllReadyH.nil)
                  rw [if_pos (by rfl)]
                  go_simp
                  refine hK1.out _ _ N9 (fun _ => ?_)
                  clear hK1 K1
                  refine wpAnyH_done (by kernel_rfl) ?_ _
                  clear N0 N5 N6 N8 N9 hr hz8 hf8 H56
                  generalize w8.setCell ⟨G + 1 + 1 + 1, 3, none⟩ (.slice (some ⟨g2, 0, none⟩) (Ls.length + 1) cap) = w9 at *
                  obtain ⟨u0, u1, u2, u3, _⟩ := cell4 HI9.out.1
                  have g1 : decide ((i : Int) < (n : Int)) = true := decide_eq_true (by omega)
                  have hB9 : Hid (Below w.heap.size w w9) := by rw [Hid, HG.out]; exact HI9.out.2.2.2.2.2.2.2
                  have cy : w9.cell? ⟨gy, oy, none⟩ = some (.string s) := (hB9.out.cell (p := ⟨gy, oy, none⟩) HMM.out.2.2.2.1).trans HMM.out.2.2.2.2
                  obtain ⟨gq, oq, _, _, _, _, _, _, hge, hg9, c9, _⟩ := EX.out.below hB9.out i s K hlt HZ.out.1 HZ.out.2.1
                  injection hge with hge
                  injection hge with h1 h2
                  subst h1 h2
                  have g3 : (s.toList == s.toList) = true := by simp
                  have g4 : (s.toList != s.toList) = false := by simp
                  go_upto_region 14 with fail
                  go_quiet (fail)
                  go_wp2
                  go_roundw
                  case rel =>
                    refine ⟨i + 1, some ⟨g2, 0, none⟩, cap, fp8, Ls ++ [s], Ks ++ [Kn], by omega, by congr 1; symm; apply decide_eq_true; have := HIP.out; omega, by go_num, ?_, HI9.out.on (bel_drewN (Below.refl _ _) nq)⟩
                    have hq2 := HSUB.out.2
                    rw [hL.out.1, hL.out.2, hq2, ← HIP.out]
                    exact ⟨(gOut_at _ _ _).symm, (gOut_at _ _ _).symm⟩
                  case measure => simp [intOf]; omega
                · skip
                  rw [if_pos (by rfl)]
                  go_simp
                  refine CG.mono ?_
                  rintro e5 w5 ⟨⟨v5, fp5, rfl, hv, hnd⟩, b5⟩
                  obtain ⟨x5, q5, rfl⟩ := hv.shape
                  have HI5 : Hid (GrI w G #[Value.int IntKind.i64 k, Value.bool e, Value.string t, Value.slice (some ⟨g, o, none⟩) n c] #[Value.int IntKind.i64 ku, Value.bool eu, Value.string tu, Value.slice xu nu cu] Ls Ks y' cp fp w5) := HI0.out.on b5
                  obtain ⟨g2, cap, w8, fp8, hr, ⟨hz8, hf8⟩, hyo, hb8, hI9⟩ := HI5.out.app s Kn x5 q5 fp5 Wd.heap.size hv hnd HI0.out.2.2.2.2.2.2.1 (fun b hb => (TrV.lt _ _ _ HI0.out.2.2.2.2.1 b hb).2) HLN.out
                  have HI9 : Hid (GrI w G #[Value.int IntKind.i64 k, Value.bool e, Value.string t, Value.slice (some ⟨g, o, none⟩) n c] #[Value.int IntKind.i64 ku, Value.bool eu, Value.string tu, Value.slice xu nu cu] (Ls ++ [s]) (Ks ++ [Kn]) (some ⟨g2, 0, none⟩) cap fp8 (w8.setCell ⟨G + 1 + 1 + 1, 3, none⟩ (.slice (some ⟨g2, 0, none⟩) (Ls.length + 1) cap))) := hI9
                  have hl5 : ∀ b ∈ [G + 1, E, gy], b < w5.heap.size := fun b hb => Nat.lt_of_lt_of_le (HBS.out b hb).1 b5.size
                  have N5 : KB [G + 1, E, gy] Wd w5 := N0.below (fun b hb => (HBS.out b hb).1) b5
                  have bN6 : Below w5.heap.size w5 (w5.alloc (Obj.cells #[Value.string s, Value.int IntKind.i64 Kn.k, Value.bool Kn.e, Value.string Kn.t, Value.slice x5 Kn.nms.length q5] 52)) := (Below.refl _ _).alloc (Nat.le_refl _) _
                  have N6 : KB [G + 1, E, gy] Wd (w5.alloc (Obj.cells #[Value.string s, Value.int IntKind.i64 Kn.k, Value.bool Kn.e, Value.string Kn.t, Value.slice x5 Kn.nms.length q5] 52)) := N5.below hl5 bN6
                  have N8 : KB [G + 1, E, gy] Wd w8 := N5.keep hl5 (fun b hb => (HBS.out b hb).2.1) hyo
                  have N9 : KB [G + 1, E, gy] Wd (w8.setCell ⟨G + 1 + 1 + 1, 3, none⟩ (.slice (some ⟨g2, 0, none⟩) (Ls.length + 1) cap)) := N8.set _ _ (fun b hb => (HBS.out b hb).2.2)
                  have H56 : Hid (w5.cell? ⟨G + 1 + 1 + 1, 3, none⟩ = some (.slice y' Ls.length cp) ∧ (w5.alloc (Obj.cells #[Value.string s, Value.int IntKind.i64 Kn.k, Value.bool Kn.e, Value.string Kn.t, Value.slice x5 Kn.nms.length q5] 52)).cell? ⟨G + 1 + 1 + 1, 3, none⟩ = some (.slice y' Ls.length cp)) := ⟨(cell4 HI5.out.2.2.2.1).2.2.2.1, (cell4 (HI5.out.on bN6).2.2.2.1).2.2.2.1⟩
                  clear hI9 hyo hb8 hv hnd b5 hl5 bN6 HI5
                  refine hK1.out _ _ N5 (fun _ => ?_)
                  clear hK1 K1
                  try simp only [Act.put, List.setIfInBounds_toArray, List.set_cons_zero, List.set_cons_succ]
                  refine wpAnyH_take (i := 10) (oi := { dst := some 79, op := Op.build 52 #[(0, Operand.tmp 73), (1, Operand.tmp 78)], type := 52, pos := "ref.go:375", after := #[{ on := 4, ground := Ground.data }, { on := 9, ground := Ground.data }], guard := none }) (v := .agg #[.string s, .int .i64 Kn.k, .bool Kn.e, .string Kn.t, .slice x5 Kn.nms.length q5]) rfl (by kernel_rfl) (by kernel_rfl) (by kernel_rfl) (fun _ _ _ h => h) (Or.inl ⟨by rfl, by intro w _; go_simp⟩) N5 ?_
                  try simp only [Act.put, List.setIfInBounds_toArray, List.set_cons_zero, List.set_cons_succ]
                  refine wpAnyH_ready (rs := [1, 11]) (by kernel_rfl) (by decide) (AllReadyH.cons rfl (fun K1 hK1 => ?_) (AllReadyH.cons rfl (fun K1 hK1 => ?_) AllReadyH.nil))
                  · skip
                    have kk := H56.out.1
                    rw [if_pos (by rfl)]
                    go_simp
                    refine hK1.out _ _ N5 (fun _ => ?_)
                    clear hK1 K1 kk
                    try simp only [Act.put, List.setIfInBounds_toArray, List.set_cons_zero, List.set_cons_succ]
                    refine wpAnyH_ready (rs := [11]) (by kernel_rfl) (by decide) (AllReadyH.cons rfl (fun K1 hK1 => ?_) AllReadyH.nil)
                    rw [if_pos (by rfl)]
                    go_simp
                    refine hK1.out _ _ N6 (fun _ => ?_)
                    clear hK1 K1
                    try simp only [Act.put, List.setIfInBounds_toArray, List.set_cons_zero, List.set_cons_succ]
                    refine wpAnyH_ready (rs := [12]) (by kernel_rfl) (by decide) (AllReadyH.cons rfl (fun K1 hK1 => ?_) AllReadyH.nil)
                    refine step_append_runI (o := { dst := some 81, op := Op.call { callee := Callee.builtin Builtin.append, args := #[Operand.tmp 70, Operand.tmp 80], argTypes := #[30, 30] }, type := 30, pos := "ref.go:375", after := #[{ on := 1, ground := Ground.data }, { on := 11, ground := Ground.data }, { on := 9, ground := Ground.chain }], guard := none }) rfl (.tmp 70) (.tmp 80) 30 30 rfl _ _ rfl rfl hr ?_
                    refine hK1.out _ _ N8 (fun _ => ?_)
                    clear hK1 K1
                    try simp only [Act.put, List.setIfInBounds_toArray, List.set_cons_zero, List.set_cons_succ]
                    refine wpAnyH_take (i := 13) (oi := { dst := some 82, op := Op.fieldAddr 32 (Operand.tmp 7) 3, type := 0, pos := "ref.go:375", after := #[{ on := 0, ground := Ground.phase }, { on := 1, ground := Ground.phase }, { on := 2, ground := Ground.phase }, { on := 3, ground := Ground.phase }, { on := 4, ground := Ground.phase }, { on := 5, ground := Ground.phase }, { on := 6, ground := Ground.phase }, { on := 7, ground := Ground.phase }, { on := 8, ground := Ground.phase }, { on := 9, ground := Ground.phase }, { on := 10, ground := Ground.phase }, { on := 11, ground := Ground.phase }, { on := 12, ground := Ground.phase }], guard := none }) (v := .pointer (some ⟨G + 1 + 1 + 1, 3, none⟩)) rfl (by kernel_rfl) (by kernel_rfl) (by kernel_rfl) (fun _ _ _ h => h) (Or.inl ⟨by rfl, by intro w _; go_simp⟩) N8 ?_
                    try simp only [Act.put, List.setIfInBounds_toArray, List.set_cons_zero, List.set_cons_succ]
                    refine wpAnyH_ready (rs := [14]) (by kernel_rfl) (by decide) (AllReadyH.cons rfl (fun K1 hK1 => ?_) AllReadyH.nil)
                    rw [if_pos (by rfl)]
                    go_simp
                    refine hK1.out _ _ N9 (fun _ => ?_)
                    clear hK1 K1
                    refine wpAnyH_done (by kernel_rfl) ?_ _
                    clear N0 N5 N6 N8 N9 hr hz8 hf8 H56
                    generalize w8.setCell ⟨G + 1 + 1 + 1, 3, none⟩ (.slice (some ⟨g2, 0, none⟩) (Ls.length + 1) cap) = w9 at *
                    obtain ⟨u0, u1, u2, u3, _⟩ := cell4 HI9.out.1
                    have g1 : decide ((i : Int) < (n : Int)) = true := decide_eq_true (by omega)
                    have hB9 : Hid (Below w.heap.size w w9) := by rw [Hid, HG.out]; exact HI9.out.2.2.2.2.2.2.2
                    have cy : w9.cell? ⟨gy, oy, none⟩ = some (.string s) := (hB9.out.cell (p := ⟨gy, oy, none⟩) HMM.out.2.2.2.1).trans HMM.out.2.2.2.2
                    obtain ⟨gq, oq, _, _, _, _, _, _, hge, hg9, c9, _⟩ := EX.out.below hB9.out i s K hlt HZ.out.1 HZ.out.2.1
                    injection hge with hge
                    injection hge with h1 h2
                    subst h1 h2
                    have g3 : (s.toList == s.toList) = true := by simp
                    have g4 : (s.toList != s.toList) = false := by simp
                    go_upto_region 14 with fail
                    go_quiet (fail)
                    go_wp2
                    go_roundw
                    case rel =>
                      refine ⟨i + 1, some ⟨g2, 0, none⟩, cap, fp8, Ls ++ [s], Ks ++ [Kn], by omega, by congr 1; symm; apply decide_eq_true; have := HIP.out; omega, by go_num, ?_, HI9.out.on (bel_drewN (Below.refl _ _) nq)⟩
                      have hq2 := HSUB.out.2
                      rw [hL.out.1, hL.out.2, hq2, ← HIP.out]
                      exact ⟨(gOut_at _ _ _).symm, (gOut_at _ _ _).symm⟩
                    case measure => simp [intOf]; omega
                  · skip
                    rw [if_pos (by rfl)]
                    go_simp
                    refine hK1.out _ _ N6 (fun _ => ?_)
                    clear hK1 K1
                    try simp only [Act.put, List.setIfInBounds_toArray, List.set_cons_zero, List.set_cons_succ]
                    refine wpAnyH_ready (rs := [1]) (by kernel_rfl) (by decide) (AllReadyH.cons rfl (fun K1 hK1 => ?_) AllReadyH.nil)
                    have kk := H56.out.2
                    rw [if_pos (by rfl)]
                    go_simp
                    refine hK1.out _ _ N6 (fun _ => ?_)
                    clear hK1 K1 kk
                    try simp only [Act.put, List.setIfInBounds_toArray, List.set_cons_zero, List.set_cons_succ]
                    refine wpAnyH_ready (rs := [12]) (by kernel_rfl) (by decide) (AllReadyH.cons rfl (fun K1 hK1 => ?_) AllReadyH.nil)
                    refine step_append_runI (o := { dst := some 81, op := Op.call { callee := Callee.builtin Builtin.append, args := #[Operand.tmp 70, Operand.tmp 80], argTypes := #[30, 30] }, type := 30, pos := "ref.go:375", after := #[{ on := 1, ground := Ground.data }, { on := 11, ground := Ground.data }, { on := 9, ground := Ground.chain }], guard := none }) rfl (.tmp 70) (.tmp 80) 30 30 rfl _ _ rfl rfl hr ?_
                    refine hK1.out _ _ N8 (fun _ => ?_)
                    clear hK1 K1
                    try simp only [Act.put, List.setIfInBounds_toArray, List.set_cons_zero, List.set_cons_succ]
                    refine wpAnyH_take (i := 13) (oi := { dst := some 82, op := Op.fieldAddr 32 (Operand.tmp 7) 3, type := 0, pos := "ref.go:375", after := #[{ on := 0, ground := Ground.phase }, { on := 1, ground := Ground.phase }, { on := 2, ground := Ground.phase }, { on := 3, ground := Ground.phase }, { on := 4, ground := Ground.phase }, { on := 5, ground := Ground.phase }, { on := 6, ground := Ground.phase }, { on := 7, ground := Ground.phase }, { on := 8, ground := Ground.phase }, { on := 9, ground := Ground.phase }, { on := 10, ground := Ground.phase }, { on := 11, ground := Ground.phase }, { on := 12, ground := Ground.phase }], guard := none }) (v := .pointer (some ⟨G + 1 + 1 + 1, 3, none⟩)) rfl (by kernel_rfl) (by kernel_rfl) (by kernel_rfl) (fun _ _ _ h => h) (Or.inl ⟨by rfl, by intro w _; go_simp⟩) N8 ?_
                    try simp only [Act.put, List.setIfInBounds_toArray, List.set_cons_zero, List.set_cons_succ]
                    refine wpAnyH_ready (rs := [14]) (by kernel_rfl) (by decide) (AllReadyH.cons rfl (fun K1 hK1 => ?_) AllReadyH.nil)
                    rw [if_pos (by rfl)]
                    go_simp
                    refine hK1.out _ _ N9 (fun _ => ?_)
                    clear hK1 K1
                    refine wpAnyH_done (by kernel_rfl) ?_ _
                    clear N0 N5 N6 N8 N9 hr hz8 hf8 H56
                    generalize w8.setCell ⟨G + 1 + 1 + 1, 3, none⟩ (.slice (some ⟨g2, 0, none⟩) (Ls.length + 1) cap) = w9 at *
                    obtain ⟨u0, u1, u2, u3, _⟩ := cell4 HI9.out.1
                    have g1 : decide ((i : Int) < (n : Int)) = true := decide_eq_true (by omega)
                    have hB9 : Hid (Below w.heap.size w w9) := by rw [Hid, HG.out]; exact HI9.out.2.2.2.2.2.2.2
                    have cy : w9.cell? ⟨gy, oy, none⟩ = some (.string s) := (hB9.out.cell (p := ⟨gy, oy, none⟩) HMM.out.2.2.2.1).trans HMM.out.2.2.2.2
                    obtain ⟨gq, oq, _, _, _, _, _, _, hge, hg9, c9, _⟩ := EX.out.below hB9.out i s K hlt HZ.out.1 HZ.out.2.1
                    injection hge with hge
                    injection hge with h1 h2
                    subst h1 h2
                    have g3 : (s.toList == s.toList) = true := by simp
                    have g4 : (s.toList != s.toList) = false := by simp
                    go_upto_region 14 with fail
                    go_quiet (fail)
                    go_wp2
                    go_roundw
                    case rel =>
                      refine ⟨i + 1, some ⟨g2, 0, none⟩, cap, fp8, Ls ++ [s], Ks ++ [Kn], by omega, by congr 1; symm; apply decide_eq_true; have := HIP.out; omega, by go_num, ?_, HI9.out.on (bel_drewN (Below.refl _ _) nq)⟩
                      have hq2 := HSUB.out.2
                      rw [hL.out.1, hL.out.2, hq2, ← HIP.out]
                      exact ⟨(gOut_at _ _ _).symm, (gOut_at _ _ _).symm⟩
                    case measure => simp [intOf]; omega
              | false =>
                have hz : ns[i]? ≠ some s := of_decide_eq_false HFF.out.symm
                have HSUB : Hid ((sub s ns ks).getD zT = zT ∧ q = i) := by
                  have hz' := hz
                  rw [HIP.out, HPQ.out.1] at hz'
                  refine ⟨?_, by rw [HPQ.out.2, posQ_no hz', ← HPQ.out.1, HIP.out]⟩
                  rw [sub_pos LL.out.2.2.2.2.2.2, if_neg hz']
                  rfl
                have HZ0 : Hid (ns[i]? ≠ some s) := hz
                clear hz
                go_upto_region 13 with fail
                have hI3x := hI3
                have hB3x := hB3
                have HE3x := HE3
                clear hI3 hB3 HE3
                generalize wc = wx at *
                have bD : Below wx.heap.size wx wx.drew := ⟨rfl, rfl, rfl, Nat.le_refl _, fun _ _ => rfl⟩
                have HI0 : Hid (GrI w G #[Value.int IntKind.i64 k, Value.bool e, Value.string t, Value.slice x n c] #[Value.int IntKind.i64 ku, Value.bool eu, Value.string tu, Value.slice xu nu cu] Ls Ks y' cp fp wx.drew) := hI3x.out.on bD
                have HB0 : Hid (Below w.heap.size w wx.drew) := hB3x.out.trans (bD.mono hB3x.out.size)
                have CG := IH _ _ _ _ _ _ _ zT fu ku eu tu xu nu cu U pa ml (d - 1) wx.drew (zT_at _) (HHU.out.1.below HB0.out) zT_all.1 HHU.out.2 zT_all.2.1 zT_all.2.2 (HT1.out.below HB0.out) (fun z hz => HMM.out.2.1 z (List.mem_cons_of_mem _ hz)) HMM.out.2.2.1 (by omega) (by omega)
                have hKO : Kn = grf l zT U := by rw [HKn.out, HSUB.out.1]
                rw [← hKO] at CG
                clear hKO
                have d0 : wx.drew.cell? ⟨gy, oy, none⟩ = some (.string s) := (HB0.out.cell (p := ⟨gy, oy, none⟩) HMM.out.2.2.2.1).trans HMM.out.2.2.2.2
                obtain ⟨d1, d2, d3, d4, _⟩ := cell4 (show wx.drew.heap[E]? = _ from HE3x.out.1)
                obtain ⟨d5, d6, d7, d8, _⟩ := cell4 HI0.out.2.1
                have HLN : Hid (Ls.length ≤ 1073741824) := by
                  rw [Hid, hL.out.1, HIP.out]
                  unfold gOut
                  rw [if_pos (Nat.le_refl _), List.length_take]
                  omega
                have HBS : Hid (∀ b ∈ [G + 1, E, gy], b < wx.drew.heap.size ∧ b ∉ fp ∧ b ≠ G + 1 + 1 + 1) := by
                  have hgG : gy < G := by rw [← HG.out]; exact HMM.out.2.2.2.1
                  have hsz := HI0.out.2.2.2.2.2.2.1
                  have hEl : E < wx.drew.heap.size := heap_lt (show wx.drew.heap[E]? = _ from HE3x.out.1)
                  have h1 := HE3x.out.2.2.1
                  have hfl : ∀ b ∈ fp, G + 1 + 1 + 1 + 1 ≤ b ∧ b < E := fun b hb => ⟨(TrV.lt _ _ _ HI0.out.2.2.2.2.1 b hb).1, HE3x.out.2.1 b hb⟩
                  intro b hb
                  rcases List.mem_cons.1 hb with rfl | hb
                  · exact ⟨by omega, fun hf => by have := hfl _ hf; omega, by omega⟩
                  rcases List.mem_cons.1 hb with rfl | hb
                  · exact ⟨hEl, fun hf => by have := hfl _ hf; omega, by omega⟩
                  · simp at hb
                    subst hb
                    exact ⟨by omega, fun hf => by have := hfl _ hf; omega, by omega⟩
                clear hI3x hB3x HE3x bD
                refine wp_region_held_drew (S := KB [G + 1, E, gy] wx.drew) (by kernel_rfl) (KB.refl _ _) (fun _ => ?_)
                have N0 : KB [G + 1, E, gy] wx.drew wx.drew := KB.refl _ _
                generalize wx.drew = Wd at *
                refine wpAnyH_take (i := 0) (oi := { dst := some 69, op := Op.fieldAddr 32 (Operand.tmp 7) 3, type := 0, pos := "ref.go:375", after := #[], guard := none }) (v := .pointer (some ⟨G + 1 + 1 + 1, 3, none⟩)) rfl (by kernel_rfl) (by kernel_rfl) (by kernel_rfl) (fun _ _ _ h => h) (Or.inl ⟨by rfl, by intro w _; go_simp⟩) N0 ?_
                try simp only [Act.put, List.setIfInBounds_toArray, List.set_cons_zero, List.set_cons_succ]
                refine wpAnyH_take (i := 2) (oi := { dst := some 71, op := Op.move (Operand.tmp 1), type := 69, pos := "ref.go:375", after := #[], guard := none }) (v := .slice (some ⟨gy, oy, none⟩) (ml + 1) d) rfl (by kernel_rfl) (by kernel_rfl) (by kernel_rfl) (fun _ _ _ h => h) (Or.inl ⟨by rfl, by intro w _; go_simp⟩) N0 ?_
                try simp only [Act.put, List.setIfInBounds_toArray, List.set_cons_zero, List.set_cons_succ]
                refine wpAnyH_take (i := 3) (oi := { dst := some 72, op := Op.indexAddr 69 (Operand.tmp 71) (Operand.const (Value.int IntKind.i64 0)), type := 0, pos := "ref.go:375", after := #[{ on := 2, ground := Ground.data }], guard := none }) (v := .pointer (some ⟨gy, oy, none⟩)) rfl (by kernel_rfl) (by kernel_rfl) (by kernel_rfl) (fun _ _ _ h => h) (Or.inl ⟨by rfl, by intro w _; go_simp⟩) N0 ?_
                try simp only [Act.put, List.setIfInBounds_toArray, List.set_cons_zero, List.set_cons_succ]
                refine wpAnyH_take (i := 4) (oi := { dst := some 73, op := Op.load 9 (Operand.tmp 72), type := 9, pos := "ref.go:375", after := #[{ on := 3, ground := Ground.data }], guard := none }) (v := .string s) rfl (by kernel_rfl) (by kernel_rfl) (by kernel_rfl) (fun _ _ _ h => h) (Or.inl ⟨by rfl, by intro w hw; have y0 := hw.cell d0 (by simp); go_simp⟩) N0 ?_
                try simp only [Act.put, List.setIfInBounds_toArray, List.set_cons_zero, List.set_cons_succ]
                refine wpAnyH_take (i := 5) (oi := { dst := some 74, op := Op.load 32 (Operand.tmp 10), type := 32, pos := "ref.go:375", after := #[], guard := none }) (v := .agg #[.int .i64 0, .bool false, .string ⟨#[]⟩, .slice none 0 0]) rfl (by kernel_rfl) (by kernel_rfl) (by kernel_rfl) (fun _ _ _ h => h) (Or.inl ⟨by rfl, by intro w hw; have y0 := hw.cell d1 (by simp); have y1 := hw.cell d2 (by simp); have y2 := hw.cell d3 (by simp); have y3 := hw.cell d4 (by simp); go_simp⟩) N0 ?_
                try simp only [Act.put, List.setIfInBounds_toArray, List.set_cons_zero, List.set_cons_succ]
                refine wpAnyH_take (i := 6) (oi := { dst := some 75, op := Op.move (Operand.tmp 1), type := 69, pos := "ref.go:375", after := #[], guard := none }) (v := .slice (some ⟨gy, oy, none⟩) (ml + 1) d) rfl (by kernel_rfl) (by kernel_rfl) (by kernel_rfl) (fun _ _ _ h => h) (Or.inl ⟨by rfl, by intro w _; go_simp⟩) N0 ?_
                try simp only [Act.put, List.setIfInBounds_toArray, List.set_cons_zero, List.set_cons_succ]
                refine wpAnyH_take (i := 7) (oi := { dst := some 76, op := Op.slice 69 (Operand.tmp 75) (some (Operand.const (Value.int IntKind.i64 1))) none none, type := 69, pos := "ref.go:375", after := #[{ on := 6, ground := Ground.data }], guard := none }) (v := .slice pa ml (d - 1)) rfl (by kernel_rfl) (by kernel_rfl) (by kernel_rfl) (fun _ _ _ h => h) (Or.inl ⟨by rfl, by intro w _; go_simp⟩) N0 ?_
                try simp only [Act.put, List.setIfInBounds_toArray, List.set_cons_zero, List.set_cons_succ]
                refine wpAnyH_take (i := 8) (oi := { dst := some 77, op := Op.load 32 (Operand.tmp 5), type := 32, pos := "ref.go:375", after := #[], guard := none }) (v := .agg #[Value.int IntKind.i64 ku, Value.bool eu, Value.string tu, Value.slice xu nu cu]) rfl (by kernel_rfl) (by kernel_rfl) (by kernel_rfl) (fun _ _ _ h => h) (Or.inl ⟨by rfl, by intro w hw; have y0 := hw.cell d5 (by simp); have y1 := hw.cell d6 (by simp); have y2 := hw.cell d7 (by simp); have y3 := hw.cell d8 (by simp); go_simp⟩) N0 ?_
                try simp only [Act.put, List.setIfInBounds_toArray, List.set_cons_zero, List.set_cons_succ]
                refine wpAnyH_ready (rs := [1, 9]) (by kernel_rfl) (by decide) (AllReadyH.cons rfl (fun K1 hK1 => ?_) (AllReadyH.cons rfl (fun K1 hK1 => ?_) AllReadyH.nil))
                · skip
                  have kk := (cell4 HI0.out.2.2.2.1).2.2.2.1
                  rw [if_pos (by rfl)]
                  go_simp
                  refine hK1.out _ _ N0 (fun _ => ?_)
                  clear hK1 K1 kk
                  try simp only [Act.put, List.setIfInBounds_toArray, List.set_cons_zero, List.set_cons_succ]
                  refine wpAnyH_ready (rs := [9]) (by kernel_rfl) (by decide) (AllReadyH.cons rfl (fun K1 hK1 => ?_) AllReadyH.nil)
                  rw [if_pos (by rfl)]
                  go_simp
                  refine CG.mono ?_
                  rintro e5 w5 ⟨⟨v5, fp5, rfl, hv, hnd⟩, b5⟩
                  obtain ⟨x5, q5, rfl⟩ := hv.shape
                  have HI5 : Hid (GrI w G #[Value.int IntKind.i64 k, Value.bool e, Value.string t, Value.slice x n c] #[Value.int IntKind.i64 ku, Value.bool eu, Value.string tu, Value.slice xu nu cu] Ls Ks y' cp fp w5) := HI0.out.on b5
                  obtain ⟨g2, cap, w8, fp8, hr, ⟨hz8, hf8⟩, hyo, hb8, hI9⟩ := HI5.out.app s Kn x5 q5 fp5 Wd.heap.size hv hnd HI0.out.2.2.2.2.2.2.1 (fun b hb => (TrV.lt _ _ _ HI0.out.2.2.2.2.1 b hb).2) HLN.out
                  have HI9 : Hid (GrI w G #[Value.int IntKind.i64 k, Value.bool e, Value.string t, Value.slice x n c] #[Value.int IntKind.i64 ku, Value.bool eu, Value.string tu, Value.slice xu nu cu] (Ls ++ [s]) (Ks ++ [Kn]) (some ⟨g2, 0, none⟩) cap fp8 (w8.setCell ⟨G + 1 + 1 + 1, 3, none⟩ (.slice (some ⟨g2, 0, none⟩) (Ls.length + 1) cap))) := hI9
                  have hl5 : ∀ b ∈ [G + 1, E, gy], b < w5.heap.size := fun b hb => Nat.lt_of_lt_of_le (HBS.out b hb).1 b5.size
                  have N5 : KB [G + 1, E, gy] Wd w5 := N0.below (fun b hb => (HBS.out b hb).1) b5
                  have bN6 : Below w5.heap.size w5 (w5.alloc (Obj.cells #[Value.string s, Value.int IntKind.i64 Kn.k, Value.bool Kn.e, Value.string Kn.t, Value.slice x5 Kn.nms.length q5] 52)) := (Below.refl _ _).alloc (Nat.le_refl _) _
                  have N6 : KB [G + 1, E, gy] Wd (w5.alloc (Obj.cells #[Value.string s, Value.int IntKind.i64 Kn.k, Value.bool Kn.e, Value.string Kn.t, Value.slice x5 Kn.nms.length q5] 52)) := N5.below hl5 bN6
                  have N8 : KB [G + 1, E, gy] Wd w8 := N5.keep hl5 (fun b hb => (HBS.out b hb).2.1) hyo
                  have N9 : KB [G + 1, E, gy] Wd (w8.setCell ⟨G + 1 + 1 + 1, 3, none⟩ (.slice (some ⟨g2, 0, none⟩) (Ls.length + 1) cap)) := N8.set _ _ (fun b hb => (HBS.out b hb).2.2)
                  have H56 : Hid (w5.cell? ⟨G + 1 + 1 + 1, 3, none⟩ = some (.slice y' Ls.length cp) ∧ (w5.alloc (Obj.cells #[Value.string s, Value.int IntKind.i64 Kn.k, Value.bool Kn.e, Value.string Kn.t, Value.slice x5 Kn.nms.length q5] 52)).cell? ⟨G + 1 + 1 + 1, 3, none⟩ = some (.slice y' Ls.length cp)) := ⟨(cell4 HI5.out.2.2.2.1).2.2.2.1, (cell4 (HI5.out.on bN6).2.2.2.1).2.2.2.1⟩
                  clear hI9 hyo hb8 hv hnd b5 hl5 bN6 HI5
                  refine hK1.out _ _ N5 (fun _ => ?_)
                  clear hK1 K1
                  try simp only [Act.put, List.setIfInBounds_toArray, List.set_cons_zero, List.set_cons_succ]
                  refine wpAnyH_take (i := 10) (oi := { dst := some 79, op := Op.build 52 #[(0, Operand.tmp 73), (1, Operand.tmp 78)], type := 52, pos := "ref.go:375", after := #[{ on := 4, ground := Ground.data }, { on := 9, ground := Ground.data }], guard := none }) (v := .agg #[.string s, .int .i64 Kn.k, .bool Kn.e, .string Kn.t, .slice x5 Kn.nms.length q5]) rfl (by kernel_rfl) (by kernel_rfl) (by kernel_rfl) (fun _ _ _ h => h) (Or.inl ⟨by rfl, by intro w _; go_simp⟩) N5 ?_
                  try simp only [Act.put, List.setIfInBounds_toArray, List.set_cons_zero, List.set_cons_succ]
                  refine wpAnyH_ready (rs := [11]) (by kernel_rfl) (by decide) (AllReadyH.cons rfl (fun K1 hK1 => ?_) AllReadyH.nil)
                  rw [if_pos (by rfl)]
                  go_simp
                  refine hK1.out _ _ N6 (fun _ => ?_)
                  clear hK1 K1
                  try simp only [Act.put, List.setIfInBounds_toArray, List.set_cons_zero, List.set_cons_succ]
                  refine wpAnyH_ready (rs := [12]) (by kernel_rfl) (by decide) (AllReadyH.cons rfl (fun K1 hK1 => ?_) AllReadyH.nil)
                  refine step_append_runI (o := { dst := some 81, op := Op.call { callee := Callee.builtin Builtin.append, args := #[Operand.tmp 70, Operand.tmp 80], argTypes := #[30, 30] }, type := 30, pos := "ref.go:375", after := #[{ on := 1, ground := Ground.data }, { on := 11, ground := Ground.data }, { on := 9, ground := Ground.chain }], guard := none }) rfl (.tmp 70) (.tmp 80) 30 30 rfl _ _ rfl rfl hr ?_
                  refine hK1.out _ _ N8 (fun _ => ?_)
                  clear hK1 K1
                  try simp only [Act.put, List.setIfInBounds_toArray, List.set_cons_zero, List.set_cons_succ]
                  refine wpAnyH_take (i := 13) (oi := { dst := some 82, op := Op.fieldAddr 32 (Operand.tmp 7) 3, type := 0, pos := "ref.go:375", after := #[{ on := 0, ground := Ground.phase }, { on := 1, ground := Ground.phase }, { on := 2, ground := Ground.phase }, { on := 3, ground := Ground.phase }, { on := 4, ground := Ground.phase }, { on := 5, ground := Ground.phase }, { on := 6, ground := Ground.phase }, { on := 7, ground := Ground.phase }, { on := 8, ground := Ground.phase }, { on := 9, ground := Ground.phase }, { on := 10, ground := Ground.phase }, { on := 11, ground := Ground.phase }, { on := 12, ground := Ground.phase }], guard := none }) (v := .pointer (some ⟨G + 1 + 1 + 1, 3, none⟩)) rfl (by kernel_rfl) (by kernel_rfl) (by kernel_rfl) (fun _ _ _ h => h) (Or.inl ⟨by rfl, by intro w _; go_simp⟩) N8 ?_
                  try simp only [Act.put, List.setIfInBounds_toArray, List.set_cons_zero, List.set_cons_succ]
                  refine wpAnyH_ready (rs := [14]) (by kernel_rfl) (by decide) (AllReadyH.cons rfl (fun K1 hK1 => ?_) AllReadyH.nil)
                  rw [if_pos (by rfl)]
                  go_simp
                  refine hK1.out _ _ N9 (fun _ => ?_)
                  clear hK1 K1
                  refine wpAnyH_done (by kernel_rfl) ?_ _
                  clear N0 N5 N6 N8 N9 hr hz8 hf8 H56
                  generalize w8.setCell ⟨G + 1 + 1 + 1, 3, none⟩ (.slice (some ⟨g2, 0, none⟩) (Ls.length + 1) cap) = w9 at *
                  have hB9 : Hid (Below w.heap.size w w9) := by rw [Hid, HG.out]; exact HI9.out.2.2.2.2.2.2.2
                  by_cases hie : i = n
                  · skip
                    obtain ⟨u0, u1, u2, u3, _⟩ := cell4 HI9.out.1
                    have g1 : decide ((i : Int) < (n : Int)) = false := decide_eq_false (by omega)
                    have g1' : ¬ (i : Int) < (n : Int) := by omega
                    go_upto_region 14 with fail
                    go_quiet (fail)
                    go_wp2
                    go_roundw
                    case rel =>
                      refine ⟨i + 1, some ⟨g2, 0, none⟩, cap, fp8, Ls ++ [s], Ks ++ [Kn], by omega, by congr 1; symm; apply decide_eq_true; have := HIP.out; omega, by go_num, ?_, HI9.out.on (bel_drewN (Below.refl _ _) nq)⟩
                      have hq2 := HSUB.out.2
                      have e1 := gOut_end ns s
                      have e2 := gOut_end ks Kn
                      rw [LL.out.1, ← hie] at e1
                      rw [LL.out.2.1, ← hie] at e2
                      rw [hL.out.1, hL.out.2, hq2, ← HIP.out, e1, e2]
                      exact ⟨rfl, rfl⟩
                    case measure => simp [intOf]; omega
                  · skip
                    have hlt : i < n := by omega
                    obtain ⟨z, hz⟩ : ∃ z, ns[i]? = some z := ⟨_, List.getElem?_eq_getElem (by rw [LL.out.1]; omega)⟩
                    obtain ⟨K, hK⟩ : ∃ z, ks[i]? = some z := ⟨_, List.getElem?_eq_getElem (by rw [LL.out.2.1]; omega)⟩
                    have hzs : z ≠ s := fun e => HZ0.out (by rw [hz, e])
                    have g3 : (z.toList == s.toList) = false := by rw [beq_eq_false_iff_ne]; intro e; exact hzs (btl_inj e)
                    have g4 : (z.toList != s.toList) = true := by simp [bne, g3]
                    have g5 : ¬ z.toList = s.toList := fun e => hzs (btl_inj e)
                    obtain ⟨_, _, _, _, _, _, _, _, hxx, hgw, _⟩ := EX.out i z K hlt hz hK
                    obtain ⟨g, o, a, b, d', f', p', q', rfl, hg, c0, c1, c2, c3, c4, hA⟩ := EX.out.below hB9.out i z K hlt hz hK
                    injection hxx with hxx
                    injection hxx with h1 h2
                    subst h1 h2
                    have HZg : Hid (g < w.heap.size) := hgw
                    have HZ : Hid (ns[i]? = some z ∧ ks[i]? = some K ∧ z ≠ s ∧ lnT K) := ⟨hz, hK, hzs, lnL_at _ _ _ LL.out.2.2.2.1 hK⟩
                    have HLL : Hid ((Ls ++ [s]).length ≤ 1073741824) := by
                      rw [Hid, List.length_append, hL.out.1, HIP.out]
                      unfold gOut
                      rw [if_pos (Nat.le_refl _), List.length_take]
                      simp
                      have := HIP.out
                      omega
                    have HI9' := HI9
                    have hB9' := hB9
                    clear hz hK hzs hgw HLN HBS HI0 HB0 d0 d1 d2 d3 d4 d5 d6 d7 d8 CG HI9 hB9
                    rw [show Ls.length + 1 = (Ls ++ [s]).length by simp] at *
                    obtain ⟨L2, hL2⟩ : ∃ L2, L2 = Ls ++ [s] := ⟨_, rfl⟩
                    obtain ⟨K2, hK2⟩ : ∃ K2, K2 = Ks ++ [Kn] := ⟨_, rfl⟩
                    rw [← hL2, ← hK2] at HI9'
                    rw [← hL2] at HLL
                    have HL2 : Hid (L2 = Ls ++ [s] ∧ K2 = Ks ++ [Kn]) := ⟨hL2, hK2⟩
                    clear hL2 hK2
                    have HSP : Hid (g2 = g2) := rfl
                    obtain ⟨u0, u1, u2, u3, _⟩ := cell4 HI9'.out.1
                    have g1 : decide ((i : Int) < (n : Int)) = true := decide_eq_true (by omega)
                    have cy : w9.cell? ⟨gy, oy, none⟩ = some (.string s) := (hB9'.out.cell (p := ⟨gy, oy, none⟩) HMM.out.2.2.2.1).trans HMM.out.2.2.2.2
                    go_upto_region 14 with fail
                    go_quiet (fail)
                    have HI0 : Hid (GrI w G #[Value.int IntKind.i64 k, Value.bool e, Value.string t, Value.slice (some ⟨g, o, none⟩) n c] #[Value.int IntKind.i64 ku, Value.bool eu, Value.string tu, Value.slice xu nu cu] L2 K2 (some ⟨g2, 0, none⟩) cap fp8 (w9.drewN nq).drew) := HI9'.out.on ((bel_drewN (Below.refl _ _) nq).trans ⟨rfl, rfl, rfl, Nat.le_refl _, fun _ _ => rfl⟩)
                    have HB0 : Hid (Below w.heap.size w (w9.drewN nq).drew) := (bel_drewN hB9'.out nq).trans ⟨rfl, rfl, rfl, Nat.le_refl _, fun _ _ => rfl⟩
                    clear HI9' hB9' u0 u1 u2 u3 cy c0 c1 c2 c3 c4 hA hg
                    generalize w9.drewN nq = wx at *
                    obtain ⟨gz, oz, za, zb, zd, zf, zp, zq, hge, hg, d1, d2, d3, d4, d5, hA⟩ := EX.out.below HB0.out i z K hlt HZ.out.1 HZ.out.2.1
                    injection hge with hge
                    injection hge with h1 h2
                    subst h1 h2
                    have CG := clone_any _ _ K wx.drew hA HZ.out.2.2.2
                    obtain ⟨_, _, _, d0, _⟩ := cell4 HI0.out.1
                    have HLN : Hid (L2.length ≤ 1073741824) := HLL.out
                    have HBS : Hid (∀ b ∈ [G, g], b < wx.drew.heap.size ∧ b ∉ fp8 ∧ b ≠ G + 1 + 1 + 1) := by
                      have hgG : g < G := by rw [← HG.out]; exact HZg.out
                      have hsz := HI0.out.2.2.2.2.2.2.1
                      intro b hb
                      have hbG : b ≤ G := by
                        rcases List.mem_cons.1 hb with rfl | hb
                        · exact Nat.le_refl _
                        · simp at hb; omega
                      exact ⟨by omega, fun hf => by have := (TrV.lt _ _ _ HI0.out.2.2.2.2.1 b hf).1; omega, by omega⟩
                    clear hA
                    go_upto_region 15 with fail
                    refine wp_region_held_drew (S := KB [G, g] wx.drew) (by kernel_rfl) (KB.refl _ _) (fun _ => ?_)
                    have N0 : KB [G, g] wx.drew wx.drew := KB.refl _ _
                    generalize wx.drew = Wd at *
                    refine wpAnyH_take (i := 0) (oi := { dst := some 100, op := Op.fieldAddr 32 (Operand.tmp 7) 3, type := 0, pos := "ref.go:378", after := #[], guard := none }) (v := .pointer (some ⟨G + 1 + 1 + 1, 3, none⟩)) rfl (by kernel_rfl) (by kernel_rfl) (by kernel_rfl) (fun _ _ _ h => h) (Or.inl ⟨by rfl, by intro w _; go_simp⟩) N0 ?_
                    try simp only [Act.put, List.setIfInBounds_toArray, List.set_cons_zero, List.set_cons_succ]
                    refine wpAnyH_take (i := 2) (oi := { dst := some 102, op := Op.fieldAddr 32 (Operand.tmp 3) 3, type := 0, pos := "ref.go:378", after := #[], guard := none }) (v := .pointer (some ⟨G, 3, none⟩)) rfl (by kernel_rfl) (by kernel_rfl) (by kernel_rfl) (fun _ _ _ h => h) (Or.inl ⟨by rfl, by intro w _; go_simp⟩) N0 ?_
                    try simp only [Act.put, List.setIfInBounds_toArray, List.set_cons_zero, List.set_cons_succ]
                    refine wpAnyH_take (i := 3) (oi := { dst := some 103, op := Op.load 30 (Operand.tmp 102), type := 30, pos := "ref.go:378", after := #[{ on := 2, ground := Ground.data }], guard := none }) (v := .slice (some ⟨g, o, none⟩) n c) rfl (by kernel_rfl) (by kernel_rfl) (by kernel_rfl) (fun _ _ _ h => h) (Or.inl ⟨by rfl, by intro w hw; have y0 := hw.cell d0 (by simp); go_simp⟩) N0 ?_
                    try simp only [Act.put, List.setIfInBounds_toArray, List.set_cons_zero, List.set_cons_succ]
                    refine wpAnyH_take (i := 4) (oi := { dst := some 104, op := Op.move (Operand.tmp 9), type := 3, pos := "ref.go:378", after := #[], guard := none }) (v := .int .i64 (i : Int)) rfl (by kernel_rfl) (by kernel_rfl) (by kernel_rfl) (fun _ _ _ h => h) (Or.inl ⟨by rfl, by intro w _; go_simp⟩) N0 ?_
                    try simp only [Act.put, List.setIfInBounds_toArray, List.set_cons_zero, List.set_cons_succ]
                    refine wpAnyH_take (i := 5) (oi := { dst := some 105, op := Op.indexAddr 30 (Operand.tmp 103) (Operand.tmp 104), type := 0, pos := "ref.go:378", after := #[{ on := 3, ground := Ground.data }, { on := 4, ground := Ground.data }], guard := none }) (v := .pointer (some ⟨g, o + i * 5, none⟩)) rfl (by kernel_rfl) (by kernel_rfl) (by kernel_rfl) (fun _ _ _ h => h) (Or.inl ⟨by rfl, by intro w _; go_simp⟩) N0 ?_
                    try simp only [Act.put, List.setIfInBounds_toArray, List.set_cons_zero, List.set_cons_succ]
                    refine wpAnyH_take (i := 6) (oi := { dst := some 106, op := Op.fieldAddr 52 (Operand.tmp 105) 0, type := 0, pos := "ref.go:378", after := #[{ on := 5, ground := Ground.data }], guard := none }) (v := .pointer (some ⟨g, o + i * 5, none⟩)) rfl (by kernel_rfl) (by kernel_rfl) (by kernel_rfl) (fun _ _ _ h => h) (Or.inl ⟨by rfl, by intro w _; go_simp⟩) N0 ?_
                    try simp only [Act.put, List.setIfInBounds_toArray, List.set_cons_zero, List.set_cons_succ]
                    refine wpAnyH_take (i := 7) (oi := { dst := some 107, op := Op.load 9 (Operand.tmp 106), type := 9, pos := "ref.go:378", after := #[{ on := 6, ground := Ground.data }], guard := none }) (v := .string z) rfl (by kernel_rfl) (by kernel_rfl) (by kernel_rfl) (fun _ _ _ h => h) (Or.inl ⟨by rfl, by intro w hw; have y0 := hw.cell d1 (by simp); go_simp⟩) N0 ?_
                    try simp only [Act.put, List.setIfInBounds_toArray, List.set_cons_zero, List.set_cons_succ]
                    refine wpAnyH_take (i := 8) (oi := { dst := some 108, op := Op.fieldAddr 32 (Operand.tmp 3) 3, type := 0, pos := "ref.go:378", after := #[], guard := none }) (v := .pointer (some ⟨G, 3, none⟩)) rfl (by kernel_rfl) (by kernel_rfl) (by kernel_rfl) (fun _ _ _ h => h) (Or.inl ⟨by rfl, by intro w _; go_simp⟩) N0 ?_
                    try simp only [Act.put, List.setIfInBounds_toArray, List.set_cons_zero, List.set_cons_succ]
                    refine wpAnyH_take (i := 9) (oi := { dst := some 109, op := Op.load 30 (Operand.tmp 108), type := 30, pos := "ref.go:378", after := #[{ on := 8, ground := Ground.data }], guard := none }) (v := .slice (some ⟨g, o, none⟩) n c) rfl (by kernel_rfl) (by kernel_rfl) (by kernel_rfl) (fun _ _ _ h => h) (Or.inl ⟨by rfl, by intro w hw; have y0 := hw.cell d0 (by simp); go_simp⟩) N0 ?_
                    try simp only [Act.put, List.setIfInBounds_toArray, List.set_cons_zero, List.set_cons_succ]
                    refine wpAnyH_take (i := 10) (oi := { dst := some 110, op := Op.move (Operand.tmp 9), type := 3, pos := "ref.go:378", after := #[], guard := none }) (v := .int .i64 (i : Int)) rfl (by kernel_rfl) (by kernel_rfl) (by kernel_rfl) (fun _ _ _ h => h) (Or.inl ⟨by rfl, by intro w _; go_simp⟩) N0 ?_
                    try simp only [Act.put, List.setIfInBounds_toArray, List.set_cons_zero, List.set_cons_succ]
                    refine wpAnyH_take (i := 11) (oi := { dst := some 111, op := Op.indexAddr 30 (Operand.tmp 109) (Operand.tmp 110), type := 0, pos := "ref.go:378", after := #[{ on := 9, ground := Ground.data }, { on := 10, ground := Ground.data }], guard := none }) (v := .pointer (some ⟨g, o + i * 5, none⟩)) rfl (by kernel_rfl) (by kernel_rfl) (by kernel_rfl) (fun _ _ _ h => h) (Or.inl ⟨by rfl, by intro w _; go_simp⟩) N0 ?_
                    try simp only [Act.put, List.setIfInBounds_toArray, List.set_cons_zero, List.set_cons_succ]
                    refine wpAnyH_take (i := 12) (oi := { dst := some 112, op := Op.fieldAddr 52 (Operand.tmp 111) 1, type := 0, pos := "ref.go:378", after := #[{ on := 11, ground := Ground.data }], guard := none }) (v := .pointer (some ⟨g, o + i * 5 + 1, none⟩)) rfl (by kernel_rfl) (by kernel_rfl) (by kernel_rfl) (fun _ _ _ h => h) (Or.inl ⟨by rfl, by intro w _; go_simp⟩) N0 ?_
                    try simp only [Act.put, List.setIfInBounds_toArray, List.set_cons_zero, List.set_cons_succ]
                    refine wpAnyH_take (i := 13) (oi := { dst := some 113, op := Op.load 32 (Operand.tmp 112), type := 32, pos := "ref.go:378", after := #[{ on := 12, ground := Ground.data }], guard := none }) (v := .agg #[.int .i64 za, .bool zb, .string zd, .slice zf zp zq]) rfl (by kernel_rfl) (by kernel_rfl) (by kernel_rfl) (fun _ _ _ h => h) (Or.inl ⟨by rfl, by intro w hw; have y0 := hw.cell d2 (by simp); have y1 := hw.cell d3 (by simp); have y2 := hw.cell d4 (by simp); have y3 := hw.cell d5 (by simp); go_simp⟩) N0 ?_
                    try simp only [Act.put, List.setIfInBounds_toArray, List.set_cons_zero, List.set_cons_succ]
                    refine wpAnyH_ready (rs := [1, 14]) (by kernel_rfl) (by decide) (AllReadyH.cons rfl (fun K1 hK1 => ?_) (AllReadyH.cons rfl (fun K1 hK1 => ?_) AllReadyH.nil))
                    · skip
                      have kk := (cell4 HI0.out.2.2.2.1).2.2.2.1
                      rw [if_pos (by rfl)]
                      go_simp
                      refine hK1.out _ _ N0 (fun _ => ?_)
                      clear hK1 K1 kk
                      try simp only [Act.put, List.setIfInBounds_toArray, List.set_cons_zero, List.set_cons_succ]
                      refine wpAnyH_ready (rs := [14]) (by kernel_rfl) (by decide) (AllReadyH.cons rfl (fun K1 hK1 => ?_) AllReadyH.nil)
                      rw [if_pos (by rfl)]
                      go_simp
                      refine CG.mono ?_
                      rintro e5 w5 ⟨⟨v5, fp5, rfl, hv, hnd⟩, b5⟩
                      obtain ⟨x5, q5, rfl⟩ := hv.shape
                      have HI5 : Hid (GrI w G #[Value.int IntKind.i64 k, Value.bool e, Value.string t, Value.slice (some ⟨g, o, none⟩) n c] #[Value.int IntKind.i64 ku, Value.bool eu, Value.string tu, Value.slice xu nu cu] L2 K2 (some ⟨g2, 0, none⟩) cap fp8 w5) := HI0.out.on b5
                      obtain ⟨gq2, cap2, w8, fq8, hr, ⟨hz8, hf8⟩, hyo, hb8, hI9⟩ := HI5.out.app z K x5 q5 fp5 Wd.heap.size hv hnd HI0.out.2.2.2.2.2.2.1 (fun b hb => (TrV.lt _ _ _ HI0.out.2.2.2.2.1 b hb).2) HLN.out
                      have HI9 : Hid (GrI w G #[Value.int IntKind.i64 k, Value.bool e, Value.string t, Value.slice (some ⟨g, o, none⟩) n c] #[Value.int IntKind.i64 ku, Value.bool eu, Value.string tu, Value.slice xu nu cu] (L2 ++ [z]) (K2 ++ [K]) (some ⟨gq2, 0, none⟩) cap2 fq8 (w8.setCell ⟨G + 1 + 1 + 1, 3, none⟩ (.slice (some ⟨gq2, 0, none⟩) (L2.length + 1) cap2))) := hI9
                      have hl5 : ∀ b ∈ [G, g], b < w5.heap.size := fun b hb => Nat.lt_of_lt_of_le (HBS.out b hb).1 b5.size
                      have N5 : KB [G, g] Wd w5 := N0.below (fun b hb => (HBS.out b hb).1) b5
                      have bN6 : Below w5.heap.size w5 (w5.alloc (Obj.cells #[Value.string z, Value.int IntKind.i64 K.k, Value.bool K.e, Value.string K.t, Value.slice x5 K.nms.length q5] 52)) := (Below.refl _ _).alloc (Nat.le_refl _) _
                      have N6 : KB [G, g] Wd (w5.alloc (Obj.cells #[Value.string z, Value.int IntKind.i64 K.k, Value.bool K.e, Value.string K.t, Value.slice x5 K.nms.length q5] 52)) := N5.below hl5 bN6
                      have N8 : KB [G, g] Wd w8 := N5.keep hl5 (fun b hb => (HBS.out b hb).2.1) hyo
                      have N9 : KB [G, g] Wd (w8.setCell ⟨G + 1 + 1 + 1, 3, none⟩ (.slice (some ⟨gq2, 0, none⟩) (L2.length + 1) cap2)) := N8.set _ _ (fun b hb => (HBS.out b hb).2.2)
                      have H56 : Hid (w5.cell? ⟨G + 1 + 1 + 1, 3, none⟩ = some (.slice (some ⟨g2, 0, none⟩) L2.length cap) ∧ (w5.alloc (Obj.cells #[Value.string z, Value.int IntKind.i64 K.k, Value.bool K.e, Value.string K.t, Value.slice x5 K.nms.length q5] 52)).cell? ⟨G + 1 + 1 + 1, 3, none⟩ = some (.slice (some ⟨g2, 0, none⟩) L2.length cap)) := ⟨(cell4 HI5.out.2.2.2.1).2.2.2.1, (cell4 (HI5.out.on bN6).2.2.2.1).2.2.2.1⟩
                      clear hI9 hyo hb8 hv hnd b5 hl5 bN6 HI5
                      refine hK1.out _ _ N5 (fun _ => ?_)
                      clear hK1 K1
                      try simp only [Act.put, List.setIfInBounds_toArray, List.set_cons_zero, List.set_cons_succ]
                      refine wpAnyH_take (i := 15) (oi := { dst := some 115, op := Op.build 52 #[(0, Operand.tmp 107), (1, Operand.tmp 114)], type := 52, pos := "ref.go:378", after := #[{ on := 7, ground := Ground.data }, { on := 14, ground := Ground.data }], guard := none }) (v := .agg #[.string z, .int .i64 K.k, .bool K.e, .string K.t, .slice x5 K.nms.length q5]) rfl (by kernel_rfl) (by kernel_rfl) (by kernel_rfl) (fun _ _ _ h => h) (Or.inl ⟨by rfl, by intro w _; go_simp⟩) N5 ?_
                      try simp only [Act.put, List.setIfInBounds_toArray, List.set_cons_zero, List.set_cons_succ]
                      refine wpAnyH_ready (rs := [16]) (by kernel_rfl) (by decide) (AllReadyH.cons rfl (fun K1 hK1 => ?_) AllReadyH.nil)
                      rw [if_pos (by rfl)]
                      go_simp
                      refine hK1.out _ _ N6 (fun _ => ?_)
                      clear hK1 K1
                      try simp only [Act.put, List.setIfInBounds_toArray, List.set_cons_zero, List.set_cons_succ]
                      refine wpAnyH_ready (rs := [17]) (by kernel_rfl) (by decide) (AllReadyH.cons rfl (fun K1 hK1 => ?_) AllReadyH.nil)
                      refine step_append_runI (o := { dst := some 117, op := Op.call { callee := Callee.builtin Builtin.append, args := #[Operand.tmp 101, Operand.tmp 116], argTypes := #[30, 30] }, type := 30, pos := "ref.go:378", after := #[{ on := 1, ground := Ground.data }, { on := 16, ground := Ground.data }, { on := 14, ground := Ground.chain }], guard := none }) rfl (.tmp 101) (.tmp 116) 30 30 rfl _ _ rfl rfl hr ?_
                      refine hK1.out _ _ N8 (fun _ => ?_)
                      clear hK1 K1
                      try simp only [Act.put, List.setIfInBounds_toArray, List.set_cons_zero, List.set_cons_succ]
                      refine wpAnyH_take (i := 18) (oi := { dst := some 118, op := Op.fieldAddr 32 (Operand.tmp 7) 3, type := 0, pos := "ref.go:378", after := #[{ on := 0, ground := Ground.phase }, { on := 1, ground := Ground.phase }, { on := 2, ground := Ground.phase }, { on := 3, ground := Ground.phase }, { on := 4, ground := Ground.phase }, { on := 5, ground := Ground.phase }, { on := 6, ground := Ground.phase }, { on := 7, ground := Ground.phase }, { on := 8, ground := Ground.phase }, { on := 9, ground := Ground.phase }, { on := 10, ground := Ground.phase }, { on := 11, ground := Ground.phase }, { on := 12, ground := Ground.phase }, { on := 13, ground := Ground.phase }, { on := 14, ground := Ground.phase }, { on := 15, ground := Ground.phase }, { on := 16, ground := Ground.phase }, { on := 17, ground := Ground.phase }], guard := none }) (v := .pointer (some ⟨G + 1 + 1 + 1, 3, none⟩)) rfl (by kernel_rfl) (by kernel_rfl) (by kernel_rfl) (fun _ _ _ h => h) (Or.inl ⟨by rfl, by intro w _; go_simp⟩) N8 ?_
                      try simp only [Act.put, List.setIfInBounds_toArray, List.set_cons_zero, List.set_cons_succ]
                      refine wpAnyH_ready (rs := [19]) (by kernel_rfl) (by decide) (AllReadyH.cons rfl (fun K1 hK1 => ?_) AllReadyH.nil)
                      rw [if_pos (by rfl)]
                      go_simp
                      refine hK1.out _ _ N9 (fun _ => ?_)
                      clear hK1 K1
                      refine wpAnyH_done (by kernel_rfl) ?_ _
                      clear N0 N5 N6 N8 N9 hr hz8 hf8 H56
                      generalize w8.setCell ⟨G + 1 + 1 + 1, 3, none⟩ (.slice (some ⟨gq2, 0, none⟩) (L2.length + 1) cap2) = w9 at *
                      go_wp2
                      go_roundw
                      case rel =>
                        refine ⟨i + 1, some ⟨gq2, 0, none⟩, cap2, fq8, L2 ++ [z], K2 ++ [K], by omega, by first | rfl | (rw [HD.out]; congr 1; simp only [decide_eq_decide]; omega) | (congr 1; symm; apply decide_eq_true; have := HIP.out; omega), by go_num, ?_, HI9⟩
                        have hq2 := HSUB.out.2
                        rw [HL2.out.1, HL2.out.2, hL.out.1, hL.out.2, hq2, ← HIP.out]
                        exact ⟨(gOut_new HZ.out.1).symm, (gOut_new HZ.out.2.1).symm⟩
                      case measure => simp [intOf]; omega
                    · skip
                      rw [if_pos (by rfl)]
                      go_simp
                      refine CG.mono ?_
                      rintro e5 w5 ⟨⟨v5, fp5, rfl, hv, hnd⟩, b5⟩
                      obtain ⟨x5, q5, rfl⟩ := hv.shape
                      have HI5 : Hid (GrI w G #[Value.int IntKind.i64 k, Value.bool e, Value.string t, Value.slice (some ⟨g, o, none⟩) n c] #[Value.int IntKind.i64 ku, Value.bool eu, Value.string tu, Value.slice xu nu cu] L2 K2 (some ⟨g2, 0, none⟩) cap fp8 w5) := HI0.out.on b5
                      obtain ⟨gq2, cap2, w8, fq8, hr, ⟨hz8, hf8⟩, hyo, hb8, hI9⟩ := HI5.out.app z K x5 q5 fp5 Wd.heap.size hv hnd HI0.out.2.2.2.2.2.2.1 (fun b hb => (TrV.lt _ _ _ HI0.out.2.2.2.2.1 b hb).2) HLN.out
                      have HI9 : Hid (GrI w G #[Value.int IntKind.i64 k, Value.bool e, Value.string t, Value.slice (some ⟨g, o, none⟩) n c] #[Value.int IntKind.i64 ku, Value.bool eu, Value.string tu, Value.slice xu nu cu] (L2 ++ [z]) (K2 ++ [K]) (some ⟨gq2, 0, none⟩) cap2 fq8 (w8.setCell ⟨G + 1 + 1 + 1, 3, none⟩ (.slice (some ⟨gq2, 0, none⟩) (L2.length + 1) cap2))) := hI9
                      have hl5 : ∀ b ∈ [G, g], b < w5.heap.size := fun b hb => Nat.lt_of_lt_of_le (HBS.out b hb).1 b5.size
                      have N5 : KB [G, g] Wd w5 := N0.below (fun b hb => (HBS.out b hb).1) b5
                      have bN6 : Below w5.heap.size w5 (w5.alloc (Obj.cells #[Value.string z, Value.int IntKind.i64 K.k, Value.bool K.e, Value.string K.t, Value.slice x5 K.nms.length q5] 52)) := (Below.refl _ _).alloc (Nat.le_refl _) _
                      have N6 : KB [G, g] Wd (w5.alloc (Obj.cells #[Value.string z, Value.int IntKind.i64 K.k, Value.bool K.e, Value.string K.t, Value.slice x5 K.nms.length q5] 52)) := N5.below hl5 bN6
                      have N8 : KB [G, g] Wd w8 := N5.keep hl5 (fun b hb => (HBS.out b hb).2.1) hyo
                      have N9 : KB [G, g] Wd (w8.setCell ⟨G + 1 + 1 + 1, 3, none⟩ (.slice (some ⟨gq2, 0, none⟩) (L2.length + 1) cap2)) := N8.set _ _ (fun b hb => (HBS.out b hb).2.2)
                      have H56 : Hid (w5.cell? ⟨G + 1 + 1 + 1, 3, none⟩ = some (.slice (some ⟨g2, 0, none⟩) L2.length cap) ∧ (w5.alloc (Obj.cells #[Value.string z, Value.int IntKind.i64 K.k, Value.bool K.e, Value.string K.t, Value.slice x5 K.nms.length q5] 52)).cell? ⟨G + 1 + 1 + 1, 3, none⟩ = some (.slice (some ⟨g2, 0, none⟩) L2.length cap)) := ⟨(cell4 HI5.out.2.2.2.1).2.2.2.1, (cell4 (HI5.out.on bN6).2.2.2.1).2.2.2.1⟩
                      clear hI9 hyo hb8 hv hnd b5 hl5 bN6 HI5
                      refine hK1.out _ _ N5 (fun _ => ?_)
                      clear hK1 K1
                      try simp only [Act.put, List.setIfInBounds_toArray, List.set_cons_zero, List.set_cons_succ]
                      refine wpAnyH_take (i := 15) (oi := { dst := some 115, op := Op.build 52 #[(0, Operand.tmp 107), (1, Operand.tmp 114)], type := 52, pos := "ref.go:378", after := #[{ on := 7, ground := Ground.data }, { on := 14, ground := Ground.data }], guard := none }) (v := .agg #[.string z, .int .i64 K.k, .bool K.e, .string K.t, .slice x5 K.nms.length q5]) rfl (by kernel_rfl) (by kernel_rfl) (by kernel_rfl) (fun _ _ _ h => h) (Or.inl ⟨by rfl, by intro w _; go_simp⟩) N5 ?_
                      try simp only [Act.put, List.setIfInBounds_toArray, List.set_cons_zero, List.set_cons_succ]
                      refine wpAnyH_ready (rs := [1, 16]) (by kernel_rfl) (by decide) (AllReadyH.cons rfl (fun K1 hK1 => ?_) (AllReadyH.cons rfl (fun K1 hK1 => ?_) AllReadyH.nil))
                      · skip
                        have kk := H56.out.1
                        rw [if_pos (by rfl)]
                        go_simp
                        refine hK1.out _ _ N5 (fun _ => ?_)
                        clear hK1 K1 kk
                        try simp only [Act.put, List.setIfInBounds_toArray, List.set_cons_zero, List.set_cons_succ]
                        refine wpAnyH_ready (rs := [16]) (by kernel_rfl) (by decide) (AllReadyH.cons rfl (fun K1 hK1 => ?_) AllReadyH.nil)
                        rw [if_pos (by rfl)]
                        go_simp
                        refine hK1.out _ _ N6 (fun _ => ?_)
                        clear hK1 K1
                        try simp only [Act.put, List.setIfInBounds_toArray, List.set_cons_zero, List.set_cons_succ]
                        refine wpAnyH_ready (rs := [17]) (by kernel_rfl) (by decide) (AllReadyH.cons rfl (fun K1 hK1 => ?_) AllReadyH.nil)
                        refine step_append_runI (o := { dst := some 117, op := Op.call { callee := Callee.builtin Builtin.append, args := #[Operand.tmp 101, Operand.tmp 116], argTypes := #[30, 30] }, type := 30, pos := "ref.go:378", after := #[{ on := 1, ground := Ground.data }, { on := 16, ground := Ground.data }, { on := 14, ground := Ground.chain }], guard := none }) rfl (.tmp 101) (.tmp 116) 30 30 rfl _ _ rfl rfl hr ?_
                        refine hK1.out _ _ N8 (fun _ => ?_)
                        clear hK1 K1
                        try simp only [Act.put, List.setIfInBounds_toArray, List.set_cons_zero, List.set_cons_succ]
                        refine wpAnyH_take (i := 18) (oi := { dst := some 118, op := Op.fieldAddr 32 (Operand.tmp 7) 3, type := 0, pos := "ref.go:378", after := #[{ on := 0, ground := Ground.phase }, { on := 1, ground := Ground.phase }, { on := 2, ground := Ground.phase }, { on := 3, ground := Ground.phase }, { on := 4, ground := Ground.phase }, { on := 5, ground := Ground.phase }, { on := 6, ground := Ground.phase }, { on := 7, ground := Ground.phase }, { on := 8, ground := Ground.phase }, { on := 9, ground := Ground.phase }, { on := 10, ground := Ground.phase }, { on := 11, ground := Ground.phase }, { on := 12, ground := Ground.phase }, { on := 13, ground := Ground.phase }, { on := 14, ground := Ground.phase }, { on := 15, ground := Ground.phase }, { on := 16, ground := Ground.phase }, { on := 17, ground := Ground.phase }], guard := none }) (v := .pointer (some ⟨G + 1 + 1 + 1, 3, none⟩)) rfl (by kernel_rfl) (by kernel_rfl) (by kernel_rfl) (fun _ _ _ h => h) (Or.inl ⟨by rfl, by intro w _; go_simp⟩) N8 ?_
                        try simp only [Act.put, List.setIfInBounds_toArray, List.set_cons_zero, List.set_cons_succ]
                        refine wpAnyH_ready (rs := [19]) (by kernel_rfl) (by decide) (AllReadyH.cons rfl (fun K1 hK1 => ?_) AllReadyH.nil)
                        rw [if_pos (by rfl)]
                        go_simp
                        refine hK1.out _ _ N9 (fun _ => ?_)
                        clear hK1 K1
                        refine wpAnyH_done (by kernel_rfl) ?_ _
                        clear N0 N5 N6 N8 N9 hr hz8 hf8 H56
                        generalize w8.setCell ⟨G + 1 + 1 + 1, 3, none⟩ (.slice (some ⟨gq2, 0, none⟩) (L2.length + 1) cap2) = w9 at *
                        go_wp2
                        go_roundw
                        case rel =>
                          refine ⟨i + 1, some ⟨gq2, 0, none⟩, cap2, fq8, L2 ++ [z], K2 ++ [K], by omega, by first | rfl | (rw [HD.out]; congr 1; simp only [decide_eq_decide]; omega) | (congr 1; symm; apply decide_eq_true; have := HIP.out; omega), by go_num, ?_, HI9⟩
                          have hq2 := HSUB.out.2
                          rw [HL2.out.1, HL2.out.2, hL.out.1, hL.out.2, hq2, ← HIP.out]
                          exact ⟨(gOut_new HZ.out.1).symm, (gOut_new HZ.out.2.1).symm⟩
                        case measure => simp [intOf]; omega
                      · skip
                        rw [if_pos (by rfl)]
                        go_simp
                        refine hK1.out _ _ N6 (fun _ => ?_)
                        clear hK1 K1
                        try simp only [Act.put, List.setIfInBounds_toArray, List.set_cons_zero, List.set_cons_succ]
                        refine wpAnyH_ready (rs := [1]) (by kernel_rfl) (by decide) (AllReadyH.cons rfl (fun K1 hK1 => ?_) AllReadyH.nil)
                        have kk := H56.out.2
                        rw [if_pos (by rfl)]
                        go_simp
                        refine hK1.out _ _ N6 (fun _ => ?_)
                        clear hK1 K1 kk
                        try simp only [Act.put, List.setIfInBounds_toArray, List.set_cons_zero, List.set_cons_succ]
                        refine wpAnyH_ready (rs := [17]) (by kernel_rfl) (by decide) (AllReadyH.cons rfl (fun K1 hK1 => ?_) AllReadyH.nil)
                        refine step_append_runI (o := { dst := some 117, op := Op.call { callee := Callee.builtin Builtin.append, args := #[Operand.tmp 101, Operand.tmp 116], argTypes := #[30, 30] }, type := 30, pos := "ref.go:378", after := #[{ on := 1, ground := Ground.data }, { on := 16, ground := Ground.data }, { on := 14, ground := Ground.chain }], guard := none }) rfl (.tmp 101) (.tmp 116) 30 30 rfl _ _ rfl rfl hr ?_
                        refine hK1.out _ _ N8 (fun _ => ?_)
                        clear hK1 K1
                        try simp only [Act.put, List.setIfInBounds_toArray, List.set_cons_zero, List.set_cons_succ]
                        refine wpAnyH_take (i := 18) (oi := { dst := some 118, op := Op.fieldAddr 32 (Operand.tmp 7) 3, type := 0, pos := "ref.go:378", after := #[{ on := 0, ground := Ground.phase }, { on := 1, ground := Ground.phase }, { on := 2, ground := Ground.phase }, { on := 3, ground := Ground.phase }, { on := 4, ground := Ground.phase }, { on := 5, ground := Ground.phase }, { on := 6, ground := Ground.phase }, { on := 7, ground := Ground.phase }, { on := 8, ground := Ground.phase }, { on := 9, ground := Ground.phase }, { on := 10, ground := Ground.phase }, { on := 11, ground := Ground.phase }, { on := 12, ground := Ground.phase }, { on := 13, ground := Ground.phase }, { on := 14, ground := Ground.phase }, { on := 15, ground := Ground.phase }, { on := 16, ground := Ground.phase }, { on := 17, ground := Ground.phase }], guard := none }) (v := .pointer (some ⟨G + 1 + 1 + 1, 3, none⟩)) rfl (by kernel_rfl) (by kernel_rfl) (by kernel_rfl) (fun _ _ _ h => h) (Or.inl ⟨by rfl, by intro w _; go_simp⟩) N8 ?_
                        try simp only [Act.put, List.setIfInBounds_toArray, List.set_cons_zero, List.set_cons_succ]
                        refine wpAnyH_ready (rs := [19]) (by kernel_rfl) (by decide) (AllReadyH.cons rfl (fun K1 hK1 => ?_) AllReadyH.nil)
                        rw [if_pos (by rfl)]
                        go_simp
                        refine hK1.out _ _ N9 (fun _ => ?_)
                        clear hK1 K1
                        refine wpAnyH_done (by kernel_rfl) ?_ _
                        clear N0 N5 N6 N8 N9 hr hz8 hf8 H56
                        generalize w8.setCell ⟨G + 1 + 1 + 1, 3, none⟩ (.slice (some ⟨gq2, 0, none⟩) (L2.length + 1) cap2) = w9 at *
                        go_wp2
                        go_roundw
                        case rel =>
                          refine ⟨i + 1, some ⟨gq2, 0, none⟩, cap2, fq8, L2 ++ [z], K2 ++ [K], by omega, by first | rfl | (rw [HD.out]; congr 1; simp only [decide_eq_decide]; omega) | (congr 1; symm; apply decide_eq_true; have := HIP.out; omega), by go_num, ?_, HI9⟩
                          have hq2 := HSUB.out.2
                          rw [HL2.out.1, HL2.out.2, hL.out.1, hL.out.2, hq2, ← HIP.out]
                          exact ⟨(gOut_new HZ.out.1).symm, (gOut_new HZ.out.2.1).symm⟩
                        case measure => simp [intOf]; omega
                · skip
                  rw [if_pos (by rfl)]
                  go_simp
                  refine CG.mono ?_
                  rintro e5 w5 ⟨⟨v5, fp5, rfl, hv, hnd⟩, b5⟩
                  obtain ⟨x5, q5, rfl⟩ := hv.shape
                  have HI5 : Hid (GrI w G #[Value.int IntKind.i64 k, Value.bool e, Value.string t, Value.slice x n c] #[Value.int IntKind.i64 ku, Value.bool eu, Value.string tu, Value.slice xu nu cu] Ls Ks y' cp fp w5) := HI0.out.on b5
                  obtain ⟨g2, cap, w8, fp8, hr, ⟨hz8, hf8⟩, hyo, hb8, hI9⟩ := HI5.out.app s Kn x5 q5 fp5 Wd.heap.size hv hnd HI0.out.2.2.2.2.2.2.1 (fun b hb => (TrV.lt _ _ _ HI0.out.2.2.2.2.1 b hb).2) HLN.out
                  have HI9 : Hid (GrI w G #[Value.int IntKind.i64 k, Value.bool e, Value.string t, Value.slice x n c] #[Value.int IntKind.i64 ku, Value.bool eu, Value.string tu, Value.slice xu nu cu] (Ls ++ [s]) (Ks ++ [Kn]) (some ⟨g2, 0, none⟩) cap fp8 (w8.setCell ⟨G + 1 + 1 + 1, 3, none⟩ (.slice (some ⟨g2, 0, none⟩) (Ls.length + 1) cap))) := hI9
                  have hl5 : ∀ b ∈ [G + 1, E, gy], b < w5.heap.size := fun b hb => Nat.lt_of_lt_of_le (HBS.out b hb).1 b5.size
                  have N5 : KB [G + 1, E, gy] Wd w5 := N0.below (fun b hb => (HBS.out b hb).1) b5
                  have bN6 : Below w5.heap.size w5 (w5.alloc (Obj.cells #[Value.string s, Value.int IntKind.i64 Kn.k, Value.bool Kn.e, Value.string Kn.t, Value.slice x5 Kn.nms.length q5] 52)) := (Below.refl _ _).alloc (Nat.le_refl _) _
                  have N6 : KB [G + 1, E, gy] Wd (w5.alloc (Obj.cells #[Value.string s, Value.int IntKind.i64 Kn.k, Value.bool Kn.e, Value.string Kn.t, Value.slice x5 Kn.nms.length q5] 52)) := N5.below hl5 bN6
                  have N8 : KB [G + 1, E, gy] Wd w8 := N5.keep hl5 (fun b hb => (HBS.out b hb).2.1) hyo
                  have N9 : KB [G + 1, E, gy] Wd (w8.setCell ⟨G + 1 + 1 + 1, 3, none⟩ (.slice (some ⟨g2, 0, none⟩) (Ls.length + 1) cap)) := N8.set _ _ (fun b hb => (HBS.out b hb).2.2)
                  have H56 : Hid (w5.cell? ⟨G + 1 + 1 + 1, 3, none⟩ = some (.slice y' Ls.length cp) ∧ (w5.alloc (Obj.cells #[Value.string s, Value.int IntKind.i64 Kn.k, Value.bool Kn.e, Value.string Kn.t, Value.slice x5 Kn.nms.length q5] 52)).cell? ⟨G + 1 + 1 + 1, 3, none⟩ = some (.slice y' Ls.length cp)) := ⟨(cell4 HI5.out.2.2.2.1).2.2.2.1, (cell4 (HI5.out.on bN6).2.2.2.1).2.2.2.1⟩
                  clear hI9 hyo hb8 hv hnd b5 hl5 bN6 HI5
                  refine hK1.out _ _ N5 (fun _ => ?_)
                  clear hK1 K1
                  try simp only [Act.put, List.setIfInBounds_toArray, List.set_cons_zero, List.set_cons_succ]
                  refine wpAnyH_take (i := 10) (oi := { dst := some 79, op := Op.build 52 #[(0, Operand.tmp 73), (1, Operand.tmp 78)], type := 52, pos := "ref.go:375", after := #[{ on := 4, ground := Ground.data }, { on := 9, ground := Ground.data }], guard := none }) (v := .agg #[.string s, .int .i64 Kn.k, .bool Kn.e, .string Kn.t, .slice x5 Kn.nms.length q5]) rfl (by kernel_rfl) (by kernel_rfl) (by kernel_rfl) (fun _ _ _ h => h) (Or.inl ⟨by rfl, by intro w _; go_simp⟩) N5 ?_
                  try simp only [Act.put, List.setIfInBounds_toArray, List.set_cons_zero, List.set_cons_succ]
                  refine wpAnyH_ready (rs := [1, 11]) (by kernel_rfl) (by decide) (AllReadyH.cons rfl (fun K1 hK1 => ?_) (AllReadyH.cons rfl (fun K1 hK1 => ?_) AllReadyH.nil))
                  · skip
                    have kk := H56.out.1
                    rw [if_pos (by rfl)]
                    go_simp
                    refine hK1.out _ _ N5 (fun _ => ?_)
                    clear hK1 K1 kk
                    try simp only [Act.put, List.setIfInBounds_toArray, List.set_cons_zero, List.set_cons_succ]
                    refine wpAnyH_ready (rs := [11]) (by kernel_rfl) (by decide) (AllReadyH.cons rfl (fun K1 hK1 => ?_) AllReadyH.nil)
                    rw [if_pos (by rfl)]
                    go_simp
                    refine hK1.out _ _ N6 (fun _ => ?_)
                    clear hK1 K1
                    try simp only [Act.put, List.setIfInBounds_toArray, List.set_cons_zero, List.set_cons_succ]
                    refine wpAnyH_ready (rs := [12]) (by kernel_rfl) (by decide) (AllReadyH.cons rfl (fun K1 hK1 => ?_) AllReadyH.nil)
                    refine step_append_runI (o := { dst := some 81, op := Op.call { callee := Callee.builtin Builtin.append, args := #[Operand.tmp 70, Operand.tmp 80], argTypes := #[30, 30] }, type := 30, pos := "ref.go:375", after := #[{ on := 1, ground := Ground.data }, { on := 11, ground := Ground.data }, { on := 9, ground := Ground.chain }], guard := none }) rfl (.tmp 70) (.tmp 80) 30 30 rfl _ _ rfl rfl hr ?_
                    refine hK1.out _ _ N8 (fun _ => ?_)
                    clear hK1 K1
                    try simp only [Act.put, List.setIfInBounds_toArray, List.set_cons_zero, List.set_cons_succ]
                    refine wpAnyH_take (i := 13) (oi := { dst := some 82, op := Op.fieldAddr 32 (Operand.tmp 7) 3, type := 0, pos := "ref.go:375", after := #[{ on := 0, ground := Ground.phase }, { on := 1, ground := Ground.phase }, { on := 2, ground := Ground.phase }, { on := 3, ground := Ground.phase }, { on := 4, ground := Ground.phase }, { on := 5, ground := Ground.phase }, { on := 6, ground := Ground.phase }, { on := 7, ground := Ground.phase }, { on := 8, ground := Ground.phase }, { on := 9, ground := Ground.phase }, { on := 10, ground := Ground.phase }, { on := 11, ground := Ground.phase }, { on := 12, ground := Ground.phase }], guard := none }) (v := .pointer (some ⟨G + 1 + 1 + 1, 3, none⟩)) rfl (by kernel_rfl) (by kernel_rfl) (by kernel_rfl) (fun _ _ _ h => h) (Or.inl ⟨by rfl, by intro w _; go_simp⟩) N8 ?_
                    try simp only [Act.put, List.setIfInBounds_toArray, List.set_cons_zero, List.set_cons_succ]
                    refine wpAnyH_ready (rs := [14]) (by kernel_rfl) (by decide) (AllReadyH.cons rfl (fun K1 hK1 => ?_) AllReadyH.nil)
                    rw [if_pos (by rfl)]
                    go_simp
                    refine hK1.out _ _ N9 (fun _ => ?_)
                    clear hK1 K1
                    refine wpAnyH_done (by kernel_rfl) ?_ _
                    clear N0 N5 N6 N8 N9 hr hz8 hf8 H56
                    generalize w8.setCell ⟨G + 1 + 1 + 1, 3, none⟩ (.slice (some ⟨g2, 0, none⟩) (Ls.length + 1) cap) = w9 at *
                    have hB9 : Hid (Below w.heap.size w w9) := by rw [Hid, HG.out]; exact HI9.out.2.2.2.2.2.2.2
                    by_cases hie : i = n
                    · skip
                      obtain ⟨u0, u1, u2, u3, _⟩ := cell4 HI9.out.1
                      have g1 : decide ((i : Int) < (n : Int)) = false := decide_eq_false (by omega)
                      have g1' : ¬ (i : Int) < (n : Int) := by omega
                      go_upto_region 14 with fail
                      go_quiet (fail)
                      go_wp2
                      go_roundw
                      case rel =>
                        refine ⟨i + 1, some ⟨g2, 0, none⟩, cap, fp8, Ls ++ [s], Ks ++ [Kn], by omega, by congr 1; symm; apply decide_eq_true; have := HIP.out; omega, by go_num, ?_, HI9.out.on (bel_drewN (Below.refl _ _) nq)⟩
                        have hq2 := HSUB.out.2
                        have e1 := gOut_end ns s
                        have e2 := gOut_end ks Kn
                        rw [LL.out.1, ← hie] at e1
                        rw [LL.out.2.1, ← hie] at e2
                        rw [hL.out.1, hL.out.2, hq2, ← HIP.out, e1, e2]
                        exact ⟨rfl, rfl⟩
                      case measure => simp [intOf]; omega
                    · skip
                      have hlt : i < n := by omega
                      obtain ⟨z, hz⟩ : ∃ z, ns[i]? = some z := ⟨_, List.getElem?_eq_getElem (by rw [LL.out.1]; omega)⟩
                      obtain ⟨K, hK⟩ : ∃ z, ks[i]? = some z := ⟨_, List.getElem?_eq_getElem (by rw [LL.out.2.1]; omega)⟩
                      have hzs : z ≠ s := fun e => HZ0.out (by rw [hz, e])
                      have g3 : (z.toList == s.toList) = false := by rw [beq_eq_false_iff_ne]; intro e; exact hzs (btl_inj e)
                      have g4 : (z.toList != s.toList) = true := by simp [bne, g3]
                      have g5 : ¬ z.toList = s.toList := fun e => hzs (btl_inj e)
                      obtain ⟨_, _, _, _, _, _, _, _, hxx, hgw, _⟩ := EX.out i z K hlt hz hK
                      obtain ⟨g, o, a, b, d', f', p', q', rfl, hg, c0, c1, c2, c3, c4, hA⟩ := EX.out.below hB9.out i z K hlt hz hK
                      injection hxx with hxx
                      injection hxx with h1 h2
                      subst h1 h2
                      have HZg : Hid (g < w.heap.size) := hgw
                      have HZ : Hid (ns[i]? = some z ∧ ks[i]? = some K ∧ z ≠ s ∧ lnT K) := ⟨hz, hK, hzs, lnL_at _ _ _ LL.out.2.2.2.1 hK⟩
                      have HLL : Hid ((Ls ++ [s]).length ≤ 1073741824) := by
                        rw [Hid, List.length_append, hL.out.1, HIP.out]
                        unfold gOut
                        rw [if_pos (Nat.le_refl _), List.length_take]
                        simp
                        have := HIP.out
                        omega
                      have HI9' := HI9
                      have hB9' := hB9
                      clear hz hK hzs hgw HLN HBS HI0 HB0 d0 d1 d2 d3 d4 d5 d6 d7 d8 CG HI9 hB9
                      rw [show Ls.length + 1 = (Ls ++ [s]).length by simp] at *
                      obtain ⟨L2, hL2⟩ : ∃ L2, L2 = Ls ++ [s] := ⟨_, rfl⟩
                      obtain ⟨K2, hK2⟩ : ∃ K2, K2 = Ks ++ [Kn] := ⟨_, rfl⟩
                      rw [← hL2, ← hK2] at HI9'
                      rw [← hL2] at HLL
                      have HL2 : Hid (L2 = Ls ++ [s] ∧ K2 = Ks ++ [Kn]) := ⟨hL2, hK2⟩
                      clear hL2 hK2
                      have HSP : Hid (g2 = g2) := rfl
                      obtain ⟨u0, u1, u2, u3, _⟩ := cell4 HI9'.out.1
                      have g1 : decide ((i : Int) < (n : Int)) = true := decide_eq_true (by omega)
                      have cy : w9.cell? ⟨gy, oy, none⟩ = some (.string s) := (hB9'.out.cell (p := ⟨gy, oy, none⟩) HMM.out.2.2.2.1).trans HMM.out.2.2.2.2
                      go_upto_region 14 with fail
                      go_quiet (fail)
                      have HI0 : Hid (GrI w G #[Value.int IntKind.i64 k, Value.bool e, Value.string t, Value.slice (some ⟨g, o, none⟩) n c] #[Value.int IntKind.i64 ku, Value.bool eu, Value.string tu, Value.slice xu nu cu] L2 K2 (some ⟨g2, 0, none⟩) cap fp8 (w9.drewN nq).drew) := HI9'.out.on ((bel_drewN (Below.refl _ _) nq).trans ⟨rfl, rfl, rfl, Nat.le_refl _, fun _ _ => rfl⟩)
                      have HB0 : Hid (Below w.heap.size w (w9.drewN nq).drew) := (bel_drewN hB9'.out nq).trans ⟨rfl, rfl, rfl, Nat.le_refl _, fun _ _ => rfl⟩
                      clear HI9' hB9' u0 u1 u2 u3 cy c0 c1 c2 c3 c4 hA hg
                      generalize w9.drewN nq = wx at *
                      obtain ⟨gz, oz, za, zb, zd, zf, zp, zq, hge, hg, d1, d2, d3, d4, d5, hA⟩ := EX.out.below HB0.out i z K hlt HZ.out.1 HZ.out.2.1
                      injection hge with hge
                      injection hge with h1 h2
                      subst h1 h2
                      have CG := clone_any _ _ K wx.drew hA HZ.out.2.2.2
                      obtain ⟨_, _, _, d0, _⟩ := cell4 HI0.out.1
                      have HLN : Hid (L2.length ≤ 1073741824) := HLL.out
                      have HBS : Hid (∀ b ∈ [G, g], b < wx.drew.heap.size ∧ b ∉ fp8 ∧ b ≠ G + 1 + 1 + 1) := by
                        have hgG : g < G := by rw [← HG.out]; exact HZg.out
                        have hsz := HI0.out.2.2.2.2.2.2.1
                        intro b hb
                        have hbG : b ≤ G := by
                          rcases List.mem_cons.1 hb with rfl | hb
                          · exact Nat.le_refl _
                          · simp at hb; omega
                        exact ⟨by omega, fun hf => by have := (TrV.lt _ _ _ HI0.out.2.2.2.2.1 b hf).1; omega, by omega⟩
                      clear hA
                      go_upto_region 15 with fail
                      refine wp_region_held_drew (S := KB [G, g] wx.drew) (by kernel_rfl) (KB.refl _ _) (fun _ => ?_)
                      have N0 : KB [G, g] wx.drew wx.drew := KB.refl _ _
                      generalize wx.drew = Wd at *
                      refine wpAnyH_take (i := 0) (oi := { dst := some 100, op := Op.fieldAddr 32 (Operand.tmp 7) 3, type := 0, pos := "ref.go:378", after := #[], guard := none }) (v := .pointer (some ⟨G + 1 + 1 + 1, 3, none⟩)) rfl (by kernel_rfl) (by kernel_rfl) (by kernel_rfl) (fun _ _ _ h => h) (Or.inl ⟨by rfl, by intro w _; go_simp⟩) N0 ?_
                      try simp only [Act.put, List.setIfInBounds_toArray, List.set_cons_zero, List.set_cons_succ]
                      refine wpAnyH_take (i := 2) (oi := { dst := some 102, op := Op.fieldAddr 32 (Operand.tmp 3) 3, type := 0, pos := "ref.go:378", after := #[], guard := none }) (v := .pointer (some ⟨G, 3, none⟩)) rfl (by kernel_rfl) (by kernel_rfl) (by kernel_rfl) (fun _ _ _ h => h) (Or.inl ⟨by rfl, by intro w _; go_simp⟩) N0 ?_
                      try simp only [Act.put, List.setIfInBounds_toArray, List.set_cons_zero, List.set_cons_succ]
                      refine wpAnyH_take (i := 3) (oi := { dst := some 103, op := Op.load 30 (Operand.tmp 102), type := 30, pos := "ref.go:378", after := #[{ on := 2, ground := Ground.data }], guard := none }) (v := .slice (some ⟨g, o, none⟩) n c) rfl (by kernel_rfl) (by kernel_rfl) (by kernel_rfl) (fun _ _ _ h => h) (Or.inl ⟨by rfl, by intro w hw; have y0 := hw.cell d0 (by simp); go_simp⟩) N0 ?_
                      try simp only [Act.put, List.setIfInBounds_toArray, List.set_cons_zero, List.set_cons_succ]
                      refine wpAnyH_take (i := 4) (oi := { dst := some 104, op := Op.move (Operand.tmp 9), type := 3, pos := "ref.go:378", after := #[], guard := none }) (v := .int .i64 (i : Int)) rfl (by kernel_rfl) (by kernel_rfl) (by kernel_rfl) (fun _ _ _ h => h) (Or.inl ⟨by rfl, by intro w _; go_simp⟩) N0 ?_
                      try simp only [Act.put, List.setIfInBounds_toArray, List.set_cons_zero, List.set_cons_succ]
                      refine wpAnyH_take (i := 5) (oi := { dst := some 105, op := Op.indexAddr 30 (Operand.tmp 103) (Operand.tmp 104), type := 0, pos := "ref.go:378", after := #[{ on := 3, ground := Ground.data }, { on := 4, ground := Ground.data }], guard := none }) (v := .pointer (some ⟨g, o + i * 5, none⟩)) rfl (by kernel_rfl) (by kernel_rfl) (by kernel_rfl) (fun _ _ _ h => h) (Or.inl ⟨by rfl, by intro w _; go_simp⟩) N0 ?_
                      try simp only [Act.put, List.setIfInBounds_toArray, List.set_cons_zero, List.set_cons_succ]
                      refine wpAnyH_take (i := 6) (oi := { dst := some 106, op := Op.fieldAddr 52 (Operand.tmp 105) 0, type := 0, pos := "ref.go:378", after := #[{ on := 5, ground := Ground.data }], guard := none }) (v := .pointer (some ⟨g, o + i * 5, none⟩)) rfl (by kernel_rfl) (by kernel_rfl) (by kernel_rfl) (fun _ _ _ h => h) (Or.inl ⟨by rfl, by intro w _; go_simp⟩) N0 ?_
                      try simp only [Act.put, List.setIfInBounds_toArray, List.set_cons_zero, List.set_cons_succ]
                      refine wpAnyH_take (i := 7) (oi := { dst := some 107, op := Op.load 9 (Operand.tmp 106), type := 9, pos := "ref.go:378", after := #[{ on := 6, ground := Ground.data }], guard := none }) (v := .string z) rfl (by kernel_rfl) (by kernel_rfl) (by kernel_rfl) (fun _ _ _ h => h) (Or.inl ⟨by rfl, by intro w hw; have y0 := hw.cell d1 (by simp); go_simp⟩) N0 ?_
                      try simp only [Act.put, List.setIfInBounds_toArray, List.set_cons_zero, List.set_cons_succ]
                      refine wpAnyH_take (i := 8) (oi := { dst := some 108, op := Op.fieldAddr 32 (Operand.tmp 3) 3, type := 0, pos := "ref.go:378", after := #[], guard := none }) (v := .pointer (some ⟨G, 3, none⟩)) rfl (by kernel_rfl) (by kernel_rfl) (by kernel_rfl) (fun _ _ _ h => h) (Or.inl ⟨by rfl, by intro w _; go_simp⟩) N0 ?_
                      try simp only [Act.put, List.setIfInBounds_toArray, List.set_cons_zero, List.set_cons_succ]
                      refine wpAnyH_take (i := 9) (oi := { dst := some 109, op := Op.load 30 (Operand.tmp 108), type := 30, pos := "ref.go:378", after := #[{ on := 8, ground := Ground.data }], guard := none }) (v := .slice (some ⟨g, o, none⟩) n c) rfl (by kernel_rfl) (by kernel_rfl) (by kernel_rfl) (fun _ _ _ h => h) (Or.inl ⟨by rfl, by intro w hw; have y0 := hw.cell d0 (by simp); go_simp⟩) N0 ?_
                      try simp only [Act.put, List.setIfInBounds_toArray, List.set_cons_zero, List.set_cons_succ]
                      refine wpAnyH_take (i := 10) (oi := { dst := some 110, op := Op.move (Operand.tmp 9), type := 3, pos := "ref.go:378", after := #[], guard := none }) (v := .int .i64 (i : Int)) rfl (by kernel_rfl) (by kernel_rfl) (by kernel_rfl) (fun _ _ _ h => h) (Or.inl ⟨by rfl, by intro w _; go_simp⟩) N0 ?_
                      try simp only [Act.put, List.setIfInBounds_toArray, List.set_cons_zero, List.set_cons_succ]
                      refine wpAnyH_take (i := 11) (oi := { dst := some 111, op := Op.indexAddr 30 (Operand.tmp 109) (Operand.tmp 110), type := 0, pos := "ref.go:378", after := #[{ on := 9, ground := Ground.data }, { on := 10, ground := Ground.data }], guard := none }) (v := .pointer (some ⟨g, o + i * 5, none⟩)) rfl (by kernel_rfl) (by kernel_rfl) (by kernel_rfl) (fun _ _ _ h => h) (Or.inl ⟨by rfl, by intro w _; go_simp⟩) N0 ?_
                      try simp only [Act.put, List.setIfInBounds_toArray, List.set_cons_zero, List.set_cons_succ]
                      refine wpAnyH_take (i := 12) (oi := { dst := some 112, op := Op.fieldAddr 52 (Operand.tmp 111) 1, type := 0, pos := "ref.go:378", after := #[{ on := 11, ground := Ground.data }], guard := none }) (v := .pointer (some ⟨g, o + i * 5 + 1, none⟩)) rfl (by kernel_rfl) (by kernel_rfl) (by kernel_rfl) (fun _ _ _ h => h) (Or.inl ⟨by rfl, by intro w _; go_simp⟩) N0 ?_
                      try simp only [Act.put, List.setIfInBounds_toArray, List.set_cons_zero, List.set_cons_succ]
                      refine wpAnyH_take (i := 13) (oi := { dst := some 113, op := Op.load 32 (Operand.tmp 112), type := 32, pos := "ref.go:378", after := #[{ on := 12, ground := Ground.data }], guard := none }) (v := .agg #[.int .i64 za, .bool zb, .string zd, .slice zf zp zq]) rfl (by kernel_rfl) (by kernel_rfl) (by kernel_rfl) (fun _ _ _ h => h) (Or.inl ⟨by rfl, by intro w hw; have y0 := hw.cell d2 (by simp); have y1 := hw.cell d3 (by simp); have y2 := hw.cell d4 (by simp); have y3 := hw.cell d5 (by simp); go_simp⟩) N0 ?_
                      try simp only [Act.put, List.setIfInBounds_toArray, List.set_cons_zero, List.set_cons_succ]
                      refine wpAnyH_ready (rs := [1, 14]) (by kernel_rfl) (by decide) (AllReadyH.cons rfl (fun K1 hK1 => ?_) (AllReadyH.cons rfl (fun K1 hK1 => ?_) AllReadyH.nil))
                      · skip
                        have kk := (cell4 HI0.out.2.2.2.1).2.2.2.1
                        rw [if_pos (by rfl)]
                        go_simp
                        refine hK1.out _ _ N0 (fun _ => ?_)
                        clear hK1 K1 kk
                        try simp only [Act.put, List.setIfInBounds_toArray, List.set_cons_zero, List.set_cons_succ]
                        refine wpAnyH_ready (rs := [14]) (by kernel_rfl) (by decide) (AllReadyH.cons rfl (fun K1 hK1 => ?_) AllReadyH.nil)
                        rw [if_pos (by rfl)]
                        go_simp
                        refine CG.mono ?_
                        rintro e5 w5 ⟨⟨v5, fp5, rfl, hv, hnd⟩, b5⟩
                        obtain ⟨x5, q5, rfl⟩ := hv.shape
                        have HI5 : Hid (GrI w G #[Value.int IntKind.i64 k, Value.bool e, Value.string t, Value.slice (some ⟨g, o, none⟩) n c] #[Value.int IntKind.i64 ku, Value.bool eu, Value.string tu, Value.slice xu nu cu] L2 K2 (some ⟨g2, 0, none⟩) cap fp8 w5) := HI0.out.on b5
                        obtain ⟨gq2, cap2, w8, fq8, hr, ⟨hz8, hf8⟩, hyo, hb8, hI9⟩ := HI5.out.app z K x5 q5 fp5 Wd.heap.size hv hnd HI0.out.2.2.2.2.2.2.1 (fun b hb => (TrV.lt _ _ _ HI0.out.2.2.2.2.1 b hb).2) HLN.out
                        have HI9 : Hid (GrI w G #[Value.int IntKind.i64 k, Value.bool e, Value.string t, Value.slice (some ⟨g, o, none⟩) n c] #[Value.int IntKind.i64 ku, Value.bool eu, Value.string tu, Value.slice xu nu cu] (L2 ++ [z]) (K2 ++ [K]) (some ⟨gq2, 0, none⟩) cap2 fq8 (w8.setCell ⟨G + 1 + 1 + 1, 3, none⟩ (.slice (some ⟨gq2, 0, none⟩) (L2.length + 1) cap2))) := hI9
                        have hl5 : ∀ b ∈ [G, g], b < w5.heap.size := fun b hb => Nat.lt_of_lt_of_le (HBS.out b hb).1 b5.size
                        have N5 : KB [G, g] Wd w5 := N0.below (fun b hb => (HBS.out b hb).1) b5
                        have bN6 : Below w5.heap.size w5 (w5.alloc (Obj.cells #[Value.string z, Value.int IntKind.i64 K.k, Value.bool K.e, Value.string K.t, Value.slice x5 K.nms.length q5] 52)) := (Below.refl _ _).alloc (Nat.le_refl _) _
                        have N6 : KB [G, g] Wd (w5.alloc (Obj.cells #[Value.string z, Value.int IntKind.i64 K.k, Value.bool K.e, Value.string K.t, Value.slice x5 K.nms.length q5] 52)) := N5.below hl5 bN6
                        have N8 : KB [G, g] Wd w8 := N5.keep hl5 (fun b hb => (HBS.out b hb).2.1) hyo
                        have N9 : KB [G, g] Wd (w8.setCell ⟨G + 1 + 1 + 1, 3, none⟩ (.slice (some ⟨gq2, 0, none⟩) (L2.length + 1) cap2)) := N8.set _ _ (fun b hb => (HBS.out b hb).2.2)
                        have H56 : Hid (w5.cell? ⟨G + 1 + 1 + 1, 3, none⟩ = some (.slice (some ⟨g2, 0, none⟩) L2.length cap) ∧ (w5.alloc (Obj.cells #[Value.string z, Value.int IntKind.i64 K.k, Value.bool K.e, Value.string K.t, Value.slice x5 K.nms.length q5] 52)).cell? ⟨G + 1 + 1 + 1, 3, none⟩ = some (.slice (some ⟨g2, 0, none⟩) L2.length cap)) := ⟨(cell4 HI5.out.2.2.2.1).2.2.2.1, (cell4 (HI5.out.on bN6).2.2.2.1).2.2.2.1⟩
                        clear hI9 hyo hb8 hv hnd b5 hl5 bN6 HI5
                        refine hK1.out _ _ N5 (fun _ => ?_)
                        clear hK1 K1
                        try simp only [Act.put, List.setIfInBounds_toArray, List.set_cons_zero, List.set_cons_succ]
                        refine wpAnyH_take (i := 15) (oi := { dst := some 115, op := Op.build 52 #[(0, Operand.tmp 107), (1, Operand.tmp 114)], type := 52, pos := "ref.go:378", after := #[{ on := 7, ground := Ground.data }, { on := 14, ground := Ground.data }], guard := none }) (v := .agg #[.string z, .int .i64 K.k, .bool K.e, .string K.t, .slice x5 K.nms.length q5]) rfl (by kernel_rfl) (by kernel_rfl) (by kernel_rfl) (fun _ _ _ h => h) (Or.inl ⟨by rfl, by intro w _; go_simp⟩) N5 ?_
                        try simp only [Act.put, List.setIfInBounds_toArray, List.set_cons_zero, List.set_cons_succ]
                        refine wpAnyH_ready (rs := [16]) (by kernel_rfl) (by decide) (AllReadyH.cons rfl (fun K1 hK1 => ?_) AllReadyH.nil)
                        rw [if_pos (by rfl)]
                        go_simp
                        refine hK1.out _ _ N6 (fun _ => ?_)
                        clear hK1 K1
                        try simp only [Act.put, List.setIfInBounds_toArray, List.set_cons_zero, List.set_cons_succ]
                        refine wpAnyH_ready (rs := [17]) (by kernel_rfl) (by decide) (AllReadyH.cons rfl (fun K1 hK1 => ?_) AllReadyH.nil)
                        refine step_append_runI (o := { dst := some 117, op := Op.call { callee := Callee.builtin Builtin.append, args := #[Operand.tmp 101, Operand.tmp 116], argTypes := #[30, 30] }, type := 30, pos := "ref.go:378", after := #[{ on := 1, ground := Ground.data }, { on := 16, ground := Ground.data }, { on := 14, ground := Ground.chain }], guard := none }) rfl (.tmp 101) (.tmp 116) 30 30 rfl _ _ rfl rfl hr ?_
                        refine hK1.out _ _ N8 (fun _ => ?_)
                        clear hK1 K1
                        try simp only [Act.put, List.setIfInBounds_toArray, List.set_cons_zero, List.set_cons_succ]
                        refine wpAnyH_take (i := 18) (oi := { dst := some 118, op := Op.fieldAddr 32 (Operand.tmp 7) 3, type := 0, pos := "ref.go:378", after := #[{ on := 0, ground := Ground.phase }, { on := 1, ground := Ground.phase }, { on := 2, ground := Ground.phase }, { on := 3, ground := Ground.phase }, { on := 4, ground := Ground.phase }, { on := 5, ground := Ground.phase }, { on := 6, ground := Ground.phase }, { on := 7, ground := Ground.phase }, { on := 8, ground := Ground.phase }, { on := 9, ground := Ground.phase }, { on := 10, ground := Ground.phase }, { on := 11, ground := Ground.phase }, { on := 12, ground := Ground.phase }, { on := 13, ground := Ground.phase }, { on := 14, ground := Ground.phase }, { on := 15, ground := Ground.phase }, { on := 16, ground := Ground.phase }, { on := 17, ground := Ground.phase }], guard := none }) (v := .pointer (some ⟨G + 1 + 1 + 1, 3, none⟩)) rfl (by kernel_rfl) (by kernel_rfl) (by kernel_rfl) (fun _ _ _ h => h) (Or.inl ⟨by rfl, by intro w _; go_simp⟩) N8 ?_
                        try simp only [Act.put, List.setIfInBounds_toArray, List.set_cons_zero, List.set_cons_succ]
                        refine wpAnyH_ready (rs := [19]) (by kernel_rfl) (by decide) (AllReadyH.cons rfl (fun K1 hK1 => ?_) AllReadyH.nil)
                        rw [if_pos (by rfl)]
                        go_simp
                        refine hK1.out _ _ N9 (fun _ => ?_)
                        clear hK1 K1
                        refine wpAnyH_done (by kernel_rfl) ?_ _
                        clear N0 N5 N6 N8 N9 hr hz8 hf8 H56
                        generalize w8.setCell ⟨G + 1 + 1 + 1, 3, none⟩ (.slice (some ⟨gq2, 0, none⟩) (L2.length + 1) cap2) = w9 at *
                        go_wp2
                        go_roundw
                        case rel =>
                          refine ⟨i + 1, some ⟨gq2, 0, none⟩, cap2, fq8, L2 ++ [z], K2 ++ [K], by omega, by first | rfl | (rw [HD.out]; congr 1; simp only [decide_eq_decide]; omega) | (congr 1; symm; apply decide_eq_true; have := HIP.out; omega), by go_num, ?_, HI9⟩
                          have hq2 := HSUB.out.2
                          rw [HL2.out.1, HL2.out.2, hL.out.1, hL.out.2, hq2, ← HIP.out]
                          exact ⟨(gOut_new HZ.out.1).symm, (gOut_new HZ.out.2.1).symm⟩
                        case measure => simp [intOf]; omega
                      · skip
                        rw [if_pos (by rfl)]
                        go_simp
                        refine CG.mono ?_
                        rintro e5 w5 ⟨⟨v5, fp5, rfl, hv, hnd⟩, b5⟩
                        obtain ⟨x5, q5, rfl⟩ := hv.shape
                        have HI5 : Hid (GrI w G #[Value.int IntKind.i64 k, Value.bool e, Value.string t, Value.slice (some ⟨g, o, none⟩) n c] #[Value.int IntKind.i64 ku, Value.bool eu, Value.string tu, Value.slice xu nu cu] L2 K2 (some ⟨g2, 0, none⟩) cap fp8 w5) := HI0.out.on b5
                        obtain ⟨gq2, cap2, w8, fq8, hr, ⟨hz8, hf8⟩, hyo, hb8, hI9⟩ := HI5.out.app z K x5 q5 fp5 Wd.heap.size hv hnd HI0.out.2.2.2.2.2.2.1 (fun b hb => (TrV.lt _ _ _ HI0.out.2.2.2.2.1 b hb).2) HLN.out
                        have HI9 : Hid (GrI w G #[Value.int IntKind.i64 k, Value.bool e, Value.string t, Value.slice (some ⟨g, o, none⟩) n c] #[Value.int IntKind.i64 ku, Value.bool eu, Value.string tu, Value.slice xu nu cu] (L2 ++ [z]) (K2 ++ [K]) (some ⟨gq2, 0, none⟩) cap2 fq8 (w8.setCell ⟨G + 1 + 1 + 1, 3, none⟩ (.slice (some ⟨gq2, 0, none⟩) (L2.length + 1) cap2))) := hI9
                        have hl5 : ∀ b ∈ [G, g], b < w5.heap.size := fun b hb => Nat.lt_of_lt_of_le (HBS.out b hb).1 b5.size
                        have N5 : KB [G, g] Wd w5 := N0.below (fun b hb => (HBS.out b hb).1) b5
                        have bN6 : Below w5.heap.size w5 (w5.alloc (Obj.cells #[Value.string z, Value.int IntKind.i64 K.k, Value.bool K.e, Value.string K.t, Value.slice x5 K.nms.length q5] 52)) := (Below.refl _ _).alloc (Nat.le_refl _) _
                        have N6 : KB [G, g] Wd (w5.alloc (Obj.cells #[Value.string z, Value.int IntKind.i64 K.k, Value.bool K.e, Value.string K.t, Value.slice x5 K.nms.length q5] 52)) := N5.below hl5 bN6
                        have N8 : KB [G, g] Wd w8 := N5.keep hl5 (fun b hb => (HBS.out b hb).2.1) hyo
                        have N9 : KB [G, g] Wd (w8.setCell ⟨G + 1 + 1 + 1, 3, none⟩ (.slice (some ⟨gq2, 0, none⟩) (L2.length + 1) cap2)) := N8.set _ _ (fun b hb => (HBS.out b hb).2.2)
                        have H56 : Hid (w5.cell? ⟨G + 1 + 1 + 1, 3, none⟩ = some (.slice (some ⟨g2, 0, none⟩) L2.length cap) ∧ (w5.alloc (Obj.cells #[Value.string z, Value.int IntKind.i64 K.k, Value.bool K.e, Value.string K.t, Value.slice x5 K.nms.length q5] 52)).cell? ⟨G + 1 + 1 + 1, 3, none⟩ = some (.slice (some ⟨g2, 0, none⟩) L2.length cap)) := ⟨(cell4 HI5.out.2.2.2.1).2.2.2.1, (cell4 (HI5.out.on bN6).2.2.2.1).2.2.2.1⟩
                        clear hI9 hyo hb8 hv hnd b5 hl5 bN6 HI5
                        refine hK1.out _ _ N5 (fun _ => ?_)
                        clear hK1 K1
                        try simp only [Act.put, List.setIfInBounds_toArray, List.set_cons_zero, List.set_cons_succ]
                        refine wpAnyH_take (i := 15) (oi := { dst := some 115, op := Op.build 52 #[(0, Operand.tmp 107), (1, Operand.tmp 114)], type := 52, pos := "ref.go:378", after := #[{ on := 7, ground := Ground.data }, { on := 14, ground := Ground.data }], guard := none }) (v := .agg #[.string z, .int .i64 K.k, .bool K.e, .string K.t, .slice x5 K.nms.length q5]) rfl (by kernel_rfl) (by kernel_rfl) (by kernel_rfl) (fun _ _ _ h => h) (Or.inl ⟨by rfl, by intro w _; go_simp⟩) N5 ?_
                        try simp only [Act.put, List.setIfInBounds_toArray, List.set_cons_zero, List.set_cons_succ]
                        refine wpAnyH_ready (rs := [1, 16]) (by kernel_rfl) (by decide) (AllReadyH.cons rfl (fun K1 hK1 => ?_) (AllReadyH.cons rfl (fun K1 hK1 => ?_) AllReadyH.nil))
                        · skip
                          have kk := H56.out.1
                          rw [if_pos (by rfl)]
                          go_simp
                          refine hK1.out _ _ N5 (fun _ => ?_)
                          clear hK1 K1 kk
                          try simp only [Act.put, List.setIfInBounds_toArray, List.set_cons_zero, List.set_cons_succ]
                          refine wpAnyH_ready (rs := [16]) (by kernel_rfl) (by decide) (AllReadyH.cons rfl (fun K1 hK1 => ?_) AllReadyH.nil)
                          rw [if_pos (by rfl)]
                          go_simp
                          refine hK1.out _ _ N6 (fun _ => ?_)
                          clear hK1 K1
                          try simp only [Act.put, List.setIfInBounds_toArray, List.set_cons_zero, List.set_cons_succ]
                          refine wpAnyH_ready (rs := [17]) (by kernel_rfl) (by decide) (AllReadyH.cons rfl (fun K1 hK1 => ?_) AllReadyH.nil)
                          refine step_append_runI (o := { dst := some 117, op := Op.call { callee := Callee.builtin Builtin.append, args := #[Operand.tmp 101, Operand.tmp 116], argTypes := #[30, 30] }, type := 30, pos := "ref.go:378", after := #[{ on := 1, ground := Ground.data }, { on := 16, ground := Ground.data }, { on := 14, ground := Ground.chain }], guard := none }) rfl (.tmp 101) (.tmp 116) 30 30 rfl _ _ rfl rfl hr ?_
                          refine hK1.out _ _ N8 (fun _ => ?_)
                          clear hK1 K1
                          try simp only [Act.put, List.setIfInBounds_toArray, List.set_cons_zero, List.set_cons_succ]
                          refine wpAnyH_take (i := 18) (oi := { dst := some 118, op := Op.fieldAddr 32 (Operand.tmp 7) 3, type := 0, pos := "ref.go:378", after := #[{ on := 0, ground := Ground.phase }, { on := 1, ground := Ground.phase }, { on := 2, ground := Ground.phase }, { on := 3, ground := Ground.phase }, { on := 4, ground := Ground.phase }, { on := 5, ground := Ground.phase }, { on := 6, ground := Ground.phase }, { on := 7, ground := Ground.phase }, { on := 8, ground := Ground.phase }, { on := 9, ground := Ground.phase }, { on := 10, ground := Ground.phase }, { on := 11, ground := Ground.phase }, { on := 12, ground := Ground.phase }, { on := 13, ground := Ground.phase }, { on := 14, ground := Ground.phase }, { on := 15, ground := Ground.phase }, { on := 16, ground := Ground.phase }, { on := 17, ground := Ground.phase }], guard := none }) (v := .pointer (some ⟨G + 1 + 1 + 1, 3, none⟩)) rfl (by kernel_rfl) (by kernel_rfl) (by kernel_rfl) (fun _ _ _ h => h) (Or.inl ⟨by rfl, by intro w _; go_simp⟩) N8 ?_
                          try simp only [Act.put, List.setIfInBounds_toArray, List.set_cons_zero, List.set_cons_succ]
                          refine wpAnyH_ready (rs := [19]) (by kernel_rfl) (by decide) (AllReadyH.cons rfl (fun K1 hK1 => ?_) AllReadyH.nil)
                          rw [if_pos (by rfl)]
                          go_simp
                          refine hK1.out _ _ N9 (fun _ => ?_)
                          clear hK1 K1
                          refine wpAnyH_done (by kernel_rfl) ?_ _
                          clear N0 N5 N6 N8 N9 hr hz8 hf8 H56
                          generalize w8.setCell ⟨G + 1 + 1 + 1, 3, none⟩ (.slice (some ⟨gq2, 0, none⟩) (L2.length + 1) cap2) = w9 at *
                          go_wp2
                          go_roundw
                          case rel =>
                            refine ⟨i + 1, some ⟨gq2, 0, none⟩, cap2, fq8, L2 ++ [z], K2 ++ [K], by omega, by first | rfl | (rw [HD.out]; congr 1; simp only [decide_eq_decide]; omega) | (congr 1; symm; apply decide_eq_true; have := HIP.out; omega), by go_num, ?_, HI9⟩
                            have hq2 := HSUB.out.2
                            rw [HL2.out.1, HL2.out.2, hL.out.1, hL.out.2, hq2, ← HIP.out]
                            exact ⟨(gOut_new HZ.out.1).symm, (gOut_new HZ.out.2.1).symm⟩
                          case measure => simp [intOf]; omega
                        · skip
                          rw [if_pos (by rfl)]
                          go_simp
                          refine hK1.out _ _ N6 (fun _ => ?_)
                          clear hK1 K1
                          try simp only [Act.put, List.setIfInBounds_toArray, List.set_cons_zero, List.set_cons_succ]
                          refine wpAnyH_ready (rs := [1]) (by kernel_rfl) (by decide) (AllReadyH.cons rfl (fun K1 hK1 => ?_) AllReadyH.nil)
                          have kk := H56.out.2
                          rw [if_pos (by rfl)]
                          go_simp
                          refine hK1.out _ _ N6 (fun _ => ?_)
                          clear hK1 K1 kk
                          try simp only [Act.put, List.setIfInBounds_toArray, List.set_cons_zero, List.set_cons_succ]
                          refine wpAnyH_ready (rs := [17]) (by kernel_rfl) (by decide) (AllReadyH.cons rfl (fun K1 hK1 => ?_) AllReadyH.nil)
                          refine step_append_runI (o := { dst := some 117, op := Op.call { callee := Callee.builtin Builtin.append, args := #[Operand.tmp 101, Operand.tmp 116], argTypes := #[30, 30] }, type := 30, pos := "ref.go:378", after := #[{ on := 1, ground := Ground.data }, { on := 16, ground := Ground.data }, { on := 14, ground := Ground.chain }], guard := none }) rfl (.tmp 101) (.tmp 116) 30 30 rfl _ _ rfl rfl hr ?_
                          refine hK1.out _ _ N8 (fun _ => ?_)
                          clear hK1 K1
                          try simp only [Act.put, List.setIfInBounds_toArray, List.set_cons_zero, List.set_cons_succ]
                          refine wpAnyH_take (i := 18) (oi := { dst := some 118, op := Op.fieldAddr 32 (Operand.tmp 7) 3, type := 0, pos := "ref.go:378", after := #[{ on := 0, ground := Ground.phase }, { on := 1, ground := Ground.phase }, { on := 2, ground := Ground.phase }, { on := 3, ground := Ground.phase }, { on := 4, ground := Ground.phase }, { on := 5, ground := Ground.phase }, { on := 6, ground := Ground.phase }, { on := 7, ground := Ground.phase }, { on := 8, ground := Ground.phase }, { on := 9, ground := Ground.phase }, { on := 10, ground := Ground.phase }, { on := 11, ground := Ground.phase }, { on := 12, ground := Ground.phase }, { on := 13, ground := Ground.phase }, { on := 14, ground := Ground.phase }, { on := 15, ground := Ground.phase }, { on := 16, ground := Ground.phase }, { on := 17, ground := Ground.phase }], guard := none }) (v := .pointer (some ⟨G + 1 + 1 + 1, 3, none⟩)) rfl (by kernel_rfl) (by kernel_rfl) (by kernel_rfl) (fun _ _ _ h => h) (Or.inl ⟨by rfl, by intro w _; go_simp⟩) N8 ?_
                          try simp only [Act.put, List.setIfInBounds_toArray, List.set_cons_zero, List.set_cons_succ]
                          refine wpAnyH_ready (rs := [19]) (by kernel_rfl) (by decide) (AllReadyH.cons rfl (fun K1 hK1 => ?_) AllReadyH.nil)
                          rw [if_pos (by rfl)]
                          go_simp
                          refine hK1.out _ _ N9 (fun _ => ?_)
                          clear hK1 K1
                          refine wpAnyH_done (by kernel_rfl) ?_ _
                          clear N0 N5 N6 N8 N9 hr hz8 hf8 H56
                          generalize w8.setCell ⟨G + 1 + 1 + 1, 3, none⟩ (.slice (some ⟨gq2, 0, none⟩) (L2.length + 1) cap2) = w9 at *
                          go_wp2
                          go_roundw
                          case rel =>
                            refine ⟨i + 1, some ⟨gq2, 0, none⟩, cap2, fq8, L2 ++ [z], K2 ++ [K], by omega, by first | rfl | (rw [HD.out]; congr 1; simp only [decide_eq_decide]; omega) | (congr 1; symm; apply decide_eq_true; have := HIP.out; omega), by go_num, ?_, HI9⟩
                            have hq2 := HSUB.out.2
                            rw [HL2.out.1, HL2.out.2, hL.out.1, hL.out.2, hq2, ← HIP.out]
                            exact ⟨(gOut_new HZ.out.1).symm, (gOut_new HZ.out.2.1).symm⟩
                          case measure => simp [intOf]; omega
                  · skip
                    rw [if_pos (by rfl)]
                    go_simp
                    refine hK1.out _ _ N6 (fun _ => ?_)
                    clear hK1 K1
                    try simp only [Act.put, List.setIfInBounds_toArray, List.set_cons_zero, List.set_cons_succ]
                    refine wpAnyH_ready (rs := [1]) (by kernel_rfl) (by decide) (AllReadyH.cons rfl (fun K1 hK1 => ?_) AllReadyH.nil)
                    have kk := H56.out.2
                    rw [if_pos (by rfl)]
                    go_simp
                    refine hK1.out _ _ N6 (fun _ => ?_)
                    clear hK1 K1 kk
                    try simp only [Act.put, List.setIfInBounds_toArray, List.set_cons_zero, List.set_cons_succ]
                    refine wpAnyH_ready (rs := [12]) (by kernel_rfl) (by decide) (AllReadyH.cons rfl (fun K1 hK1 => ?_) AllReadyH.nil)
                    refine step_append_runI (o := { dst := some 81, op := Op.call { callee := Callee.builtin Builtin.append, args := #[Operand.tmp 70, Operand.tmp 80], argTypes := #[30, 30] }, type := 30, pos := "ref.go:375", after := #[{ on := 1, ground := Ground.data }, { on := 11, ground := Ground.data }, { on := 9, ground := Ground.chain }], guard := none }) rfl (.tmp 70) (.tmp 80) 30 30 rfl _ _ rfl rfl hr ?_
                    refine hK1.out _ _ N8 (fun _ => ?_)
                    clear hK1 K1
                    try simp only [Act.put, List.setIfInBounds_toArray, List.set_cons_zero, List.set_cons_succ]
                    refine wpAnyH_take (i := 13) (oi := { dst := some 82, op := Op.fieldAddr 32 (Operand.tmp 7) 3, type := 0, pos := "ref.go:375", after := #[{ on := 0, ground := Ground.phase }, { on := 1, ground := Ground.phase }, { on := 2, ground := Ground.phase }, { on := 3, ground := Ground.phase }, { on := 4, ground := Ground.phase }, { on := 5, ground := Ground.phase }, { on := 6, ground := Ground.phase }, { on := 7, ground := Ground.phase }, { on := 8, ground := Ground.phase }, { on := 9, ground := Ground.phase }, { on := 10, ground := Ground.phase }, { on := 11, ground := Ground.phase }, { on := 12, ground := Ground.phase }], guard := none }) (v := .pointer (some ⟨G + 1 + 1 + 1, 3, none⟩)) rfl (by kernel_rfl) (by kernel_rfl) (by kernel_rfl) (fun _ _ _ h => h) (Or.inl ⟨by rfl, by intro w _; go_simp⟩) N8 ?_
                    try simp only [Act.put, List.setIfInBounds_toArray, List.set_cons_zero, List.set_cons_succ]
                    refine wpAnyH_ready (rs := [14]) (by kernel_rfl) (by decide) (AllReadyH.cons rfl (fun K1 hK1 => ?_) AllReadyH.nil)
                    rw [if_pos (by rfl)]
                    go_simp
                    refine hK1.out _ _ N9 (fun _ => ?_)
                    clear hK1 K1
                    refine wpAnyH_done (by kernel_rfl) ?_ _
                    clear N0 N5 N6 N8 N9 hr hz8 hf8 H56
                    generalize w8.setCell ⟨G + 1 + 1 + 1, 3, none⟩ (.slice (some ⟨g2, 0, none⟩) (Ls.length + 1) cap) = w9 at *
                    have hB9 : Hid (Below w.heap.size w w9) := by rw [Hid, HG.out]; exact HI9.out.2.2.2.2.2.2.2
                    by_cases hie : i = n
                    · skip
                      obtain ⟨u0, u1, u2, u3, _⟩ := cell4 HI9.out.1
                      have g1 : decide ((i : Int) < (n : Int)) = false := decide_eq_false (by omega)
                      have g1' : ¬ (i : Int) < (n : Int) := by omega
                      go_upto_region 14 with fail
                      go_quiet (fail)
                      go_wp2
                      go_roundw
                      case rel =>
                        refine ⟨i + 1, some ⟨g2, 0, none⟩, cap, fp8, Ls ++ [s], Ks ++ [Kn], by omega, by congr 1; symm; apply decide_eq_true; have := HIP.out; omega, by go_num, ?_, HI9.out.on (bel_drewN (Below.refl _ _) nq)⟩
                        have hq2 := HSUB.out.2
                        have e1 := gOut_end ns s
                        have e2 := gOut_end ks Kn
                        rw [LL.out.1, ← hie] at e1
                        rw [LL.out.2.1, ← hie] at e2
                        rw [hL.out.1, hL.out.2, hq2, ← HIP.out, e1, e2]
                        exact ⟨rfl, rfl⟩
                      case measure => simp [intOf]; omega
                    · skip
                      have hlt : i < n := by omega
                      obtain ⟨z, hz⟩ : ∃ z, ns[i]? = some z := ⟨_, List.getElem?_eq_getElem (by rw [LL.out.1]; omega)⟩
                      obtain ⟨K, hK⟩ : ∃ z, ks[i]? = some z := ⟨_, List.getElem?_eq_getElem (by rw [LL.out.2.1]; omega)⟩
                      have hzs : z ≠ s := fun e => HZ0.out (by rw [hz, e])
                      have g3 : (z.toList == s.toList) = false := by rw [beq_eq_false_iff_ne]; intro e; exact hzs (btl_inj e)
                      have g4 : (z.toList != s.toList) = true := by simp [bne, g3]
                      have g5 : ¬ z.toList = s.toList := fun e => hzs (btl_inj e)
                      obtain ⟨_, _, _, _, _, _, _, _, hxx, hgw, _⟩ := EX.out i z K hlt hz hK
                      obtain ⟨g, o, a, b, d', f', p', q', rfl, hg, c0, c1, c2, c3, c4, hA⟩ := EX.out.below hB9.out i z K hlt hz hK
                      injection hxx with hxx
                      injection hxx with h1 h2
                      subst h1 h2
                      have HZg : Hid (g < w.heap.size) := hgw
                      have HZ : Hid (ns[i]? = some z ∧ ks[i]? = some K ∧ z ≠ s ∧ lnT K) := ⟨hz, hK, hzs, lnL_at _ _ _ LL.out.2.2.2.1 hK⟩
                      have HLL : Hid ((Ls ++ [s]).length ≤ 1073741824) := by
                        rw [Hid, List.length_append, hL.out.1, HIP.out]
                        unfold gOut
                        rw [if_pos (Nat.le_refl _), List.length_take]
                        simp
                        have := HIP.out
                        omega
                      have HI9' := HI9
                      have hB9' := hB9
                      clear hz hK hzs hgw HLN HBS HI0 HB0 d0 d1 d2 d3 d4 d5 d6 d7 d8 CG HI9 hB9
                      rw [show Ls.length + 1 = (Ls ++ [s]).length by simp] at *
                      obtain ⟨L2, hL2⟩ : ∃ L2, L2 = Ls ++ [s] := ⟨_, rfl⟩
                      obtain ⟨K2, hK2⟩ : ∃ K2, K2 = Ks ++ [Kn] := ⟨_, rfl⟩
                      rw [← hL2, ← hK2] at HI9'
                      rw [← hL2] at HLL
                      have HL2 : Hid (L2 = Ls ++ [s] ∧ K2 = Ks ++ [Kn]) := ⟨hL2, hK2⟩
                      clear hL2 hK2
                      have HSP : Hid (g2 = g2) := rfl
                      obtain ⟨u0, u1, u2, u3, _⟩ := cell4 HI9'.out.1
                      have g1 : decide ((i : Int) < (n : Int)) = true := decide_eq_true (by omega)
                      have cy : w9.cell? ⟨gy, oy, none⟩ = some (.string s) := (hB9'.out.cell (p := ⟨gy, oy, none⟩) HMM.out.2.2.2.1).trans HMM.out.2.2.2.2
                      go_upto_region 14 with fail
                      go_quiet (fail)
                      have HI0 : Hid (GrI w G #[Value.int IntKind.i64 k, Value.bool e, Value.string t, Value.slice (some ⟨g, o, none⟩) n c] #[Value.int IntKind.i64 ku, Value.bool eu, Value.string tu, Value.slice xu nu cu] L2 K2 (some ⟨g2, 0, none⟩) cap fp8 (w9.drewN nq).drew) := HI9'.out.on ((bel_drewN (Below.refl _ _) nq).trans ⟨rfl, rfl, rfl, Nat.le_refl _, fun _ _ => rfl⟩)
                      have HB0 : Hid (Below w.heap.size w (w9.drewN nq).drew) := (bel_drewN hB9'.out nq).trans ⟨rfl, rfl, rfl, Nat.le_refl _, fun _ _ => rfl⟩
                      clear HI9' hB9' u0 u1 u2 u3 cy c0 c1 c2 c3 c4 hA hg
                      generalize w9.drewN nq = wx at *
                      obtain ⟨gz, oz, za, zb, zd, zf, zp, zq, hge, hg, d1, d2, d3, d4, d5, hA⟩ := EX.out.below HB0.out i z K hlt HZ.out.1 HZ.out.2.1
                      injection hge with hge
                      injection hge with h1 h2
                      subst h1 h2
                      have CG := clone_any _ _ K wx.drew hA HZ.out.2.2.2
                      obtain ⟨_, _, _, d0, _⟩ := cell4 HI0.out.1
                      have HLN : Hid (L2.length ≤ 1073741824) := HLL.out
                      have HBS : Hid (∀ b ∈ [G, g], b < wx.drew.heap.size ∧ b ∉ fp8 ∧ b ≠ G + 1 + 1 + 1) := by
                        have hgG : g < G := by rw [← HG.out]; exact HZg.out
                        have hsz := HI0.out.2.2.2.2.2.2.1
                        intro b hb
                        have hbG : b ≤ G := by
                          rcases List.mem_cons.1 hb with rfl | hb
                          · exact Nat.le_refl _
                          · simp at hb; omega
                        exact ⟨by omega, fun hf => by have := (TrV.lt _ _ _ HI0.out.2.2.2.2.1 b hf).1; omega, by omega⟩
                      clear hA
                      go_upto_region 15 with fail
                      refine wp_region_held_drew (S := KB [G, g] wx.drew) (by kernel_rfl) (KB.refl _ _) (fun _ => ?_)
                      have N0 : KB [G, g] wx.drew wx.drew := KB.refl _ _
                      generalize wx.drew = Wd at *
                      refine wpAnyH_take (i := 0) (oi := { dst := some 100, op := Op.fieldAddr 32 (Operand.tmp 7) 3, type := 0, pos := "ref.go:378", after := #[], guard := none }) (v := .pointer (some ⟨G + 1 + 1 + 1, 3, none⟩)) rfl (by kernel_rfl) (by kernel_rfl) (by kernel_rfl) (fun _ _ _ h => h) (Or.inl ⟨by rfl, by intro w _; go_simp⟩) N0 ?_
                      try simp only [Act.put, List.setIfInBounds_toArray, List.set_cons_zero, List.set_cons_succ]
                      refine wpAnyH_take (i := 2) (oi := { dst := some 102, op := Op.fieldAddr 32 (Operand.tmp 3) 3, type := 0, pos := "ref.go:378", after := #[], guard := none }) (v := .pointer (some ⟨G, 3, none⟩)) rfl (by kernel_rfl) (by kernel_rfl) (by kernel_rfl) (fun _ _ _ h => h) (Or.inl ⟨by rfl, by intro w _; go_simp⟩) N0 ?_
                      try simp only [Act.put, List.setIfInBounds_toArray, List.set_cons_zero, List.set_cons_succ]
                      refine wpAnyH_take (i := 3) (oi := { dst := some 103, op := Op.load 30 (Operand.tmp 102), type := 30, pos := "ref.go:378", after := #[{ on := 2, ground := Ground.data }], guard := none }) (v := .slice (some ⟨g, o, none⟩) n c) rfl (by kernel_rfl) (by kernel_rfl) (by kernel_rfl) (fun _ _ _ h => h) (Or.inl ⟨by rfl, by intro w hw; have y0 := hw.cell d0 (by simp); go_simp⟩) N0 ?_
                      try simp only [Act.put, List.setIfInBounds_toArray, List.set_cons_zero, List.set_cons_succ]
                      refine wpAnyH_take (i := 4) (oi := { dst := some 104, op := Op.move (Operand.tmp 9), type := 3, pos := "ref.go:378", after := #[], guard := none }) (v := .int .i64 (i : Int)) rfl (by kernel_rfl) (by kernel_rfl) (by kernel_rfl) (fun _ _ _ h => h) (Or.inl ⟨by rfl, by intro w _; go_simp⟩) N0 ?_
                      try simp only [Act.put, List.setIfInBounds_toArray, List.set_cons_zero, List.set_cons_succ]
                      refine wpAnyH_take (i := 5) (oi := { dst := some 105, op := Op.indexAddr 30 (Operand.tmp 103) (Operand.tmp 104), type := 0, pos := "ref.go:378", after := #[{ on := 3, ground := Ground.data }, { on := 4, ground := Ground.data }], guard := none }) (v := .pointer (some ⟨g, o + i * 5, none⟩)) rfl (by kernel_rfl) (by kernel_rfl) (by kernel_rfl) (fun _ _ _ h => h) (Or.inl ⟨by rfl, by intro w _; go_simp⟩) N0 ?_
                      try simp only [Act.put, List.setIfInBounds_toArray, List.set_cons_zero, List.set_cons_succ]
                      refine wpAnyH_take (i := 6) (oi := { dst := some 106, op := Op.fieldAddr 52 (Operand.tmp 105) 0, type := 0, pos := "ref.go:378", after := #[{ on := 5, ground := Ground.data }], guard := none }) (v := .pointer (some ⟨g, o + i * 5, none⟩)) rfl (by kernel_rfl) (by kernel_rfl) (by kernel_rfl) (fun _ _ _ h => h) (Or.inl ⟨by rfl, by intro w _; go_simp⟩) N0 ?_
                      try simp only [Act.put, List.setIfInBounds_toArray, List.set_cons_zero, List.set_cons_succ]
                      refine wpAnyH_take (i := 7) (oi := { dst := some 107, op := Op.load 9 (Operand.tmp 106), type := 9, pos := "ref.go:378", after := #[{ on := 6, ground := Ground.data }], guard := none }) (v := .string z) rfl (by kernel_rfl) (by kernel_rfl) (by kernel_rfl) (fun _ _ _ h => h) (Or.inl ⟨by rfl, by intro w hw; have y0 := hw.cell d1 (by simp); go_simp⟩) N0 ?_
                      try simp only [Act.put, List.setIfInBounds_toArray, List.set_cons_zero, List.set_cons_succ]
                      refine wpAnyH_take (i := 8) (oi := { dst := some 108, op := Op.fieldAddr 32 (Operand.tmp 3) 3, type := 0, pos := "ref.go:378", after := #[], guard := none }) (v := .pointer (some ⟨G, 3, none⟩)) rfl (by kernel_rfl) (by kernel_rfl) (by kernel_rfl) (fun _ _ _ h => h) (Or.inl ⟨by rfl, by intro w _; go_simp⟩) N0 ?_
                      try simp only [Act.put, List.setIfInBounds_toArray, List.set_cons_zero, List.set_cons_succ]
                      refine wpAnyH_take (i := 9) (oi := { dst := some 109, op := Op.load 30 (Operand.tmp 108), type := 30, pos := "ref.go:378", after := #[{ on := 8, ground := Ground.data }], guard := none }) (v := .slice (some ⟨g, o, none⟩) n c) rfl (by kernel_rfl) (by kernel_rfl) (by kernel_rfl) (fun _ _ _ h => h) (Or.inl ⟨by rfl, by intro w hw; have y0 := hw.cell d0 (by simp); go_simp⟩) N0 ?_
                      try simp only [Act.put, List.setIfInBounds_toArray, List.set_cons_zero, List.set_cons_succ]
                      refine wpAnyH_take (i := 10) (oi := { dst := some 110, op := Op.move (Operand.tmp 9), type := 3, pos := "ref.go:378", after := #[], guard := none }) (v := .int .i64 (i : Int)) rfl (by kernel_rfl) (by kernel_rfl) (by kernel_rfl) (fun _ _ _ h => h) (Or.inl ⟨by rfl, by intro w _; go_simp⟩) N0 ?_
                      try simp only [Act.put, List.setIfInBounds_toArray, List.set_cons_zero, List.set_cons_succ]
                      refine wpAnyH_take (i := 11) (oi := { dst := some 111, op := Op.indexAddr 30 (Operand.tmp 109) (Operand.tmp 110), type := 0, pos := "ref.go:378", after := #[{ on := 9, ground := Ground.data }, { on := 10, ground := Ground.data }], guard := none }) (v := .pointer (some ⟨g, o + i * 5, none⟩)) rfl (by kernel_rfl) (by kernel_rfl) (by kernel_rfl) (fun _ _ _ h => h) (Or.inl ⟨by rfl, by intro w _; go_simp⟩) N0 ?_
                      try simp only [Act.put, List.setIfInBounds_toArray, List.set_cons_zero, List.set_cons_succ]
                      refine wpAnyH_take (i := 12) (oi := { dst := some 112, op := Op.fieldAddr 52 (Operand.tmp 111) 1, type := 0, pos := "ref.go:378", after := #[{ on := 11, ground := Ground.data }], guard := none }) (v := .pointer (some ⟨g, o + i * 5 + 1, none⟩)) rfl (by kernel_rfl) (by kernel_rfl) (by kernel_rfl) (fun _ _ _ h => h) (Or.inl ⟨by rfl, by intro w _; go_simp⟩) N0 ?_
                      try simp only [Act.put, List.setIfInBounds_toArray, List.set_cons_zero, List.set_cons_succ]
                      refine wpAnyH_take (i := 13) (oi := { dst := some 113, op := Op.load 32 (Operand.tmp 112), type := 32, pos := "ref.go:378", after := #[{ on := 12, ground := Ground.data }], guard := none }) (v := .agg #[.int .i64 za, .bool zb, .string zd, .slice zf zp zq]) rfl (by kernel_rfl) (by kernel_rfl) (by kernel_rfl) (fun _ _ _ h => h) (Or.inl ⟨by rfl, by intro w hw; have y0 := hw.cell d2 (by simp); have y1 := hw.cell d3 (by simp); have y2 := hw.cell d4 (by simp); have y3 := hw.cell d5 (by simp); go_simp⟩) N0 ?_
                      try simp only [Act.put, List.setIfInBounds_toArray, List.set_cons_zero, List.set_cons_succ]
                      refine wpAnyH_ready (rs := [1, 14]) (by kernel_rfl) (by decide) (AllReadyH.cons rfl (fun K1 hK1 => ?_) (AllReadyH.cons rfl (fun K1 hK1 => ?_) AllReadyH.nil))
                      · skip
                        have kk := (cell4 HI0.out.2.2.2.1).2.2.2.1
                        rw [if_pos (by rfl)]
                        go_simp
                        refine hK1.out _ _ N0 (fun _ => ?_)
                        clear hK1 K1 kk
                        try simp only [Act.put, List.setIfInBounds_toArray, List.set_cons_zero, List.set_cons_succ]
                        refine wpAnyH_ready (rs := [14]) (by kernel_rfl) (by decide) (AllReadyH.cons rfl (fun K1 hK1 => ?_) AllReadyH.nil)
                        rw [if_pos (by rfl)]
                        go_simp
                        refine CG.mono ?_
                        rintro e5 w5 ⟨⟨v5, fp5, rfl, hv, hnd⟩, b5⟩
                        obtain ⟨x5, q5, rfl⟩ := hv.shape
                        have HI5 : Hid (GrI w G #[Value.int IntKind.i64 k, Value.bool e, Value.string t, Value.slice (some ⟨g, o, none⟩) n c] #[Value.int IntKind.i64 ku, Value.bool eu, Value.string tu, Value.slice xu nu cu] L2 K2 (some ⟨g2, 0, none⟩) cap fp8 w5) := HI0.out.on b5
                        obtain ⟨gq2, cap2, w8, fq8, hr, ⟨hz8, hf8⟩, hyo, hb8, hI9⟩ := HI5.out.app z K x5 q5 fp5 Wd.heap.size hv hnd HI0.out.2.2.2.2.2.2.1 (fun b hb => (TrV.lt _ _ _ HI0.out.2.2.2.2.1 b hb).2) HLN.out
                        have HI9 : Hid (GrI w G #[Value.int IntKind.i64 k, Value.bool e, Value.string t, Value.slice (some ⟨g, o, none⟩) n c] #[Value.int IntKind.i64 ku, Value.bool eu, Value.string tu, Value.slice xu nu cu] (L2 ++ [z]) (K2 ++ [K]) (some ⟨gq2, 0, none⟩) cap2 fq8 (w8.setCell ⟨G + 1 + 1 + 1, 3, none⟩ (.slice (some ⟨gq2, 0, none⟩) (L2.length + 1) cap2))) := hI9
                        have hl5 : ∀ b ∈ [G, g], b < w5.heap.size := fun b hb => Nat.lt_of_lt_of_le (HBS.out b hb).1 b5.size
                        have N5 : KB [G, g] Wd w5 := N0.below (fun b hb => (HBS.out b hb).1) b5
                        have bN6 : Below w5.heap.size w5 (w5.alloc (Obj.cells #[Value.string z, Value.int IntKind.i64 K.k, Value.bool K.e, Value.string K.t, Value.slice x5 K.nms.length q5] 52)) := (Below.refl _ _).alloc (Nat.le_refl _) _
                        have N6 : KB [G, g] Wd (w5.alloc (Obj.cells #[Value.string z, Value.int IntKind.i64 K.k, Value.bool K.e, Value.string K.t, Value.slice x5 K.nms.length q5] 52)) := N5.below hl5 bN6
                        have N8 : KB [G, g] Wd w8 := N5.keep hl5 (fun b hb => (HBS.out b hb).2.1) hyo
                        have N9 : KB [G, g] Wd (w8.setCell ⟨G + 1 + 1 + 1, 3, none⟩ (.slice (some ⟨gq2, 0, none⟩) (L2.length + 1) cap2)) := N8.set _ _ (fun b hb => (HBS.out b hb).2.2)
                        have H56 : Hid (w5.cell? ⟨G + 1 + 1 + 1, 3, none⟩ = some (.slice (some ⟨g2, 0, none⟩) L2.length cap) ∧ (w5.alloc (Obj.cells #[Value.string z, Value.int IntKind.i64 K.k, Value.bool K.e, Value.string K.t, Value.slice x5 K.nms.length q5] 52)).cell? ⟨G + 1 + 1 + 1, 3, none⟩ = some (.slice (some ⟨g2, 0, none⟩) L2.length cap)) := ⟨(cell4 HI5.out.2.2.2.1).2.2.2.1, (cell4 (HI5.out.on bN6).2.2.2.1).2.2.2.1⟩
                        clear hI9 hyo hb8 hv hnd b5 hl5 bN6 HI5
                        refine hK1.out _ _ N5 (fun _ => ?_)
                        clear hK1 K1
                        try simp only [Act.put, List.setIfInBounds_toArray, List.set_cons_zero, List.set_cons_succ]
                        refine wpAnyH_take (i := 15) (oi := { dst := some 115, op := Op.build 52 #[(0, Operand.tmp 107), (1, Operand.tmp 114)], type := 52, pos := "ref.go:378", after := #[{ on := 7, ground := Ground.data }, { on := 14, ground := Ground.data }], guard := none }) (v := .agg #[.string z, .int .i64 K.k, .bool K.e, .string K.t, .slice x5 K.nms.length q5]) rfl (by kernel_rfl) (by kernel_rfl) (by kernel_rfl) (fun _ _ _ h => h) (Or.inl ⟨by rfl, by intro w _; go_simp⟩) N5 ?_
                        try simp only [Act.put, List.setIfInBounds_toArray, List.set_cons_zero, List.set_cons_succ]
                        refine wpAnyH_ready (rs := [16]) (by kernel_rfl) (by decide) (AllReadyH.cons rfl (fun K1 hK1 => ?_) AllReadyH.nil)
                        rw [if_pos (by rfl)]
                        go_simp
                        refine hK1.out _ _ N6 (fun _ => ?_)
                        clear hK1 K1
                        try simp only [Act.put, List.setIfInBounds_toArray, List.set_cons_zero, List.set_cons_succ]
                        refine wpAnyH_ready (rs := [17]) (by kernel_rfl) (by decide) (AllReadyH.cons rfl (fun K1 hK1 => ?_) AllReadyH.nil)
                        refine step_append_runI (o := { dst := some 117, op := Op.call { callee := Callee.builtin Builtin.append, args := #[Operand.tmp 101, Operand.tmp 116], argTypes := #[30, 30] }, type := 30, pos := "ref.go:378", after := #[{ on := 1, ground := Ground.data }, { on := 16, ground := Ground.data }, { on := 14, ground := Ground.chain }], guard := none }) rfl (.tmp 101) (.tmp 116) 30 30 rfl _ _ rfl rfl hr ?_
                        refine hK1.out _ _ N8 (fun _ => ?_)
                        clear hK1 K1
                        try simp only [Act.put, List.setIfInBounds_toArray, List.set_cons_zero, List.set_cons_succ]
                        refine wpAnyH_take (i := 18) (oi := { dst := some 118, op := Op.fieldAddr 32 (Operand.tmp 7) 3, type := 0, pos := "ref.go:378", after := #[{ on := 0, ground := Ground.phase }, { on := 1, ground := Ground.phase }, { on := 2, ground := Ground.phase }, { on := 3, ground := Ground.phase }, { on := 4, ground := Ground.phase }, { on := 5, ground := Ground.phase }, { on := 6, ground := Ground.phase }, { on := 7, ground := Ground.phase }, { on := 8, ground := Ground.phase }, { on := 9, ground := Ground.phase }, { on := 10, ground := Ground.phase }, { on := 11, ground := Ground.phase }, { on := 12, ground := Ground.phase }, { on := 13, ground := Ground.phase }, { on := 14, ground := Ground.phase }, { on := 15, ground := Ground.phase }, { on := 16, ground := Ground.phase }, { on := 17, ground := Ground.phase }], guard := none }) (v := .pointer (some ⟨G + 1 + 1 + 1, 3, none⟩)) rfl (by kernel_rfl) (by kernel_rfl) (by kernel_rfl) (fun _ _ _ h => h) (Or.inl ⟨by rfl, by intro w _; go_simp⟩) N8 ?_
                        try simp only [Act.put, List.setIfInBounds_toArray, List.set_cons_zero, List.set_cons_succ]
                        refine wpAnyH_ready (rs := [19]) (by kernel_rfl) (by decide) (AllReadyH.cons rfl (fun K1 hK1 => ?_) AllReadyH.nil)
                        rw [if_pos (by rfl)]
                        go_simp
                        refine hK1.out _ _ N9 (fun _ => ?_)
                        clear hK1 K1
                        refine wpAnyH_done (by kernel_rfl) ?_ _
                        clear N0 N5 N6 N8 N9 hr hz8 hf8 H56
                        generalize w8.setCell ⟨G + 1 + 1 + 1, 3, none⟩ (.slice (some ⟨gq2, 0, none⟩) (L2.length + 1) cap2) = w9 at *
                        go_wp2
                        go_roundw
                        case rel =>
                          refine ⟨i + 1, some ⟨gq2, 0, none⟩, cap2, fq8, L2 ++ [z], K2 ++ [K], by omega, by first | rfl | (rw [HD.out]; congr 1; simp only [decide_eq_decide]; omega) | (congr 1; symm; apply decide_eq_true; have := HIP.out; omega), by go_num, ?_, HI9⟩
                          have hq2 := HSUB.out.2
                          rw [HL2.out.1, HL2.out.2, hL.out.1, hL.out.2, hq2, ← HIP.out]
                          exact ⟨(gOut_new HZ.out.1).symm, (gOut_new HZ.out.2.1).symm⟩
                        case measure => simp [intOf]; omega
                      · skip
                        rw [if_pos (by rfl)]
                        go_simp
                        refine CG.mono ?_
                        rintro e5 w5 ⟨⟨v5, fp5, rfl, hv, hnd⟩, b5⟩
                        obtain ⟨x5, q5, rfl⟩ := hv.shape
                        have HI5 : Hid (GrI w G #[Value.int IntKind.i64 k, Value.bool e, Value.string t, Value.slice (some ⟨g, o, none⟩) n c] #[Value.int IntKind.i64 ku, Value.bool eu, Value.string tu, Value.slice xu nu cu] L2 K2 (some ⟨g2, 0, none⟩) cap fp8 w5) := HI0.out.on b5
                        obtain ⟨gq2, cap2, w8, fq8, hr, ⟨hz8, hf8⟩, hyo, hb8, hI9⟩ := HI5.out.app z K x5 q5 fp5 Wd.heap.size hv hnd HI0.out.2.2.2.2.2.2.1 (fun b hb => (TrV.lt _ _ _ HI0.out.2.2.2.2.1 b hb).2) HLN.out
                        have HI9 : Hid (GrI w G #[Value.int IntKind.i64 k, Value.bool e, Value.string t, Value.slice (some ⟨g, o, none⟩) n c] #[Value.int IntKind.i64 ku, Value.bool eu, Value.string tu, Value.slice xu nu cu] (L2 ++ [z]) (K2 ++ [K]) (some ⟨gq2, 0, none⟩) cap2 fq8 (w8.setCell ⟨G + 1 + 1 + 1, 3, none⟩ (.slice (some ⟨gq2, 0, none⟩) (L2.length + 1) cap2))) := hI9
                        have hl5 : ∀ b ∈ [G, g], b < w5.heap.size := fun b hb => Nat.lt_of_lt_of_le (HBS.out b hb).1 b5.size
                        have N5 : KB [G, g] Wd w5 := N0.below (fun b hb => (HBS.out b hb).1) b5
                        have bN6 : Below w5.heap.size w5 (w5.alloc (Obj.cells #[Value.string z, Value.int IntKind.i64 K.k, Value.bool K.e, Value.string K.t, Value.slice x5 K.nms.length q5] 52)) := (Below.refl _ _).alloc (Nat.le_refl _) _
                        have N6 : KB [G, g] Wd (w5.alloc (Obj.cells #[Value.string z, Value.int IntKind.i64 K.k, Value.bool K.e, Value.string K.t, Value.slice x5 K.nms.length q5] 52)) := N5.below hl5 bN6
                        have N8 : KB [G, g] Wd w8 := N5.keep hl5 (fun b hb => (HBS.out b hb).2.1) hyo
                        have N9 : KB [G, g] Wd (w8.setCell ⟨G + 1 + 1 + 1, 3, none⟩ (.slice (some ⟨gq2, 0, none⟩) (L2.length + 1) cap2)) := N8.set _ _ (fun b hb => (HBS.out b hb).2.2)
                        have H56 : Hid (w5.cell? ⟨G + 1 + 1 + 1, 3, none⟩ = some (.slice (some ⟨g2, 0, none⟩) L2.length cap) ∧ (w5.alloc (Obj.cells #[Value.string z, Value.int IntKind.i64 K.k, Value.bool K.e, Value.string K.t, Value.slice x5 K.nms.length q5] 52)).cell? ⟨G + 1 + 1 + 1, 3, none⟩ = some (.slice (some ⟨g2, 0, none⟩) L2.length cap)) := ⟨(cell4 HI5.out.2.2.2.1).2.2.2.1, (cell4 (HI5.out.on bN6).2.2.2.1).2.2.2.1⟩
                        clear hI9 hyo hb8 hv hnd b5 hl5 bN6 HI5
                        refine hK1.out _ _ N5 (fun _ => ?_)
                        clear hK1 K1
                        try simp only [Act.put, List.setIfInBounds_toArray, List.set_cons_zero, List.set_cons_succ]
                        refine wpAnyH_take (i := 15) (oi := { dst := some 115, op := Op.build 52 #[(0, Operand.tmp 107), (1, Operand.tmp 114)], type := 52, pos := "ref.go:378", after := #[{ on := 7, ground := Ground.data }, { on := 14, ground := Ground.data }], guard := none }) (v := .agg #[.string z, .int .i64 K.k, .bool K.e, .string K.t, .slice x5 K.nms.length q5]) rfl (by kernel_rfl) (by kernel_rfl) (by kernel_rfl) (fun _ _ _ h => h) (Or.inl ⟨by rfl, by intro w _; go_simp⟩) N5 ?_
                        try simp only [Act.put, List.setIfInBounds_toArray, List.set_cons_zero, List.set_cons_succ]
                        refine wpAnyH_ready (rs := [1, 16]) (by kernel_rfl) (by decide) (AllReadyH.cons rfl (fun K1 hK1 => ?_) (AllReadyH.cons rfl (fun K1 hK1 => ?_) AllReadyH.nil))
                        · skip
                          have kk := H56.out.1
                          rw [if_pos (by rfl)]
                          go_simp
                          refine hK1.out _ _ N5 (fun _ => ?_)
                          clear hK1 K1 kk
                          try simp only [Act.put, List.setIfInBounds_toArray, List.set_cons_zero, List.set_cons_succ]
                          refine wpAnyH_ready (rs := [16]) (by kernel_rfl) (by decide) (AllReadyH.cons rfl (fun K1 hK1 => ?_) AllReadyH.nil)
                          rw [if_pos (by rfl)]
                          go_simp
                          refine hK1.out _ _ N6 (fun _ => ?_)
                          clear hK1 K1
                          try simp only [Act.put, List.setIfInBounds_toArray, List.set_cons_zero, List.set_cons_succ]
                          refine wpAnyH_ready (rs := [17]) (by kernel_rfl) (by decide) (AllReadyH.cons rfl (fun K1 hK1 => ?_) AllReadyH.nil)
                          refine step_append_runI (o := { dst := some 117, op := Op.call { callee := Callee.builtin Builtin.append, args := #[Operand.tmp 101, Operand.tmp 116], argTypes := #[30, 30] }, type := 30, pos := "ref.go:378", after := #[{ on := 1, ground := Ground.data }, { on := 16, ground := Ground.data }, { on := 14, ground := Ground.chain }], guard := none }) rfl (.tmp 101) (.tmp 116) 30 30 rfl _ _ rfl rfl hr ?_
                          refine hK1.out _ _ N8 (fun _ => ?_)
                          clear hK1 K1
                          try simp only [Act.put, List.setIfInBounds_toArray, List.set_cons_zero, List.set_cons_succ]
                          refine wpAnyH_take (i := 18) (oi := { dst := some 118, op := Op.fieldAddr 32 (Operand.tmp 7) 3, type := 0, pos := "ref.go:378", after := #[{ on := 0, ground := Ground.phase }, { on := 1, ground := Ground.phase }, { on := 2, ground := Ground.phase }, { on := 3, ground := Ground.phase }, { on := 4, ground := Ground.phase }, { on := 5, ground := Ground.phase }, { on := 6, ground := Ground.phase }, { on := 7, ground := Ground.phase }, { on := 8, ground := Ground.phase }, { on := 9, ground := Ground.phase }, { on := 10, ground := Ground.phase }, { on := 11, ground := Ground.phase }, { on := 12, ground := Ground.phase }, { on := 13, ground := Ground.phase }, { on := 14, ground := Ground.phase }, { on := 15, ground := Ground.phase }, { on := 16, ground := Ground.phase }, { on := 17, ground := Ground.phase }], guard := none }) (v := .pointer (some ⟨G + 1 + 1 + 1, 3, none⟩)) rfl (by kernel_rfl) (by kernel_rfl) (by kernel_rfl) (fun _ _ _ h => h) (Or.inl ⟨by rfl, by intro w _; go_simp⟩) N8 ?_
                          try simp only [Act.put, List.setIfInBounds_toArray, List.set_cons_zero, List.set_cons_succ]
                          refine wpAnyH_ready (rs := [19]) (by kernel_rfl) (by decide) (AllReadyH.cons rfl (fun K1 hK1 => ?_) AllReadyH.nil)
                          rw [if_pos (by rfl)]
                          go_simp
                          refine hK1.out _ _ N9 (fun _ => ?_)
                          clear hK1 K1
                          refine wpAnyH_done (by kernel_rfl) ?_ _
                          clear N0 N5 N6 N8 N9 hr hz8 hf8 H56
                          generalize w8.setCell ⟨G + 1 + 1 + 1, 3, none⟩ (.slice (some ⟨gq2, 0, none⟩) (L2.length + 1) cap2) = w9 at *
                          go_wp2
                          go_roundw
                          case rel =>
                            refine ⟨i + 1, some ⟨gq2, 0, none⟩, cap2, fq8, L2 ++ [z], K2 ++ [K], by omega, by first | rfl | (rw [HD.out]; congr 1; simp only [decide_eq_decide]; omega) | (congr 1; symm; apply decide_eq_true; have := HIP.out; omega), by go_num, ?_, HI9⟩
                            have hq2 := HSUB.out.2
                            rw [HL2.out.1, HL2.out.2, hL.out.1, hL.out.2, hq2, ← HIP.out]
                            exact ⟨(gOut_new HZ.out.1).symm, (gOut_new HZ.out.2.1).symm⟩
                          case measure => simp [intOf]; omega
                        · skip
                          rw [if_pos (by rfl)]
                          go_simp
                          refine hK1.out _ _ N6 (fun _ => ?_)
                          clear hK1 K1
                          try simp only [Act.put, List.setIfInBounds_toArray, List.set_cons_zero, List.set_cons_succ]
                          refine wpAnyH_ready (rs := [1]) (by kernel_rfl) (by decide) (AllReadyH.cons rfl (fun K1 hK1 => ?_) AllReadyH.nil)
                          have kk := H56.out.2
                          rw [if_pos (by rfl)]
                          go_simp
                          refine hK1.out _ _ N6 (fun _ => ?_)
                          clear hK1 K1 kk
                          try simp only [Act.put, List.setIfInBounds_toArray, List.set_cons_zero, List.set_cons_succ]
                          refine wpAnyH_ready (rs := [17]) (by kernel_rfl) (by decide) (AllReadyH.cons rfl (fun K1 hK1 => ?_) AllReadyH.nil)
                          refine step_append_runI (o := { dst := some 117, op := Op.call { callee := Callee.builtin Builtin.append, args := #[Operand.tmp 101, Operand.tmp 116], argTypes := #[30, 30] }, type := 30, pos := "ref.go:378", after := #[{ on := 1, ground := Ground.data }, { on := 16, ground := Ground.data }, { on := 14, ground := Ground.chain }], guard := none }) rfl (.tmp 101) (.tmp 116) 30 30 rfl _ _ rfl rfl hr ?_
                          refine hK1.out _ _ N8 (fun _ => ?_)
                          clear hK1 K1
                          try simp only [Act.put, List.setIfInBounds_toArray, List.set_cons_zero, List.set_cons_succ]
                          refine wpAnyH_take (i := 18) (oi := { dst := some 118, op := Op.fieldAddr 32 (Operand.tmp 7) 3, type := 0, pos := "ref.go:378", after := #[{ on := 0, ground := Ground.phase }, { on := 1, ground := Ground.phase }, { on := 2, ground := Ground.phase }, { on := 3, ground := Ground.phase }, { on := 4, ground := Ground.phase }, { on := 5, ground := Ground.phase }, { on := 6, ground := Ground.phase }, { on := 7, ground := Ground.phase }, { on := 8, ground := Ground.phase }, { on := 9, ground := Ground.phase }, { on := 10, ground := Ground.phase }, { on := 11, ground := Ground.phase }, { on := 12, ground := Ground.phase }, { on := 13, ground := Ground.phase }, { on := 14, ground := Ground.phase }, { on := 15, ground := Ground.phase }, { on := 16, ground := Ground.phase }, { on := 17, ground := Ground.phase }], guard := none }) (v := .pointer (some ⟨G + 1 + 1 + 1, 3, none⟩)) rfl (by kernel_rfl) (by kernel_rfl) (by kernel_rfl) (fun _ _ _ h => h) (Or.inl ⟨by rfl, by intro w _; go_simp⟩) N8 ?_
                          try simp only [Act.put, List.setIfInBounds_toArray, List.set_cons_zero, List.set_cons_succ]
                          refine wpAnyH_ready (rs := [19]) (by kernel_rfl) (by decide) (AllReadyH.cons rfl (fun K1 hK1 => ?_) AllReadyH.nil)
                          rw [if_pos (by rfl)]
                          go_simp
                          refine hK1.out _ _ N9 (fun _ => ?_)
                          clear hK1 K1
                          refine wpAnyH_done (by kernel_rfl) ?_ _
                          clear N0 N5 N6 N8 N9 hr hz8 hf8 H56
                          generalize w8.setCell ⟨G + 1 + 1 + 1, 3, none⟩ (.slice (some ⟨gq2, 0, none⟩) (L2.length + 1) cap2) = w9 at *
                          go_wp2
                          go_roundw
                          case rel =>
                            refine ⟨i + 1, some ⟨gq2, 0, none⟩, cap2, fq8, L2 ++ [z], K2 ++ [K], by omega, by first | rfl | (rw [HD.out]; congr 1; simp only [decide_eq_decide]; omega) | (congr 1; symm; apply decide_eq_true; have := HIP.out; omega), by go_num, ?_, HI9⟩
                            have hq2 := HSUB.out.2
                            rw [HL2.out.1, HL2.out.2, hL.out.1, hL.out.2, hq2, ← HIP.out]
                            exact ⟨(gOut_new HZ.out.1).symm, (gOut_new HZ.out.2.1).symm⟩
                          case measure => simp [intOf]; omega
          | false =>
            have hip : i ≠ p := of_decide_eq_false HBB.out.symm
            by_cases hie : i = n
            · obtain ⟨u0, u1, u2, u3, _⟩ := cell4 hI1.out.1
              have g1 : decide ((i : Int) < (n : Int)) = false := decide_eq_false (by omega)
              have g1' : ¬ (i : Int) < (n : Int) := by omega
              go_upto_region 14 with fail
              go_quiet (fail)
              go_wp2
              go_roundw
              case rel =>
                refine ⟨i + 1, y', cp, fp, Ls, Ks, by omega, by rw [HD.out]; congr 1; simp only [decide_eq_decide]; omega, by go_num, ?_, hI1.out.on (bel_drewN (Below.refl _ _) nq)⟩
                have e1 : gOut ns s p q (i + 1) = gOut ns s p q i := by
                  have := gOut_last ns s (p := p) (q := q) (by rw [LL.out.1]; omega)
                  rw [LL.out.1, ← hie] at this
                  exact this
                have e2 : gOut ks Kn p q (i + 1) = gOut ks Kn p q i := by
                  have := gOut_last ks Kn (p := p) (q := q) (by rw [LL.out.2.1]; omega)
                  rw [LL.out.2.1, ← hie] at this
                  exact this
                rw [e1, e2]
                exact hL
              case measure => simp [intOf]; omega
            · have hlt : i < n := by omega
              obtain ⟨z, hz⟩ : ∃ z, ns[i]? = some z := ⟨_, List.getElem?_eq_getElem (by rw [LL.out.1]; omega)⟩
              obtain ⟨K, hK⟩ : ∃ z, ks[i]? = some z := ⟨_, List.getElem?_eq_getElem (by rw [LL.out.2.1]; omega)⟩
              have hzs : z ≠ s := by
                rcases Nat.lt_or_gt_of_ne hip with h | h
                · intro e; have h0 := HLp.out i z h hz; rw [e] at h0; have := cmpB_swap s s; omega
                · exact HBy.out i z h hz
              have g3 : (z.toList == s.toList) = false := by rw [beq_eq_false_iff_ne]; intro e; exact hzs (btl_inj e)
              have g4 : (z.toList != s.toList) = true := by simp [bne, g3]
              have g5 : ¬ z.toList = s.toList := fun e => hzs (btl_inj e)
              obtain ⟨_, _, _, _, _, _, _, _, hxx, hgw, _⟩ := EX.out i z K hlt hz hK
              obtain ⟨g, o, a, b, d', f', p', q', rfl, hg, c0, c1, c2, c3, c4, hA⟩ := EX.out.below hB1.out i z K hlt hz hK
              injection hxx with hxx
              injection hxx with h1 h2
              subst h1 h2
              have HZg : Hid (g < w.heap.size) := hgw
              have HZ : Hid (ns[i]? = some z ∧ ks[i]? = some K ∧ z ≠ s ∧ lnT K) := ⟨hz, hK, hzs, lnL_at _ _ _ LL.out.2.2.2.1 hK⟩
              have HLL : Hid (Ls.length ≤ 1073741824) := by
                rw [Hid, hL.out.1]
                exact Nat.le_trans (gOut_len HQ.out.1) (by omega)
              clear hz hK hzs hgw
              obtain ⟨u0, u1, u2, u3, _⟩ := cell4 hI1.out.1
              have g1 : decide ((i : Int) < (n : Int)) = true := decide_eq_true (by omega)
              have cy : wa.cell? ⟨gy, oy, none⟩ = some (.string s) := (hB1.out.cell (p := ⟨gy, oy, none⟩) HMM.out.2.2.2.1).trans HMM.out.2.2.2.2
              go_upto_region 14 with fail
              go_quiet (fail)
              have HI0 : Hid (GrI w G #[Value.int IntKind.i64 k, Value.bool e, Value.string t, Value.slice (some ⟨g, o, none⟩) n c] #[Value.int IntKind.i64 ku, Value.bool eu, Value.string tu, Value.slice xu nu cu] Ls Ks y' cp fp (wa.drewN nq).drew) := hI1.out.on ((bel_drewN (Below.refl _ _) nq).trans ⟨rfl, rfl, rfl, Nat.le_refl _, fun _ _ => rfl⟩)
              have HB0 : Hid (Below w.heap.size w (wa.drewN nq).drew) := (bel_drewN hB1.out nq).trans ⟨rfl, rfl, rfl, Nat.le_refl _, fun _ _ => rfl⟩
              clear hI1 hB1 u0 u1 u2 u3 cy c0 c1 c2 c3 c4 hA hg
              generalize wa.drewN nq = wx at *
              obtain ⟨gz, oz, za, zb, zd, zf, zp, zq, hge, hg, d1, d2, d3, d4, d5, hA⟩ := EX.out.below HB0.out i z K hlt HZ.out.1 HZ.out.2.1
              injection hge with hge
              injection hge with h1 h2
              subst h1 h2
              have CG := clone_any _ _ K wx.drew hA HZ.out.2.2.2
              obtain ⟨_, _, _, d0, _⟩ := cell4 HI0.out.1
              have HLN : Hid (Ls.length ≤ 1073741824) := HLL.out
              have HBS : Hid (∀ b ∈ [G, g], b < wx.drew.heap.size ∧ b ∉ fp ∧ b ≠ G + 1 + 1 + 1) := by
                have hgG : g < G := by rw [← HG.out]; exact HZg.out
                have hsz := HI0.out.2.2.2.2.2.2.1
                intro b hb
                have hbG : b ≤ G := by
                  rcases List.mem_cons.1 hb with rfl | hb
                  · exact Nat.le_refl _
                  · simp at hb; omega
                exact ⟨by omega, fun hf => by have := (TrV.lt _ _ _ HI0.out.2.2.2.2.1 b hf).1; omega, by omega⟩
              clear hA
              go_upto_region 15 with fail
              refine wp_region_held_drew (S := KB [G, g] wx.drew) (by kernel_rfl) (KB.refl _ _) (fun _ => ?_)
              have N0 : KB [G, g] wx.drew wx.drew := KB.refl _ _
              generalize wx.drew = Wd at *
              refine wpAnyH_take (i := 0) (oi := { dst := some 100, op := Op.fieldAddr 32 (Operand.tmp 7) 3, type := 0, pos := "ref.go:378", after := #[], guard := none }) (v := .pointer (some ⟨G + 1 + 1 + 1, 3, none⟩)) rfl (by kernel_rfl) (by kernel_rfl) (by kernel_rfl) (fun _ _ _ h => h) (Or.inl ⟨by rfl, by intro w _; go_simp⟩) N0 ?_
              try simp only [Act.put, List.setIfInBounds_toArray, List.set_cons_zero, List.set_cons_succ]
              refine wpAnyH_take (i := 2) (oi := { dst := some 102, op := Op.fieldAddr 32 (Operand.tmp 3) 3, type := 0, pos := "ref.go:378", after := #[], guard := none }) (v := .pointer (some ⟨G, 3, none⟩)) rfl (by kernel_rfl) (by kernel_rfl) (by kernel_rfl) (fun _ _ _ h => h) (Or.inl ⟨by rfl, by intro w _; go_simp⟩) N0 ?_
              try simp only [Act.put, List.setIfInBounds_toArray, List.set_cons_zero, List.set_cons_succ]
              refine wpAnyH_take (i := 3) (oi := { dst := some 103, op := Op.load 30 (Operand.tmp 102), type := 30, pos := "ref.go:378", after := #[{ on := 2, ground := Ground.data }], guard := none }) (v := .slice (some ⟨g, o, none⟩) n c) rfl (by kernel_rfl) (by kernel_rfl) (by kernel_rfl) (fun _ _ _ h => h) (Or.inl ⟨by rfl, by intro w hw; have y0 := hw.cell d0 (by simp); go_simp⟩) N0 ?_
              try simp only [Act.put, List.setIfInBounds_toArray, List.set_cons_zero, List.set_cons_succ]
              refine wpAnyH_take (i := 4) (oi := { dst := some 104, op := Op.move (Operand.tmp 9), type := 3, pos := "ref.go:378", after := #[], guard := none }) (v := .int .i64 (i : Int)) rfl (by kernel_rfl) (by kernel_rfl) (by kernel_rfl) (fun _ _ _ h => h) (Or.inl ⟨by rfl, by intro w _; go_simp⟩) N0 ?_
              try simp only [Act.put, List.setIfInBounds_toArray, List.set_cons_zero, List.set_cons_succ]
              refine wpAnyH_take (i := 5) (oi := { dst := some 105, op := Op.indexAddr 30 (Operand.tmp 103) (Operand.tmp 104), type := 0, pos := "ref.go:378", after := #[{ on := 3, ground := Ground.data }, { on := 4, ground := Ground.data }], guard := none }) (v := .pointer (some ⟨g, o + i * 5, none⟩)) rfl (by kernel_rfl) (by kernel_rfl) (by kernel_rfl) (fun _ _ _ h => h) (Or.inl ⟨by rfl, by intro w _; go_simp⟩) N0 ?_
              try simp only [Act.put, List.setIfInBounds_toArray, List.set_cons_zero, List.set_cons_succ]
              refine wpAnyH_take (i := 6) (oi := { dst := some 106, op := Op.fieldAddr 52 (Operand.tmp 105) 0, type := 0, pos := "ref.go:378", after := #[{ on := 5, ground := Ground.data }], guard := none }) (v := .pointer (some ⟨g, o + i * 5, none⟩)) rfl (by kernel_rfl) (by kernel_rfl) (by kernel_rfl) (fun _ _ _ h => h) (Or.inl ⟨by rfl, by intro w _; go_simp⟩) N0 ?_
              try simp only [Act.put, List.setIfInBounds_toArray, List.set_cons_zero, List.set_cons_succ]
              refine wpAnyH_take (i := 7) (oi := { dst := some 107, op := Op.load 9 (Operand.tmp 106), type := 9, pos := "ref.go:378", after := #[{ on := 6, ground := Ground.data }], guard := none }) (v := .string z) rfl (by kernel_rfl) (by kernel_rfl) (by kernel_rfl) (fun _ _ _ h => h) (Or.inl ⟨by rfl, by intro w hw; have y0 := hw.cell d1 (by simp); go_simp⟩) N0 ?_
              try simp only [Act.put, List.setIfInBounds_toArray, List.set_cons_zero, List.set_cons_succ]
              refine wpAnyH_take (i := 8) (oi := { dst := some 108, op := Op.fieldAddr 32 (Operand.tmp 3) 3, type := 0, pos := "ref.go:378", after := #[], guard := none }) (v := .pointer (some ⟨G, 3, none⟩)) rfl (by kernel_rfl) (by kernel_rfl) (by kernel_rfl) (fun _ _ _ h => h) (Or.inl ⟨by rfl, by intro w _; go_simp⟩) N0 ?_
              try simp only [Act.put, List.setIfInBounds_toArray, List.set_cons_zero, List.set_cons_succ]
              refine wpAnyH_take (i := 9) (oi := { dst := some 109, op := Op.load 30 (Operand.tmp 108), type := 30, pos := "ref.go:378", after := #[{ on := 8, ground := Ground.data }], guard := none }) (v := .slice (some ⟨g, o, none⟩) n c) rfl (by kernel_rfl) (by kernel_rfl) (by kernel_rfl) (fun _ _ _ h => h) (Or.inl ⟨by rfl, by intro w hw; have y0 := hw.cell d0 (by simp); go_simp⟩) N0 ?_
              try simp only [Act.put, List.setIfInBounds_toArray, List.set_cons_zero, List.set_cons_succ]
              refine wpAnyH_take (i := 10) (oi := { dst := some 110, op := Op.move (Operand.tmp 9), type := 3, pos := "ref.go:378", after := #[], guard := none }) (v := .int .i64 (i : Int)) rfl (by kernel_rfl) (by kernel_rfl) (by kernel_rfl) (fun _ _ _ h => h) (Or.inl ⟨by rfl, by intro w _; go_simp⟩) N0 ?_
              try simp only [Act.put, List.setIfInBounds_toArray, List.set_cons_zero, List.set_cons_succ]
              refine wpAnyH_take (i := 11) (oi := { dst := some 111, op := Op.indexAddr 30 (Operand.tmp 109) (Operand.tmp 110), type := 0, pos := "ref.go:378", after := #[{ on := 9, ground := Ground.data }, { on := 10, ground := Ground.data }], guard := none }) (v := .pointer (some ⟨g, o + i * 5, none⟩)) rfl (by kernel_rfl) (by kernel_rfl) (by kernel_rfl) (fun _ _ _ h => h) (Or.inl ⟨by rfl, by intro w _; go_simp⟩) N0 ?_
              try simp only [Act.put, List.setIfInBounds_toArray, List.set_cons_zero, List.set_cons_succ]
              refine wpAnyH_take (i := 12) (oi := { dst := some 112, op := Op.fieldAddr 52 (Operand.tmp 111) 1, type := 0, pos := "ref.go:378", after := #[{ on := 11, ground := Ground.data }], guard := none }) (v := .pointer (some ⟨g, o + i * 5 + 1, none⟩)) rfl (by kernel_rfl) (by kernel_rfl) (by kernel_rfl) (fun _ _ _ h => h) (Or.inl ⟨by rfl, by intro w _; go_simp⟩) N0 ?_
              try simp only [Act.put, List.setIfInBounds_toArray, List.set_cons_zero, List.set_cons_succ]
              refine wpAnyH_take (i := 13) (oi := { dst := some 113, op := Op.load 32 (Operand.tmp 112), type := 32, pos := "ref.go:378", after := #[{ on := 12, ground := Ground.data }], guard := none }) (v := .agg #[.int .i64 za, .bool zb, .string zd, .slice zf zp zq]) rfl (by kernel_rfl) (by kernel_rfl) (by kernel_rfl) (fun _ _ _ h => h) (Or.inl ⟨by rfl, by intro w hw; have y0 := hw.cell d2 (by simp); have y1 := hw.cell d3 (by simp); have y2 := hw.cell d4 (by simp); have y3 := hw.cell d5 (by simp); go_simp⟩) N0 ?_
              try simp only [Act.put, List.setIfInBounds_toArray, List.set_cons_zero, List.set_cons_succ]
              refine wpAnyH_ready (rs := [1, 14]) (by kernel_rfl) (by decide) (AllReadyH.cons rfl (fun K1 hK1 => ?_) (AllReadyH.cons rfl (fun K1 hK1 => ?_) AllReadyH.nil))
              · skip
                have kk := (cell4 HI0.out.2.2.2.1).2.2.2.1
                rw [if_pos (by rfl)]
                go_simp
                refine hK1.out _ _ N0 (fun _ => ?_)
                clear hK1 K1 kk
                try simp only [Act.put, List.setIfInBounds_toArray, List.set_cons_zero, List.set_cons_succ]
                refine wpAnyH_ready (rs := [14]) (by kernel_rfl) (by decide) (AllReadyH.cons rfl (fun K1 hK1 => ?_) AllReadyH.nil)
                rw [if_pos (by rfl)]
                go_simp
                refine CG.mono ?_
                rintro e5 w5 ⟨⟨v5, fp5, rfl, hv, hnd⟩, b5⟩
                obtain ⟨x5, q5, rfl⟩ := hv.shape
                have HI5 : Hid (GrI w G #[Value.int IntKind.i64 k, Value.bool e, Value.string t, Value.slice (some ⟨g, o, none⟩) n c] #[Value.int IntKind.i64 ku, Value.bool eu, Value.string tu, Value.slice xu nu cu] Ls Ks y' cp fp w5) := HI0.out.on b5
                obtain ⟨g2, cap, w8, fp8, hr, ⟨hz8, hf8⟩, hyo, hb8, hI9⟩ := HI5.out.app z K x5 q5 fp5 Wd.heap.size hv hnd HI0.out.2.2.2.2.2.2.1 (fun b hb => (TrV.lt _ _ _ HI0.out.2.2.2.2.1 b hb).2) HLN.out
                have HI9 : Hid (GrI w G #[Value.int IntKind.i64 k, Value.bool e, Value.string t, Value.slice (some ⟨g, o, none⟩) n c] #[Value.int IntKind.i64 ku, Value.bool eu, Value.string tu, Value.slice xu nu cu] (Ls ++ [z]) (Ks ++ [K]) (some ⟨g2, 0, none⟩) cap fp8 (w8.setCell ⟨G + 1 + 1 + 1, 3, none⟩ (.slice (some ⟨g2, 0, none⟩) (Ls.length + 1) cap))) := hI9
                have hl5 : ∀ b ∈ [G, g], b < w5.heap.size := fun b hb => Nat.lt_of_lt_of_le (HBS.out b hb).1 b5.size
                have N5 : KB [G, g] Wd w5 := N0.below (fun b hb => (HBS.out b hb).1) b5
                have bN6 : Below w5.heap.size w5 (w5.alloc (Obj.cells #[Value.string z, Value.int IntKind.i64 K.k, Value.bool K.e, Value.string K.t, Value.slice x5 K.nms.length q5] 52)) := (Below.refl _ _).alloc (Nat.le_refl _) _
                have N6 : KB [G, g] Wd (w5.alloc (Obj.cells #[Value.string z, Value.int IntKind.i64 K.k, Value.bool K.e, Value.string K.t, Value.slice x5 K.nms.length q5] 52)) := N5.below hl5 bN6
                have N8 : KB [G, g] Wd w8 := N5.keep hl5 (fun b hb => (HBS.out b hb).2.1) hyo
                have N9 : KB [G, g] Wd (w8.setCell ⟨G + 1 + 1 + 1, 3, none⟩ (.slice (some ⟨g2, 0, none⟩) (Ls.length + 1) cap)) := N8.set _ _ (fun b hb => (HBS.out b hb).2.2)
                have H56 : Hid (w5.cell? ⟨G + 1 + 1 + 1, 3, none⟩ = some (.slice y' Ls.length cp) ∧ (w5.alloc (Obj.cells #[Value.string z, Value.int IntKind.i64 K.k, Value.bool K.e, Value.string K.t, Value.slice x5 K.nms.length q5] 52)).cell? ⟨G + 1 + 1 + 1, 3, none⟩ = some (.slice y' Ls.length cp)) := ⟨(cell4 HI5.out.2.2.2.1).2.2.2.1, (cell4 (HI5.out.on bN6).2.2.2.1).2.2.2.1⟩
                clear hI9 hyo hb8 hv hnd b5 hl5 bN6 HI5
                refine hK1.out _ _ N5 (fun _ => ?_)
                clear hK1 K1
                try simp only [Act.put, List.setIfInBounds_toArray, List.set_cons_zero, List.set_cons_succ]
                refine wpAnyH_take (i := 15) (oi := { dst := some 115, op := Op.build 52 #[(0, Operand.tmp 107), (1, Operand.tmp 114)], type := 52, pos := "ref.go:378", after := #[{ on := 7, ground := Ground.data }, { on := 14, ground := Ground.data }], guard := none }) (v := .agg #[.string z, .int .i64 K.k, .bool K.e, .string K.t, .slice x5 K.nms.length q5]) rfl (by kernel_rfl) (by kernel_rfl) (by kernel_rfl) (fun _ _ _ h => h) (Or.inl ⟨by rfl, by intro w _; go_simp⟩) N5 ?_
                try simp only [Act.put, List.setIfInBounds_toArray, List.set_cons_zero, List.set_cons_succ]
                refine wpAnyH_ready (rs := [16]) (by kernel_rfl) (by decide) (AllReadyH.cons rfl (fun K1 hK1 => ?_) AllReadyH.nil)
                rw [if_pos (by rfl)]
                go_simp
                refine hK1.out _ _ N6 (fun _ => ?_)
                clear hK1 K1
                try simp only [Act.put, List.setIfInBounds_toArray, List.set_cons_zero, List.set_cons_succ]
                refine wpAnyH_ready (rs := [17]) (by kernel_rfl) (by decide) (AllReadyH.cons rfl (fun K1 hK1 => ?_) AllReadyH.nil)
                refine step_append_runI (o := { dst := some 117, op := Op.call { callee := Callee.builtin Builtin.append, args := #[Operand.tmp 101, Operand.tmp 116], argTypes := #[30, 30] }, type := 30, pos := "ref.go:378", after := #[{ on := 1, ground := Ground.data }, { on := 16, ground := Ground.data }, { on := 14, ground := Ground.chain }], guard := none }) rfl (.tmp 101) (.tmp 116) 30 30 rfl _ _ rfl rfl hr ?_
                refine hK1.out _ _ N8 (fun _ => ?_)
                clear hK1 K1
                try simp only [Act.put, List.setIfInBounds_toArray, List.set_cons_zero, List.set_cons_succ]
                refine wpAnyH_take (i := 18) (oi := { dst := some 118, op := Op.fieldAddr 32 (Operand.tmp 7) 3, type := 0, pos := "ref.go:378", after := #[{ on := 0, ground := Ground.phase }, { on := 1, ground := Ground.phase }, { on := 2, ground := Ground.phase }, { on := 3, ground := Ground.phase }, { on := 4, ground := Ground.phase }, { on := 5, ground := Ground.phase }, { on := 6, ground := Ground.phase }, { on := 7, ground := Ground.phase }, { on := 8, ground := Ground.phase }, { on := 9, ground := Ground.phase }, { on := 10, ground := Ground.phase }, { on := 11, ground := Ground.phase }, { on := 12, ground := Ground.phase }, { on := 13, ground := Ground.phase }, { on := 14, ground := Ground.phase }, { on := 15, ground := Ground.phase }, { on := 16, ground := Ground.phase }, { on := 17, ground := Ground.phase }], guard := none }) (v := .pointer (some ⟨G + 1 + 1 + 1, 3, none⟩)) rfl (by kernel_rfl) (by kernel_rfl) (by kernel_rfl) (fun _ _ _ h => h) (Or.inl ⟨by rfl, by intro w _; go_simp⟩) N8 ?_
                try simp only [Act.put, List.setIfInBounds_toArray, List.set_cons_zero, List.set_cons_succ]
                refine wpAnyH_ready (rs := [19]) (by kernel_rfl) (by decide) (AllReadyH.cons rfl (fun K1 hK1 => ?_) AllReadyH.nil)
                rw [if_pos (by rfl)]
                go_simp
                refine hK1.out _ _ N9 (fun _ => ?_)
                clear hK1 K1
                refine wpAnyH_done (by kernel_rfl) ?_ _
                clear N0 N5 N6 N8 N9 hr hz8 hf8 H56
                generalize w8.setCell ⟨G + 1 + 1 + 1, 3, none⟩ (.slice (some ⟨g2, 0, none⟩) (Ls.length + 1) cap) = w9 at *
                go_wp2
                go_roundw
                case rel =>
                  refine ⟨i + 1, some ⟨g2, 0, none⟩, cap, fp8, Ls ++ [z], Ks ++ [K], by omega, by first | rfl | (rw [HD.out]; congr 1; simp only [decide_eq_decide]; omega) | (congr 1; symm; apply decide_eq_true; have := HIP.out; omega), by go_num, ?_, HI9⟩
                  rw [hL.out.1, hL.out.2]
                  rcases Nat.lt_or_gt_of_ne hip with h | h
                  · exact ⟨(gOut_low h HZ.out.1).symm, (gOut_low h HZ.out.2.1).symm⟩
                  · exact ⟨(gOut_high h (by have := HQ.out; omega) HZ.out.1).symm, (gOut_high h (by have := HQ.out; omega) HZ.out.2.1).symm⟩
                case measure => simp [intOf]; omega
              · skip
                rw [if_pos (by rfl)]
                go_simp
                refine CG.mono ?_
                rintro e5 w5 ⟨⟨v5, fp5, rfl, hv, hnd⟩, b5⟩
                obtain ⟨x5, q5, rfl⟩ := hv.shape
                have HI5 : Hid (GrI w G #[Value.int IntKind.i64 k, Value.bool e, Value.string t, Value.slice (some ⟨g, o, none⟩) n c] #[Value.int IntKind.i64 ku, Value.bool eu, Value.string tu, Value.slice xu nu cu] Ls Ks y' cp fp w5) := HI0.out.on b5
                obtain ⟨g2, cap, w8, fp8, hr, ⟨hz8, hf8⟩, hyo, hb8, hI9⟩ := HI5.out.app z K x5 q5 fp5 Wd.heap.size hv hnd HI0.out.2.2.2.2.2.2.1 (fun b hb => (TrV.lt _ _ _ HI0.out.2.2.2.2.1 b hb).2) HLN.out
                have HI9 : Hid (GrI w G #[Value.int IntKind.i64 k, Value.bool e, Value.string t, Value.slice (some ⟨g, o, none⟩) n c] #[Value.int IntKind.i64 ku, Value.bool eu, Value.string tu, Value.slice xu nu cu] (Ls ++ [z]) (Ks ++ [K]) (some ⟨g2, 0, none⟩) cap fp8 (w8.setCell ⟨G + 1 + 1 + 1, 3, none⟩ (.slice (some ⟨g2, 0, none⟩) (Ls.length + 1) cap))) := hI9
                have hl5 : ∀ b ∈ [G, g], b < w5.heap.size := fun b hb => Nat.lt_of_lt_of_le (HBS.out b hb).1 b5.size
                have N5 : KB [G, g] Wd w5 := N0.below (fun b hb => (HBS.out b hb).1) b5
                have bN6 : Below w5.heap.size w5 (w5.alloc (Obj.cells #[Value.string z, Value.int IntKind.i64 K.k, Value.bool K.e, Value.string K.t, Value.slice x5 K.nms.length q5] 52)) := (Below.refl _ _).alloc (Nat.le_refl _) _
                have N6 : KB [G, g] Wd (w5.alloc (Obj.cells #[Value.string z, Value.int IntKind.i64 K.k, Value.bool K.e, Value.string K.t, Value.slice x5 K.nms.length q5] 52)) := N5.below hl5 bN6
                have N8 : KB [G, g] Wd w8 := N5.keep hl5 (fun b hb => (HBS.out b hb).2.1) hyo
                have N9 : KB [G, g] Wd (w8.setCell ⟨G + 1 + 1 + 1, 3, none⟩ (.slice (some ⟨g2, 0, none⟩) (Ls.length + 1) cap)) := N8.set _ _ (fun b hb => (HBS.out b hb).2.2)
                have H56 : Hid (w5.cell? ⟨G + 1 + 1 + 1, 3, none⟩ = some (.slice y' Ls.length cp) ∧ (w5.alloc (Obj.cells #[Value.string z, Value.int IntKind.i64 K.k, Value.bool K.e, Value.string K.t, Value.slice x5 K.nms.length q5] 52)).cell? ⟨G + 1 + 1 + 1, 3, none⟩ = some (.slice y' Ls.length cp)) := ⟨(cell4 HI5.out.2.2.2.1).2.2.2.1, (cell4 (HI5.out.on bN6).2.2.2.1).2.2.2.1⟩
                clear hI9 hyo hb8 hv hnd b5 hl5 bN6 HI5
                refine hK1.out _ _ N5 (fun _ => ?_)
                clear hK1 K1
                try simp only [Act.put, List.setIfInBounds_toArray, List.set_cons_zero, List.set_cons_succ]
                refine wpAnyH_take (i := 15) (oi := { dst := some 115, op := Op.build 52 #[(0, Operand.tmp 107), (1, Operand.tmp 114)], type := 52, pos := "ref.go:378", after := #[{ on := 7, ground := Ground.data }, { on := 14, ground := Ground.data }], guard := none }) (v := .agg #[.string z, .int .i64 K.k, .bool K.e, .string K.t, .slice x5 K.nms.length q5]) rfl (by kernel_rfl) (by kernel_rfl) (by kernel_rfl) (fun _ _ _ h => h) (Or.inl ⟨by rfl, by intro w _; go_simp⟩) N5 ?_
                try simp only [Act.put, List.setIfInBounds_toArray, List.set_cons_zero, List.set_cons_succ]
                refine wpAnyH_ready (rs := [1, 16]) (by kernel_rfl) (by decide) (AllReadyH.cons rfl (fun K1 hK1 => ?_) (AllReadyH.cons rfl (fun K1 hK1 => ?_) AllReadyH.nil))
                · skip
                  have kk := H56.out.1
                  rw [if_pos (by rfl)]
                  go_simp
                  refine hK1.out _ _ N5 (fun _ => ?_)
                  clear hK1 K1 kk
                  try simp only [Act.put, List.setIfInBounds_toArray, List.set_cons_zero, List.set_cons_succ]
                  refine wpAnyH_ready (rs := [16]) (by kernel_rfl) (by decide) (AllReadyH.cons rfl (fun K1 hK1 => ?_) AllReadyH.nil)
                  rw [if_pos (by rfl)]
                  go_simp
                  refine hK1.out _ _ N6 (fun _ => ?_)
                  clear hK1 K1
                  try simp only [Act.put, List.setIfInBounds_toArray, List.set_cons_zero, List.set_cons_succ]
                  refine wpAnyH_ready (rs := [17]) (by kernel_rfl) (by decide) (AllReadyH.cons rfl (fun K1 hK1 => ?_) AllReadyH.nil)
                  refine step_append_runI (o := { dst := some 117, op := Op.call { callee := Callee.builtin Builtin.append, args := #[Operand.tmp 101, Operand.tmp 116], argTypes := #[30, 30] }, type := 30, pos := "ref.go:378", after := #[{ on := 1, ground := Ground.data }, { on := 16, ground := Ground.data }, { on := 14, ground := Ground.chain }], guard := none }) rfl (.tmp 101) (.tmp 116) 30 30 rfl _ _ rfl rfl hr ?_
                  refine hK1.out _ _ N8 (fun _ => ?_)
                  clear hK1 K1
                  try simp only [Act.put, List.setIfInBounds_toArray, List.set_cons_zero, List.set_cons_succ]
                  refine wpAnyH_take (i := 18) (oi := { dst := some 118, op := Op.fieldAddr 32 (Operand.tmp 7) 3, type := 0, pos := "ref.go:378", after := #[{ on := 0, ground := Ground.phase }, { on := 1, ground := Ground.phase }, { on := 2, ground := Ground.phase }, { on := 3, ground := Ground.phase }, { on := 4, ground := Ground.phase }, { on := 5, ground := Ground.phase }, { on := 6, ground := Ground.phase }, { on := 7, ground := Ground.phase }, { on := 8, ground := Ground.phase }, { on := 9, ground := Ground.phase }, { on := 10, ground := Ground.phase }, { on := 11, ground := Ground.phase }, { on := 12, ground := Ground.phase }, { on := 13, ground := Ground.phase }, { on := 14, ground := Ground.phase }, { on := 15, ground := Ground.phase }, { on := 16, ground := Ground.phase }, { on := 17, ground := Ground.phase }], guard := none }) (v := .pointer (some ⟨G + 1 + 1 + 1, 3, none⟩)) rfl (by kernel_rfl) (by kernel_rfl) (by kernel_rfl) (fun _ _ _ h => h) (Or.inl ⟨by rfl, by intro w _; go_simp⟩) N8 ?_
                  try simp only [Act.put, List.setIfInBounds_toArray, List.set_cons_zero, List.set_cons_succ]
                  refine wpAnyH_ready (rs := [19]) (by kernel_rfl) (by decide) (AllReadyH.cons rfl (fun K1 hK1 => ?_) AllReadyH.nil)
                  rw [if_pos (by rfl)]
                  go_simp
                  refine hK1.out _ _ N9 (fun _ => ?_)
                  clear hK1 K1
                  refine wpAnyH_done (by kernel_rfl) ?_ _
                  clear N0 N5 N6 N8 N9 hr hz8 hf8 H56
                  generalize w8.setCell ⟨G + 1 + 1 + 1, 3, none⟩ (.slice (some ⟨g2, 0, none⟩) (Ls.length + 1) cap) = w9 at *
                  go_wp2
                  go_roundw
                  case rel =>
                    refine ⟨i + 1, some ⟨g2, 0, none⟩, cap, fp8, Ls ++ [z], Ks ++ [K], by omega, by first | rfl | (rw [HD.out]; congr 1; simp only [decide_eq_decide]; omega) | (congr 1; symm; apply decide_eq_true; have := HIP.out; omega), by go_num, ?_, HI9⟩
                    rw [hL.out.1, hL.out.2]
                    rcases Nat.lt_or_gt_of_ne hip with h | h
                    · exact ⟨(gOut_low h HZ.out.1).symm, (gOut_low h HZ.out.2.1).symm⟩
                    · exact ⟨(gOut_high h (by have := HQ.out; omega) HZ.out.1).symm, (gOut_high h (by have := HQ.out; omega) HZ.out.2.1).symm⟩
                  case measure => simp [intOf]; omega
                · skip
                  rw [if_pos (by rfl)]
                  go_simp
                  refine hK1.out _ _ N6 (fun _ => ?_)
                  clear hK1 K1
                  try simp only [Act.put, List.setIfInBounds_toArray, List.set_cons_zero, List.set_cons_succ]
                  refine wpAnyH_ready (rs := [1]) (by kernel_rfl) (by decide) (AllReadyH.cons rfl (fun K1 hK1 => ?_) AllReadyH.nil)
                  have kk := H56.out.2
                  rw [if_pos (by rfl)]
                  go_simp
                  refine hK1.out _ _ N6 (fun _ => ?_)
                  clear hK1 K1 kk
                  try simp only [Act.put, List.setIfInBounds_toArray, List.set_cons_zero, List.set_cons_succ]
                  refine wpAnyH_ready (rs := [17]) (by kernel_rfl) (by decide) (AllReadyH.cons rfl (fun K1 hK1 => ?_) AllReadyH.nil)
                  refine step_append_runI (o := { dst := some 117, op := Op.call { callee := Callee.builtin Builtin.append, args := #[Operand.tmp 101, Operand.tmp 116], argTypes := #[30, 30] }, type := 30, pos := "ref.go:378", after := #[{ on := 1, ground := Ground.data }, { on := 16, ground := Ground.data }, { on := 14, ground := Ground.chain }], guard := none }) rfl (.tmp 101) (.tmp 116) 30 30 rfl _ _ rfl rfl hr ?_
                  refine hK1.out _ _ N8 (fun _ => ?_)
                  clear hK1 K1
                  try simp only [Act.put, List.setIfInBounds_toArray, List.set_cons_zero, List.set_cons_succ]
                  refine wpAnyH_take (i := 18) (oi := { dst := some 118, op := Op.fieldAddr 32 (Operand.tmp 7) 3, type := 0, pos := "ref.go:378", after := #[{ on := 0, ground := Ground.phase }, { on := 1, ground := Ground.phase }, { on := 2, ground := Ground.phase }, { on := 3, ground := Ground.phase }, { on := 4, ground := Ground.phase }, { on := 5, ground := Ground.phase }, { on := 6, ground := Ground.phase }, { on := 7, ground := Ground.phase }, { on := 8, ground := Ground.phase }, { on := 9, ground := Ground.phase }, { on := 10, ground := Ground.phase }, { on := 11, ground := Ground.phase }, { on := 12, ground := Ground.phase }, { on := 13, ground := Ground.phase }, { on := 14, ground := Ground.phase }, { on := 15, ground := Ground.phase }, { on := 16, ground := Ground.phase }, { on := 17, ground := Ground.phase }], guard := none }) (v := .pointer (some ⟨G + 1 + 1 + 1, 3, none⟩)) rfl (by kernel_rfl) (by kernel_rfl) (by kernel_rfl) (fun _ _ _ h => h) (Or.inl ⟨by rfl, by intro w _; go_simp⟩) N8 ?_
                  try simp only [Act.put, List.setIfInBounds_toArray, List.set_cons_zero, List.set_cons_succ]
                  refine wpAnyH_ready (rs := [19]) (by kernel_rfl) (by decide) (AllReadyH.cons rfl (fun K1 hK1 => ?_) AllReadyH.nil)
                  rw [if_pos (by rfl)]
                  go_simp
                  refine hK1.out _ _ N9 (fun _ => ?_)
                  clear hK1 K1
                  refine wpAnyH_done (by kernel_rfl) ?_ _
                  clear N0 N5 N6 N8 N9 hr hz8 hf8 H56
                  generalize w8.setCell ⟨G + 1 + 1 + 1, 3, none⟩ (.slice (some ⟨g2, 0, none⟩) (Ls.length + 1) cap) = w9 at *
                  go_wp2
                  go_roundw
                  case rel =>
                    refine ⟨i + 1, some ⟨g2, 0, none⟩, cap, fp8, Ls ++ [z], Ks ++ [K], by omega, by first | rfl | (rw [HD.out]; congr 1; simp only [decide_eq_decide]; omega) | (congr 1; symm; apply decide_eq_true; have := HIP.out; omega), by go_num, ?_, HI9⟩
                    rw [hL.out.1, hL.out.2]
                    rcases Nat.lt_or_gt_of_ne hip with h | h
                    · exact ⟨(gOut_low h HZ.out.1).symm, (gOut_low h HZ.out.2.1).symm⟩
                    · exact ⟨(gOut_high h (by have := HQ.out; omega) HZ.out.1).symm, (gOut_high h (by have := HQ.out; omega) HZ.out.2.1).symm⟩
                  case measure => simp [intOf]; omega
      · obtain rfl : i = n + 1 := by omega
        obtain ⟨y0, y1, y2, y3, _⟩ := cell4 hI.out.2.2.2.1
        obtain ⟨r0, r1, r2, r3, uf⟩ := cell4 hI.out.2.2.1
        have v0 := uf 0
        have v1 := uf 1
        have v2 := uf 2
        have v3 := uf 3
        clear uf
        have gI : ¬ ((n : Int) + 1 ≤ (n : Int)) := by omega
        go_wp2
        have hq := put4 hI.out.2.2.1 (Value.int .i64 3) (.bool false) (.string ⟨#[]⟩) (.slice y' Ls.length cp)
        have hBB : Below w.heap.size w (wr.setCells (G + 1 + 1) 0 [Value.int .i64 3, .bool false, .string ⟨#[]⟩, .slice y' Ls.length cp]) := belowE_setCells _ _ _ (by rw [HG.out]; omega) hB.out
        have hVE := TrV.low (show w.heap.size ≤ G + 1 + 1 + 1 + 1 by rw [HG.out]; omega) _ _ _ (TrV.same (w' := wr.setCells (G + 1 + 1) 0 [Value.int .i64 3, .bool false, .string ⟨#[]⟩, .slice y' Ls.length cp]) _ _ _ hI.out.2.2.2.2.1 (fun b hb => heapE_setCells (G + 1 + 1) _ _ b (fun hh => by have := (TrV.lt _ _ _ hI.out.2.2.2.2.1 b hb).1; omega) wr))
        have e1 := gOut_done ns s (p := p) (q := q) (by rw [LL.out.1]; exact hpn)
        have e2 := gOut_done ks Kn (p := p) (q := q) (by rw [LL.out.2.1]; exact hpn)
        rw [LL.out.1] at e1
        rw [LL.out.2.1] at e2
        have hF : Tr.mk 3 false ⟨#[]⟩ Ls Ks = .mk 3 false ⟨#[]⟩ (ns.take p ++ s :: ns.drop q) (ks.take p ++ Kn :: ks.drop q) := by rw [hL.out.1, hL.out.2, e1, e2]
        rw [hF] at hVE
        change bodyPost _ _ _ _ _ (wr.setCells (G + 1 + 1) 0 [Value.int .i64 3, .bool false, .string ⟨#[]⟩, .slice y' Ls.length cp])
        generalize wr.setCells (G + 1 + 1) 0 [Value.int .i64 3, .bool false, .string ⟨#[]⟩, .slice y' Ls.length cp] = W at *
        obtain ⟨z0, z1, z2, z3, _⟩ := cell4 hq
        exact bodyPost_ret (v := .agg #[.int .i64 3, .bool false, .string ⟨#[]⟩, .slice y' Ls.length cp]) (by simp [results, Tryd.results39, go_sem, z0, z1, z2, z3]) rfl ⟨⟨_, fp, rfl, hVE, hI.out.2.2.2.2.2.1⟩, hBB⟩
end Go.Proofs.YtnggbemnblcnaaaDoor
