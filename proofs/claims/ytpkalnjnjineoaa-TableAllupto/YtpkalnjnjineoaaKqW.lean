/- The law TableKeeps, walked. -/
import Derived.Test.YtpkalnjnjineoaaKpW
namespace Go.Proofs.Ytpkalnjnjineoaa
namespace TS
open Go.RowKit

/-- The text probe. -/
def prb : ByteArray := ⟨#[112, 114, 111, 98, 101]⟩
theorem prb1 : decide (((BT.E : BT ByteArray).cnt : Int) < ((BT.wth ltK prb 7 .E).cnt : Int)) = true := by decide +kernel
theorem prb2 : decide (((BT.wtout ltK (BT.wth ltK prb 7 .E) prb).cnt : Int) < ((BT.wth ltK prb 7 .E).cnt : Int)) = true := by decide +kernel
theorem prb3 : BT.wtout ltK (BT.wth ltK prb 7 .E) prb = .E := by
  have h : (ltK prb prb) = false := less_irr _
  simp [BT.wth, BT.wtout, h]
  rfl

set_option maxRecDepth 100000 in
set_option maxHeartbeats 8000000 in
theorem keeps_walk (x : Option Addr) (n c : Nat) (f : Nat → ByteArray) (k : ByteArray) (w : World) (hm : n ≤ 1048576 ∧ ∀ i, i < n → (f i).size ≤ 1048576) (hS : KSl w x n f) (_hk : k.size ≤ 1048576) :
    Calls Try.prog 7 #[.slice x n c, .string k] w fun e w' => e = .returned (.bool true) ∧ Below w.heap.size w w' := by
  have HS : Hid (KSl w x n f) := hS
  have hn := hm.1
  clear hS hm
  go_enter Try.func7, Try.ntmps7
  rw [show (⟨#[112, 114, 111, 98, 101]⟩ : ByteArray) = prb from rfl]
  go_wp2_with fail
  refine (new_any w).mono ?_
  rintro e w1 ⟨T, rfl, hT1, hT2, t1, b1⟩
  have HT : Hid (w.heap.size ≤ T) := hT1
  clear hT1 hT2
  go_wp2_with fail
  have CC := put_any T .E prb 7 w1 t1 (by decide)
  refine CC.mono ?_
  clear CC
  rintro e w2 ⟨rfl, t2, _, b2⟩
  rw [prb1]
  have B2 : Below w.heap.size w w2 := b1.trans (b2 _ HT.out)
  clear b1 b2 t1
  go_wp2_with fail
  have CC := cut_any T _ prb w2 t2 (by decide +kernel)
  refine CC.mono ?_
  clear CC
  rintro e w3 ⟨rfl, t3, _, b3⟩
  rw [prb2]
  rw [prb3] at t3
  have B3 : Hid (Below w.heap.size w w3) := B2.trans (b3 _ HT.out)
  have T3 : Hid (Tab w3 T .E) := t3
  clear b3 t2 B2 t3
  go_wp2
  -- @1
  go_loopw [6, 33] (fun vx xi wr => ∃ (j : Nat) (u : BT ByteArray) (L : PL), j ≤ n ∧ xi = .int .i64 (j : Int) ∧ Hid (Tab wr T u) ∧ Hid (OwnP wr (T + 1) vx L) ∧ Hid (LU L u j) ∧ Hid (Below w.heap.size w wr)) (fun _ i _ => n - (intOf i).toNat)
  case atStart => exact ⟨0, .E, [], Nat.zero_le _, rfl, T3, OwnP.nil _ _, LU.nil, B3⟩
  case round =>
    obtain ⟨j, u, L, hj, rfl, TU, OV, LV, BU⟩ := hrel
    by_cases hlt : j < n
    · obtain ⟨a, rfl, c0⟩ := HS.out.below BU.out (Nat.le_refl _) j hlt
      have hok := TU.out.ok
      have CC := put2_any T u (f j) (j : Int) wr TU.out (by have := LV.out.cnt hok; omega)
      go_wp2_with fail
      refine CC.mono ?_
      clear CC
      rintro e w6 ⟨rfl, t6, g6⟩
      have T6 : Hid (Tab w6 T (BT.wth ltK (f j) (j : Int) u)) := t6
      have B6 : Hid (Below w.heap.size w w6) := BU.out.trans (gb_bel g6 (fun q hq => by injection hq with hq; rw [← hq]; exact HT.out) BU.out.size)
      have O6 : Hid (OwnP w6 (T + 1) u6 L) := OV.out.grown g6 (by omega)
      have hT6 : T < w6.heap.size := t6.lt
      have CP := putL_any u6 L (f j) (j : Int) w6 O6.out.at (by have := LV.out.len; omega)
      have LV' : Hid (LU (BT.dl (f j) L ++ [(f j, (j : Int))]) (BT.wth ltK (f j) (j : Int) u) (j + 1)) := LV.out.put (f j) (j : Int)
      clear t6 g6 c0 TU BU hok OV LV O6
      generalize BT.wth ltK (f j) (j : Int) u = u' at T6 LV'
      generalize BT.dl (f j) L ++ [(f j, (j : Int))] = L' at LV' CP
      go_wp2_with fail
      refine CP.mono ?_
      clear CP
      rintro e w7 ⟨v7, rfl, o7, b7⟩
      have O7 : Hid (OwnP w7 (T + 1) v7 L') := o7.mono (by omega)
      have T7 : Hid (Tab w7 T u') := T6.out.below b7 (Nat.le_refl _)
      have B7 : Hid (Below w.heap.size w w7) := B6.out.trans (b7.mono B6.out.size)
      clear o7 b7 T6 B6 hT6
      go_wp2
      go_roundw
      case rel => exact ⟨j + 1, u', L', by omega, by go_num, T7, O7, LV', B7⟩
      case measure => simp [intOf]; omega
    · obtain rfl : j = n := by omega
      clear T3 B3
      have hok := TU.out.ok
      have hcn : u.cnt ≤ j := LV.out.cnt hok
      have HOK : Hid u.Ok := hok
      clear hok
      -- @2
      go_wp2_with fail
      have CC := keys_any T u wr TU.out (by omega)
      refine CC.mono ?_
      clear CC
      rintro e wA ⟨va, rfl, oa, ba⟩
      have TA : Hid (Tab wA T u) := TU.out.below ba (Nat.le_refl _)
      have AB : Hid (Buf wA wr.heap.size va u.toL.length (fun q => .string (fL u.toL q))) := own_buf (by rw [← map_range]; exact oa)
      have BA : Hid (Below wr.heap.size wr wA) := ba
      clear oa ba
      go_wp2_with fail
      have CC := keys_any T u wA TA.out (by omega)
      refine CC.mono ?_
      clear CC
      rintro e wB ⟨vb, rfl, ob, bb⟩
      have KB : Hid (Ks wB vb u.toL) := own_ks ob
      have LB : Hid (∀ q, vb.ownBlock = some q → wA.heap.size ≤ q ∧ q < wB.heap.size) := ob.lt
      have TB : Hid (Tab wB T u) := TA.out.below bb (Nat.le_refl _)
      have BB : Hid (Below wA.heap.size wA wB) := bb
      clear ob bb
      obtain ⟨p, hp⟩ := TB.out.ptr
      go_wp2_with fail
      have CC := fork2_any T p wB hp
      refine CC.mono ?_
      clear CC
      rintro e wF ⟨rfl, hwF⟩
      have UF : Hid (wF.cell? ⟨wB.heap.size, 0, none⟩ = some (.pointer p) ∧ wF.frozen? ⟨wB.heap.size, 0, none⟩ = false) := by
        unfold Hid
        rw [hwF]
        exact ⟨by rw [World.cell?_alloc_new]; rfl, World.frozen?_alloc_new wB _ _ _⟩
      have BF : Hid (Below wB.heap.size wB wF) := by unfold Hid; rw [hwF]; exact (Below.refl _ _).alloc (Nat.le_refl _) _
      have sF' : Hid (wB.heap.size < wF.heap.size) := by unfold Hid; rw [hwF, World.size_alloc]; omega
      have PT : Hid (wB.cell? ⟨T, 0, none⟩ = some (.pointer p)) := hp
      clear hp hwF
      have sA : Hid (wr.heap.size ≤ wA.heap.size) := BA.out.size
      have sB : Hid (wA.heap.size ≤ wB.heap.size) := BB.out.size
      have hTr : Hid (T < wr.heap.size) := TU.out.lt
      have AF : Hid (Buf wF wr.heap.size va u.toL.length (fun q => .string (fL u.toL q))) := (AB.out.below BB.out (Nat.le_refl _)).below BF.out (Nat.le_refl _)
      have la : Hid (∀ q, va.ownBlock = some q → (wr.heap.size ≤ q ∧ q < wA.heap.size) ∨ wF.heap.size ≤ q) := fun q hq => Or.inl (AB.out.lt q hq)
      have hml : Hid (u.toL.length ≤ j) := by unfold Hid; rw [← BT.cnt_toL u HOK.out]; exact hcn
      -- @3
      obtain ⟨A, hA⟩ : ∃ A, wr.heap.size = A := ⟨_, rfl⟩
      have HA : Hid (wr.heap.size = A) := hA
      have HB : Hid (Below w.heap.size w wr) := BU
      rw [hA] at AF la sA hTr
      clear hA
      have K0 : Hid (Kp A wA.heap.size wF wF) := Kp.refl _ _ _
      obtain ⟨y, cy, hva⟩ : ∃ y cy, va = .slice y u.toL.length cy := by
        rcases AF.out with ⟨h1, h2⟩ | ⟨g, cap, h1, _⟩
        · exact ⟨none, 0, by rw [h1, h2]⟩
        · exact ⟨_, cap, h1⟩
      subst hva
      obtain ⟨m, hm⟩ : ∃ m, u.toL.length = m := ⟨_, rfl⟩
      rw [hm] at AF la hml ⊢
      have HM : Hid (u.toL.length = m) := hm
      have hmj : m ≤ 1048576 := Nat.le_trans hml.out hn
      clear hm AB
      go_wp2
      go_loopw [57] (fun xi wq => ∃ (i : Nat) (F : Nat → Value), i ≤ m ∧ xi = .int .i64 (i : Int) ∧ Hid (Buf wq A (.slice y m cy) m F) ∧ Hid (Kp A wA.heap.size wF wq)) (fun i _ => m - (intOf i).toNat)
      case atStart => exact ⟨0, _, Nat.zero_le _, rfl, AF, K0⟩
      case round =>
        obtain ⟨i, F, hi, rfl, BQ, KQ⟩ := hrel
        by_cases hlt2 : i < m
        · rcases BQ.out with ⟨h1, h2⟩ | ⟨g, cap, h1, hb, hg, hcap, _, hc, hf⟩
          · exfalso; omega
          · injection h1 with h1 _ h3
            subst h1
            subst h3
            have hgb : Hid ((A ≤ g ∧ g < wA.heap.size) ∨ wF.heap.size ≤ g) := la.out g rfl
            have c0 := hc i hlt2
            have f0 := (hf i (by omega)).2
            have BQ2 : Hid (Buf (wr.setCell ⟨g, i, none⟩ (.string ⟨#[115, 112, 111, 105, 108, 116]⟩)) A (.slice (some ⟨g, 0, none⟩) m cy) m _) := Buf.set BQ.out hlt2 (.string ⟨#[115, 112, 111, 105, 108, 116]⟩)
            have KQ2 : Hid (Kp A wA.heap.size wF (wr.setCell ⟨g, i, none⟩ (.string ⟨#[115, 112, 111, 105, 108, 116]⟩))) := KQ.out.set hgb.out
            clear BQ KQ hc hf hgb
            go_wp2
            go_roundw
            case rel => exact ⟨i + 1, _, by omega, by go_num, BQ2, KQ2⟩
            case measure => simp [intOf]; omega
        · clear AF K0
          go_wp2
          -- @4
          obtain ⟨i0, hi0, hz0, hz1, hz2⟩ := info_parts infoK
          have BQ1 : Hid (Buf wr A (.slice y m cy) (m + 0) F) := by rw [Nat.add_zero]; exact BQ
          have KQ1 : Hid (Kp A wA.heap.size wF wr) := KQ
          clear BQ KQ
          go_loopw [9, 13] (fun vx xi wq => ∃ (i : Nat) (F : Nat → Value), i ≤ 20 ∧ xi = .int .i64 (i : Int) ∧ Hid (Buf wq A vx (m + i) F) ∧ Hid (∀ q, vx.ownBlock = some q → (A ≤ q ∧ q < wA.heap.size) ∨ wF.heap.size ≤ q) ∧ Hid (Kp A wA.heap.size wF wq)) (fun _ i _ => 20 - (intOf i).toNat)
          case atStart => exact ⟨0, F, Nat.zero_le _, rfl, BQ1, la, KQ1⟩
          case round =>
            clear BQ1 KQ1
            obtain ⟨i3, F3, hi3, rfl, BQ, LQ, KQ⟩ := hrel
            have hAs : Hid (A ≤ wr.heap.size) := by
              have h1 := KQ.out.size
              have h2 := sA.out
              have h3 := sB.out
              have h4 := sF'.out
              unfold Hid; omega
            by_cases hlt3 : i3 < 20
            · have BQ3 : Hid (Buf wr A u9 (m + i3) (fun q => if q = m + i3 then .string ⟨#[109, 111, 114, 101]⟩ else F3 q)) := BQ.out.congr (fun q hq => by rw [if_neg (by omega)])
              clear BQ
              go_wp2_with (at_builtin; refine wpList_append_bufN _ rfl _ _ 53 rfl A 9 i0 (.string ByteArray.empty) 16 Try.underlying53 hi0 hz0 hz1 hz2 (by decide) rfl u9 (m + i3) (fun q => if q = m + i3 then .string ⟨#[109, 111, 114, 101]⟩ else F3 q) rfl (BQ3.out.alloc _) _ 1 rfl ?c1 (by rw [if_pos rfl]; rfl) (by omega) (by rw [World.size_alloc]; have := hAs.out; omega) ?_)
              intro v7 w7 B7 _ G7 L7
              have B7' : Hid (Buf w7 A v7 (m + (i3 + 1)) (fun q => if q = m + i3 then .string ⟨#[109, 111, 114, 101]⟩ else F3 q)) := by rw [← Nat.add_assoc]; exact B7
              have K7 : Hid (Kp A wA.heap.size wF w7) := (KQ.out.alloc _).grow G7 LQ.out
              have L7' : Hid (∀ q, v7.ownBlock = some q → (A ≤ q ∧ q < wA.heap.size) ∨ wF.heap.size ≤ q) := fun q hq => by
                rcases L7 q hq with h | h
                · exact LQ.out q h
                · right; rw [h]; have := KQ.out.size; first | omega | (rw [World.size_alloc]; omega)
              clear B7 G7 L7 BQ3 LQ KQ
              go_wp2
              go_roundw
              case rel => exact ⟨i3 + 1, _, by omega, by go_num, B7', L7', K7⟩
              case measure => simp [intOf]; omega
            · clear BQ LQ la hi0 hz0 hz1 hz2
              -- @5
              have BZ : Hid (Below A _ wr) := ((((HA.out ▸ BA.out : Below A _ wA)).trans (BB.out.mono sA.out)).trans (BF.out.mono (Nat.le_trans sA.out sB.out))).trans (KQ.out.below (by have h1 := sA.out; have h2 := sB.out; have h3 := sF'.out; omega))
              have TZ : Hid (Tab wr T u) := TU.out.below BZ.out (Nat.le_of_eq HA.out)
              have OZ : Hid (OwnP wr (T + 1) u6 L) := OV.out.below BZ.out (Nat.le_of_eq HA.out)
              have KZ : Hid (Ks wr vb u.toL) := (KB.out.below BF.out (Nat.le_refl _)).same (fun q hq => by
                have h1 := LB.out q hq
                have h2 := sF'.out
                exact KQ.out.block q (by omega) (by omega))
              have UZ : Hid (Tab wr wB.heap.size u) := by
                have e := KQ.out.block wB.heap.size sF'.out (by have := sB.out; omega)
                obtain ⟨p0, q1, q2, q3, q4⟩ := TZ.out
                have e2 : wr.cell? ⟨T, 0, none⟩ = some (.pointer p) := by
                  obtain ⟨p1, r1, _, _, _⟩ := TU.out
                  have h3 := (((HA.out ▸ BA.out : Below A _ wA)).trans (BB.out.mono sA.out)).cell (p := ⟨T, 0, none⟩) hTr.out
                  rw [PT.out] at h3
                  rw [r1] at h3
                  have h4 := BZ.out.cell (p := ⟨T, 0, none⟩) hTr.out
                  rw [r1, ← h3] at h4
                  exact h4
                rw [e2] at q1
                cases q1
                exact ⟨p, (World.cell?_of_block (w := wF) (w' := wr) (a := ⟨wB.heap.size, 0, none⟩) e).trans UF.out.1, (World.frozen?_of_block (w := wF) (w' := wr) (a := ⟨wB.heap.size, 0, none⟩) e).trans UF.out.2, q3, q4⟩
              have BW : Hid (Below w.heap.size w wr) := HB.out.trans (BZ.out.mono (by have := HB.out.size; have := HA.out; omega))
              have hUT : Hid (wB.heap.size ≠ T) := by have h1 := hTr.out; have h2 := sA.out; have h3 := sB.out; unfold Hid; omega
              have hU0 : Hid (w.heap.size ≤ wB.heap.size) := by have h1 := hTr.out; have h2 := sA.out; have h3 := sB.out; have h4 := HT.out; unfold Hid; omega
              have qU : Hid (∀ q, u6.ownBlock = some q → q ≠ wB.heap.size) := fun q hq => by have h1 := (OV.out.lt q hq).2; have h2 := sA.out; have h3 := sB.out; have h4 := HA.out; omega
              obtain ⟨U, hU⟩ : ∃ U, wB.heap.size = U := ⟨_, rfl⟩
              rw [hU] at UZ hUT hU0 qU ⊢
              have hLm : L.length ≤ 1073741824 := by have := LV.out.len; omega
              have hMm : u.toL.length ≤ 1152921504606846976 := by have := HM.out; omega
              clear hU BZ TU OV KB LB UF BF sF' PT TA BA BB TB HB BU sA sB hTr HA KQ hAs HM
              go_wp2_with fail
              have CC := sortL_any u6 L u.toL wr OZ.out.at hLm LV.out.br
              refine CC.mono ?_
              clear CC
              rintro e w6 ⟨y6, rfl, a6, b6⟩
              have K6 := KZ.out.below b6 (Nat.le_refl _)
              have T6 : Hid (Tab w6 T u) := TZ.out.below b6 (Nat.le_refl _)
              have U6 : Hid (Tab w6 U u) := UZ.out.below b6 (Nat.le_refl _)
              have O6 : Hid (OwnP w6 (T + 1) u6 L) := OZ.out.below b6 (Nat.le_refl _)
              have B6 : Hid (Below w.heap.size w w6) := BW.out.trans (b6.mono BW.out.size)
              clear TZ UZ OZ BW KZ b6
              go_wp2_with fail
              have CC := texts_any vb y6 u.toL w6 K6 a6 hMm
              refine CC.mono ?_
              clear CC K6 a6
              rintro e w7 ⟨rfl, rfl⟩
              go_wp2_with fail
              have CC := keys_any T u w7 T6.out (by omega)
              refine CC.mono ?_
              clear CC
              rintro e w8 ⟨v8, rfl, o8, b8⟩
              have K8 := own_ks o8
              have T8 : Hid (Tab w8 T u) := T6.out.below b8 (Nat.le_refl _)
              have U8 : Hid (Tab w8 U u) := U6.out.below b8 (Nat.le_refl _)
              have O8 : Hid (OwnP w8 (T + 1) u6 L) := O6.out.below b8 (Nat.le_refl _)
              have B8 : Hid (Below w.heap.size w w8) := B6.out.trans (b8.mono B6.out.size)
              clear T6 U6 O6 B6 b8 o8
              go_wp2_with fail
              have CC := sortL_any u6 L u.toL w8 O8.out.at hLm LV.out.br
              refine CC.mono ?_
              clear CC
              rintro e w9 ⟨y9, rfl, a9, b9⟩
              have K9 := K8.below b9 (Nat.le_refl _)
              have T9 : Hid (Tab w9 T u) := T8.out.below b9 (Nat.le_refl _)
              have U9 : Hid (Tab w9 U u) := U8.out.below b9 (Nat.le_refl _)
              have O9 : Hid (OwnP w9 (T + 1) u6 L) := O8.out.below b9 (Nat.le_refl _)
              have B9 : Hid (Below w.heap.size w w9) := B8.out.trans (b9.mono B8.out.size)
              clear T8 U8 O8 B8 b9 K8
              go_wp2_with fail
              have CC := texts_any v8 y9 u.toL w9 K9 a9 hMm
              refine CC.mono ?_
              clear CC K9 a9
              rintro e w10 ⟨rfl, rfl⟩
              -- @6
              go_wp2_with fail
              have CC := put2_any T u k (-5) w10 T9.out (by omega)
              refine CC.mono ?_
              clear CC
              rintro e w11 ⟨rfl, t11, g11⟩
              obtain ⟨p9, hp9⟩ := T9.out.ptr
              have U11 := U9.out.grown g11 hUT.out hp9
              have O11 := O9.out.grown g11 (by omega)
              have B11 : Below w.heap.size w w11 := B9.out.trans (gb_bel g11 (fun q hq => by injection hq with hq; rw [← hq]; exact HT.out) B9.out.size)
              have LP : Hid (LU (BT.dl k L ++ [(k, -5)]) (BT.wth ltK k (-5) u) (j + 1)) := LV.out.put k (-5)
              have LC : Hid (LU (BT.dl k L) (BT.wtout ltK u k) j) := LV.out.cut HOK.out k
              clear hp9 g11 T9 U9 O9 B9
              go_wp2_with fail
              have CC := cut2_any U u k w11 U11 (by omega)
              refine CC.mono ?_
              clear CC
              rintro e w12 ⟨rfl, u12, g12⟩
              obtain ⟨p9, hp9⟩ := U11.ptr
              have T12 : Hid (Tab w12 T (BT.wth ltK k (-5) u)) := t11.grown g12 (fun e => hUT.out e.symm) hp9
              have U12 : Hid (Tab w12 U (BT.wtout ltK u k)) := u12
              have O12 : Hid (OwnP w12 (T + 1) u6 L) := O11.same (fun q hq => g12.block q (O11.lt q hq).2 (fun e => qU.out q hq (by injection e)))
              have B12 : Hid (Below w.heap.size w w12) := B11.trans (gb_bel g12 (fun q hq => by injection hq with hq; rw [← hq]; exact hU0.out) B11.size)
              clear hp9 g12 t11 u12 U11 O11 B11
              have gt : Hid (gb (BT.fnd ltK k (BT.wth ltK k (-5) u)) = true ∧ gv (BT.fnd ltK k (BT.wth ltK k (-5) u)) = -5) := get_some LP.out.br.srt (by rw [BT.wth_toL ltK ordS k (-5) u LV.out.br.srt, BT.look_ins ordS, if_pos rfl])
              have gf : Hid (gb (BT.fnd ltK k (BT.wtout ltK u k)) = false) := get_none LC.out.br.srt (by rw [BT.wtout_toL ltK ordS u HOK.out LV.out.br.srt k, BT.look_del ordS _ _ _ LV.out.br.srt, if_pos rfl])
              generalize BT.wth ltK k (-5) u = uP at T12 LP gt
              generalize BT.wtout ltK u k = uC at U12 LC gf
              clear LV HOK hUT qU
              go_wp2_with fail
              have CC := get_any T uP k w12 T12.out
              rw [gt.out.1, gt.out.2] at CC
              refine CC.mono ?_
              clear CC
              rintro e w13 ⟨rfl, b13⟩
              have T13 : Hid (Tab w13 T uP) := T12.out.below b13 (Nat.le_refl _)
              have U13 : Hid (Tab w13 U uC) := U12.out.below b13 (Nat.le_refl _)
              have O13 : Hid (OwnP w13 (T + 1) u6 L) := O12.out.below b13 (Nat.le_refl _)
              have B13 : Hid (Below w.heap.size w w13) := B12.out.trans (b13.mono B12.out.size)
              clear T12 U12 O12 B12 b13 gt
              go_wp2_with fail
              have CC := get_any U uC k w13 U13.out
              rw [gf.out] at CC
              refine CC.mono ?_
              clear CC
              rintro e w14 ⟨rfl, b14⟩
              have T14 : Hid (Tab w14 T uP) := T13.out.below b14 (Nat.le_refl _)
              have U14 : Hid (Tab w14 U uC) := U13.out.below b14 (Nat.le_refl _)
              have O14 : Hid (OwnP w14 (T + 1) u6 L) := O13.out.below b14 (Nat.le_refl _)
              have B14 : Hid (Below w.heap.size w w14) := B13.out.trans (b14.mono B13.out.size)
              clear T13 U13 O13 B13 b14 gf
              generalize gv (BT.fnd ltK k uC) = zv
              have hcC := LC.out.cnt U14.out.ok
              have hcP := LP.out.cnt T14.out.ok
              have hCl : uC.toL.length ≤ 1152921504606846976 := by rw [← BT.cnt_toL uC U14.out.ok]; omega
              have hPl : uP.toL.length ≤ 1152921504606846976 := by rw [← BT.cnt_toL uP T14.out.ok]; omega
              -- @7
              go_wp2_with fail
              have CC := keys_any U uC w14 U14.out (by omega)
              refine CC.mono ?_
              clear CC
              rintro e w15 ⟨v15, rfl, o15, b15⟩
              have K15 := own_ks o15
              have T15 : Hid (Tab w15 T uP) := T14.out.below b15 (Nat.le_refl _)
              have O15 : Hid (OwnP w15 (T + 1) u6 L) := O14.out.below b15 (Nat.le_refl _)
              have B15 : Hid (Below w.heap.size w w15) := B14.out.trans (b15.mono B14.out.size)
              clear T14 U14 O14 B14 b15 o15
              go_wp2_with fail
              have CC := cutL_any u6 L k w15 O15.out.at hLm
              refine CC.mono ?_
              clear CC
              rintro e w16 ⟨v16, rfl, o16, b16⟩
              have K16 := K15.below b16 (Nat.le_refl _)
              have T16 : Hid (Tab w16 T uP) := T15.out.below b16 (Nat.le_refl _)
              have O16 : Hid (OwnP w16 (T + 1) u6 L) := O15.out.below b16 (Nat.le_refl _)
              have B16 : Hid (Below w.heap.size w w16) := B15.out.trans (b16.mono B15.out.size)
              clear T15 O15 B15 b16 K15
              go_wp2_with fail
              have CC := sortL_any v16 _ uC.toL w16 o16.at (by have := LC.out.len; omega) LC.out.br
              refine CC.mono ?_
              clear CC o16
              rintro e w17 ⟨y17, rfl, a17, b17⟩
              have K17 := K16.below b17 (Nat.le_refl _)
              have T17 : Hid (Tab w17 T uP) := T16.out.below b17 (Nat.le_refl _)
              have O17 : Hid (OwnP w17 (T + 1) u6 L) := O16.out.below b17 (Nat.le_refl _)
              have B17 : Hid (Below w.heap.size w w17) := B16.out.trans (b17.mono B16.out.size)
              clear T16 O16 B16 b17 K16
              go_wp2_with fail
              have CC := texts_any v15 y17 uC.toL w17 K17 a17 hCl
              refine CC.mono ?_
              clear CC K17 a17
              rintro e w18 ⟨rfl, rfl⟩
              go_wp2_with fail
              have CC := keys_any T uP w18 T17.out (by omega)
              refine CC.mono ?_
              clear CC
              rintro e w19 ⟨v19, rfl, o19, b19⟩
              have K19 := own_ks o19
              have O19 : Hid (OwnP w19 (T + 1) u6 L) := O17.out.below b19 (Nat.le_refl _)
              have B19 : Hid (Below w.heap.size w w19) := B17.out.trans (b19.mono B17.out.size)
              clear T17 O17 B17 b19 o19
              go_wp2_with fail
              have CC := putL_any u6 L k (-5) w19 O19.out.at hLm
              refine CC.mono ?_
              clear CC
              rintro e w20 ⟨v20, rfl, o20, b20⟩
              have K20 := K19.below b20 (Nat.le_refl _)
              have B20 : Hid (Below w.heap.size w w20) := B19.out.trans (b20.mono B19.out.size)
              clear O19 B19 b20 K19
              go_wp2_with fail
              have CC := sortL_any v20 _ uP.toL w20 o20.at (by have := LP.out.len; omega) LP.out.br
              refine CC.mono ?_
              clear CC o20
              rintro e w21 ⟨y21, rfl, a21, b21⟩
              have K21 := K20.below b21 (Nat.le_refl _)
              have B21 : Hid (Below w.heap.size w w21) := B20.out.trans (b21.mono B20.out.size)
              clear B20 b21 K20
              go_wp2_with fail
              have CC := texts_any v19 y21 uP.toL w21 K21 a21 hPl
              refine CC.mono ?_
              clear CC K21 a21
              rintro e w22 ⟨rfl, rfl⟩
              go_wp2
              go_ret
              exact ⟨rfl, B21.out⟩

end TS
end Go.Proofs.Ytpkalnjnjineoaa
