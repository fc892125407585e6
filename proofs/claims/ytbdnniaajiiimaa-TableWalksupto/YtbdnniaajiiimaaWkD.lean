/- The law TableWalks, walked (own text of the verifier). -/
import Derived.Test.YtbdnniaajiiimaaWkC
import Derived.Test.YtbdnniaajiiimaaAlW
import Derived.Test.YtbdnniaajiiimaaWkE
import Derived.Test.YtbdnniaajiiimaaPpC
namespace Go.Proofs.Ytbdnniaajiiimaa
namespace TS
open Go.RowKit Go.Shelf
attribute [local go_sem] Oper.semAt_some

/-- The boxes of the law: stop, the answer, the table. -/
structure WB (w W : World) (T S : Nat) (stop : Int) : Prop where
  b5 : Boxed W w.heap.size 3 (.int .i64 stop)
  b6 : Boxed W (w.heap.size + 1) 4 (.bool false)
  b7 : Boxed W S 23 (.pointer (some ⟨T, 0, none⟩))
  be : Below w.heap.size w W
  lt : w.heap.size + 1 < T ∧ T < S
theorem WB.below {w W W' : World} {T S : Nat} {stop : Int} (h : WB w W T S stop) (b : Below W.heap.size W W') : WB w W' T S stop :=
  ⟨bx_bel h.b5 b h.b5.lt, bx_bel h.b6 b h.b6.lt, bx_bel h.b7 b h.b7.lt, h.be.trans (b.mono h.be.size), h.lt⟩
theorem WB.grown {w W W' : World} {T S : Nat} {stop : Int} (h : WB w W T S stop) (g : W.grownBy W' (some T)) : WB w W' T S stop := by
  have hl := h.lt
  exact ⟨h.b5.kept g (fun e => by injection e; omega), h.b6.kept g (fun e => by injection e; omega), h.b7.kept g (fun e => by injection e; omega), h.be.trans (gb_bel g (fun q hq => by injection hq with hq; omega) h.be.size), hl⟩

theorem sort2_any (v : Value) (L M : PL) (w : World) (h : PL.At w v L) (hn : L.length ≤ 1073741824) (hB : BT.Br ltK L M) :
    Calls Try.prog 15 #[v] w fun e w' => ∃ b, e = .returned (.slice (some ⟨b, 0, none⟩) M.length M.length) ∧ PIs w' (some ⟨b, 0, none⟩) M.length (fL M) (gL M) ∧ Below w.heap.size w w' := by
  obtain ⟨x, c, rfl, p⟩ := h
  have hl := hB.len
  have := refSorted_any x L.length c (fL L) (gL L) M w p hn (fun i hi => ?_) (fun r hr => ?_)
  · refine this.mono ?_
    rintro e w' ⟨b, rfl, pp, bb⟩
    rw [hl] at pp ⊢
    exact ⟨b, rfl, pp, bb⟩
  · rw [rnkF_rk]
    have hx : (fL L i, gL L i) ∈ L := by rw [fgL hi]; exact List.getElem_mem hi
    have q := hB.place ordS hx
    have q2 := (List.getElem?_eq_some_iff.1 q).1
    exact ⟨by rw [hl]; exact q2, by rw [List.getD_eq_getElem?_getD, q]; rfl⟩
  · have hr' : r < M.length := by rw [← hl]; exact hr
    obtain ⟨hx, hk⟩ := hB.cover ordS (r := r) (x := M[r]) (List.getElem?_eq_getElem hr')
    obtain ⟨i, hi, e⟩ := List.getElem_of_mem hx
    refine ⟨i, hi, ?_⟩
    rw [rnkF_rk, ← hk, ← e, ← fgL hi]
theorem PIs.apartV {w : World} {b : Nat} {n : Nat} {f : Nat → ByteArray} {g : Nat → Int} {B : Nat} {v : Value} (h : PIs w (some ⟨b, 0, none⟩) n f g) (c : w.cell? ⟨B, 0, none⟩ = some v) (hv : ∀ s, v ≠ .string s) (hn : 0 < n) : b ≠ B := fun e => by
  obtain ⟨b', o, hx, d0, _⟩ := h 0 hn
  injection hx with hx
  injection hx with h1 h2
  rw [← h1, ← h2, e] at d0
  rw [show (0 : Nat) + 0 * 2 = 0 from rfl, c] at d0
  exact hv _ (Option.some.inj d0)

set_option maxRecDepth 100000 in
set_option maxHeartbeats 8000000 in
theorem walks_walk (x : Option Addr) (n c : Nat) (f : Nat → ByteArray) (fr : ByteArray) (stop : Int) (w : World) (hm : n ≤ 1048576 ∧ ∀ i, i < n → (f i).size ≤ 1048576) (hS : KSl w x n f) (_hk : fr.size ≤ 1048576) (_h1 : -9223372036854775808 ≤ stop) (_h2 : stop ≤ 9223372036854775807) :
    Calls Try.prog 4 #[.slice x n c, .string fr, .int .i64 stop] w fun e w' => e = .returned (.bool true) ∧ Below w.heap.size w w' := by
  refine (callsIn_wide (n := 6)).1 ?_
  have hn := hm.1
  have HS : Hid (KSl w x n f) := hS
  have HSZ : Hid (∀ i, i < n → (f i).size ≤ 1048576) := hm.2
  clear hS hm
  refine callsIn_of_wp_marks Try.func4 rfl trivial ?_ rfl
  simp only [Try.ntmps4, List.size_toArray, List.length_cons, List.length_nil, Nat.reduceAdd, Nat.reduceSub, Array.replicate_succ, Array.replicate_zero, List.push_toArray, List.append_toArray, List.nil_append, List.cons_append]
  rw [show (⟨#[112, 114, 111, 98, 101]⟩ : ByteArray) = prb from rfl]
  have s1 : (w.alloc (.cells #[.int .i64 stop] 3)).heap.size = w.heap.size + 1 := World.size_alloc _ _
  have bR5 : Boxed ((w.alloc (.cells #[.int .i64 stop] 3)).alloc (.cells #[.bool false] 4)) w.heap.size 3 (.int .i64 stop) := (Boxed.new w 3 (.int .i64 stop)).alloc _
  have bR6 : Boxed ((w.alloc (.cells #[.int .i64 stop] 3)).alloc (.cells #[.bool false] 4)) (w.heap.size + 1) 4 (.bool false) := by rw [← s1]; exact Boxed.new _ 4 (.bool false)
  have b0 : Below w.heap.size w ((w.alloc (.cells #[.int .i64 stop] 3)).alloc (.cells #[.bool false] 4)) := ((Below.refl _ _).alloc (Nat.le_refl _) _).alloc (by rw [s1]; omega) _
  have s0 : ((w.alloc (.cells #[.int .i64 stop] 3)).alloc (.cells #[.bool false] 4)).heap.size = w.heap.size + 2 := by rw [World.size_alloc, s1]
  have CN := new_any ((w.alloc (.cells #[.int .i64 stop] 3)).alloc (.cells #[.bool false] 4))
  gi_wp2_with ((try refine ⟨trivial, ?_⟩); gi_at_call 5; refine (callsIn_wide.2 CN).mono ?_; clear CN; rintro e w1 ⟨T, rfl, hT1, hT2, t1, b1⟩; refine Hid.out ?_)
  unfold Hid
  have t2 : Tab (w1.alloc (.cells #[.pointer (some ⟨T, 0, none⟩)] 23)) T .E := t1.below ((Below.refl _ _).alloc (Nat.le_refl _) _) (Nat.le_refl _)
  have B2 : Hid (WB w (w1.alloc (.cells #[.pointer (some ⟨T, 0, none⟩)] 23)) T w1.heap.size stop) :=
    ⟨(bx_bel bR5 b1 bR5.lt).alloc _, (bx_bel bR6 b1 bR6.lt).alloc _, Boxed.new _ _ _, (b0.trans (b1.mono b0.size)).alloc (by have := b0.size; have := b1.size; omega) _, by rw [s0] at hT1; omega, hT2⟩
  obtain ⟨S, hS⟩ : ∃ S, w1.heap.size = S := ⟨_, rfl⟩
  rw [hS] at B2
  clear bR5 bR6 b0 s0 s1 hT1 hT2 b1 t1
  have CC := put2_any T .E prb 7 _ t2 (by decide)
  have c7 := B2.out.b7.cell
  gi_wp2_with ((try refine ⟨trivial, ?_⟩); gi_at_call 6; refine (callsIn_wide.2 CC).mono ?_; clear CC; rintro e w2 ⟨rfl, t3, g3⟩; refine Hid.out ?_)
  unfold Hid
  rw [prb1n]
  have B3 : Hid (WB w w2 T S stop) := B2.out.grown g3
  clear g3 t2 B2 c7
  have CC := cut2_any T _ prb w2 t3 (by decide +kernel)
  have c7 := B3.out.b7.cell
  gi_wp2_with ((try refine ⟨trivial, ?_⟩); gi_at_call 8; refine (callsIn_wide.2 CC).mono ?_; clear CC; rintro e w3 ⟨rfl, t4, g4⟩; refine Hid.out ?_)
  unfold Hid
  rw [prb2n]
  rw [prb3] at t4
  have B4 : Hid (WB w w3 T S stop) := B3.out.grown g4
  have T4 : Hid (Tab w3 T .E) := t4
  clear g4 t3 B3 t4 c7
  gi_wp2
  gi_loopw [8, 31] (fun vx xi wr => ∃ (j : Nat) (u : BT ByteArray) (L : PL), j ≤ n ∧ xi = .int .i64 (j : Int) ∧ Hid (Tab wr T u) ∧ Hid (OwnP wr (T + 1) vx L) ∧ Hid (LU L u j) ∧ Hid (WB w wr T S stop) ∧ Hid (∀ a ∈ L, a.1.size ≤ 1048576)) (fun _ i _ => n - (intOf i).toNat)
  case atStart => exact ⟨0, .E, [], Nat.zero_le _, rfl, T4, OwnP.nil _ _, LU.nil, B4, (fun a ha => by cases ha)⟩
  case round =>
    obtain ⟨j, u, L, hj, rfl, TU, OV, LV, BU, HZ⟩ := hrel
    clear T4 B4
    have c7 := BU.out.b7.cell
    by_cases hlt : j < n
    · obtain ⟨a, rfl, c0⟩ := HS.out.below BU.out.be (Nat.le_refl _) j hlt
      have hok := TU.out.ok
      have CC := put2_any T u (f j) (j : Int) wr TU.out (by have := LV.out.cnt hok; omega)
      gi_wp2_with ((try refine ⟨trivial, ?_⟩); gi_at_call 6; refine (callsIn_wide.2 CC).mono ?_; clear CC; rintro e w6 ⟨rfl, t6, g6⟩; refine Hid.out ?_)
      unfold Hid
      have T6 : Hid (Tab w6 T (BT.wth ltK (f j) (j : Int) u)) := t6
      have B6 : Hid (WB w w6 T S stop) := BU.out.grown g6
      have O6 : Hid (OwnP w6 (T + 1) u8 L) := OV.out.grown g6 (by omega)
      have hT6 : T < w6.heap.size := t6.lt
      have CP := putL_any u8 L (f j) (j : Int) w6 O6.out.at (by have := LV.out.len; omega)
      have LV' : Hid (LU (BT.dl (f j) L ++ [(f j, (j : Int))]) (BT.wth ltK (f j) (j : Int) u) (j + 1)) := LV.out.put (f j) (j : Int)
      clear t6 g6 c0 TU BU hok OV LV O6 c7
      generalize BT.wth ltK (f j) (j : Int) u = u' at T6 LV'
      have HZ' : Hid (∀ a ∈ BT.dl (f j) L ++ [(f j, (j : Int))], a.1.size ≤ 1048576) := fun a ha => by
        rcases List.mem_append.1 ha with ha | ha
        · exact HZ.out a (List.mem_filter.1 ha).1
        · rw [List.mem_singleton.1 ha]; exact HSZ.out j hlt
      clear HZ
      generalize BT.dl (f j) L ++ [(f j, (j : Int))] = L' at LV' CP HZ'
      gi_wp2_with ((try refine ⟨trivial, ?_⟩); gi_at_call 10; refine (callsIn_wide.2 CP).mono ?_; clear CP; rintro e w7 ⟨v7, rfl, o7, b7⟩; refine Hid.out ?_)
      unfold Hid
      have O7 : Hid (OwnP w7 (T + 1) v7 L') := o7.mono (by omega)
      have T7 : Hid (Tab w7 T u') := T6.out.below b7 (Nat.le_refl _)
      have B7 : Hid (WB w w7 T S stop) := B6.out.below b7
      clear o7 b7 T6 B6 hT6
      gi_wp2
      go_roundw
      case rel => exact ⟨j + 1, u', L', by omega, by go_num, T7, O7, LV', B7, HZ'⟩
      case measure => simp [intOf]; omega
    · obtain rfl : j = n := by omega
      have hml : L.length ≤ 1048576 := by have := LV.out.len; omega
      have hmu : Hid (u.toL.length = L.length) := LV.out.br.len.symm
      have CS := sort2_any u8 L u.toL wr OV.out.at (by omega) LV.out.br
      gi_wp2_with ((try refine ⟨trivial, ?_⟩); gi_at_call 15; refine (callsIn_wide.2 CS).mono ?_; clear CS; rintro e wS ⟨yb, rfl, pS, bS⟩; refine Hid.out ?_)
      unfold Hid
      obtain ⟨NM, hNM⟩ : ∃ N, u.toL.length = N := ⟨_, rfl⟩
      have HNM : Hid (u.toL.length = NM ∧ NM = L.length) := ⟨hNM, by rw [← hNM]; exact hmu.out⟩
      rw [hNM] at pS ⊢
      clear hNM hmu
      have z1 : (wS.alloc (.cells #[.slice (some ⟨yb, 0, none⟩) NM NM] 26)).heap.size = wS.heap.size + 1 := World.size_alloc _ _
      have hb1 : Below wr.heap.size wr (wS.alloc (.cells #[.slice (some ⟨yb, 0, none⟩) NM NM] 26)) := bS.alloc bS.size _
      have OA : Hid (OwnP (wS.alloc (.cells #[.slice (some ⟨yb, 0, none⟩) NM NM] 26)) (T + 1) u8 L) := OV.out.below hb1 (Nat.le_refl _)
      have X11 : Hid (Boxed (wS.alloc (.cells #[.slice (some ⟨yb, 0, none⟩) NM NM] 26)) wS.heap.size 26 (.slice (some ⟨yb, 0, none⟩) NM NM)) := Boxed.new _ _ _
      have PA : Hid (PIs (wS.alloc (.cells #[.slice (some ⟨yb, 0, none⟩) NM NM] 26)) (some ⟨yb, 0, none⟩) NM (fL u.toL) (gL u.toL)) := pS.below ((Below.refl _ _).alloc (Nat.le_refl _) _) (Nat.le_refl _)
      have hrs : Hid (wr.heap.size ≤ wS.heap.size) := bS.size
      have HA : Hid (Below wr.heap.size wr (wS.alloc (.cells #[.slice (some ⟨yb, 0, none⟩) NM NM] 26))) := hb1
      have CR := rankL_any u8 L fr (wS.alloc (.cells #[.slice (some ⟨yb, 0, none⟩) NM NM] 26)) OA.out.at (by omega)
      gi_wp2_with ((try refine ⟨trivial, ?_⟩); gi_at_call 16; refine (callsIn_wide.2 CR).mono ?_; clear CR; rintro e wR ⟨rfl, rfl⟩; refine Hid.out ?_)
      unfold Hid
      obtain ⟨S1, hS1⟩ : ∃ S, wS.heap.size = S := ⟨_, rfl⟩
      rw [hS1] at X11 hrs z1 ⊢
      clear hS1 pS bS hb1
      generalize wS.alloc (.cells #[.slice (some ⟨yb, 0, none⟩) NM NM] 26) = wA at *
      obtain ⟨r, hr⟩ : ∃ r, BT.rkL ltK fr L = r := ⟨_, rfl⟩
      have HR : Hid (BT.rkL ltK fr u.toL = r) := by unfold Hid; rw [← hr, LV.out.br.rk]
      rw [hr]
      clear hr
      have ZA : Hid (wA.heap.size = S1 + 1) := z1
      clear z1
      have BA : Hid (WB w wA T S stop) := BU.out.below HA.out
      have TA : Hid (Tab wA T u) := TU.out.below HA.out (Nat.le_refl _)
      have z2 : (wA.alloc (.cells #[.int .i64 (r : Int)] 3)).heap.size = S1 + 2 := by rw [World.size_alloc, ZA.out]
      have z3 : ((wA.alloc (.cells #[.int .i64 (r : Int)] 3)).alloc (.cells #[.int .i64 0] 3)).heap.size = S1 + 3 := by rw [World.size_alloc, z2]
      have hbA : Below wA.heap.size wA ((wA.alloc (.cells #[.int .i64 (r : Int)] 3)).alloc (.cells #[.int .i64 0] 3)) := ((Below.refl _ _).alloc (Nat.le_refl _) _).alloc (by rw [z2, ZA.out]; omega) _
      have BB : Hid (WB w ((wA.alloc (.cells #[.int .i64 (r : Int)] 3)).alloc (.cells #[.int .i64 0] 3)) T S stop) := BA.out.below hbA
      have X12 : Hid (Boxed ((wA.alloc (.cells #[.int .i64 (r : Int)] 3)).alloc (.cells #[.int .i64 0] 3)) (S1 + 1) 3 (.int .i64 (r : Int))) := by
        rw [← ZA.out]; exact (Boxed.new wA 3 (.int .i64 (r : Int))).alloc _
      have X13 : Hid (Boxed ((wA.alloc (.cells #[.int .i64 (r : Int)] 3)).alloc (.cells #[.int .i64 0] 3)) (S1 + 2) 3 (.int .i64 0)) := by
        rw [← z2]; exact Boxed.new _ 3 (.int .i64 0)
      have X11' : Hid (Boxed ((wA.alloc (.cells #[.int .i64 (r : Int)] 3)).alloc (.cells #[.int .i64 0] 3)) S1 26 (.slice (some ⟨yb, 0, none⟩) NM NM)) := bx_bel X11.out hbA X11.out.lt
      have PB : Hid (PIs ((wA.alloc (.cells #[.int .i64 (r : Int)] 3)).alloc (.cells #[.int .i64 0] 3)) (some ⟨yb, 0, none⟩) NM (fL u.toL) (gL u.toL)) := PA.out.below hbA (Nat.le_refl _)
      have TB : Hid (Tab ((wA.alloc (.cells #[.int .i64 (r : Int)] 3)).alloc (.cells #[.int .i64 0] 3)) T u) := TA.out.below hbA (Nat.le_refl _)
      have HAB : Hid (Below wr.heap.size wr ((wA.alloc (.cells #[.int .i64 (r : Int)] 3)).alloc (.cells #[.int .i64 0] 3))) := HA.out.trans (hbA.mono HA.out.size)
      have c7 := BB.out.b7.cell
      have ZB : Hid (((wA.alloc (.cells #[.int .i64 (r : Int)] 3)).alloc (.cells #[.int .i64 0] 3)).heap.size = S1 + 3) := z3
      clear BA TA z2 z3 hbA HA OA PA X11
      gi_wp2_with ((try refine ⟨trivial, ?_⟩); gi_at_call 17; refine (from_in Fence.wide _ trivial rfl _ _ _).mono ?_; rintro e wF ⟨rfl, hF⟩; refine Hid.out ?_)
      unfold Hid
      have e1 : wA.heap.size + 1 = S1 + 2 := by rw [ZA.out]
      rw [e1, ZA.out]
      try rw [ZB.out]
      clear e1 ZA hF c7
      generalize (wA.alloc (.cells #[.int .i64 (r : Int)] 3)).alloc (.cells #[.int .i64 0] 3) = wB at *
      have z4 : (wB.alloc (.cells #[.pointer (some ⟨T, 0, none⟩)] 23)).heap.size = S1 + 4 := by rw [World.size_alloc, ZB.out]
      have hbB : Below wB.heap.size wB ((wB.alloc (.cells #[.pointer (some ⟨T, 0, none⟩)] 23)).alloc (.cells #[.string fr] 9)) := ((Below.refl _ _).alloc (Nat.le_refl _) _).alloc (by rw [z4, ZB.out]; omega) _
      have Z0 : Hid (((wB.alloc (.cells #[.pointer (some ⟨T, 0, none⟩)] 23)).alloc (.cells #[.string fr] 9)).heap.size = S1 + 5) := by unfold Hid; rw [World.size_alloc, z4]
      have Y1 : Hid (Boxed ((wB.alloc (.cells #[.pointer (some ⟨T, 0, none⟩)] 23)).alloc (.cells #[.string fr] 9)) (S1 + 3) 23 (.pointer (some ⟨T, 0, none⟩))) := by
        rw [← ZB.out]; exact (Boxed.new wB _ _).alloc _
      have Y2 : Hid (Boxed ((wB.alloc (.cells #[.pointer (some ⟨T, 0, none⟩)] 23)).alloc (.cells #[.string fr] 9)) (S1 + 4) 9 (.string fr)) := by
        rw [← z4]; exact Boxed.new _ 9 _
      have X11 : Hid (Boxed ((wB.alloc (.cells #[.pointer (some ⟨T, 0, none⟩)] 23)).alloc (.cells #[.string fr] 9)) S1 26 (.slice (some ⟨yb, 0, none⟩) NM NM)) := bx_bel X11'.out hbB X11'.out.lt
      have X12' : Hid (Boxed ((wB.alloc (.cells #[.pointer (some ⟨T, 0, none⟩)] 23)).alloc (.cells #[.string fr] 9)) (S1 + 1) 3 (.int .i64 (r : Int))) := bx_bel X12.out hbB X12.out.lt
      have X13' : Hid (Boxed ((wB.alloc (.cells #[.pointer (some ⟨T, 0, none⟩)] 23)).alloc (.cells #[.string fr] 9)) (S1 + 2) 3 (.int .i64 0)) := bx_bel X13.out hbB X13.out.lt
      have P0 : Hid (PIs ((wB.alloc (.cells #[.pointer (some ⟨T, 0, none⟩)] 23)).alloc (.cells #[.string fr] 9)) (some ⟨yb, 0, none⟩) NM (fL u.toL) (gL u.toL)) := PB.out.below hbB (Nat.le_refl _)
      have T0 : Hid (Tab ((wB.alloc (.cells #[.pointer (some ⟨T, 0, none⟩)] 23)).alloc (.cells #[.string fr] 9)) T u) := TB.out.below hbB (Nat.le_refl _)
      have B0 : Hid (WB w ((wB.alloc (.cells #[.pointer (some ⟨T, 0, none⟩)] 23)).alloc (.cells #[.string fr] 9)) T S stop) := BB.out.below hbB
      have R0 : Hid (Below wr.heap.size wr ((wB.alloc (.cells #[.pointer (some ⟨T, 0, none⟩)] 23)).alloc (.cells #[.string fr] 9))) := HAB.out.trans (hbB.mono HAB.out.size)
      clear z4 hbB X11' X12 X13 PB TB BB HAB
      generalize (wB.alloc (.cells #[.pointer (some ⟨T, 0, none⟩)] 23)).alloc (.cells #[.string fr] 9) = W0 at *
      obtain ⟨p0, hp0, _, htr, _⟩ := TU.out
      have hTr : T < wr.heap.size := TU.out.lt
      have hSr : S < wr.heap.size := BU.out.b7.lt
      have HTX : Hid (TrX wr.heap.size T W0 u p0) := TrX.below (BX.of R0.out) (htr.bndX hp0)
      have HP0 : Hid (W0.cell? ⟨T, 0, none⟩ = some (.pointer p0)) := (R0.out.cell (p := ⟨T, 0, none⟩) hTr).trans hp0
      have HFR : Hid (frT fr u = u.toL.drop r) := by unfold Hid; rw [fr_drop fr u LV.out.br.srt, HR.out]
      have HCU : Hid (u.cnt ≤ 1048576) := by have := LV.out.cnt TU.out.ok; unfold Hid; omega
      obtain ⟨FR, hFR⟩ : ∃ FR, frT fr u = FR := ⟨_, rfl⟩
      rw [hFR] at HFR
      have hlr : Hid (FR.length = NM - r) := by unfold Hid; rw [HFR.out, List.length_drop, HNM.out.1]
      have hap : Hid (0 < NM → yb ≠ T ∧ yb ≠ S1 + 2) := fun h0 => ⟨P0.out.apartV HP0.out (fun s => by simp) h0, P0.out.apartV X13'.out.cell (fun s => by simp) h0⟩
      have HSQ := from_stops Fence.wide rfl 5 trivial trivial trivial rfl (S1 + 3) (S1 + 4) T wr.heap.size T fr p0 u W0 (by have := Z0.out; omega) (by have := Z0.out; omega) (by have := Z0.out; have := hrs.out; omega) (by have := R0.out.size; omega) Y1.out.cell Y2.out.cell HP0.out HTX.out
      rw [hFR] at HSQ
      clear hFR htr hp0 OV TU
      gi_wp2
      refine wpIn_rangeFunc_ownG rfl (by decide) (gf := 26) (lb := #[.pointer (some ⟨S1 + 3, 0, none⟩), .pointer (some ⟨S1 + 4, 0, none⟩)]) rfl trivial (enters_of Try.func26 (by kernel_rfl) rfl)
        HSQ bX_t (bX_b (by have := R0.out.size; omega)) (Below.refl _ _) (fun _ => rfl)
        (RJ W0 T (S1 + 2) FR)
        (fun c pre W => (c = .exit 2 ∧ RJ W0 T (S1 + 2) FR pre W ∧ (pre.length : Int) = stop) ∨ (c = .ret ∧ ¬ pre <+: FR))
        (RJ.own (by have := Z0.out; omega))
        (fun c pre A B row hs hg hr => hs.elim (fun h => .inl ⟨h.1, RJ.own (by have := Z0.out; omega) pre A B row h.2.1 hg hr, h.2.2⟩) .inr)
        ⟨X13'.out, List.nil_prefix, ⟨u, T0.out, HCU.out⟩, K2.refl _ _ _⟩
        ?a0 ?assign0 ?body0 ?done0 ?stop0
      case assign0 =>
        intro l x W K hK
        gi_wp2
        exact hK
      case body0 =>
        rintro l pre x W hRJ hlt
        have HJ : Hid (RJ W0 T (S1 + 2) FR pre W) := hRJ
        have h0 := Z0.out
        have hLT := B0.out.lt
        have hrs' := hrs.out
        have hnm := HNM.out.2
        have hlrr := hlr.out
        have hw0 : w.heap.size + 1 < S := by omega
        obtain ⟨q, hqe⟩ : ∃ q, r + pre.length = q := ⟨_, rfl⟩
        have HQ : Hid (r + pre.length = q) := hqe
        have q4 : q < NM := by omega
        have q1 : (r : Int) + (pre.length : Int) = (q : Int) := by omega
        have q2 : IntKind.i64.wrap (q : Int) = (q : Int) := by rw [IntKind.wrap_i64]; omega
        have q3 : (q : Int) < (NM : Int) := by omega
        have q5 : ¬ (NM : Int) ≤ (q : Int) := by omega
        have q6 : ¬ NM ≤ q := by omega
        have hlp : pre.length < 1048577 := by omega
        obtain ⟨a1, a2⟩ := hap.out (by omega)
        have c13 := hRJ.sn.cell
        have f13 := hRJ.sn.frozen
        have c12 := (hRJ.kp.boxed X12'.out (by omega) (by omega)).cell
        have c11 := (hRJ.kp.boxed X11.out (by omega) (by omega)).cell
        have c7 := (hRJ.kp.boxed B0.out.b7 (by omega) (by omega)).cell
        have c5 := (hRJ.kp.boxed B0.out.b5 (by omega) (by omega)).cell
        have c6 := (hRJ.kp.boxed B0.out.b6 (by omega) (by omega)).cell
        have f6 := (hRJ.kp.boxed B0.out.b6 (by omega) (by omega)).frozen
        obtain ⟨b', o', hy, d0, d1⟩ := P0.out q q4
        obtain ⟨rfl, rfl⟩ : b' = yb ∧ o' = 0 := by injection hy with hy; injection hy with h1 h2; exact ⟨h1.symm, h2.symm⟩
        rw [Nat.zero_add] at d0 d1
        replace d0 := hRJ.kp.cell d0 a1 a2
        replace d1 := hRJ.kp.cell d1 a1 a2
        have HFG : Hid (FR[pre.length]? = some (fL u.toL q, gL u.toL q)) := by
          unfold Hid
          have hq' : q < u.toL.length := by rw [HNM.out.1]; exact q4
          rw [HFR.out, List.getElem?_drop, HQ.out, List.getElem?_eq_getElem hq', ← fgL hq']
        have HLT : Hid (w.heap.size + 1 < T ∧ T < S ∧ S < wr.heap.size ∧ wr.heap.size ≤ S1 ∧ W0.heap.size = S1 + 5) := ⟨hLT.1, hLT.2, hSr, hrs', h0⟩
        clear hRJ hy a1 a2 h0 hLT hrs' hnm hlrr hw0 hqe
        have hsz : (fL u.toL q).size ≤ 1048576 := by
          have hq' : q < u.toL.length := by rw [HNM.out.1]; exact q4
          have hm : (fL u.toL q, gL u.toL q) ∈ L := LV.out.br.perm.mem_iff.2 (by rw [fgL hq']; exact List.getElem_mem hq')
          exact HZ.out _ hm
        generalize hkk : fL u.toL q = fk at d0 HFG hsz
        generalize hvv : gL u.toL q = gk at d1 HFG
        clear hkk hvv
        obtain ⟨xk, xv⟩ := x
        by_cases hk : fk = xk
        · subst hk
          have e1 : (fk.toList != fk.toList) = false := by simp
          have e2 : (fk.toList == fk.toList) = true := by simp
          by_cases hv : gk = xv
          · subst hv
            have e4 : (gk != gk) = false := by simp
            have e5 : (gk == gk) = true := by simp
            obtain ⟨u1, hu1, hc1⟩ := HJ.out.tb
            have X1 : Hid (Boxed (W.setCell ⟨S1 + 2, 0, none⟩ (.int .i64 ((pre.length : Int) + 1))) (S1 + 2) 3 (.int .i64 ((pre.length : Int) + 1))) := HJ.out.sn.set _
            have T1 : Hid (Tab (W.setCell ⟨S1 + 2, 0, none⟩ (.int .i64 ((pre.length : Int) + 1))) T u1) := hu1.setO HJ.out.sn.cell (fun s => by simp) (by have := HLT.out; omega)
            have K1 : Hid (K2 T (S1 + 2) W0 (W.setCell ⟨S1 + 2, 0, none⟩ (.int .i64 ((pre.length : Int) + 1)))) := HJ.out.kp.set
            have CC := put2_any T u1 (fk ++ ⟨#[33]⟩) (-1) _ T1.out (by omega)
            have c7' := (K1.out.boxed B0.out.b7 (by have := HLT.out; omega) (by have := HLT.out; omega)).cell
            gi_wp2_with ((try refine ⟨trivial, ?_⟩); gi_at_call 6; refine ((callsIn_wide.2 CC).inRound l).mono ?_; clear CC; rintro e W2 ⟨rfl, t2, g2⟩; refine Hid.out ?_)
            unfold Hid
            obtain ⟨ok1, l1, l2⟩ := BT.wth_ok ltK (fk ++ ⟨#[33]⟩) (-1) u1 (Tab.ok hu1)
            have GW1 : Hid (W.heap.size ≤ (W.setCell ⟨S1 + 2, 0, none⟩ (.int .i64 ((pre.length : Int) + 1))).heap.size) := by unfold Hid; rw [World.size_setCell]; omega
            have HKF1 : Hid (KeepsFrom W0.heap.size W (W.setCell ⟨S1 + 2, 0, none⟩ (.int .i64 ((pre.length : Int) + 1)))) := (KeepsOthers.setCell W _ _).from _
            have HBX1 : Hid (BX wr.heap.size T W (W.setCell ⟨S1 + 2, 0, none⟩ (.int .i64 ((pre.length : Int) + 1)))) := BX.of ((Below.refl wr.heap.size W).setCell (p := ⟨S1 + 2, 0, none⟩) (by have := HLT.out; show wr.heap.size ≤ S1 + 2; omega) _)
            generalize W.setCell ⟨S1 + 2, 0, none⟩ (.int .i64 ((pre.length : Int) + 1)) = W1 at *
            have hTW : T < W0.heap.size := by have := HLT.out; omega
            have X2 : Hid (Boxed W2 (S1 + 2) 3 (.int .i64 ((pre.length : Int) + 1))) := X1.out.kept g2 (fun e => by have := HLT.out; injection e; omega)
            have K2' : Hid (K2 T (S1 + 2) W0 W2) := K1.out.grown g2 (fun r e => .inl (Option.some.inj e).symm)
            have HKF2 : Hid (KeepsFrom W0.heap.size W W2) := HKF1.out.trans (KeepsFrom.of_grownBy g2 (fun r e => by injection e with e; omega))
            have hWz : wr.heap.size ≤ W1.heap.size := by have h1 := K1.out.size; have h2 := HLT.out; omega
            have HBX2 : Hid (BX wr.heap.size T W W2) := HBX1.out.trans (BX.grown g2 hWz)
            generalize BT.wth ltK (fk ++ ⟨#[33]⟩) (-1) u1 = u2 at *
            have CC := cut2_any T u2 fk W2 t2 (by omega)
            have c7'' := (K2'.out.boxed B0.out.b7 (by have := HLT.out; omega) (by have := HLT.out; omega)).cell
            gi_wp2_with ((try refine ⟨trivial, ?_⟩); gi_at_call 8; refine ((callsIn_wide.2 CC).inRound l).mono ?_; clear CC; rintro e W3 ⟨rfl, t3, g3⟩; refine Hid.out ?_)
            unfold Hid
            obtain ⟨ok2, l3⟩ := BT.wtout_ok ltK u2 ok1 fk
            have X3 : Hid (Boxed W3 (S1 + 2) 3 (.int .i64 ((pre.length : Int) + 1))) := X2.out.kept g3 (fun e => by have := HLT.out; injection e; omega)
            have K3 : Hid (K2 T (S1 + 2) W0 W3) := K2'.out.grown g3 (fun r e => .inl (Option.some.inj e).symm)
            have HKF3 : Hid (KeepsFrom W0.heap.size W W3) := HKF2.out.trans (KeepsFrom.of_grownBy g3 (fun r e => by injection e with e; omega))
            have HBX3 : Hid (BX wr.heap.size T W W3) := HBX2.out.trans (BX.grown g3 (by have h1 := K2'.out.size; have h2 := HLT.out; omega))
            generalize BT.wtout ltK u2 fk = u3 at *
            have HRJ : Hid (RJ W0 T (S1 + 2) FR (pre ++ [(fk, gk)]) W3) := ⟨by rw [List.length_append]; exact X3.out, pre_snoc HJ.out.pf HFG.out, ⟨u3, t3, by rw [List.length_append]; simp; omega⟩, K3.out⟩
            have s5 := (K3.out.boxed B0.out.b5 (by have := HLT.out; omega) (by have := HLT.out; omega)).cell
            have s13 := X3.out.cell
            clear g2 g3 t2 t3 X1 X2 T1 K1 K2' HKF1 HKF2 HBX1 HBX2 l1 l2 l3 ok1 ok2 hWz hTW c7' c7'' hu1 hc1 GW1 c5 c6 f6 c7 c11 c12 c13 f13 d0 d1
            by_cases hst : (pre.length : Int) + 1 = stop
            · have e6 : (((pre.length : Int) + 1) == stop) = true := by rw [hst]; simp
              gi_wp2
              have hl9 : ((pre ++ [(fk, gk)]).length : Int) = stop := by rw [← hst]; simp
              exact ⟨HKF3.out, .inl ⟨rfl, HRJ.out, hl9⟩⟩
            · have e6 : (((pre.length : Int) + 1) == stop) = false := by simp [hst]
              gi_wp2
              exact ⟨HKF3.out, HBX3.out, HRJ.out⟩
          · have e4 : (gk != xv) = true := by rw [bne_iff_ne]; exact hv
            have e5 : (gk == xv) = false := by rw [beq_eq_false_iff_ne]; exact hv
            have HX : Hid (¬ pre ++ [(fk, xv)] <+: FR) := fun h => hv (by have := pre_at h; rw [HFG.out] at this; injection this with this; injection this)
            clear hv
            gi_wp2
            exact ⟨(KeepsOthers.setCell W _ _).from _, .inr ⟨rfl, HX.out⟩⟩
        · have e1 : (fk.toList != xk.toList) = true := by rw [bne_iff_ne]; exact fun h => hk (of_toList _ _ h)
          have e2 : (fk.toList == xk.toList) = false := by rw [beq_eq_false_iff_ne]; exact fun h => hk (of_toList _ _ h)
          have e3 : ¬ fk.toList = xk.toList := fun h => hk (of_toList _ _ h)
          have HX : Hid (¬ pre ++ [(xk, xv)] <+: FR) := fun h => hk (by have := pre_at h; rw [HFG.out] at this; injection this with this; injection this)
          clear hk
          gi_wp2
          exact ⟨(KeepsOthers.setCell W _ _).from _, .inr ⟨rfl, HX.out⟩⟩
      case done0 =>
        rintro D ys W hD hys hRJ hK
        have h0 := Z0.out
        have hLT := B0.out.lt
        have hrs' := hrs.out
        have c13 := hRJ.sn.cell
        have c12 := (hRJ.kp.boxed X12'.out (by omega) (by omega)).cell
        have c11 := (hRJ.kp.boxed X11.out (by omega) (by omega)).cell
        have c5 := (hRJ.kp.boxed B0.out.b5 (by omega) (by omega)).cell
        have b6 := hRJ.kp.boxed B0.out.b6 (by omega) (by omega)
        have c6 := b6.cell
        have f6 := b6.frozen
        have hrn : r ≤ NM := by rw [← HR.out, ← HNM.out.1]; exact List.length_filter_le _ _
        have hnm2 := HNM.out.2
        obtain ⟨d, hd⟩ : ∃ d, NM - r = d := ⟨_, rfl⟩
        have hd1 : (NM : Int) - (r : Int) = (d : Int) := by omega
        have hd2 : IntKind.i64.wrap (d : Int) = (d : Int) := by rw [IntKind.wrap_i64]; omega
        have hbe : Hid (Below w.heap.size w W) := B0.out.be.trans (hRJ.kp.below (by omega) (by omega) (by have := B0.out.be.size; omega))
        have hD1 : Hid (w.heap.size + 1 < D ∧ w.heap.size + 1 ≠ D) := by unfold Hid; omega
        rw [hys, hlr.out, hd] at c13
        have e1 : ((d : Int) == (d : Int)) = true := by simp
        clear c5 hrn hnm2
        gi_wp2
        have k1 : (W.setCell ⟨w.heap.size + 1, 0, none⟩ (.bool true)).heap[D]? = some (.deferred (some [])) := (Below.heap_setCell W ⟨w.heap.size + 1, 0, none⟩ (.bool true) D (fun e => by have := hD1.out; simp only at e; omega)).trans hK
        have r9 := b6.set (.bool true)
        have b9 : Below w.heap.size w (W.setCell ⟨w.heap.size + 1, 0, none⟩ (.bool true)) := hbe.out.setCell (p := ⟨w.heap.size + 1, 0, none⟩) (Nat.le_succ _) _
        generalize W.setCell ⟨w.heap.size + 1, 0, none⟩ (.bool true) = WE at k1 r9 b9 ⊢
        have g1 := grownBy_putObj' WE D (.deferred none)
        have r9' := r9.kept g1 (fun e => by have := hD1.out; injection e; omega)
        have b9' : Below w.heap.size w (WE.putObj D (.deferred none)) := b9.trans (gb_bel g1 (fun q hq => by have := hD1.out; injection hq with hq; omega) b9.size)
        refine ⟨by simp, .inl ⟨_, _, rfl, run_takeDeferred k1, ?_⟩⟩
        exact ⟨_, results_cellB (fn := Try.f4) rfl _ _ (w.heap.size + 1) (.bool true) rfl r9'.cell Try.underlying4, rfl, b9'⟩
      case stop0 =>
        rintro D c pre W hD h1 h2 hK
        obtain ⟨rfl, hRJ, hst⟩ := h2.resolve_right (fun h => h.2 h1)
        have h0 := Z0.out
        have hLT := B0.out.lt
        have hrs' := hrs.out
        have c13 := hRJ.sn.cell
        have c12 := (hRJ.kp.boxed X12'.out (by omega) (by omega)).cell
        have c11 := (hRJ.kp.boxed X11.out (by omega) (by omega)).cell
        have c5 := (hRJ.kp.boxed B0.out.b5 (by omega) (by omega)).cell
        have b6 := hRJ.kp.boxed B0.out.b6 (by omega) (by omega)
        have c6 := b6.cell
        have f6 := b6.frozen
        have hrn : r ≤ NM := by rw [← HR.out, ← HNM.out.1]; exact List.length_filter_le _ _
        have hnm2 := HNM.out.2
        obtain ⟨d, hd⟩ : ∃ d, NM - r = d := ⟨_, rfl⟩
        have hd1 : (NM : Int) - (r : Int) = (d : Int) := by omega
        have hd2 : IntKind.i64.wrap (d : Int) = (d : Int) := by rw [IntKind.wrap_i64]; omega
        have hbe : Hid (Below w.heap.size w W) := B0.out.be.trans (hRJ.kp.below (by omega) (by omega) (by have := B0.out.be.size; omega))
        have hD1 : Hid (w.heap.size + 1 < D ∧ w.heap.size + 1 ≠ D) := by unfold Hid; omega
        rw [hst] at c13
        have e1 : (stop == stop) = true := by simp
        clear hst hrn hnm2
        cases e0 : (stop == (d : Int)) with
        | true =>
          gi_wp2
          have k1 : (W.setCell ⟨w.heap.size + 1, 0, none⟩ (.bool true)).heap[D]? = some (.deferred (some [])) := (Below.heap_setCell W ⟨w.heap.size + 1, 0, none⟩ (.bool true) D (fun e => by have := hD1.out; simp only at e; omega)).trans hK
          have r9 := b6.set (.bool true)
          have b9 : Below w.heap.size w (W.setCell ⟨w.heap.size + 1, 0, none⟩ (.bool true)) := hbe.out.setCell (p := ⟨w.heap.size + 1, 0, none⟩) (Nat.le_succ _) _
          generalize W.setCell ⟨w.heap.size + 1, 0, none⟩ (.bool true) = WE at k1 r9 b9 ⊢
          have g1 := grownBy_putObj' WE D (.deferred none)
          have r9' := r9.kept g1 (fun e => by have := hD1.out; injection e; omega)
          have b9' : Below w.heap.size w (WE.putObj D (.deferred none)) := b9.trans (gb_bel g1 (fun q hq => by have := hD1.out; injection hq with hq; omega) b9.size)
          refine ⟨by simp, .inl ⟨_, _, rfl, run_takeDeferred k1, ?_⟩⟩
          exact ⟨_, results_cellB (fn := Try.f4) rfl _ _ (w.heap.size + 1) (.bool true) rfl r9'.cell Try.underlying4, rfl, b9'⟩
        | false =>
          gi_wp2
          have k1 : (W.setCell ⟨w.heap.size + 1, 0, none⟩ (.bool true)).heap[D]? = some (.deferred (some [])) := (Below.heap_setCell W ⟨w.heap.size + 1, 0, none⟩ (.bool true) D (fun e => by have := hD1.out; simp only at e; omega)).trans hK
          have r9 := b6.set (.bool true)
          have b9 : Below w.heap.size w (W.setCell ⟨w.heap.size + 1, 0, none⟩ (.bool true)) := hbe.out.setCell (p := ⟨w.heap.size + 1, 0, none⟩) (Nat.le_succ _) _
          generalize W.setCell ⟨w.heap.size + 1, 0, none⟩ (.bool true) = WE at k1 r9 b9 ⊢
          have g1 := grownBy_putObj' WE D (.deferred none)
          have r9' := r9.kept g1 (fun e => by have := hD1.out; injection e; omega)
          have b9' : Below w.heap.size w (WE.putObj D (.deferred none)) := b9.trans (gb_bel g1 (fun q hq => by have := hD1.out; injection hq with hq; omega) b9.size)
          refine ⟨by simp, .inl ⟨_, _, rfl, run_takeDeferred k1, ?_⟩⟩
          exact ⟨_, results_cellB (fn := Try.f4) rfl _ _ (w.heap.size + 1) (.bool true) rfl r9'.cell Try.underlying4, rfl, b9'⟩
end TS
end Go.Proofs.Ytbdnniaajiiimaa
