/- The law NarStops, walked (own text of the verifier). -/
import Derived.Test.YtpbgmknebhnonabNa7
import Derived.Test.YtpbgmknebhnonabNsA
namespace Go.Proofs.Ytpbgmknebhnonab
open Go.RowKit

theorem PU.new {w0 w1 : World} (b : Below w0.heap.size w0 w1) (pt : Bool) : PU w0 (w1.alloc (.cells #[.int .i64 0, .int .i64 0, .int .i64 0, .int .i64 0, .bool pt, .bool false, .int .i64 0, .int .u64 0, .slice none 0 0, .slice none 0 0, .int .i64 0, .bool false, .string ⟨#[]⟩, .slice none 0 0] 51)) w1.heap.size (w1.heap.size + 1) (PS.new pt) :=
  ⟨b.alloc b.size _, b.size, [], PW.new w1 pt, fun _ hx => by cases hx⟩
theorem stop_ans {T : Tr} (hs : smT T) (hw : wfT T) (h : (ckT T).2 = 0) (rest : List UInt8) : (PS.new true).run (arcT T ++ rest) = arcS true T ∧ (arcS true T).ansT = T ∧ (arcS true T).ansF = (0, 0) ∧ lnT T := by
  have e := run_arc hs hw h true rest
  rw [arcS_part] at e
  have hl := (run_inv (arcT T ++ rest) (PS.new true) (PI.new true) RI.new rfl).2.1.rt
  rw [e] at hl
  obtain ⟨a1, a2⟩ := fin_whole (p := arcS true T) rfl rfl
  exact ⟨e, a1, a2, hl⟩
theorem arc_ans {T : Tr} (hs : smT T) (hw : wfT T) (h : (ckT T).2 = 0) : ((PS.new false).run (arcT T)).ansT = T ∧ ((PS.new false).run (arcT T)).ansF = (0, 0) ∧ ((PS.new false).run (arcT T)).taken = (arcT T).length ∧ lnT T := by
  have e := run_arc hs hw h false []
  rw [List.append_nil] at e
  have e2 : (PS.new false).run (arcT T) = arcS false T := e
  have hl := (run_inv (arcT T) (PS.new false) (PI.new false) RI.new rfl).2.1.rt
  rw [e2] at hl ⊢
  obtain ⟨a1, a2⟩ := fin_whole (p := arcS false T) rfl rfl
  exact ⟨a1, a2, rfl, hl⟩
theorem arc_le2 {T : Tr} (hs : smT T) (hw : wfT T) (h : (ckT T).2 = 0) : (arcT T).length ≤ 1048576 := by
  rw [arc_len]; exact (arc_facts hs hw h).2.2.1

set_option maxHeartbeats 16000000 in
set_option maxRecDepth 10000 in
theorem nstops_walk (m : Nat) (k : Int) (e : Bool) (t : ByteArray) (x : Option Addr) (n c : Nat) (T : Tr) (rs : ByteArray) (y : Option Addr) (ny cy : Nat) (f : Nat → Int) (w : World) (hA : At w m (.agg #[Value.int IntKind.i64 k, Value.bool e, Value.string t, Value.slice x n c]) T) (hS : smT T) (hy : ISl w y ny f) (hny : ny ≤ 1048576) (hrs : rs.size ≤ 1048576) :
    Calls Try.prog 5 #[.agg #[Value.int IntKind.i64 k, Value.bool e, Value.string t, Value.slice x n c], .string rs, .slice y ny cy] w fun en w' => en = .returned (.bool true) ∧ Below w.heap.size w w' := by
  have hW := At.wf _ _ _ hA
  have HH : Hid (At w m (.agg #[Value.int IntKind.i64 k, Value.bool e, Value.string t, Value.slice x n c]) T ∧ smT T ∧ wfT T) := ⟨hA, hS, hW⟩
  have HY : Hid (ISl w y ny f) := hy
  clear hA hS hW hy
  have bA : Below w.heap.size w (w.alloc (Obj.cells #[Value.int IntKind.i64 k, Value.bool e, Value.string t, Value.slice x n c] 25)) := (Below.refl _ _).alloc (Nat.le_refl _) _
  have HG : Hid ((w.alloc (Obj.cells #[Value.int IntKind.i64 k, Value.bool e, Value.string t, Value.slice x n c] 25)).heap[w.heap.size]? = some (.cells #[Value.int IntKind.i64 k, Value.bool e, Value.string t, Value.slice x n c] 25 (0, 0)) ∧ Below w.heap.size w (w.alloc (Obj.cells #[Value.int IntKind.i64 k, Value.bool e, Value.string t, Value.slice x n c] 25))) := ⟨heap_alloc_new _ _, bA⟩
  clear bA
  go_enter Try.func5, Try.ntmps5
  go_upto_region 1 with fail
  obtain ⟨G, hG⟩ : ∃ G, w.heap.size = G := ⟨_, rfl⟩
  have HGe : Hid (w.heap.size = G) := hG
  generalize w.alloc (Obj.cells #[Value.int IntKind.i64 k, Value.bool e, Value.string t, Value.slice x n c] 25) = w1 at *
  rw [hG] at HG ⊢
  clear hG
  have HW1 : Hid (Below G w w1 ∧ G < w1.heap.size) := ⟨HG.out.2, heap_lt HG.out.1⟩
  have HY1 : Hid (ISl w1 y ny f) := HY.out.below HG.out.2 (by rw [HGe.out]; exact Nat.le_refl _)
  have HA1 : Hid (At w1 m (.agg #[Value.int IntKind.i64 k, Value.bool e, Value.string t, Value.slice x n c]) T) := HH.out.1.below (by rw [HGe.out]; exact HG.out.2)
  clear HY
  have CW := awN w1
  go_wp2_with fail
  refine CW.mono ?_
  rintro e2 w2 ⟨rfl, b2⟩
  have HG2 : Hid (w2.heap[G]? = some (.cells #[Value.int IntKind.i64 k, Value.bool e, Value.string t, Value.slice x n c] 25 (0, 0)) ∧ Below w1.heap.size w1 w2) := ⟨(b2.block _ (heap_lt HG.out.1)).trans HG.out.1, b2⟩
  clear CW b2 HG
  obtain ⟨u0, u1, u2, u3, _⟩ := cell4n HG2.out.1
  have CS := nserial_any m k e t x n c T w2 (HA1.out.below HG2.out.2) HH.out.2.1 HH.out.2.2
  obtain ⟨R, hR⟩ : ∃ R, serT T = R := ⟨_, rfl⟩
  have HR : Hid (serT T = R) := hR
  rw [hR] at CS
  clear hR
  obtain ⟨X, C⟩ := R
  dsimp only at CS
  go_wp2_with fail
  refine CS.mono ?_
  rintro e3 w3 ⟨rfl, b3⟩
  have HG3 : Hid (w3.heap[G]? = some (.cells #[Value.int IntKind.i64 k, Value.bool e, Value.string t, Value.slice x n c] 25 (0, 0)) ∧ Below w1.heap.size w1 w3) := ⟨(b3.block _ (heap_lt HG2.out.1)).trans HG2.out.1, HG2.out.2.trans (b3.mono HG2.out.2.size)⟩
  clear CS b3 HG2 u0 u1 u2 u3
  have HCC : Hid (C = (ckT T).2) := by
    have h := HR.out
    unfold serT at h
    by_cases hc : (ckT T).2 ≠ 0
    · rw [if_pos hc] at h; injection h with h1 h2; exact h2.symm
    · rw [if_neg hc] at h; injection h with h1 h2; show C = (ckT T).2; omega
  by_cases hc : C = 0
  · subst hc
    have hc0 : (ckT T).2 = 0 := HCC.out.symm
    have hser : serT T = (NB.ba (arcT T), 0) := by unfold serT; rw [if_neg (by omega)]
    have e1 : X = NB.ba (arcT T) := by
      have := HR.out.symm.trans hser
      injection this with h1 h2
    subst e1
    have hal := arc_le2 HH.out.2.1 HH.out.2.2 hc0
    obtain ⟨l, rfl⟩ : ∃ l, rs = NB.ba l := ⟨rs.data.toList, (NB.ba_list rs).symm⟩
    have hrl : l.length ≤ 1048576 := by rw [NB.ba_size] at hrs; exact hrs
    obtain ⟨a0, a1, a2, a4⟩ := stop_ans HH.out.2.1 HH.out.2.2 hc0 l
    have HLN : Hid (lnT T) := a4
    have CN := newpart_any w3
    have hz1 : (NB.ba (arcT T)).size = (arcT T).length := NB.ba_size _
    have hap : NB.ba (arcT T) ++ NB.ba l = NB.ba (arcT T ++ l) := by
      apply ByteArray.ext
      rw [ByteArray.data_append]
      simp [NB.ba]
    have hsum : ¬ 9223372036854775807 < (NB.ba (arcT T)).size + (NB.ba l).size := by rw [hz1, NB.ba_size]; omega
    have hll : (arcT T ++ l).length ≤ 2097152 := by rw [List.length_append]; omega
    clear HR hser hc0 a4
    go_wp2_with fail
    refine CN.mono ?_
    rintro e5 w5 ⟨rfl, hw5⟩
    clear CN
    have HU : Hid (PU w1 w5 w3.heap.size (w3.heap.size + 1) (PS.new true)) := by
      rw [hw5]
      exact PU.new HG3.out.2 true
    clear hw5
    obtain ⟨g, hg⟩ : ∃ g, w3.heap.size = g := ⟨_, rfl⟩
    rw [hg] at HU ⊢
    clear hg
    have HG1 : Hid (w1.heap[G]? = some (.cells #[Value.int IntKind.i64 k, Value.bool e, Value.string t, Value.slice x n c] 25 (0, 0))) := (HG3.out.2.block G HW1.out.2).symm.trans HG3.out.1
    have CF := fed_any w1 g (g + 1) true (arcT T ++ l) y ny cy f w5 HU.out HY1.out hll hny
    unfold FdP at CF
    rw [a0, a1, a2] at CF
    have hat : (arcS true T).taken = (arcT T).length := rfl
    rw [hat] at CF
    go_wp2_with fail
    refine CF.mono ?_
    rintro e6 w6 ⟨⟨v, fr, rfl, hTv, hNv⟩, hpu, hsz⟩
    clear CF
    obtain ⟨xx, nn, cc, hxv⟩ : ∃ x n c, v = .slice x n c := by obtain ⟨x, c, h⟩ := hTv.shape; exact ⟨x, _, c, h⟩
    subst hxv
    obtain ⟨b6, -, fp6, P6, -⟩ := hpu
    obtain ⟨M, hM⟩ := TrV.at T _ fr hTv HLN.out
    have bB : Below w6.heap.size w6 ((w6.alloc (.cells #[.int .i64 T.k, .bool T.e, .string T.t, .slice xx nn cc] 25)).alloc (.cells #[.int .i64 0, .int .i64 0] 34)) := ((Below.refl _ _).alloc (Nat.le_refl _) _).alloc (by rw [World.size_alloc]; omega) _
    have b7 : Below w1.heap.size w1 ((w6.alloc (.cells #[.int .i64 T.k, .bool T.e, .string T.t, .slice xx nn cc] 25)).alloc (.cells #[.int .i64 0, .int .i64 0] 34)) := b6.trans (bB.mono b6.size)
    have CE := requal_any (max M m) _ _ T T _ ((hM.below bB).upto (Nat.le_max_left _ _)) ((HA1.out.below b7).upto (Nat.le_max_right _ _))
    have HG7 : Hid (((w6.alloc (.cells #[.int .i64 T.k, .bool T.e, .string T.t, .slice xx nn cc] 25)).alloc (.cells #[.int .i64 0, .int .i64 0] 34)).heap[G]? = some (.cells #[Value.int IntKind.i64 k, Value.bool e, Value.string t, Value.slice x n c] 25 (0, 0)) ∧ Below w1.heap.size w1 ((w6.alloc (.cells #[.int .i64 T.k, .bool T.e, .string T.t, .slice xx nn cc] 25)).alloc (.cells #[.int .i64 0, .int .i64 0] 34))) := ⟨(b7.block G HW1.out.2).trans HG1.out, b7⟩
    have s10 : Hid (St ((w6.alloc (.cells #[.int .i64 T.k, .bool T.e, .string T.t, .slice xx nn cc] 25)).alloc (.cells #[.int .i64 0, .int .i64 0] 34)) w6.heap.size [.int .i64 T.k, .bool T.e, .string T.t, .slice xx nn cc]) := (St.new w6 _ _).same (by simp only [World.size_alloc]; omega) (Below.heap_alloc _ _ _ (by rw [World.size_alloc]; omega))
    have s11 : Hid (St ((w6.alloc (.cells #[.int .i64 T.k, .bool T.e, .string T.t, .slice xx nn cc] 25)).alloc (.cells #[.int .i64 0, .int .i64 0] 34)) (w6.heap.size + 1) [.int .i64 0, .int .i64 0]) := by
      have := St.new (w6.alloc (.cells #[.int .i64 T.k, .bool T.e, .string T.t, .slice xx nn cc] 25)) #[.int .i64 0, .int .i64 0] 34
      rw [World.size_alloc] at this
      exact this
    have HP7 : Hid (PW ((w6.alloc (.cells #[.int .i64 T.k, .bool T.e, .string T.t, .slice xx nn cc] 25)).alloc (.cells #[.int .i64 0, .int .i64 0] 34)) g (g + 1) (arcS true T).fin fp6) := P6.below bB
    clear bB b6 b7 hM hTv hNv HU hsz HG3 HG1 P6
    go_upto_region 13 with fail
    obtain ⟨D, hD⟩ : ∃ D, w6.heap.size = D := ⟨_, rfl⟩
    rw [hD] at s10 s11 ⊢
    clear hD
    generalize (w6.alloc (.cells #[.int .i64 T.k, .bool T.e, .string T.t, .slice xx nn cc] 25)).alloc (.cells #[.int .i64 0, .int .i64 0] 34) = w7 at *
    obtain ⟨u0, u1, u2, u3, _⟩ := cell4n HG7.out.1
    have x0 := s10.out.get 0 _ rfl
    have x1 := s10.out.get 1 _ rfl
    have x2 := s10.out.get 2 _ rfl
    have x3 := s10.out.get 3 _ rfl
    have y0 := s11.out.get 0 _ rfl
    have y1 := s11.out.get 1 _ rfl
    have g0 : w7.cell? ⟨g, 0, none⟩ = some (.int .i64 ((arcT T).length : Int)) := HP7.out.cells.1
    have g6 : w7.cell? ⟨g, 6, none⟩ = some (.int .i64 17) := HP7.out.cells.2.2.2.2.2.2.1
    have CT := taken_any g ((arcT T).length : Int) w7 g0
    have CH := whole_any g 17 w7 g6
    go_wp2_with fail
    refine CT.mono ?_
    rintro e9 w9 ⟨rfl, rfl⟩
    clear CT
    go_wp2_with fail
    refine CH.mono ?_
    rintro e9 w9 ⟨rfl, rfl⟩
    clear CH
    go_wp2_with fail
    refine CE.mono ?_
    rintro e8 w8 ⟨⟨r, rfl, hr⟩, b8⟩
    have hrt : r = true := by simpa using hr
    subst hrt
    have HB8 : Hid (Below G w w8) := HW1.out.1.trans ((HG7.out.2.trans (b8.mono HG7.out.2.size)).mono (Nat.le_of_lt HW1.out.2))
    clear CE b8 hr
    go_wp2
    go_ret
    exact ⟨rfl, by rw [HGe.out]; exact HB8.out⟩
  · have hser : X = ⟨#[]⟩ := by
      have h := HR.out
      unfold serT at h
      rw [if_pos (by rw [← HCC.out]; exact hc)] at h
      injection h with h1 h2
      exact h1.symm
    subst hser
    have hb : (C != 0) = true := by simp [hc]
    have hb2 : (C != C) = false := by simp
    clear HR
    go_wp2
    go_ret
    exact ⟨rfl, by rw [HGe.out]; exact HW1.out.1.trans (HG3.out.2.mono (Nat.le_of_lt HW1.out.2))⟩
open Go.ChangeShapes in
theorem bulk_lits {H : Type} (k : IntKind) (zs : List Int) : Rows.uptoBulkAll (H := H) (lits k zs) = zs.length := by
  induction zs with
  | nil => rfl
  | cons z zs ih =>
    show Rows.uptoBulk (DataW.lit (.int k z)) + Rows.uptoBulkAll (lits k zs) = _
    rw [ih, List.length_cons]
    show 1 + zs.length = _
    omega

open Go.ChangeShapes in
theorem open_isl {H : Type} {enc : TypeId × Value → H} {w : World} {held : Bool} (fuel : Nat) (z : Option Addr) (n c : Nat) (x : DataW H × List MemPlace) (h : DataW.trod enc Try.prog w 0 (fun _ => true) held fuel 39 [.slice z n c] = some x) (hb : Rows.uptoBulk x.1 ≤ 1048576) :
    ∃ f : Nat → Int, ISl w z n f ∧ n ≤ 1048576 := by
  rcases open_ints Try.underlying39 Try.underlying3 (by kernel_rfl) h with ⟨hcs, _⟩ | ⟨a, l, cp, zs, hcs, _, hl, hm, hz, hx, hcell, hwz⟩
  · simp at hcs
    obtain ⟨rfl, rfl, rfl⟩ := hcs
    exact ⟨fun _ => 0, fun k hk => absurd hk (by omega), Nat.zero_le _⟩
  · simp at hcs
    obtain ⟨rfl, rfl, rfl⟩ := hcs
    have hz' : zs.length = c := by simpa using hz
    subst hx
    refine ⟨fun k => zs.getD k 0, fun k hk => ⟨_, rfl, hcell k (by omega)⟩, ?_⟩
    have e1 : Rows.uptoBulk (H := H) (.slice (lits .i64 (zs.take n)) (lits .i64 (zs.drop n))) = Rows.uptoBulkAll (H := H) (lits .i64 (zs.take n)) + Rows.uptoBulkAll (H := H) (lits .i64 (zs.drop n)) + 1 := by simp only [Rows.uptoBulk]
    have hb' : Rows.uptoBulk (H := H) (.slice (lits .i64 (zs.take n)) (lits .i64 (zs.drop n))) ≤ 1048576 := hb
    rw [e1, bulk_lits, bulk_lits, List.length_take, List.length_drop] at hb'
    omega

theorem nstops_final (m : Nat) (k : Int) (e : Bool) (t : ByteArray) (x : Option Addr) (n c : Nat) (T : Tr) (rs : ByteArray) (y : Option Addr) (ny cy : Nat) (f : Nat → Int) (w : World) (hA : At w m (.agg #[Value.int IntKind.i64 k, Value.bool e, Value.string t, Value.slice x n c]) T) (hS : smT T) (hrs : rs.size ≤ 1048576) (hny : ny ≤ 1048576) (hy : ISl w y ny f) :
    Calls Try.prog 5 #[.agg #[Value.int IntKind.i64 k, Value.bool e, Value.string t, Value.slice x n c], .string rs, .slice y ny cy] w fun en w' => en = .returned (.bool true) ∧ Below w.heap.size w w' := nstops_walk m k e t x n c T rs y ny cy f w hA hS hy hny hrs
end Go.Proofs.Ytpbgmknebhnonab
