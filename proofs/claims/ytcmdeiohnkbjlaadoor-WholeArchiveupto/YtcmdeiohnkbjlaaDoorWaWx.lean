/- The law WholeArchive, walked (own text of the verifier). -/
import Derived.Test.YtcmdeiohnkbjlaaDoorWaAx
import Derived.Deep.RegionHeld3
import Derived.Deep.MidRow
namespace Go.Proofs.YtcmdeiohnkbjlaaDoor
open Go.RowKit

theorem yieldsIf_arrW {P : Program} {ops : Array Oper} {S : World → Prop} {op : Oper} {a : Act} {k : IntKind} {n e : Nat} {f : Nat → Int} (hw : Region.wanted op (yielded ops a.tmps) = true) (ty : TypeId) (x : Operand) (ho : op.op = .load ty x)
    (g : Nat) (hx : a.eval x = .pointer (some ⟨g, 0, none⟩)) (hS : ∀ w, S w → Row k w g n f) (hu : P.underlying ty = some (.array n e)) (hi : (P.info? ty).map (·.size) = some n) : YieldsIf P ops S op (.agg (cs k n f)) a := by
  have h := yieldsIf_load_mid (P := P) (ops := ops) (S := S) hw ty x ho g 0 hx (cs k n f).toList (.array n e) (fun w hs => (hS w hs).range) hu rfl (by rw [hi]; simp [cs_size])
  simpa using h
theorem ba_appW (a b : List UInt8) : NB.ba a ++ NB.ba b = NB.ba (a ++ b) := by
  apply ByteArray.ext
  simp [NB.ba]

/-- In the loop over the pieces: what is fed and written, where the parser, the digest and the pieces lie. -/
structure PcM (w0 wr : World) (g gs : Nat) (L : List (List UInt8)) (i : Nat) (fp : List Nat) : Prop where
  pw : PW wr g (g + 1) (prs (L.take i).flatten) fp
  wt : Wrote wr gs (NB.ba (L.take i).flatten)
  kt : KT wr
  fb : ∀ x ∈ fp, w0.heap.size ≤ x
  sz : w0.heap.size ≤ wr.heap.size
  kp : ∀ b, b < w0.heap.size → b ≠ g → b ≠ gs → wr.heap[b]? = w0.heap[b]?
  be : ∀ C, C ≤ g → Below C w0 wr
theorem PcM.row {w0 wr : World} {g gs : Nat} {L : List (List UInt8)} {i : Nat} {fp : List Nat} (h : PcM w0 wr g gs L i fp) {v : Value} {B : Nat} (hB : g < B) (hC : gs < B) (hS : Srr w0 B v L) {j : Nat} {s : List UInt8} (hj : L[j]? = some s) : ∃ q c, v = .slice (some ⟨q, 0, none⟩) L.length c ∧ wr.cell? ⟨q, j, none⟩ = some (.string (NB.ba s)) := by
  obtain ⟨q, c, hv, h1, h2, h3⟩ := hS.at hj
  refine ⟨q, c, hv, ?_⟩
  have := h.kp q h2 (by omega) (by omega)
  rw [← h3]
  unfold World.cell?
  rw [this]

/-- What the last region finds. -/
structure WaR (g gs G D E m M : Nat) (T : Tr) (k : Int) (e : Bool) (t : ByteArray) (x : Option Addr) (n c : Nat) (xx : Option Addr) (nn cc : Nat) (w w' : World) : Prop where
  f0 : w'.cell? ⟨D + 1, 0, none⟩ = some (.int .i64 0)
  f1 : w'.cell? ⟨D + 1, 1, none⟩ = some (.int .i64 0)
  n0 : w'.cell? ⟨D, 0, none⟩ = some (.int .i64 T.k)
  n1 : w'.cell? ⟨D, 1, none⟩ = some (.bool T.e)
  n2 : w'.cell? ⟨D, 2, none⟩ = some (.string T.t)
  n3 : w'.cell? ⟨D, 3, none⟩ = some (.slice xx nn cc)
  b0 : w'.cell? ⟨G, 0, none⟩ = some (.int .i64 k)
  b1 : w'.cell? ⟨G, 1, none⟩ = some (.bool e)
  b2 : w'.cell? ⟨G, 2, none⟩ = some (.string t)
  b3 : w'.cell? ⟨G, 3, none⟩ = some (.slice x n c)
  dg : Row .u8 w' E 32 (dgW T)
  wr : Wrote w' gs (NB.ba (arcT T))
  kt : KT w'
  p6 : w'.cell? ⟨g, 6, none⟩ = some (.int .i64 17)
  p1 : w'.cell? ⟨g, 1, none⟩ = some (.int .i64 0)
  a1 : At w' M (.agg #[.int .i64 T.k, .bool T.e, .string T.t, .slice xx nn cc]) T
  a2 : At w' m (.agg #[Value.int IntKind.i64 k, Value.bool e, Value.string t, Value.slice x n c]) T
  be : Below w.heap.size w w'
theorem WaR.next {g gs G D E m M : Nat} {T : Tr} {k : Int} {e : Bool} {t : ByteArray} {x : Option Addr} {n c : Nat} {xx : Option Addr} {nn cc : Nat} {w a b : World} (h : WaR g gs G D E m M T k e t x n c xx nn cc w a) (hb : Below a.heap.size a b) : WaR g gs G D E m M T k e t x n c xx nn cc w b := by
  have C : ∀ {p : Addr} {v : Value}, a.cell? p = some v → b.cell? p = some v := fun hc => (hb.cell (World.block_lt_of_cell? _ _ hc)).trans hc
  exact ⟨C h.f0, C h.f1, C h.n0, C h.n1, C h.n2, C h.n3, C h.b0, C h.b1, C h.b2, C h.b3, h.dg.below hb (block_lt_of_cell (h.dg.cell 0 (by omega))), h.wr.below hb h.wr.lt, h.kt.below hb, C h.p6, C h.p1, h.a1.below hb, h.a2.below hb, h.be.trans (hb.mono h.be.size)⟩

set_option maxHeartbeats 16000000 in
set_option maxRecDepth 100000 in
theorem warch_walk (m : Nat) (k : Int) (e : Bool) (t : ByteArray) (x : Option Addr) (n c : Nat) (T : Tr) (y : Option Addr) (ny cy : Nat) (f : Nat → Int) (w : World) (hA : At w m (.agg #[Value.int IntKind.i64 k, Value.bool e, Value.string t, Value.slice x n c]) T) (hS : smT T) (hy : ISr w y ny f) (hny : ny ≤ 1048576) (hK : KT w) :
    Calls Tryd.prog 3 #[.agg #[Value.int IntKind.i64 k, Value.bool e, Value.string t, Value.slice x n c], .slice y ny cy] w fun en w' => en = .returned (.bool true) ∧ Below w.heap.size w w' := by
  have hW := At.wf _ _ _ hA
  have HH : Hid (At w m (.agg #[Value.int IntKind.i64 k, Value.bool e, Value.string t, Value.slice x n c]) T ∧ smT T ∧ wfT T) := ⟨hA, hS, hW⟩
  have HY : Hid (ISr w y ny f) := hy
  have HK : Hid (KT w ∧ 0 < w.heap.size) := ⟨hK, hK.lt⟩
  clear hA hS hW hy hK
  have bA : Below w.heap.size w (w.alloc (Obj.cells #[Value.int IntKind.i64 k, Value.bool e, Value.string t, Value.slice x n c] 25)) := (Below.refl _ _).alloc (Nat.le_refl _) _
  have HG : Hid ((w.alloc (Obj.cells #[Value.int IntKind.i64 k, Value.bool e, Value.string t, Value.slice x n c] 25)).heap[w.heap.size]? = some (.cells #[Value.int IntKind.i64 k, Value.bool e, Value.string t, Value.slice x n c] 25 (0, 0)) ∧ Below w.heap.size w (w.alloc (Obj.cells #[Value.int IntKind.i64 k, Value.bool e, Value.string t, Value.slice x n c] 25))) := ⟨heap_alloc_new _ _, bA⟩
  clear bA
  go_enter Tryd.func3, Tryd.ntmps3
  go_upto_region 1 with fail
  obtain ⟨G, hG⟩ : ∃ G, w.heap.size = G := ⟨_, rfl⟩
  have HGe : Hid (w.heap.size = G) := hG
  generalize w.alloc (Obj.cells #[Value.int IntKind.i64 k, Value.bool e, Value.string t, Value.slice x n c] 25) = w1 at *
  rw [hG] at HG HK ⊢
  clear hG
  have HW1 : Hid (Below G w w1 ∧ G < w1.heap.size) := ⟨HG.out.2, heap_lt HG.out.1⟩
  have HY1 : Hid (ISr w1 y ny f) := HY.out.below (by rw [HGe.out]; exact HG.out.2)
  have HA1 : Hid (At w1 m (.agg #[Value.int IntKind.i64 k, Value.bool e, Value.string t, Value.slice x n c]) T ∧ KT w1) := ⟨HH.out.1.below (by rw [HGe.out]; exact HG.out.2), HK.out.1.below (by rw [HGe.out]; exact HG.out.2)⟩
  clear HY
  have CW := awN w1
  go_wp2_with fail
  refine CW.mono ?_
  rintro e2 w2 ⟨rfl, b2⟩
  have HG2 : Hid (w2.heap[G]? = some (.cells #[Value.int IntKind.i64 k, Value.bool e, Value.string t, Value.slice x n c] 25 (0, 0)) ∧ Below w1.heap.size w1 w2) := ⟨(b2.block _ (heap_lt HG.out.1)).trans HG.out.1, b2⟩
  clear CW b2 HG
  obtain ⟨u0, u1, u2, u3, _⟩ := cell4n HG2.out.1
  have CS := nserial_any m k e t x n c T w2 (HA1.out.1.below HG2.out.2) HH.out.2.1 HH.out.2.2
  obtain ⟨R, hR⟩ : ∃ R, serT T = R := ⟨_, rfl⟩
  have HR : Hid (serT T = R) := hR
  rw [hR] at CS
  clear hR
  obtain ⟨X, C⟩ := R
  dsimp only at CS
  go_wp2_with fail
  refine CS.mono ?_
  rintro e3 w3 ⟨rfl, b3⟩
  have HG3 : Hid (w3.heap[G]? = some (.cells #[Value.int IntKind.i64 k, Value.bool e, Value.string t, Value.slice x n c] 25 (0, 0)) ∧ Below w1.heap.size w1 w3) := ⟨(b3.block _ (heap_lt HG2.out.1)).trans HG2.out.1, HG2.out.2.trans (b3.mono HG2.out.2.size)⟩
  clear CS b3 HG2 u0 u1 u2 u3
  obtain ⟨u0, u1, u2, u3, _⟩ := cell4n HG3.out.1
  have CK := check_tree m _ T w3 (HA1.out.1.below HG3.out.2) HH.out.2.1
  have hC : C = (ckT T).2 := by
    have h := HR.out
    unfold serT at h
    by_cases hc : (ckT T).2 ≠ 0
    · rw [if_pos hc] at h; injection h with h1 h2; exact h2.symm
    · rw [if_neg hc] at h; injection h with h1 h2; omega
  obtain ⟨P, hP⟩ : ∃ P, (ckT T).1 = P := ⟨_, rfl⟩
  rw [hP, ← hC] at CK
  have HCC : Hid (C = (ckT T).2) := hC
  clear hC hP
  go_wp2_with fail
  refine CK.mono ?_
  rintro e4 w4 ⟨rfl, b4⟩
  have HG4 : Hid (w4.heap[G]? = some (.cells #[Value.int IntKind.i64 k, Value.bool e, Value.string t, Value.slice x n c] 25 (0, 0)) ∧ Below w1.heap.size w1 w4) := ⟨(b4.block _ (heap_lt HG3.out.1)).trans HG3.out.1, HG3.out.2.trans (b4.mono HG3.out.2.size)⟩
  clear CK b4 HG3 u0 u1 u2 u3
  by_cases hc : C = 0
  · subst hc
    have hc0 : (ckT T).2 = 0 := HCC.out.symm
    have hser : serT T = (NB.ba (arcT T), 0) := by unfold serT; rw [if_neg (by omega)]
    have e1 : X = NB.ba (arcT T) := by
      have := HR.out.symm.trans hser
      injection this with h1 h2
    subst e1
    have hal := arc_le3 HH.out.2.1 HH.out.2.2 hc0
    have HCK : Hid ((ckT T).2 = 0 ∧ (NB.ba (arcT T)).size = (arcT T).length) := ⟨hc0, NB.ba_size _⟩
    clear HR HCC hser hc0
    have CN := newparser_any w4
    go_wp2_with fail
    refine CN.mono ?_
    rintro e5 w5 ⟨rfl, hw5⟩
    clear CN
    have P5 : Hid (PW w5 w4.heap.size (w4.heap.size + 1) (PS.new false) [] ∧ Below w4.heap.size w4 w5 ∧ w5.heap.size = w4.heap.size + 1) := by
      rw [hw5]
      exact ⟨PW.new w4 false, (Below.refl _ _).alloc (Nat.le_refl _) _, World.size_alloc _ _⟩
    clear hw5
    obtain ⟨g, hg⟩ : ∃ g, w4.heap.size = g := ⟨_, rfl⟩
    have Hg : Hid (w4.heap.size = g ∧ G < g) := ⟨hg, by rw [← hg]; exact heap_lt HG4.out.1⟩
    rw [hg] at P5 ⊢
    clear hg
    go_wp2_with fail
    refine (new_wrote w5).mono ?_
    rintro e6 w6 ⟨gs, rfl, hgs1, hgs2, hWr, b6⟩
    have H6 : Hid (PW w6 g (g + 1) (PS.new false) [] ∧ Below g w4 w6 ∧ g < gs ∧ gs < w6.heap.size ∧ Wrote w6 gs ByteArray.empty) := by
      have h1 := P5.out.2.2
      exact ⟨P5.out.1.below b6, P5.out.2.1.trans (b6.mono (by omega)), by omega, hgs2, hWr⟩
    clear P5 hgs1 hgs2 hWr b6
    have HB6 : Hid (Below w.heap.size w w6) := by
      rw [HGe.out]
      exact HW1.out.1.trans ((HG4.out.2.mono (Nat.le_of_lt HW1.out.2)).trans (H6.out.2.1.mono (by have := Hg.out.2; omega)))
    have HK6 : Hid (KT w6) := by have h := HA1.out.2; exact h.below (HG4.out.2.trans (H6.out.2.1.mono (by rw [← Hg.out.1]; exact HG4.out.2.size)))
    have CPc := pieces_any (arcT T) y ny cy f w6 (HY1.out.below (HG4.out.2.trans (H6.out.2.1.mono (by rw [← Hg.out.1]; exact HG4.out.2.size)))) hal hny
    clear HY1
    go_wp2_with fail
    refine CPc.mono ?_
    rintro e7 w7 ⟨px, pc, L, rfl, hSr, hfl, hLl, b7⟩
    clear CPc
    have H7 : Hid (Srr w7 w6.heap.size (.slice px L.length pc) L ∧ L.flatten = arcT T ∧ Below w6.heap.size w6 w7) := ⟨hSr, hfl, b7⟩
    have HL0 : Hid (PcM w7 w7 g gs L 0 []) := ⟨H6.out.1.below b7, H6.out.2.2.2.2.below b7 H6.out.2.2.2.1, HK6.out.below b7, (fun _ hx => by cases hx), Nat.le_refl _, fun _ _ _ _ => rfl, fun _ _ => Below.refl _ _⟩
    have hLb : L.length ≤ 1048577 := by omega
    have HB7 : Hid (Below w.heap.size w w7) := HB6.out.trans (b7.mono HB6.out.size)
    have H67 : Hid (g < gs ∧ gs < w6.heap.size ∧ w6.heap.size ≤ w7.heap.size ∧ Below g w4 w7) := ⟨H6.out.2.2.1, H6.out.2.2.2.1, b7.size, H6.out.2.1.trans (b7.mono (by have h1 := H6.out.2.2.1; have h2 := H6.out.2.2.2.1; omega))⟩
    clear hSr hfl hLl b7 H6 HB6 HK6
    go_wp2
    go_loopw [56] (fun iv wr => ∃ (i : Nat) (fp : List Nat), iv = .int .i64 (i : Int) ∧ i ≤ L.length ∧ Hid (PcM w7 wr g gs L i fp)) (fun iv _ => L.length - (intOf iv).toNat)
    case atStart => exact ⟨0, [], rfl, Nat.zero_le _, HL0.out⟩
    case round =>
      obtain ⟨i, fp, rfl, hi, HL⟩ := hrel
      clear HL0
      by_cases hlt : i < L.length
      · obtain ⟨s, hs⟩ : ∃ s, L[i]? = some s := ⟨_, List.getElem?_eq_getElem hlt⟩
        obtain ⟨gq, c', hv, hc⟩ := HL.out.row (by have := H67.out; omega) H67.out.2.1 H7.out.1 hs
        have hpx : px = some ⟨gq, 0, none⟩ := by injection hv
        subst hpx
        have hzs : (NB.ba s).size = s.length := NB.ba_size s
        have happ : (L.take (i + 1)).flatten = (L.take i).flatten ++ s := by
          have h1 := List.take_succ_eq_append_getElem hlt
          have h2 : L[i] = s := (List.getElem?_eq_some_iff.1 hs).2
          rw [h1, h2, List.flatten_append, show [s].flatten = s by simp]
        have HAP : Hid ((L.take (i + 1)).flatten = (L.take i).flatten ++ s) := happ
        have hsl : Hid (s.length ≤ 1048576) := by
          have h1 : s.length ≤ L.flatten.length := len_flat L i s hs
          rw [H7.out.2.1] at h1
          exact (by omega : s.length ≤ 1048576)
        have hnext : Hid (prs ((L.take (i + 1)).flatten) = (prs (L.take i).flatten).feed s) := by
          unfold Hid
          rw [happ, prs_app]
        obtain ⟨k1, k1a, k1b, k1c⟩ := flat_take L i
        obtain ⟨k2, k2a, k2b, k2c⟩ := flat_take L (i + 1)
        rw [H7.out.2.1] at k1a k1c k2a k2c
        have hp1 := prs_part HH.out.2.1 HH.out.2.2 HCK.out.1 k1 k1a
        have hp2 := prs_part HH.out.2.1 HH.out.2.2 HCK.out.1 k2 k2a
        rw [← k1c] at hp1
        rw [← k2c] at hp2
        have hlen : k2 = k1 + s.length := by rw [← k2b, ← k1b, happ, List.length_append]
        have hdiff : Hid (((prs (L.take (i + 1)).flatten).taken : Int) - ((prs (L.take i).flatten).taken : Int) = ((NB.ba s).size : Int)) := by
          unfold Hid
          rw [hp1.1, hp2.1, hlen, hzs]
          omega
        have hdep : Hid ((prs (L.take (i + 1)).flatten).c.op.length ≤ 32) := hp2.2
        have hbig : Hid ((NB.ba (L.take i).flatten).size ≤ 1048576) := by
          unfold Hid
          rw [NB.ba_size, k1b]
          omega
        clear happ k1a k1b k1c k2a k2b k2c hp1 hp2 hlen
        have hlt6 := HL.out.pw.lt
        obtain ⟨c7, w8, hcv, hX, b8⟩ := BSl.conv wr s g fp (by omega) (fun k hk => (hlt6.2.2 k hk).2)
        have CF := feed_any g (g + 1) (prs (L.take i).flatten) fp _ c7 s w8 (HL.out.pw.below b8) (prs_inv _).1 hX (by have := hsl.out; omega)
        rw [← hnext.out, hdiff.out] at CF
        have H8 : Hid (Below wr.heap.size wr w8) := b8
        clear hX b8 hv hlt6 hs hdiff
        go_wp2_with fail
        refine CF.mono ?_
        rintro ea wa ⟨rfl, fpa, Pa, Fa, Sa⟩
        clear CF hcv
        have hs8 := H8.out.size
        have HN : Hid (PW wa g (g + 1) (prs (L.take (i + 1)).flatten) fpa ∧ Wrote wa gs (NB.ba (L.take i).flatten) ∧ KT wa ∧ (∀ x ∈ fpa, w7.heap.size ≤ x) ∧ w7.heap.size ≤ wa.heap.size ∧ (∀ b, b < w7.heap.size → b ≠ g → wa.heap[b]? = wr.heap[b]?) ∧ ∀ C, C ≤ g → Below C w7 wa) := by
          have hb0 := HL.out
          have hk : ∀ b, b < w7.heap.size → b ≠ g → wa.heap[b]? = wr.heap[b]? := fun b hb hne => by
            have h1 : b ∉ fp := fun hm => by have := hb0.fb b hm; omega
            have h2 : b < wr.heap.size := by have := hb0.sz; omega
            exact (Fa.keep b (by omega) hne h1).trans (H8.out.block b h2)
          have hsz : w7.heap.size ≤ wa.heap.size := by have := Fa.size; have := hb0.sz; omega
          have h67 := H67.out
          refine ⟨Pa, hb0.wt.same (hk gs (by omega) (by omega)), fun j hj => ?_, fun z hz => ?_, hsz, hk, fun C hC => ?_⟩
          · have h0 := hb0.kt j hj
            have hg0 : (0 : Nat) ≠ g := by have := Hg.out.2; omega
            rw [← h0]
            exact World.cell?_of_block (w := wr) (w' := wa) (a := ⟨0, j, none⟩) (hk 0 (by omega) hg0)
          · rcases Sa z hz with h | h
            · exact hb0.fb z h
            · have := hb0.sz; omega
          · have h1 := hb0.be C hC
            exact h1.trans ((H8.out.mono (by have := hb0.sz; omega)).trans (Fa.below (by have := hb0.sz; omega) hC (fun z hz => by have := hb0.fb z hz; omega)))
        clear Pa Fa Sa hs8
        obtain ⟨xo, co, _, _, _, hc9, _⟩ := HN.out.1.push (by have := hdep.out; omega)
        have hdp := hdep.out
        generalize (prs (L.take (i + 1)).flatten).c.op.length = dl at hc9 hdp
        have hd1 : ¬ (dl : Int) > 32 := by omega
        have hd2 : decide ((dl : Int) > 32) = false := by simp; omega
        have CD := depth_any g xo dl co wa hc9
        clear hdp
        go_wp2_with fail
        refine CD.mono ?_
        rintro ed wd ⟨rfl, rfl⟩
        clear CD
        have HWr := HN.out.2.1
        go_wp2_with fail
        refine (writeText_wrote gs _ (NB.ba s) wd HN.out.2.1 (by have h1 := hbig.out; have h2 := hsl.out; have h3 := hzs; omega) HN.out.2.2.1 (by have := H67.out; omega)).mono ?_
        rintro eb wb ⟨rfl, Wb, Gb⟩
        rw [ba_appW, ← HAP.out] at Wb
        have HF : Hid (PcM w7 wb g gs L (i + 1) fpa) := by
          obtain ⟨h1, h2, h3, h4, h5, h6, h7⟩ := HN.out
          have h67 := H67.out
          have hlt := h1.lt
          have hbk : ∀ b, b < wd.heap.size → b ≠ gs → wb.heap[b]? = wd.heap[b]? := fun b hb hne => Gb.block b hb (by simp; omega)
          refine ⟨h1.same Gb.size (hbk g (by omega) (by omega)) (fun b hb => hbk b (hlt.2.2 b hb).2 (by have := h4 b hb; omega)), Wb, h3.grown Gb (by omega), h4, Nat.le_trans h5 Gb.size, fun b hb hn1 hn2 => ?_, fun C hC => ?_⟩
          · rw [hbk b (by omega) hn2, h6 b hb hn1]
            exact HL.out.kp b hb hn1 hn2
          · exact (h7 C hC).trans ⟨Gb.os, Gb.tape, Gb.output, Gb.size, fun b hb => hbk b (by omega) (by omega)⟩
        clear Wb Gb HN HWr
        go_wp2
        go_roundw
        case rel => exact ⟨i + 1, fpa, by go_num, by omega, HF.out⟩
        case measure => simp [intOf]; omega
      · obtain rfl : i = L.length := by omega
        have hfl : Hid ((L.take L.length).flatten = arcT T) := by unfold Hid; rw [List.take_length]; exact H7.out.2.1
        have HP : Hid (PW wr g (g + 1) (arcS false T) fp ∧ Wrote wr gs (NB.ba (arcT T)) ∧ KT wr ∧ (∀ x ∈ fp, w7.heap.size ≤ x) ∧ w7.heap.size ≤ wr.heap.size ∧ Below g w7 wr) := by
          obtain ⟨h1, h2, h3, h4, h5, _, h7⟩ := HL.out
          rw [hfl.out] at h1 h2
          rw [prs_arcT HH.out.2.1 HH.out.2.2 HCK.out.1] at h1
          exact ⟨h1, h2, h3, h4, h5, h7 g (Nat.le_refl _)⟩
        have HLN : Hid (lnT T) := (ans_arcT HH.out.2.1 HH.out.2.2 HCK.out.1).2.2
        clear HL hfl hlt hi
        have CC := close_any g (g + 1) (arcS false T) fp wr HP.out.1 HLN.out
        unfold ClP at CC
        rw [show (arcS false T).ansT = T from (fin_whole (p := arcS false T) rfl rfl).1, show (arcS false T).ansF = (0, 0) from (fin_whole (p := arcS false T) rfl rfl).2] at CC
        dsimp only at CC
        go_wp2_with fail
        refine CC.mono ?_
        rintro e9 w9 ⟨⟨v9, fr9, rfl, hT9, _⟩, fp9, P9, F9, S9⟩
        clear CC
        obtain ⟨xx, nn, cc, rfl⟩ : ∃ x n c, v9 = .slice x n c := by obtain ⟨x, c, h⟩ := hT9.shape; exact ⟨x, _, c, h⟩
        have hb9 : Below g w7 w9 := HP.out.2.2.2.2.2.trans (F9.below (by have h1 := HP.out.2.2.2.2.1; have h2 := H67.out; omega) (Nat.le_refl _) (fun z hz => by have h1 := HP.out.2.2.2.1 z hz; have h2 := H67.out; omega))
        have hkeep : ∀ b, b ≠ g → b < w7.heap.size → w9.heap[b]? = wr.heap[b]? := fun b hb hlt => F9.keep b (by have := HP.out.2.2.2.2.1; omega) hb (fun hm => by have := HP.out.2.2.2.1 b hm; omega)
        have HQ9 : Hid (PW w9 g (g + 1) (arcS false T).fin fp9 ∧ Wrote w9 gs (NB.ba (arcT T)) ∧ KT w9 ∧ Below g w4 w9) := by
          have h67 := H67.out
          refine ⟨P9, HP.out.2.1.same (hkeep gs (by omega) (by omega)), fun j hj => ?_, h67.2.2.2.trans hb9⟩
          have h0 := HP.out.2.2.1 j hj
          have hg0 : (0 : Nat) ≠ g := by have := Hg.out.2; omega
          rw [← h0]
          exact World.cell?_of_block (w := wr) (w' := w9) (a := ⟨0, j, none⟩) (hkeep 0 (by omega) (by omega))
        have hgs9 : gs < w9.heap.size := HQ9.out.2.1.lt
        obtain ⟨s9, t9, b10⟩ := two_blkW w9 T (.slice xx nn cc) 0 0
        obtain ⟨M, hM⟩ := TrV.at T _ fr9 (TrV.same _ _ _ hT9 (fun b hb => b10.block b (TrV.lt _ _ _ hT9 b hb).2)) HLN.out
        clear HP F9 P9 S9 hkeep hb9
        have HB10 : Hid (Below w9.heap.size w9 ((w9.alloc (.cells #[.int .i64 T.k, .bool T.e, .string T.t, .slice xx nn cc] 25)).alloc (.cells #[.int .i64 0, .int .i64 0] 42))) := b10
        have HS10 : Hid (St ((w9.alloc (.cells #[.int .i64 T.k, .bool T.e, .string T.t, .slice xx nn cc] 25)).alloc (.cells #[.int .i64 0, .int .i64 0] 42)) w9.heap.size [.int .i64 T.k, .bool T.e, .string T.t, .slice xx nn cc] ∧ St ((w9.alloc (.cells #[.int .i64 T.k, .bool T.e, .string T.t, .slice xx nn cc] 25)).alloc (.cells #[.int .i64 0, .int .i64 0] 42)) (w9.heap.size + 1) [.int .i64 0, .int .i64 0]) := ⟨s9, t9⟩
        have HM10 : Hid (At ((w9.alloc (.cells #[.int .i64 T.k, .bool T.e, .string T.t, .slice xx nn cc] 25)).alloc (.cells #[.int .i64 0, .int .i64 0] 42)) M (.agg #[.int .i64 T.k, .bool T.e, .string T.t, .slice xx nn cc]) T) := hM
        clear b10 s9 t9 hM hT9
        go_upto_region 18 with fail
        obtain ⟨D, hD⟩ : ∃ D, w9.heap.size = D := ⟨_, rfl⟩
        have HD : Hid (w9.heap.size = D ∧ gs < D) := ⟨hD, by rw [← hD]; exact hgs9⟩
        rw [hD] at HB10 HS10 ⊢
        clear hD hgs9
        generalize (w9.alloc (Obj.cells #[Value.int IntKind.i64 T.k, Value.bool T.e, Value.string T.t, Value.slice xx nn cc] 25)).alloc (Obj.cells #[Value.int IntKind.i64 0, Value.int IntKind.i64 0] 42) = w10 at *
        have HB4 : Hid (Below g w4 w10) := HQ9.out.2.2.2.trans (HB10.out.mono (by have := HD.out; have := H67.out; omega))
        have HQ10 : Hid (PW w10 g (g + 1) (arcS false T).fin fp9 ∧ Wrote w10 gs (NB.ba (arcT T)) ∧ KT w10) := by
          have hb : Below w9.heap.size w9 w10 := by rw [HD.out.1]; exact HB10.out
          exact ⟨HQ9.out.1.below hb, HQ9.out.2.1.below hb HQ9.out.2.1.lt, HQ9.out.2.2.1.below hb⟩
        have HG10 : Hid (w10.heap[G]? = some (.cells #[Value.int IntKind.i64 k, Value.bool e, Value.string t, Value.slice x n c] 25 (0, 0))) := (HB4.out.block _ Hg.out.2).trans HG4.out.1
        have HA10 : Hid (At w10 m (.agg #[Value.int IntKind.i64 k, Value.bool e, Value.string t, Value.slice x n c]) T) := HA1.out.1.below (HG4.out.2.trans (HB4.out.mono (by rw [← Hg.out.1]; exact HG4.out.2.size)))
        have HBw : Hid (Below w.heap.size w w10) := by
          rw [HGe.out]
          exact HW1.out.1.trans ((HG4.out.2.mono (Nat.le_of_lt HW1.out.2)).trans (HB4.out.mono (Nat.le_of_lt Hg.out.2)))
        clear HQ9 HB10
        obtain ⟨u0, u1, u2, u3, _⟩ := cell4n HG10.out
        have CS := lsum_any m k e t x n c T w10 HA10.out HH.out.2.1 HH.out.2.2 HCK.out.1 HQ10.out.2.2
        go_wp2_with fail
        refine CS.mono ?_
        rintro e11 w11 ⟨rfl, b11⟩
        clear CS u0 u1 u2 u3
        have HQ11 : Hid (PW w11 g (g + 1) (arcS false T).fin fp9 ∧ Wrote w11 gs (NB.ba (arcT T)) ∧ KT w11) := ⟨HQ10.out.1.below b11, HQ10.out.2.1.below b11 HQ10.out.2.1.lt, HQ10.out.2.2.below b11⟩
        have HG11 : Hid (w11.heap[G]? = some (.cells #[Value.int IntKind.i64 k, Value.bool e, Value.string t, Value.slice x n c] 25 (0, 0))) := (b11.block _ (heap_lt HG10.out)).trans HG10.out
        have HA11 : Hid (At w11 m (.agg #[Value.int IntKind.i64 k, Value.bool e, Value.string t, Value.slice x n c]) T ∧ At w11 M (.agg #[.int .i64 T.k, .bool T.e, .string T.t, .slice xx nn cc]) T) := ⟨HA10.out.below b11, HM10.out.below b11⟩
        have HS11 : Hid (St w11 D [.int .i64 T.k, .bool T.e, .string T.t, .slice xx nn cc] ∧ St w11 (D + 1) [.int .i64 0, .int .i64 0]) := ⟨HS10.out.1.same b11.size (b11.block _ HS10.out.1.lt), HS10.out.2.same b11.size (b11.block _ HS10.out.2.lt)⟩
        have HB11 : Hid (Below w.heap.size w w11) := HBw.out.trans (b11.mono HBw.out.size)
        clear b11 HQ10 HG10 HA10 HM10 HS10 HBw HB4
        have R0 : Row .u8 (w11.alloc (.cells (Array.replicate 32 (.int .u8 0)) 46)) w11.heap.size 32 (fun _ => 0) := Row.rep rfl
        have HB12 : Hid (Below w11.heap.size w11 (w11.alloc (.cells (Array.replicate 32 (.int .u8 0)) 46))) := (Below.refl _ _).alloc (Nat.le_refl _) _
        go_wp2_with (refine wpList_store_any (by rfl) 46 (.tmp 15) (.tmp 84) (by rfl) w11.heap.size (by rfl) (by rfl) R0 szDIGw (by rfl) ?_; intro W5 R5 U5)
        have hE5 : Below w11.heap.size w11 W5 := U5.below HB12.out (Nat.le_refl _) (by rw [World.size_alloc]; omega)
        have hfin : (arcS false T).fin = (arcS false T).shut := by unfold PS.fin; rw [if_neg (fun h => h.2 rfl)]
        have hP5 := HQ11.out.1.below hE5
        rw [hfin] at hP5
        obtain ⟨tv, ov, rv, cs', fo, fr, hpv, _⟩ := hP5
        have hp6 : W5.cell? ⟨g, 6, none⟩ = some (.int .i64 17) := hpv.st.get 6 _ rfl
        have hp1 : W5.cell? ⟨g, 1, none⟩ = some (.int .i64 0) := hpv.st.get 1 _ rfl
        have hS1 := HS11.out.1.same hE5.size (hE5.block _ HS11.out.1.lt)
        have hS2 := HS11.out.2.same hE5.size (hE5.block _ HS11.out.2.lt)
        obtain ⟨u0, u1, u2, u3, _⟩ := cell4n ((hE5.block _ (heap_lt HG11.out)).trans HG11.out)
        obtain ⟨E, hE⟩ : ∃ E, w11.heap.size = E := ⟨_, rfl⟩
        have hW5 : WaR g gs G D E m M T k e t x n c xx nn cc w W5 := ⟨hS2.get 0 _ rfl, hS2.get 1 _ rfl, hS1.get 0 _ rfl, hS1.get 1 _ rfl, hS1.get 2 _ rfl, hS1.get 3 _ rfl, u0, u1, u2, u3, by rw [← hE]; exact R5, HQ11.out.2.1.below hE5 HQ11.out.2.1.lt, HQ11.out.2.2.below hE5, hp6, hp1, HA11.out.2.below hE5, HA11.out.1.below hE5, HB11.out.trans (hE5.mono HB11.out.size)⟩
        rw [hE] at *
        have hgs0 : 0 < gs := by have h1 := HK.out.2; have h2 := Hg.out.2; have h3 := H67.out.1; omega
        have hsz := HCK.out.2
        clear hE hE5 hfin hpv hp6 hp1 hS1 hS2 u0 u1 u2 u3 R5 U5 R0 HB12 HQ11 HG11 HA11 HS11 HB11
        have CE : Hid (∀ W, WaR g gs G D E m M T k e t x n c xx nn cc w W → Calls Tryd.prog 15 #[.agg #[.int .i64 T.k, .bool T.e, .string T.t, .slice xx nn cc], .agg #[Value.int IntKind.i64 k, Value.bool e, Value.string t, Value.slice x n c]] W fun en w' => en = .returned (.bool true) ∧ Below W.heap.size W w') := fun W h =>
          (topeq_any (max M m) _ _ T T W (h.a1.upto (Nat.le_max_left _ _)) (h.a2.upto (Nat.le_max_right _ _))).mono fun en w' q => by
            obtain ⟨⟨r, hr, hi⟩, b⟩ := q
            exact ⟨by rw [hr, hi.2 rfl], b⟩
        have CM : Hid (∀ W, WaR g gs G D E m M T k e t x n c xx nn cc w W → Calls Tryd.prog 16 #[.pointer (some ⟨gs, 0, none⟩)] W fun en w' => en = .returned (.agg (cs .u8 32 (dgW T))) ∧ Below W.heap.size W w') := fun W h =>
          sum_wrote gs (NB.ba (arcT T)) W h.wr (by rw [hsz]; omega) h.kt hgs0
        have CW : Hid (∀ W, WaR g gs G D E m M T k e t x n c xx nn cc w W → Calls Tryd.prog 17 #[.pointer (some ⟨g, 0, none⟩)] W fun en w' => en = .returned (.bool true) ∧ w' = W) := fun W h => whole_any g 17 W h.p6
        have CH : Hid (∀ W, WaR g gs G D E m M T k e t x n c xx nn cc w W → Calls Tryd.prog 18 #[.pointer (some ⟨g, 0, none⟩)] W fun en w' => en = .returned (.int .i64 0) ∧ w' = W) := fun W h => held_any g 0 W h.p1
        have heq : ∀ w, (Op.equalIn 10000 46 (.agg (cs .u8 32 (dgW T))) (.agg (cs .u8 32 (dgW T)))).run Tryd.prog w = .ok true w := fun w => run_equalIn_same w 9998 46 5 .u8 .u8 32 _ undDIGw (by kernel_rfl) (by kernel_rfl) (by kernel_rfl)
        have hsq : ((NB.ba (arcT T)).size == (NB.ba (arcT T)).size) = true := by simp
        clear hsz hal
        refine wp_region_held_drew (S := WaR g gs G D E m M T k e t x n c xx nn cc w) (by kernel_rfl) (hW5.next (Below.refl _ _).drew) (fun hH => ?_)
        clear hW5
        -- @R
        refine wpAnyH_take (i := 0) (oi := { dst := some 87, op := Op.load 42 (Operand.tmp 14), type := 42, pos := "top04.go:41", after := #[], guard := none }) (v := .agg #[.int .i64 0, .int .i64 0]) rfl (by kernel_rfl) (by kernel_rfl) (by kernel_rfl) (fun _ _ _ h => h) (Or.inl ⟨by rfl, by intro w' s'; have q0 := s'.f0; have q1 := s'.f1; go_simp⟩) hH ?_
        simp only [Act.put, List.setIfInBounds_toArray, List.set_cons_zero, List.set_cons_succ]
        refine wpAnyH_take (i := 1) (oi := { dst := some 88, op := Op.build 42 #[], type := 42, pos := "top04.go:41", after := #[], guard := none }) (v := .agg #[.int .i64 0, .int .i64 0]) rfl (by kernel_rfl) (by kernel_rfl) (by kernel_rfl) (fun _ _ _ h => h) (Or.inl ⟨by rfl, by intro w _; go_simp⟩) hH ?_
        simp only [Act.put, List.setIfInBounds_toArray, List.set_cons_zero, List.set_cons_succ]
        refine wpAnyH_take (i := 2) (oi := { dst := some 89, op := Op.binOp BinOp.eql 42 (Operand.tmp 87) (Operand.tmp 88) 42, type := 4, pos := "top04.go:41", after := #[{ on := 0, ground := Ground.data }, { on := 1, ground := Ground.data }], guard := none }) (v := .bool true) rfl (by kernel_rfl) (by kernel_rfl) (by kernel_rfl) (fun _ _ _ h => h) (Or.inl ⟨by rfl, by intro w _; go_simp⟩) hH ?_
        simp only [Act.put, List.setIfInBounds_toArray, List.set_cons_zero, List.set_cons_succ]
        refine wpAnyH_take (i := 3) (oi := { dst := some 90, op := Op.move (Operand.tmp 89), type := 4, pos := "top04.go:41", after := #[{ on := 2, ground := Ground.data }], guard := none }) (v := .bool true) rfl (by kernel_rfl) (by kernel_rfl) (by kernel_rfl) (fun _ _ _ h => h) (Or.inl ⟨by rfl, by intro w _; go_simp⟩) hH ?_
        simp only [Act.put, List.setIfInBounds_toArray, List.set_cons_zero, List.set_cons_succ]
        refine wpAnyH_take (i := 4) (oi := { dst := some 91, op := Op.load 25 (Operand.tmp 13), type := 25, pos := "top04.go:41", after := #[{ on := 3, ground := Ground.guard }], guard := some (3, true) }) (v := .agg #[.int .i64 T.k, .bool T.e, .string T.t, .slice xx nn cc]) rfl (by kernel_rfl) (by kernel_rfl) (by kernel_rfl) (fun _ _ _ h => h) (Or.inl ⟨by rfl, by intro w' s'; have q0 := s'.n0; have q1 := s'.n1; have q2 := s'.n2; have q3 := s'.n3; go_simp⟩) hH ?_
        simp only [Act.put, List.setIfInBounds_toArray, List.set_cons_zero, List.set_cons_succ]
        refine wpAnyH_take (i := 5) (oi := { dst := some 92, op := Op.load 25 (Operand.tmp 2), type := 25, pos := "top04.go:41", after := #[{ on := 3, ground := Ground.guard }], guard := some (3, true) }) (v := .agg #[Value.int IntKind.i64 k, Value.bool e, Value.string t, Value.slice x n c]) rfl (by kernel_rfl) (by kernel_rfl) (by kernel_rfl) (fun _ _ _ h => h) (Or.inl ⟨by rfl, by intro w' s'; have q0 := s'.b0; have q1 := s'.b1; have q2 := s'.b2; have q3 := s'.b3; go_simp⟩) hH ?_
        simp only [Act.put, List.setIfInBounds_toArray, List.set_cons_zero, List.set_cons_succ]
        refine wpAnyH_ready (rs := [6]) (by kernel_rfl) (by decide) (AllReadyH.cons rfl (fun K hK => ?_) AllReadyH.nil)
        rw [if_pos (by rfl)]
        go_simp
        refine (CE.out _ hH).mono ?_
        rintro e v1 ⟨rfl, c1⟩
        go_wp2_with fail
        have hH1 := hH.next c1
        refine hK.out _ _ hH1 (fun _ => ?_)
        clear hK K
        try simp only [Act.put, List.setIfInBounds_toArray, List.set_cons_zero, List.set_cons_succ]
        refine wpAnyH_take (i := 7) (oi := { dst := some 94, op := Op.pick (Operand.tmp 90) (Operand.tmp 93) (Operand.const (Value.bool false)), type := 4, pos := "top04.go:41", after := #[{ on := 3, ground := Ground.data }, { on := 6, ground := Ground.data }], guard := none }) (v := .bool true) rfl (by kernel_rfl) (by kernel_rfl) (by kernel_rfl) (fun _ _ _ h => h) (Or.inl ⟨by rfl, by intro w _; go_simp⟩) hH1 ?_
        simp only [Act.put, List.setIfInBounds_toArray, List.set_cons_zero, List.set_cons_succ]
        refine wpAnyH_take (i := 8) (oi := { dst := some 95, op := Op.move (Operand.tmp 94), type := 4, pos := "top04.go:41", after := #[{ on := 7, ground := Ground.data }, { on := 6, ground := Ground.chain }], guard := none }) (v := .bool true) rfl (by kernel_rfl) (by kernel_rfl) (by kernel_rfl) (fun _ _ _ h => h) (Or.inl ⟨by rfl, by intro w _; go_simp⟩) hH1 ?_
        simp only [Act.put, List.setIfInBounds_toArray, List.set_cons_zero, List.set_cons_succ]
        refine wpAnyH_take (i := 9) (oi := { dst := some 96, op := Op.move (Operand.tmp 17), type := 28, pos := "top04.go:41", after := #[{ on := 8, ground := Ground.guard }], guard := some (8, true) }) (v := .int .i64 0) rfl (by kernel_rfl) (by kernel_rfl) (by kernel_rfl) (fun _ _ _ h => h) (Or.inl ⟨by rfl, by intro w _; go_simp⟩) hH1 ?_
        simp only [Act.put, List.setIfInBounds_toArray, List.set_cons_zero, List.set_cons_succ]
        refine wpAnyH_take (i := 10) (oi := { dst := some 97, op := Op.binOp BinOp.eql 28 (Operand.tmp 96) (Operand.const (Value.int IntKind.i64 0)) 28, type := 4, pos := "top04.go:41", after := #[{ on := 9, ground := Ground.data }, { on := 8, ground := Ground.guard }], guard := some (8, true) }) (v := .bool true) rfl (by kernel_rfl) (by kernel_rfl) (by kernel_rfl) (fun _ _ _ h => h) (Or.inl ⟨by rfl, by intro w _; go_simp⟩) hH1 ?_
        simp only [Act.put, List.setIfInBounds_toArray, List.set_cons_zero, List.set_cons_succ]
        refine wpAnyH_take (i := 11) (oi := { dst := some 98, op := Op.pick (Operand.tmp 95) (Operand.tmp 97) (Operand.const (Value.bool false)), type := 4, pos := "top04.go:41", after := #[{ on := 8, ground := Ground.data }, { on := 10, ground := Ground.data }], guard := none }) (v := .bool true) rfl (by kernel_rfl) (by kernel_rfl) (by kernel_rfl) (fun _ _ _ h => h) (Or.inl ⟨by rfl, by intro w _; go_simp⟩) hH1 ?_
        simp only [Act.put, List.setIfInBounds_toArray, List.set_cons_zero, List.set_cons_succ]
        refine wpAnyH_take (i := 12) (oi := { dst := some 99, op := Op.move (Operand.tmp 98), type := 4, pos := "top04.go:41", after := #[{ on := 11, ground := Ground.data }, { on := 8, ground := Ground.chain }], guard := none }) (v := .bool true) rfl (by kernel_rfl) (by kernel_rfl) (by kernel_rfl) (fun _ _ _ h => h) (Or.inl ⟨by rfl, by intro w _; go_simp⟩) hH1 ?_
        simp only [Act.put, List.setIfInBounds_toArray, List.set_cons_zero, List.set_cons_succ]
        refine wpAnyH_take (i := 13) (oi := { dst := some 100, op := Op.load 46 (Operand.tmp 15), type := 46, pos := "top04.go:41", after := #[{ on := 12, ground := Ground.guard }], guard := some (12, true) }) rfl (by kernel_rfl) (by kernel_rfl) (by kernel_rfl) (fun _ _ _ h => h) (yieldsIf_arrW (by rfl) 46 (.tmp 15) rfl E rfl (fun w' s => s.dg) undDIGw szDIGw) hH1 ?_
        simp only [Act.put, List.setIfInBounds_toArray, List.set_cons_zero, List.set_cons_succ]
        refine wpAnyH_take (i := 14) (oi := { dst := some 101, op := Op.move (Operand.tmp 10), type := 33, pos := "top04.go:41", after := #[{ on := 12, ground := Ground.guard }], guard := some (12, true) }) (v := .pointer (some ⟨gs, 0, none⟩)) rfl (by kernel_rfl) (by kernel_rfl) (by kernel_rfl) (fun _ _ _ h => h) (Or.inl ⟨by rfl, by intro w _; go_simp⟩) hH1 ?_
        simp only [Act.put, List.setIfInBounds_toArray, List.set_cons_zero, List.set_cons_succ]
        refine wpAnyH_ready (rs := [15]) (by kernel_rfl) (by decide) (AllReadyH.cons rfl (fun K hK => ?_) AllReadyH.nil)
        rw [if_pos (by rfl)]
        go_simp
        refine (CM.out _ hH1).mono ?_
        rintro e v2 ⟨rfl, c2⟩
        go_wp2_with fail
        have hH2 := hH1.next c2
        refine hK.out _ _ hH2 (fun _ => ?_)
        clear hK K
        try simp only [Act.put, List.setIfInBounds_toArray, List.set_cons_zero, List.set_cons_succ]
        refine wpAnyH_take (i := 16) (oi := { dst := some 103, op := Op.binOp BinOp.eql 46 (Operand.tmp 100) (Operand.tmp 102) 46, type := 4, pos := "top04.go:41", after := #[{ on := 13, ground := Ground.data }, { on := 15, ground := Ground.data }, { on := 12, ground := Ground.guard }], guard := some (12, true) }) (v := .bool true) rfl (by kernel_rfl) (by kernel_rfl) (by kernel_rfl) (fun _ _ _ h => h) (Or.inl ⟨by rfl, by intro w _; go_simp⟩) hH2 ?_
        simp only [Act.put, List.setIfInBounds_toArray, List.set_cons_zero, List.set_cons_succ]
        refine wpAnyH_take (i := 17) (oi := { dst := some 104, op := Op.pick (Operand.tmp 99) (Operand.tmp 103) (Operand.const (Value.bool false)), type := 4, pos := "top04.go:41", after := #[{ on := 12, ground := Ground.data }, { on := 16, ground := Ground.data }], guard := none }) (v := .bool true) rfl (by kernel_rfl) (by kernel_rfl) (by kernel_rfl) (fun _ _ _ h => h) (Or.inl ⟨by rfl, by intro w _; go_simp⟩) hH2 ?_
        simp only [Act.put, List.setIfInBounds_toArray, List.set_cons_zero, List.set_cons_succ]
        refine wpAnyH_take (i := 18) (oi := { dst := some 105, op := Op.move (Operand.tmp 104), type := 4, pos := "top04.go:41", after := #[{ on := 17, ground := Ground.data }, { on := 15, ground := Ground.chain }], guard := none }) (v := .bool true) rfl (by kernel_rfl) (by kernel_rfl) (by kernel_rfl) (fun _ _ _ h => h) (Or.inl ⟨by rfl, by intro w _; go_simp⟩) hH2 ?_
        simp only [Act.put, List.setIfInBounds_toArray, List.set_cons_zero, List.set_cons_succ]
        refine wpAnyH_take (i := 19) (oi := { dst := some 106, op := Op.move (Operand.tmp 16), type := 3, pos := "top04.go:41", after := #[{ on := 18, ground := Ground.guard }], guard := some (18, true) }) (v := .int .i64 ((NB.ba (arcT T)).size : Int)) rfl (by kernel_rfl) (by kernel_rfl) (by kernel_rfl) (fun _ _ _ h => h) (Or.inl ⟨by rfl, by intro w _; go_simp⟩) hH2 ?_
        simp only [Act.put, List.setIfInBounds_toArray, List.set_cons_zero, List.set_cons_succ]
        refine wpAnyH_take (i := 20) (oi := { dst := some 107, op := Op.move (Operand.tmp 5), type := 9, pos := "top04.go:41", after := #[{ on := 18, ground := Ground.guard }], guard := some (18, true) }) (v := .string (NB.ba (arcT T))) rfl (by kernel_rfl) (by kernel_rfl) (by kernel_rfl) (fun _ _ _ h => h) (Or.inl ⟨by rfl, by intro w _; go_simp⟩) hH2 ?_
        simp only [Act.put, List.setIfInBounds_toArray, List.set_cons_zero, List.set_cons_succ]
        refine wpAnyH_take (i := 21) (oi := { dst := some 108, op := Op.call { callee := Callee.builtin Builtin.len, args := #[Operand.tmp 107], argTypes := #[9] }, type := 3, pos := "top04.go:41", after := #[{ on := 20, ground := Ground.data }, { on := 18, ground := Ground.guard }], guard := some (18, true) }) (v := .int .i64 ((NB.ba (arcT T)).size : Int)) rfl (by kernel_rfl) (by kernel_rfl) (by kernel_rfl) (fun _ _ _ h => h) (Or.inl ⟨by rfl, by intro w _; go_simp⟩) hH2 ?_
        simp only [Act.put, List.setIfInBounds_toArray, List.set_cons_zero, List.set_cons_succ]
        refine wpAnyH_take (i := 22) (oi := { dst := some 109, op := Op.binOp BinOp.eql 3 (Operand.tmp 106) (Operand.tmp 108) 3, type := 4, pos := "top04.go:41", after := #[{ on := 19, ground := Ground.data }, { on := 21, ground := Ground.data }, { on := 18, ground := Ground.guard }], guard := some (18, true) }) (v := .bool true) rfl (by kernel_rfl) (by kernel_rfl) (by kernel_rfl) (fun _ _ _ h => h) (Or.inl ⟨by rfl, by intro w _; go_simp⟩) hH2 ?_
        simp only [Act.put, List.setIfInBounds_toArray, List.set_cons_zero, List.set_cons_succ]
        refine wpAnyH_take (i := 23) (oi := { dst := some 110, op := Op.pick (Operand.tmp 105) (Operand.tmp 109) (Operand.const (Value.bool false)), type := 4, pos := "top04.go:41", after := #[{ on := 18, ground := Ground.data }, { on := 22, ground := Ground.data }], guard := none }) (v := .bool true) rfl (by kernel_rfl) (by kernel_rfl) (by kernel_rfl) (fun _ _ _ h => h) (Or.inl ⟨by rfl, by intro w _; go_simp⟩) hH2 ?_
        simp only [Act.put, List.setIfInBounds_toArray, List.set_cons_zero, List.set_cons_succ]
        refine wpAnyH_take (i := 24) (oi := { dst := some 111, op := Op.move (Operand.tmp 110), type := 4, pos := "top04.go:41", after := #[{ on := 23, ground := Ground.data }, { on := 18, ground := Ground.chain }], guard := none }) (v := .bool true) rfl (by kernel_rfl) (by kernel_rfl) (by kernel_rfl) (fun _ _ _ h => h) (Or.inl ⟨by rfl, by intro w _; go_simp⟩) hH2 ?_
        simp only [Act.put, List.setIfInBounds_toArray, List.set_cons_zero, List.set_cons_succ]
        refine wpAnyH_take (i := 25) (oi := { dst := some 112, op := Op.move (Operand.tmp 9), type := 31, pos := "top04.go:41", after := #[{ on := 24, ground := Ground.guard }], guard := some (24, true) }) (v := .pointer (some ⟨g, 0, none⟩)) rfl (by kernel_rfl) (by kernel_rfl) (by kernel_rfl) (fun _ _ _ h => h) (Or.inl ⟨by rfl, by intro w _; go_simp⟩) hH2 ?_
        simp only [Act.put, List.setIfInBounds_toArray, List.set_cons_zero, List.set_cons_succ]
        refine wpAnyH_ready (rs := [26]) (by kernel_rfl) (by decide) (AllReadyH.cons rfl (fun K hK => ?_) AllReadyH.nil)
        rw [if_pos (by rfl)]
        go_simp
        refine (CW.out _ hH2).mono ?_
        rintro e v3 ⟨rfl, rfl⟩
        go_wp2_with fail
        refine hK.out _ _ hH2 (fun _ => ?_)
        clear hK K
        try simp only [Act.put, List.setIfInBounds_toArray, List.set_cons_zero, List.set_cons_succ]
        refine wpAnyH_take (i := 27) (oi := { dst := some 114, op := Op.pick (Operand.tmp 111) (Operand.tmp 113) (Operand.const (Value.bool false)), type := 4, pos := "top04.go:41", after := #[{ on := 24, ground := Ground.data }, { on := 26, ground := Ground.data }], guard := none }) (v := .bool true) rfl (by kernel_rfl) (by kernel_rfl) (by kernel_rfl) (fun _ _ _ h => h) (Or.inl ⟨by rfl, by intro w _; go_simp⟩) hH2 ?_
        simp only [Act.put, List.setIfInBounds_toArray, List.set_cons_zero, List.set_cons_succ]
        refine wpAnyH_take (i := 28) (oi := { dst := some 115, op := Op.move (Operand.tmp 114), type := 4, pos := "top04.go:41", after := #[{ on := 27, ground := Ground.data }, { on := 26, ground := Ground.chain }], guard := none }) (v := .bool true) rfl (by kernel_rfl) (by kernel_rfl) (by kernel_rfl) (fun _ _ _ h => h) (Or.inl ⟨by rfl, by intro w _; go_simp⟩) hH2 ?_
        simp only [Act.put, List.setIfInBounds_toArray, List.set_cons_zero, List.set_cons_succ]
        refine wpAnyH_take (i := 29) (oi := { dst := some 116, op := Op.move (Operand.tmp 9), type := 31, pos := "top04.go:41", after := #[{ on := 28, ground := Ground.guard }], guard := some (28, true) }) (v := .pointer (some ⟨g, 0, none⟩)) rfl (by kernel_rfl) (by kernel_rfl) (by kernel_rfl) (fun _ _ _ h => h) (Or.inl ⟨by rfl, by intro w _; go_simp⟩) hH2 ?_
        simp only [Act.put, List.setIfInBounds_toArray, List.set_cons_zero, List.set_cons_succ]
        refine wpAnyH_take (i := 30) (oi := { dst := some 117, op := Op.nilCheck (Operand.tmp 116), type := 0, pos := "top04.go:41", after := #[{ on := 29, ground := Ground.data }, { on := 28, ground := Ground.guard }], guard := some (28, true) }) (v := .pointer (some ⟨g, 0, none⟩)) rfl (by kernel_rfl) (by kernel_rfl) (by kernel_rfl) (fun _ _ _ h => h) (Or.inl ⟨by rfl, by intro w _; go_simp⟩) hH2 ?_
        simp only [Act.put, List.setIfInBounds_toArray, List.set_cons_zero, List.set_cons_succ]
        refine wpAnyH_take (i := 31) (oi := { dst := some 118, op := Op.fieldAddr 57 (Operand.tmp 117) 0, type := 0, pos := "top04.go:41", after := #[{ on := 30, ground := Ground.data }, { on := 28, ground := Ground.guard }], guard := some (28, true) }) (v := .pointer (some ⟨g, 0, none⟩)) rfl (by kernel_rfl) (by kernel_rfl) (by kernel_rfl) (fun _ _ _ h => h) (Or.inl ⟨by rfl, by intro w _; go_simp⟩) hH2 ?_
        simp only [Act.put, List.setIfInBounds_toArray, List.set_cons_zero, List.set_cons_succ]
        refine wpAnyH_ready (rs := [32]) (by kernel_rfl) (by decide) (AllReadyH.cons rfl (fun K hK => ?_) AllReadyH.nil)
        rw [if_pos (by rfl)]
        go_simp
        refine (CH.out _ hH2).mono ?_
        rintro e v4 ⟨rfl, rfl⟩
        go_wp2_with fail
        refine hK.out _ _ hH2 (fun _ => ?_)
        clear hK K
        try simp only [Act.put, List.setIfInBounds_toArray, List.set_cons_zero, List.set_cons_succ]
        refine wpAnyH_take (i := 33) (oi := { dst := some 120, op := Op.binOp BinOp.eql 3 (Operand.tmp 119) (Operand.const (Value.int IntKind.i64 0)) 3, type := 4, pos := "top04.go:41", after := #[{ on := 32, ground := Ground.data }, { on := 28, ground := Ground.guard }], guard := some (28, true) }) (v := .bool true) rfl (by kernel_rfl) (by kernel_rfl) (by kernel_rfl) (fun _ _ _ h => h) (Or.inl ⟨by rfl, by intro w _; go_simp⟩) hH2 ?_
        simp only [Act.put, List.setIfInBounds_toArray, List.set_cons_zero, List.set_cons_succ]
        refine wpAnyH_take (i := 34) (oi := { dst := some 121, op := Op.pick (Operand.tmp 115) (Operand.tmp 120) (Operand.const (Value.bool false)), type := 4, pos := "top04.go:41", after := #[{ on := 28, ground := Ground.data }, { on := 33, ground := Ground.data }], guard := none }) (v := .bool true) rfl (by kernel_rfl) (by kernel_rfl) (by kernel_rfl) (fun _ _ _ h => h) (Or.inl ⟨by rfl, by intro w _; go_simp⟩) hH2 ?_
        simp only [Act.put, List.setIfInBounds_toArray, List.set_cons_zero, List.set_cons_succ]
        refine wpAnyH_ready (rs := [35]) (by kernel_rfl) (by decide) (AllReadyH.cons rfl (fun K hK => ?_) AllReadyH.nil)
        rw [if_pos (by rfl)]
        go_simp
        refine hK.out _ _ hH2 (fun _ => ?_)
        clear hK K
        try simp only [Act.put, List.setIfInBounds_toArray, List.set_cons_zero, List.set_cons_succ]
        -- @E
        refine wpAnyH_done (by kernel_rfl) ?_ _
        go_wp2
        go_ret
        exact ⟨rfl, hH2.be⟩
  · have hser : X = ⟨#[]⟩ := by
      have h := HR.out
      unfold serT at h
      rw [if_pos (by rw [← HCC.out]; exact hc)] at h
      injection h with h1 h2
      exact h1.symm
    subst hser
    have hb : (C != 0) = true := by simp [hc]
    have hb2 : (C != C) = false := by simp
    clear HR
    go_wp2
    go_ret
    exact ⟨rfl, by rw [HGe.out]; exact HW1.out.1.trans (HG4.out.2.mono (Nat.le_of_lt HW1.out.2))⟩
end Go.Proofs.YtcmdeiohnkbjlaaDoor
