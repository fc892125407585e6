/- The law WholeBytes, walked (own text of the verifier). -/
import Derived.Test.YtbmiihjleghanaaXW
namespace Go.Proofs.Ytbmiihjleghanaa
open Go.RowKit

theorem prs_app (a b : List UInt8) : prs (a ++ b) = (prs a).feed b := by
  rw [prs_run, prs_run]
  exact run_app a b (PS.new false) rfl rfl
/-- Two blocks with a node and a fault. -/
theorem two_blkW (w : World) (T : Tr) (v : Value) (F1 F2 : Int) : St ((w.alloc (.cells #[.int .i64 T.k, .bool T.e, .string T.t, v] 26)).alloc (.cells #[.int .i64 F1, .int .i64 F2] 30)) w.heap.size [.int .i64 T.k, .bool T.e, .string T.t, v] ∧ St ((w.alloc (.cells #[.int .i64 T.k, .bool T.e, .string T.t, v] 26)).alloc (.cells #[.int .i64 F1, .int .i64 F2] 30)) (w.heap.size + 1) [.int .i64 F1, .int .i64 F2] ∧ Below w.heap.size w ((w.alloc (.cells #[.int .i64 T.k, .bool T.e, .string T.t, v] 26)).alloc (.cells #[.int .i64 F1, .int .i64 F2] 30)) := by
  refine ⟨(St.new w _ _).same (by simp only [World.size_alloc]; omega) (Below.heap_alloc _ _ _ (by rw [World.size_alloc]; omega)), ?_, ((Below.refl _ _).alloc (Nat.le_refl _) _).alloc (by rw [World.size_alloc]; omega) _⟩
  have := St.new (w.alloc (.cells #[.int .i64 T.k, .bool T.e, .string T.t, v] 26)) #[.int .i64 F1, .int .i64 F2] 30
  rw [World.size_alloc] at this
  exact this
theorem at_zero (w : World) : At w 1 (.agg #[.int .i64 0, .bool false, .string ⟨#[]⟩, .slice none 0 0]) (.mk 0 false ⟨#[]⟩ [] []) := ⟨none, 0, 0, rfl, rfl, rfl, Nat.le_refl _, by decide, Or.inl rfl⟩
theorem ln_zero : lnT (.mk 0 false ⟨#[]⟩ [] []) := by rw [lnT]; exact ⟨by decide, by rw [lnL]; trivial⟩

theorem len_flat : ∀ (L : List (List UInt8)) (i : Nat) (s : List UInt8), L[i]? = some s → s.length ≤ L.flatten.length
  | [], _, _, h => by simp at h
  | a :: L, 0, s, h => by
    have h : a = s := by simpa using h
    subst h
    rw [List.flatten_cons, List.length_append]
    omega
  | a :: L, i + 1, s, h => by
    have := len_flat L i s (by simpa using h)
    rw [List.flatten_cons, List.length_append]
    omega
theorem arc_injW {A B : Tr} (ha : smT A) (wa : wfT A) (ca : (ckT A).2 = 0) (hb : smT B) (wb : wfT B) (cb : (ckT B).2 = 0) (h : arcT A = arcT B) : A = B := by
  have h1 := run_arc ha wa ca false []
  have h2 := run_arc hb wb cb false []
  rw [h, h2] at h1
  have h3 : arcS false B = arcS false A := h1
  have h4 := congrArg (fun p : PS => p.c.root) h3
  exact h4.symm
theorem arc_okF {T : Tr} (hs : smT T) (hw : wfT T) (h : (ckT T).2 = 0) : (prs (arcT T)).ansF = (0, 0) := by
  have e := run_arc hs hw h false []
  rw [List.append_nil] at e
  have e2 : prs (arcT T) = arcS false T := by rw [prs_run]; exact e
  rw [e2]
  exact (fin_whole (p := arcS false T) rfl rfl).2
theorem strW (a b : ByteArray) : (a.toList == b.toList) = decide (a = b) := by
  by_cases h : a = b
  · subst h; simp
  · have : a.toList ≠ b.toList := fun e => h (by
      rw [Lib.toList_data, Lib.toList_data] at e
      exact ByteArray.ext (Array.toList_inj.1 e))
    simp [this, h]
/-- In the loop over the pieces: what is fed, where the parser and the pieces lie. -/
structure PcL (w0 wr : World) (g gL : Nat) (L : List (List UInt8)) (i : Nat) (fp : List Nat) : Prop where
  pw : PW wr g (g + 1) (prs (L.take i).flatten) fp
  fb : ∀ x ∈ fp, w0.heap.size ≤ x
  sz : w0.heap.size ≤ wr.heap.size
  kp : ∀ b, b < w0.heap.size → b ≠ g → wr.heap[b]? = w0.heap[b]?
  be : ∀ C, C ≤ g → Below C w0 wr
theorem PcL.row {w0 wr : World} {g gL : Nat} {L : List (List UInt8)} {i : Nat} {fp : List Nat} (h : PcL w0 wr g gL L i fp) {v : Value} {B : Nat} (hB : g < B) (hS : Srr w0 B v L) {j : Nat} {s : List UInt8} (hj : L[j]? = some s) : ∃ q c, v = .slice (some ⟨q, 0, none⟩) L.length c ∧ wr.cell? ⟨q, j, none⟩ = some (.string (NB.ba s)) := by
  obtain ⟨q, c, hv, h1, h2, h3⟩ := hS.at hj
  refine ⟨q, c, hv, ?_⟩
  have := h.kp q h2 (by omega)
  rw [← h3]
  unfold World.cell?
  rw [this]

set_option maxHeartbeats 16000000 in
set_option maxRecDepth 10000 in
theorem wbytes_walk (b : ByteArray) (y : Option Addr) (ny cy : Nat) (f : Nat → Int) (m : Nat) (k : Int) (e : Bool) (t : ByteArray) (x : Option Addr) (n c : Nat) (T : Tr) (w : World) (hb : b.size ≤ 1048576) (hny : ny ≤ 1048576) (hy : ISr w y ny f) (hA : At w m (.agg #[Value.int IntKind.i64 k, Value.bool e, Value.string t, Value.slice x n c]) T) (hS : smT T) :
    Calls Try.prog 3 #[.string b, .slice y ny cy, .agg #[Value.int IntKind.i64 k, Value.bool e, Value.string t, Value.slice x n c]] w fun en w' => en = .returned (.bool true) ∧ Below w.heap.size w w' := by
  have hW := At.wf _ _ _ hA
  have HH : Hid (At w m (.agg #[Value.int IntKind.i64 k, Value.bool e, Value.string t, Value.slice x n c]) T ∧ smT T ∧ wfT T) := ⟨hA, hS, hW⟩
  have HY : Hid (ISr w y ny f) := hy
  clear hA hS hW hy
  obtain ⟨l, rfl⟩ : ∃ l, b = NB.ba l := ⟨b.data.toList, (NB.ba_list b).symm⟩
  have hz1 : (NB.ba l).size = l.length := NB.ba_size l
  have hl : l.length ≤ 1048576 := by rw [hz1] at hb; exact hb
  clear hb
  have HLN : Hid (lnT (prs l).c.root) := (prs_inv l).2.1.rt
  have bA : Below w.heap.size w (w.alloc (Obj.cells #[Value.int IntKind.i64 k, Value.bool e, Value.string t, Value.slice x n c] 26)) := (Below.refl _ _).alloc (Nat.le_refl _) _
  have HG : Hid ((w.alloc (Obj.cells #[Value.int IntKind.i64 k, Value.bool e, Value.string t, Value.slice x n c] 26)).heap[w.heap.size]? = some (.cells #[Value.int IntKind.i64 k, Value.bool e, Value.string t, Value.slice x n c] 26 (0, 0)) ∧ Below w.heap.size w (w.alloc (Obj.cells #[Value.int IntKind.i64 k, Value.bool e, Value.string t, Value.slice x n c] 26))) := ⟨heap_alloc_new _ _, bA⟩
  clear bA
  go_enter Try.func3, Try.ntmps3
  go_upto_region 1 with fail
  obtain ⟨G, hG⟩ : ∃ G, w.heap.size = G := ⟨_, rfl⟩
  have HGe : Hid (w.heap.size = G) := hG
  generalize w.alloc (Obj.cells #[Value.int IntKind.i64 k, Value.bool e, Value.string t, Value.slice x n c] 26) = w1 at *
  rw [hG] at HG ⊢
  clear hG
  have CW := awN w1
  go_wp2_with fail
  refine CW.mono ?_
  rintro e2 w2 ⟨rfl, b2⟩
  have HG2 : Hid (w2.heap[G]? = some (.cells #[Value.int IntKind.i64 k, Value.bool e, Value.string t, Value.slice x n c] 26 (0, 0)) ∧ Below G w w2) := ⟨(b2.block _ (heap_lt HG.out.1)).trans HG.out.1, HG.out.2.trans (b2.mono (Nat.le_of_lt (heap_lt HG.out.1)))⟩
  clear CW b2 HG
  have CP := parse_any l w2 (by omega)
  go_wp2_with fail
  refine CP.mono ?_
  rintro e3 w3 ⟨⟨v, fr, rfl, hT, _⟩, b3⟩
  clear CP
  obtain ⟨xx, nn, cc, rfl⟩ : ∃ x n c, v = .slice x n c := by obtain ⟨x, c, h⟩ := hT.shape; exact ⟨x, _, c, h⟩
  have hlt2 := heap_lt HG2.out.1
  obtain ⟨s1, s2, b4⟩ := two_blkW w3 (prs l).ansT (.slice xx nn cc) (prs l).ansF.1 (prs l).ansF.2
  have hTv := TrV.same _ _ _ hT (fun b hb => b4.block b (TrV.lt _ _ _ hT b hb).2)
  have HG4 := (b4.block G (Nat.lt_of_lt_of_le hlt2 b3.size)).trans ((b3.block G hlt2).trans HG2.out.1)
  have HB4 := HG2.out.2.trans ((b3.trans (b4.mono b3.size)).mono (Nat.le_of_lt hlt2))
  go_upto_region 4 with fail
  obtain ⟨D, hD⟩ : ∃ D, w3.heap.size = D := ⟨_, rfl⟩
  have hGD : Hid (G < D ∧ w2.heap.size ≤ D) := ⟨by have := b3.size; omega, by have := b3.size; omega⟩
  rw [hD] at s1 s2 b4 ⊢
  have hD2 : Hid (D + 2 ≤ ((w3.alloc (.cells #[.int .i64 (prs l).ansT.k, .bool (prs l).ansT.e, .string (prs l).ansT.t, .slice xx nn cc] 26)).alloc (.cells #[.int .i64 (prs l).ansF.1, .int .i64 (prs l).ansF.2] 30)).heap.size) := by unfold Hid; simp only [World.size_alloc]; omega
  have hfrD : Hid (∀ b ∈ fr, b < D) := fun b hb => by have := (TrV.lt _ _ _ hT b hb).2; omega
  clear hD b3 hT hlt2
  generalize (w3.alloc (.cells #[.int .i64 (prs l).ansT.k, .bool (prs l).ansT.e, .string (prs l).ansT.t, .slice xx nn cc] 26)).alloc (.cells #[.int .i64 (prs l).ansF.1, .int .i64 (prs l).ansF.2] 30) = w4 at *
  have H4 : Hid (St w4 D [.int .i64 (prs l).ansT.k, .bool (prs l).ansT.e, .string (prs l).ansT.t, .slice xx nn cc] ∧ St w4 (D + 1) [.int .i64 (prs l).ansF.1, .int .i64 (prs l).ansF.2] ∧ TrV w4 w2.heap.size (prs l).ansT (.slice xx nn cc) fr ∧ w4.heap[G]? = some (.cells #[Value.int IntKind.i64 k, Value.bool e, Value.string t, Value.slice x n c] 26 (0, 0)) ∧ Below G w w4) := ⟨s1, s2, hTv, HG4, HB4⟩
  clear s1 s2 hTv HG4 HB4 b4 HG2
  have CN := newparser_any w4
  go_wp2_with fail
  refine CN.mono ?_
  rintro e5 w5 ⟨rfl, hw5⟩
  clear CN
  have P5 : Hid (PW w5 w4.heap.size (w4.heap.size + 1) (PS.new false) [] ∧ Below w4.heap.size w4 w5 ∧ w5.heap.size = w4.heap.size + 1) := by
    rw [hw5]
    exact ⟨PW.new w4 false, (Below.refl _ _).alloc (Nat.le_refl _) _, World.size_alloc _ _⟩
  clear hw5
  obtain ⟨g, hg⟩ : ∃ g, w4.heap.size = g := ⟨_, rfl⟩
  have Hg : Hid (w4.heap.size = g) := hg
  rw [hg] at P5 hD2 ⊢
  clear hg
  have hwg : w.heap.size ≤ g := by have h1 := hD2.out; have h2 := hGD.out.1; have h3 := HGe.out; omega
  have B5 : Below w.heap.size w w5 := by
    have h0 : Below w.heap.size w w4 := by rw [HGe.out]; exact H4.out.2.2.2.2
    exact h0.trans (P5.out.2.1.mono hwg)
  have HY5 : Hid (ISr w5 y ny f) := HY.out.below B5
  clear B5
  have CPc := pieces_any l y ny cy f w5 HY5.out hl hny
  clear HY
  go_wp2_with fail
  refine CPc.mono ?_
  rintro e6 w6 ⟨px, pc, L, rfl, hSr, hfl, hLl, b6⟩
  clear CPc
  have H6 : Hid (Srr w6 w5.heap.size (.slice px L.length pc) L ∧ L.flatten = l ∧ L.length = ny + 1) := ⟨hSr, hfl, hLl⟩
  have hg5 : Hid (g < w5.heap.size) := by have := P5.out.2.2; have := Hg.out; exact (by omega : g < w5.heap.size)
  have B46 : Hid (Below g w4 w6) := P5.out.2.1.trans (b6.mono (Nat.le_of_lt hg5.out))
  have hsz6 : Hid (w5.heap.size ≤ w6.heap.size) := b6.size
  have HL0 : Hid (PcL w6 w6 g 0 L 0 []) := ⟨P5.out.1.below b6, (fun _ hx => by cases hx), Nat.le_refl _, fun _ _ _ => rfl, fun _ _ => Below.refl _ _⟩
  have hLb : L.length ≤ 1048577 := by omega
  clear hSr hfl hLl b6 P5 HY5
  go_wp2
  go_loopw [32] (fun iv wr => ∃ (i : Nat) (fp : List Nat), iv = .int .i64 (i : Int) ∧ i ≤ L.length ∧ Hid (PcL w6 wr g 0 L i fp)) (fun iv _ => L.length - (intOf iv).toNat)
  case atStart => exact ⟨0, [], rfl, Nat.zero_le _, HL0.out⟩
  case round =>
    obtain ⟨i, fp, rfl, hi, HL⟩ := hrel
    clear HL0
    by_cases hlt : i < L.length
    · obtain ⟨s, hs⟩ : ∃ s, L[i]? = some s := ⟨_, List.getElem?_eq_getElem hlt⟩
      obtain ⟨gq, c', hv, hc⟩ := HL.out.row hg5.out H6.out.1 hs
      have hpx : px = some ⟨gq, 0, none⟩ := by injection hv
      subst hpx
      have hsl : Hid (s.length ≤ 1048576) := by
        have h1 : s.length ≤ L.flatten.length := len_flat L i s hs
        rw [H6.out.2.1] at h1
        exact (by omega : s.length ≤ 1048576)
      have hnext : Hid (prs ((L.take (i + 1)).flatten) = (prs (L.take i).flatten).feed s) := by
        have h1 := List.take_succ_eq_append_getElem hlt
        have h2 : L[i] = s := (List.getElem?_eq_some_iff.1 hs).2
        unfold Hid
        rw [h1, h2, List.flatten_append, show [s].flatten = s by simp, prs_app]
      have hlt6 := HL.out.pw.lt
      obtain ⟨c7, w7, hcv, hX, b7⟩ := BSl.conv wr s g fp (by omega) (fun k hk => (hlt6.2.2 k hk).2)
      have CF := feed_any g (g + 1) (prs (L.take i).flatten) fp _ c7 s w7 (HL.out.pw.below b7) (prs_inv _).1 hX (by have := hsl.out; omega)
      rw [← hnext.out] at CF
      have H7 : Hid (Below wr.heap.size wr w7) := b7
      clear hX b7 hv hlt6 hs
      go_wp2_with fail
      refine CF.mono ?_
      rintro ea wa ⟨rfl, fpa, Pa, Fa, Sa⟩
      clear CF hcv
      have HN : Hid (PcL w6 wa g 0 L (i + 1) fpa) := by
        have hb0 := HL.out
        have hs7 := H7.out.size
        have hk : ∀ b, b < w6.heap.size → b ≠ g → wa.heap[b]? = w6.heap[b]? := fun b hb hne => by
          have h1 : b ∉ fp := fun hm => by have := hb0.fb b hm; omega
          have h2 : b < wr.heap.size := by have := hb0.sz; omega
          exact (Fa.keep b (by omega) hne h1).trans ((H7.out.block b h2).trans (hb0.kp b hb hne))
        have hsz : w6.heap.size ≤ wa.heap.size := by have := Fa.size; have := hb0.sz; omega
        refine ⟨Pa, fun z hz => ?_, hsz, hk, fun C hC => ?_⟩
        · rcases Sa z hz with h | h
          · exact hb0.fb z h
          · have := hb0.sz; omega
        · have h1 := hb0.be C hC
          exact h1.trans ((H7.out.mono (by have := hb0.sz; have := hg5.out; have := hsz6.out; omega)).trans (Fa.below (by have := hg5.out; have := hsz6.out; have := hb0.sz; omega) hC (fun z hz => by have := hb0.fb z hz; have := hg5.out; have := hsz6.out; omega)))
      clear Pa Fa Sa
      go_wp2
      go_roundw
      case rel => exact ⟨i + 1, fpa, by go_num, by omega, HN.out⟩
      case measure => simp [intOf]; omega
    · obtain rfl : i = L.length := by omega
      have hP : Hid (PW wr g (g + 1) (prs l) fp) := by have := HL.out.pw; rw [List.take_length, H6.out.2.1] at this; exact this
      have CC := close_any g (g + 1) (prs l) fp wr hP.out HLN.out
      have HAN := prs_ans l
      have HLT : Hid (lnT (prs l).ansT) := by
        unfold Hid PS.ansT
        by_cases hc : (prs l).fin.code ≠ 0
        · rw [if_pos hc]; exact ln_zero
        · rw [if_neg hc]; exact HLN.out
      obtain ⟨TT, hTT⟩ : ∃ TT, (prs l).ansT = TT := ⟨_, rfl⟩
      obtain ⟨FF, hFF⟩ : ∃ FF, (prs l).ansF = FF := ⟨_, rfl⟩
      have HFF : Hid ((prs l).ansF = FF) := hFF
      unfold ClP at CC
      rw [hTT, hFF] at CC HAN H4
      rw [hTT] at HLT
      have HAN' : Hid _ := HAN
      clear HAN
      rw [hTT, hFF]
      clear hTT hFF
      obtain ⟨f1, f2⟩ := FF
      dsimp only at CC H4 ⊢
      go_wp2_with fail
      refine CC.mono ?_
      rintro e9 w9 ⟨⟨v9, fr9, rfl, hT9, _⟩, fp9, P9, F9, S9⟩
      clear CC
      obtain ⟨x9, n9, c9, rfl⟩ : ∃ x n c, v9 = .slice x n c := by obtain ⟨x, c, h⟩ := hT9.shape; exact ⟨x, _, c, h⟩
      have hsz9 := F9.size
      have hszr := HL.out.sz
      have h56 := hsz6.out
      have hgg := hg5.out
      have B49 : Below (D + 2) w4 w9 := (B46.out.mono hD2.out).trans ((HL.out.be (D + 2) hD2.out).trans (F9.below (by have := hD2.out; omega) hD2.out (fun z hz => by have := HL.out.fb z hz; have := hD2.out; omega)))
      obtain ⟨s9, t9, b10⟩ := two_blkW w9 TT (.slice x9 n9 c9) f1 f2
      obtain ⟨M1, hM1⟩ := TrV.at TT _ fr9 (TrV.same _ _ _ hT9 (fun b hb => b10.block b (TrV.lt _ _ _ hT9 b hb).2)) HLT.out
      have hB10 : Below (D + 2) w4 ((w9.alloc (.cells #[.int .i64 TT.k, .bool TT.e, .string TT.t, .slice x9 n9 c9] 26)).alloc (.cells #[.int .i64 f1, .int .i64 f2] 30)) := B49.trans (b10.mono (by have := hD2.out; omega))
      obtain ⟨M2, hM2⟩ := TrV.at TT _ fr (TrV.same _ _ _ H4.out.2.2.1 (fun b hb => hB10.block b (by have := hfrD.out b hb; omega))) HLT.out
      have HBw : Below w.heap.size w ((w9.alloc (.cells #[.int .i64 TT.k, .bool TT.e, .string TT.t, .slice x9 n9 c9] 26)).alloc (.cells #[.int .i64 f1, .int .i64 f2] 30)) := by
        have h0 : Below w.heap.size w w4 := by rw [HGe.out]; exact H4.out.2.2.2.2
        exact h0.trans (hB10.mono (by have h2 := hGD.out.1; have h3 := HGe.out; omega))
      have hAo := HH.out.1.below HBw
      have hcmp : G < D := hGD.out.1
      have H10 : Hid (St ((w9.alloc (.cells #[.int .i64 TT.k, .bool TT.e, .string TT.t, .slice x9 n9 c9] 26)).alloc (.cells #[.int .i64 f1, .int .i64 f2] 30)) D [.int .i64 TT.k, .bool TT.e, .string TT.t, .slice xx nn cc] ∧ St ((w9.alloc (.cells #[.int .i64 TT.k, .bool TT.e, .string TT.t, .slice x9 n9 c9] 26)).alloc (.cells #[.int .i64 f1, .int .i64 f2] 30)) (D + 1) [.int .i64 f1, .int .i64 f2] ∧ ((w9.alloc (.cells #[.int .i64 TT.k, .bool TT.e, .string TT.t, .slice x9 n9 c9] 26)).alloc (.cells #[.int .i64 f1, .int .i64 f2] 30)).heap[G]? = some (.cells #[Value.int IntKind.i64 k, Value.bool e, Value.string t, Value.slice x n c] 26 (0, 0))) :=
        ⟨H4.out.1.same hB10.size (hB10.block D (by omega)), H4.out.2.1.same hB10.size (hB10.block (D + 1) (by omega)), (hB10.block G (by omega)).trans H4.out.2.2.2.1⟩
      have HA : Hid (At ((w9.alloc (.cells #[.int .i64 TT.k, .bool TT.e, .string TT.t, .slice x9 n9 c9] 26)).alloc (.cells #[.int .i64 f1, .int .i64 f2] 30)) M1 (.agg #[.int .i64 TT.k, .bool TT.e, .string TT.t, .slice x9 n9 c9]) TT ∧ At ((w9.alloc (.cells #[.int .i64 TT.k, .bool TT.e, .string TT.t, .slice x9 n9 c9] 26)).alloc (.cells #[.int .i64 f1, .int .i64 f2] 30)) M2 (.agg #[.int .i64 TT.k, .bool TT.e, .string TT.t, .slice xx nn cc]) TT ∧ At ((w9.alloc (.cells #[.int .i64 TT.k, .bool TT.e, .string TT.t, .slice x9 n9 c9] 26)).alloc (.cells #[.int .i64 f1, .int .i64 f2] 30)) m (.agg #[Value.int IntKind.i64 k, Value.bool e, Value.string t, Value.slice x n c]) T) := ⟨hM1, hM2, hAo⟩
      have HB10 : Hid (Below w.heap.size w ((w9.alloc (.cells #[.int .i64 TT.k, .bool TT.e, .string TT.t, .slice x9 n9 c9] 26)).alloc (.cells #[.int .i64 f1, .int .i64 f2] 30))) := HBw
      clear hM1 hM2 hAo HBw hB10 B49 b10 P9 F9 S9 hT9 hsz9 hszr h56 hgg
      go_upto_region 13 with fail
      obtain ⟨K, hK⟩ : ∃ K, w9.heap.size = K := ⟨_, rfl⟩
      rw [hK] at s9 t9 ⊢
      clear hK
      generalize (w9.alloc (.cells #[.int .i64 TT.k, .bool TT.e, .string TT.t, .slice x9 n9 c9] 26)).alloc (.cells #[.int .i64 f1, .int .i64 f2] 30) = w10 at *
      have x0 := s9.get 0 _ rfl
      have x1 := s9.get 1 _ rfl
      have x2 := s9.get 2 _ rfl
      have x3 := s9.get 3 _ rfl
      have y0 := t9.get 0 _ rfl
      have y1 := t9.get 1 _ rfl
      have z0 := H10.out.1.get 0 _ rfl
      have z1 := H10.out.1.get 1 _ rfl
      have z2 := H10.out.1.get 2 _ rfl
      have z3 := H10.out.1.get 3 _ rfl
      have q0 := H10.out.2.1.get 0 _ rfl
      have q1 := H10.out.2.1.get 1 _ rfl
      have a1 : (f1 == f1) = true := by simp
      have a2 : (f2 == f2) = true := by simp
      have CE := topeq_any (max M1 M2) _ _ TT TT w10 (HA.out.1.upto (Nat.le_max_left _ _)) (HA.out.2.1.upto (Nat.le_max_right _ _))
      go_wp2_with fail
      refine CE.mono ?_
      rintro e11 w11 ⟨⟨r, rfl, hr⟩, b11⟩
      have hrt : r = true := by simpa using hr
      subst hrt
      clear CE hr s9 t9 x0 x1 x2 x3 y0 y1 z0 z1 z2 z3 q0 q1
      have H11 : Hid (St w11 D [.int .i64 TT.k, .bool TT.e, .string TT.t, .slice xx nn cc] ∧ St w11 (D + 1) [.int .i64 f1, .int .i64 f2] ∧ w11.heap[G]? = some (.cells #[Value.int IntKind.i64 k, Value.bool e, Value.string t, Value.slice x n c] 26 (0, 0))) := ⟨H10.out.1.same b11.size (b11.block _ H10.out.1.lt), H10.out.2.1.same b11.size (b11.block _ H10.out.2.1.lt), (b11.block _ (heap_lt H10.out.2.2)).trans H10.out.2.2⟩
      have HA11 : Hid (At w11 M2 (.agg #[.int .i64 TT.k, .bool TT.e, .string TT.t, .slice xx nn cc]) TT ∧ At w11 m (.agg #[Value.int IntKind.i64 k, Value.bool e, Value.string t, Value.slice x n c]) T) := ⟨HA.out.2.1.below b11, HA.out.2.2.below b11⟩
      have HB11 : Hid (Below w.heap.size w w11) := HB10.out.trans (b11.mono HB10.out.size)
      clear b11 H10 HA HB10
      obtain ⟨u0, u1, u2, u3, _⟩ := cell4n H11.out.2.2
      have CS := nserial_any m k e t x n c T w11 HA11.out.2 HH.out.2.1 HH.out.2.2
      obtain ⟨R, hR⟩ : ∃ R, serT T = R := ⟨_, rfl⟩
      have HR : Hid (serT T = R) := hR
      rw [hR] at CS
      clear hR
      obtain ⟨X, C⟩ := R
      dsimp only at CS
      go_wp2_with fail
      refine CS.mono ?_
      rintro e12 w12 ⟨rfl, b12⟩
      clear CS u0 u1 u2 u3
      have H12 : Hid (St w12 D [.int .i64 TT.k, .bool TT.e, .string TT.t, .slice xx nn cc] ∧ St w12 (D + 1) [.int .i64 f1, .int .i64 f2] ∧ w12.heap[G]? = some (.cells #[Value.int IntKind.i64 k, Value.bool e, Value.string t, Value.slice x n c] 26 (0, 0))) := ⟨H11.out.1.same b12.size (b12.block _ H11.out.1.lt), H11.out.2.1.same b12.size (b12.block _ H11.out.2.1.lt), (b12.block _ (heap_lt H11.out.2.2)).trans H11.out.2.2⟩
      have HA12 : Hid (At w12 M2 (.agg #[.int .i64 TT.k, .bool TT.e, .string TT.t, .slice xx nn cc]) TT ∧ At w12 m (.agg #[Value.int IntKind.i64 k, Value.bool e, Value.string t, Value.slice x n c]) T) := ⟨HA11.out.1.below b12, HA11.out.2.below b12⟩
      have HB12 : Hid (Below w.heap.size w w12) := HB11.out.trans (b12.mono HB11.out.size)
      clear b12 H11 HA11 HB11
      have hXC : Hid (C = 0 → (ckT T).2 = 0 ∧ X = NB.ba (arcT T)) := fun hc => by
        have h := HR.out
        unfold serT at h
        by_cases h0 : (ckT T).2 ≠ 0
        · rw [if_pos h0] at h; injection h with h1 h2; rw [hc] at h2; exact absurd h2 h0
        · rw [if_neg h0] at h; injection h with h1 h2; exact ⟨by omega, h1.symm⟩
      have z0 := H12.out.1.get 0 _ rfl
      have z1 := H12.out.1.get 1 _ rfl
      have z2 := H12.out.1.get 2 _ rfl
      have z3 := H12.out.1.get 3 _ rfl
      have q0 := H12.out.2.1.get 0 _ rfl
      have q1 := H12.out.2.1.get 1 _ rfl
      have hfe := strW X (NB.ba l)
      rcases HAN'.out with ⟨c1, c2, c3, c4, c5, c6, c7⟩ | ⟨c1, c2, c3, c4⟩
      · injection c1 with c1a c1b
        subst c1a c1b
        rw [← c2] at c3 c4 c5 c6
        have HOK : Hid (l = arcT TT ∧ smT TT ∧ wfT TT ∧ (ckT TT).2 = 0) := ⟨c3, c4, c5, c6⟩
        have hser : serT TT = (NB.ba l, 0) := by unfold serT; rw [if_neg (by omega), ← c3]
        clear c2 c3 c4 c5 c6 c7
        have CB := nserial_any M2 _ _ _ _ _ _ TT w12 HA12.out.1 HOK.out.2.1 HOK.out.2.2.1
        rw [hser] at CB
        clear hser
        go_wp2_with fail
        refine CB.mono ?_
        rintro e13 w13 ⟨rfl, b13⟩
        clear CB z0 z1 z2 z3 q0 q1
        have H13 : Hid (St w13 D [.int .i64 TT.k, .bool TT.e, .string TT.t, .slice xx nn cc] ∧ w13.heap[G]? = some (.cells #[Value.int IntKind.i64 k, Value.bool e, Value.string t, Value.slice x n c] 26 (0, 0))) := ⟨H12.out.1.same b13.size (b13.block _ H12.out.1.lt), (b13.block _ (heap_lt H12.out.2.2)).trans H12.out.2.2⟩
        have HA13 : Hid (At w13 M2 (.agg #[.int .i64 TT.k, .bool TT.e, .string TT.t, .slice xx nn cc]) TT ∧ At w13 m (.agg #[Value.int IntKind.i64 k, Value.bool e, Value.string t, Value.slice x n c]) T) := ⟨HA12.out.1.below b13, HA12.out.2.below b13⟩
        have HB13 : Hid (Below w.heap.size w w13) := HB12.out.trans (b13.mono HB12.out.size)
        clear b13 H12 HA12 HB12
        by_cases hC : C = 0
        · by_cases hX : X = NB.ba l
          · have hTT : T = TT := by
              obtain ⟨h1, h2⟩ := hXC.out hC
              exact arc_injW HH.out.2.1 HH.out.2.2 h1 HOK.out.2.1 HOK.out.2.2.1 HOK.out.2.2.2 (by rw [← HOK.out.1]; exact (NB.ba_inj (hX.symm.trans h2)).symm)
            have CE := topeq_any (max m M2) _ _ T TT w13 (HA13.out.2.upto (Nat.le_max_left _ _)) (HA13.out.1.upto (Nat.le_max_right _ _))
            obtain ⟨u0, u1, u2, u3, _⟩ := cell4n H13.out.2
            have z0 := H13.out.1.get 0 _ rfl
            have z1 := H13.out.1.get 1 _ rfl
            have z2 := H13.out.1.get 2 _ rfl
            have z3 := H13.out.1.get 3 _ rfl
            have HTT : Hid (T = TT) := hTT
            clear hTT hXC hfe
            subst hC hX
            go_wp2_with fail
            refine CE.mono ?_
            rintro e14 w14 ⟨⟨r, rfl, hr⟩, b14⟩
            have hrt : r = true := hr.2 HTT.out
            subst hrt
            have HB14 : Hid (Below w.heap.size w w14) := HB13.out.trans (b14.mono HB13.out.size)
            clear CE b14 hr
            go_wp2
            go_ret
            exact ⟨rfl, HB14.out⟩
          · have hb1 : (X.toList == (NB.ba l).toList) = false := by rw [hfe]; simp [hX]
            have hb2 : (X.toList != (NB.ba l).toList) = true := by simp [bne, hb1]
            have hb3 : X.toList ≠ (NB.ba l).toList := by intro h; rw [h] at hb1; simp at hb1
            clear hfe hXC
            subst hC
            go_wp2
            go_ret
            exact ⟨rfl, HB13.out⟩
        · have hcb : (C != 0) = true := by simp [hC]
          clear hfe hXC
          go_wp2
          go_ret
          exact ⟨rfl, HB13.out⟩
      · have c1' : f1 ≠ 0 := c1
        have hTz : TT = .mk 0 false ⟨#[]⟩ [] [] := c4
        have hcb1 : (f1 != 0) = true := by simp [c1']
        have hg0 : decide (f2 ≥ 0) = true := by simp; exact c2
        have hg1 : decide (f2 ≤ (l.length : Int)) = true := by simp; exact c3
        have c2' : 0 ≤ f2 := c2
        have c3' : f2 ≤ (l.length : Int) := c3
        have CE := topeq_any (max M2 1) _ _ TT (.mk 0 false ⟨#[]⟩ [] []) w12 (HA12.out.1.upto (Nat.le_max_left _ _)) ((at_zero w12).upto (Nat.le_max_right _ _))
        have HNE : Hid (C = 0 → X ≠ NB.ba l) := fun hC hX => by
          obtain ⟨h1, h2⟩ := hXC.out hC
          have h3 : l = arcT T := NB.ba_inj (hX.symm.trans h2)
          have h4 := arc_okF HH.out.2.1 HH.out.2.2 h1
          rw [← h3, HFF.out] at h4
          injection h4 with h5 h6
          exact c1' h5
        have HTz : Hid (TT = .mk 0 false ⟨#[]⟩ [] []) := hTz
        clear c1 c2 c3 c4 hTz hXC
        by_cases hC : C = 0
        · have hX := HNE.out hC
          have hb1 : (X.toList == (NB.ba l).toList) = false := by rw [hfe]; simp [hX]
          have hb2 : (X.toList != (NB.ba l).toList) = true := by simp [bne, hb1]
          have hb3 : X.toList ≠ (NB.ba l).toList := by intro h; rw [h] at hb1; simp at hb1
          clear hfe hX
          subst hC
          go_wp2_with fail
          refine CE.mono ?_
          rintro e14 w14 ⟨⟨r, rfl, hr⟩, b14⟩
          have hrt : r = true := hr.2 HTz.out
          subst hrt
          have HB14 : Hid (Below w.heap.size w w14) := HB12.out.trans (b14.mono HB12.out.size)
          have y0 := (H12.out.2.1.same b14.size (b14.block _ H12.out.2.1.lt)).get 0 _ rfl
          have y1 := (H12.out.2.1.same b14.size (b14.block _ H12.out.2.1.lt)).get 1 _ rfl
          clear CE b14 hr z0 z1 z2 z3 q0 q1
          go_wp2
          go_ret
          exact ⟨rfl, HB14.out⟩
        · have hcb : (C != 0) = true := by simp [hC]
          clear hfe
          go_wp2_with fail
          refine CE.mono ?_
          rintro e14 w14 ⟨⟨r, rfl, hr⟩, b14⟩
          have hrt : r = true := hr.2 HTz.out
          subst hrt
          have HB14 : Hid (Below w.heap.size w w14) := HB12.out.trans (b14.mono HB12.out.size)
          have y0 := (H12.out.2.1.same b14.size (b14.block _ H12.out.2.1.lt)).get 0 _ rfl
          have y1 := (H12.out.2.1.same b14.size (b14.block _ H12.out.2.1.lt)).get 1 _ rfl
          clear CE b14 hr z0 z1 z2 z3 q0 q1
          go_wp2
          go_ret
          exact ⟨rfl, HB14.out⟩
end Go.Proofs.Ytbmiihjleghanaa
