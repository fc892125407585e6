/- The laws' fed, walked (own text of the verifier; made by mkfed.py). -/
import Derived.Test.YtpbgmknebhnonabNp5
import Derived.Test.YtpbgmknebhnonabNrC
import Derived.ChangeSlices
import Derived.Deep.LoopGhost
namespace Go.Proofs.Ytpbgmknebhnonab
open Go.RowKit

def cutL (s : List UInt8) (p i : Nat) : List UInt8 := (s.drop p).take (i - p)
theorem cutL_length (s : List UInt8) (p i : Nat) (h : i ≤ s.length) : (cutL s p i).length = i - p := by
  unfold cutL; rw [List.length_take, List.length_drop]; omega
theorem ba_cut (s : List UInt8) (p e : Nat) (h1 : p ≤ e) (h2 : e ≤ s.length) : (NB.ba s).extract p e = NB.ba (cutL s p e) := by
  apply bytes_ext
  · rw [ByteArray.size_extract, NB.ba_size, NB.ba_size, cutL_length s p e h2]; omega
  · intro k hk
    rw [ByteArray.size_extract, NB.ba_size] at hk
    have h3 : k < (cutL s p e).length := by rw [cutL_length s p e h2]; omega
    rw [NB.bt_ba _ _ h3]
    unfold bt
    rw [dif_pos (by rw [ByteArray.size_extract, NB.ba_size]; omega), ByteArray.getElem_extract]
    have h4 : (cutL s p e)[k]'h3 = s[p + k]'(by omega) := by simp [cutL]
    rw [h4]
    rfl
theorem take_cut (s : List UInt8) (p i : Nat) (h : p ≤ i) (_ : i ≤ s.length) : s.take p ++ cutL s p i = s.take i := by
  unfold cutL
  rw [show i = p + (i - p) by omega, List.take_add]
  congr 2
  omega
/-- A slice of numbers that is only read. -/
def ISl (w : World) (x : Option Addr) (n : Nat) (f : Nat → Int) : Prop := ∀ i, i < n → ∃ a, x = some a ∧ w.cell? (a.add i) = some (.int .i64 (f i))
theorem ISl.below {w w' : World} {x : Option Addr} {n B : Nat} {f : Nat → Int} (h : ISl w x n f) (b : Below B w w') (hB : w.heap.size ≤ B) : ISl w' x n f := fun i hi => by
  obtain ⟨a, ha, hc⟩ := h i hi
  refine ⟨a, ha, ?_⟩
  have hl := World.block_lt_of_cell? _ _ hc
  rw [b.cell (p := a.add i) (by omega)]
  exact hc

/-- A parser that lies above w0. -/
def PU (w0 w : World) (g B : Nat) (p : PS) : Prop := Below w0.heap.size w0 w ∧ w0.heap.size ≤ g ∧ ∃ fp, PW w g B p fp ∧ ∀ x ∈ fp, w0.heap.size ≤ x
/-- What is true between two pieces: the state behind the first i bytes. -/
structure FL (w0 w1 wr : World) (g B K : Nat) (pt : Bool) (l : List UInt8) (i : Nat) : Prop where
  pw : ∃ fp, PW wr g B ((PS.new pt).run (l.take i)) fp ∧ (∀ x ∈ fp, w0.heap.size ≤ x) ∧ K ∉ fp ∧ K + 1 ∉ fp
  be : Below w0.heap.size w0 wr
  le : i ≤ l.length
  gb : w0.heap.size ≤ g
  kb : w0.heap.size ≤ K ∧ K ≠ g ∧ K + 1 ≠ g
  s1 : St wr K [.int .i64 0, .bool false, .string ⟨#[]⟩, .slice none 0 0]
  s2 : St wr (K + 1) [.int .i64 0, .int .i64 0]
  sz : w1.heap.size ≤ wr.heap.size

theorem FL.feed {w0 w1 wr : World} {g B K : Nat} {pt : Bool} {l : List UInt8} {i : Nat} (h : FL w0 w1 wr g B K pt l i) (hl : l.length ≤ 2097152) (e : Nat) (hie : i ≤ e) (he : e ≤ l.length) :
    ∃ c w', (convert 9 37 (.string (NB.ba (cutL l i e)))).run Try.prog wr = .ok (.slice (some ⟨wr.heap.size, 0, none⟩) (cutL l i e).length c) w' ∧
      Calls Try.prog 20 #[.pointer (some ⟨g, 0, none⟩), .slice (some ⟨wr.heap.size, 0, none⟩) (cutL l i e).length c] w' fun x w'' => x = .returned (.int .i64 ((((PS.new pt).run (l.take e)).taken : Int) - (((PS.new pt).run (l.take i)).taken : Int))) ∧ FL w0 w1 w'' g B K pt l e := by
  obtain ⟨fp, P, hfp, k1, k2⟩ := h.pw
  have hz := P.lt
  obtain ⟨c, w', hcv, hX, b2⟩ := BSl.conv wr (cutL l i e) g fp (by omega) (fun k hk => (hz.2.2 k hk).2)
  refine ⟨c, w', hcv, ?_⟩
  have hcl := cutL_length l i e he
  have hinv := run_inv (l.take i) (PS.new pt) (PI.new pt) RI.new rfl
  have hF := feed_any g B ((PS.new pt).run (l.take i)) fp (some ⟨wr.heap.size, 0, none⟩) c (cutL l i e) w' (P.below b2) hinv.1 hX (by omega)
  have er : ((PS.new pt).run (l.take i)).feed (cutL l i e) = (PS.new pt).run (l.take e) := by rw [← run_app _ _ _ rfl rfl, take_cut l i e hie he]
  rw [er] at hF
  refine hF.mono ?_
  rintro x w'' ⟨rfl, fp', P', F', S'⟩
  have hz2 := b2.size
  have hfp' : ∀ x ∈ fp', w0.heap.size ≤ x := fun x hx => by
    rcases S' x hx with h1 | h1
    · exact hfp x h1
    · have := h.be.size; omega
  have hk : ∀ q, q < wr.heap.size → q ∉ fp → q ≠ g → w''.heap[q]? = wr.heap[q]? ∧ q ∉ fp' := fun q hq hn hg => by
    refine ⟨(F'.keep q (by omega) hg hn).trans (b2.block q hq), fun hm => ?_⟩
    rcases S' q hm with h1 | h1
    · exact hn h1
    · omega
  have B2 : Below w0.heap.size w0 w' := h.be.trans (b2.mono h.be.size)
  have hK1 := hk K h.s1.lt k1 h.kb.2.1
  have hK2 := hk (K + 1) h.s2.lt k2 h.kb.2.2
  have hsz : wr.heap.size ≤ w''.heap.size := Nat.le_trans hz2 F'.size
  exact ⟨rfl, ⟨fp', P', hfp', hK1.2, hK2.2⟩, B2.trans (F'.below B2.size h.gb hfp), he, h.gb, h.kb, h.s1.same hsz hK1.1, h.s2.same hsz hK2.1, Nat.le_trans h.sz hsz⟩

theorem drew_heap (w : World) : w.drew.heap = w.heap := rfl
/-- What fed answers. -/
def FdP (w0 w1 : World) (g B : Nat) (q : PS) (e : Ending) (w' : World) : Prop := (∃ v fr, e = .returned (.tuple #[.agg #[.int .i64 q.ansT.k, .bool q.ansT.e, .string q.ansT.t, v], .agg #[.int .i64 q.ansF.1, .int .i64 q.ansF.2], .int .i64 (q.taken : Int)]) ∧ TrV w' w1.heap.size q.ansT v fr ∧ fr.Nodup) ∧ PU w0 w' g B q.fin ∧ w1.heap.size ≤ w'.heap.size
/-- A node, a fault and a number that are handed back. -/
theorem ret_nfi {f : Func} {tmps : Array Value} {W : World} {K1 K2 : Nat} {i j m : Nat} {k : Int} {e : Bool} {t : ByteArray} {v : Value} {a b n : Int} {R : Ending → World → Prop} (hf : f.results = #[.cell i 25, .cell j 34, .tmp m]) (h1 : tmps[i]?.getD undef = .pointer (some ⟨K1, 0, none⟩)) (h2 : tmps[j]?.getD undef = .pointer (some ⟨K2, 0, none⟩)) (h3 : tmps[m]?.getD undef = .int .i64 n)
    (q : St W K1 [.int .i64 k, .bool e, .string t, v]) (q' : St W K2 [.int .i64 a, .int .i64 b]) (hR : R (.returned (.tuple #[.agg #[.int .i64 k, .bool e, .string t, v], .agg #[.int .i64 a, .int .i64 b], .int .i64 n])) W) :
    bodyPost Try.prog f R .ret { tmps := tmps, defers := [] } W := by
  have q0 := q.get 0 _ rfl
  have q1 := q.get 1 _ rfl
  have q2 := q.get 2 _ rfl
  have q3 := q.get 3 _ rfl
  have r0 := q'.get 0 _ rfl
  have r1 := q'.get 1 _ rfl
  exact bodyPost_ret (v := .tuple #[.agg #[.int .i64 k, .bool e, .string t, v], .agg #[.int .i64 a, .int .i64 b], .int .i64 n]) (by simp [results, hf, go_sem, h1, h2, h3, q0, q1, q2, q3, r0, r1]) rfl hR

set_option maxHeartbeats 16000000 in
set_option maxRecDepth 100000 in
theorem fed_any (w0 : World) (g B : Nat) (pt : Bool) (l : List UInt8) (x : Option Addr) (n cp : Nat) (f : Nat → Int) (w : World) (H : PU w0 w g B (PS.new pt)) (hx : ISl w0 x n f) (hb : l.length ≤ 2097152) (hn : n ≤ 1048576) :
    Calls Try.prog 14 #[.pointer (some ⟨g, 0, none⟩), .string (NB.ba l), .slice x n cp] w (FdP w0 w g B ((PS.new pt).run l)) := by
  have hsz := NB.ba_size l
  have HX : Hid (ISl w0 x n f) := hx
  have HI : Hid (FL w0 w ((w.alloc (.cells #[.int .i64 0, .bool false, .string ⟨#[]⟩, .slice none 0 0] 25)).alloc (.cells #[.int .i64 0, .int .i64 0] 34)) g B w.heap.size pt l 0) := by
    obtain ⟨h1, h2, fp, h3, h4⟩ := H
    have hl := h3.lt
    have t := TC.start h3
    have b : Below w.heap.size w ((w.alloc (.cells #[.int .i64 0, .bool false, .string ⟨#[]⟩, .slice none 0 0] 25)).alloc (.cells #[.int .i64 0, .int .i64 0] 34)) := ((Below.refl _ _).alloc (Nat.le_refl _) _).alloc (by rw [World.size_alloc]; omega) _
    exact ⟨⟨fp, t.pw, h4, t.n1.2.2, t.n2.2.2⟩, h1.trans (b.mono h1.size), Nat.zero_le _, h2, ⟨h1.size, t.n1.2.1, t.n2.2.1⟩, t.s1, t.s2, b.size⟩
  clear hx H
  go_enter Try.func14, Try.ntmps14
  go_upto_region 1 with fail
  obtain ⟨K, hK⟩ : ∃ K, w.heap.size = K := ⟨_, rfl⟩
  have HKW : Hid (w.heap.size = K) := hK
  rw [hK] at HI ⊢
  clear hK
  generalize (w.alloc (.cells #[.int .i64 0, .bool false, .string ⟨#[]⟩, .slice none 0 0] 25)).alloc (.cells #[.int .i64 0, .int .i64 0] 34) = w1 at *
  go_wp2
  go_loopg [9, 10, 17] n (fun gk at' tk ix wr => ∃ (k i : Nat), Hid (gk + k = n) ∧ ix = .int .i64 k ∧ at' = .int .i64 i ∧ tk = .int .i64 (((PS.new pt).run (l.take i)).taken : Int) ∧ Hid (FL w0 w wr g B K pt l i))
  case atStart => exact ⟨0, 0, rfl, rfl, rfl, rfl, HI⟩
  case round =>
    obtain ⟨k, i, hgk, rfl, rfl, rfl, hL⟩ := hrel
    clear HI
    have hil := hL.out.le
    have hti2 : ((PS.new pt).run (l.take i)).taken ≤ 2097152 := by
      have := (run_inv (l.take i) (PS.new pt) (PI.new pt) RI.new rfl).2.2.2
      rw [List.length_take] at this
      have h0 : (PS.new pt).taken = 0 := rfl
      omega
    by_cases hk : k < n
    · obtain ⟨a, hxa, hca⟩ := (HX.out.below hL.out.be (Nat.le_refl _)) k hk
      subst hxa
      by_cases hbad : f k < 0 ∨ (l.length : Int) - (i : Int) < f k
      · obtain ⟨d, hd⟩ : ∃ d : Nat, d = l.length - i := ⟨_, rfl⟩
        have hd1 : (l.length : Int) - (i : Int) = (d : Int) := by omega
        obtain ⟨e, he⟩ : ∃ e : Nat, e = i + d := ⟨_, rfl⟩
        have hE : (i : Int) + (d : Int) = (e : Int) := by omega
        have hel0 : e = l.length := by omega
        have hie : i ≤ e := by omega
        have hee : e ≤ l.length := by omega
        clear hd he hel0
        rw [hd1] at hbad
        by_cases hneg : f k < 0
        · clear hbad
          obtain ⟨c, w5, hcv, FC⟩ := hL.out.feed hb e (by omega) (by omega)
          have hbc : (NB.ba l).extract i e = NB.ba (cutL l i e) := ba_cut l i e (by omega) (by omega)
          have hte2 : ((PS.new pt).run (l.take e)).taken ≤ 2097152 := by
            have := (run_inv (l.take e) (PS.new pt) (PI.new pt) RI.new rfl).2.2.2
            rw [List.length_take] at this
            have h0 : (PS.new pt).taken = 0 := rfl
            omega
          obtain ⟨TE, hTE⟩ : ∃ TE, ((PS.new pt).run (l.take e)).taken = TE := ⟨_, rfl⟩
          have HTE2 : Hid (((PS.new pt).run (l.take e)).taken = TE) := hTE
          rw [hTE] at FC hte2
          clear hTE
          generalize ((PS.new pt).run (l.take i)).taken = TI at *
          have hadd : (TI : Int) + ((TE : Int) - (TI : Int)) = (TE : Int) := by omega
          have hel : (e : Int) ≤ (l.length : Int) := by omega
          go_wp2_with fail
          refine FC.mono ?_
          rintro e9 w9 ⟨rfl, C9⟩
          have H9 : Hid (FL w0 w w9 g B K pt l e) := C9
          clear C9 FC hcv hbc hL
          go_wp2
          go_roundg (gk - 1)
          case measure => have := hgk.out; omega
          case rel => exact ⟨k + 1, e, by have := hgk.out; unfold Hid; omega, by go_num, by go_num, by rw [HTE2.out], H9⟩
        · have hbig : (d : Int) < f k := hbad.resolve_left hneg
          clear hbad
          obtain ⟨c, w5, hcv, FC⟩ := hL.out.feed hb e (by omega) (by omega)
          have hbc : (NB.ba l).extract i e = NB.ba (cutL l i e) := ba_cut l i e (by omega) (by omega)
          have hte2 : ((PS.new pt).run (l.take e)).taken ≤ 2097152 := by
            have := (run_inv (l.take e) (PS.new pt) (PI.new pt) RI.new rfl).2.2.2
            rw [List.length_take] at this
            have h0 : (PS.new pt).taken = 0 := rfl
            omega
          obtain ⟨TE, hTE⟩ : ∃ TE, ((PS.new pt).run (l.take e)).taken = TE := ⟨_, rfl⟩
          have HTE2 : Hid (((PS.new pt).run (l.take e)).taken = TE) := hTE
          rw [hTE] at FC hte2
          clear hTE
          generalize ((PS.new pt).run (l.take i)).taken = TI at *
          have hadd : (TI : Int) + ((TE : Int) - (TI : Int)) = (TE : Int) := by omega
          have hel : (e : Int) ≤ (l.length : Int) := by omega
          go_wp2_with fail
          refine FC.mono ?_
          rintro e9 w9 ⟨rfl, C9⟩
          have H9 : Hid (FL w0 w w9 g B K pt l e) := C9
          clear C9 FC hcv hbc hL
          go_wp2
          go_roundg (gk - 1)
          case measure => have := hgk.out; omega
          case rel => exact ⟨k + 1, e, by have := hgk.out; unfold Hid; omega, by go_num, by go_num, by rw [HTE2.out], H9⟩
      · obtain ⟨d, hd⟩ : ∃ d : Nat, f k = (d : Int) := ⟨(f k).toNat, by omega⟩
        rw [hd] at hca hbad
        obtain ⟨e, he⟩ : ∃ e : Nat, e = i + d := ⟨_, rfl⟩
        have hE : (i : Int) + (d : Int) = (e : Int) := by omega
        have hie : i ≤ e := by omega
        have hee : e ≤ l.length := by omega
        have hn1 : ¬ (d : Int) < 0 := by omega
        have hn2 : ¬ (l.length : Int) - (i : Int) < (d : Int) := by omega
        clear hbad he hd
        obtain ⟨c, w5, hcv, FC⟩ := hL.out.feed hb e (by omega) (by omega)
        have hbc : (NB.ba l).extract i e = NB.ba (cutL l i e) := ba_cut l i e (by omega) (by omega)
        have hte2 : ((PS.new pt).run (l.take e)).taken ≤ 2097152 := by
          have := (run_inv (l.take e) (PS.new pt) (PI.new pt) RI.new rfl).2.2.2
          rw [List.length_take] at this
          have h0 : (PS.new pt).taken = 0 := rfl
          omega
        obtain ⟨TE, hTE⟩ : ∃ TE, ((PS.new pt).run (l.take e)).taken = TE := ⟨_, rfl⟩
        have HTE2 : Hid (((PS.new pt).run (l.take e)).taken = TE) := hTE
        rw [hTE] at FC hte2
        clear hTE
        generalize ((PS.new pt).run (l.take i)).taken = TI at *
        have hadd : (TI : Int) + ((TE : Int) - (TI : Int)) = (TE : Int) := by omega
        have hel : (e : Int) ≤ (l.length : Int) := by omega
        go_wp2_with fail
        refine FC.mono ?_
        rintro e9 w9 ⟨rfl, C9⟩
        have H9 : Hid (FL w0 w w9 g B K pt l e) := C9
        clear C9 FC hcv hbc hL
        go_wp2
        go_roundg (gk - 1)
        case measure => have := hgk.out; omega
        case rel => exact ⟨k + 1, e, by have := hgk.out; unfold Hid; omega, by go_num, by go_num, by rw [HTE2.out], H9⟩
    · obtain rfl : k = n := by have := hgk.out; omega
      obtain ⟨c, w5, hcv, FC⟩ := hL.out.feed hb l.length hil (Nat.le_refl _)
      have hbc : (NB.ba l).extract i l.length = NB.ba (cutL l i l.length) := ba_cut l i l.length hil (Nat.le_refl _)
      rw [List.take_length] at FC
      have hte2 : ((PS.new pt).run l).taken ≤ 2097152 := by
        have := (run_inv l (PS.new pt) (PI.new pt) RI.new rfl).2.2.2
        have h0 : (PS.new pt).taken = 0 := rfl
        omega
      obtain ⟨Q, hQ⟩ : ∃ Q, (PS.new pt).run l = Q := ⟨_, rfl⟩
      have HQ : Hid ((PS.new pt).run l = Q) := hQ
      rw [hQ] at FC hte2
      have HRI : Hid (lnT Q.c.root) := by rw [← hQ]; exact (run_inv l (PS.new pt) (PI.new pt) RI.new rfl).2.1.rt
      clear hQ
      generalize ((PS.new pt).run (l.take i)).taken = TI at *
      have hadd : (TI : Int) + ((Q.taken : Int) - (TI : Int)) = (Q.taken : Int) := by omega
      have hk0 : ¬ (k : Int) < (k : Int) := by omega
      go_wp2_with fail
      refine FC.mono ?_
      rintro e9 w9 ⟨rfl, C9⟩
      have H9 : Hid (FL w0 w w9 g B K pt l l.length) := C9
      clear C9 FC hcv hbc hL
      obtain ⟨fp9, P9, hfp9, k91, k92⟩ := H9.out.pw
      rw [List.take_length, HQ.out] at P9
      have CC := close_any g B Q fp9 w9 P9 HRI.out
      have HP9 : Hid ((∀ x ∈ fp9, w0.heap.size ≤ x) ∧ K ∉ fp9 ∧ K + 1 ∉ fp9 ∧ g < w9.heap.size) := ⟨hfp9, k91, k92, by have := P9.lt; omega⟩
      clear P9 hfp9 k91 k92
      go_wp2_with fail
      refine CC.mono ?_
      rintro e10 w10 ⟨⟨v, fr, rfl, hT, hN⟩, hp10⟩
      clear CC
      obtain ⟨fp10, P10, F10, S10⟩ := hp10
      have hU : Hid (PU w0 w10 g B Q.fin) := by
        refine ⟨H9.out.be.trans (F10.below H9.out.be.size H9.out.gb HP9.out.1), H9.out.gb, fp10, P10, fun x hx => ?_⟩
        rcases S10 x hx with h1 | h1
        · exact HP9.out.1 x h1
        · have := H9.out.be.size; omega
      have hn10 : Hid (K ∉ fp10 ∧ K + 1 ∉ fp10) := by
        refine ⟨fun hm => ?_, fun hm => ?_⟩
        · rcases S10 K hm with h1 | h1
          · exact HP9.out.2.1 h1
          · have := H9.out.s1.lt; omega
        · rcases S10 (K + 1) hm with h1 | h1
          · exact HP9.out.2.2.1 h1
          · have := H9.out.s2.lt; omega
      have hS1 : Hid (St w10 K [.int .i64 0, .bool false, .string ⟨#[]⟩, .slice none 0 0] ∧ St w10 (K + 1) [.int .i64 0, .int .i64 0]) := ⟨H9.out.s1.same F10.size (F10.keep K H9.out.s1.lt H9.out.kb.2.1 HP9.out.2.1), H9.out.s2.same F10.size (F10.keep (K + 1) H9.out.s2.lt H9.out.kb.2.2 HP9.out.2.2.1)⟩
      have HV : Hid (TrV w10 w9.heap.size Q.ansT v fr ∧ fr.Nodup ∧ w9.heap.size ≤ w10.heap.size) := ⟨hT, hN, F10.size⟩
      obtain ⟨xx, nn, cc, hxv⟩ : ∃ x n c, v = .slice x n c := by obtain ⟨x, c, h⟩ := hT.shape; exact ⟨x, _, c, h⟩
      subst hxv
      have HPP : Hid (PW w10 g B Q.fin fp10 ∧ (∀ x ∈ fp10, w0.heap.size ≤ x)) := ⟨P10, fun x hx => by
        rcases S10 x hx with h1 | h1
        · exact HP9.out.1 x h1
        · have := H9.out.be.size; omega⟩
      clear hT hN P10 F10 S10
      obtain ⟨T, hTT⟩ : ∃ T, Q.ansT = T := ⟨_, rfl⟩
      have HTT : Hid (Q.ansT = T) := hTT
      obtain ⟨F, hFF⟩ : ∃ F, Q.ansF = F := ⟨_, rfl⟩
      have HFF : Hid (Q.ansF = F) := hFF
      rw [hTT] at HV
      rw [hTT, hFF]
      clear hTT hFF
      obtain ⟨f1, f2⟩ := F
      go_upto_region 12 with fail
      have bB : Hid (Below w10.heap.size w10 ((w10.alloc (.cells #[.int .i64 T.k, .bool T.e, .string T.t, .slice xx nn cc] 25)).alloc (.cells #[.int .i64 f1, .int .i64 f2] 34))) := ((Below.refl _ _).alloc (Nat.le_refl _) _).alloc (by rw [World.size_alloc]; omega) _
      have s13 : Hid (St ((w10.alloc (.cells #[.int .i64 T.k, .bool T.e, .string T.t, .slice xx nn cc] 25)).alloc (.cells #[.int .i64 f1, .int .i64 f2] 34)) w10.heap.size [.int .i64 T.k, .bool T.e, .string T.t, .slice xx nn cc]) := (St.new w10 _ _).same (by simp only [World.size_alloc]; omega) (Below.heap_alloc _ _ _ (by rw [World.size_alloc]; omega))
      have s14 : Hid (St ((w10.alloc (.cells #[.int .i64 T.k, .bool T.e, .string T.t, .slice xx nn cc] 25)).alloc (.cells #[.int .i64 f1, .int .i64 f2] 34)) (w10.heap.size + 1) [.int .i64 f1, .int .i64 f2]) := by
        have := St.new (w10.alloc (.cells #[.int .i64 T.k, .bool T.e, .string T.t, .slice xx nn cc] 25)) #[.int .i64 f1, .int .i64 f2] 34
        rw [World.size_alloc] at this
        exact this
      have hKl : K < w10.heap.size := hS1.out.1.lt
      have hKl2 : K + 1 < w10.heap.size := hS1.out.2.lt
      obtain ⟨D, hD⟩ : ∃ D, w10.heap.size = D := ⟨_, rfl⟩
      have HD : Hid (w10.heap.size = D) := hD
      rw [hD] at s13 s14 bB hKl hKl2 ⊢
      clear hD
      generalize (w10.alloc (.cells #[.int .i64 T.k, .bool T.e, .string T.t, .slice xx nn cc] 25)).alloc (.cells #[.int .i64 f1, .int .i64 f2] 34) = w11 at *
      have hS2 : Hid (St w11 K [.int .i64 0, .bool false, .string ⟨#[]⟩, .slice none 0 0] ∧ St w11 (K + 1) [.int .i64 0, .int .i64 0]) := ⟨hS1.out.1.same bB.out.size (bB.out.block K (by omega)), hS1.out.2.same bB.out.size (bB.out.block (K + 1) (by omega))⟩
      have x0 := hS2.out.1.get 0 _ rfl
      have x1 := hS2.out.1.get 1 _ rfl
      have x2 := hS2.out.1.get 2 _ rfl
      have x3 := hS2.out.1.get 3 _ rfl
      have y0 := hS2.out.1.fr 0 (by show 0 < 4; decide)
      have y1 := hS2.out.1.fr 1 (by show 1 < 4; decide)
      have y2 := hS2.out.1.fr 2 (by show 2 < 4; decide)
      have y3 := hS2.out.1.fr 3 (by show 3 < 4; decide)
      have z0 := hS2.out.2.get 0 _ rfl
      have z1 := hS2.out.2.get 1 _ rfl
      have v0 := hS2.out.2.fr 0 (by show 0 < 2; decide)
      have v1 := hS2.out.2.fr 1 (by show 1 < 2; decide)
      have p0 := s13.out.get 0 _ rfl
      have p1 := s13.out.get 1 _ rfl
      have p2 := s13.out.get 2 _ rfl
      have p3 := s13.out.get 3 _ rfl
      have q0 := s14.out.get 0 _ rfl
      have q1 := s14.out.get 1 _ rfl
      have m1 : K ≠ D := by omega
      have m2 : K + 1 ≠ D := by omega
      have m3 : K ≠ D + 1 := by omega
      have m4 : K + 1 ≠ D + 1 := by omega
      have m1' : D ≠ K := by omega
      have m2' : D ≠ K + 1 := by omega
      have m3' : D + 1 ≠ K := by omega
      have m4' : D + 1 ≠ K + 1 := by omega
      go_region
      go_wp2
      have hW : Hid (St (put6 w11 K (K + 1) T.k T.e T.t (.slice xx nn cc) f1 f2).drew K [.int .i64 T.k, .bool T.e, .string T.t, .slice xx nn cc] ∧ St (put6 w11 K (K + 1) T.k T.e T.t (.slice xx nn cc) f1 f2).drew (K + 1) [.int .i64 f1, .int .i64 f2]) := by
        have s1 : St (set4 w11 K 0 T.k T.e T.t (.slice xx nn cc)) K [.int .i64 T.k, .bool T.e, .string T.t, .slice xx nn cc] := ((((hS2.out.1.set 0 (.int .i64 T.k) (by show 0 < 4; decide)).set 1 (.bool T.e) (by show 1 < 4; decide)).set 2 (.string T.t) (by show 2 < 4; decide)).set 3 (.slice xx nn cc) (by show 3 < 4; decide)).cast rfl
        have s2 : St (set4 w11 K 0 T.k T.e T.t (.slice xx nn cc)) (K + 1) [.int .i64 0, .int .i64 0] := hS2.out.2.same (by rw [set4_size]; exact Nat.le_refl _) (set4_other _ _ _ _ _ _ _ (K + 1) (by omega))
        have s3 : St (put6 w11 K (K + 1) T.k T.e T.t (.slice xx nn cc) f1 f2) K [.int .i64 T.k, .bool T.e, .string T.t, .slice xx nn cc] := s1.same (by unfold put6; rw [World.size_setCell, World.size_setCell]; exact Nat.le_refl _) ((Below.heap_setCell _ ⟨K + 1, 1, none⟩ _ K (by show K ≠ K + 1; omega)).trans (Below.heap_setCell _ ⟨K + 1, 0, none⟩ _ K (by show K ≠ K + 1; omega)))
        have s4 : St (put6 w11 K (K + 1) T.k T.e T.t (.slice xx nn cc) f1 f2) (K + 1) [.int .i64 f1, .int .i64 f2] := ((s2.set 0 (.int .i64 f1) (by show 0 < 2; decide)).set 1 (.int .i64 f2) (by show 1 < 2; decide)).cast rfl
        exact ⟨s3.drew, s4.drew⟩
      have hblk : ∀ b, b ≠ K → b ≠ K + 1 → b < D → (put6 w11 K (K + 1) T.k T.e T.t (.slice xx nn cc) f1 f2).drew.heap[b]? = w10.heap[b]? := fun b h1 h2 h3 => by
        rw [drew_heap]
        exact (put6_other w11 K (K + 1) T.k T.e T.t (.slice xx nn cc) f1 f2 b h1 h2).trans (bB.out.block b h3)
      have hsz9 : D ≤ (put6 w11 K (K + 1) T.k T.e T.t (.slice xx nn cc) f1 f2).drew.heap.size := by
        rw [drew_heap, put6_size, ← HD.out]
        exact bB.out.size
      have hbel : Below w0.heap.size w0 (put6 w11 K (K + 1) T.k T.e T.t (.slice xx nn cc) f1 f2).drew := by
        have b1 : Below w0.heap.size w0 w11 := hU.out.1.trans (bB.out.mono (by rw [← HD.out]; exact hU.out.1.size))
        have hk := H9.out.kb.1
        have b2 : Below w0.heap.size w0 (put6 w11 K (K + 1) T.k T.e T.t (.slice xx nn cc) f1 f2) := (((((b1.setCell (p := ⟨K, 0, none⟩) hk _).setCell (p := ⟨K, 0 + 1, none⟩) hk _).setCell (p := ⟨K, 0 + 2, none⟩) hk _).setCell (p := ⟨K, 0 + 3, none⟩) hk _).setCell (p := ⟨K + 1, 0, none⟩) (Nat.le_trans hk (Nat.le_succ _)) _).setCell (p := ⟨K + 1, 1, none⟩) (Nat.le_trans hk (Nat.le_succ _)) _
        exact b2.drew
      change bodyPost Try.prog _ _ _ _ (put6 w11 K (K + 1) T.k T.e T.t (.slice xx nn cc) f1 f2).drew
      generalize (put6 w11 K (K + 1) T.k T.e T.t (.slice xx nn cc) f1 f2).drew = W at *
      refine ret_nfi rfl rfl rfl rfl hW.out.1 hW.out.2 ?_
      rw [HQ.out]
      have hz9 := H9.out.sz
      refine ⟨⟨.slice xx nn cc, fr, by rw [HTT.out, HFF.out], ?_, HV.out.2.1⟩, ⟨hbel, H9.out.gb, fp10, HPP.out.1.same (by rw [HD.out]; exact hsz9) (hblk g (fun e => H9.out.kb.2.1 e.symm) (fun e => H9.out.kb.2.2 e.symm) (by have := HP9.out.2.2.2; have := HV.out.2.2; have := HD.out; omega)) (fun b hb => hblk b (fun e => hn10.out.1 (e ▸ hb)) (fun e => hn10.out.2 (e ▸ hb)) (by have := (HPP.out.1.lt.2.2 b hb).2; have := HD.out; omega)), HPP.out.2⟩, by have := HV.out.2.2; have := HD.out; omega⟩
      rw [HTT.out]
      refine TrV.low hz9 _ _ _ (TrV.same _ _ _ HV.out.1 (fun b hb => hblk b (fun e => ?_) (fun e => ?_) ?_))
      · have := (TrV.lt _ _ _ HV.out.1 b hb).1; have := H9.out.s1.lt; omega
      · have := (TrV.lt _ _ _ HV.out.1 b hb).1; have := H9.out.s2.lt; omega
      · have := (TrV.lt _ _ _ HV.out.1 b hb).2; have := HD.out; omega
end Go.Proofs.Ytpbgmknebhnonab
