/- The law PackChunks, walked. -/
import Derived.Test.YthjpmiidbgaiaaaPkW
import Derived.ChangeSlices
import Derived.Deep.LoopGhost
namespace Go.Proofs.Ythjpmiidbgaiaaa
open Go.RowKit

/-- What is still on has taken each byte. -/
theorem run_tk_on (l : List UInt8) : ∀ s : US, s.cl = false → s.code = 0 → (s.run l).code = 0 → (s.run l).tk = s.tk + l.length := by
  induction l with
  | nil => intro s _ _ _; rfl
  | cons b l ih =>
    intro s h1 h2 h3
    rw [US.run_cons] at h3 ⊢
    have hs := US.step_on s h1 h2 b
    by_cases hc : (s.look b).2.1 = 0
    · have e : s.step b = (s.look b).1.tick := by rw [hs]; unfold US.take; rw [if_pos hc]
      have := ih (s.step b) ((s.step_cl b).trans h1) (by rw [e]; show (s.look b).1.code = 0; rw [s.look_code]; exact h2) h3
      rw [this, e, List.length_cons]
      show (s.look b).1.tk + 1 + l.length = _
      rw [s.look_tk]; omega
    · exfalso
      have e : s.step b = (s.look b).1.fl (s.look b).2.1 (s.look b).2.2 := by rw [hs]; unfold US.take; rw [if_neg hc]
      rw [e, US.run_off _ (by unfold US.off US.fl; simp [hc])] at h3
      exact hc h3

/-- A slice of numbers that is only read. -/
def ISl (w : World) (x : Option Addr) (n : Nat) (f : Nat → Int) : Prop := ∀ i, i < n → ∃ a, x = some a ∧ w.cell? (a.add i) = some (.int .i64 (f i))
theorem ISl.below {w w' : World} {x : Option Addr} {n B : Nat} {f : Nat → Int} (h : ISl w x n f) (b : Below B w w') (hB : w.heap.size ≤ B) : ISl w' x n f := fun i hi => by
  obtain ⟨a, ha, hc⟩ := h i hi
  refine ⟨a, ha, ?_⟩
  have hl := World.block_lt_of_cell? _ _ hc
  rw [b.cell (p := a.add i) (by omega)]
  exact hc

/-- What is true between two pieces. -/
structure CLoop (w0 wr : World) (g : Nat) (l : List UInt8) (i : Nat) : Prop where
  ex : ∃ v, Up wr g v (u0.run (l.take i)) ∧ ∀ k, v.ownBlock = some k → w0.heap.size ≤ k
  be : Below w0.heap.size w0 wr
  le : i ≤ l.length
  gb : w0.heap.size ≤ g

theorem CLoop.feed {w0 wr : World} {g : Nat} {l : List UInt8} {i : Nat} (h : CLoop w0 wr g l i) (hl : l.length ≤ 1048576) (e : Nat) (hie : i ≤ e) (he : e ≤ l.length) :
    ∃ c w', (convert 9 45 (.string (ba (cutL l i e)))).run Try.prog wr = .ok (.slice (some ⟨wr.heap.size, 0, none⟩) (cutL l i e).length c) w' ∧
      Calls Try.prog 17 #[.pointer (some ⟨g, 0, none⟩), .slice (some ⟨wr.heap.size, 0, none⟩) (cutL l i e).length c] w' fun x w'' => x = .returned (.int .i64 (((u0.run (l.take e)).tk - (u0.run (l.take i)).tk : Nat) : Int)) ∧ CLoop w0 w'' g l e := by
  obtain ⟨v, U, hv⟩ := h.ex
  obtain ⟨c, w', hcv, hP, b2⟩ := BSl.conv wr (cutL l i e) g v U.lt (fun k hk => (U.buf.lt k hk).2)
  refine ⟨c, w', hcv, ?_⟩
  have hcl := cutL_length l i e he
  have htk := (US.run_tk (l.take i) u0).1
  rw [List.length_take] at htk
  have htk0 : u0.tk = 0 := rfl
  have hF := feed_any g v (u0.run (l.take i)) (some ⟨wr.heap.size, 0, none⟩) c (cutL l i e) w' (U.below b2) (UI.u0.run _) hP (by omega)
  have er : (u0.run (l.take i)).run (cutL l i e) = u0.run (l.take e) := by rw [← US.run_append, take_cut l i e hie he]
  rw [er] at hF
  refine hF.mono ?_
  rintro x w'' ⟨rfl, v', U', M'⟩
  have B2 : Below w0.heap.size w0 w' := h.be.trans ⟨b2.os, b2.tape, b2.output, b2.size, fun k hk => b2.block k (Nat.lt_of_lt_of_le hk h.be.size)⟩
  exact ⟨rfl, ⟨v', U', fun k hk => (M'.new k hk).elim (hv k) (fun q => Nat.le_trans B2.size q)⟩, B2.trans (M'.keeps w0.heap.size B2.size h.gb hv), he, h.gb⟩

set_option maxHeartbeats 8000000 in
set_option maxRecDepth 100000 in
theorem chunks_walk (b : ByteArray) (x : Option Addr) (n cp : Nat) (f : Nat → Int) (w : World) (hb : b.size ≤ 1048576) (hx : ISl w x n f) (hn : n ≤ 1048576) :
    Calls Try.prog 6 #[.string b, .slice x n cp] w fun e w' => e = .returned (.bool true) ∧ Below w.heap.size w w' := by
  obtain ⟨l, rfl⟩ : ∃ l, b = ba l := ⟨b.data.toList, (ba_list b).symm⟩
  have hsz := ba_size l
  rw [ba_size] at hb
  have HX : Hid (ISl w x n f) := hx
  have UC := fun w => unpack_any l w (by omega)
  clear hx
  go_enter Try.func6, Try.ntmps6
  go_wp2_with fail
  refine (awake_any _).mono ?_
  rintro e w1 ⟨rfl, B1⟩
  go_wp2_with fail
  refine (newU_any _).mono ?_
  rintro e w2 ⟨rfl, U2, B2⟩
  have HI : Hid (CLoop w w2 w1.heap.size l 0) := ⟨⟨_, U2, fun k h => by cases h⟩, bel_trans B1 B2, Nat.zero_le _, B1.size⟩
  clear B1 B2 U2
  generalize w1.heap.size = g at *
  have T0 : Hid ((u0.run (l.take 0)).tk = 0) := rfl
  go_wp2
  go_loopg [6, 7, 21] n (fun gk at' tk ix wr => ∃ (k i : Nat), Hid (gk + k = n) ∧ ix = .int .i64 k ∧ at' = .int .i64 i ∧ tk = .int .i64 ((u0.run (l.take i)).tk : Int) ∧ Hid (CLoop w wr g l i))
  case atStart => exact ⟨0, 0, rfl, rfl, rfl, rfl, HI⟩
  case round =>
    obtain ⟨k, i, hgk, rfl, rfl, rfl, hL⟩ := hrel
    clear HI T0
    have hil := hL.out.le
    have hti := (US.run_tk (l.take i) u0).1
    rw [List.length_take] at hti
    have hti2 : (u0.run (l.take i)).tk ≤ 1048576 := by have : u0.tk = 0 := rfl; omega
    clear hti
    by_cases hk : k < n
    · obtain ⟨a, hxa, hca⟩ := (HX.out.below hL.out.be (Nat.le_refl _)) k hk
      subst hxa
      by_cases hbad : f k < 0 ∨ (l.length : Int) - (i : Int) < f k
      · obtain ⟨d, hd⟩ : ∃ d : Nat, d = l.length - i := ⟨_, rfl⟩
        have hd1 : (l.length : Int) - (i : Int) = (d : Int) := by omega
        obtain ⟨e, he⟩ : ∃ e : Nat, e = i + d := ⟨_, rfl⟩
        have hE : (i : Int) + (d : Int) = (e : Int) := by omega
        have hel0 : e = l.length := by omega
        have hie : i ≤ e := by omega
        have hee : e ≤ l.length := by omega
        clear hd he hel0
        rw [hd1] at hbad
        by_cases hneg : f k < 0
        · clear hbad
          obtain ⟨c, w5, hcv, FC⟩ := hL.out.feed hb e (by omega) (by omega)
          have hbc : (ba l).extract i e = ba (cutL l i e) := ba_cut l i e (by omega) (by omega)
          have hmono : (u0.run (l.take i)).tk ≤ (u0.run (l.take e)).tk := by
            have := (US.run_tk (cutL l i e) (u0.run (l.take i))).2
            rw [← US.run_append, take_cut l i e (by omega) (by omega)] at this
            exact this
          have hte := (US.run_tk (l.take e) u0).1
          rw [List.length_take] at hte
          have hte2 : (u0.run (l.take e)).tk ≤ 1048576 := by have : u0.tk = 0 := rfl; omega
          clear hte
          have hadd : ((u0.run (l.take i)).tk : Int) + (((u0.run (l.take e)).tk - (u0.run (l.take i)).tk : Nat) : Int) = ((u0.run (l.take e)).tk : Int) := by omega
          generalize ((u0.run (l.take e)).tk - (u0.run (l.take i)).tk : Nat) = DD at FC hadd
          have HTE : Hid ((u0.run (l.take e)).tk = (u0.run (l.take e)).tk) := rfl
          generalize hTE : (u0.run (l.take e)).tk = TE at *
          have HTE2 : Hid ((u0.run (l.take e)).tk = TE) := hTE
          clear hTE HTE
          have hel : (e : Int) ≤ (l.length : Int) := by omega
          go_wp2_with fail
          refine FC.mono ?_
          rintro e9 w9 ⟨rfl, C9⟩
          have H9 : Hid (CLoop w w9 g l e) := C9
          clear C9 FC hcv hbc
          go_wp2
          go_roundg (gk - 1)
          case measure => have := hgk.out; omega
          case rel => exact ⟨k + 1, e, by have := hgk.out; unfold Hid; omega, by go_num, by go_num, by rw [HTE2.out], H9⟩
        · have hbig : (d : Int) < f k := hbad.resolve_left hneg
          clear hbad
          obtain ⟨c, w5, hcv, FC⟩ := hL.out.feed hb e (by omega) (by omega)
          have hbc : (ba l).extract i e = ba (cutL l i e) := ba_cut l i e (by omega) (by omega)
          have hmono : (u0.run (l.take i)).tk ≤ (u0.run (l.take e)).tk := by
            have := (US.run_tk (cutL l i e) (u0.run (l.take i))).2
            rw [← US.run_append, take_cut l i e (by omega) (by omega)] at this
            exact this
          have hte := (US.run_tk (l.take e) u0).1
          rw [List.length_take] at hte
          have hte2 : (u0.run (l.take e)).tk ≤ 1048576 := by have : u0.tk = 0 := rfl; omega
          clear hte
          have hadd : ((u0.run (l.take i)).tk : Int) + (((u0.run (l.take e)).tk - (u0.run (l.take i)).tk : Nat) : Int) = ((u0.run (l.take e)).tk : Int) := by omega
          generalize ((u0.run (l.take e)).tk - (u0.run (l.take i)).tk : Nat) = DD at FC hadd
          have HTE : Hid ((u0.run (l.take e)).tk = (u0.run (l.take e)).tk) := rfl
          generalize hTE : (u0.run (l.take e)).tk = TE at *
          have HTE2 : Hid ((u0.run (l.take e)).tk = TE) := hTE
          clear hTE HTE
          have hel : (e : Int) ≤ (l.length : Int) := by omega
          go_wp2_with fail
          refine FC.mono ?_
          rintro e9 w9 ⟨rfl, C9⟩
          have H9 : Hid (CLoop w w9 g l e) := C9
          clear C9 FC hcv hbc
          go_wp2
          go_roundg (gk - 1)
          case measure => have := hgk.out; omega
          case rel => exact ⟨k + 1, e, by have := hgk.out; unfold Hid; omega, by go_num, by go_num, by rw [HTE2.out], H9⟩
      · obtain ⟨d, hd⟩ : ∃ d : Nat, f k = (d : Int) := ⟨(f k).toNat, by omega⟩
        rw [hd] at hca hbad
        obtain ⟨e, he⟩ : ∃ e : Nat, e = i + d := ⟨_, rfl⟩
        have hE : (i : Int) + (d : Int) = (e : Int) := by omega
        have hie : i ≤ e := by omega
        have hee : e ≤ l.length := by omega
        have hn1 : ¬ (d : Int) < 0 := by omega
        have hn2 : ¬ (l.length : Int) - (i : Int) < (d : Int) := by omega
        clear hbad he hd
        obtain ⟨c, w5, hcv, FC⟩ := hL.out.feed hb e (by omega) (by omega)
        have hbc : (ba l).extract i e = ba (cutL l i e) := ba_cut l i e (by omega) (by omega)
        have hmono : (u0.run (l.take i)).tk ≤ (u0.run (l.take e)).tk := by
          have := (US.run_tk (cutL l i e) (u0.run (l.take i))).2
          rw [← US.run_append, take_cut l i e (by omega) (by omega)] at this
          exact this
        have hte := (US.run_tk (l.take e) u0).1
        rw [List.length_take] at hte
        have hte2 : (u0.run (l.take e)).tk ≤ 1048576 := by have : u0.tk = 0 := rfl; omega
        clear hte
        have hadd : ((u0.run (l.take i)).tk : Int) + (((u0.run (l.take e)).tk - (u0.run (l.take i)).tk : Nat) : Int) = ((u0.run (l.take e)).tk : Int) := by omega
        generalize ((u0.run (l.take e)).tk - (u0.run (l.take i)).tk : Nat) = DD at FC hadd
        have HTE : Hid ((u0.run (l.take e)).tk = (u0.run (l.take e)).tk) := rfl
        generalize hTE : (u0.run (l.take e)).tk = TE at *
        have HTE2 : Hid ((u0.run (l.take e)).tk = TE) := hTE
        clear hTE HTE
        have hel : (e : Int) ≤ (l.length : Int) := by omega
        go_wp2_with fail
        refine FC.mono ?_
        rintro e9 w9 ⟨rfl, C9⟩
        have H9 : Hid (CLoop w w9 g l e) := C9
        clear C9 FC hcv hbc
        go_wp2
        go_roundg (gk - 1)
        case measure => have := hgk.out; omega
        case rel => exact ⟨k + 1, e, by have := hgk.out; unfold Hid; omega, by go_num, by go_num, by rw [HTE2.out], H9⟩
    · obtain rfl : k = n := by have := hgk.out; omega
      obtain ⟨c, w5, hcv, FC⟩ := hL.out.feed hb l.length hil (Nat.le_refl _)
      have hbc : (ba l).extract i l.length = ba (cutL l i l.length) := ba_cut l i l.length hil (Nat.le_refl _)
      rw [List.take_length] at FC
      have hmono : (u0.run (l.take i)).tk ≤ (u0.run l).tk := by
        have := (US.run_tk (cutL l i l.length) (u0.run (l.take i))).2
        rw [← US.run_append, take_cut l i l.length hil (Nat.le_refl _), List.take_length] at this
        exact this
      have hte := (US.run_tk l u0).1
      have hte2 : (u0.run l).tk ≤ 1048576 := by have : u0.tk = 0 := rfl; omega
      have hon := run_tk_on l u0 rfl rfl
      have HS : Hid ((unp l).code = 0 → (u0.run l).tk = l.length) := fun h => by
        have hc : (u0.run l).code = 0 := by
          apply Classical.byContradiction
          intro hc
          unfold unp US.shut at h
          rw [if_neg (fun c => hc c.1)] at h
          exact hc h
        have := hon hc
        rw [this]
        show 0 + l.length = _
        omega
      have HTK : Hid ((unp l).tk = (u0.run l).tk) := by unfold Hid unp US.shut; split <;> rfl
      clear hte hon
      have hadd : ((u0.run (l.take i)).tk : Int) + (((u0.run l).tk - (u0.run (l.take i)).tk : Nat) : Int) = ((u0.run l).tk : Int) := by omega
      generalize ((u0.run l).tk - (u0.run (l.take i)).tk : Nat) = DD at FC hadd
      go_wp2_with fail
      refine FC.mono ?_
      rintro e9 w9 ⟨rfl, C9⟩
      obtain ⟨v9, U9, N9⟩ := C9.ex
      rw [List.take_length] at U9
      have CC := uclose_any g v9 _ w9 U9 (UI.u0.run l)
      have hunp : (u0.run l).shut = unp l := rfl
      rw [hunp] at CC
      have HB9 : Hid (Below w.heap.size w w9) := C9.be
      have HGB : Hid (w.heap.size ≤ g) := C9.gb
      have HN9 : Hid (∀ k, v9.ownBlock = some k → w.heap.size ≤ k) := N9
      clear C9 FC hcv hbc U9 N9
      have HTL : Hid ((u0.run l).tk = (u0.run l).tk) := rfl
      generalize (u0.run l).tk = TL at *
      generalize unp l = S at *
      go_wp2_with fail
      refine CC.mono ?_
      rintro e w10 ⟨rfl, v10, U10, M10⟩
      have q10 : Hid (St (w10.alloc (.cells #[.int .i64 (S.code : Int), .int .i64 (S.fat : Int)] 30)) w10.heap.size [.int .i64 (S.code : Int), .int .i64 (S.fat : Int)]) := St.new w10 _ _
      have HU10 : Hid (Up (w10.alloc (.cells #[.int .i64 (S.code : Int), .int .i64 (S.fat : Int)] 30)) g v10 S) := U10.alloc _
      have B10 := HB9.out.trans (M10.keeps w.heap.size HB9.out.size HGB.out HN9.out)
      have HB10 : Hid (Below w.heap.size w (w10.alloc (.cells #[.int .i64 (S.code : Int), .int .i64 (S.fat : Int)] 30))) := B10.alloc B10.size _
      clear CC U10 M10 B10
      go_wp2_with fail
      generalize w10.alloc (.cells #[.int .i64 (S.code : Int), .int .i64 (S.fat : Int)] 30) = w11 at q10 HU10 HB10 ⊢
      generalize w10.heap.size = G at *
      refine (UC _).mono ?_
      rintro e w12 ⟨rfl, B12⟩
      have q12 : Hid (St w12 G [.int .i64 (S.code : Int), .int .i64 (S.fat : Int)]) := q10.out.same B12.size (B12.block _ q10.out.lt)
      have HU13 : Hid (Up (w12.alloc (.cells #[.int .i64 (S.code : Int), .int .i64 (S.fat : Int)] 30)) g v10 S) := (HU10.out.below B12).alloc _
      have HB12 := bel_trans HB10.out B12
      have HB13 : Hid (Below w.heap.size w (w12.alloc (.cells #[.int .i64 (S.code : Int), .int .i64 (S.fat : Int)] 30))) := HB12.alloc HB12.size _
      have z0 := q12.out.get 0 _ rfl
      have z1 := q12.out.get 1 _ rfl
      have ltG := q12.out.lt
      have TC := utaken_any g v10 S _ HU13.out
      rw [HTK.out] at TC
      clear UC B12 HB12
      by_cases hc : S.code = 0
      · have hTL : TL = l.length := HS.out hc
        subst hTL
        have hcn : ((S.code : Int) != 0) = false := by simp [hc]
        clear hc
        go_wp2_with fail
        refine TC.mono ?_
        rintro e w14 ⟨rfl, rfl⟩
        go_wp2
        go_ret
        exact ⟨rfl, HB13.out⟩
      · have hcn : ((S.code : Int) != 0) = true := by simp; omega
        go_wp2_with fail
        refine TC.mono ?_
        rintro e w14 ⟨rfl, rfl⟩
        go_wp2
        go_ret
        exact ⟨rfl, HB13.out⟩

end Go.Proofs.Ythjpmiidbgaiaaa
