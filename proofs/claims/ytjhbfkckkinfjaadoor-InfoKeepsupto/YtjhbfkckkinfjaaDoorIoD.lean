/- info.Parse; walked. -/
import Derived.Test.YtjhbfkckkinfjaaDoorIoC
import Derived.Test.YtjhbfkckkinfjaaDoorInU
namespace Go.Proofs.YtjhbfkckkinfjaaDoor
open Go.RowKit Go.Shelf

/-- Parse as data: the rest of the text, the line's number, the info so far. -/
def pz : Nat → ByteArray → Nat → IS → IS × Int × Nat
  | 0, _, _, s => (s, 0, 0)
  | k + 1, t, n, s => if 4 ≤ n ∧ t.size = 0 then (s, 0, 0) else if ctF t 10 = false then (IS.zero, 150, n) else if tkC s n (ctA t 10) = 0 then pz k (ctB t 10) (n + 1) (tkS s n (ctA t 10)) else (IS.zero, tkC s n (ctA t 10), n)
def PZ (t : ByteArray) : IS × Int × Nat := pz (t.size + 1) t 0 IS.zero
theorem pz_done {k : Nat} {t : ByteArray} {n : Nat} {s : IS} (h : 4 ≤ n ∧ t.size = 0) : pz (k + 1) t n s = (s, 0, 0) := by rw [pz, if_pos h]
theorem pz_open {k : Nat} {t : ByteArray} {n : Nat} {s : IS} (h : ¬ (4 ≤ n ∧ t.size = 0)) (hf : ctF t 10 = false) : pz (k + 1) t n s = (IS.zero, 150, n) := by rw [pz, if_neg h, if_pos hf]
theorem pz_bad {k : Nat} {t : ByteArray} {n : Nat} {s : IS} (h : ¬ (4 ≤ n ∧ t.size = 0)) (hf : ctF t 10 = true) (hc : tkC s n (ctA t 10) ≠ 0) : pz (k + 1) t n s = (IS.zero, tkC s n (ctA t 10), n) := by rw [pz, if_neg h, if_neg (by rw [hf]; decide), if_neg hc]
theorem pz_next {k : Nat} {t : ByteArray} {n : Nat} {s : IS} (h : ¬ (4 ≤ n ∧ t.size = 0)) (hf : ctF t 10 = true) (hc : tkC s n (ctA t 10) = 0) : pz (k + 1) t n s = pz k (ctB t 10) (n + 1) (tkS s n (ctA t 10)) := by rw [pz, if_neg h, if_neg (by rw [hf]; decide), if_pos hc]
theorem ctB_lt {t : ByteArray} (h : ctF t 10 = true) : (ctB t 10).size + (ctA t 10).size + 1 = t.size := by
  have h1 : fst t 10 < t.size := of_decide_eq_true h
  unfold ctA ctB
  rw [if_pos h1, if_pos h1, ByteArray.size_extract, ByteArray.size_extract]
  omega
theorem OwnS.mono {w : World} {B B' : Nat} {v : Value} {L : List ByteArray} (h : OwnS w B v L) (e : B' ≤ B) : OwnS w B' v L := by
  obtain ⟨h0, h1 | ⟨g, cap, cur, hv, hb, hr⟩⟩ := h
  · exact ⟨h0, Or.inl h1⟩
  · exact ⟨h0, Or.inr ⟨g, cap, cur, hv, Nat.le_trans e hb, hr⟩⟩
theorem tkS_len (s : IS) (n : Nat) (l : ByteArray) : (tkS s n l).S.length ≤ s.S.length + 1 := by
  unfold tkS
  split
  · exact Nat.le_succ _
  split
  · exact Nat.le_succ _
  split
  · exact Nat.le_succ _
  split
  · exact Nat.le_succ _
  split
  · exact Nat.le_succ _
  · simp
set_option maxRecDepth 100000 in
theorem built_zero : Tryd.prog.built 26 [] = some (infC ⟨#[]⟩ (fun _ => 0) 0 (.slice none 0 0) ⟨#[]⟩ (.slice none 0 0)) := by kernel_rfl

set_option maxRecDepth 100000 in
set_option maxHeartbeats 4000000 in
theorem iparse_any (text : ByteArray) (w : World) (ht : text.size ≤ 8796093022000) :
    Calls Tryd.prog 9 #[.string text] w fun e w' => (∃ vr vs, e = .returned (.tuple #[.agg (infC (PZ text).1.P (PZ text).1.D (PZ text).1.z vr (PZ text).1.F vs), .agg #[.int .i64 (PZ text).2.1, .int .i64 ((PZ text).2.2 : Nat)]]) ∧ OwnR w' w.heap.size vr (PZ text).1.R ∧ OwnS w' w.heap.size vs (PZ text).1.S ∧ (∀ k, vr.ownBlock = some k → vs.ownBlock ≠ some k)) ∧ Below w.heap.size w w' := by
  have HT : Hid (text.size ≤ 8796093022000) := ht
  generalize hPZ : PZ text = pr
  clear ht
  go_enter Tryd.func9, Tryd.ntmps9
  rw [show (⟨#[10]⟩ : ByteArray) = nl from rfl]
  go_wp2
  rw [inf_zero]
  have J0 : Hid (Inf (((w.alloc (.cells (infC ⟨#[]⟩ (fun _ => 0) 0 (.slice none 0 0) ⟨#[]⟩ (.slice none 0 0)) 26)).alloc (.cells #[.int .i64 0, .int .i64 0] 34)).alloc (.cells (infC ⟨#[]⟩ (fun _ => 0) 0 (.slice none 0 0) ⟨#[]⟩ (.slice none 0 0)) 26)) w.heap.size ⟨#[]⟩ (fun _ => 0) 0 (.slice none 0 0) ⟨#[]⟩ (.slice none 0 0)) :=
    ((Inf.box w 26 _ _ _ _ _ _).same (Below.heap_alloc _ _ _ (by rw [World.size_alloc]; omega))).same (Below.heap_alloc _ _ _ (by rw [World.size_alloc, World.size_alloc]; omega))
  have F0 : Hid (Row .i64 (((w.alloc (.cells (infC ⟨#[]⟩ (fun _ => 0) 0 (.slice none 0 0) ⟨#[]⟩ (.slice none 0 0)) 26)).alloc (.cells #[.int .i64 0, .int .i64 0] 34)).alloc (.cells (infC ⟨#[]⟩ (fun _ => 0) 0 (.slice none 0 0) ⟨#[]⟩ (.slice none 0 0)) 26)) (w.heap.size + 1) 2 (fun _ => 0)) := by
    have := Row.arr (k := .i64) (w := w.alloc (.cells (infC ⟨#[]⟩ (fun _ => 0) 0 (.slice none 0 0) ⟨#[]⟩ (.slice none 0 0)) 26)) (e := 34) (C := #[.int .i64 0, .int .i64 0]) (n := 2) (f := fun _ => 0) (fun j hj => by rcases (show j = 0 ∨ j = 1 from by omega) with rfl | rfl <;> rfl)
    rw [World.size_alloc] at this
    exact this.alloc (by rw [World.size_alloc, World.size_alloc]; omega) _
  have I0 : Hid (Inf (((w.alloc (.cells (infC ⟨#[]⟩ (fun _ => 0) 0 (.slice none 0 0) ⟨#[]⟩ (.slice none 0 0)) 26)).alloc (.cells #[.int .i64 0, .int .i64 0] 34)).alloc (.cells (infC ⟨#[]⟩ (fun _ => 0) 0 (.slice none 0 0) ⟨#[]⟩ (.slice none 0 0)) 26)) (w.heap.size + 2) (lnP 0) (lnD 0) (lnZ 0) (.slice none 0 0) ⟨#[]⟩ (.slice none 0 0)) := by
    have := Inf.box ((w.alloc (.cells (infC ⟨#[]⟩ (fun _ => 0) 0 (.slice none 0 0) ⟨#[]⟩ (.slice none 0 0)) 26)).alloc (.cells #[.int .i64 0, .int .i64 0] 34)) 26 ⟨#[]⟩ (fun _ => 0) 0 (.slice none 0 0) ⟨#[]⟩ (.slice none 0 0)
    rw [World.size_alloc, World.size_alloc] at this
    exact this
  have B0 : Hid (Below w.heap.size w (((w.alloc (.cells (infC ⟨#[]⟩ (fun _ => 0) 0 (.slice none 0 0) ⟨#[]⟩ (.slice none 0 0)) 26)).alloc (.cells #[.int .i64 0, .int .i64 0] 34)).alloc (.cells (infC ⟨#[]⟩ (fun _ => 0) 0 (.slice none 0 0) ⟨#[]⟩ (.slice none 0 0)) 26))) :=
    (((Below.refl _ _).alloc (Nat.le_refl _) _).alloc (by rw [World.size_alloc]; omega) _).alloc (by rw [World.size_alloc, World.size_alloc]; omega) _
  generalize ((w.alloc (.cells (infC ⟨#[]⟩ (fun _ => 0) 0 (.slice none 0 0) ⟨#[]⟩ (.slice none 0 0)) 26)).alloc (.cells #[.int .i64 0, .int .i64 0] 34)).alloc (.cells (infC ⟨#[]⟩ (fun _ => 0) 0 (.slice none 0 0) ⟨#[]⟩ (.slice none 0 0)) 26) = w0 at J0 F0 I0 B0 ⊢
  go_loopw [0, 5] (fun tx xi wr => ∃ (t : ByteArray) (n k : Nat) (s : IS), xi = .int .i64 (n : Int) ∧ tx = .string t ∧ Hid (t.size + n ≤ text.size ∧ s.S.length ≤ n ∧ t.size < k ∧ pz k t n s = pr) ∧ Hid (IMx wr (w.heap.size + 2) n s) ∧ Hid (Inf wr w.heap.size ⟨#[]⟩ (fun _ => 0) 0 (.slice none 0 0) ⟨#[]⟩ (.slice none 0 0)) ∧ Hid (Row .i64 wr (w.heap.size + 1) 2 (fun _ => 0)) ∧ Hid (Below w.heap.size w wr)) (fun t _ _ => (match t with | .string x => x.size | _ => 0))
  case atStart => exact ⟨text, 0, text.size + 1, IS.zero, rfl, rfl, ⟨by omega, Nat.le_refl _, by omega, hPZ⟩, IM.start I0.out, J0, F0, B0⟩
  case round =>
  clear I0 J0 F0 B0
  obtain ⟨t, n, k, s, rfl, rfl, hZ, IR, JR, FR, BR⟩ := hrel
  obtain ⟨k, rfl⟩ : ∃ j, k = j + 1 := ⟨k - 1, by have := hZ.out; omega⟩
  by_cases hd : 4 ≤ n ∧ t.size = 0
  · obtain rfl : pr = (s, 0, 0) := hZ.out.2.2.2.symm.trans (pz_done hd)
    obtain ⟨vr, vs, B, h⟩ := IR.out
    have HM : Hid (IM wr (w.heap.size + 2) n s vr vs B) := h
    obtain ⟨xr, cr, rfl, _, _⟩ := h.refs.shape
    obtain ⟨xs, cz, rfl, _, _⟩ := h.signs.shape
    have he : t.toList.isEmpty = true := (empty_iff t).2 hd.2
    have hn4 : ¬ (n : Int) < 4 := by have := hd.1; omega
    have hz : Hid (w.heap.size + 2 < wr.heap.size) := h.inf.lt
    have IR' := h.inf
    have JR' := JR.out
    have c0 := FR.out.cell 0 (by omega)
    have c1 := FR.out.cell 1 (by omega)
    have f0 := FR.out.free 0 (by omega)
    have f1 := FR.out.free 1 (by omega)
    clear IR JR h hd hZ
    go_wp2_with (first
      | (refine wpList_load_inf (by rfl) (.tmp 4) (by rfl) (by rfl) IR' ?_)
      | (refine wpList_store_inf (by rfl) (.tmp 2) (.tmp 39) (by rfl) (by rfl) (by rfl) JR' rfl rfl (by rfl) ?_; intro W5 R5 U5; refine Hid.out ?_))
    unfold Hid
    have F5 : Row .i64 W5 (w.heap.size + 1) 2 (fun _ => 0) := FR.out.upd U5 (by have := hz.out; omega) (by omega)
    have B5 : Hid (Below w.heap.size w W5) := U5.below BR.out (Nat.le_refl _) (by have := hz.out; omega)
    have d0 := F5.cell 0 (by omega)
    have d1 := F5.cell 1 (by omega)
    have g0 := F5.free 0 (by omega)
    have g1 := F5.free 1 (by omega)
    have SM : Hid (∀ k, w.heap.size + 2 ≤ k → k < wr.heap.size → ((W5.setCell ⟨w.heap.size + 1, 0, none⟩ (.int .i64 0)).setCell ⟨w.heap.size + 1, 1, none⟩ (.int .i64 0)).heap[k]? = wr.heap[k]?) := fun k h1 h2 => by
      rw [Below.heap_setCell _ _ _ k (by show k ≠ w.heap.size + 1; omega), Below.heap_setCell _ _ _ k (by show k ≠ w.heap.size + 1; omega)]
      exact U5.block k h2 (by omega)
    clear c0 c1 f0 f1 FR BR
    go_wp2
    refine bodyPost_ret (results_cc Tryd.results9 _ _ w.heap.size (w.heap.size + 1) 0 0 rfl rfl (range_set (range_set R5 _ _ _ (by omega)) _ _ _ (by omega)) ?_ ?_) rfl ⟨⟨_, _, rfl, (HM.out.refs.same (fun k hk => SM.out k (by have := (HM.out.refs.ge hk).1; omega) (HM.out.refs.ge hk).2)).mono (by omega), (HM.out.signs.same (fun k hk => SM.out k (by have := (HM.out.signs.ge hk).1; have := HM.out.hg; omega) (HM.out.signs.ge hk).2)).mono (by have := HM.out.hg; omega), fun k hk hk2 => by have := HM.out.rb k hk; have := (HM.out.signs.ge hk2).1; omega⟩, (B5.out.setCell (by show _ ≤ w.heap.size + 1; omega) _).setCell (by show _ ≤ w.heap.size + 1; omega) _⟩
    · exact ((F5.set 0 0 (by omega)).set 1 0 (by omega)).cell 0 (by omega)
    · exact ((F5.set 0 0 (by omega)).set 1 0 (by omega)).cell 1 (by omega)
  · by_cases hn4 : (n : Int) < 4
    · skip
      have CC := cut_any t nl 10 wr rfl nl_bt (by have := hZ.out.1; have := HT.out; omega)
      cases hf : ctF t 10
      · obtain rfl : pr = (IS.zero, 150, n) := hZ.out.2.2.2.symm.trans (pz_open hd hf)
        rw [hf] at CC
        generalize ctA t 10 = la at CC
        generalize ctB t 10 = lb at CC
        have hn3 : Hid (n ≤ 8796093022000) := by have := hZ.out.1; have := HT.out; unfold Hid; omega
        clear hZ hd
        go_wp2_with fail
        refine CC.mono ?_
        clear CC
        rintro e w4 ⟨rfl, b4⟩
        have I4 : IMx w4 (w.heap.size + 2) n s := IR.out.below b4
        have J4 : Hid (Inf w4 w.heap.size ⟨#[]⟩ (fun _ => 0) 0 (.slice none 0 0) ⟨#[]⟩ (.slice none 0 0)) := JR.out.below b4 JR.out.lt
        have F4 : Hid (Row .i64 w4 (w.heap.size + 1) 2 (fun _ => 0)) := FR.out.below b4 (by have := IR.out.lt; omega)
        have B4 : Hid (Below w.heap.size w w4) := BR.out.trans (b4.mono BR.out.size)
        have z4 : Hid (w.heap.size + 2 < w4.heap.size) := I4.lt
        clear b4 IR JR FR BR
        have JR' := J4.out
        have c0 := F4.out.cell 0 (by omega)
        have c1 := F4.out.cell 1 (by omega)
        have f0 := F4.out.free 0 (by omega)
        have f1 := F4.out.free 1 (by omega)
        go_wp2_with (first
          | (refine wpList_build_some (by rfl) 26 _ (by rfl) (infC ⟨#[]⟩ (fun _ => 0) 0 (.slice none 0 0) ⟨#[]⟩ (.slice none 0 0)) _ (by rfl) built_zero ?_)
          | (refine wpList_store_inf (by rfl) (.tmp 2) (.tmp 26) (by rfl) (by rfl) (by first | exact congrArg Value.agg inf_zero | rfl) JR' rfl rfl (by rfl) ?_; intro W5 R5 U5; refine Hid.out ?_))
        unfold Hid
        have F5 : Row .i64 W5 (w.heap.size + 1) 2 (fun _ => 0) := F4.out.upd U5 (by have := z4.out; omega) (by omega)
        have B5 : Hid (Below w.heap.size w W5) := U5.below B4.out (Nat.le_refl _) (by have := z4.out; omega)
        have d0 := F5.cell 0 (by omega)
        have d1 := F5.cell 1 (by omega)
        have g0 := F5.free 0 (by omega)
        have g1 := F5.free 1 (by omega)
        clear c0 c1 f0 f1 F4 B4
        go_wp2
        refine bodyPost_ret (results_cc Tryd.results9 _ _ w.heap.size (w.heap.size + 1) 150 n rfl rfl (range_set (range_set R5 _ _ _ (by omega)) _ _ _ (by omega)) ?_ ?_) rfl ⟨⟨_, _, rfl, Or.inl ⟨rfl, rfl⟩, OwnS.nil _ _, fun k hk => by cases hk⟩, (B5.out.setCell (by show _ ≤ w.heap.size + 1; omega) _).setCell (by show _ ≤ w.heap.size + 1; omega) _⟩
        · exact ((F5.set 0 150 (by omega)).set 1 n (by omega)).cell 0 (by omega)
        · exact ((F5.set 0 150 (by omega)).set 1 n (by omega)).cell 1 (by omega)
      · rw [hf] at CC
        have hsz := ctB_lt hf
        have hn3 : Hid (n ≤ 8796093022000) := by have := hZ.out.1; have := HT.out; unfold Hid; omega
        have CL := fun W (h : IMx W (w.heap.size + 2) n s) => take_any (w.heap.size + 2) n s (ctA t 10) W h (by have := hZ.out.1; have := HT.out; omega) (by have := hZ.out.1; have := hZ.out.2.1; have := HT.out; omega) (by have := hn3.out; omega)
        by_cases hc : tkC s n (ctA t 10) = 0
        · have hZ2 : Hid ((ctB t 10).size + (n + 1) ≤ text.size ∧ (tkS s n (ctA t 10)).S.length ≤ n + 1 ∧ (ctB t 10).size < k ∧ pz k (ctB t 10) (n + 1) (tkS s n (ctA t 10)) = pr) := ⟨by have := hZ.out.1; omega, by have := tkS_len s n (ctA t 10); have := hZ.out.2.1; omega, by have := hZ.out.2.2.1; omega, (pz_next hd hf hc).symm.trans hZ.out.2.2.2⟩
          have hlt2 : Hid ((ctB t 10).size < t.size) := by unfold Hid; omega
          rw [hc] at CL
          generalize tkS s n (ctA t 10) = s' at CL hZ2
          generalize ctA t 10 = la at CC CL
          generalize ctB t 10 = lb at CC hZ2 hlt2
          clear hZ hd hc hsz
          go_wp2_with fail
          refine CC.mono ?_
          clear CC
          rintro e w4 ⟨rfl, b4⟩
          have I4 : IMx w4 (w.heap.size + 2) n s := IR.out.below b4
          have J4 : Hid (Inf w4 w.heap.size ⟨#[]⟩ (fun _ => 0) 0 (.slice none 0 0) ⟨#[]⟩ (.slice none 0 0)) := JR.out.below b4 JR.out.lt
          have F4 : Hid (Row .i64 w4 (w.heap.size + 1) 2 (fun _ => 0)) := FR.out.below b4 (by have := IR.out.lt; omega)
          have B4 : Hid (Below w.heap.size w w4) := BR.out.trans (b4.mono BR.out.size)
          have z4 : Hid (w.heap.size + 2 < w4.heap.size) := I4.lt
          clear b4 IR JR FR BR
          go_wp2_with fail
          refine (CL _ I4).mono ?_
          clear CL
          rintro e w5 ⟨rfl, I5, b5⟩
          have I6 : Hid (IMx w5 (w.heap.size + 2) (n + 1) s') := I5 trivial
          have J6 : Hid (Inf w5 w.heap.size ⟨#[]⟩ (fun _ => 0) 0 (.slice none 0 0) ⟨#[]⟩ (.slice none 0 0)) := J4.out.below b5 (by omega)
          have F6 : Hid (Row .i64 w5 (w.heap.size + 1) 2 (fun _ => 0)) := F4.out.below b5 (by omega)
          have B6 : Hid (Below w.heap.size w w5) := B4.out.trans (b5.mono (by omega))
          have hn5 := hn3.out
          clear I5 J4 F4 B4 b5 I4
          go_wp2
          go_roundw
          case rel => exact ⟨lb, n + 1, k, s', by go_num, rfl, hZ2, I6, J6, F6, B6⟩
          case measure => exact hlt2.out
        · obtain rfl : pr = (IS.zero, tkC s n (ctA t 10), n) := hZ.out.2.2.2.symm.trans (pz_bad hd hf hc)
          have hc' : (tkC s n (ctA t 10) != 0) = true := by rw [bne_iff_ne]; exact hc
          generalize hde : tkC s n (ctA t 10) = d at CL hc hc'
          have hdd : Hid (tkC s n (ctA t 10) = d) := hde
          clear hde
          generalize ctA t 10 = la at CC CL
          generalize ctB t 10 = lb at CC
          clear hZ hd hsz
          go_wp2_with fail
          refine CC.mono ?_
          clear CC
          rintro e w4 ⟨rfl, b4⟩
          have I4 : IMx w4 (w.heap.size + 2) n s := IR.out.below b4
          have J4 : Hid (Inf w4 w.heap.size ⟨#[]⟩ (fun _ => 0) 0 (.slice none 0 0) ⟨#[]⟩ (.slice none 0 0)) := JR.out.below b4 JR.out.lt
          have F4 : Hid (Row .i64 w4 (w.heap.size + 1) 2 (fun _ => 0)) := FR.out.below b4 (by have := IR.out.lt; omega)
          have B4 : Hid (Below w.heap.size w w4) := BR.out.trans (b4.mono BR.out.size)
          have z4 : Hid (w.heap.size + 2 < w4.heap.size) := I4.lt
          clear b4 IR JR FR BR
          go_wp2_with fail
          refine (CL _ I4).mono ?_
          clear CL
          rintro e w5 ⟨rfl, _, b5⟩
          have J6 : Hid (Inf w5 w.heap.size ⟨#[]⟩ (fun _ => 0) 0 (.slice none 0 0) ⟨#[]⟩ (.slice none 0 0)) := J4.out.below b5 (by omega)
          have F6 : Hid (Row .i64 w5 (w.heap.size + 1) 2 (fun _ => 0)) := F4.out.below b5 (by omega)
          have B6 : Hid (Below w.heap.size w w5) := B4.out.trans (b5.mono (by omega))
          have z6 : Hid (w.heap.size + 2 < w5.heap.size) := Nat.lt_of_lt_of_le z4.out b5.size
          clear J4 F4 B4 b5 I4 z4
          have JR' := J6.out
          have c0 := F6.out.cell 0 (by omega)
          have c1 := F6.out.cell 1 (by omega)
          have f0 := F6.out.free 0 (by omega)
          have f1 := F6.out.free 1 (by omega)
          go_wp2_with (first
            | (refine wpList_build_some (by rfl) 26 _ (by rfl) (infC ⟨#[]⟩ (fun _ => 0) 0 (.slice none 0 0) ⟨#[]⟩ (.slice none 0 0)) _ (by rfl) built_zero ?_)
            | (refine wpList_store_inf (by rfl) (.tmp 2) (.tmp 34) (by rfl) (by rfl) (by first | exact congrArg Value.agg inf_zero | rfl) JR' rfl rfl (by rfl) ?_; intro W5 R5 U5; refine Hid.out ?_))
          unfold Hid
          have F5 : Row .i64 W5 (w.heap.size + 1) 2 (fun _ => 0) := F6.out.upd U5 (by have := z6.out; omega) (by omega)
          have B5 : Hid (Below w.heap.size w W5) := U5.below B6.out (Nat.le_refl _) (by have := z6.out; omega)
          have d0 := F5.cell 0 (by omega)
          have d1 := F5.cell 1 (by omega)
          have g0 := F5.free 0 (by omega)
          have g1 := F5.free 1 (by omega)
          clear c0 c1 f0 f1 F6 B6
          go_wp2
          refine bodyPost_ret (results_cc Tryd.results9 _ _ w.heap.size (w.heap.size + 1) d n rfl rfl (range_set (range_set R5 _ _ _ (by omega)) _ _ _ (by omega)) ?_ ?_) rfl ⟨⟨_, _, by rw [hdd.out]; rfl, Or.inl ⟨rfl, rfl⟩, OwnS.nil _ _, fun k hk => by cases hk⟩, (B5.out.setCell (by show _ ≤ w.heap.size + 1; omega) _).setCell (by show _ ≤ w.heap.size + 1; omega) _⟩
          · exact ((F5.set 0 d (by omega)).set 1 n (by omega)).cell 0 (by omega)
          · exact ((F5.set 0 d (by omega)).set 1 n (by omega)).cell 1 (by omega)
    · have he : t.toList.isEmpty = false := by
        cases h : t.toList.isEmpty
        · rfl
        · exact absurd ⟨by omega, (empty_iff t).1 h⟩ hd
      have CC := cut_any t nl 10 wr rfl nl_bt (by have := hZ.out.1; have := HT.out; omega)
      cases hf : ctF t 10
      · obtain rfl : pr = (IS.zero, 150, n) := hZ.out.2.2.2.symm.trans (pz_open hd hf)
        rw [hf] at CC
        generalize ctA t 10 = la at CC
        generalize ctB t 10 = lb at CC
        have hn3 : Hid (n ≤ 8796093022000) := by have := hZ.out.1; have := HT.out; unfold Hid; omega
        clear hZ hd
        go_wp2_with fail
        refine CC.mono ?_
        clear CC
        rintro e w4 ⟨rfl, b4⟩
        have I4 : IMx w4 (w.heap.size + 2) n s := IR.out.below b4
        have J4 : Hid (Inf w4 w.heap.size ⟨#[]⟩ (fun _ => 0) 0 (.slice none 0 0) ⟨#[]⟩ (.slice none 0 0)) := JR.out.below b4 JR.out.lt
        have F4 : Hid (Row .i64 w4 (w.heap.size + 1) 2 (fun _ => 0)) := FR.out.below b4 (by have := IR.out.lt; omega)
        have B4 : Hid (Below w.heap.size w w4) := BR.out.trans (b4.mono BR.out.size)
        have z4 : Hid (w.heap.size + 2 < w4.heap.size) := I4.lt
        clear b4 IR JR FR BR
        have JR' := J4.out
        have c0 := F4.out.cell 0 (by omega)
        have c1 := F4.out.cell 1 (by omega)
        have f0 := F4.out.free 0 (by omega)
        have f1 := F4.out.free 1 (by omega)
        go_wp2_with (first
          | (refine wpList_build_some (by rfl) 26 _ (by rfl) (infC ⟨#[]⟩ (fun _ => 0) 0 (.slice none 0 0) ⟨#[]⟩ (.slice none 0 0)) _ (by rfl) built_zero ?_)
          | (refine wpList_store_inf (by rfl) (.tmp 2) (.tmp 26) (by rfl) (by rfl) (by first | exact congrArg Value.agg inf_zero | rfl) JR' rfl rfl (by rfl) ?_; intro W5 R5 U5; refine Hid.out ?_))
        unfold Hid
        have F5 : Row .i64 W5 (w.heap.size + 1) 2 (fun _ => 0) := F4.out.upd U5 (by have := z4.out; omega) (by omega)
        have B5 : Hid (Below w.heap.size w W5) := U5.below B4.out (Nat.le_refl _) (by have := z4.out; omega)
        have d0 := F5.cell 0 (by omega)
        have d1 := F5.cell 1 (by omega)
        have g0 := F5.free 0 (by omega)
        have g1 := F5.free 1 (by omega)
        clear c0 c1 f0 f1 F4 B4
        go_wp2
        refine bodyPost_ret (results_cc Tryd.results9 _ _ w.heap.size (w.heap.size + 1) 150 n rfl rfl (range_set (range_set R5 _ _ _ (by omega)) _ _ _ (by omega)) ?_ ?_) rfl ⟨⟨_, _, rfl, Or.inl ⟨rfl, rfl⟩, OwnS.nil _ _, fun k hk => by cases hk⟩, (B5.out.setCell (by show _ ≤ w.heap.size + 1; omega) _).setCell (by show _ ≤ w.heap.size + 1; omega) _⟩
        · exact ((F5.set 0 150 (by omega)).set 1 n (by omega)).cell 0 (by omega)
        · exact ((F5.set 0 150 (by omega)).set 1 n (by omega)).cell 1 (by omega)
      · rw [hf] at CC
        have hsz := ctB_lt hf
        have hn3 : Hid (n ≤ 8796093022000) := by have := hZ.out.1; have := HT.out; unfold Hid; omega
        have CL := fun W (h : IMx W (w.heap.size + 2) n s) => take_any (w.heap.size + 2) n s (ctA t 10) W h (by have := hZ.out.1; have := HT.out; omega) (by have := hZ.out.1; have := hZ.out.2.1; have := HT.out; omega) (by have := hn3.out; omega)
        by_cases hc : tkC s n (ctA t 10) = 0
        · have hZ2 : Hid ((ctB t 10).size + (n + 1) ≤ text.size ∧ (tkS s n (ctA t 10)).S.length ≤ n + 1 ∧ (ctB t 10).size < k ∧ pz k (ctB t 10) (n + 1) (tkS s n (ctA t 10)) = pr) := ⟨by have := hZ.out.1; omega, by have := tkS_len s n (ctA t 10); have := hZ.out.2.1; omega, by have := hZ.out.2.2.1; omega, (pz_next hd hf hc).symm.trans hZ.out.2.2.2⟩
          have hlt2 : Hid ((ctB t 10).size < t.size) := by unfold Hid; omega
          rw [hc] at CL
          generalize tkS s n (ctA t 10) = s' at CL hZ2
          generalize ctA t 10 = la at CC CL
          generalize ctB t 10 = lb at CC hZ2 hlt2
          clear hZ hd hc hsz
          go_wp2_with fail
          refine CC.mono ?_
          clear CC
          rintro e w4 ⟨rfl, b4⟩
          have I4 : IMx w4 (w.heap.size + 2) n s := IR.out.below b4
          have J4 : Hid (Inf w4 w.heap.size ⟨#[]⟩ (fun _ => 0) 0 (.slice none 0 0) ⟨#[]⟩ (.slice none 0 0)) := JR.out.below b4 JR.out.lt
          have F4 : Hid (Row .i64 w4 (w.heap.size + 1) 2 (fun _ => 0)) := FR.out.below b4 (by have := IR.out.lt; omega)
          have B4 : Hid (Below w.heap.size w w4) := BR.out.trans (b4.mono BR.out.size)
          have z4 : Hid (w.heap.size + 2 < w4.heap.size) := I4.lt
          clear b4 IR JR FR BR
          go_wp2_with fail
          refine (CL _ I4).mono ?_
          clear CL
          rintro e w5 ⟨rfl, I5, b5⟩
          have I6 : Hid (IMx w5 (w.heap.size + 2) (n + 1) s') := I5 trivial
          have J6 : Hid (Inf w5 w.heap.size ⟨#[]⟩ (fun _ => 0) 0 (.slice none 0 0) ⟨#[]⟩ (.slice none 0 0)) := J4.out.below b5 (by omega)
          have F6 : Hid (Row .i64 w5 (w.heap.size + 1) 2 (fun _ => 0)) := F4.out.below b5 (by omega)
          have B6 : Hid (Below w.heap.size w w5) := B4.out.trans (b5.mono (by omega))
          have hn5 := hn3.out
          clear I5 J4 F4 B4 b5 I4
          go_wp2
          go_roundw
          case rel => exact ⟨lb, n + 1, k, s', by go_num, rfl, hZ2, I6, J6, F6, B6⟩
          case measure => exact hlt2.out
        · obtain rfl : pr = (IS.zero, tkC s n (ctA t 10), n) := hZ.out.2.2.2.symm.trans (pz_bad hd hf hc)
          have hc' : (tkC s n (ctA t 10) != 0) = true := by rw [bne_iff_ne]; exact hc
          generalize hde : tkC s n (ctA t 10) = d at CL hc hc'
          have hdd : Hid (tkC s n (ctA t 10) = d) := hde
          clear hde
          generalize ctA t 10 = la at CC CL
          generalize ctB t 10 = lb at CC
          clear hZ hd hsz
          go_wp2_with fail
          refine CC.mono ?_
          clear CC
          rintro e w4 ⟨rfl, b4⟩
          have I4 : IMx w4 (w.heap.size + 2) n s := IR.out.below b4
          have J4 : Hid (Inf w4 w.heap.size ⟨#[]⟩ (fun _ => 0) 0 (.slice none 0 0) ⟨#[]⟩ (.slice none 0 0)) := JR.out.below b4 JR.out.lt
          have F4 : Hid (Row .i64 w4 (w.heap.size + 1) 2 (fun _ => 0)) := FR.out.below b4 (by have := IR.out.lt; omega)
          have B4 : Hid (Below w.heap.size w w4) := BR.out.trans (b4.mono BR.out.size)
          have z4 : Hid (w.heap.size + 2 < w4.heap.size) := I4.lt
          clear b4 IR JR FR BR
          go_wp2_with fail
          refine (CL _ I4).mono ?_
          clear CL
          rintro e w5 ⟨rfl, _, b5⟩
          have J6 : Hid (Inf w5 w.heap.size ⟨#[]⟩ (fun _ => 0) 0 (.slice none 0 0) ⟨#[]⟩ (.slice none 0 0)) := J4.out.below b5 (by omega)
          have F6 : Hid (Row .i64 w5 (w.heap.size + 1) 2 (fun _ => 0)) := F4.out.below b5 (by omega)
          have B6 : Hid (Below w.heap.size w w5) := B4.out.trans (b5.mono (by omega))
          have z6 : Hid (w.heap.size + 2 < w5.heap.size) := Nat.lt_of_lt_of_le z4.out b5.size
          clear J4 F4 B4 b5 I4 z4
          have JR' := J6.out
          have c0 := F6.out.cell 0 (by omega)
          have c1 := F6.out.cell 1 (by omega)
          have f0 := F6.out.free 0 (by omega)
          have f1 := F6.out.free 1 (by omega)
          go_wp2_with (first
            | (refine wpList_build_some (by rfl) 26 _ (by rfl) (infC ⟨#[]⟩ (fun _ => 0) 0 (.slice none 0 0) ⟨#[]⟩ (.slice none 0 0)) _ (by rfl) built_zero ?_)
            | (refine wpList_store_inf (by rfl) (.tmp 2) (.tmp 34) (by rfl) (by rfl) (by first | exact congrArg Value.agg inf_zero | rfl) JR' rfl rfl (by rfl) ?_; intro W5 R5 U5; refine Hid.out ?_))
          unfold Hid
          have F5 : Row .i64 W5 (w.heap.size + 1) 2 (fun _ => 0) := F6.out.upd U5 (by have := z6.out; omega) (by omega)
          have B5 : Hid (Below w.heap.size w W5) := U5.below B6.out (Nat.le_refl _) (by have := z6.out; omega)
          have d0 := F5.cell 0 (by omega)
          have d1 := F5.cell 1 (by omega)
          have g0 := F5.free 0 (by omega)
          have g1 := F5.free 1 (by omega)
          clear c0 c1 f0 f1 F6 B6
          go_wp2
          refine bodyPost_ret (results_cc Tryd.results9 _ _ w.heap.size (w.heap.size + 1) d n rfl rfl (range_set (range_set R5 _ _ _ (by omega)) _ _ _ (by omega)) ?_ ?_) rfl ⟨⟨_, _, by rw [hdd.out]; rfl, Or.inl ⟨rfl, rfl⟩, OwnS.nil _ _, fun k hk => by cases hk⟩, (B5.out.setCell (by show _ ≤ w.heap.size + 1; omega) _).setCell (by show _ ≤ w.heap.size + 1; omega) _⟩
          · exact ((F5.set 0 d (by omega)).set 1 n (by omega)).cell 0 (by omega)
          · exact ((F5.set 0 d (by omega)).set 1 n (by omega)).cell 1 (by omega)

end Go.Proofs.YtjhbfkckkinfjaaDoor
