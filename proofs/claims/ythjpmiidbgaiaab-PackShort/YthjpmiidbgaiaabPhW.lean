/- The law PackShort, walked. -/
import Derived.Test.YthjpmiidbgaiaabPkW
namespace Go.Proofs.Ythjpmiidbgaiaab
open Go.RowKit

/-- What is still on has taken each byte. -/
theorem run_tk_on (l : List UInt8) : ∀ s : US, s.cl = false → s.code = 0 → (s.run l).code = 0 → (s.run l).tk = s.tk + l.length := by
  induction l with
  | nil => intro s _ _ _; rfl
  | cons b l ih =>
    intro s h1 h2 h3
    rw [US.run_cons] at h3 ⊢
    have hs := US.step_on s h1 h2 b
    by_cases hc : (s.look b).2.1 = 0
    · have e : s.step b = (s.look b).1.tick := by rw [hs]; unfold US.take; rw [if_pos hc]
      have := ih (s.step b) ((s.step_cl b).trans h1) (by rw [e]; show (s.look b).1.code = 0; rw [s.look_code]; exact h2) h3
      rw [this, e, List.length_cons]
      show (s.look b).1.tk + 1 + l.length = _
      rw [s.look_tk]; omega
    · exfalso
      have e : s.step b = (s.look b).1.fl (s.look b).2.1 (s.look b).2.2 := by rw [hs]; unfold US.take; rw [if_neg hc]
      rw [e, US.run_off _ (by unfold US.off US.fl; simp [hc])] at h3
      exact hc h3

/-- A beginning of what is packed is too short. -/
theorem pk_cut (s : List UInt8) (hs : s.length ≤ 1048576) (c : Nat) (hc : c < (pk s).length) : (unp ((pk s).take c)).tx = [] ∧ (unp ((pk s).take c)).code = 4 ∧ (unp ((pk s).take c)).fat = c := by
  obtain ⟨lk, nr, e⟩ := pk_run s hs
  have hsp : (pk s) = (pk s).take c ++ (pk s).drop c := (List.take_append_drop c _).symm
  have e2 : (u0.run ((pk s).take c)).run ((pk s).drop c) = US.t (pk s).length s.length s lk nr := by rw [← US.run_append, ← hsp, e]
  have hcd : (u0.run ((pk s).take c)).code = 0 := by
    apply Classical.byContradiction
    intro h
    rw [US.run_off _ (by unfold US.off; simp [h])] at e2
    apply h
    rw [e2]
    rfl
  have htk : (u0.run ((pk s).take c)).tk = c := by
    have := run_tk_on ((pk s).take c) u0 rfl rfl hcd
    rw [this, List.length_take]
    show 0 + min c (pk s).length = c
    omega
  have hwh : (u0.run ((pk s).take c)).wh = false := by
    apply Classical.byContradiction
    intro h
    have hw : (u0.run ((pk s).take c)).wh = true := by simpa using h
    obtain ⟨x, r, hd⟩ : ∃ x r, (pk s).drop c = x :: r := by
      cases hd : (pk s).drop c with
      | nil => have := congrArg List.length hd; rw [List.length_drop] at this; simp at this; omega
      | cons x r => exact ⟨x, r, rfl⟩
    have hph : (u0.run ((pk s).take c)).ph = 1 := by unfold US.wh at hw; simp at hw; exact hw.1
    rw [hd, US.run_cons, US.step_on _ ((US.run_cl _ u0).trans rfl) hcd, US.take1a _ _ hph hw, US.run_off _ (by unfold US.off US.fl; simp)] at e2
    have : (US.fl (u0.run ((pk s).take c)) 5 (u0.run ((pk s).take c)).tk).code = (US.t (pk s).length s.length s lk nr).code := by rw [e2]
    cases this
  unfold unp US.shut
  rw [if_pos ⟨hcd, hwh⟩]
  exact ⟨rfl, rfl, htk⟩

/-- A byte behind what is packed is one too many. -/
theorem pk_more (s : List UInt8) (hs : s.length ≤ 1048576) (x : UInt8) : (unp (pk s ++ [x])).code = 5 ∧ (unp (pk s ++ [x])).fat = (pk s).length := by
  obtain ⟨lk, nr, e⟩ := pk_run s hs
  unfold unp
  rw [US.run_append, e, t_trail _ _ _ _ _ _ _ (Nat.le_refl _)]
  unfold US.shut
  rw [if_neg (fun h => by cases h.1)]
  exact ⟨rfl, rfl⟩

theorem ba_one (x : UInt8) (w : World) (g c : Nat) (h : w.cell? ⟨g, 0, none⟩ = some (.int .u8 (x.toNat : Int))) (hf : w.frozen? ⟨g, 0, none⟩ = false) : (convert 30 9 (.slice (some ⟨g, 0, none⟩) 1 c)).run Try.prog w = .ok (.string (ba [x])) w := by
  have r := run_string_row (P := Try.prog) (w := w) (src := 30) (dst := 9) (c := c) Try.underlying30 Try.underlying5 Try.underlying9 (f := bt (ba [x])) (g := g) (n := 1) ⟨fun j hj => by
    obtain rfl : j = 0 := by omega
    rw [bt_ba _ _ (by simp)]
    exact h, fun j hj => by
    obtain rfl : j = 0 := by omega
    exact hf⟩
  have e : strFn 1 (bt (ba [x])) = ba [x] := by
    have := strFn_bt (ba [x])
    rw [ba_size] at this
    exact this
  rw [r, e]

set_option maxHeartbeats 2000000 in
set_option maxRecDepth 10000 in
theorem short_walk (s : ByteArray) (cut mb : Int) (w : World) (hs : s.size ≤ 9223372036854775807) (hc0 : -9223372036854775808 ≤ cut) (hc1 : cut ≤ 9223372036854775807) (hm0 : 0 ≤ mb) (hm1 : mb ≤ 255) : Calls Try.prog 3 #[.string s, .int .i64 cut, .int .u8 mb] w fun e w' => e = .returned (.bool true) ∧ Below w.heap.size w w' := by
  by_cases hb : 1048576 < s.size
  · go_enter Try.func3, Try.ntmps3
    go_wp2_with fail
    refine (awake_any _).mono ?_
    rintro e w1 ⟨rfl, B1⟩
    go_wp2_with fail
    refine (pk_big s w1 hb hs).mono ?_
    rintro e w2 ⟨rfl, rfl⟩
    go_wp2
    go_ret
    exact ⟨rfl, B1⟩
  · obtain ⟨l, rfl⟩ : ∃ l, s = ba l := ⟨s.data.toList, (ba_list s).symm⟩
    rw [ba_size] at hb hs
    obtain ⟨x, hx⟩ : ∃ x : UInt8, mb = (x.toNat : Int) := ⟨UInt8.ofNat mb.toNat, by rw [u8_of mb.toNat (by omega)]; omega⟩
    subst hx
    have hl := pk_len l
    have PC := fun w => pack_any l w (by omega)
    have UC := fun w => unpack_any (pk l ++ [x]) w (by rw [List.length_append]; show (pk l).length + 1 ≤ _; omega)
    obtain ⟨m1, m2⟩ := pk_more l (by omega) x
    rw [m1, m2, ba_append] at UC
    have CC : ∀ c, c < (pk l).length → ∀ w : World, Calls Try.prog 7 #[.string (ba ((pk l).take c))] w fun e w' => e = .returned (.tuple #[.string ⟨#[]⟩, .agg #[.int .i64 4, .int .i64 (c : Int)]]) ∧ Below w.heap.size w w' := fun c hc w => by
      have h := unpack_any ((pk l).take c) w (by rw [List.length_take]; omega)
      obtain ⟨h1, h2, h3⟩ := pk_cut l (by omega) c hc
      rw [h1, h2, h3] at h
      exact h
    have hpz := ba_size (pk l)
    generalize (unp (pk l ++ [x])).tx = TX at UC
    have hex : ∀ c, c ≤ (pk l).length → (ba (pk l)).extract 0 c = ba ((pk l).take c) := fun c hc => by
      have := ba_cut (pk l) 0 c (Nat.zero_le _) hc
      rw [this]
      rfl
    have HEX : Hid (∀ c, c ≤ (pk l).length → (ba (pk l)).extract 0 c = ba ((pk l).take c)) := hex
    have HCC : Hid (∀ c, c < (pk l).length → ∀ w : World, Calls Try.prog 7 #[.string (ba ((pk l).take c))] w fun e w' => e = .returned (.tuple #[.string ⟨#[]⟩, .agg #[.int .i64 4, .int .i64 (c : Int)]]) ∧ Below w.heap.size w w') := CC
    clear hex CC m1 m2
    generalize pk l = P at PC UC HCC hl hpz HEX
    have hPb : P.length ≤ 2097152 := by omega
    have hone : (ba [x]).size = 1 := ba_size _
    clear hl
    go_enter Try.func3, Try.ntmps3
    go_wp2_with fail
    refine (awake_any _).mono ?_
    rintro e w1 ⟨rfl, B1⟩
    go_wp2_with fail
    refine (PC _).mono ?_
    rintro e w2 ⟨rfl, B2⟩
    have HB2 : Hid (Below w.heap.size w (w2.alloc (.cells #[.int .u8 (x.toNat : Int)] 5))) := (bel_trans B1 B2).alloc (bel_trans B1 B2).size _
    have CV := ba_one x (w2.alloc (.cells #[.int .u8 (x.toNat : Int)] 5)) w2.heap.size 1 ((World.cell?_alloc_new w2 _ _ 0).trans rfl) (World.frozen?_alloc_new w2 _ _ _)
    clear PC B1 B2
    go_wp2_with fail
    refine (UC _).mono ?_
    rintro e w3 ⟨rfl, B3⟩
    have HB3 : Hid (Below w.heap.size w (w3.alloc (.cells #[.int .i64 5, .int .i64 (P.length : Int)] 27))) := (bel_trans HB2.out B3).alloc (bel_trans HB2.out B3).size _
    clear UC B3 CV
    by_cases hcut : cut < 0 ∨ (P.length : Int) ≤ cut
    · by_cases hc2 : cut < 0
      · go_wp2
        go_ret
        exact ⟨rfl, HB3.out⟩
      · have hc3 : (P.length : Int) ≤ cut := by omega
        go_wp2
        go_ret
        exact ⟨rfl, HB3.out⟩
    · obtain ⟨c, rfl⟩ : ∃ c : Nat, cut = (c : Int) := ⟨cut.toNat, by omega⟩
      have hcP : c < P.length := by omega
      have hc2 : ¬ (c : Int) < 0 := by omega
      have hc3 : ¬ (P.length : Int) ≤ (c : Int) := by omega
      have hec := HEX.out c (by omega)
      have UC2 := HCC.out c hcP
      rw [← hec] at UC2
      clear hcut HCC HEX hec
      go_wp2_with fail
      refine (UC2 _).mono ?_
      rintro e w5 ⟨rfl, B5⟩
      have HB5 : Hid (Below w.heap.size w (w5.alloc (.cells #[.int .i64 4, .int .i64 (c : Int)] 27))) := (bel_trans HB3.out B5).alloc (bel_trans HB3.out B5).size _
      clear UC2 B5
      go_wp2
      go_ret
      exact ⟨rfl, HB5.out⟩

end Go.Proofs.Ythjpmiidbgaiaab
