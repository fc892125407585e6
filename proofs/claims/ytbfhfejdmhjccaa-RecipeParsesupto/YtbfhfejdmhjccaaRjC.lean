/- The document's strs, walked. -/
import Derived.Test.YtbfhfejdmhjccaaRjB
namespace Go.Proofs.Ytbfhfejdmhjccaa
open Go.RowKit

/-- Texts between quotes, at least one, up to a closing byte. -/
def nl (cl : UInt8) (n : Nat) (l : List UInt8) : Rs (List (List UInt8)) := (quo l).bind fun v l => (lst cl quo n false l).cons v
/-- What the document's strs answers. -/
def StrsP (s : List UInt8) (B : Nat) (R : Rs (List (List UInt8))) (e : Ending) (w : World) : Prop :=
  match R with
  | .ok L m => ∃ v, e = .returned (.tuple #[v, .int .i64 ((s.length - m.length : Nat) : Int), .bool true]) ∧ TxS w B v L ∧ Sf s m
  | .bad m => e = .returned (.tuple #[.slice none 0 0, .int .i64 ((s.length - m.length : Nat) : Int), .bool false]) ∧ Sf s m
theorem ex1_ok {c : UInt8} {l m : List UInt8} {u : Unit} (h : ex [c] l = .ok u m) : l = c :: m := ex_one _ _ _ _ h
theorem ex1_bad {c : UInt8} {l m : List UInt8} (h : ex [c] l = .bad m) : l.head? ≠ some c ∧ m = l := by
  cases l with
  | nil => exact ⟨(by intro c; cases c), (by injection h with h; exact h.symm)⟩
  | cons y l =>
    rw [ex_cons] at h
    by_cases e : y = c
    · rw [if_pos e] at h
      cases h
    · rw [if_neg e] at h
      injection h with h
      exact ⟨by intro c; injection c with c; exact e c, h.symm⟩

set_option maxHeartbeats 16000000 in
theorem strs_any (s l : List UInt8) (cl : UInt8) (n : Nat) (nn : Bool) (hn : l.length ≤ n) (w : World) (hs : s.length ≤ 16777216) (h : Sf s l) :
    Calls Try.prog 21 #[.string (ba s), .int .i64 ((s.length - l.length : Nat) : Int), .string (ba [cl]), .bool nn] w fun e w' => StrsP s w.heap.size (if nn then lst cl quo (n + 1) true l else nl cl n l) e w' ∧ Below w.heap.size w w' := by
  have WC := word_any s l [cl] w hs (show 1 ≤ 1024 by decide) h
  generalize hR : (if nn then lst cl quo (n + 1) true l else nl cl n l) = R
  have hll := h.le
  have HS : Hid (Sf s l) := h
  have e44 : ba [44] = ⟨#[44]⟩ := rfl
  go_enter Try.func21, Try.ntmps21
  go_wp2_with fail
  refine WC.mono ?_
  rintro e w1 ⟨hW, q, rfl⟩
  clear WC h
  have key : ∃ (x : Nat) (b : Bool), e = .returned (.tuple #[.int .i64 ((x : Nat) : Int), .bool b]) ∧ ((b && nn) = true → ∃ m, x = s.length - m.length ∧ R = .ok [] m ∧ Sf s m) ∧ ((b && nn) = false → nl cl n l = R) := by
    cases hx : ex [cl] l with
    | ok u m =>
      rw [hx] at hW
      have hl := ex1_ok hx
      refine ⟨_, true, hW.1, fun hb => ⟨m, rfl, ?_, hW.2⟩, fun hb => ?_⟩
      · rw [← hR, show nn = true from hb, hl]
        exact lst_end _ _ _ _ _
      · rw [← hR, show nn = false from hb]
        rfl
    | bad m =>
      rw [hx] at hW
      refine ⟨_, false, hW.1, fun hb => (by cases hb), fun _ => ?_⟩
      rw [← hR]
      cases nn with
      | false => rfl
      | true =>
        show _ = lst cl quo (n + 1) true l
        rw [lst_step _ _ _ _ _ (ex1_bad hx).1]
        rfl
  obtain ⟨x, b, rfl, kT, kF⟩ := key
  clear hW hR
  have HB1 : Hid (Below w.heap.size w (w.drewN q)) := bel_drewN (Below.refl _ _) q
  generalize w.drewN q = w1 at HB1 ⊢
  cases b <;> cases nn
  case true.true =>
    have HT : Hid (∃ m, x = s.length - m.length ∧ R = .ok [] m ∧ Sf s m) := kT rfl
    clear kT kF
    go_wp2
    try rw [Exit.noGoto_ret]
    go_ret3
    obtain ⟨m, rfl, rfl, hm⟩ := HT.out
    exact ⟨⟨_, rfl, TxS.nil _ _, hm⟩, HB1.out⟩
  all_goals
    have HE1 : Hid (nl cl n l = R) := kF rfl
    clear kT kF
    go_wp2_with fail
    go_loopg [1, 11] l.length (fun gk av ov wr => ∃ (N : List UInt8) (L : List (List UInt8)) (p : Option Addr) (c f : Nat), av = .int .i64 ((s.length - N.length : Nat) : Int) ∧ ov = .slice p L.length c ∧ N.length ≤ gk ∧ N.length ≤ f ∧ Hid ((nl cl f N).pre L = R) ∧ Hid (Sf s N) ∧ Hid (TxS wr w.heap.size (.slice p L.length c) L) ∧ Hid (Below w.heap.size w wr) ∧ Hid (L.length + N.length ≤ s.length))
    case atStart => exact ⟨l, [], none, 0, n, rfl, rfl, Nat.le_refl _, hn, by unfold Hid; rw [pre_nil]; exact HE1.out, HS, TxS.nil _ _, HB1, by show 0 + l.length ≤ _; omega⟩
    case round =>
      obtain ⟨N, L, p, c, f, rfl, rfl, hgk, hf, hE, hS, hT, hB, hL⟩ := hrel
      clear HE1 HS HB1 hll hn
      have hL' := hL.out
      go_wp2_with fail
      refine (str_any s N wr hs hS.out).mono ?_
      rintro e w3 ⟨hP, q3⟩
      cases hq : quo N with
      | bad m =>
        rw [hq] at hP
        obtain ⟨rfl, hm⟩ := hP
        have HM : Hid (Sf s m) := hm
        have HR : Hid (R = .bad m) := by
          have := hE.out
          unfold nl at this
          rw [hq] at this
          exact this.symm
        have HB3 : Hid (Below w.heap.size w w3) := bel_trans hB.out q3
        clear hm hE hS hT hB hL q3 hq
        go_wp2
        try rw [Exit.noGoto_ret]
        go_ret3
        rw [HR.out]
        exact ⟨⟨rfl, HM.out⟩, HB3.out⟩
      | ok t m =>
        rw [hq] at hP
        obtain ⟨rfl, hm⟩ := hP
        have hlt : m.length < N.length := quo_lt hq
        have HE3 : Hid ((lst cl quo f false m).pre (L ++ [t]) = R) := by
          have := hE.out
          unfold nl at this
          rw [hq] at this
          unfold Hid
          rw [← pre_cons]
          exact this
        have HT3 : Hid (TxS w3 w.heap.size (.slice p L.length c) L) := hT.out.below q3
        have HB3 : Hid (Below w.heap.size w w3) := bel_trans hB.out q3
        have HM : Hid (Sf s m) := hm
        clear hE hS hT hB q3 hq hm
        obtain ⟨p5, c5, w5, hr5, T5, G5⟩ := HT3.out.app t HB3.out.size (by omega)
        have HT5 : Hid (TxS w5 w.heap.size (.slice p5 (L ++ [t]).length c5) (L ++ [t])) := T5
        have HB5 : Hid (Below w.heap.size w w5) := HB3.out.grown G5 HB3.out.size (fun k hk => (HT3.out.lt k hk).1)
        have hl5 : Hid ((L ++ [t]).length + m.length ≤ s.length) := by unfold Hid; rw [List.length_append]; show L.length + 1 + _ ≤ _; omega
        have HH : Hid ((L ++ [t]).length = L.length + 1) := by unfold Hid; rw [List.length_append]; rfl
        clear T5 G5 HT3 HB3
        go_wp2_with (first | (refine wpList_app_is (by rfl) 23 23 (.tmp 41) (.tmp 43) (by rfl) _ _ _ _ (by rfl) (by rfl) hr5 ?_))
        refine (word_any s m [cl] w5 hs (show 1 ≤ 1024 by decide) HM.out).mono ?_
        rintro e w6 ⟨hW, q6, rfl⟩
        obtain ⟨f, rfl⟩ : ∃ f', f = f' + 1 := ⟨f - 1, by omega⟩
        have HT6 : Hid (TxS (w5.drewN q6) w.heap.size (.slice p5 (L ++ [t]).length c5) (L ++ [t])) := HT5.out.same (fun k _ => rfl)
        have HB6 : Hid (Below w.heap.size w (w5.drewN q6)) := bel_drewN HB5.out q6
        generalize w5.drewN q6 = w6 at HT6 HB6 ⊢
        clear HT5 HB5
        cases hx : ex [cl] m with
        | ok u k =>
          rw [hx] at hW
          obtain ⟨rfl, hk⟩ := hW
          have HK : Hid (Sf s k) := hk
          have HR : Hid (R = .ok (L ++ [t]) k) := by
            have := HE3.out
            rw [ex1_ok hx, lst_end] at this
            unfold Hid
            rw [← this]
            show Rs.ok (L ++ [t] ++ []) k = _
            rw [List.append_nil]
          clear HE3 hx hk
          go_wp2
          try rw [Exit.noGoto_ret]
          go_ret3
          rw [HR.out]
          exact ⟨⟨_, rfl, (by have := HT6.out; rw [HH.out] at this; exact this), HK.out⟩, HB6.out⟩
        | bad k =>
          rw [hx] at hW
          obtain ⟨rfl, -⟩ := hW
          have HE6 : Hid (((ex [44] m).bind fun _ l => nl cl f l).pre (L ++ [t]) = R) := by
            have := HE3.out
            rw [lst_step _ _ _ _ _ (ex1_bad hx).1] at this
            exact this
          clear HE3 hx
          have WC := word_any s m [44] w6 hs (show 1 ≤ 1024 by decide) HM.out
          rw [e44] at WC
          go_wp2_with fail
          refine WC.mono ?_
          rintro e w7 ⟨hW, q7, rfl⟩
          clear WC
          have HT7 : Hid (TxS (w6.drewN q7) w.heap.size (.slice p5 (L ++ [t]).length c5) (L ++ [t])) := HT6.out.same (fun k _ => rfl)
          have HB7 : Hid (Below w.heap.size w (w6.drewN q7)) := bel_drewN HB6.out q7
          generalize w6.drewN q7 = w7 at HT7 HB7 ⊢
          clear HT6 HB6
          cases hx : ex [44] m with
          | bad k =>
            rw [hx] at hW HE6
            obtain ⟨rfl, hk⟩ := hW
            have HK : Hid (Sf s k) := hk
            clear hx hk
            go_wp2
            try rw [Exit.noGoto_ret]
            go_ret3
            rw [← HE6.out]
            exact ⟨⟨rfl, HK.out⟩, HB7.out⟩
          | ok u k =>
            have hkm : m.length = k.length + 1 := by rw [ex1_ok hx]; rfl
            rw [hx] at hW HE6
            obtain ⟨rfl, hk⟩ := hW
            have HK : Hid (Sf s k) := hk
            have hl7 : Hid ((L ++ [t]).length + k.length ≤ s.length) := by have := hl5.out; unfold Hid; omega
            clear hx hk
            go_wp2
            go_roundg (gk - 1)
            case measure => omega
            case rel => exact ⟨k, L ++ [t], p5, c5, f, rfl, (by rw [HH.out]), (by omega), (by omega), HE6, HK, HT7, HB7, hl7⟩

end Go.Proofs.Ytbfhfejdmhjccaa
