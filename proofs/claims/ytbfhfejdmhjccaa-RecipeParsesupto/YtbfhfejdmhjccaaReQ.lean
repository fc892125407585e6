/- within, quoted, walked. -/
import Derived.Test.YtbfhfejdmhjccaaReM
namespace Go.Proofs.Ytbfhfejdmhjccaa
open Go.RowKit

/-- What stands for one byte between quotes. -/
def wth : List UInt8 → Rs UInt8
  | [] => .bad []
  | x :: l =>
    if x = 92 then
      match l with
      | [] => .bad []
      | y :: l' => match une y with
        | some b => .ok b l'
        | none => .bad (y :: l')
    else if x = 34 ∨ x = 10 ∨ x = 9 then .bad (x :: l)
    else .ok x l
theorem wth_esc (y : UInt8) (l : List UInt8) : wth (92 :: y :: l) = (match une y with | some b => .ok b l | none => .bad (y :: l)) := by
  unfold wth; dsimp only; rw [if_pos rfl]
theorem wth_one : wth [92] = .bad [] := by
  unfold wth; dsimp only; rw [if_pos rfl]
theorem wth_pl (x : UInt8) (l : List UInt8) (hx : x ≠ 92) : wth (x :: l) = if x = 34 ∨ x = 10 ∨ x = 9 then .bad (x :: l) else .ok x l := by
  unfold wth; dsimp only; rw [if_neg hx]
theorem qt_end (l : List UInt8) : qt (34 :: l) = .ok [] l := by unfold qt; rw [if_pos rfl]
theorem qt_step (l : List UInt8) (h : l.head? ≠ some 34) : qt l = (wth l).bind fun b m => (qt m).cons b := by
  cases l with
  | nil => unfold qt; rfl
  | cons x l =>
    have hx : x ≠ 34 := fun e => h (by rw [e]; rfl)
    by_cases e2 : x = 92
    · subst e2
      cases l with
      | nil => rw [wth_one, qt, if_neg hx, if_pos rfl]; rfl
      | cons y l =>
        rw [wth_esc, qt, if_neg hx, if_pos rfl]
        cases une y <;> rfl
    · rw [wth_pl x l e2]
      conv => lhs; unfold qt
      rw [if_neg hx, if_neg e2]
      by_cases e3 : x = 10 ∨ x = 9
      · rw [if_pos e3, if_pos (.inr e3)]; rfl
      · rw [if_neg e3, if_neg (fun c => c.elim hx e3)]; rfl
theorem indexByte_none (l : List UInt8) (c : UInt8) (h : ∀ b ∈ l, b ≠ c) : Lib.indexByte l c = -1 := by
  induction l with
  | nil => rfl
  | cons b l ih =>
    have h1 := ih (fun x hx => h x (List.mem_cons_of_mem _ hx))
    have h2 := h b (List.mem_cons_self ..)
    unfold Lib.indexByte
    rw [if_neg (by simpa using h2), h1]
    rfl
theorem u8_back (y : UInt8) : (y.toNat : Int).toNat.toUInt8 = y := by
  rw [Int.toNat_natCast]
  simp
theorem une_some {y b : UInt8} (h : une y = some b) : ∃ k : Nat, k < 4 ∧ Lib.indexByte [34, 92, 110, 116] y = (k : Int) ∧ bt ⟨#[34, 92, 10, 9]⟩ k = (b.toNat : Int) := by
  unfold une at h
  by_cases h1 : y = 34
  · rw [if_pos h1] at h; cases h; subst h1; exact ⟨0, by decide, by decide, by decide⟩
  · rw [if_neg h1] at h
    by_cases h2 : y = 92
    · rw [if_pos h2] at h; cases h; subst h2; exact ⟨1, by decide, by decide, by decide⟩
    · rw [if_neg h2] at h
      by_cases h3 : y = 110
      · rw [if_pos h3] at h; cases h; subst h3; exact ⟨2, by decide, by decide, by decide⟩
      · rw [if_neg h3] at h
        by_cases h4 : y = 116
        · rw [if_pos h4] at h; cases h; subst h4; exact ⟨3, by decide, by decide, by decide⟩
        · rw [if_neg h4] at h; cases h
theorem une_none {y : UInt8} (h : une y = none) : Lib.indexByte [34, 92, 110, 116] y = -1 := by
  apply indexByte_none
  intro b hb e
  subst e
  simp only [List.mem_cons, List.not_mem_nil, or_false] at hb
  rcases hb with rfl | rfl | rfl | rfl <;> cases h
theorem esc_in {x : UInt8} (h : x = 34 ∨ x = 10 ∨ x = 9) : ∃ k : Nat, Lib.indexByte [34, 92, 10, 9] x = (k : Int) := by
  rcases h with rfl | rfl | rfl
  · exact ⟨0, by decide⟩
  · exact ⟨2, by decide⟩
  · exact ⟨3, by decide⟩
theorem esc_out {x : UInt8} (h1 : x ≠ 92) (h : ¬ (x = 34 ∨ x = 10 ∨ x = 9)) : Lib.indexByte [34, 92, 10, 9] x = -1 := by
  apply indexByte_none
  intro b hb e
  subst e
  simp only [List.mem_cons, List.not_mem_nil, or_false] at hb
  rcases hb with rfl | rfl | rfl | rfl
  · exact h (.inl rfl)
  · exact h1 rfl
  · exact h (.inr (.inl rfl))
  · exact h (.inr (.inr rfl))

set_option maxHeartbeats 2000000 in
theorem within_any (g : Nat) (s l : List UInt8) (w : World) (hs : s.length ≤ 1073741824) (h : Ps w g s l) :
    Calls Try.prog 41 #[.pointer (some ⟨g, 0, none⟩)] w fun e w' => Out s g w (wth l) (fun b x _ => x = .int .u8 (b.toNat : Int)) e w' := by
  have h92 : ((92 : UInt8).toNat : Int) = 92 := rfl
  by_cases hc : l.head? = some 92
  · obtain ⟨l, rfl⟩ : ∃ m', l = 92 :: m' := by
      cases l with
      | nil => cases hc
      | cons y m' => injection hc with hc; exact ⟨m', by rw [hc]⟩
    have SC := skip_yes g s l 92 w hs h
    rw [h92] at SC
    clear hc h
    cases l with
    | nil =>
      go_enter Try.func41, Try.ntmps41
      go_wp2_with fail
      refine SC.mono ?_
      rintro e w1 ⟨rfl, P1, M1⟩
      have HM : Hid (Pm g w w1) := M1
      have HP : Hid (Ps w1 g s []) := P1
      clear SC P1 M1
      go_wp2_with fail
      refine (next_none g s w1 HP.out).mono ?_
      rintro e w2 ⟨rfl, M2⟩
      go_wp2
      exact ⟨rfl, rfl, HM.out.trans M2⟩
    | cons y l =>
      cases hu : une y with
      | none =>
        have hI := une_none hu
        have IC := fun W => ib_any ⟨#[34, 92, 110, 116]⟩ (y.toNat : Int) W
        rw [u8_back, show (⟨#[34, 92, 110, 116]⟩ : ByteArray).data.toList = [34, 92, 110, 116] from rfl, hI] at IC
        have HB : Hid (wth (92 :: y :: l) = .bad (y :: l)) := by unfold Hid; rw [wth_esc, hu]
        clear hI hu
        generalize wth (92 :: y :: l) = R at HB
        go_enter Try.func41, Try.ntmps41
        go_wp2_with fail
        refine SC.mono ?_
        rintro e w1 ⟨rfl, P1, M1⟩
        have HM : Hid (Pm g w w1) := M1
        have HP : Hid (Ps w1 g s (y :: l)) := P1
        clear SC P1 M1
        go_wp2_with fail
        refine (next_some g s l y w1 HP.out).mono ?_
        rintro e w2 ⟨rfl, P2, M2⟩
        have HM2 : Hid (Pm g w w2) := HM.out.trans M2
        have HP2 : Hid (Ps w2 g s (y :: l)) := P2
        clear HM HP P2 M2
        go_wp2_with fail
        refine (IC w2).mono ?_
        rintro e w3 ⟨rfl, rfl⟩
        clear IC
        go_wp2_with fail
        refine (give_any g s (y :: l) w3 HP2.out).mono ?_
        rintro e w4 ⟨rfl, rfl⟩
        go_wp2
        refine ⟨rfl, ?_⟩
        rw [HB.out]
        exact ⟨rfl, HM2.out⟩
      | some b =>
        obtain ⟨k, hk, hI, hb⟩ := une_some hu
        have IC := fun W => ib_any ⟨#[34, 92, 110, 116]⟩ (y.toNat : Int) W
        rw [u8_back, show (⟨#[34, 92, 110, 116]⟩ : ByteArray).data.toList = [34, 92, 110, 116] from rfl, hI] at IC
        have HB : Hid (wth (92 :: y :: l) = .ok b l) := by unfold Hid; rw [wth_esc, hu]
        have hgt : ∀ (n : Nat) (h : n < (⟨#[34, 92, 10, 9]⟩ : ByteArray).size), ((((⟨#[34, 92, 10, 9]⟩ : ByteArray))[n]'h).toNat : Int) = bt ⟨#[34, 92, 10, 9]⟩ n := get_bt _
        have hsz4 : (⟨#[34, 92, 10, 9]⟩ : ByteArray).size = 4 := rfl
        clear hI hu
        generalize wth (92 :: y :: l) = R at HB
        go_enter Try.func41, Try.ntmps41
        go_wp2_with fail
        refine SC.mono ?_
        rintro e w1 ⟨rfl, P1, M1⟩
        have HM : Hid (Pm g w w1) := M1
        have HP : Hid (Ps w1 g s (y :: l)) := P1
        clear SC P1 M1
        go_wp2_with fail
        refine (next_some g s l y w1 HP.out).mono ?_
        rintro e w2 ⟨rfl, P2, M2⟩
        have HM2 : Hid (Pm g w w2) := HM.out.trans M2
        have HP2 : Hid (Ps w2 g s (y :: l)) := P2
        clear HM HP P2 M2
        go_wp2_with fail
        refine (IC w2).mono ?_
        rintro e w3 ⟨rfl, rfl⟩
        clear IC
        have c1 := HP2.out.c1
        have f1 := HP2.out.f1
        have hi := HP2.out.cons.1
        have HS : Hid (Ps (w3.setCell ⟨g, 1, none⟩ (.int .i64 (((s.length - (y :: l).length : Nat) : Int) + 1))) g s l) := HP2.out.step _ rfl
        generalize s.length - (y :: l).length = i at c1 hi HS
        have HM3 : Hid (Pm g w (w3.setCell ⟨g, 1, none⟩ (.int .i64 ((i : Int) + 1)))) := HM2.out.trans (Pm.setCell g _ 1 _)
        have hk' : (k : Int) < 4 := by omega
        go_wp2
        go_ret
        rw [HB.out]
        exact ⟨⟨_, rfl, by rfl⟩, HS.out, HM3.out⟩
  · have SC := skip_no g s l 92 w h hc
    rw [h92] at SC
    clear h
    cases l with
    | nil =>
      clear hc
      go_enter Try.func41, Try.ntmps41
      go_wp2_with fail
      refine SC.mono ?_
      rintro e w1 ⟨rfl, P1, M1⟩
      have HM : Hid (Pm g w w1) := M1
      have HP : Hid (Ps w1 g s []) := P1
      clear SC P1 M1
      go_wp2_with fail
      refine (next_none g s w1 HP.out).mono ?_
      rintro e w2 ⟨rfl, M2⟩
      go_wp2
      exact ⟨rfl, rfl, HM.out.trans M2⟩
    | cons x l =>
      have hx : x ≠ 92 := fun e => hc (by rw [e]; rfl)
      have IC := fun W => ib_any ⟨#[34, 92, 10, 9]⟩ (x.toNat : Int) W
      rw [u8_back, show (⟨#[34, 92, 10, 9]⟩ : ByteArray).data.toList = [34, 92, 10, 9] from rfl] at IC
      clear hc
      by_cases hu : x = 34 ∨ x = 10 ∨ x = 9
      · obtain ⟨k, hI⟩ := esc_in hu
        rw [hI] at IC
        have HB : Hid (wth (x :: l) = .bad (x :: l)) := by unfold Hid; rw [wth_pl x l hx, if_pos hu]
        generalize wth (x :: l) = R at HB
        clear hu hI
        go_enter Try.func41, Try.ntmps41
        go_wp2_with fail
        refine SC.mono ?_
        rintro e w1 ⟨rfl, P1, M1⟩
        have HM : Hid (Pm g w w1) := M1
        have HP : Hid (Ps w1 g s (x :: l)) := P1
        clear SC P1 M1
        go_wp2_with fail
        refine (next_some g s l x w1 HP.out).mono ?_
        rintro e w2 ⟨rfl, P2, M2⟩
        have HM2 : Hid (Pm g w w2) := HM.out.trans M2
        have HP2 : Hid (Ps w2 g s (x :: l)) := P2
        clear HM HP P2 M2
        go_wp2_with fail
        refine (IC w2).mono ?_
        rintro e w3 ⟨rfl, rfl⟩
        clear IC
        have hk0 : (0 : Int) ≤ (k : Int) := by omega
        go_wp2_with fail
        refine (give_any g s (x :: l) w3 HP2.out).mono ?_
        rintro e w4 ⟨rfl, rfl⟩
        go_wp2
        refine ⟨rfl, ?_⟩
        rw [HB.out]
        exact ⟨rfl, HM2.out⟩
      · have hI := esc_out hx hu
        rw [hI] at IC
        have HB : Hid (wth (x :: l) = .ok x l) := by unfold Hid; rw [wth_pl x l hx, if_neg hu]
        generalize wth (x :: l) = R at HB
        clear hu hI
        go_enter Try.func41, Try.ntmps41
        go_wp2_with fail
        refine SC.mono ?_
        rintro e w1 ⟨rfl, P1, M1⟩
        have HM : Hid (Pm g w w1) := M1
        have HP : Hid (Ps w1 g s (x :: l)) := P1
        clear SC P1 M1
        go_wp2_with fail
        refine (next_some g s l x w1 HP.out).mono ?_
        rintro e w2 ⟨rfl, P2, M2⟩
        have HM2 : Hid (Pm g w w2) := HM.out.trans M2
        have HP2 : Hid (Ps w2 g s (x :: l)) := P2
        clear HM HP P2 M2
        go_wp2_with fail
        refine (IC w2).mono ?_
        rintro e w3 ⟨rfl, rfl⟩
        clear IC
        have c1 := HP2.out.c1
        have f1 := HP2.out.f1
        have hi := HP2.out.cons.1
        have HS : Hid (Ps (w3.setCell ⟨g, 1, none⟩ (.int .i64 (((s.length - (x :: l).length : Nat) : Int) + 1))) g s l) := HP2.out.step _ rfl
        generalize s.length - (x :: l).length = i at c1 hi HS
        have HM3 : Hid (Pm g w (w3.setCell ⟨g, 1, none⟩ (.int .i64 ((i : Int) + 1)))) := HM2.out.trans (Pm.setCell g _ 1 _)
        go_wp2
        go_ret
        rw [HB.out]
        exact ⟨⟨_, rfl, by rfl⟩, HS.out, HM3.out⟩

end Go.Proofs.Ytbfhfejdmhjccaa
