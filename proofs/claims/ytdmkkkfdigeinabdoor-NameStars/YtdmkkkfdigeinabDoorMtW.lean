/- name.Match, walked. -/
import Derived.Test.YtdmkkkfdigeinabDoorTrA
import Derived.WalkMore
namespace Go.Proofs.YtdmkkkfdigeinabDoor
open Go.RowKit

theorem at_data (p : ByteArray) (a : Nat) (h : a < p.size) : ∃ h' : a < p.data.toList.length, ((p.data.toList[a]'h').toNat : Int) = bt p a := by
  refine ⟨by rw [← Lib.size_eq]; exact h, ?_⟩
  rw [← get_bt p a h]; rfl
theorem at_is (p : ByteArray) (a : Nat) (h' : a < p.data.toList.length) (h : ((p.data.toList[a]'h').toNat : Int) = bt p a) (c : UInt8) : p.data.toList[a]'h' = c ↔ bt p a = (c.toNat : Int) := by
  rw [← h]
  constructor
  · intro e; rw [e]
  · intro e; exact UInt8.toNat_inj.1 (by omega)
theorem hit_is (p s : ByteArray) (a f : Nat) (ha : a < p.data.toList.length) (hp : ((p.data.toList[a]'ha).toNat : Int) = bt p a) (hf : f < s.data.toList.length) (hs : ((s.data.toList[f]'hf).toNat : Int) = bt s f) :
    (p.data.toList[a]'ha == 63 || p.data.toList[a]'ha == s.data.toList[f]'hf) = decide (bt p a = 63 ∨ bt p a = bt s f) := by
  rw [Bool.eq_iff_iff, Bool.or_eq_true, beq_iff_eq, beq_iff_eq, decide_eq_true_iff, at_is p a ha hp, ← hp, ← hs]
  constructor
  · rintro (h | h)
    · left; exact h
    · right; rw [h]
  · rintro (h | h)
    · left; exact h
    · right; exact UInt8.toNat_inj.1 (by omega)

/-- Where a search stands. -/
def MSt (p s : ByteArray) (a f : Nat) (b e : Int) : Prop :=
  (b = -1 ∧ e = 0 ∧ mt p.data.toList s.data.toList = mt (p.data.toList.drop a) (s.data.toList.drop f)) ∨
  ∃ b' e' : Nat, b = b' ∧ e = e' ∧ b' ≤ a ∧ f = e' + (a - b') ∧ (∀ c ∈ (p.data.toList.drop b').take (a - b'), c ≠ 42) ∧ (mt p.data.toList s.data.toList = true ↔ may p.data.toList s.data.toList a f b' e')

theorem MSt.bd {p s : ByteArray} {a f : Nat} {b e : Int} (h : MSt p s a f b e) : -1 ≤ b ∧ b ≤ a ∧ 0 ≤ e ∧ e ≤ f := by
  rcases h with ⟨h1, h2, _⟩ | ⟨b', e', h1, h2, h3, h4, _⟩ <;> omega

theorem MSt.star {p s : ByteArray} {a f : Nat} {b e : Int} (h : MSt p s a f b e) (ha : a < p.size) (hf : f ≤ s.size) (hc : bt p a = 42) : MSt p s (a + 1) f ((a + 1 : Nat) : Int) (f : Int) := by
  obtain ⟨ha', hp⟩ := at_data p a ha
  have hc' := (at_is p a ha' hp 42).2 hc
  have hf' : f ≤ s.data.toList.length := by rw [← Lib.size_eq]; exact hf
  refine Or.inr ⟨a + 1, f, rfl, rfl, Nat.le_refl _, by omega, by simp, ?_⟩
  rcases h with ⟨h1, h2, h3⟩ | ⟨b', e', h1, h2, h3, h4, h5, h6⟩
  · rw [h3]; exact mt_first _ _ a f hf' ha' hc'
  · rw [h6]; exact may_star _ _ a f b' e' h3 h4 hf' h5 ha' hc'

theorem MSt.hit {p s : ByteArray} {a f : Nat} {b e : Int} (h : MSt p s a f b e) (ha : a < p.size) (hf : f < s.size) (hc : bt p a ≠ 42) (hh : bt p a = 63 ∨ bt p a = bt s f) : MSt p s (a + 1) (f + 1) b e := by
  obtain ⟨ha', hp⟩ := at_data p a ha
  obtain ⟨hf', hs⟩ := at_data s f hf
  have hc' : p.data.toList[a]'ha' ≠ 42 := fun e => hc ((at_is p a ha' hp 42).1 e)
  have hh' := hit_is p s a f ha' hp hf' hs
  rw [decide_eq_true hh] at hh'
  rcases h with ⟨h1, h2, h3⟩ | ⟨b', e', h1, h2, h3, h4, h5, h6⟩
  · exact Or.inl ⟨h1, h2, by rw [h3]; exact mt_hit _ _ a f ha' hf' hc' hh'⟩
  · refine Or.inr ⟨b', e', h1, h2, by omega, by omega, ?_, by rw [h6]; exact may_char _ _ a f b' e' ha' hf' hc' hh'⟩
    intro c hcm
    rw [show a + 1 - b' = (a - b') + 1 by omega, List.take_add_one] at hcm
    rw [List.mem_append] at hcm
    rcases hcm with hcm | hcm
    · exact h5 c hcm
    · rw [List.getElem?_drop, show b' + (a - b') = a by omega, List.getElem?_eq_getElem ha'] at hcm
      simp at hcm
      rw [hcm]; exact hc'

theorem miss_or {p s : ByteArray} {a f : Nat} (hap : a ≤ p.size) (hf : f < s.size) (hh : a = p.size ∨ (bt p a ≠ 42 ∧ bt p a ≠ 63 ∧ bt p a ≠ bt s f)) :
    ∃ hf' : f < s.data.toList.length, a = p.data.toList.length ∨ ∃ ha : a < p.data.toList.length, p.data.toList[a] ≠ 42 ∧ (p.data.toList[a] == 63 || p.data.toList[a] == s.data.toList[f]'hf') = false := by
  obtain ⟨hf', hs⟩ := at_data s f hf
  refine ⟨hf', ?_⟩
  by_cases hz : a = p.size
  · left; rw [← Lib.size_eq]; exact hz
  · right
    have h3 := hh.resolve_left hz
    obtain ⟨ha', hp⟩ := at_data p a (by omega)
    have hh' := hit_is p s a f ha' hp hf' hs
    rw [decide_eq_false (by rintro (h | h); exact h3.2.1 h; exact h3.2.2 h)] at hh'
    exact ⟨ha', fun e => h3.1 ((at_is p a ha' hp 42).1 e), hh'⟩

theorem MSt.dead {p s : ByteArray} {a f : Nat} {b e : Int} (h : MSt p s a f b e) (hb : b < 0) (hap : a ≤ p.size) (hf : f < s.size) (hh : a = p.size ∨ (bt p a ≠ 42 ∧ bt p a ≠ 63 ∧ bt p a ≠ bt s f)) : mt p.data.toList s.data.toList = false := by
  obtain ⟨hf', ho⟩ := miss_or hap hf hh
  rcases h with ⟨h1, h2, h3⟩ | ⟨b', e', h1, h2, h3, h4, h5, h6⟩
  · rw [h3]; exact mt_miss _ _ a f hf' ho
  · omega

theorem MSt.back {p s : ByteArray} {a f : Nat} {b e : Int} (h : MSt p s a f b e) (hb : 0 ≤ b) (hap : a ≤ p.size) (hf : f < s.size) (hh : a = p.size ∨ (bt p a ≠ 42 ∧ bt p a ≠ 63 ∧ bt p a ≠ bt s f)) :
    ∃ b' e' : Nat, b = b' ∧ e = e' ∧ b' ≤ a ∧ e' < s.size ∧ MSt p s b' (e' + 1) (b' : Int) ((e' + 1 : Nat) : Int) := by
  obtain ⟨hf', ho⟩ := miss_or hap hf hh
  rcases h with ⟨h1, h2, h3⟩ | ⟨b', e', h1, h2, h3, h4, h5, h6⟩
  · omega
  · refine ⟨b', e', h1, h2, h3, by omega, Or.inr ⟨b', e' + 1, rfl, rfl, Nat.le_refl _, by omega, by simp, ?_⟩⟩
    rw [h6]
    exact may_miss _ _ a f b' e' hf' (by rw [← Lib.size_eq]; omega) ho

theorem MSt.ends {p s : ByteArray} {a f : Nat} {b e : Int} (h : MSt p s a f b e) (hap : a ≤ p.size) (hf : f = s.size) : mt p.data.toList s.data.toList = (p.data.toList.drop a).all (· == 42) := by
  rw [Lib.size_eq] at hf hap
  rcases h with ⟨h1, h2, h3⟩ | ⟨b', e', h1, h2, h3, h4, h5, h6⟩
  · rw [h3, ← mt_stars, hf, List.drop_length]
  · rw [Bool.eq_iff_iff, h6]
    exact may_end _ _ a f b' e' h3 hap h4 hf h5

theorem lex1 (S P e f a : Nat) (he : e ≤ f) (ha : a < P) : (S + 1 - f) * (P + 1) + (P - (a + 1)) < (S + 1 - e) * (P + 1) + (P - a) := by
  have := Nat.mul_le_mul_right (P + 1) (show S + 1 - f ≤ S + 1 - e by omega)
  omega
theorem lex2 (S P e a b : Nat) (he : e < S) : (S + 1 - (e + 1)) * (P + 1) + (P - b) < (S + 1 - e) * (P + 1) + (P - a) := by
  rw [show S + 1 - e = (S + 1 - (e + 1)) + 1 by omega, Nat.add_mul]
  omega

set_option maxHeartbeats 1000000 in
theorem match_quiet (p s : ByteArray) (w : World) (hp : p.size ≤ 1152921504606846976) (hs : s.size ≤ 1152921504606846976) :
    Calls Tryd.prog 11 #[.string p, .string s] w fun e w' => e = .returned (.bool (mt p.data.toList s.data.toList)) ∧ ∃ n, w' = w.drewN n := by
  have TR := fun (t : ByteArray) (h : t.size ≤ 9223372036854775807) w => trim_any t w h
  go_enter Tryd.func11, Tryd.ntmps11
  go_wp2
  go_step3
  go_wp2
  go_step3
  go_wp2
  go_loop [5, 6, 7, 8] (fun xa xf xb xe => ∃ (a f : Nat) (b e : Int), a ≤ p.size ∧ f ≤ s.size ∧ xa = .int .i64 a ∧ xf = .int .i64 f ∧ xb = .int .i64 b ∧ xe = .int .i64 e ∧ MSt p s a f b e) (fun xa _ _ xe => (s.size + 1 - (intOf xe).toNat) * (p.size + 1) + (p.size - (intOf xa).toNat))
  case atStart => exact ⟨0, 0, -1, 0, Nat.zero_le _, Nat.zero_le _, rfl, rfl, rfl, rfl, Or.inl ⟨rfl, rfl, rfl⟩⟩
  case round =>
    obtain ⟨a, f, b, e, ha, hf, rfl, rfl, rfl, rfl, hst⟩ := hrel
    obtain ⟨bd1, bd2, bd3, bd4⟩ := hst.bd
    by_cases hlt : f < s.size
    · have ga := get_bt p
      have gs := get_bt s
      by_cases hlp : a < p.size
      · by_cases c1 : bt p a = 42
        · have st := hst.star hlp hf c1
          have C1 : (bt p a == 42) = true := by simp [c1]
          have HS : Hid (MSt p s (a + 1) f ((a + 1 : Nat) : Int) (f : Int)) := st
          clear st c1 hst TR
          go_wp2
          go_round
          case rel => exact ⟨a + 1, f, _, _, by omega, hf, by go_num, rfl, by go_num, rfl, HS.out⟩
          case measure =>
            have := lex1 s.size p.size e.toNat f a (by omega) hlp
            simpa [intOf] using this
        · have C1 : (bt p a == 42) = false := by simp [c1]
          by_cases c2 : bt p a = 63
          · have HS : Hid (MSt p s (a + 1) (f + 1) b e) := hst.hit hlp hlt c1 (Or.inl c2)
            have C2 : (bt p a == 63) = true := by simp [c2]
            clear c1 c2 hst TR
            go_wp2
            go_round
            case rel => exact ⟨a + 1, f + 1, b, e, by omega, by omega, by go_num, by go_num, rfl, rfl, HS.out⟩
            case measure =>
              have := lex1 s.size p.size e.toNat e.toNat a (by omega) hlp
              simpa [intOf] using this
          · have C2 : (bt p a == 63) = false := by simp [c2]
            by_cases c3 : bt p a = bt s f
            · have HS : Hid (MSt p s (a + 1) (f + 1) b e) := hst.hit hlp hlt c1 (Or.inr c3)
              have C3 : (bt p a == bt s f) = true := by simp [c3]
              clear c1 c2 c3 hst TR
              go_wp2
              go_round
              case rel => exact ⟨a + 1, f + 1, b, e, by omega, by omega, by go_num, by go_num, rfl, rfl, HS.out⟩
              case measure =>
                have := lex1 s.size p.size e.toNat e.toNat a (by omega) hlp
                simpa [intOf] using this
            · have C3 : (bt p a == bt s f) = false := by simp [c3]
              by_cases hb : b < 0
              · have HF : Hid (mt p.data.toList s.data.toList = false) := hst.dead hb ha hlt (Or.inr ⟨c1, c2, c3⟩)
                clear c1 c2 c3 hst TR
                go_wp2
                try rw [Exit.noGoto_ret]
                go_ret
                exact ⟨by rw [HF.out]; rfl, 0, rfl⟩
              · obtain ⟨b', e', rfl, rfl, hb1, he1, hs1⟩ := hst.back (by omega) ha hlt (Or.inr ⟨c1, c2, c3⟩)
                have HS : Hid (MSt p s b' (e' + 1) (b' : Int) ((e' + 1 : Nat) : Int)) := hs1
                clear c1 c2 c3 hst hs1 TR
                go_wp2
                go_round
                case rel => exact ⟨b', e' + 1, _, _, by omega, by omega, rfl, by go_num, rfl, by go_num, HS.out⟩
                case measure =>
                  have := lex2 s.size p.size e' a b' he1
                  simpa [intOf] using this
      · have hpe : a = p.size := by omega
        by_cases hb : b < 0
        · have HF : Hid (mt p.data.toList s.data.toList = false) := hst.dead hb ha hlt (Or.inl hpe)
          clear hst hpe TR
          go_wp2
          try rw [Exit.noGoto_ret]
          go_ret
          exact ⟨by rw [HF.out]; rfl, 0, rfl⟩
        · obtain ⟨b', e', rfl, rfl, hb1, he1, hs1⟩ := hst.back (by omega) ha hlt (Or.inl hpe)
          have HS : Hid (MSt p s b' (e' + 1) (b' : Int) ((e' + 1 : Nat) : Int)) := hs1
          clear hst hs1 hpe TR
          go_wp2
          go_round
          case rel => exact ⟨b', e' + 1, _, _, by omega, by omega, rfl, by go_num, rfl, by go_num, HS.out⟩
          case measure =>
            have := lex2 s.size p.size e' a b' he1
            simpa [intOf] using this
    · have HF : Hid (mt p.data.toList s.data.toList = (p.extract a p.size).data.toList.all (· == 42)) := by
        unfold Hid
        rw [hst.ends ha (by omega), Lib.extract_data, List.take_of_length_le (by rw [List.length_drop, ← Lib.size_eq]; omega)]
      have hz : (p.extract a p.size).size ≤ 9223372036854775807 := by rw [ByteArray.size_extract]; omega
      clear hst
      go_wp2_with fail
      refine (TR _ hz _).mono ?_
      rintro r w1 ⟨⟨t, rfl, ht⟩, n, hn⟩
      have HW : Hid (w1 = w.drewN n) := hn
      clear hn
      have HT : Hid (t.toList.isEmpty = (p.extract a p.size).data.toList.all (· == 42)) := ht
      clear ht TR hz
      go_wp2
      try rw [Exit.noGoto_ret]
      go_ret
      exact ⟨by rw [HF.out, ← HT.out]; rfl, n, HW.out⟩

theorem match_any (p s : ByteArray) (w : World) (hp : p.size ≤ 1152921504606846976) (hs : s.size ≤ 1152921504606846976) :
    Calls Tryd.prog 11 #[.string p, .string s] w fun e w' => e = .returned (.bool (mt p.data.toList s.data.toList)) ∧ Below w.heap.size w w' :=
  (match_quiet p s w hp hs).mono fun _ _ ⟨he, n, hn⟩ => ⟨he, hn ▸ bel_drewN (Below.refl _ _) n⟩

end Go.Proofs.YtdmkkkfdigeinabDoor
