/- depotref14's Found, walked (own text of the verifier). -/
import Derived.Test.YtojefckhefanhaaSaF
namespace Go.Proofs.Ytojefckhefanhaa
open Go.RowKit
namespace Sc

def cand (O : List (List UInt8)) (T h : List UInt8) : Prop := (∀ o ∈ O, o < h) ∧ occ h T
/-- The least candidate among the first i. -/
def IL (O : List (List UInt8)) (T : List UInt8) (H : List (List UInt8)) (i : Nat) (l : List UInt8) : Prop :=
  (l = [] ∧ ∀ j h, j < i → H[j]? = some h → ¬ cand O T h) ∨ (l ≠ [] ∧ l ∈ H ∧ cand O T l ∧ ∀ j h, j < i → H[j]? = some h → cand O T h → ¬ h < l)
theorem IL.start (O : List (List UInt8)) (T : List UInt8) (H : List (List UInt8)) : IL O T H 0 [] := .inl ⟨rfl, fun j h hj => absurd hj (by omega)⟩
theorem IL.skip {O : List (List UInt8)} {T : List UInt8} {H : List (List UInt8)} {i : Nat} {l h : List UInt8} (I : IL O T H i l) (hi : H[i]? = some h) (hn : ¬ cand O T h ∨ (l ≠ [] ∧ ¬ h < l)) : IL O T H (i + 1) l := by
  rcases I with ⟨h1, h2⟩ | ⟨h0, h1, h2, h3⟩
  · refine .inl ⟨h1, fun j g hj hg => ?_⟩
    by_cases e : j = i
    · subst e; rw [hi] at hg; injection hg with hg; subst hg
      rcases hn with hn | hn
      · exact hn
      · exact absurd h1 hn.1
    · exact h2 j g (by omega) hg
  · refine .inr ⟨h0, h1, h2, fun j g hj hg hc => ?_⟩
    by_cases e : j = i
    · subst e; rw [hi] at hg; injection hg with hg; subst hg
      rcases hn with hn | hn
      · exact absurd hc hn
      · exact hn.2
    · exact h3 j g (by omega) hg hc
theorem IL.take {O : List (List UInt8)} {T : List UInt8} {H : List (List UInt8)} {i : Nat} {l h : List UInt8} (I : IL O T H i l) (hi : H[i]? = some h) (hh : h ≠ []) (hc : cand O T h) (hl : l = [] ∨ h < l) : IL O T H (i + 1) h := by
  refine .inr ⟨hh, List.mem_of_getElem? hi, hc, fun j g hj hg hcg => ?_⟩
  by_cases e : j = i
  · subst e; rw [hi] at hg; injection hg with hg; subst hg; exact List.lt_irrefl _
  · rcases I with ⟨h1, h2⟩ | ⟨h0, h1, h2, h3⟩
    · exact absurd hcg (h2 j g (by omega) hg)
    · intro hlt
      rcases hl with hl | hl
      · exact h0 hl
      · exact h3 j g (by omega) hg hcg (List.lt_trans hlt hl)
/-- What was gathered so far. -/
structure OI (O : List (List UInt8)) (T : List UInt8) (H : List (List UInt8)) : Prop where
  up : O.Pairwise (fun a b => a < b)
  mem : ∀ o ∈ O, o ∈ H ∧ occ o T
  rest : ∀ h ∈ H, occ h T → h ∈ O ∨ ∀ o ∈ O, o < h
theorem OI.start (T : List UInt8) (H : List (List UInt8)) : OI [] T H := ⟨List.Pairwise.nil, fun o h => (by cases h), fun h _ _ => .inr (fun o ho => by cases ho)⟩
theorem OI.more {O : List (List UInt8)} {T : List UInt8} {H : List (List UInt8)} {l : List UInt8} (I : OI O T H) (J : IL O T H H.length l) (hl : l ≠ []) : OI (O ++ [l]) T H := by
  rcases J with ⟨h1, _⟩ | ⟨_, h1, h2, h3⟩
  · exact absurd h1 hl
  refine ⟨List.pairwise_append.2 ⟨I.up, List.pairwise_singleton _ _, fun a ha b hb => by rw [List.mem_singleton] at hb; subst hb; exact h2.1 a ha⟩, fun o ho => ?_, fun h hh hc => ?_⟩
  · rcases List.mem_append.1 ho with ho | ho
    · exact I.mem o ho
    · rw [List.mem_singleton] at ho; subst ho; exact ⟨h1, h2.2⟩
  · rcases I.rest h hh hc with r | r
    · exact .inl (List.mem_append.2 (.inl r))
    · obtain ⟨j, hj, e⟩ := List.getElem_of_mem hh
      have h4 := h3 j h hj (by rw [List.getElem?_eq_getElem hj, e]) ⟨r, hc⟩
      rcases List.le_iff_lt_or_eq.1 (List.not_lt.1 h4) with r2 | r2
      · refine .inr (fun o ho => ?_)
        rcases List.mem_append.1 ho with ho | ho
        · exact r o ho
        · rw [List.mem_singleton] at ho; subst ho; exact r2
      · exact .inl (List.mem_append.2 (.inr (by rw [r2]; simp)))
theorem OI.done {O : List (List UInt8)} {T : List UInt8} {H : List (List UInt8)} (I : OI O T H) (J : IL O T H H.length []) (h : List UInt8) : h ∈ O ↔ h ∈ H ∧ occ h T := by
  refine ⟨I.mem h, fun ⟨h1, h2⟩ => ?_⟩
  rcases J with ⟨_, h3⟩ | ⟨h0, _⟩
  · rcases I.rest h h1 h2 with r | r
    · exact r
    · obtain ⟨j, hj, e⟩ := List.getElem_of_mem h1
      exact absurd ⟨r, h2⟩ (h3 j h hj (by rw [List.getElem?_eq_getElem hj, e]))
  · exact absurd rfl h0
theorem nodup_sub : ∀ (O H : List (List UInt8)), O.Nodup → (∀ o ∈ O, o ∈ H) → O.length ≤ H.length := by
  intro O
  induction O with
  | nil => intro H _ _; exact Nat.zero_le _
  | cons a l ih =>
    intro H nd hs
    have ha := hs a (by simp)
    have h1 := ih (H.erase a) (List.nodup_cons.1 nd).2 (fun o ho => (List.mem_erase_of_ne (fun e => by subst e; exact (List.nodup_cons.1 nd).1 ho)).2 (hs o (by simp [ho])))
    rw [List.length_erase_of_mem ha] at h1
    have := List.length_pos_of_mem ha
    rw [List.length_cons]
    omega
theorem OI.len {O : List (List UInt8)} {T : List UInt8} {H : List (List UInt8)} (I : OI O T H) : O.length ≤ H.length :=
  nodup_sub O H (I.up.imp (fun {a b} h e => by subst e; exact List.lt_irrefl _ h)) (fun o ho => (I.mem o ho).1)
/-- Behind the last one is behind all. -/
theorem OI.last {O : List (List UInt8)} {T : List UInt8} {H : List (List UInt8)} (I : OI O T H) {m : Nat} {l : List UInt8} (hm : O.length = m + 1) (hl : O[m]? = some l) (h : List UInt8) : (∀ o ∈ O, o < h) ↔ l < h := by
  refine ⟨fun q => q l (List.mem_of_getElem? hl), fun q o ho => ?_⟩
  obtain ⟨j, hj, e⟩ := List.getElem_of_mem ho
  have hmm : O[m]'(by omega) = l := by rw [List.getElem?_eq_getElem (by omega)] at hl; injection hl
  by_cases hjm : j = m
  · subst hjm; rw [← e, hmm]; exact q
  · have := List.pairwise_iff_getElem.1 I.up j m hj (by omega) (by omega)
    rw [e, hmm] at this
    exact List.lt_trans this q
theorem app_text (W : World) (B : Nat) (v : Value) (F : List (List UInt8)) (l : List UInt8) (hr : W.ownsRow B 9 1 v F.length (tv_ F)) (hB : B ≤ W.heap.size) (hl : F.length ≤ 268435456) :
    ∃ v' W2, (Builtin.append_ #[22, 22] 22 #[v, .slice (some ⟨W.heap.size, 0, none⟩) 1 1]).run Try.prog (W.alloc (.cells #[.string (ba l)] 9)) = .ok v' W2 ∧ W2.ownsRow B 9 1 v' (F ++ [l]).length (tv_ (F ++ [l])) ∧ W.grownBy W2 v.ownBlock := by
  obtain ⟨i0, hi, hz0, hz1, hz2⟩ := info_parts info9
  obtain ⟨v', w2, h1, h2, h3, _, _⟩ := run_append_own_at (P := Try.prog) (W.alloc (.cells #[.string (ba l)] 9)) B 22 22 9 i0 (.string ⟨#[]⟩) 1 16 und22 hi hz0 hz1 hz2 rfl (by decide) v F.length (tv_ F) (hr.alloc _) ⟨W.heap.size, 0, none⟩ 1 1 [.string (ba l)] rfl (fun j u hj =>
      match j, hj with
      | 0, hj => by simp at hj; subst hj; exact (World.cell?_alloc_new W _ _ 0).trans rfl) (by intro u hu; simp at hu; subst hu; rfl) (by unfold maxLen; omega) (by omega) (by rw [World.size_alloc]; omega)
  refine ⟨v', w2, h1, ?_, (World.grownBy_alloc W _ _).trans h3⟩
  rw [List.length_append, show tv_ (F ++ [l]) = tv_ F ++ [.string (ba l)] by unfold tv_; simp]
  exact h2
theorem tv_cell {W : World} {B : Nat} {v : Value} {O : List (List UInt8)} (hr : W.ownsRow B 9 1 v O.length (tv_ O)) {m : Nat} {l : List UInt8} (hl : O[m]? = some l) : ∃ b c, v = .slice (some ⟨b, 0, none⟩) O.length c ∧ W.cell? ⟨b, m, none⟩ = some (.string (ba l)) := by
  have h0 := hr
  rcases hr.2 with ⟨rfl, e0⟩ | ⟨b, cap, cur, rfl, hBb, hb, h1, _, h3, h4⟩
  · have := (List.getElem?_eq_some_iff.1 hl).1
    omega
  · refine ⟨b, cap, rfl, ?_⟩
    have := World.ownsRow.cells (g := b) h0 rfl m (.string (ba l)) (by unfold tv_; rw [List.getElem?_map, hl]; rfl)
    rw [Addr.add_lit, Nat.zero_add] at this
    exact this
theorem le_last (s l : List UInt8) : (Op.bytesLess s l || s == l) = !decide (l < s) := by
  rw [bytesLess_eq]
  by_cases h : l < s
  · have h1 : ¬ s < l := fun q => List.lt_irrefl _ (List.lt_trans h q)
    have h2 : s ≠ l := fun q => by subst q; exact List.lt_irrefl _ h
    simp [h, h1, h2]
  · rcases List.le_iff_lt_or_eq.1 (List.not_lt.1 h) with r | r
    · simp [h, r]
    · subst r; simp [h]

set_option maxRecDepth 100000 in
set_option maxHeartbeats 8000000 in
theorem rfound_any (hs : List ByteArray) (x : Option Addr) (c : Nat) (T : ByteArray) (w : World) (hn : hs.length ≤ 268435456) (hT : T.size ≤ 1099511627776) (hsz : ∀ s ∈ hs, s.size = 32) (hc : ∀ (j : Nat) (s : ByteArray), hs[j]? = some s → ∃ a : Addr, x = some a ∧ a.block < w.heap.size ∧ w.cell? (a.add j) = some (.string s)) :
    Calls Try.prog 15 #[.slice x hs.length c, .string T] w fun e w' => ∃ v O, e = .returned v ∧ w'.ownsRow w.heap.size 9 1 v O.length (tv_ O) ∧ O.Pairwise (fun a b => a < b) ∧ (∀ h, h ∈ O ↔ h ∈ hs.map (fun s => s.data.toList) ∧ occ h T.data.toList) ∧ Below w.heap.size w w' := by
  have HC : Hid (∀ (j : Nat) (s : ByteArray), hs[j]? = some s → ∃ a : Addr, x = some a ∧ a.block < w.heap.size ∧ w.cell? (a.add j) = some (.string s)) := hc
  have HSZ : Hid (∀ s ∈ hs, s.size = 32) := hsz
  clear hc hsz
  obtain ⟨H, hH⟩ : ∃ H, hs.map (fun s => s.data.toList) = H := ⟨_, rfl⟩
  have HH : Hid (hs.map (fun s => s.data.toList) = H) := hH
  have hHl : H.length = hs.length := by rw [← hH, List.length_map]
  rw [hH]
  clear hH
  go_enter Try.func15, Try.ntmps15
  go_wp2_with fail
  go_loopg [5] (hs.length + 1) (fun gk ov wr => ∃ (O : List (List UInt8)), gk + O.length = hs.length + 1 ∧ Hid (OI O T.data.toList H) ∧ Hid (wr.ownsRow w.heap.size 9 1 ov O.length (tv_ O)) ∧ Hid (Below w.heap.size w wr))
  case atStart => exact ⟨[], rfl, OI.start _ _, World.ownsRow_nil _ _ _ _, Below.refl _ _⟩
  case round =>
    obtain ⟨O, hgk, hO, hR, hB⟩ := hrel
    go_wp2_with fail
    have hOl := hO.out.len
    obtain ⟨G, hG⟩ : ∃ G, gk - 1 = G := ⟨_, rfl⟩
    go_loopg [6, 7] hs.length (fun gk2 lv iv wr2 => ∃ (i : Nat) (l : List UInt8), gk2 + i = hs.length ∧ iv = .int .i64 (i : Int) ∧ lv = .string (ba l) ∧ Hid (IL O T.data.toList H i l) ∧ Hid (∃ q, wr2 = wr.drewN q))
    case atStart => exact ⟨0, [], rfl, rfl, rfl, IL.start _ _ _, 0, rfl⟩
    case round =>
      obtain ⟨i, l, hgk2, rfl, rfl, hI, hq⟩ := hrel
      obtain ⟨q, hqq⟩ := hq.out
      subst hqq
      clear hq
      by_cases hi : i < hs.length
      · obtain ⟨s, hs'⟩ : ∃ s, hs[i]? = some s := ⟨_, List.getElem?_eq_getElem hi⟩
        obtain ⟨a, rfl, hab, c1⟩ := HC.out i s hs'
        have HI : Hid (H[i]? = some s.data.toList) := by unfold Hid; rw [← HH.out, List.getElem?_map, hs']; rfl
        have hss := HSZ.out s (List.mem_of_getElem? hs')
        have hsne : s.data.toList ≠ [] := fun e => by
          have := congrArg List.length e
          rw [size_list, hss] at this
          simp at this
        have d1 : (wr.drewN q).cell? (a.add i) = some (.string s) := by
          show wr.cell? (a.add i) = _
          rw [hB.out.cell (p := a.add i) (by rw [show (a.add i).block = a.block by unfold Addr.add; split <;> rfl]; exact hab)]
          exact c1
        have CW := within_any T s (wr.drewN q) hss hT
        clear c1 hs' hab
        by_cases h0 : O.length = 0
        · have e0 : ((O.length : Int) == 0) = true := by rw [beq_iff_eq]; omega
          have H0 : Hid (O.length = 0) := h0
          obtain ⟨px, cx, rfl⟩ := slice_of_row hR.out
          have hbeh : ∀ o ∈ O, o < s.data.toList := fun o ho => by rw [List.eq_nil_of_length_eq_zero h0] at ho; cases ho
          clear h0
          by_cases hl0 : l = []
          · subst hl0
            have eL : (ba ([] : List UInt8)).toList.isEmpty = true := by rw [ba_toList]; rfl
            go_wp2_with fail
            with_reducible refine CW.mono ?_
            rintro e w9 ⟨⟨b, rfl, hb⟩, q2, rfl⟩
            clear CW
            cases b
            · have hno : ¬ occ s.data.toList T.data.toList := fun h => by have := hb.2 h; cases this
              have hI2 : Hid (IL O T.data.toList H (i + 1) _) := hI.out.skip HI.out (.inl (fun h => hno h.2))
              clear hb hno
              go_wp2_with fail
              go_roundg (gk - 1)
              case measure => omega
              case rel => exact ⟨i + 1, _, by omega, by go_num, rfl, hI2, q + q2, by first | rfl | rw [World.drewN_drewN]⟩
            · have hI2 : Hid (IL O T.data.toList H (i + 1) s.data.toList) := hI.out.take HI.out hsne ⟨hbeh, hb.1 rfl⟩ (.inl rfl)
              clear hb
              go_wp2_with fail
              go_roundg (gk - 1)
              case measure => omega
              case rel => exact ⟨i + 1, s.data.toList, by omega, by go_num, by rw [ba_list], hI2, q + q2, by first | rfl | rw [World.drewN_drewN]⟩
          · by_cases hlt : s.data.toList < l
            · have eL : (ba l).toList.isEmpty = false := by rw [ba_toList, List.isEmpty_eq_false_iff]; exact hl0
              have eT : Op.bytesLess s.toList (ba l).toList = true := by rw [bytesLess_eq, ByteArray.toList_eq, ba_toList]; exact decide_eq_true hlt
              go_wp2_with fail
              with_reducible refine CW.mono ?_
              rintro e w9 ⟨⟨b, rfl, hb⟩, q2, rfl⟩
              clear CW
              cases b
              · have hno : ¬ occ s.data.toList T.data.toList := fun h => by have := hb.2 h; cases this
                have hI2 : Hid (IL O T.data.toList H (i + 1) _) := hI.out.skip HI.out (.inl (fun h => hno h.2))
                clear hb hno
                go_wp2_with fail
                go_roundg (gk - 1)
                case measure => omega
                case rel => exact ⟨i + 1, _, by omega, by go_num, rfl, hI2, q + q2, by first | rfl | rw [World.drewN_drewN]⟩
              · have hI2 : Hid (IL O T.data.toList H (i + 1) s.data.toList) := hI.out.take HI.out hsne ⟨hbeh, hb.1 rfl⟩ (.inr hlt)
                clear hb
                go_wp2_with fail
                go_roundg (gk - 1)
                case measure => omega
                case rel => exact ⟨i + 1, s.data.toList, by omega, by go_num, by rw [ba_list], hI2, q + q2, by first | rfl | rw [World.drewN_drewN]⟩
            · have eL : (ba l).toList.isEmpty = false := by rw [ba_toList, List.isEmpty_eq_false_iff]; exact hl0
              have eT : Op.bytesLess s.toList (ba l).toList = false := by rw [bytesLess_eq, ByteArray.toList_eq, ba_toList]; exact decide_eq_false hlt
              have hI2 : Hid (IL O T.data.toList H (i + 1) _) := hI.out.skip HI.out (.inr ⟨hl0, hlt⟩)
              go_wp2_with fail
              go_roundg (gk - 1)
              case measure => omega
              case rel => exact ⟨i + 1, _, by omega, by go_num, rfl, hI2, q, rfl⟩
        · obtain ⟨m, hm⟩ : ∃ m, O.length = m + 1 := ⟨O.length - 1, by omega⟩
          obtain ⟨ll, hll⟩ : ∃ ll, O[m]? = some ll := ⟨_, List.getElem?_eq_getElem (by omega)⟩
          obtain ⟨bb, cb, rfl, cl⟩ := tv_cell hR.out hll
          have hbeh' := hO.out.last hm hll s.data.toList
          have HM : Hid (O.length = m + 1) := hm
          have e0 : ¬ (O.length : Int) = 0 := by omega
          have e1 : (O.length : Int) - 1 = (m : Int) := by omega
          have d2 : (wr.drewN q).cell? ⟨bb, m, none⟩ = some (.string (ba ll)) := cl
          have hml : m < O.length := by omega
          clear cl hm hll
          by_cases hlast : ll < s.data.toList
          · have LE : (Op.bytesLess s.toList (ba ll).toList || s.toList == (ba ll).toList) = false := by rw [ByteArray.toList_eq, ba_toList, le_last, decide_eq_true hlast]; rfl
            have hbeh := hbeh'.2 hlast
            clear hbeh'
            by_cases hl0 : l = []
            · subst hl0
              have eL : (ba ([] : List UInt8)).toList.isEmpty = true := by rw [ba_toList]; rfl
              go_wp2_with fail
              with_reducible refine CW.mono ?_
              rintro e w9 ⟨⟨b, rfl, hb⟩, q2, rfl⟩
              clear CW
              cases b
              · have hno : ¬ occ s.data.toList T.data.toList := fun h => by have := hb.2 h; cases this
                have hI2 : Hid (IL O T.data.toList H (i + 1) _) := hI.out.skip HI.out (.inl (fun h => hno h.2))
                clear hb hno
                go_wp2_with fail
                go_roundg (gk - 1)
                case measure => omega
                case rel => exact ⟨i + 1, _, by omega, by go_num, rfl, hI2, q + q2, by first | rfl | rw [World.drewN_drewN]⟩
              · have hI2 : Hid (IL O T.data.toList H (i + 1) s.data.toList) := hI.out.take HI.out hsne ⟨hbeh, hb.1 rfl⟩ (.inl rfl)
                clear hb
                go_wp2_with fail
                go_roundg (gk - 1)
                case measure => omega
                case rel => exact ⟨i + 1, s.data.toList, by omega, by go_num, by rw [ba_list], hI2, q + q2, by first | rfl | rw [World.drewN_drewN]⟩
            · by_cases hlt : s.data.toList < l
              · have eL : (ba l).toList.isEmpty = false := by rw [ba_toList, List.isEmpty_eq_false_iff]; exact hl0
                have eT : Op.bytesLess s.toList (ba l).toList = true := by rw [bytesLess_eq, ByteArray.toList_eq, ba_toList]; exact decide_eq_true hlt
                go_wp2_with fail
                with_reducible refine CW.mono ?_
                rintro e w9 ⟨⟨b, rfl, hb⟩, q2, rfl⟩
                clear CW
                cases b
                · have hno : ¬ occ s.data.toList T.data.toList := fun h => by have := hb.2 h; cases this
                  have hI2 : Hid (IL O T.data.toList H (i + 1) _) := hI.out.skip HI.out (.inl (fun h => hno h.2))
                  clear hb hno
                  go_wp2_with fail
                  go_roundg (gk - 1)
                  case measure => omega
                  case rel => exact ⟨i + 1, _, by omega, by go_num, rfl, hI2, q + q2, by first | rfl | rw [World.drewN_drewN]⟩
                · have hI2 : Hid (IL O T.data.toList H (i + 1) s.data.toList) := hI.out.take HI.out hsne ⟨hbeh, hb.1 rfl⟩ (.inr hlt)
                  clear hb
                  go_wp2_with fail
                  go_roundg (gk - 1)
                  case measure => omega
                  case rel => exact ⟨i + 1, s.data.toList, by omega, by go_num, by rw [ba_list], hI2, q + q2, by first | rfl | rw [World.drewN_drewN]⟩
              · have eL : (ba l).toList.isEmpty = false := by rw [ba_toList, List.isEmpty_eq_false_iff]; exact hl0
                have eT : Op.bytesLess s.toList (ba l).toList = false := by rw [bytesLess_eq, ByteArray.toList_eq, ba_toList]; exact decide_eq_false hlt
                have hI2 : Hid (IL O T.data.toList H (i + 1) _) := hI.out.skip HI.out (.inr ⟨hl0, hlt⟩)
                go_wp2_with fail
                go_roundg (gk - 1)
                case measure => omega
                case rel => exact ⟨i + 1, _, by omega, by go_num, rfl, hI2, q, rfl⟩
          · have LE : (Op.bytesLess s.toList (ba ll).toList || s.toList == (ba ll).toList) = true := by rw [ByteArray.toList_eq, ba_toList, le_last, decide_eq_false hlast]; rfl
            have hI2 : Hid (IL O T.data.toList H (i + 1) _) := hI.out.skip HI.out (.inl (fun h => hlast (hbeh'.1 h.1)))
            go_wp2_with fail
            go_roundg (gk - 1)
            case measure => omega
            case rel => exact ⟨i + 1, _, by omega, by go_num, rfl, hI2, q, rfl⟩
      · have hil : i = H.length := by omega
        rw [hil] at hI
        have hiH : Hid (i = H.length) := hil
        clear hil
        by_cases hl0 : l = []
        · subst hl0
          have hD : Hid (∀ h, h ∈ O ↔ h ∈ H ∧ occ h T.data.toList) := hO.out.done hI.out
          have hR2 : Hid ((wr.drewN q).ownsRow w.heap.size 9 1 u5 O.length (tv_ O)) := row_same hR.out (fun _ _ => rfl)
          have hB2 : Hid (Below w.heap.size w (wr.drewN q)) := bel_drewN hB.out q
          have eL : (ba ([] : List UInt8)).toList.isEmpty = true := by rw [ba_toList]; rfl
          have hUp : Hid (O.Pairwise (fun a b => a < b)) := hO.out.up
          generalize wr.drewN q = w9 at *
          go_wp2_with fail
          go_ret
          exact ⟨u5, O, rfl, hR2.out, hUp.out, hD.out, hB2.out⟩
        · have hO2 : Hid (OI (O ++ [l]) T.data.toList H) := hO.out.more hI.out hl0
          have hR2 : Hid ((wr.drewN q).ownsRow w.heap.size 9 1 u5 O.length (tv_ O)) := row_same hR.out (fun _ _ => rfl)
          have hB2 : Hid (Below w.heap.size w (wr.drewN q)) := bel_drewN hB.out q
          have eL : (ba l).toList.isEmpty = false := by rw [ba_toList, List.isEmpty_eq_false_iff]; exact hl0
          have hle := hO2.out.len
          rw [List.length_append, List.length_singleton] at hle
          generalize wr.drewN q = w9 at *
          obtain ⟨v', w10, r1, o4, g4⟩ := app_text w9 w.heap.size u5 O l hR2.out hB2.out.size (by omega)
          have hR4 : Hid (w10.ownsRow w.heap.size 9 1 v' (O ++ [l]).length (tv_ (O ++ [l]))) := o4
          have hB4 : Hid (Below w.heap.size w w10) := hB2.out.grown g4 hB2.out.size (fun b hb => (World.ownsRow.lt hR2.out b hb).1)
          clear o4 g4 hR2 hB2
          go_wp2_with (first | (refine wpList_app_is (by rfl) 22 22 (.tmp 52) (.tmp 54) (by rfl) _ _ _ _ (by rfl) (by rfl) r1 ?_))
          go_roundg G
          case measure => omega
          case rel => exact ⟨O ++ [l], by rw [List.length_append, List.length_singleton]; omega, hO2, hR4, hB4⟩
end Sc
end Go.Proofs.Ytojefckhefanhaa
