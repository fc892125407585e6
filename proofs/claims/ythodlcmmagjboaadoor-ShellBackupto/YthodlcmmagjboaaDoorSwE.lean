/- shell.Words, walked (own text of the verifier). -/
import Derived.Test.YthodlcmmagjboaaDoorSwC
import Derived.Test.YthodlcmmagjboaaDoorSwT
namespace Go.Proofs.YthodlcmmagjboaaDoor
open Go.RowKit

theorem spl_mem (l : List UInt8) : ∀ p ∈ spl l, p.length ≤ l.length := by
  induction l with
  | nil => intro p hp; rw [spl] at hp; simp at hp; simp [hp]
  | cons c l ih =>
    intro p hp
    rw [spl] at hp
    split at hp
    · rcases List.mem_cons.1 hp with rfl | h
      · simp
      · have := ih p h; simp; omega
    · split at hp
      · rcases List.mem_cons.1 hp with rfl | h
        · simp
        · cases h
      · rename_i q r e
        rw [e] at ih
        rcases List.mem_cons.1 hp with rfl | h
        · have := ih q List.mem_cons_self; simp; omega
        · have := ih p (List.mem_cons_of_mem _ h); simp; omega
theorem wds_len (A T : List (List UInt8)) (h : wds A = some T) : T.length = A.length := by
  induction A generalizing T with
  | nil => rw [wds] at h; cases h; rfl
  | cons a A ih =>
    rw [wds] at h
    cases hw : wd a with
    | none => rw [hw] at h; cases h
    | some t =>
      rw [hw] at h
      obtain ⟨U, hU, rfl⟩ := Option.map_eq_some_iff.1 h
      rw [List.length_cons, ih U hU, List.length_cons]
theorem wds_no (A B : List (List UInt8)) (T : List (List UInt8)) (p : List UInt8) (h : wds A = some T) (hp : wd p = none) : wds (A ++ p :: B) = none := by
  rw [wds_app A _ T h, wds, hp]
  rfl
theorem wds_yes (A T : List (List UInt8)) (p t : List UInt8) (h : wds A = some T) (hp : wd p = some t) : wds (A ++ [p]) = some (T ++ [t]) := by
  rw [wds_app A _ T h, wds, hp]
  rfl
/-- What the words of a line are, told by an ending and a world. -/
def WsP (l : List UInt8) (e : Ending) (w' : World) : Prop :=
  (4096 < l.length ∧ e = .returned (.tuple #[.slice none 0 0, .int .i64 6])) ∨
  (l.length ≤ 4096 ∧ wds (spl l) = none ∧ e = .returned (.tuple #[.slice none 0 0, .int .i64 251])) ∨
  (l.length ≤ 4096 ∧ ∃ T x c, wds (spl l) = some T ∧ e = .returned (.tuple #[.slice x T.length c, .int .i64 0]) ∧ SIs w' x T.length (fun j => nth T j))

set_option maxHeartbeats 4000000 in
set_option maxRecDepth 100000 in
theorem words_any (l : List UInt8) (w : World) (hl : l.length ≤ 16777216) :
    Calls Tryd.prog 6 #[.string (ba l)] w fun e w' => WsP l e w' ∧ Below w.heap.size w w' := by
  have hsz := ba_size l
  by_cases h4 : 4096 < l.length
  · have h4' : 4096 < (l.length : Int) := by omega
    go_enter Tryd.func6, Tryd.ntmps6
    go_wp2
    try rw [Exit.noGoto_ret]
    go_ret2
    exact ⟨Or.inl ⟨h4, rfl⟩, Below.refl _ _⟩
  · have h4' : ¬ 4096 < (l.length : Int) := by omega
    have H4 : Hid (l.length ≤ 4096) := by unfold Hid; omega
    have C := split_any l w hl
    have HM : Hid (∀ p ∈ spl l, p.length ≤ l.length) := spl_mem l
    have hnl := spl_len l
    have HT0 : Hid (wds ((spl l).take 0) = some []) := rfl
    generalize hS : spl l = S at C HM hnl HT0
    have HS : Hid (spl l = S) := hS
    clear hS
    go_enter Tryd.func6, Tryd.ntmps6
    go_wp2_with fail
    refine C.mono ?_
    rintro e w1 ⟨rfl, V, B⟩
    generalize hg : w.heap.size = g at V B ⊢
    have HG : Hid (w.heap.size = g) := hg
    have HB0 : Hid (Below g w w1) := B
    have HV0 : Hid (VRow w1 g S.length (fun j => .string (nth S j))) := V
    clear C hg B V
    go_wp2_with fail
    go_loopg [5, 6, 7, 8, 16] S.length (fun gk u5 u6 u7 u8 iv wr => ∃ (k : Nat) (T : List (List UInt8)), gk + k = S.length ∧ iv = .int .i64 (k : Int) ∧ Hid (wds (S.take k) = some T) ∧ Hid (VRow wr g S.length (fun j => .string (if j < k then nth T j else nth S j))) ∧ Hid (Below g w wr))
    case atStart => exact ⟨0, [], rfl, rfl, HT0, HV0.out.congr (fun j _ => by rw [if_neg (by omega)]), HB0⟩
    case round =>
      obtain ⟨k, T, hgk, rfl, hT, hV, hB⟩ := hrel
      clear HT0 HV0 HB0
      have hTl := wds_len _ _ hT.out
      rw [List.length_take] at hTl
      by_cases hk : k < S.length
      · have c1 := hV.out.cell k hk
        have f1 := hV.out.free k hk
        rw [if_neg (by omega)] at c1
        obtain ⟨p, hp⟩ : ∃ p, S.getD k [] = p := ⟨_, rfl⟩
        have hpn : nth S k = ba p := by unfold nth; rw [hp]
        rw [hpn] at c1
        have hpm : p ∈ S := by
          rw [← hp, List.getD_eq_getElem?_getD, List.getElem?_eq_getElem hk]
          exact List.getElem_mem hk
        have hpl : p.length ≤ 4096 := by have h9 := HM.out p hpm; have := H4.out; omega
        have hsp : S = S.take k ++ p :: S.drop (k + 1) := by
          rw [← hp, List.getD_eq_getElem?_getD, List.getElem?_eq_getElem hk]
          simp
        have hst : S.take (k + 1) = S.take k ++ [p] := by
          rw [List.take_succ_eq_append_getElem hk, ← hp, List.getD_eq_getElem?_getD, List.getElem?_eq_getElem hk]
          rfl
        have hgs : g < wr.heap.size := hV.out.lt (by omega)
        have TX := text_any p wr (by omega)
        have hk' : (k : Int) < (S.length : Int) := by omega
        cases hw : wd p with
        | none =>
          have e1 : wdB p = false := by unfold wdB; rw [hw]; rfl
          have HN : Hid (wds S = none) := by
            unfold Hid
            rw [hsp]
            exact wds_no _ _ T p hT.out hw
          rw [e1] at TX
          generalize wdT p = tt at TX
          clear hp hpn hpm hsp hst hw e1
          go_wp2_with fail
          refine TX.mono ?_
          rintro e w2 ⟨rfl, L2⟩
          have HL : Hid (Below g w w2) := hB.out.trans (L2.mono (Nat.le_of_lt hgs))
          clear TX L2 hV hB hT
          go_wp2
          try rw [Exit.noGoto_ret]
          go_ret2
          rw [HG.out]
          exact ⟨Or.inr (Or.inl ⟨H4.out, by rw [HS.out]; exact HN.out, rfl⟩), HL.out⟩
        | some t =>
          have e1 : wdB p = true := by unfold wdB; rw [hw]; rfl
          have e2 : wdT p = t := by unfold wdT; rw [hw]; rfl
          have HT2 : Hid (wds (S.take (k + 1)) = some (T ++ [t])) := by unfold Hid; rw [hst]; exact wds_yes _ _ p t hT.out hw
          have hTk : T.length = k := by omega
          rw [e1, e2] at TX
          clear hp hpn hpm hsp hst hw e1 e2
          go_wp2_with fail
          refine TX.mono ?_
          rintro e w2 ⟨rfl, L2⟩
          have HL : Hid (Below g w (w2.setCell ⟨g, k, none⟩ (.string (ba t)))) := (hB.out.trans (L2.mono (Nat.le_of_lt hgs))).setCell (p := ⟨g, k, none⟩) (Nat.le_refl _) _
          have V2 := hV.out.below L2 hgs
          have c2 := V2.cell k hk
          have f2 := V2.free k hk
          have HV2 : Hid (VRow (w2.setCell ⟨g, k, none⟩ (.string (ba t))) g S.length (fun j => .string (if j < k + 1 then nth (T ++ [t]) j else nth S j))) := (V2.set k _ hk).congr (fun j hj => by
            by_cases ej : j = k
            · rw [if_pos ej, if_pos (by omega), nth_snoc, if_pos (by omega)]
            · rw [if_neg ej]
              by_cases h : j < k
              · rw [if_pos h, if_pos (by omega), nth_snoc, if_neg (by omega)]
              · rw [if_neg h, if_neg (by omega)])
          clear TX L2 hV hB hT V2 hTl hTk
          go_wp2
          go_roundg (gk - 1)
          case measure => omega
          case rel => exact ⟨k + 1, T ++ [t], by omega, by go_num, HT2, HV2, HL⟩
      · have hk' : ¬ (k : Int) < (S.length : Int) := by omega
        have hT2 : Hid (wds S = some T) := by
          have h := hT.out
          rw [List.take_of_length_le (by omega)] at h
          exact h
        have HTL : Hid (T.length = S.length) := wds_len _ _ hT2.out
        clear hTl
        go_wp2
        go_ret2
        rw [HG.out]
        refine ⟨Or.inr (Or.inr ⟨H4.out, T, some ⟨g, 0, none⟩, S.length, by rw [HS.out]; exact hT2.out, by rw [HTL.out]; rfl, ?_⟩), hB.out⟩
        rw [HTL.out]
        refine (hV.out.congr (f' := fun j => .string (nth T j)) (fun j hj => by rw [if_pos (by omega)])).sis

end Go.Proofs.YthodlcmmagjboaaDoor
