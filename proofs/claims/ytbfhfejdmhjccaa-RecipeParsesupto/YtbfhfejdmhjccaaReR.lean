/- quoted, walked. -/
import Derived.Test.YtbfhfejdmhjccaaReQ
namespace Go.Proofs.Ytbfhfejdmhjccaa
open Go.RowKit

/-- Bytes already there, put ahead. -/
def Rs.pre {α : Type} (t : List α) : Rs (List α) → Rs (List α)
  | .ok v l => .ok (t ++ v) l
  | .bad l => .bad l
theorem pre_cons {α : Type} (t : List α) (b : α) (R : Rs (List α)) : (R.cons b).pre t = R.pre (t ++ [b]) := by
  cases R with
  | ok v l => show Rs.ok (t ++ b :: v) l = Rs.ok (t ++ [b] ++ v) l; simp
  | bad l => rfl
theorem pre_nil {α : Type} (R : Rs (List α)) : R.pre [] = R := by cases R <;> rfl

/-- A builder stays under what moves the parser. -/
theorem Bd.pm {T : TypeId} {w w' : World} {g b : Nat} {l : List UInt8} (h : Bd T w b l) (m : Pm g w w') (hgb : g < b) : Bd T w' b l :=
  h.same (fun k h1 h2 => m.block k h2 (by omega))
theorem Pm.low {g b : Nat} {w w' : World} (h : Below b w w') (w0 : World) (m : Pm g w0 w) (hs : w0.heap.size ≤ b) : Pm g w0 w' :=
  ⟨h.os.trans m.os, h.tape.trans m.tape, h.output.trans m.output, Nat.le_trans m.size h.size, fun k hk hne => (h.block k (by omega)).trans (m.block k hk hne)⟩

set_option maxHeartbeats 4000000 in
theorem quoted_any (g : Nat) (s l : List UInt8) (w : World) (hs : s.length ≤ 16777216) (h : Ps w g s l) :
    Calls Try.prog 33 #[.pointer (some ⟨g, 0, none⟩)] w fun e w' => Out s g w (quo l) (fun t x _ => x = .string (ba t)) e w' := by
  have hgl := h.lt
  have h34 : ((34 : UInt8).toNat : Int) = 34 := rfl
  have e34 : ba [34] = ⟨#[34]⟩ := rfl
  have B0 := Bd.new 68 w
  have P0 : Ps (w.alloc (.cells #[.pointer none, .slice none 0 0] 68)) g s l := h.below ((Below.refl _ _).alloc (Nat.le_refl _) _)
  have M0 : Pm g w (w.alloc (.cells #[.pointer none, .slice none 0 0] 68)) := Pm.alloc g w _
  have EC := expect_any g s l [34] _ (by omega) (by decide) P0
  rw [e34] at EC
  generalize hR : quo l = R
  have HR : Hid ((ex [34] l).bind (fun _ l => qt l) = R) := hR
  clear hR h P0
  have hsz : (w.alloc (.cells #[.pointer none, .slice none 0 0] 68)).heap.size = w.heap.size + 1 := World.size_alloc _ _
  go_enter Try.func33, Try.ntmps33
  go_wp2_with fail
  generalize w.alloc (.cells #[.pointer none, .slice none 0 0] 68) = w0 at B0 M0 EC hsz ⊢
  have HB0 : Hid (Bd 68 w0 w.heap.size []) := B0
  have HM0 : Hid (Pm g w w0) := M0
  have hbw : w.heap.size ≤ w.heap.size := Nat.le_refl _
  generalize hb : w.heap.size = b at *
  have Hb : Hid (w.heap.size = b) := hb
  clear hb hbw B0 M0
  refine EC.mono ?_
  intro e w1 hO
  cases hx : ex [34] l with
  | bad m =>
    rw [hx] at hO HR
    obtain ⟨rfl, M1⟩ := hO
    go_wp2
    refine ⟨rfl, ?_⟩
    rw [← HR.out]
    exact ⟨rfl, HM0.out.trans M1⟩
  | ok u m =>
    rw [hx] at hO HR
    obtain ⟨⟨x, rfl, rfl⟩, P1, M1⟩ := hO
    have HP1 : Hid (Ps w1 g s m) := P1
    have HM1 : Hid (Pm g w w1) := HM0.out.trans M1
    have HB1 : Hid (Bd 68 w1 b []) := HB0.out.pm M1 hgl
    have HR1 : Hid (qt m = R) := HR.out
    have hm0 : m.length ≤ s.length := P1.le
    clear P1 M1 HB0 HM0 HR EC hx
    go_wp2_with fail
    go_loopg [] (m.length) (fun gk wr => ∃ (n t : List UInt8), n.length ≤ gk ∧ Hid ((qt n).pre t = R) ∧ Hid (Ps wr g s n) ∧ Hid (Pm g w wr) ∧ Hid (Bd 68 wr b t) ∧ Hid (t.length + n.length ≤ s.length))
    case atStart => exact ⟨m, [], Nat.le_refl _, by unfold Hid; rw [pre_nil]; exact HR1.out, HP1, HM1, HB1, by show 0 + m.length ≤ _; omega⟩
    case round =>
      obtain ⟨n, t, hgk, hE, hP, hM, hB, hL⟩ := hrel
      clear HR1 HP1 HM1 HB1
      have hL' := hL.out
      by_cases hc : n.head? = some 34
      · obtain ⟨n, rfl⟩ : ∃ m', n = 34 :: m' := by
          cases n with
          | nil => cases hc
          | cons y m' => injection hc with hc; exact ⟨m', by rw [hc]⟩
        have HE : Hid (R = .ok t n) := by
          have := hE.out
          rw [qt_end] at this
          unfold Hid
          rw [← this]
          show Rs.ok (t ++ []) n = Rs.ok t n
          rw [List.append_nil]
        have SC := skip_yes g s n 34 wr (by omega) hP.out
        rw [h34] at SC
        go_wp2_with fail
        refine SC.mono ?_
        rintro e w2 ⟨rfl, P2, M2⟩
        have HB2 : Hid (Bd 68 w2 b t) := hB.out.pm M2 hgl
        have HM2 : Hid (Pm g w w2) := hM.out.trans M2
        have HP2 : Hid (Ps w2 g s n) := P2
        clear P2 M2 SC hP hM hB hE hc
        go_wp2_with fail
        refine (bstr_any 68 b t w2 HB2.out).mono ?_
        rintro e w3 ⟨rfl, B3⟩
        have HM3 : Hid (Pm g w w3) := Pm.low B3 w HM2.out (by rw [Hb.out]; exact Nat.le_refl _)
        have HP3 : Hid (Ps w3 g s n) := HP2.out.same (B3.block g hgl)
        clear B3 HM2 HP2 HB2
        go_wp2
        go_ret
        rw [HE.out]
        exact ⟨⟨_, rfl, rfl⟩, HP3.out, HM3.out⟩
      · have HE : Hid (((wth n).bind fun b m => (qt m).cons b).pre t = R) := by
          have := hE.out
          rw [qt_step n hc] at this
          exact this
        have SC := skip_no g s n 34 wr hP.out hc
        rw [h34] at SC
        go_wp2_with fail
        refine SC.mono ?_
        rintro e w2 ⟨rfl, P2, M2⟩
        have HB2 : Hid (Bd 68 w2 b t) := hB.out.pm M2 hgl
        have HM2 : Hid (Pm g w w2) := hM.out.trans M2
        have HP2 : Hid (Ps w2 g s n) := P2
        clear P2 M2 SC hP hM hB hE hc
        go_wp2_with fail
        refine (within_any g s n w2 (by omega) HP2.out).mono ?_
        intro e w3 hO
        cases hw : wth n with
        | bad m3 =>
          rw [hw] at hO HE
          obtain ⟨rfl, M3⟩ := hO
          go_wp2
          refine ⟨rfl, ?_⟩
          rw [← HE.out]
          exact ⟨rfl, HM2.out.trans M3⟩
        | ok y m3 =>
          rw [hw] at hO HE
          obtain ⟨⟨x, rfl, rfl⟩, P3, M3⟩ := hO
          have hlt : m3.length < n.length := by
            revert hw
            cases n with
            | nil => intro hw; cases hw
            | cons z n =>
              by_cases ez : z = 92
              · subst ez
                cases n with
                | nil => rw [wth_one]; intro hw; cases hw
                | cons y2 n =>
                  rw [wth_esc]
                  cases une y2 with
                  | none => intro hw; cases hw
                  | some b2 => intro hw; cases hw; simp; omega
              · rw [wth_pl z n ez]
                by_cases e3 : z = 34 ∨ z = 10 ∨ z = 9
                · rw [if_pos e3]; intro hw; cases hw
                · rw [if_neg e3]; intro hw; cases hw; simp
          have HE3 : Hid ((qt m3).pre (t ++ [y]) = R) := by
            have := HE.out
            unfold Hid
            rw [← pre_cons]
            exact this
          have HB3 : Hid (Bd 68 w3 b t) := HB2.out.pm M3 hgl
          have HM3 : Hid (Pm g w w3) := HM2.out.trans M3
          have HP3 : Hid (Ps w3 g s m3) := P3
          clear P3 M3 HP2 HM2 HB2 HE hw
          go_wp2_with fail
          refine (wbyte_any 68 (.inl rfl) b t y w3 HB3.out (by omega)).mono ?_
          rintro e w4 ⟨rfl, B4, L4⟩
          have HM4 : Hid (Pm g w w4) := Pm.low L4 w HM3.out (by rw [Hb.out]; exact Nat.le_refl _)
          have HP4 : Hid (Ps w4 g s m3) := HP3.out.same (L4.block g hgl)
          have HB4 : Hid (Bd 68 w4 b (t ++ [y])) := B4
          clear B4 L4 HM3 HP3 HB3
          go_wp2
          go_roundg (gk - 1)
          case measure => omega
          case rel => exact ⟨m3, t ++ [y], by omega, HE3, HP4, HM4, HB4, by unfold Hid; rw [List.length_append]; show t.length + 1 + _ ≤ _; omega⟩

end Go.Proofs.Ytbfhfejdmhjccaa
