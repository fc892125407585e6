/- takeFar, walked. -/
import Derived.Test.YtljcbibcdajhiaaQa
import Derived.Deep.LoopGhost
namespace Go.Proofs.Ytljcbibcdajhiaa
open Go.RowKit

theorem i64wrap (z : Int) (h0 : 0 ≤ z) (h1 : z < 9223372036854775808) : IntKind.i64.wrap z = z := by
  rw [IntKind.wrap_i64]
  omega
/-- What a cell of the text holds. -/
theorem Up.byte {w : World} {g : Nat} {v : Value} {s : US} (h : Up w g v s) (hn : 0 < s.tx.length) : ∃ k c, v = .slice (some ⟨k, 0, none⟩) s.tx.length c ∧ ∀ j, j < s.tx.length → w.cell? ⟨k, j, none⟩ = some (.int .u8 ((s.tx.getD j 0).toNat : Int)) := by
  rcases h.buf with ⟨_, e⟩ | ⟨k, c, rfl, _, _, _, _, hc, _⟩
  · omega
  · refine ⟨k, c, rfl, fun j hj => ?_⟩
    rw [hc j hj]
    show some (Value.int .u8 (bt (ba s.tx) j)) = _
    rw [bt_ba _ _ hj, List.getD_eq_getElem?_getD, List.getElem?_eq_getElem hj]
    rfl

set_option maxHeartbeats 4000000 in
set_option maxRecDepth 8000 in
theorem takeFar_any (g : Nat) (v : Value) (s : US) (b : UInt8) (w : World) (R : Up w g v s) (h0 : s.ph = 4) (hnr : s.near < 256) (hlk : s.lack ≤ 131) (hlm : s.tx.length ≤ 1048576) (htk : s.tk ≤ 1073741824) (htk2 : 2 ≤ s.tk) :
    Calls Try.prog 41 #[.pointer (some ⟨g, 0, none⟩), .int .u8 (b.toNat : Int)] w fun e w' => e = .returned (.agg #[.int .i64 ((s.look b).2.1 : Int), .int .i64 ((s.look b).2.2 : Int)]) ∧ ∃ v', Up w' g v' (s.look b).1 ∧ Mv w w' g v v' := by
  have HR : Hid (Up w g v s) := R
  have hl := R.lt
  have n0 := (R.newBlock w.heap.size (Nat.le_refl _)).1
  have hb := b.toNat_lt
  have c0 := R.st.get 0 _ rfl
  have c6 := R.st.get 6 _ rfl
  have c7 := R.st.get 7 _ rfl
  have c8 := R.st.get 8 _ rfl
  obtain ⟨p0, cc0, hv0⟩ := R.len
  rw [hv0] at c6
  have HV0 : Hid (v = .slice p0 s.tx.length cc0) := hv0
  clear R hv0
  have hfar : Hid ((b.toNat : Int) * 256 + (s.near : Int) + 1 = (s.far b : Int)) := by unfold Hid US.far; omega
  have HK : Hid (s.look b = if s.tx.length < s.far b then (s, 100, s.tk - 2) else ({ s with tx := cpy (s.far b) s.lack s.tx, ph := 1 }, 0, 0)) := by unfold Hid US.look; rw [if_neg (by omega), if_neg (by omega), if_neg (by omega), if_neg (by omega)]
  have hf1 : 1 ≤ s.far b := by unfold US.far; omega
  have hf2 : s.far b ≤ 65536 := by unfold US.far; omega
  generalize s.far b = far at *
  by_cases hx : s.tx.length < far
  · have HE : Hid (s.look b = (s, 100, s.tk - 2)) := by unfold Hid; rw [HK.out, if_pos hx]
    clear HK
    have hx' : (s.tx.length : Int) < (b.toNat : Int) * 256 + (s.near : Int) + 1 := by have := hfar.out; omega
    clear hx
    go_enter Try.func41, Try.ntmps41
    go_wp2
    refine ret_faultK rfl rfl (StK.new w _ _) ⟨by rw [HE.out]; exact congrArg (fun z => Ending.returned (.agg #[.int .i64 100, .int .i64 z])) (by show (s.tk : Int) - 2 = ((s.tk - 2 : Nat) : Int); omega), v, by rw [HE.out]; exact HR.out.alloc _, (Mv.refl _ _ _).alloc _⟩
  · have HE : Hid (s.look b = ({ s with tx := cpy far s.lack s.tx, ph := 1 }, 0, 0)) := by unfold Hid; rw [HK.out, if_neg hx]
    clear HK
    have hx' : ¬ (s.tx.length : Int) < (b.toNat : Int) * 256 + (s.near : Int) + 1 := by have := hfar.out; omega
    go_enter Try.func41, Try.ntmps41
    go_wp2_with fail
    have U1 : Hid (Up (w.alloc (.cells #[.int .i64 0, .int .i64 0] 39)) g v s) := HR.out.alloc _
    have M1 : Hid (Mv w (w.alloc (.cells #[.int .i64 0, .int .i64 0] 39)) g v v) := (Mv.refl _ _ _).alloc _
    have q1 : Hid (StK (w.alloc (.cells #[.int .i64 0, .int .i64 0] 39)) w.heap.size [.int .i64 0, .int .i64 0]) := StK.new w #[.int .i64 0, .int .i64 0] 39
    have hG : Hid (v.ownBlock ≠ some w.heap.size) := (HR.out.newBlock w.heap.size (Nat.le_refl _)).2
    have HX : Hid (¬ s.tx.length < far) := hx
    have hW1 : Hid (w.heap.size < (w.alloc (.cells #[.int .i64 0, .int .i64 0] 39)).heap.size) := by unfold Hid; rw [World.size_alloc]; omega
    generalize w.alloc (.cells #[.int .i64 0, .int .i64 0] 39) = W1 at U1 M1 q1 hW1 ⊢
    clear hl c0 c6 c7 c8 hx
    generalize hGG : w.heap.size = G at n0 q1 hG hW1 ⊢
    have GG : Hid (w.heap.size = G) := hGG
    clear hGG
    have n1 : g ≠ G := fun e => n0 e.symm
    have hfe := hfar.out
    generalize (b.toNat : Int) * 256 + (s.near : Int) + 1 = FE at hfe hx' ⊢
    subst hfe
    clear hfar
    go_loopg [34] s.lack (fun gk ix wr => ∃ (k : Nat) (vk : Value), Hid (gk + k = s.lack) ∧ ix = .int .i64 k ∧ Hid (Up wr g vk { s with tx := cpy far k s.tx }) ∧ Hid (Mv w wr g v vk) ∧ Hid (StK wr G [.int .i64 0, .int .i64 0]) ∧ Hid (vk.ownBlock ≠ some G))
    case atStart => exact ⟨0, v, rfl, rfl, U1, M1, q1, hG⟩
    case round =>
      obtain ⟨k, vk, hgk, rfl, hU, hM, hq, hvG⟩ := hrel
      clear U1 M1 q1 hG hW1
      by_cases hlt : k < s.lack
      · obtain ⟨u, hu⟩ : ∃ u, cpy far k s.tx = u := ⟨_, rfl⟩
        have hul : Hid (u.length = s.tx.length + k) := by unfold Hid; rw [← hu, cpy_length]
        have hus : Hid (cpy far (k + 1) s.tx = u ++ [u.getD (u.length - far) 0]) := by unfold Hid; rw [cpy_succ, hu]
        rw [hu] at hU
        clear hu
        obtain ⟨kb, cb, rfl, hby⟩ := hU.out.byte (by show 0 < u.length; have := hul.out; have := HX.out; omega)
        have hj : u.length - far < u.length := by have := hul.out; have := HX.out; omega
        have cbyte := hby (u.length - far) hj
        obtain ⟨v', w', hap, hU', hM', hS', hSg⟩ := hU.out.grow (u.getD (u.length - far) 0) (by show u.length ≤ _; have := hul.out; omega) 1 37
        obtain ⟨p', n', c', rfl⟩ : ∃ p' n' c', v' = .slice p' n' c' := by obtain ⟨a, c, h⟩ := hU'.len; exact ⟨a, _, c, h⟩
        have hle : far ≤ u.length := by have := hul.out; have := HX.out; omega
        have HS2 : Hid (StK w' G [.int .i64 0, .int .i64 0]) := hS' G _ hq.out n0.symm.symm hvG.out
        have HN : Hid ((Value.slice p' n' c').ownBlock ≠ some G) := fun e => by
          rcases hM'.new G e with e | e
          · exact hvG.out e
          · have := hq.out.lt; omega
        have HU : Hid (Up (w'.setCell ⟨g, 6, none⟩ (.slice p' n' c')) g (.slice p' n' c') { s with tx := u ++ [u.getD (u.length - far) 0] }) := hU'
        have HM : Hid (Mv w (w'.setCell ⟨g, 6, none⟩ (.slice p' n' c')) g v (.slice p' n' c')) := (hM.out.trans hM').store _ _
        have HSS : Hid (StK (w'.setCell ⟨g, 6, none⟩ (.slice p' n' c')) G [.int .i64 0, .int .i64 0]) := HS2.out.other g 6 _ n0
        have ltg := hU.out.lt
        have d6 := hU.out.st.get 6 _ rfl
        have e6 := hSg.get 6 _ rfl
        have g6 := hSg.fr 6 (by show 6 < 9; decide)
        have ltk : kb < wr.heap.size := by
          have := (hU.out.buf.lt kb rfl).2
          exact this
        clear hU' hM' hS' hSg hby
        have hsub : ((u.length : Nat) : Int) - (far : Int) = ((u.length - far : Nat) : Int) := by omega
        change wr.cell? ⟨kb, u.length - far, none⟩ = some (.int .u8 ((u.getD (u.length - far) 0).toNat : Int)) at cbyte
        change wr.cell? ⟨g, 6, none⟩ = some (.slice (some ⟨kb, 0, none⟩) u.length cb) at d6
        change w'.cell? ⟨g, 6, none⟩ = some (.slice (some ⟨kb, 0, none⟩) u.length cb) at e6
        generalize hB0 : u.getD (u.length - far) 0 = B0 at *
        clear hB0
        have hUU : u.length ≤ 1048576 + 131 := by have := hul.out; omega
        clear hle
        generalize u.length - far = jj at *
        have HUL : Hid (u.length = u.length) := rfl
        generalize hUe : u.length = UU at *
        have HUe : Hid (u.length = UU) := hUe
        clear hUe
        have hwr : IntKind.i64.wrap (jj : Int) = (jj : Int) := i64wrap _ (by omega) (by omega)
        go_wp2_with fail
        go_region_law (refine step_append_run rfl (.tmp 40) (.tmp 54) 37 rfl (.slice (some ⟨kb, 0, none⟩) UU cb) (.slice (some ⟨wr.heap.size, 0, none⟩) 1 1) rfl rfl (.slice p' n' c') w' hap ?_)
        all_goals (
          have HF : Hid (Up (w'.setCell ⟨g, 6, none⟩ (.slice p' n' c')) g (.slice p' n' c') { s with tx := cpy far (k + 1) s.tx }) := by unfold Hid; rw [hus.out]; exact HU.out
          generalize w'.setCell ⟨g, 6, none⟩ (.slice p' n' c') = wN at HF HM HSS ⊢
          clear HU
          go_wp2
          go_roundg (s.lack - (k + 1))
          case rel => exact ⟨k + 1, _, by have := hgk.out; unfold Hid; omega, by go_num, HF, HM, HSS, HN⟩
          case measure => have := hgk.out; omega)
      · obtain rfl : k = s.lack := by have := hgk.out; omega
        have d4 := hU.out.st.get 4 _ rfl
        have f4 := hU.out.st.fr 4 (by show 4 < 9; decide)
        have z0 := hq.out.get 0 _ rfl
        have z1 := hq.out.get 1 _ rfl
        have y0 := hq.out.fr 0 (by show 0 < 2; decide)
        have y1 := hq.out.fr 1 (by show 1 < 2; decide)
        go_wp2
        refine ret_faultK rfl rfl ((((hq.out.other g 4 _ n0).set 0 _ (by show 0 < 2; decide)).set 1 _ (by show 1 < 2; decide)).cast rfl) ⟨by rw [HE.out]; rfl, vk, by rw [HE.out]; exact ((hU.out.set 4 _ { s with tx := cpy far s.lack s.tx, ph := 1 } (by decide) rfl rfl).put G 0 _ n1 hvG.out).put G 1 _ n1 hvG.out, ((hM.out.store 4 _).put G 0 _ (by rw [GG.out]; exact Nat.le_refl _)).put G 1 _ (by rw [GG.out]; exact Nat.le_refl _)⟩

end Go.Proofs.Ytljcbibcdajhiaa
