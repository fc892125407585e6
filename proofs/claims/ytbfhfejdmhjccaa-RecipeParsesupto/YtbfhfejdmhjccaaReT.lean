/- step, walked. -/
import Derived.Test.YtbfhfejdmhjccaaReS
import Derived.Deep.RegionHeld
namespace Go.Proofs.Ytbfhfejdmhjccaa
open Go.RowKit

/-- Block h holds a step: its word and its list of arguments. -/
def St2 (w : World) (h : Nat) (a b : Value) : Prop := w.heap[h]? = some (.cells #[a, b] 47 (0, 0))
theorem St2.lt {w : World} {h : Nat} {a b : Value} (s : St2 w h a b) : h < w.heap.size := (Array.getElem?_eq_some_iff.1 s).1
theorem St2.c0 {w : World} {h : Nat} {a b : Value} (s : St2 w h a b) : w.cell? ⟨h, 0, none⟩ = some a := by rw [Lib.cell_of_heap s]; rfl
theorem St2.c1 {w : World} {h : Nat} {a b : Value} (s : St2 w h a b) : w.cell? ⟨h, 1, none⟩ = some b := by rw [Lib.cell_of_heap s]; rfl
theorem St2.f {w : World} {h : Nat} {a b : Value} (s : St2 w h a b) (j : Nat) : w.frozen? ⟨h, j, none⟩ = false := Lib.frozen_of_heap s j
theorem St2.same {w w' : World} {h : Nat} {a b : Value} (s : St2 w h a b) (e : w'.heap[h]? = w.heap[h]?) : St2 w' h a b := e.trans s
theorem St2.set1 {w : World} {h : Nat} {a b : Value} (s : St2 w h a b) (b' : Value) : St2 (w.setCell ⟨h, 1, none⟩ b') h a b' := by
  unfold St2 at s ⊢
  simp [World.setCell, Array.getElem?_modify, s]
theorem St2.set0 {w : World} {h : Nat} {a b : Value} (s : St2 w h a b) (a' : Value) : St2 (w.setCell ⟨h, 0, none⟩ a') h a' b := by
  unfold St2 at s ⊢
  simp [World.setCell, Array.getElem?_modify, s]
theorem St2.new (w : World) (a b : Value) : St2 (w.alloc (.cells #[a, b] 47)) w.heap.size a b := Array.getElem?_push_size

theorem operWp_app {o : Oper} {a : Act} {w : World} {K : Act → World → Prop} {Q : Exit → Act → World → Prop} (t u : TypeId) (s x : Operand)
    (ho : o.op = .call { callee := .builtin .append, args := #[s, x], argTypes := #[t, u] }) (v y v' : Value) (w' : World) (hs : a.eval s = v) (hx : a.eval x = y)
    (hr : (Builtin.append_ #[t, u] o.type #[v, y]).run Try.prog w = .ok v' w') (h : K (a.put o.dst v') w') : o.wp Try.prog a w K Q := by
  unfold Oper.wp
  simp [execOp, ho, resolve, invoke, builtin, hs, hx, hr, Result.andThen]
  exact h
theorem Pm.over {g : Nat} {w0 w : World} (m : Pm g w0 w) (k j : Nat) (v : Value) (hk : w0.heap.size ≤ k) : Pm g w0 (w.setCell ⟨k, j, none⟩ v) :=
  ⟨m.os, m.tape, m.output, by rw [World.size_setCell]; exact m.size, fun i hi hne => (Below.heap_setCell w ⟨k, j, none⟩ v i (by show i ≠ k; omega)).trans (m.block i hi hne)⟩

set_option maxHeartbeats 16000000 in
theorem step_any (g : Nat) (s l : List UInt8) (n : Nat) (hn : l.length < n) (w : World) (hs : s.length ≤ 16777216) (h : Ps w g s l) :
    Calls Try.prog 36 #[.pointer (some ⟨g, 0, none⟩)] w fun e w' => Out s g w (stp n l) (fun a x w' => ∃ v, x = .agg #[.string (ba a.1), v] ∧ TxS w' w.heap.size v a.2) e w' := by
  have hgl := h.lt
  have h41 : ((41 : UInt8).toNat : Int) = 41 := rfl
  have e40 : ba [40] = ⟨#[40]⟩ := rfl
  have e44 : ba [44] = ⟨#[44]⟩ := rfl
  have hll := h.le
  have R0 := St2.new w (.string ⟨#[]⟩) (.slice none 0 0)
  have P0 : Ps (w.alloc (.cells #[.string ⟨#[]⟩, .slice none 0 0] 47)) g s l := h.below ((Below.refl _ _).alloc (Nat.le_refl _) _)
  have M0 : Pm g w (w.alloc (.cells #[.string ⟨#[]⟩, .slice none 0 0] 47)) := Pm.alloc g w _
  have EC := expect_any g s l [40] _ (by omega) (by decide) P0
  rw [e40] at EC
  generalize hR : stp n l = R
  have HR : Hid ((ex [40] l).bind (fun _ l => (quo l).bind fun op l => (lst 41 quo n false l).bind fun ar l => .ok (op, ar) l) = R) := hR
  clear hR h P0
  go_enter Try.func36, Try.ntmps36
  go_wp2_with fail
  generalize w.alloc (.cells #[.string ⟨#[]⟩, .slice none 0 0] 47) = w0 at R0 M0 EC ⊢
  have HR0 : Hid (St2 w0 w.heap.size (.string ⟨#[]⟩) (.slice none 0 0)) := R0
  have HM0 : Hid (Pm g w w0) := M0
  generalize hr : w.heap.size = r at *
  have Hr : Hid (w.heap.size = r) := hr
  clear hr R0 M0
  refine EC.mono ?_
  intro e w1 hO
  cases hx : ex [40] l with
  | bad m =>
    rw [hx] at hO HR
    obtain ⟨rfl, M1⟩ := hO
    go_wp2
    refine ⟨rfl, ?_⟩
    rw [← HR.out]
    exact ⟨rfl, HM0.out.trans M1⟩
  | ok u m =>
    have hm0 := ex_le hx
    rw [hx] at hO HR
    obtain ⟨⟨x, rfl, rfl⟩, P1, M1⟩ := hO
    have HP1 : Hid (Ps w1 g s m) := P1
    have HM1 : Hid (Pm g w w1) := HM0.out.trans M1
    have HR1 : Hid (St2 w1 r (.string ⟨#[]⟩) (.slice none 0 0)) := HR0.out.same (M1.block r HR0.out.lt (by omega))
    have HE1 : Hid ((quo m).bind (fun op l => (lst 41 quo n false l).bind fun ar l => .ok (op, ar) l) = R) := HR.out
    have hml : m.length < n := by simp at hm0; omega
    clear P1 M1 HR0 HM0 HR EC hx hm0
    go_wp2_with fail
    refine (quoted_any g s m w1 hs HP1.out).mono ?_
    intro e w2 hO
    cases hx : quo m with
    | bad m2 =>
      rw [hx] at hO HE1
      obtain ⟨rfl, M2⟩ := hO
      go_wp2
      refine ⟨rfl, ?_⟩
      rw [← HE1.out]
      exact ⟨rfl, HM1.out.trans M2⟩
    | ok op m2 =>
      have hlt2 := quo_lt hx
      rw [hx] at hO HE1
      obtain ⟨⟨x, rfl, rfl⟩, P2, M2⟩ := hO
      have HP2 : Hid (Ps w2 g s m2) := P2
      have HM2 : Hid (Pm g w w2) := HM1.out.trans M2
      have HR2 : Hid (St2 w2 r (.string ⟨#[]⟩) (.slice none 0 0)) := HR1.out.same (M2.block r HR1.out.lt (by omega))
      have HE2 : Hid ((lst 41 quo n false m2).bind (fun ar l => .ok (op, ar) l) = R) := HE1.out
      clear P2 M2 HR1 HM1 HP1 HE1 hx
      go_wp2_with fail
      have S3 := St2.new w2 (.string (ba op)) (.slice none 0 0)
      have b3 : Below w2.heap.size w2 (w2.alloc (.cells #[.string (ba op), .slice none 0 0] 47)) := (Below.refl _ _).alloc (Nat.le_refl _) _
      have HP3 : Hid (Ps (w2.alloc (.cells #[.string (ba op), .slice none 0 0] 47)) g s m2) := HP2.out.below b3
      have HM3 : Hid (Pm g w (w2.alloc (.cells #[.string (ba op), .slice none 0 0] 47))) := HM2.out.trans (Pm.below b3)
      have HR3 : Hid (St2 (w2.alloc (.cells #[.string (ba op), .slice none 0 0] 47)) r (.string ⟨#[]⟩) (.slice none 0 0)) := HR2.out.same (b3.block r HR2.out.lt)
      have HS3 : Hid (St2 (w2.alloc (.cells #[.string (ba op), .slice none 0 0] 47)) w2.heap.size (.string (ba op)) (.slice none 0 0)) := S3
      have hrk : r < w2.heap.size := HR2.out.lt
      have hm2l := HP2.out.le
      clear S3 b3 HP2 HM2 HR2
      generalize w2.alloc (.cells #[.string (ba op), .slice none 0 0] 47) = w3 at HP3 HM3 HR3 HS3 ⊢
      generalize w2.heap.size = k at HS3 hrk ⊢
      go_loopg [] (m2.length) (fun gk wr => ∃ (N : List UInt8) (L : List (List UInt8)) (p : Option Addr) (c f : Nat), N.length ≤ gk ∧ N.length < f ∧ Hid (((lst 41 quo f false N).pre L).bind (fun ar l => .ok (op, ar) l) = R) ∧ Hid (Ps wr g s N) ∧ Hid (Pm g w wr) ∧ Hid (St2 wr r (.string ⟨#[]⟩) (.slice none 0 0)) ∧ Hid (St2 wr k (.string (ba op)) (.slice p L.length c)) ∧ Hid (TxS wr (k + 1) (.slice p L.length c) L) ∧ Hid (L.length + N.length ≤ s.length))
      case atStart => exact ⟨m2, [], none, 0, n, Nat.le_refl _, by omega, by unfold Hid; rw [pre_nil]; exact HE2.out, HP3, HM3, HR3, HS3, TxS.nil _ _, by show 0 + m2.length ≤ _; omega⟩
      case round =>
        obtain ⟨N, L, p, c, f, hgk, hf, hE, hP, hM, hR, hS, hT, hL⟩ := hrel
        clear HE2 HP3 HM3 HR3 HS3
        have hL' := hL.out
        obtain ⟨f, rfl⟩ : ∃ f', f = f' + 1 := ⟨f - 1, by omega⟩
        by_cases hc : N.head? = some 41
        · obtain ⟨N, rfl⟩ : ∃ m', N = 41 :: m' := by
            cases N with
            | nil => cases hc
            | cons y m' => injection hc with hc; exact ⟨m', by rw [hc]⟩
          have HE : Hid (R = .ok (op, L) N) := by
            have := hE.out
            rw [lst_end] at this
            unfold Hid
            rw [← this]
            show Rs.ok (op, L ++ []) N = Rs.ok (op, L) N
            rw [List.append_nil]
          have SC := skip_yes g s N 41 wr (by omega) hP.out
          rw [h41] at SC
          go_wp2_with fail
          refine SC.mono ?_
          rintro e w4 ⟨rfl, P4, M4⟩
          have HP4 : Hid (Ps w4 g s N) := P4
          have HM4 : Hid (Pm g w w4) := hM.out.trans M4
          have HR4 : Hid (St2 w4 r (.string ⟨#[]⟩) (.slice none 0 0)) := hR.out.same (M4.block r hR.out.lt (by omega))
          have HS4 : Hid (St2 w4 k (.string (ba op)) (.slice p L.length c)) := hS.out.same (M4.block k hS.out.lt (by omega))
          have HT4 : Hid (TxS w4 (k + 1) (.slice p L.length c) L) := hT.out.pm M4 (by omega)
          clear P4 M4 SC hP hM hR hS hT hE hc
          have a0 := HS4.out.c0
          have a1 := HS4.out.c1
          have r0 := HR4.out.c0
          have r1 := HR4.out.c1
          have q0 := HR4.out.f 0
          have q1 := HR4.out.f 1
          go_wp2
          have HR9 : St2 ((w4.setCell ⟨r, 0, none⟩ (.string (ba op))).setCell ⟨r, 1, none⟩ (.slice p L.length c)) r (.string (ba op)) (.slice p L.length c) := (HR4.out.set0 _).set1 _
          have hb9 : ∀ j, j ≠ r → ((w4.setCell ⟨r, 0, none⟩ (.string (ba op))).setCell ⟨r, 1, none⟩ (.slice p L.length c)).heap[j]? = w4.heap[j]? := fun j hj => (Below.heap_setCell _ ⟨r, 1, none⟩ _ j hj).trans (Below.heap_setCell _ ⟨r, 0, none⟩ _ j hj)
          have HM9 : Pm g w ((w4.setCell ⟨r, 0, none⟩ (.string (ba op))).setCell ⟨r, 1, none⟩ (.slice p L.length c)) := (HM4.out.over r 0 _ (by rw [Hr.out]; exact Nat.le_refl _)).over r 1 _ (by rw [Hr.out]; exact Nat.le_refl _)
          have HP9 : Ps ((w4.setCell ⟨r, 0, none⟩ (.string (ba op))).setCell ⟨r, 1, none⟩ (.slice p L.length c)) g s N := HP4.out.same (hb9 g (by omega))
          have HT9 : TxS ((w4.setCell ⟨r, 0, none⟩ (.string (ba op))).setCell ⟨r, 1, none⟩ (.slice p L.length c)) w.heap.size (.slice p L.length c) L := (HT4.out.same (fun j hj => hb9 j (by have := (HT4.out.lt j hj).1; omega))).up (by rw [Hr.out]; omega)
          generalize (w4.setCell ⟨r, 0, none⟩ (.string (ba op))).setCell ⟨r, 1, none⟩ (.slice p L.length c) = w9 at HR9 HM9 HP9 HT9 ⊢
          have z0 := HR9.c0
          have z1 := HR9.c1
          refine bodyPost_ret (v := .agg #[.string (ba op), .slice p L.length c]) (by simp [results, Try.results36, go_sem, z0, z1]) rfl ?_
          rw [HE.out]
          exact ⟨⟨_, rfl, _, rfl, HT9⟩, HP9, HM9⟩
        · have HE0 : Hid ((((ex [44] N).bind fun _ l => (quo l).bind fun v l => (lst 41 quo f false l).cons v).pre L).bind (fun ar l => .ok (op, ar) l) = R) := by
            have := hE.out
            rw [lst_step _ _ _ _ _ hc] at this
            exact this
          have SC := skip_no g s N 41 wr hP.out hc
          rw [h41] at SC
          go_wp2_with fail
          refine SC.mono ?_
          rintro e w4 ⟨rfl, P4, M4⟩
          have HP4 : Hid (Ps w4 g s N) := P4
          have HM4 : Hid (Pm g w w4) := hM.out.trans M4
          have HR4 : Hid (St2 w4 r (.string ⟨#[]⟩) (.slice none 0 0)) := hR.out.same (M4.block r hR.out.lt (by omega))
          have HS4 : Hid (St2 w4 k (.string (ba op)) (.slice p L.length c)) := hS.out.same (M4.block k hS.out.lt (by omega))
          have HT4 : Hid (TxS w4 (k + 1) (.slice p L.length c) L) := hT.out.pm M4 (by omega)
          clear P4 M4 SC hP hM hR hS hT hE hc
          have EC := expect_any g s N [44] w4 (by omega) (by decide) HP4.out
          rw [e44] at EC
          go_wp2_with fail
          refine EC.mono ?_
          intro e w5 hO
          cases hx : ex [44] N with
          | bad m5 =>
            rw [hx] at hO HE0
            obtain ⟨rfl, M5⟩ := hO
            go_wp2
            refine ⟨rfl, ?_⟩
            rw [← HE0.out]
            exact ⟨rfl, HM4.out.trans M5⟩
          | ok u m5 =>
            have hlt0 := ex_le hx
            rw [hx] at hO HE0
            obtain ⟨⟨x, rfl, rfl⟩, P5, M5⟩ := hO
            have HE5 : Hid ((((quo m5).bind fun v l => (lst 41 quo f false l).cons v).pre L).bind (fun ar l => .ok (op, ar) l) = R) := HE0.out
            have HP5 : Hid (Ps w5 g s m5) := P5
            have HM5 : Hid (Pm g w w5) := HM4.out.trans M5
            have HR5 : Hid (St2 w5 r (.string ⟨#[]⟩) (.slice none 0 0)) := HR4.out.same (M5.block r HR4.out.lt (by omega))
            have HS5 : Hid (St2 w5 k (.string (ba op)) (.slice p L.length c)) := HS4.out.same (M5.block k HS4.out.lt (by omega))
            have HT5 : Hid (TxS w5 (k + 1) (.slice p L.length c) L) := HT4.out.pm M5 (by omega)
            have hml5 : m5.length < N.length := by simp at hlt0; omega
            clear P5 M5 HE0 HP4 HM4 HR4 HS4 HT4 hx hlt0 EC
            go_wp2_with fail
            -- @3
            have hSd : (fun _ : World => True) w5.drew := trivial
            have HP5' : Hid (Ps w5.drew g s m5) := HP5.out.same rfl
            have HM5' : Hid (Pm g w w5.drew) := HM5.out.trans (Pm.drewN g _ 1)
            have HR5' : Hid (St2 w5.drew r (.string ⟨#[]⟩) (.slice none 0 0)) := HR5.out.same rfl
            have HS5' : Hid (St2 w5.drew k (.string (ba op)) (.slice p L.length c)) := HS5.out.same rfl
            have HT5' : Hid (TxS w5.drew (k + 1) (.slice p L.length c) L) := HT5.out.same (fun _ _ => rfl)
            clear HP5 HM5 HR5 HS5 HT5
            refine wp_region_held_drew (S := fun _ => True) (by kernel_rfl) trivial (fun _ => ?_)
            generalize w5.drew = W at HP5' HM5' HR5' HS5' HT5' ⊢
            have HP5 := HP5'
            have HM5 := HM5'
            have HR5 := HR5'
            have HS5 := HS5'
            have HT5 := HT5'
            clear HP5' HM5' HR5' HS5' HT5' hSd
            have a0 := HS5.out.c1
            refine wpAnyH_take (i := 0) (oi := { dst := some 14, op := Op.fieldAddr 47 (Operand.tmp 3) 1, type := 0, pos := "parse.go:64", after := #[], guard := none }) (v := .pointer (some ⟨k, 1, none⟩)) rfl (by kernel_rfl) (by kernel_rfl) (by kernel_rfl) (fun _ _ _ h => h) (Or.inl ⟨by rfl, by intro w _; go_simp⟩) trivial ?_
            simp only [Act.put, List.setIfInBounds_toArray, List.set_cons_zero, List.set_cons_succ]
            refine wpAnyH_take (i := 2) (oi := { dst := some 16, op := Op.move (Operand.tmp 0), type := 79, pos := "parse.go:64", after := #[], guard := none }) (v := .pointer (some ⟨g, 0, none⟩)) rfl (by kernel_rfl) (by kernel_rfl) (by kernel_rfl) (fun _ _ _ h => h) (Or.inl ⟨by rfl, by intro w _; go_simp⟩) trivial ?_
            simp only [Act.put, List.setIfInBounds_toArray, List.set_cons_zero, List.set_cons_succ]
            refine wpAnyH_ready (rs := [1, 3]) (by kernel_rfl) (by decide) (AllReadyH.cons rfl (fun K hK => ?_) (AllReadyH.cons rfl (fun K hK => ?_) AllReadyH.nil))
            · rw [if_pos (by rfl)]
              go_simp
              refine hK.out _ _ trivial (fun _ => ?_)
              clear hK K
              try simp only [Act.put, List.setIfInBounds_toArray, List.set_cons_zero, List.set_cons_succ]
              refine wpAnyH_ready (rs := [3]) (by kernel_rfl) (by decide) (AllReadyH.cons rfl (fun K hK => ?_) AllReadyH.nil)
              rw [if_pos (by rfl)]
              go_simp
              refine (quoted_any g s m5 W hs HP5.out).mono ?_
              intro e w6 hO
              cases hx : quo m5 with
              | bad m6 =>
                rw [hx] at hO HE5
                obtain ⟨rfl, M6⟩ := hO
                go_wp2
                refine ⟨rfl, ?_⟩
                rw [← HE5.out]
                exact ⟨rfl, HM5.out.trans M6⟩
              | ok t m6 =>
                have hlt := quo_lt hx
                rw [hx] at hO HE5
                obtain ⟨⟨x, rfl, rfl⟩, P6, M6⟩ := hO
                have HE6 : Hid (((lst 41 quo f false m6).pre (L ++ [t])).bind (fun ar l => .ok (op, ar) l) = R) := by
                  have := HE5.out
                  unfold Hid
                  rw [← pre_cons]
                  exact this
                have HP6 : Hid (Ps w6 g s m6) := P6
                have HM6 : Hid (Pm g w w6) := HM5.out.trans M6
                have HR6 : Hid (St2 w6 r (.string ⟨#[]⟩) (.slice none 0 0)) := HR5.out.same (M6.block r HR5.out.lt (by omega))
                have HS6 : Hid (St2 w6 k (.string (ba op)) (.slice p L.length c)) := HS5.out.same (M6.block k HS5.out.lt (by omega))
                have HT6 : Hid (TxS w6 (k + 1) (.slice p L.length c) L) := HT5.out.pm M6 (by omega)
                have a1 := HS6.out.c1
                have hk6 : k + 1 ≤ w6.heap.size := HS6.out.lt
                obtain ⟨p7, c7, w7, hr7, T7, G7⟩ := HT6.out.app t hk6 (by omega)
                obtain ⟨LN, hLN⟩ : ∃ LN, LN = (L ++ [t]).length := ⟨_, rfl⟩
                rw [← hLN] at hr7 T7
                have HLN : Hid (LN = (L ++ [t]).length) := hLN
                clear hLN
                have hb7 : ∀ j, j ≤ k → w7.heap[j]? = w6.heap[j]? := fun j hj => G7.block j (by omega) (fun e => by have := (HT6.out.lt j e.symm).1; omega)
                have HS7 : Hid (St2 w7 k (.string (ba op)) (.slice p L.length c)) := HS6.out.same (hb7 k (Nat.le_refl _))
                have HT7 : Hid (TxS (w7.setCell ⟨k, 1, none⟩ (.slice p7 LN c7)) (k + 1) (.slice p7 LN c7) (L ++ [t])) := T7.same (fun j hj => Below.heap_setCell w7 _ _ j (by have := (T7.lt j hj).1; show j ≠ k; omega))
                have HM7 : Hid (Pm g w (w7.setCell ⟨k, 1, none⟩ (.slice p7 LN c7))) := (HM6.out.grown G7 (fun j hj => by rw [Hr.out]; have := (HT6.out.lt j hj).1; omega)).over k 1 _ (by rw [Hr.out]; omega)
                have hset : ∀ j, j ≠ k → (w7.setCell ⟨k, 1, none⟩ (.slice p7 LN c7)).heap[j]? = w7.heap[j]? := fun j hj => Below.heap_setCell w7 ⟨k, 1, none⟩ _ j hj
                have HP7 : Hid (Ps (w7.setCell ⟨k, 1, none⟩ (.slice p7 LN c7)) g s m6) := HP6.out.same ((hset g (by omega)).trans (hb7 g (by omega)))
                have HR7 : Hid (St2 (w7.setCell ⟨k, 1, none⟩ (.slice p7 LN c7)) r (.string ⟨#[]⟩) (.slice none 0 0)) := HR6.out.same ((hset r (by omega)).trans (hb7 r (by omega)))
                have HSS : Hid (St2 (w7.setCell ⟨k, 1, none⟩ (.slice p7 LN c7)) k (.string (ba op)) (.slice p7 LN c7)) := HS7.out.set1 _
                have b1 := HS7.out.c1
                have f1 := HS7.out.f 1
                have hl7 : Hid ((L ++ [t]).length + m6.length ≤ s.length) := by unfold Hid; rw [List.length_append]; show L.length + 1 + _ ≤ _; omega
                have hg7 : m6.length ≤ gk - 1 ∧ m6.length < f := by omega
                clear P6 M6 HE5 HP5 HM5 HR5 HS5 HT5 HP6 HM6 HR6 HS6 HT6 T7 G7 hb7 hset HS7 hx hlt
                go_wp2_with fail
                refine hK.out _ _ trivial (fun _ => ?_)
                clear hK K
                try simp only [Act.put, List.setIfInBounds_toArray, List.set_cons_zero, List.set_cons_succ]
                refine wpAnyH_ready (rs := [4]) (by kernel_rfl) (by decide) (AllReadyH.cons rfl (fun K hK => ?_) AllReadyH.nil)
                rw [if_pos (by rfl)]
                go_simp
                refine hK.out _ _ trivial (fun _ => ?_)
                clear hK K
                try simp only [Act.put, List.setIfInBounds_toArray, List.set_cons_zero, List.set_cons_succ]
                refine wpAnyH_ready (rs := [5]) (by kernel_rfl) (by decide) (AllReadyH.cons rfl (fun K hK => ?_) AllReadyH.nil)
                rw [if_pos (by rfl)]
                refine operWp_app 23 23 (.tmp 15) (.tmp 18) (by rfl) _ _ _ _ (by rfl) (by rfl) hr7 ?_
                refine hK.out _ _ trivial (fun _ => ?_)
                clear hK K
                try simp only [Act.put, List.setIfInBounds_toArray]
                refine wpAnyH_ready (rs := [6]) (by kernel_rfl) (by decide) (AllReadyH.cons rfl (fun K hK => ?_) AllReadyH.nil)
                rw [if_pos (by rfl)]
                go_simp
                refine hK.out _ _ trivial (fun _ => ?_)
                clear hK K
                try simp only [Act.put, List.setIfInBounds_toArray, List.set_cons_zero, List.set_cons_succ]
                refine wpAnyH_ready (rs := [7]) (by kernel_rfl) (by decide) (AllReadyH.cons rfl (fun K hK => ?_) AllReadyH.nil)
                rw [if_pos (by rfl)]
                go_simp
                refine hK.out _ _ trivial (fun _ => ?_)
                clear hK K
                refine wpAnyH_done (by kernel_rfl) ?_ _
                go_wp2
                go_roundg (gk - 1)
                case measure => omega
                case rel => exact ⟨m6, L ++ [t], p7, c7, f, hg7.1, hg7.2, HE6, HP7, HM7, HR7, by rw [← HLN.out]; exact HSS, by rw [← HLN.out]; exact HT7, hl7⟩
            · rw [if_pos (by rfl)]
              go_simp
              refine (quoted_any g s m5 W hs HP5.out).mono ?_
              intro e w6 hO
              cases hx : quo m5 with
              | bad m6 =>
                rw [hx] at hO HE5
                obtain ⟨rfl, M6⟩ := hO
                go_wp2
                refine ⟨rfl, ?_⟩
                rw [← HE5.out]
                exact ⟨rfl, HM5.out.trans M6⟩
              | ok t m6 =>
                have hlt := quo_lt hx
                rw [hx] at hO HE5
                obtain ⟨⟨x, rfl, rfl⟩, P6, M6⟩ := hO
                have HE6 : Hid (((lst 41 quo f false m6).pre (L ++ [t])).bind (fun ar l => .ok (op, ar) l) = R) := by
                  have := HE5.out
                  unfold Hid
                  rw [← pre_cons]
                  exact this
                have HP6 : Hid (Ps w6 g s m6) := P6
                have HM6 : Hid (Pm g w w6) := HM5.out.trans M6
                have HR6 : Hid (St2 w6 r (.string ⟨#[]⟩) (.slice none 0 0)) := HR5.out.same (M6.block r HR5.out.lt (by omega))
                have HS6 : Hid (St2 w6 k (.string (ba op)) (.slice p L.length c)) := HS5.out.same (M6.block k HS5.out.lt (by omega))
                have HT6 : Hid (TxS w6 (k + 1) (.slice p L.length c) L) := HT5.out.pm M6 (by omega)
                have a1 := HS6.out.c1
                have hk6 : k + 1 ≤ w6.heap.size := HS6.out.lt
                obtain ⟨p7, c7, w7, hr7, T7, G7⟩ := HT6.out.app t hk6 (by omega)
                obtain ⟨LN, hLN⟩ : ∃ LN, LN = (L ++ [t]).length := ⟨_, rfl⟩
                rw [← hLN] at hr7 T7
                have HLN : Hid (LN = (L ++ [t]).length) := hLN
                clear hLN
                have hb7 : ∀ j, j ≤ k → w7.heap[j]? = w6.heap[j]? := fun j hj => G7.block j (by omega) (fun e => by have := (HT6.out.lt j e.symm).1; omega)
                have HS7 : Hid (St2 w7 k (.string (ba op)) (.slice p L.length c)) := HS6.out.same (hb7 k (Nat.le_refl _))
                have HT7 : Hid (TxS (w7.setCell ⟨k, 1, none⟩ (.slice p7 LN c7)) (k + 1) (.slice p7 LN c7) (L ++ [t])) := T7.same (fun j hj => Below.heap_setCell w7 _ _ j (by have := (T7.lt j hj).1; show j ≠ k; omega))
                have HM7 : Hid (Pm g w (w7.setCell ⟨k, 1, none⟩ (.slice p7 LN c7))) := (HM6.out.grown G7 (fun j hj => by rw [Hr.out]; have := (HT6.out.lt j hj).1; omega)).over k 1 _ (by rw [Hr.out]; omega)
                have hset : ∀ j, j ≠ k → (w7.setCell ⟨k, 1, none⟩ (.slice p7 LN c7)).heap[j]? = w7.heap[j]? := fun j hj => Below.heap_setCell w7 ⟨k, 1, none⟩ _ j hj
                have HP7 : Hid (Ps (w7.setCell ⟨k, 1, none⟩ (.slice p7 LN c7)) g s m6) := HP6.out.same ((hset g (by omega)).trans (hb7 g (by omega)))
                have HR7 : Hid (St2 (w7.setCell ⟨k, 1, none⟩ (.slice p7 LN c7)) r (.string ⟨#[]⟩) (.slice none 0 0)) := HR6.out.same ((hset r (by omega)).trans (hb7 r (by omega)))
                have HSS : Hid (St2 (w7.setCell ⟨k, 1, none⟩ (.slice p7 LN c7)) k (.string (ba op)) (.slice p7 LN c7)) := HS7.out.set1 _
                have b1 := HS7.out.c1
                have f1 := HS7.out.f 1
                have hl7 : Hid ((L ++ [t]).length + m6.length ≤ s.length) := by unfold Hid; rw [List.length_append]; show L.length + 1 + _ ≤ _; omega
                have hg7 : m6.length ≤ gk - 1 ∧ m6.length < f := by omega
                clear P6 M6 HE5 HP5 HM5 HR5 HS5 HT5 HP6 HM6 HR6 HS6 HT6 T7 G7 hb7 hset HS7 hx hlt
                go_wp2_with fail
                refine hK.out _ _ trivial (fun _ => ?_)
                clear hK K
                try simp only [Act.put, List.setIfInBounds_toArray, List.set_cons_zero, List.set_cons_succ]
                refine wpAnyH_ready (rs := [1, 4]) (by kernel_rfl) (by decide) (AllReadyH.cons rfl (fun K hK => ?_) (AllReadyH.cons rfl (fun K hK => ?_) AllReadyH.nil))
                · rw [if_pos (by rfl)]
                  go_simp
                  refine hK.out _ _ trivial (fun _ => ?_)
                  clear hK K
                  try simp only [Act.put, List.setIfInBounds_toArray, List.set_cons_zero, List.set_cons_succ]
                  refine wpAnyH_ready (rs := [4]) (by kernel_rfl) (by decide) (AllReadyH.cons rfl (fun K hK => ?_) AllReadyH.nil)
                  rw [if_pos (by rfl)]
                  go_simp
                  refine hK.out _ _ trivial (fun _ => ?_)
                  clear hK K
                  try simp only [Act.put, List.setIfInBounds_toArray, List.set_cons_zero, List.set_cons_succ]
                  refine wpAnyH_ready (rs := [5]) (by kernel_rfl) (by decide) (AllReadyH.cons rfl (fun K hK => ?_) AllReadyH.nil)
                  rw [if_pos (by rfl)]
                  refine operWp_app 23 23 (.tmp 15) (.tmp 18) (by rfl) _ _ _ _ (by rfl) (by rfl) hr7 ?_
                  refine hK.out _ _ trivial (fun _ => ?_)
                  clear hK K
                  try simp only [Act.put, List.setIfInBounds_toArray]
                  refine wpAnyH_ready (rs := [6]) (by kernel_rfl) (by decide) (AllReadyH.cons rfl (fun K hK => ?_) AllReadyH.nil)
                  rw [if_pos (by rfl)]
                  go_simp
                  refine hK.out _ _ trivial (fun _ => ?_)
                  clear hK K
                  try simp only [Act.put, List.setIfInBounds_toArray, List.set_cons_zero, List.set_cons_succ]
                  refine wpAnyH_ready (rs := [7]) (by kernel_rfl) (by decide) (AllReadyH.cons rfl (fun K hK => ?_) AllReadyH.nil)
                  rw [if_pos (by rfl)]
                  go_simp
                  refine hK.out _ _ trivial (fun _ => ?_)
                  clear hK K
                  refine wpAnyH_done (by kernel_rfl) ?_ _
                  go_wp2
                  go_roundg (gk - 1)
                  case measure => omega
                  case rel => exact ⟨m6, L ++ [t], p7, c7, f, hg7.1, hg7.2, HE6, HP7, HM7, HR7, by rw [← HLN.out]; exact HSS, by rw [← HLN.out]; exact HT7, hl7⟩
                · rw [if_pos (by rfl)]
                  go_simp
                  have a2 : (w6.alloc (.cells #[.string (ba t)] 9)).cell? ⟨k, 1, none⟩ = some (.slice p L.length c) := (World.cell?_of_block (w := w6) (a := ⟨k, 1, none⟩) (Below.heap_alloc w6 _ k (by omega))).trans a1
                  refine hK.out _ _ trivial (fun _ => ?_)
                  clear hK K
                  try simp only [Act.put, List.setIfInBounds_toArray, List.set_cons_zero, List.set_cons_succ]
                  refine wpAnyH_ready (rs := [1]) (by kernel_rfl) (by decide) (AllReadyH.cons rfl (fun K hK => ?_) AllReadyH.nil)
                  rw [if_pos (by rfl)]
                  go_simp
                  refine hK.out _ _ trivial (fun _ => ?_)
                  clear hK K
                  try simp only [Act.put, List.setIfInBounds_toArray, List.set_cons_zero, List.set_cons_succ]
                  refine wpAnyH_ready (rs := [5]) (by kernel_rfl) (by decide) (AllReadyH.cons rfl (fun K hK => ?_) AllReadyH.nil)
                  rw [if_pos (by rfl)]
                  refine operWp_app 23 23 (.tmp 15) (.tmp 18) (by rfl) _ _ _ _ (by rfl) (by rfl) hr7 ?_
                  refine hK.out _ _ trivial (fun _ => ?_)
                  clear hK K
                  try simp only [Act.put, List.setIfInBounds_toArray]
                  refine wpAnyH_ready (rs := [6]) (by kernel_rfl) (by decide) (AllReadyH.cons rfl (fun K hK => ?_) AllReadyH.nil)
                  rw [if_pos (by rfl)]
                  go_simp
                  refine hK.out _ _ trivial (fun _ => ?_)
                  clear hK K
                  try simp only [Act.put, List.setIfInBounds_toArray, List.set_cons_zero, List.set_cons_succ]
                  refine wpAnyH_ready (rs := [7]) (by kernel_rfl) (by decide) (AllReadyH.cons rfl (fun K hK => ?_) AllReadyH.nil)
                  rw [if_pos (by rfl)]
                  go_simp
                  refine hK.out _ _ trivial (fun _ => ?_)
                  clear hK K
                  refine wpAnyH_done (by kernel_rfl) ?_ _
                  go_wp2
                  go_roundg (gk - 1)
                  case measure => omega
                  case rel => exact ⟨m6, L ++ [t], p7, c7, f, hg7.1, hg7.2, HE6, HP7, HM7, HR7, by rw [← HLN.out]; exact HSS, by rw [← HLN.out]; exact HT7, hl7⟩

end Go.Proofs.Ytbfhfejdmhjccaa
