/- info.isNumber, readSize; walked. -/
import Derived.Test.YtjhbfkckkinfjaaDoorInK
namespace Go.Proofs.YtjhbfkckkinfjaaDoor
open Go.RowKit Go.Shelf

def nmOk (t : ByteArray) : Prop := t.size ≠ 0 ∧ ¬ (bt t 0 = 48 ∧ 1 < t.size) ∧ ∀ k, k < t.size → 48 ≤ bt t k ∧ bt t k ≤ 57
instance (t : ByteArray) : Decidable (nmOk t) := inferInstanceAs (Decidable (_ ∧ _ ∧ _))
/-- The number that the first k digits are. -/
def nv (t : ByteArray) : Nat → Int
  | 0 => 0
  | k + 1 => 10 * nv t k + (bt t k - 48)
theorem nv_mono (t : ByteArray) (h : ∀ k, k < t.size → 48 ≤ bt t k ∧ bt t k ≤ 57) : ∀ m k, k + m ≤ t.size → 0 ≤ nv t k ∧ nv t k ≤ nv t (k + m) := by
  have nn : ∀ k, k ≤ t.size → 0 ≤ nv t k := by
    intro k
    induction k with
    | zero => intro _; exact Int.le_refl 0
    | succ k ih =>
      intro hk
      have h1 := ih (by omega)
      have h2 := h k (by omega)
      unfold nv
      omega
  intro m
  induction m with
  | zero => intro k hk; exact ⟨nn k (by omega), Int.le_refl _⟩
  | succ m ih =>
    intro k hk
    obtain ⟨h1, h2⟩ := ih k (by omega)
    have h3 := h (k + m) (by omega)
    have h4 := nn (k + m) (by omega)
    refine ⟨h1, ?_⟩
    show nv t k ≤ 10 * nv t (k + m) + (bt t (k + m) - 48)
    omega

set_option maxRecDepth 100000 in
set_option maxHeartbeats 1000000 in
theorem isN_any (t : ByteArray) (w : World) (ht : t.size ≤ 281474976710656) :
    Calls Tryd.prog 49 #[.string t] w fun e w' => e = .returned (.bool (decide (nmOk t))) ∧ w' = w := by
  have hb := get_bt t
  by_cases hz : t.size = 0
  · have hh : Hid (decide (nmOk t) = false) := decide_eq_false (fun h => h.1 hz)
    obtain rfl : t = ⟨#[]⟩ := bytes_ext (by rw [hz]; rfl) (fun k hk => absurd hk (by omega))
    clear hb hz
    go_enter Tryd.func49, Tryd.ntmps49
    go_wp2
    go_ret
    exact ⟨by rw [hh.out]; rfl, rfl⟩
  · have he : t.toList.isEmpty = false := by
      cases h : t.toList.isEmpty
      · rfl
      · exact absurd ((empty_iff t).1 h) hz
    have he2 : (t.toList == []) = false := by rw [beq_eq_false_iff_ne]; intro h; rw [h] at he; exact Bool.noConfusion he
    have he3 : ¬ t.toList = [] := fun h => by rw [h] at he; exact Bool.noConfusion he
    have h0 : 0 < t.size := by omega
    by_cases hl : bt t 0 = 48 ∧ 1 < t.size
    · have hh : Hid (decide (nmOk t) = false) := decide_eq_false (fun h => h.2.1 hl)
      obtain ⟨hl1, hl2⟩ := hl
      have q1 : (bt t 0 == 48) = true := by rw [hl1]; rfl
      have q2 : (1 : Int) < (t.size : Int) := by omega
      clear hz
      go_enter Tryd.func49, Tryd.ntmps49
      go_wp2
      go_ret
      exact ⟨by rw [hh.out]; rfl, rfl⟩
    · have HL : Hid (¬ (bt t 0 = 48 ∧ 1 < t.size)) := hl
      have HZ : Hid (t.size ≠ 0) := hz
      have key : (bt t 0 == 48) = false ∨ ((bt t 0 == 48) = true ∧ ¬ (1 : Int) < (t.size : Int)) := by
        by_cases q : bt t 0 = 48
        · right; exact ⟨by rw [q]; rfl, fun h => hl ⟨q, by omega⟩⟩
        · left; rw [beq_eq_false_iff_ne]; exact q
      clear hl hz
      rcases key with q1 | ⟨q1, q2⟩
      all_goals
        go_enter Tryd.func49, Tryd.ntmps49
        go_wp2
        clear he he2 he3
        go_loop [18] (fun i => ∃ k : Nat, k ≤ t.size ∧ i = .int .i64 k ∧ Hid (∀ j, j < k → 48 ≤ bt t j ∧ bt t j ≤ 57)) (fun i => t.size - (intOf i).toNat)
        case atStart => exact ⟨0, Nat.zero_le _, rfl, fun j hj => absurd hj (by omega)⟩
        case round =>
          obtain ⟨k, hk, rfl, hok⟩ := hrel
          by_cases hlt : k < t.size
          · by_cases g1 : bt t k < 48
            · have hh : Hid (decide (nmOk t) = false) := decide_eq_false (fun h => by have := (h.2.2 k hlt).1; omega)
              go_wp2
              go_ret
              exact ⟨by rw [hh.out]; rfl, rfl⟩
            · by_cases g2 : 57 < bt t k
              · have hh : Hid (decide (nmOk t) = false) := decide_eq_false (fun h => by have := (h.2.2 k hlt).2; omega)
                go_wp2
                go_ret
                exact ⟨by rw [hh.out]; rfl, rfl⟩
              · have hok2 : Hid (∀ j, j < k + 1 → 48 ≤ bt t j ∧ bt t j ≤ 57) := fun j hj => by
                  by_cases e : j = k
                  · rw [e]; omega
                  · exact hok.out j (by omega)
                go_wp2
                go_round
                case rel => exact ⟨k + 1, by omega, by go_num, hok2⟩
                case measure => simp [intOf]; omega
          · have hh : Hid (decide (nmOk t) = true) := decide_eq_true ⟨HZ.out, HL.out, fun j hj => hok.out j (by omega)⟩
            go_wp2
            go_ret
            exact ⟨by rw [hh.out]; rfl, rfl⟩

def rzC (l : ByteArray) : Int := if hpQ l hdZ = true ∧ nmOk (cpQ l hdZ) then (if nv (cpQ l hdZ) (cpQ l hdZ).size ≤ 1048576 then 0 else 152) else 150
def rzV (l : ByteArray) : Int := if rzC l = 0 then nv (cpQ l hdZ) (cpQ l hdZ).size else 0
theorem rzC_no {l : ByteArray} (g : ¬ (hpQ l hdZ = true ∧ nmOk (cpQ l hdZ))) : rzC l = 150 := if_neg g
theorem rzC_yes {l : ByteArray} (g : hpQ l hdZ = true ∧ nmOk (cpQ l hdZ)) (h : nv (cpQ l hdZ) (cpQ l hdZ).size ≤ 1048576) : rzC l = 0 := by unfold rzC; rw [if_pos g, if_pos h]
theorem rzC_big {l : ByteArray} (g : hpQ l hdZ = true ∧ nmOk (cpQ l hdZ)) (h : ¬ nv (cpQ l hdZ) (cpQ l hdZ).size ≤ 1048576) : rzC l = 152 := by unfold rzC; rw [if_pos g, if_neg h]
theorem rzV_n {l : ByteArray} (g : rzC l ≠ 0) : rzV l = 0 := if_neg g
theorem rzV_z {l : ByteArray} (g : rzC l = 0) : rzV l = nv (cpQ l hdZ) (cpQ l hdZ).size := if_pos g

set_option maxRecDepth 100000 in
set_option maxHeartbeats 1000000 in
theorem rdZ_any (l : ByteArray) (w : World) (hl : l.size ≤ 281474976710656) :
    Calls Tryd.prog 36 #[.string l] w fun e w' => e = .returned (.tuple #[.int .i64 (rzV l), .int .i64 (rzC l)]) ∧ w' = w := by
  have C0 := cutQ_any l hdZ w
  have hq := cpQ_size l hdZ
  have C1 := isN_any (cpQ l hdZ) w (by omega)
  cases g : hpQ l hdZ
  · have e1 := rzC_no (l := l) (fun h => by rw [g] at h; exact Bool.noConfusion h.1)
    rw [rzV_n (by rw [e1]; decide), e1]
    rw [g] at C0
    clear g e1 C1 hq
    generalize cpQ l hdZ = q at C0
    go_enter Tryd.func36, Tryd.ntmps36
    rw [show (⟨#[83, 105, 122, 101, 58, 32]⟩ : ByteArray) = hdZ from rfl]
    go_wp2_with fail
    refine C0.mono ?_
    rintro e w1 ⟨rfl, rfl⟩
    go_wp2
    go_ret2
    exact ⟨rfl, rfl⟩
  · by_cases hn : nmOk (cpQ l hdZ)
    · rw [decide_eq_true hn] at C1
      rw [g] at C0
      generalize hV : rzV l = V
      generalize hK : rzC l = K
      have HV : Hid (rzV l = V) := hV
      have HK : Hid (rzC l = K) := hK
      clear hV hK
      have hgn : Hid (hpQ l hdZ = true ∧ nmOk (cpQ l hdZ)) := ⟨g, hn⟩
      have HM : Hid (∀ m k, k + m ≤ (cpQ l hdZ).size → 0 ≤ nv (cpQ l hdZ) k ∧ nv (cpQ l hdZ) k ≤ nv (cpQ l hdZ) (k + m)) := nv_mono _ hn.2.2
      have HD : Hid (∀ k, k < (cpQ l hdZ).size → 48 ≤ bt (cpQ l hdZ) k ∧ bt (cpQ l hdZ) k ≤ 57) := hn.2.2
      have HY : Hid (nv (cpQ l hdZ) (cpQ l hdZ).size ≤ 1048576 → V = nv (cpQ l hdZ) (cpQ l hdZ).size ∧ K = 0) := fun h => ⟨by rw [← HV.out, rzV_z (rzC_yes hgn.out h)], by rw [← HK.out, rzC_yes hgn.out h]⟩
      have HN : Hid (¬ nv (cpQ l hdZ) (cpQ l hdZ).size ≤ 1048576 → V = 0 ∧ K = 152) := fun h => ⟨by rw [← HV.out, rzV_n (by rw [rzC_big hgn.out h]; decide)], by rw [← HK.out, rzC_big hgn.out h]⟩
      clear g hn hgn HV HK
      generalize cpQ l hdZ = q at C0 C1 hq HM HD HY HN
      have hb := get_bt q
      go_enter Tryd.func36, Tryd.ntmps36
      rw [show (⟨#[83, 105, 122, 101, 58, 32]⟩ : ByteArray) = hdZ from rfl]
      go_wp2_with fail
      refine C0.mono ?_
      rintro e w1 ⟨rfl, rfl⟩
      go_wp2_with fail
      refine C1.mono ?_
      rintro e w2 ⟨rfl, rfl⟩
      clear C0 C1
      go_wp2
      go_loop [6, 22] (fun nx i => ∃ (k : Nat) (v : Int), k ≤ q.size ∧ i = .int .i64 k ∧ nx = .int .i64 v ∧ 0 ≤ v ∧ v ≤ 1048576 ∧ Hid (v = nv q k)) (fun _ i => q.size - (intOf i).toNat)
      case atStart => exact ⟨0, 0, Nat.zero_le _, rfl, rfl, Int.le_refl _, by omega, rfl⟩
      case round =>
        obtain ⟨k, v, hk, rfl, rfl, hv0, hv1, hv⟩ := hrel
        by_cases hlt : k < q.size
        · obtain ⟨d0, d1⟩ := HD.out k hlt
          have hs : Hid (nv q (k + 1) = 10 * v + (bt q k - 48)) := by unfold Hid; rw [hv.out]; rfl
          have k1 : IntKind.u8.wrap (bt q k - 48) = bt q k - 48 := by rw [IntKind.wrap_u8]; omega
          by_cases hbig : 1048576 < 10 * v + (bt q k - 48)
          · have hn2 : Hid (V = 0 ∧ K = 152) := HN.out (by
              have := (HM.out (q.size - (k + 1)) (k + 1) (by omega)).2
              rw [show k + 1 + (q.size - (k + 1)) = q.size from by omega, hs.out] at this
              omega)
            go_wp2
            go_ret2
            exact ⟨by rw [hn2.out.1, hn2.out.2]; rfl, rfl⟩
          · go_wp2
            go_round
            case rel => exact ⟨k + 1, 10 * v + (bt q k - 48), by omega, by go_num, by go_num, by omega, by omega, hs.out.symm⟩
            case measure => simp [intOf]; omega
        · obtain rfl : k = q.size := by omega
          have hy : Hid (V = nv q q.size ∧ K = 0) := HY.out (by rw [← hv.out]; exact hv1)
          go_wp2
          go_ret2
          exact ⟨by rw [hy.out.1, hy.out.2, hv.out]; rfl, rfl⟩
    · rw [decide_eq_false hn] at C1
      have e1 := rzC_no (l := l) (fun h => hn h.2)
      rw [rzV_n (by rw [e1]; decide), e1]
      rw [g] at C0
      clear g e1 hq hn
      generalize cpQ l hdZ = q at C0 C1
      go_enter Tryd.func36, Tryd.ntmps36
      rw [show (⟨#[83, 105, 122, 101, 58, 32]⟩ : ByteArray) = hdZ from rfl]
      go_wp2_with fail
      refine C0.mono ?_
      rintro e w1 ⟨rfl, rfl⟩
      go_wp2_with fail
      refine C1.mono ?_
      rintro e w2 ⟨rfl, rfl⟩
      go_wp2
      go_ret2
      exact ⟨rfl, rfl⟩

end Go.Proofs.YtjhbfkckkinfjaaDoor
