/- The document's CheckLabel, walked; spath.Parse and the document's. -/
import Derived.Test.YtgnlkggodchlbaaDoorPtB
namespace Go.Proofs.YtgnlkggodchlbaaDoor
open Go.RowKit

/-- Is c one of t's bytes? -/
def amB (t : ByteArray) (c : Int) : Bool := (List.range t.size).any (fun k => bt t k == c)
theorem amB_iff (t : ByteArray) (c : Int) : amB t c = true ↔ ∃ k, k < t.size ∧ bt t k = c := by
  unfold amB
  rw [List.any_eq_true]
  constructor
  · rintro ⟨k, hk, e⟩; exact ⟨k, List.mem_range.1 hk, by simpa using e⟩
  · rintro ⟨k, hk, e⟩; exact ⟨k, List.mem_range.2 hk, by simpa using e⟩

set_option maxHeartbeats 400000 in
theorem among_any (c : Int) (t : ByteArray) (w : World) (ht : t.size ≤ 140737488351232) :
    Calls Tryd.prog 92 #[.int .u8 c, .string t] w fun e w' => e = .returned (.bool (amB t c)) ∧ w' = w := by
  have hb := get_bt t
  go_enter Tryd.func92, Tryd.ntmps92
  go_wp2
  go_loop [5] (fun i => ∃ k : Nat, k ≤ t.size ∧ i = .int .i64 k ∧ Hid (∀ j, j < k → bt t j ≠ c)) (fun i => t.size - (intOf i).toNat)
  case atStart => exact ⟨0, Nat.zero_le _, rfl, fun j hj => absurd hj (by omega)⟩
  case round =>
    obtain ⟨k, hk, rfl, hok⟩ := hrel
    by_cases hlt : k < t.size
    · by_cases he : bt t k = c
      · have E1 : (bt t k == c) = true := by simp [he]
        have hh : Hid (amB t c = true) := (amB_iff t c).2 ⟨k, hlt, he⟩
        clear he
        go_wp2
        go_ret
        exact ⟨by rw [hh.out]; rfl, rfl⟩
      · have E1 : (bt t k == c) = false := by rw [beq_eq_false_iff_ne]; exact he
        have HE : Hid (bt t k ≠ c) := he
        clear he
        go_wp2
        go_round
        case rel => exact ⟨k + 1, by omega, by go_num, fun j hj => by
          by_cases e : j = k
          · rw [e]; exact HE.out
          · exact hok.out j (by omega)⟩
        case measure => simp [intOf]; omega
    · have hh : Hid (amB t c = false) := by
        unfold Hid
        rw [Bool.eq_false_iff]; intro h
        obtain ⟨k', hk', e⟩ := (amB_iff t c).1 h
        exact hok.out k' (by omega) e
      go_wp2
      go_ret
      exact ⟨by rw [hh.out]; rfl, rfl⟩

/-- The document's alphabet of labels. -/
def alp : ByteArray := ⟨#[48, 49, 50, 51, 52, 53, 54, 55, 56, 57, 65, 66, 67, 68, 69, 70, 71, 72, 73, 74, 75, 76, 77, 78, 79, 80, 81, 82, 83, 84, 85, 86, 87, 88, 89, 90, 97, 98, 99, 100, 101, 102, 103, 104, 105, 106, 107, 108, 109, 110, 111, 112, 113, 114, 115, 116, 117, 118, 119, 120, 121, 122, 43, 45, 95, 63, 61, 46]⟩
theorem alp_lab : ∀ n : Nat, n < 256 → amB alp (n : Int) = labC (n : Int) := by decide +kernel
theorem alp_is (c : Int) (h : 0 ≤ c ∧ c < 256) : amB alp c = labC c := by
  obtain ⟨n, rfl⟩ : ∃ n : Nat, c = n := ⟨c.toNat, by omega⟩
  exact alp_lab n (by omega)
theorem alp_size : alp.size = 68 := rfl

theorem among_alp (c : Int) (w : World) (h : 0 ≤ c ∧ c < 256) :
    Calls Tryd.prog 92 #[.int .u8 c, .string alp] w fun e w' => e = .returned (.bool (labC c)) ∧ w' = w := by
  rw [← alp_is c h]; exact among_any c alp w (by rw [alp_size]; decide)

set_option maxHeartbeats 400000 in
theorem rckL_any (s : ByteArray) (w : World) :
    Calls Tryd.prog 83 #[.string s] w fun e w' => e = .returned (.int .i64 (lab s)) ∧ w' = w := by
  by_cases h1 : s.size < 1
  · have hh : Hid (lab s = 130) := lab_no (fun h => by have := h.1; omega)
    go_enter Tryd.func83, Tryd.ntmps83
    go_wp2
    go_ret
    exact ⟨by rw [hh.out]; rfl, rfl⟩
  · by_cases h2 : 211 < s.size
    · have hh : Hid (lab s = 130) := lab_no (fun h => by have := h.2.1; omega)
      go_enter Tryd.func83, Tryd.ntmps83
      go_wp2
      go_ret
      exact ⟨by rw [hh.out]; rfl, rfl⟩
    · have N1 : Hid (¬ s.size < 1) := h1
      have N2 : Hid (¬ 211 < s.size) := h2
      have hb := get_bt s
      have hbd := bt_bd s
      have hsz : s.size ≤ 211 := by omega
      go_enter Tryd.func83, Tryd.ntmps83
      go_wp2
      clear h1 h2
      go_loop [3] (fun i => ∃ k : Nat, k ≤ s.size ∧ i = .int .i64 k ∧ Hid (∀ j, j < k → labC (bt s j) = true ∧ (j = 0 → bt s j ≠ 46))) (fun i => s.size - (intOf i).toNat)
      case atStart => exact ⟨0, Nat.zero_le _, rfl, fun j hj => absurd hj (by omega)⟩
      case round =>
        obtain ⟨k, hk, rfl, hok⟩ := hrel
        by_cases hlt : k < s.size
        · cases hc : labC (bt s k)
          · have hh : Hid (lab s = 130) := lab_no (fun h => by have := h.2.2.2 k hlt; rw [hc] at this; exact Bool.noConfusion this)
            have HC : Hid (labC (bt s k) = false) := hc
            clear hc
            go_wp2_with fail
            refine (among_alp _ _ (hbd k)).mono ?_
            rintro e w1 ⟨rfl, rfl⟩
            rw [HC.out]
            go_wp2
            go_ret
            exact ⟨by rw [hh.out]; rfl, rfl⟩
          · have HC : Hid (labC (bt s k) = true) := hc
            clear hc
            by_cases hk0 : k = 0
            · subst hk0
              by_cases h46 : bt s 0 = 46
              · have hh : Hid (lab s = 130) := lab_no (fun h => h.2.2.1 h46)
                have E : (bt s 0 == 46) = true := by simp [h46]
                clear h46
                go_wp2_with fail
                refine (among_alp _ _ (hbd 0)).mono ?_
                rintro e w1 ⟨rfl, rfl⟩
                rw [HC.out]
                go_wp2
                go_ret
                exact ⟨by rw [hh.out]; rfl, rfl⟩
              · have E : (bt s 0 == 46) = false := by simp [h46]
                have HE : Hid (bt s 0 ≠ 46) := h46
                clear h46
                go_wp2_with fail
                refine (among_alp _ _ (hbd 0)).mono ?_
                rintro e w1 ⟨rfl, rfl⟩
                rw [HC.out]
                go_wp2
                go_round
                case rel => exact ⟨1, by omega, by go_num, fun j hj => by
                  obtain rfl : j = 0 := by omega
                  exact ⟨HC.out, fun _ => HE.out⟩⟩
                case measure => simp [intOf]; omega
            · have E : ((k : Int) == 0) = false := by rw [beq_eq_false_iff_ne]; omega
              have HK : Hid (k ≠ 0) := hk0
              clear hk0
              go_wp2_with fail
              refine (among_alp _ _ (hbd k)).mono ?_
              rintro e w1 ⟨rfl, rfl⟩
              rw [HC.out]
              go_wp2
              go_round
              case rel => exact ⟨k + 1, by omega, by go_num, fun j hj => by
                by_cases e : j = k
                · rw [e]; exact ⟨HC.out, fun h => absurd h HK.out⟩
                · exact hok.out j (by omega)⟩
              case measure => simp [intOf]; omega
        · have hh : Hid (lab s = 0) := lab_yes ⟨by have := N1.out; omega, by have := N2.out; omega, (hok.out 0 (by have := N1.out; omega)).2 rfl, fun j hj => (hok.out j (by omega)).1⟩
          go_wp2
          go_ret
          exact ⟨by rw [hh.out]; rfl, rfl⟩

end Go.Proofs.YtgnlkggodchlbaaDoor
