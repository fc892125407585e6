/- The law ShellWords, walked (own text of the verifier). -/
import Derived.Test.YthodlcmmagjboaaDoorSwH
namespace Go.Proofs.YthodlcmmagjboaaDoor
open Go.RowKit

theorem awake_esc (w : World) :
    Calls Tryd.prog 5 #[.string ⟨#[97, 32, 98, 37]⟩] w fun e w' => e = .returned (.string ⟨#[97, 37, 50, 48, 98, 37, 50, 53]⟩) ∧ Below w.heap.size w w' := by
  have h := esc_any [97, 32, 98, 37] w (by decide)
  have e : eT [97, 32, 98, 37] = [97, 37, 50, 48, 98, 37, 50, 53] := by decide +kernel
  rw [e] at h
  exact h

set_option maxHeartbeats 8000000 in
set_option maxRecDepth 100000 in
theorem words_walk (s l : List UInt8) (w : World) (hs : s.length ≤ 1048576) (hl : l.length ≤ 1048576) :
    Calls Tryd.prog 3 #[.string (ba s), .string (ba l)] w fun e w' => e = .returned (.bool true) ∧ Below w.heap.size w w' := by
  have A0 := awake_esc w
  have hne : ((ByteArray.mk #[97, 37, 50, 48, 98, 37, 50, 53]).toList != [97, 37, 50, 48, 98, 37, 50, 53]) = false := by decide +kernel
  have hee : ((ba (eT s)).toList == (ba (eT s)).toList) = true := by simp
  go_enter Tryd.func3, Tryd.ntmps3
  go_wp2_with fail
  refine A0.mono ?_
  rintro e w1 ⟨rfl, L1⟩
  have C1 := words_any l w1 (by omega)
  clear A0
  go_wp2_with fail
  refine C1.mono ?_
  rintro e w2 ⟨P2, L2⟩
  have C2 := rwords_any l w2 (by omega)
  have B2 := bel_trans L1 L2
  clear C1 L1
  rcases P2 with ⟨h4, rfl⟩ | ⟨h4, hN, rfl⟩ | ⟨h4, T, x, c, hN, rfl, hS⟩
  · go_wp2_with fail
    refine C2.mono ?_
    rintro e w3 ⟨P3, L3⟩
    have B3 := bel_trans B2 L3
    obtain rfl : e = .returned (.tuple #[.slice none 0 0, .int .i64 6]) := by
      rcases P3 with ⟨_, h⟩ | ⟨h, _⟩ | ⟨h, _⟩
      · exact h
      · omega
      · omega
    have C3 := esc_any s w3 (by omega)
    clear P3 C2 L2 L3 B2
    go_wp2_with fail
    refine C3.mono ?_
    rintro e w4 ⟨rfl, L4⟩
    have B4 := bel_trans B3 L4
    have C4 := resc_any s w4 (by omega)
    clear C3 L4 B3
    go_wp2_with fail
    refine C4.mono ?_
    rintro e w5 ⟨rfl, L5⟩
    have B5 := bel_trans B4 L5
    have C5 := texts_any none none 0 0 0 (fun _ => ⟨#[]⟩) w5 (fun i hi => absurd hi (by omega)) (fun i hi => absurd hi (by omega)) (by omega)
    clear C4 L5 B4
    go_wp2_with fail
    refine C5.mono ?_
    rintro e w6 ⟨rfl, L6⟩
    have B6 := bel_trans B5 L6
    clear C5 L6 B5
    go_wp2
    go_ret
    exact ⟨rfl, B6⟩
  · go_wp2_with fail
    refine C2.mono ?_
    rintro e w3 ⟨P3, L3⟩
    have B3 := bel_trans B2 L3
    obtain rfl : e = .returned (.tuple #[.slice none 0 0, .int .i64 251]) := by
      rcases P3 with ⟨h, _⟩ | ⟨_, _, h⟩ | ⟨_, T, _, _, h, _⟩
      · omega
      · exact h
      · rw [hN] at h; cases h
    have C3 := esc_any s w3 (by omega)
    clear P3 C2 L2 L3 B2
    go_wp2_with fail
    refine C3.mono ?_
    rintro e w4 ⟨rfl, L4⟩
    have B4 := bel_trans B3 L4
    have C4 := resc_any s w4 (by omega)
    clear C3 L4 B3
    go_wp2_with fail
    refine C4.mono ?_
    rintro e w5 ⟨rfl, L5⟩
    have B5 := bel_trans B4 L5
    have C5 := texts_any none none 0 0 0 (fun _ => ⟨#[]⟩) w5 (fun i hi => absurd hi (by omega)) (fun i hi => absurd hi (by omega)) (by omega)
    clear C4 L5 B4
    go_wp2_with fail
    refine C5.mono ?_
    rintro e w6 ⟨rfl, L6⟩
    have B6 := bel_trans B5 L6
    clear C5 L6 B5
    go_wp2
    go_ret
    exact ⟨rfl, B6⟩
  · go_wp2_with fail
    refine C2.mono ?_
    rintro e w3 ⟨P3, L3⟩
    have B3 := bel_trans B2 L3
    obtain ⟨y, d, rfl, hS3⟩ : ∃ y d, e = .returned (.tuple #[.slice y T.length d, .int .i64 0]) ∧ SIs w3 y T.length (fun j => nth T j) := by
      rcases P3 with ⟨h, _⟩ | ⟨_, h, _⟩ | ⟨_, T', y, d, h, h1, h2⟩
      · omega
      · rw [hN] at h; cases h
      · rw [hN] at h; cases h; exact ⟨y, d, h1, h2⟩
    have hTl : T.length ≤ 4097 := by
      have h1 := wds_len _ _ hN
      have h2 := spl_len l
      omega
    have hS2 := hS.below L3 (Nat.le_refl _)
    have C3 := esc_any s w3 (by omega)
    clear P3 C2 L2 B2 hS
    go_wp2_with fail
    refine C3.mono ?_
    rintro e w4 ⟨rfl, L4⟩
    have B4 := bel_trans B3 L4
    have C4 := resc_any s w4 (by omega)
    clear C3 B3
    go_wp2_with fail
    refine C4.mono ?_
    rintro e w5 ⟨rfl, L5⟩
    have B5 := bel_trans B4 L5
    have C5 := texts_any x y T.length c d (fun j => nth T j) w5 ((hS2.below L4 (Nat.le_refl _)).below L5 (Nat.le_refl _)) ((hS3.below L4 (Nat.le_refl _)).below L5 (Nat.le_refl _)) (by omega)
    clear C4 L5 B4 L4 hS2 hS3 L3 hN
    generalize T.length = tn at C5 hTl ⊢
    go_wp2_with fail
    refine C5.mono ?_
    rintro e w6 ⟨rfl, L6⟩
    have B6 := bel_trans B5 L6
    clear C5 L6 B5
    go_wp2
    go_ret
    exact ⟨rfl, B6⟩

theorem words_walkF (s l : ByteArray) (w : World) (hs : s.size ≤ 1048576) (hl : l.size ≤ 1048576) :
    Calls Tryd.prog 3 #[.string s, .string l] w fun e w' => e = .returned (.bool true) ∧ Below w.heap.size w w' := by
  have h := words_walk s.data.toList l.data.toList w (by rw [Array.length_toList]; exact hs) (by rw [Array.length_toList]; exact hl)
  rw [ba_list, ba_list] at h
  exact h

end Go.Proofs.YthodlcmmagjboaaDoor
