/- A line of info.Print; info.bases; walked. -/
import Derived.Test.YtjhbfkckkinfjaaDoorInG
namespace Go.Proofs.YtjhbfkckkinfjaaDoor
open Go.RowKit Go.Shelf

def nl : ByteArray := ⟨#[10]⟩
theorem app_size (a b : ByteArray) : (a ++ b).size = a.size + b.size := ByteArray.size_append

set_option maxHeartbeats 1000000 in
set_option maxRecDepth 100000 in
theorem line_any (b : Nat) (t h r : ByteArray) (w : World) (hb : Bd w b t) (hlen : t.size + h.size + r.size + 1 ≤ 140737488355328) :
    Calls Tryd.prog 10 #[.string h, .string r, .pointer (some ⟨b, 0, none⟩)] w fun e w' => (∃ v, e = .returned v) ∧ Bd w' b (t ++ h ++ r ++ nl) ∧ Below b w w' := by
  have C1 := ws_any b t h w hb (by omega)
  go_enter Tryd.func10, Tryd.ntmps10
  rw [show (⟨#[10]⟩ : ByteArray) = nl from rfl]
  go_wp2_with fail
  refine C1.mono ?_
  rintro e w1 ⟨rfl, h1, b1⟩
  go_wp2_with fail
  refine (ws_any b (t ++ h) r w1 h1 (by rw [app_size]; omega)).mono ?_
  rintro e w2 ⟨rfl, h2, b2⟩
  go_wp2_with fail
  refine (ws_any b (t ++ h ++ r) nl w2 h2 (by rw [app_size, app_size]; show _ + 1 ≤ _; omega)).mono ?_
  rintro e w3 ⟨rfl, h3, b3⟩
  have B3 : Hid (Below b w w3) := (b1.trans b2).trans b3
  clear b1 b2 b3 h1 h2 C1
  go_wp2
  go_end0
  exact ⟨⟨_, rfl⟩, h3, B3.out⟩

/-- The bases, each with a blank ahead. -/
def bsS (f : Nat → ByteArray) : Nat → ByteArray
  | 0 => ⟨#[]⟩
  | n + 1 => bsS f n ++ ((⟨#[32]⟩ : ByteArray) ++ (f n).extract 13 (f n).size)
theorem prC_max {p : ByteArray} (h : prC p = 0) : p.size ≤ 257 := by
  unfold prC at h
  split at h
  · split at h
    · rcases lab_cases (pLab p) with ⟨g, _⟩ | ⟨_, g⟩
      · have := g.2.1
        unfold pLab at this
        rw [ByteArray.size_extract] at this
        omega
      · rw [g] at h; exact absurd h (by decide)
    · exact absurd h (by decide)
  · exact absurd h (by decide)
theorem bsS_size (f : Nat → ByteArray) (n : Nat) (h : ∀ i, i < n → (f i).size ≤ 257) : (bsS f n).size ≤ 258 * n := by
  induction n with
  | zero => exact Nat.zero_le _
  | succ n ih =>
    have h1 := ih (fun i hi => h i (by omega))
    have h2 := h n (by omega)
    show (bsS f n ++ ((⟨#[32]⟩ : ByteArray) ++ (f n).extract 13 (f n).size)).size ≤ _
    rw [app_size, app_size, ByteArray.size_extract]
    show _ + (1 + _) ≤ _
    omega

set_option maxHeartbeats 1000000 in
set_option maxRecDepth 100000 in
theorem bases_any (x : Option Addr) (n c : Nat) (f : Nat → ByteArray) (w : World) (hS : SIs w x n f) (hn : n ≤ 1024) (hp : ∀ i, i < n → prC (f i) = 0) :
    Calls Tryd.prog 14 #[.slice x n c] w fun e w' => e = .returned (.string (bsS f n)) ∧ Below w.heap.size w w' := by
  have HS : Hid (SIs w x n f) := hS
  have HP : Hid (∀ i, i < n → prC (f i) = 0) := hp
  clear hS hp
  have N0 : Hid (Bd (w.alloc (.cells #[.pointer none, .slice none 0 0] 41)) w.heap.size ⟨#[]⟩) := Bd.new w
  have B0 : Hid (Below w.heap.size w (w.alloc (.cells #[.pointer none, .slice none 0 0] 41))) := (Below.refl _ _).alloc (Nat.le_refl _) _
  go_enter Tryd.func14, Tryd.ntmps14
  go_wp2
  generalize w.alloc (.cells #[.pointer none, .slice none 0 0] 41) = w0 at N0 B0 ⊢
  go_loopw [10] (fun i wr => ∃ k : Nat, k ≤ n ∧ i = .int .i64 k ∧ Hid (Bd wr w.heap.size (bsS f k)) ∧ Hid (Below w.heap.size w wr)) (fun i _ => n - (intOf i).toNat)
  case atStart => exact ⟨0, Nat.zero_le _, rfl, N0, B0⟩
  case round =>
    clear N0 B0
    obtain ⟨k, hk, rfl, D, B⟩ := hrel
    by_cases hlt : k < n
    · obtain ⟨a, rfl, c0⟩ := HS.out.below B.out (Nat.le_refl _) k hlt
      have hpk := HP.out k hlt
      have hsz := prC_max hpk
      have CB := base_any (f k) wr
      rw [hpk, iffy_yes rfl] at CB
      have hbs := bsS_size f k (fun i hi => prC_max (HP.out i (by omega)))
      have hD : Hid (bsS f (k + 1) = bsS f k ++ ((⟨#[32]⟩ : ByteArray) ++ (f k).extract 13 (f k).size)) := rfl
      have hex : ((f k).extract 13 (f k).size).size ≤ 257 := by rw [ByteArray.size_extract]; omega
      clear hpk
      generalize (f k).extract 13 (f k).size = q at CB hD hex
      go_wp2_with fail
      refine CB.mono ?_
      rintro e w1 ⟨rfl, b1⟩
      have D1 := D.out.below b1 (Nat.le_refl _)
      have B1 : Hid (Below w.heap.size w w1) := B.out.trans (b1.mono B.out.size)
      clear b1 D B CB
      have CW := ws_any w.heap.size (bsS f k) ((⟨#[32]⟩ : ByteArray) ++ q) w1 D1 (by rw [app_size]; show _ + (1 + _) ≤ _; omega)
      rw [← hD.out] at CW
      go_wp2_with fail
      refine CW.mono ?_
      rintro e w2 ⟨rfl, d2, b2⟩
      have D2 : Hid (Bd w2 w.heap.size (bsS f (k + 1))) := d2
      have B2 : Hid (Below w.heap.size w w2) := B1.out.trans b2
      clear d2 b2 B1 CW D1
      go_wp2
      go_roundw
      case rel => exact ⟨k + 1, by omega, by go_num, D2, B2⟩
      case measure => simp [intOf]; omega
    · obtain rfl : k = n := by omega
      have CS := bstr_any w.heap.size (bsS f k) wr D.out
      go_wp2_with fail
      refine CS.mono ?_
      rintro e w2 ⟨rfl, b2⟩
      go_wp2
      go_ret
      exact ⟨rfl, B.out.trans b2⟩

end Go.Proofs.YtjhbfkckkinfjaaDoor
