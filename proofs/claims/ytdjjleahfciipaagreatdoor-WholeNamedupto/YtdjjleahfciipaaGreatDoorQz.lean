/- Gathered: PtD PtE PtF PtPW PtR. -/
import Derived.Test.YtdjjleahfciipaaGreatDoorQy
/- spath.Parse, Base, Full and the document's Parse, walked. -/
namespace Go.Proofs.YtdjjleahfciipaaGreatDoor
open Go.RowKit

/-- What every path begins with. -/
def dirS : ByteArray := ⟨#[47, 100, 101, 112, 111, 116, 47, 115, 116, 111, 114, 101, 47]⟩
/-- Does it begin so? -/
def pre (p : ByteArray) : Bool := (p.extract 0 13).toList == dirS.toList
def pHash (p : ByteArray) : ByteArray := p.extract 13 45
def pLab (p : ByteArray) : ByteArray := p.extract 46 p.size
/-- Has it a path's shape? -/
def shp (p : ByteArray) : Prop := 46 ≤ p.size ∧ pre p = true ∧ bt p 45 = 45
instance (p : ByteArray) : Decidable (shp p) := inferInstanceAs (Decidable (_ ∧ _ ∧ _))
def prC (p : ByteArray) : Int := if shp p then (if hshOk (pHash p) then lab (pLab p) else 131) else 132
/-- x where the path is good, else nothing. -/
def iffy (c : Int) (x : ByteArray) : ByteArray := if c = 0 then x else ⟨#[]⟩
def prH (p : ByteArray) : ByteArray := iffy (prC p) (pHash p)
def prL (p : ByteArray) : ByteArray := iffy (prC p) (pLab p)
theorem iffy_no {c : Int} (h : c ≠ 0) (x : ByteArray) : iffy c x = ⟨#[]⟩ := if_neg h
theorem iffy_yes {c : Int} (h : c = 0) (x : ByteArray) : iffy c x = x := if_pos h

theorem prC_shape {p : ByteArray} (h : ¬ shp p) : prC p = 132 := if_neg h
theorem prC_hash {p : ByteArray} (h : shp p) (g : ¬ hshOk (pHash p)) : prC p = 131 := by unfold prC; rw [if_pos h, if_neg g]
theorem prC_lab {p : ByteArray} (h : shp p) (g : hshOk (pHash p)) : prC p = lab (pLab p) := by unfold prC; rw [if_pos h, if_pos g]

set_option maxHeartbeats 400000 in
theorem hasP_yes (p : ByteArray) (w : World) (h0 : 13 ≤ p.size) (h : ((p.extract 0 13).toList == dirS.toList) = true) :
    Calls Tryz.prog 80 #[.string p, .string dirS] w fun e w' => e = .returned (.bool true) ∧ w' = w := by
  have hz : dirS.size = 13 := rfl
  go_enter Tryz.func80, Tryz.ntmps80
  go_wp2
  go_ret
  exact ⟨rfl, rfl⟩
set_option maxHeartbeats 400000 in
theorem hasP_no (p : ByteArray) (w : World) (h0 : 13 ≤ p.size) (h : ((p.extract 0 13).toList == dirS.toList) = false) :
    Calls Tryz.prog 80 #[.string p, .string dirS] w fun e w' => e = .returned (.bool false) ∧ w' = w := by
  have hz : dirS.size = 13 := rfl
  go_enter Tryz.func80, Tryz.ntmps80
  go_wp2
  go_ret
  exact ⟨rfl, rfl⟩
set_option maxHeartbeats 400000 in
theorem hasP_short (p : ByteArray) (w : World) (h0 : p.size < 13) :
    Calls Tryz.prog 80 #[.string p, .string dirS] w fun e w' => e = .returned (.bool false) ∧ w' = w := by
  have hz : dirS.size = 13 := rfl
  go_enter Tryz.func80, Tryz.ntmps80
  go_wp2
  go_ret
  exact ⟨rfl, rfl⟩

/-- Begins it with Dir? -/
def hpB (p : ByteArray) : Bool := decide (13 ≤ p.size) && pre p
theorem hasP_any (p : ByteArray) (w : World) :
    Calls Tryz.prog 80 #[.string p, .string dirS] w fun e w' => e = .returned (.bool (hpB p)) ∧ w' = w := by
  unfold hpB
  by_cases h0 : 13 ≤ p.size
  · rw [decide_eq_true h0, Bool.true_and]
    cases h : pre p
    · exact hasP_no p w h0 h
    · exact hasP_yes p w h0 h
  · rw [decide_eq_false h0, Bool.false_and]
    exact hasP_short p w (by omega)

set_option maxHeartbeats 400000 in
theorem scutP_any (p : ByteArray) (w : World) :
    Calls Tryz.prog 55 #[.string p, .string dirS] w fun e w' => e = .returned (.tuple #[.string (if hpB p then p.extract 13 p.size else p), .bool (hpB p)]) ∧ w' = w := by
  have hz : dirS.size = 13 := rfl
  cases h : hpB p
  · have H : Hid (hpB p = false) := h
    clear h
    rw [if_neg (by decide)]
    go_enter Tryz.func55, Tryz.ntmps55
    go_wp2_with fail
    refine (hasP_any _ _).mono ?_
    rintro e w1 ⟨rfl, rfl⟩
    rw [H.out]
    go_wp2
    go_ret2
    exact ⟨rfl, rfl⟩
  · have H : Hid (hpB p = true) := h
    have h13 : 13 ≤ p.size := by
      unfold hpB at h
      rw [Bool.and_eq_true, decide_eq_true_eq] at h
      exact h.1
    clear h
    rw [if_pos rfl]
    go_enter Tryz.func55, Tryz.ntmps55
    go_wp2_with fail
    refine (hasP_any _ _).mono ?_
    rintro e w1 ⟨rfl, rfl⟩
    rw [H.out]
    go_wp2
    go_ret2
    exact ⟨rfl, rfl⟩

set_option maxHeartbeats 400000 in
theorem cutP_any (p : ByteArray) (w : World) :
    Calls Tryz.prog 25 #[.string p, .string dirS] w fun e w' => e = .returned (.tuple #[.string (if hpB p then p.extract 13 p.size else p), .bool (hpB p)]) ∧ w' = w := by
  cases h : hpB p
  · have C := scutP_any p w
    rw [h, if_neg (by decide)] at C
    rw [if_neg (by decide)]
    have HC := C
    clear C h
    go_enter Tryz.func25, Tryz.ntmps25
    go_wp2_with fail
    refine HC.mono ?_
    rintro e w1 ⟨rfl, rfl⟩
    go_wp2
    go_ret2
    exact ⟨rfl, rfl⟩
  · have C := scutP_any p w
    rw [h, if_pos rfl] at C
    rw [if_pos rfl]
    have HC := C
    clear C h
    go_enter Tryz.func25, Tryz.ntmps25
    go_wp2_with fail
    refine HC.mono ?_
    rintro e w1 ⟨rfl, rfl⟩
    go_wp2
    go_ret2
    exact ⟨rfl, rfl⟩

end Go.Proofs.YtdjjleahfciipaaGreatDoor
/- spath.Parse, Base, Full and the document's Parse, walked. -/
namespace Go.Proofs.YtdjjleahfciipaaGreatDoor
open Go.RowKit

theorem bt_extract (s : ByteArray) (a b k : Nat) (hk : a + k < b) (hb : b ≤ s.size) : bt (s.extract a b) k = bt s (a + k) := by
  unfold bt
  have h1 : k < (s.extract a b).size := by rw [ByteArray.size_extract]; omega
  rw [dif_pos h1, dif_pos (show a + k < s.size by omega)]
  rw [ByteArray.getElem_extract]

theorem size_ext (s : ByteArray) (a b : Nat) (hb : b ≤ s.size) : (s.extract a b).size = b - a := by
  rw [ByteArray.size_extract]; omega

theorem base_hash (p : ByteArray) (h : 46 ≤ p.size) : (p.extract 13 p.size).extract 0 32 = pHash p := by
  unfold pHash
  apply bytes_ext
  · rw [size_ext _ _ _ (by rw [size_ext _ _ _ (Nat.le_refl _)]; omega), size_ext _ _ _ (by omega)]
  · intro k hk
    have hs : (p.extract 13 p.size).size = p.size - 13 := size_ext _ _ _ (Nat.le_refl _)
    have hk' : k < 32 := by rw [size_ext _ _ _ (by rw [hs]; omega)] at hk; omega
    rw [bt_extract _ _ _ _ (by omega) (by rw [hs]; omega), bt_extract _ _ _ _ (by omega) (Nat.le_refl _), bt_extract _ _ _ _ (by omega) (by omega)]
    congr 1; omega

theorem base_lab (p : ByteArray) (h : 46 ≤ p.size) : (p.extract 13 p.size).extract 33 (p.size - 13) = pLab p := by
  unfold pLab
  have hs : (p.extract 13 p.size).size = p.size - 13 := size_ext _ _ _ (Nat.le_refl _)
  apply bytes_ext
  · rw [size_ext _ _ _ (by rw [hs]; omega), size_ext _ _ _ (Nat.le_refl _)]; omega
  · intro k hk
    have hk' : k < p.size - 13 - 33 := by rw [size_ext _ _ _ (by rw [hs]; omega)] at hk; omega
    rw [bt_extract _ _ _ _ (by omega) (by rw [hs]; omega), bt_extract _ _ _ _ (by omega) (Nat.le_refl _), bt_extract _ _ _ _ (by omega) (by omega)]
    congr 1; omega

set_option maxHeartbeats 1000000 in
theorem parse_anyP (p : ByteArray) (w : World) :
    Calls Tryz.prog 8 #[.string p] w fun e w' => e = .returned (.tuple #[.string (prH p), .string (prL p), .int .i64 (prC p)]) ∧ Below w.heap.size w w' := by
  unfold prH prL
  have C := cutP_any p w
  cases hp : hpB p
  · have hn : prC p = 132 := prC_shape (fun h => by
      have : hpB p = true := by unfold hpB; rw [h.2.1, decide_eq_true (by have := h.1; omega)]; rfl
      rw [hp] at this; exact Bool.noConfusion this)
    rw [hn, iffy_no (by decide), iffy_no (by decide)]
    rw [hp, if_neg (by decide)] at C
    clear hp hn
    go_enter Tryz.func8, Tryz.ntmps8
    go_wp2_with fail
    refine C.mono ?_
    rintro e w1 ⟨rfl, rfl⟩
    go_wp2
    go_ret3
    exact ⟨rfl, Below.refl _ _⟩
  · have hpp := hp
    unfold hpB at hpp
    rw [Bool.and_eq_true, decide_eq_true_eq] at hpp
    obtain ⟨h13, hpre⟩ := hpp
    rw [hp, if_pos rfl] at C
    have hs : (p.extract 13 p.size).size = p.size - 13 := size_ext _ _ _ (Nat.le_refl _)
    by_cases hle : p.size - 13 ≤ 32
    · have hn : prC p = 132 := prC_shape (fun h => by have := h.1; omega)
      rw [hn, iffy_no (by decide), iffy_no (by decide)]
      have hsz : (p.extract 13 p.size).size ≤ 32 := by omega
      clear hp hn hle hs
      generalize p.extract 13 p.size = b at C hsz
      go_enter Tryz.func8, Tryz.ntmps8
      go_wp2_with fail
      refine C.mono ?_
      rintro e w1 ⟨rfl, rfl⟩
      go_wp2
      go_ret3
      exact ⟨rfl, Below.refl _ _⟩
    · have h46 : 46 ≤ p.size := by omega
      have e1 := base_hash p h46
      have e2 := base_lab p h46
      have e3 : bt (p.extract 13 p.size) 32 = bt p 45 := bt_extract _ _ _ _ (by omega) (Nat.le_refl _)
      rw [← hs] at e2
      by_cases h45 : bt p 45 = 45
      · have hshp : shp p := ⟨h46, hpre, h45⟩
        have E3 : (bt (p.extract 13 p.size) 32 == 45) = true := by rw [e3]; simp [h45]
        have hsz : ¬ (p.extract 13 p.size).size ≤ 32 := by omega
        have HB : Hid (33 ≤ (p.extract 13 p.size).size) := by unfold Hid; omega
        clear e3 h45 hs hle hp h13 hpre h46
        generalize p.extract 13 p.size = b at C E3 hsz e1 e2 HB
        have hb := get_bt b
        have E4 : (bt b 32 != 45) = false := by simp only [bne, E3]; rfl
        have h32 : 32 < b.size := by omega
        have h33 : 33 ≤ b.size := HB.out
        rcases hsh_cases (pHash p) with ⟨g1, g2⟩ | ⟨g1, g2⟩
        · have hc := prC_lab hshp g1
          rcases lab_cases (pLab p) with ⟨k1, k2⟩ | ⟨k1, k2⟩
          · rw [k2] at hc
            rw [hc, iffy_yes rfl, iffy_yes rfl]
            have G2 : Hid (hsh (pHash p) = 0) := g2
            have K2 : Hid (lab (pLab p) = 0) := k2
            clear g1 g2 k1 k2 hc hshp
            go_enter Tryz.func8, Tryz.ntmps8
            go_wp2_with fail
            refine C.mono ?_
            rintro e w1 ⟨rfl, rfl⟩
            go_wp2
            go_region
            go_wp2_with fail
            refine (ckH_any _ _).mono ?_
            rintro e w2 ⟨rfl, rfl⟩
            rw [G2.out]
            go_wp2_with fail
            refine (ckL_any _ _).mono ?_
            rintro e w3 ⟨rfl, B⟩
            rw [K2.out]
            go_wp2
            go_ret3
            exact ⟨rfl, ((Below.refl _ _).drew).trans B⟩
          · rw [k2] at hc
            rw [hc, iffy_no (by decide), iffy_no (by decide)]
            have G2 : Hid (hsh (pHash p) = 0) := g2
            have K2 : Hid (lab (pLab p) = 130) := k2
            clear g1 g2 k1 k2 hc hshp
            go_enter Tryz.func8, Tryz.ntmps8
            go_wp2_with fail
            refine C.mono ?_
            rintro e w1 ⟨rfl, rfl⟩
            go_wp2
            go_region
            go_wp2_with fail
            refine (ckH_any _ _).mono ?_
            rintro e w2 ⟨rfl, rfl⟩
            rw [G2.out]
            go_wp2_with fail
            refine (ckL_any _ _).mono ?_
            rintro e w3 ⟨rfl, B⟩
            rw [K2.out]
            go_wp2
            go_ret3
            exact ⟨rfl, ((Below.refl _ _).drew).trans B⟩
        · have hc := prC_hash hshp g1
          rw [hc, iffy_no (by decide), iffy_no (by decide)]
          have G2 : Hid (hsh (pHash p) = 131) := g2
          clear g1 g2 hc hshp
          go_enter Tryz.func8, Tryz.ntmps8
          go_wp2_with fail
          refine C.mono ?_
          rintro e w1 ⟨rfl, rfl⟩
          go_wp2
          go_region
          go_wp2_with fail
          refine (ckH_any _ _).mono ?_
          rintro e w2 ⟨rfl, rfl⟩
          rw [G2.out]
          go_wp2
          go_ret3
          exact ⟨rfl, (Below.refl _ _).drew⟩
      · have hn : prC p = 132 := prC_shape (fun h => h45 h.2.2)
        rw [hn, iffy_no (by decide), iffy_no (by decide)]
        have E3 : (bt (p.extract 13 p.size) 32 == 45) = false := by rw [e3]; simp [h45]
        have hsz : ¬ (p.extract 13 p.size).size ≤ 32 := by omega
        clear hn e1 e2 e3 h45 hs hle hp h13 hpre h46
        generalize p.extract 13 p.size = b at C E3 hsz
        have hb := get_bt b
        have E4 : (bt b 32 != 45) = true := by simp only [bne, E3]; rfl
        have h32 : 32 < b.size := by omega
        go_enter Tryz.func8, Tryz.ntmps8
        go_wp2_with fail
        refine C.mono ?_
        rintro e w1 ⟨rfl, rfl⟩
        go_wp2
        go_ret3
        exact ⟨rfl, Below.refl _ _⟩

end Go.Proofs.YtdjjleahfciipaaGreatDoor
/- The document's Parse; spath.Base and Full, walked. -/
namespace Go.Proofs.YtdjjleahfciipaaGreatDoor
open Go.RowKit

theorem dirS_list : dirS.toList = [47, 100, 101, 112, 111, 116, 47, 115, 116, 111, 114, 101, 47] := by decide +kernel

theorem prC_size {p : ByteArray} (h : prC p = 0) : 46 ≤ p.size := by
  by_cases g : shp p
  · exact g.1
  · rw [prC_shape g] at h; omega

end Go.Proofs.YtdjjleahfciipaaGreatDoor
/- awake and the law SpathParses, walked. -/
namespace Go.Proofs.YtdjjleahfciipaaGreatDoor
open Go.RowKit

def exA : ByteArray := ⟨#[47, 100, 101, 112, 111, 116, 47, 115, 116, 111, 114, 101, 47, 48, 49, 50, 51, 52, 53, 54, 55, 56, 57, 97, 98, 99, 100, 102, 103, 104, 105, 106, 107, 108, 109, 110, 112, 113, 114, 115, 118, 119, 120, 121, 122, 45, 97, 46, 98]⟩
def exB : ByteArray := ⟨#[47, 100, 101, 112, 111, 116, 47, 115, 116, 111, 114, 101, 47, 48, 49, 50, 51, 52, 53, 54, 55, 56, 57, 97, 98, 99, 100, 102, 103, 104, 105, 106, 107, 108, 109, 110, 112, 113, 114, 115, 118, 119, 120, 121, 122, 45]⟩
theorem exA_C : prC exA = 0 := by decide +kernel
theorem exA_H : prH exA = lts := by decide +kernel
theorem exA_L : prL exA = ⟨#[97, 46, 98]⟩ := by decide +kernel
theorem exB_C : prC exB = 130 := by decide +kernel
theorem exB_H : prH exB = ⟨#[]⟩ := by decide +kernel
theorem exB_L : prL exB = ⟨#[]⟩ := by decide +kernel

theorem prC_vals (p : ByteArray) : 0 ≤ prC p ∧ prC p ≤ 132 := by
  unfold prC
  split
  · split
    · rcases lab_cases (pLab p) with ⟨_, h⟩ | ⟨_, h⟩ <;> rw [h] <;> decide
    · decide
  · decide

end Go.Proofs.YtdjjleahfciipaaGreatDoor
/- spath.CheckRefs and the document's, walked. -/
namespace Go.Proofs.YtdjjleahfciipaaGreatDoor
open Go.RowKit

theorem le_not (a b : List UInt8) : (Op.bytesLess b a || b == a) = !(Op.bytesLess a b) := by
  induction a generalizing b with
  | nil => cases b with
    | nil => rfl
    | cons y b => rfl
  | cons x a ih => cases b with
    | nil => rfl
    | cons y b =>
      have := ih b
      unfold Op.bytesLess
      by_cases h1 : x < y
      · have h2 : ¬ y < x := by rw [UInt8.lt_iff_toNat_lt] at h1 ⊢; omega
        have h3 : ¬ y = x := fun e => by subst e; exact absurd h1 (by simp)
        simp [h1, h2, h3]
      · by_cases h2 : y < x
        · have h3 : ¬ x = y := fun e => by subst e; exact absurd h2 (by simp)
          simp [h1, h2, h3]
        · have hxy : x = y := by
            apply UInt8.toNat_inj.1
            rw [UInt8.lt_iff_toNat_lt] at h1 h2; omega
          subst hxy
          simpa [h1] using this

/-- The cells of a row of texts. -/
def SIsP (w : World) (x : Option Addr) (n : Nat) (f : Nat → ByteArray) : Prop := ∀ i, i < n → ∃ a, x = some a ∧ w.cell? (a.add i) = some (.string (f i))
theorem add_succP (a : Addr) (k : Nat) : a.add (k + 1) = ⟨a.block, a.off + (k + 1), none⟩ := by unfold Addr.add; rw [if_neg (by omega)]
theorem add_zeroP (a : Addr) : a.add 0 = a := by unfold Addr.add; rw [if_pos rfl]
theorem SIsP.below {w w' : World} {x : Option Addr} {n B : Nat} {f : Nat → ByteArray} (h : SIsP w x n f) (b : Below B w w') (hB : w.heap.size ≤ B) : SIsP w' x n f := fun i hi => by
  obtain ⟨a, ha, hc⟩ := h i hi
  refine ⟨a, ha, ?_⟩
  have hl := World.block_lt_of_cell? _ _ hc
  rw [b.cell (p := a.add i) (by omega)]
  exact hc

/-- The first k references are paths that rise. -/
def refsOk (f : Nat → ByteArray) (k : Nat) : Prop := ∀ i, i < k → prC (f i) = 0 ∧ (0 < i → Op.bytesLess (f (i - 1)).toList (f i).toList = true)
instance (f : Nat → ByteArray) (k : Nat) : Decidable (refsOk f k) := inferInstanceAs (Decidable (∀ i, i < k → _))
def crf (f : Nat → ByteArray) (n : Nat) : Int := if 1024 < n then 171 else if refsOk f n then 0 else 133
theorem crf_many {f : Nat → ByteArray} {n : Nat} (h : 1024 < n) : crf f n = 171 := if_pos h
theorem crf_no {f : Nat → ByteArray} {n : Nat} (h : ¬ 1024 < n) (g : ¬ refsOk f n) : crf f n = 133 := by unfold crf; rw [if_neg h, if_neg g]
theorem crf_yes {f : Nat → ByteArray} {n : Nat} (h : ¬ 1024 < n) (g : refsOk f n) : crf f n = 0 := by unfold crf; rw [if_neg h, if_pos g]
theorem refsOk_succ {f : Nat → ByteArray} {k : Nat} (h : refsOk f k) (h1 : prC (f k) = 0) (h2 : 0 < k → Op.bytesLess (f (k - 1)).toList (f k).toList = true) : refsOk f (k + 1) := fun i hi => by
  by_cases e : i = k
  · rw [e]; exact ⟨h1, h2⟩
  · exact h i (by omega)
theorem refsOk_bad1 {f : Nat → ByteArray} {k n : Nat} (hk : k < n) (h1 : prC (f k) ≠ 0) : ¬ refsOk f n := fun h => h1 (h k hk).1
theorem refsOk_bad2 {f : Nat → ByteArray} {k n : Nat} (hk : k + 1 < n) (h1 : Op.bytesLess (f k).toList (f (k + 1)).toList = false) : ¬ refsOk f n := fun h => by
  have := (h (k + 1) hk).2 (by omega)
  rw [Nat.add_sub_cancel, h1] at this
  exact Bool.noConfusion this
theorem crf_vals (f : Nat → ByteArray) (n : Nat) : 0 ≤ crf f n ∧ crf f n ≤ 171 := by
  unfold crf
  repeat' split
  all_goals omega

set_option maxHeartbeats 2000000 in
theorem ckR_any (x : Option Addr) (n c : Nat) (f : Nat → ByteArray) (w : World) (hS : SIsP w x n f) :
    Calls Tryz.prog 23 #[.slice x n c] w fun e w' => e = .returned (.int .i64 (crf f n)) ∧ Below w.heap.size w w' := by
  by_cases hm : 1024 < n
  · have hh : Hid (crf f n = 171) := crf_many hm
    go_enter Tryz.func23, Tryz.ntmps23
    go_wp2
    go_ret
    exact ⟨by rw [hh.out]; rfl, Below.refl _ _⟩
  · have HM : Hid (¬ 1024 < n) := hm
    have HS : Hid (SIsP w x n f) := hS
    clear hS
    go_enter Tryz.func23, Tryz.ntmps23
    go_wp2
    have hn : n ≤ 1024 := by omega
    clear hm
    go_loopw [13] (fun i wr => ∃ k : Nat, k ≤ n ∧ i = .int .i64 k ∧ Hid (refsOk f k) ∧ Hid (Below w.heap.size w wr)) (fun i _ => n - (intOf i).toNat)
    case atStart => exact ⟨0, Nat.zero_le _, rfl, fun i hi => absurd hi (by omega), Below.refl _ _⟩
    case round =>
      obtain ⟨k, hk, rfl, hok, B⟩ := hrel
      by_cases hlt : k < n
      · have S1 := HS.out.below B.out (Nat.le_refl _)
        obtain ⟨a, rfl, c0⟩ := S1 k hlt
        by_cases h1 : prC (f k) = 0
        · have H1 : Hid (prC (f k) = 0) := h1
          clear h1
          rcases (show k = 0 ∨ ∃ j, k = j + 1 from by cases k with | zero => exact Or.inl rfl | succ j => exact Or.inr ⟨j, rfl⟩) with hk0 | ⟨j, hj⟩
          · subst hk0
            clear S1
            have c0' : wr.cell? a = some (.string (f 0)) := by rw [add_zeroP] at c0; exact c0
            clear c0
            go_wp2_with fail
            refine (parse_anyP _ _).mono ?_
            rintro e w1 ⟨rfl, b1⟩
            rw [H1.out]
            have B1 : Hid (Below w.heap.size w w1) := B.out.trans (b1.mono B.out.size)
            clear b1 B
            go_wp2
            go_roundw
            case rel => exact ⟨1, by omega, by go_num, refsOk_succ hok.out H1.out (fun h => absurd h (by omega)), B1⟩
            case measure => simp [intOf]; omega
          · subst hj
            obtain ⟨a', ha', c1⟩ := S1 j (by omega)
            obtain rfl := Option.some.inj ha'
            clear S1 ha'
            rw [add_succP] at c0
            have hj0 : (0 : Int) < (j : Int) + 1 := by omega
            have hj1 : (j : Int) + 1 < (n : Int) := by omega
            have hj2 : j + 1 < n := hlt
            have hj3 : j < n := by omega
            have hj4 : ((j : Int) + 1).toNat = j + 1 := by omega
            have hj5 : ¬ ((j : Int) + 1 < 0) := by omega
            have hj6 : IntKind.i64.wrap ((j : Nat) : Int) = (j : Int) := by rw [IntKind.wrap_i64]; omega
            cases h2 : Op.bytesLess (f j).toList (f (j + 1)).toList
            · have hh : Hid (crf f n = 133) := crf_no HM.out (refsOk_bad2 hlt h2)
              have LE : (Op.bytesLess (f (j + 1)).toList (f j).toList || (f (j + 1)).toList == (f j).toList) = true := by rw [le_not, h2]; rfl
              clear h2
              go_wp2_with fail
              refine (parse_anyP _ _).mono ?_
              rintro e w1 ⟨rfl, b1⟩
              rw [H1.out]
              have B1 : Hid (Below w.heap.size w w1) := B.out.trans (b1.mono B.out.size)
              have c2 : w1.cell? (a.add j) = some (.string (f j)) := by rw [b1.cell (World.block_lt_of_cell? _ _ c1)]; exact c1
              clear b1 B c0 c1
              go_wp2
              go_ret
              exact ⟨by rw [hh.out]; rfl, B1.out⟩
            · have LE : (Op.bytesLess (f (j + 1)).toList (f j).toList || (f (j + 1)).toList == (f j).toList) = false := by rw [le_not, h2]; rfl
              have H2 : Hid (Op.bytesLess (f j).toList (f (j + 1)).toList = true) := h2
              clear h2
              go_wp2_with fail
              refine (parse_anyP _ _).mono ?_
              rintro e w1 ⟨rfl, b1⟩
              rw [H1.out]
              have B1 : Hid (Below w.heap.size w w1) := B.out.trans (b1.mono B.out.size)
              have c2 : w1.cell? (a.add j) = some (.string (f j)) := by rw [b1.cell (World.block_lt_of_cell? _ _ c1)]; exact c1
              clear b1 B c0 c1
              go_wp2
              go_roundw
              case rel => exact ⟨j + 1 + 1, by omega, by go_num, refsOk_succ hok.out H1.out (fun _ => H2.out), B1⟩
              case measure => simp [intOf]; omega
        · have hh : Hid (crf f n = 133) := crf_no HM.out (refsOk_bad1 hlt h1)
          have H1 : (prC (f k) == 0) = false := by rw [beq_eq_false_iff_ne]; exact h1
          have H2 : (prC (f k) != 0) = true := by simp only [bne, H1]; rfl
          clear h1
          go_wp2_with fail
          refine (parse_anyP _ _).mono ?_
          rintro e w1 ⟨rfl, b1⟩
          have B1 : Hid (Below w.heap.size w w1) := B.out.trans (b1.mono B.out.size)
          clear b1 B
          go_wp2
          go_ret
          exact ⟨by rw [hh.out]; rfl, B1.out⟩
      · have hh : Hid (crf f n = 0) := by
          obtain rfl : k = n := by omega
          exact crf_yes HM.out hok.out
        go_wp2
        go_ret
        exact ⟨by rw [hh.out]; rfl, B.out⟩

end Go.Proofs.YtdjjleahfciipaaGreatDoor
