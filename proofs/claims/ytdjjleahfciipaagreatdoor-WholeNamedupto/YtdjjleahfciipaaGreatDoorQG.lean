/- Gathered: Abc OfI FoT HexA Num. -/
import Derived.Test.YtdjjleahfciipaaGreatDoorProg
import Derived.Test.YtdjjleahfciipaaGreatDoorQa
import Derived.Test.YtdjjleahfciipaaGreatDoorQF
/- The digest of the text abc: its schedule and its rounds, word by word. -/
namespace Go.Proofs.YtdjjleahfciipaaGreatDoor
open Go.RowKit
/-- The message's bytes, the schedule, the eight words ahead of each round. -/
def abcM : List Int := [97, 98, 99, 128, 0, 0, 0, 0, 0, 0, 0, 0, 0, 0, 0, 0, 0, 0, 0, 0, 0, 0, 0, 0, 0, 0, 0, 0, 0, 0, 0, 0, 0, 0, 0, 0, 0, 0, 0, 0, 0, 0, 0, 0, 0, 0, 0, 0, 0, 0, 0, 0, 0, 0, 0, 0, 0, 0, 0, 0, 0, 0, 0, 24]
def abcW : List Int := [1633837952, 0, 0, 0, 0, 0, 0, 0, 0, 0, 0, 0, 0, 0, 0, 24, 1633837952, 983040, 2108187653, 1610613702, 1050508152, 25426944, 316456923, 3806512014, 3357629466, 3073800610, 3854317833, 845560923, 2636160359, 3968280267, 1881225380, 3552024379, 2482346367, 996719219, 2952069057, 4043988066, 176896406, 1924104970, 2483675966, 610538786, 2672279444, 4037431130, 1042573945, 657669027, 206005234, 2215296807, 2049510749, 106709978, 4215179723, 3430291419, 3118885940, 2845390439, 2226839261, 3256115900, 344409900, 2987358873, 4015503821, 3957764664, 2682456414, 2025622859, 2755645205, 1720397816, 4004225740, 313650667]
def abcV : List Int := [1779033703, 3144134277, 1013904242, 2773480762, 1359893119, 2600822924, 528734635, 1541459225, 1567288269, 1779033703, 3144134277, 1013904242, 4197074466, 1359893119, 2600822924, 528734635, 1516951981, 1567288269, 1779033703, 3144134277, 2026797449, 4197074466, 1359893119, 2600822924, 3368241063, 1516951981, 1567288269, 1779033703, 4180228587, 2026797449, 4197074466, 1359893119, 3578852966, 3368241063, 1516951981, 1567288269, 618661968, 4180228587, 2026797449, 4197074466, 71342698, 3578852966, 3368241063, 1516951981, 1135452741, 618661968, 4180228587, 2026797449, 725748213, 71342698, 3578852966, 3368241063, 1900175533, 1135452741, 618661968, 4180228587, 3842179968, 725748213, 71342698, 3578852966, 2603066369, 1900175533, 1135452741, 618661968, 2241887071, 3842179968, 725748213, 71342698, 207977081, 2603066369, 1900175533, 1135452741, 2382687417, 2241887071, 3842179968, 725748213, 852110732, 207977081, 2603066369, 1900175533, 2357671019, 2382687417, 2241887071, 3842179968, 482944406, 852110732, 207977081, 2603066369, 1201185780, 2357671019, 2382687417, 2241887071, 1131095016, 482944406, 852110732, 207977081, 4146054569, 1201185780, 2357671019, 2382687417, 2171590377, 1131095016, 482944406, 852110732, 2274437520, 4146054569, 1201185780, 2357671019, 509051416, 2171590377, 1131095016, 482944406, 3643992854, 2274437520, 4146054569, 1201185780, 1952073950, 509051416, 2171590377, 1131095016, 3227803614, 3643992854, 2274437520, 4146054569, 194179596, 1952073950, 509051416, 2171590377, 2969183118, 3227803614, 3643992854, 2274437520, 123276749, 194179596, 1952073950, 509051416, 567974555, 2969183118, 3227803614, 3643992854, 2150900380, 123276749, 194179596, 1952073950, 3271285201, 567974555, 2969183118, 3227803614, 2221859924, 2150900380, 123276749, 194179596, 4269243327, 3271285201, 567974555, 2969183118, 3431569761, 2221859924, 2150900380, 123276749, 3790736435, 4269243327, 3271285201, 567974555, 2959311225, 3431569761, 2221859924, 2150900380, 2647034723, 3790736435, 4269243327, 3271285201, 2329577776, 2959311225, 3431569761, 2221859924, 3261099373, 2647034723, 3790736435, 4269243327, 3777329520, 2329577776, 2959311225, 3431569761, 2812502591, 3261099373, 2647034723, 3790736435, 1240797514, 3777329520, 2329577776, 2959311225, 3319086477, 2812502591, 3261099373, 2647034723, 2856829767, 1240797514, 3777329520, 2329577776, 472655928, 3319086477, 2812502591, 3261099373, 673443729, 2856829767, 1240797514, 3777329520, 3454534525, 472655928, 3319086477, 2812502591, 339230094, 673443729, 2856829767, 1240797514, 3056518332, 3454534525, 472655928, 3319086477, 3343672598, 339230094, 673443729, 2856829767, 2010346792, 3056518332, 3454534525, 472655928, 3992961016, 3343672598, 339230094, 673443729, 909411017, 2010346792, 3056518332, 3454534525, 1628611511, 3992961016, 3343672598, 339230094, 2684750640, 909411017, 2010346792, 3056518332, 2917635127, 1628611511, 3992961016, 3343672598, 3935906338, 2684750640, 909411017, 2010346792, 17410874, 2917635127, 1628611511, 3992961016, 1941126133, 3935906338, 2684750640, 909411017, 3126399250, 17410874, 2917635127, 1628611511, 2564891911, 1941126133, 3935906338, 2684750640, 2631529974, 3126399250, 17410874, 2917635127, 4267724277, 2564891911, 1941126133, 3935906338, 1495571923, 2631529974, 3126399250, 17410874, 2846323596, 4267724277, 2564891911, 1941126133, 140458035, 1495571923, 2631529974, 3126399250, 1705037796, 2846323596, 4267724277, 2564891911, 4105175766, 140458035, 1495571923, 2631529974, 1101421745, 1705037796, 2846323596, 4267724277, 124953195, 4105175766, 140458035, 1495571923, 887035396, 1101421745, 1705037796, 2846323596, 2768741693, 124953195, 4105175766, 140458035, 1841658506, 887035396, 1101421745, 1705037796, 4034403272, 2768741693, 124953195, 4105175766, 2045405306, 1841658506, 887035396, 1101421745, 519815328, 4034403272, 2768741693, 124953195, 3597076326, 2045405306, 1841658506, 887035396, 641019235, 519815328, 4034403272, 2768741693, 3745932591, 3597076326, 2045405306, 1841658506, 2206934801, 641019235, 519815328, 4034403272, 397020670, 3745932591, 3597076326, 2045405306, 3737995029, 2206934801, 641019235, 519815328, 2638983059, 397020670, 3745932591, 3597076326, 4255271982, 3737995029, 2206934801, 641019235, 643991573, 2638983059, 397020670, 3745932591, 2819559920, 4255271982, 3737995029, 2206934801, 1923828625, 643991573, 2638983059, 397020670, 3077922209, 2819559920, 4255271982, 3737995029, 2706117808, 1923828625, 643991573, 2638983059, 3581645993, 3077922209, 2819559920, 4255271982, 1098003085, 2706117808, 1923828625, 643991573, 4274981830, 3581645993, 3077922209, 2819559920, 91585771, 1098003085, 2706117808, 1923828625, 3178315832, 4274981830, 3581645993, 3077922209, 4045142696, 91585771, 1098003085, 2706117808, 1851537676, 3178315832, 4274981830, 3581645993, 2047150241, 4045142696, 91585771, 1098003085, 1391578359, 1851537676, 3178315832, 4274981830, 2288941602, 2047150241, 4045142696, 91585771, 1227037726, 1391578359, 1851537676, 3178315832, 270520975, 2288941602, 2047150241, 4045142696, 1386118400, 1227037726, 1391578359, 1851537676, 4117770203, 270520975, 2288941602, 2047150241, 2672265155, 1386118400, 1227037726, 1391578359, 1053056219, 4117770203, 270520975, 2288941602, 3842906959, 2672265155, 1386118400, 1227037726, 952932627, 1053056219, 4117770203, 270520975, 1422599787, 3842906959, 2672265155, 1386118400, 4241590395, 952932627, 1053056219, 4117770203, 2606665836, 1422599787, 3842906959, 2672265155, 3227702383, 4241590395, 952932627, 1053056219, 2118385806, 2606665836, 1422599787, 3842906959, 4290184306, 3227702383, 4241590395, 952932627, 1837350854, 2118385806, 2606665836, 1422599787, 3064893439, 4290184306, 3227702383, 4241590395, 2988158269, 1837350854, 2118385806, 2606665836, 3093179625, 3064893439, 4290184306, 3227702383, 2518632596, 2988158269, 1837350854, 2118385806, 80891244, 3093179625, 3064893439, 4290184306, 2492278198, 2518632596, 2988158269, 1837350854, 3550093669, 80891244, 3093179625, 3064893439, 4212265488, 2492278198, 2518632596, 2988158269, 1349398616, 3550093669, 80891244, 3093179625, 1593118500, 4212265488, 2492278198, 2518632596]
def abcS : ByteArray := ⟨#[97, 98, 99]⟩
theorem abc_msg : ∀ j, j < 64 → bt (msg abcS) j = abcM.getD j 0 := by decide +kernel
theorem abc_nb : nb abcS = 1 := by decide +kernel
theorem nxt_congr (b b' f f' : Nat → Int) (k : Nat) (hk : k < 64) (hb : ∀ j, j < 64 → b j = b' j) (hf : ∀ j, j < k → f j = f' j) : nxt b f k = nxt b' f' k := by
  unfold nxt
  by_cases h : k < 16
  · rw [if_pos h, if_pos h]
    unfold wd
    rw [hb _ (by omega), hb _ (by omega), hb _ (by omega), hb _ (by omega)]
  · rw [if_neg h, if_neg h, hf _ (by omega), hf _ (by omega), hf _ (by omega), hf _ (by omega)]
theorem abc_sched : ∀ k, k < 64 → nxt (fun j => abcM.getD j 0) (fun j => abcW.getD j 0) k = abcW.getD k 0 := by decide +kernel
theorem abc_sch (b : Nat → Int) (hb : ∀ j, j < 64 → b j = abcM.getD j 0) (k : Nat) : k ≤ 64 → ∀ j, j < k → sch b k j = abcW.getD j 0 := by
  induction k with
  | zero => intro _ j hj; omega
  | succ k ih =>
    intro hk j hj
    rw [sch]
    by_cases e : j = k
    · rw [if_pos e, e, ← abc_sched k (by omega)]
      exact nxt_congr _ _ _ _ k (by omega) hb (ih (by omega))
    · rw [if_neg e]
      exact ih (by omega) j (by omega)
theorem t1_congr (v v' : Nat → Int) (x : Int) (hv : ∀ j, j < 8 → v j = v' j) : t1 v x = t1 v' x := by
  unfold t1; rw [hv 7 (by omega), hv 4 (by omega), hv 5 (by omega), hv 6 (by omega)]
theorem t2_congr (v v' : Nat → Int) (hv : ∀ j, j < 8 → v j = v' j) : t2 v = t2 v' := by
  unfold t2; rw [hv 0 (by omega), hv 1 (by omega), hv 2 (by omega)]
theorem stp_congr (v v' : Nat → Int) (x : Int) (hv : ∀ j, j < 8 → v j = v' j) (j : Nat) (hj : j < 8) : stp v x j = stp v' x j := by
  rcases (show j = 0 ∨ j = 1 ∨ j = 2 ∨ j = 3 ∨ j = 4 ∨ j = 5 ∨ j = 6 ∨ j = 7 from by omega) with rfl | rfl | rfl | rfl | rfl | rfl | rfl | rfl
  · show (t1 v x + t2 v) % 4294967296 = (t1 v' x + t2 v') % 4294967296
    rw [t1_congr v v' x hv, t2_congr v v' hv]
  · exact hv 0 (by omega)
  · exact hv 1 (by omega)
  · exact hv 2 (by omega)
  · show (v 3 + t1 v x) % 4294967296 = (v' 3 + t1 v' x) % 4294967296
    rw [t1_congr v v' x hv, hv 3 (by omega)]
  · exact hv 4 (by omega)
  · exact hv 5 (by omega)
  · exact hv 6 (by omega)
theorem abc_rounds : ∀ k, k < 64 → ∀ j, j < 8 → stp (fun j => abcV.getD (8 * k + j) 0) (pl (kk k) (abcW.getD k 0)) j = abcV.getD (8 * (k + 1) + j) 0 := by decide +kernel
theorem abc_first : ∀ j, j < 8 → stw j = abcV.getD j 0 := by decide +kernel
theorem abc_rnd (s : Nat → Int) (hs : ∀ j, j < 64 → s j = abcW.getD j 0) (k : Nat) : k ≤ 64 → ∀ j, j < 8 → rnd kk stw s k j = abcV.getD (8 * k + j) 0 := by
  induction k with
  | zero => intro _ j hj; show stw j = abcV.getD (8 * 0 + j) 0; rw [Nat.mul_zero, Nat.zero_add]; exact abc_first j hj
  | succ k ih =>
    intro hk j hj
    rw [← abc_rounds k (by omega) j hj]
    show stp (rnd kk stw s k) (pl (kk k) (s k)) j = _
    rw [hs k (by omega)]
    exact stp_congr _ _ _ (ih (by omega)) j hj
def abcD : List Int := [186, 120, 22, 191, 143, 1, 207, 234, 65, 65, 64, 222, 93, 174, 34, 35, 176, 3, 97, 163, 150, 23, 122, 156, 180, 16, 255, 97, 242, 0, 21, 173]
theorem abc_last : ∀ i, i < 32 → (pl (stw (i / 4)) (abcV.getD (512 + i / 4) 0)) / 2 ^ (8 * (3 - i % 4)) % 256 = abcD.getD i 0 := by decide +kernel
/-- The digest of abc, byte by byte. -/
theorem abc_digest (i : Nat) (hi : i < 32) : dg (hw (bt (msg abcS)) (nb abcS)) i = abcD.getD i 0 := by
  rw [abc_nb, ← abc_last i hi]
  unfold dg
  have : hw (bt (msg abcS)) 1 (i / 4) = pl (stw (i / 4)) (abcV.getD (512 + i / 4) 0) := by
    show blk kk stw (fun j => bt (msg abcS) (64 * 0 + j)) (i / 4) = _
    unfold blk
    rw [abc_rnd _ (abc_sch _ (fun j hj => by rw [Nat.mul_zero, Nat.zero_add]; exact abc_msg j hj) 64 (Nat.le_refl _)) 64 (Nat.le_refl _) (i / 4) (by omega)]
  rw [this]
#print axioms abc_digest
end Go.Proofs.YtdjjleahfciipaaGreatDoor
/- A digest's State, said by what has been written: New, WriteText, Sum. -/
namespace Go.Proofs.YtdjjleahfciipaaGreatDoor
open Go.RowKit
/-- The digest of a text, as cells. -/
def dgs (s : ByteArray) : Array Value := cs .u8 32 (dg (hw (bt (msg s)) (nb s)))
/-- Block g is a State in which s has been written. -/
def Wrote (w : World) (g : Nat) (s : ByteArray) : Prop := ∃ f, Stt w g s.size (hw (bt s) (s.size / 64)) f ∧ FB (bt s) s.size f
theorem hw_congr (m m' : Nat → Int) (t : Nat) : (∀ i, i < 64 * t → m i = m' i) → hw m t = hw m' t := by
  induction t with
  | zero => intro _; rfl
  | succ t ih =>
    intro h
    show blk kk (hw m t) (fun j => m (64 * t + j)) = blk kk (hw m' t) (fun j => m' (64 * t + j))
    rw [ih (fun i hi => h i (by omega))]
    exact blk_congr _ _ _ (fun j hj => h _ (by omega))
theorem FB.congr {m m' : Nat → Int} {N : Nat} {f : Nat → Int} (h : FB m N f) (e : ∀ i, i < N → m i = m' i) : FB m' N f :=
  ⟨h.1, fun j hj => by rw [h.2 j hj]; exact e _ (by omega)⟩
theorem Wrote.lt {w : World} {g : Nat} {s : ByteArray} (h : Wrote w g s) : g < w.heap.size := by obtain ⟨f, S, _⟩ := h; exact S.lt
theorem Wrote.same {w w' : World} {g : Nat} {s : ByteArray} (h : Wrote w g s) (e : w'.heap[g]? = w.heap[g]?) : Wrote w' g s := by
  obtain ⟨f, S, F⟩ := h; exact ⟨f, S.same e, F⟩
theorem Wrote.below {w w' : World} {g B : Nat} {s : ByteArray} (h : Wrote w g s) (b : Below B w w') (hg : g < B) : Wrote w' g s := h.same (b.block g hg)
theorem Wrote.kept {w w' : World} {g g' : Nat} {s : ByteArray} (h : Wrote w g s) (b : w.grownBy w' (some g')) (hg : g ≠ g') : Wrote w' g s := by
  obtain ⟨f, S, F⟩ := h; exact ⟨f, S.kept b hg, F⟩
theorem Wrote.size {w : World} {g : Nat} {s : ByteArray} (h : Wrote w g s) : w.cell? ⟨g, 0, none⟩ = some (.int .i64 s.size) := by obtain ⟨f, S, _⟩ := h; exact S.c0
theorem Wrote.none {w : World} {g : Nat} {f : Nat → Int} (S : Stt w g 0 stw f) (hf : ∀ j, 0 ≤ f j ∧ f j < 256) : Wrote w g ByteArray.empty :=
  ⟨f, S, hf, fun j hj => absurd hj (by show ¬ j < 0 % 64; omega)⟩
theorem size_emptyS : ByteArray.empty.size = 0 := rfl

theorem new_wrote (w : World) : Calls Tryz.prog 18 #[] w fun e w' => ∃ g, e = .returned (.pointer (some ⟨g, 0, none⟩)) ∧ w.heap.size ≤ g ∧ g < w'.heap.size ∧ Wrote w' g ByteArray.empty ∧ Below w.heap.size w w' :=
  (new_any w).mono fun _ _ ⟨g, h1, h2, h3, S, b⟩ => ⟨g, h1, h2, h3, Wrote.none S (fun _ => ⟨Int.le_refl 0, by show (0 : Int) < 256; decide⟩), b⟩

theorem writeText_wrote (g : Nat) (s t : ByteArray) (w : World) (H : Wrote w g s) (hN : s.size + t.size ≤ 2305843009213693952) (hK : KT w) (hg : 0 < g) :
    Calls Tryz.prog 19 #[.pointer (some ⟨g, 0, none⟩), .string t] w fun e w' => e = .returned (.tuple #[]) ∧ Wrote w' g (s ++ t) ∧ w.grownBy w' (some g) := by
  obtain ⟨f, S, F⟩ := H
  have e1 : hw (bt s) (s.size / 64) = hw (bt (s ++ t)) (s.size / 64) := hw_congr _ _ _ (fun i hi => (bt_left s t i (by omega)).symm)
  rw [e1] at S
  refine (writeText_any g s.size t (bt (s ++ t)) f w S (F.congr (fun i hi => (bt_left s t i hi).symm)) (fun i hi => bt_right s t i hi) hN hK hg).mono ?_
  rintro e w' ⟨rfl, ⟨f', S', F'⟩, G⟩
  refine ⟨rfl, ⟨f', ?_, ?_⟩, G⟩
  · rw [ByteArray.size_append]; exact S'
  · rw [ByteArray.size_append]; exact F'

theorem nb_pad (s : ByteArray) : (s.size + (padStr s.size).size) / 64 = nb s := by
  have := msg_size s
  unfold msg at this
  rw [ByteArray.size_append] at this
  omega
theorem sum_wrote (g : Nat) (s : ByteArray) (w : World) (H : Wrote w g s) (hN : s.size ≤ 1152921504606846976) (hK : KT w) (hg : 0 < g) :
    Calls Tryz.prog 21 #[.pointer (some ⟨g, 0, none⟩)] w fun e w' => e = .returned (.agg (dgs s)) ∧ Below w.heap.size w w' := by
  obtain ⟨f, S, F⟩ := H
  have e1 : hw (bt s) (s.size / 64) = hw (bt (msg s)) (s.size / 64) := hw_congr _ _ _ (fun i hi => (bt_left s _ i (by omega)).symm)
  rw [e1] at S
  refine (sum_any g s.size (bt (msg s)) f w S (F.congr (fun i hi => (bt_left s _ i hi).symm)) (fun i hi => bt_right s _ i hi) hN hK hg).mono ?_
  rintro e w' ⟨rfl, b⟩
  refine ⟨?_, b⟩
  rw [nb_pad]
  rfl

end Go.Proofs.YtdjjleahfciipaaGreatDoor
/- What radix.Fold answers: the fold of a text into n bytes, told byte by byte. -/
namespace Go.Proofs.YtdjjleahfciipaaGreatDoor
open Go.RowKit
/-- Byte j of the fold of the first k bytes. -/
def foldFn (s : ByteArray) (n : Nat) : Nat → Nat → Int
  | 0, _ => 0
  | k + 1, j => if j = k % n then bits .xor .u8 (foldFn s n k j) (bt s k) else foldFn s n k j
theorem foldFn_step {m : Nat} (s : ByteArray) (n k : Nat) (j : Nat) (_ : j < m) : (if j = k % n then bits .xor .u8 (foldFn s n k (k % n)) (bt s k) else foldFn s n k j) = foldFn s n (k + 1) j := by
  rw [foldFn]
  by_cases e : j = k % n
  · rw [if_pos e, if_pos e, e]
  · rw [if_neg e, if_neg e]

set_option maxHeartbeats 400000 in
theorem fold_any (s : ByteArray) (n : Nat) (w : World) (hs : s.size ≤ 140737488351232) (h0 : 1 ≤ n) (h1 : n ≤ 64) :
    Calls Tryz.prog 53 #[.string s, .int .i64 n] w fun e w' => e = .returned (.tuple #[.string (strFn n (foldFn s n s.size)), .int .i64 0]) ∧ Below w.heap.size w w' := by
  go_enter Tryz.func53, Tryz.ntmps53
  go_wp2
  go_loopw [16] (fun i wr => ∃ k : Nat, k ≤ s.size ∧ i = .int .i64 k ∧ Row .u8 wr w.heap.size 64 (foldFn s n k) ∧ Below w.heap.size w wr) (fun i _ => s.size - (intOf i).toNat)
  case atStart =>
    refine ⟨0, Nat.zero_le _, rfl, Row.rep rfl, (Below.refl _ _).alloc (Nat.le_refl _) _⟩
  case round =>
    obtain ⟨k, hk, rfl, R, B⟩ := hrel
    by_cases hlt : k < s.size
    · have hm : k % n < n := Nat.mod_lt _ h0
      have c1 := R.cell (k % n) (by omega)
      have f1 := R.free (k % n) (by omega)
      have hb := get_bt s
      go_wp2
      go_region
      all_goals go_wp2
      all_goals
        go_roundw
        case rel => exact ⟨k + 1, by omega, by go_num, ((R.set (k % n) _ (by omega)).congr (foldFn_step s n k)).drew, (B.setCell (Nat.le_refl _) _).drew⟩
        case measure => simp [intOf]; omega
    · have c1 := run_string_row (P := Tryz.prog) (src := 45) (dst := 9) (c := 64) Tryz.underlying45 Tryz.underlying5 Tryz.underlying9 (R.take h1)
      obtain rfl : k = s.size := by omega
      go_wp2
      go_ret2
      exact ⟨rfl, B⟩

set_option maxHeartbeats 400000 in
theorem fold_no (s : ByteArray) (n : Int) (w : World) (h : n < 1 ∨ 64 < n) :
    Calls Tryz.prog 53 #[.string s, .int .i64 n] w fun e w' => e = .returned (.tuple #[.string ⟨#[]⟩, .int .i64 1]) ∧ Below w.heap.size w w' := by
  by_cases h' : n < 1
  · go_enter Tryz.func53, Tryz.ntmps53
    go_wp2
    go_ret2
    exact ⟨rfl, Below.refl _ _⟩
  · have h2 : 64 < n := by omega
    clear h
    go_enter Tryz.func53, Tryz.ntmps53
    go_wp2
    go_ret2
    exact ⟨rfl, Below.refl _ _⟩


theorem Tryz.info5P : (Tryz.prog.info? 5).map (fun i => (i.zero, i.size, i.bytes)) = some (some (.int .u8 0), 1, 1) := by kernel_rfl

end Go.Proofs.YtdjjleahfciipaaGreatDoor
/- What radix.Hex answers: two digits a byte. -/
namespace Go.Proofs.YtdjjleahfciipaaGreatDoor
open Go.RowKit
theorem Tryz.hinfo5P : (Tryz.prog.info? 5).map (fun i => (i.zero, i.size, i.bytes)) = some (some (.int .u8 0), 1, 1) := by kernel_rfl
/-- The sixteen digits. -/
def dgx : ByteArray := ⟨#[48, 49, 50, 51, 52, 53, 54, 55, 56, 57, 97, 98, 99, 100, 101, 102]⟩
def dig (v : Int) : Int := if v < 10 then 48 + v else 87 + v
theorem bt_dgx : ∀ n, n < 16 → bt dgx n = dig n := by decide +kernel
theorem dgx_get (n : Nat) (h : n < dgx.size) : ((dgx[n]'h).toNat : Int) = dig n := by
  rw [get_bt dgx n h]; exact bt_dgx n h
/-- Letter j of the hexadecimal text of s. -/
def hexFn (s : ByteArray) (j : Nat) : Int := dig (if j % 2 = 0 then bt s (j / 2) / 16 else bt s (j / 2) % 16)
def hexStr (s : ByteArray) : ByteArray := strFn (2 * s.size) (hexFn s)
theorem dig_bd (v : Int) (h0 : 0 ≤ v) (h1 : v < 16) : 0 ≤ dig v ∧ dig v < 256 := by unfold dig; split <;> omega
theorem hexFn_bd (s : ByteArray) (j : Nat) : 0 ≤ hexFn s j ∧ hexFn s j < 256 := by
  unfold hexFn
  have := bt_bd s (j / 2)
  split
  · exact dig_bd _ (by omega) (by omega)
  · exact dig_bd _ (by omega) (by omega)

set_option maxRecDepth 100000 in
set_option maxHeartbeats 400000 in
theorem hex_any (s : ByteArray) (w : World) (hs : s.size ≤ 140737488351232) :
    Calls Tryz.prog 52 #[.string s] w fun e w' => e = .returned (.string (hexStr s)) ∧ Below w.heap.size w w' := by
  obtain ⟨i0, hi, hz0, hz1, hz2⟩ := info_parts Tryz.hinfo5P
  go_enter Tryz.func52, Tryz.ntmps52
  go_wp2_with fail
  rw [show (2 * (s.size : Int)) = ((2 * s.size : Nat) : Int) from by omega]
  rw [run_make (P := Tryz.prog) w 45 5 i0 (.int .u8 0) Tryz.underlying45 hi hz0 .i64 .i64 _ _ (by omega) (by omega) (by rw [hz2]; omega) (by omega)]
  have R0 : Row .u8 (w.alloc (.cells (madeCells (Value.int .u8 0).cells (((2 * s.size : Nat) : Int).toNat * i0.size)) 5)) w.heap.size (2 * s.size) (fun _ => 0) := Row.made (by rw [hz1]; omega)
  have B0 : Below w.heap.size w (w.alloc (.cells (madeCells (Value.int .u8 0).cells (((2 * s.size : Nat) : Int).toNat * i0.size)) 5)) := (Below.refl _ _).alloc (Nat.le_refl _) _
  generalize w.alloc (.cells (madeCells (Value.int .u8 0).cells (((2 * s.size : Nat) : Int).toNat * i0.size)) 5) = W1 at R0 B0 ⊢
  rw [Int.toNat_natCast]
  clear hi hz0 hz1 hz2
  go_wp2
  go_loopw [11] (fun i wr => ∃ k : Nat, k ≤ s.size ∧ i = .int .i64 k ∧ Row .u8 wr w.heap.size (2 * s.size) (fun j => if j < 2 * k then hexFn s j else 0) ∧ Below w.heap.size w wr) (fun i _ => s.size - (intOf i).toNat)
  case atStart => exact ⟨0, Nat.zero_le _, rfl, R0.congr (fun j _ => by simp), B0⟩
  case round =>
    obtain ⟨k, hk, rfl, R, B⟩ := hrel
    by_cases hlt : k < s.size
    · have c1 := R.cell (2 * k) (by omega)
      have f1 := R.free (2 * k) (by omega)
      have c2 := R.cell (2 * k + 1) (by omega)
      have f2 := R.free (2 * k + 1) (by omega)
      have hb := get_bt s
      have hd := get_bt ⟨#[48, 49, 50, 51, 52, 53, 54, 55, 56, 57, 97, 98, 99, 100, 101, 102]⟩
      have hbd := bt_bd s k
      go_wp2
      go_roundw
      case rel =>
        have e1 : bt ⟨#[48, 49, 50, 51, 52, 53, 54, 55, 56, 57, 97, 98, 99, 100, 101, 102]⟩ (bt s k / 16).toNat = hexFn s (2 * k) := by
          have h := bt_dgx (bt s k / 16).toNat (by omega)
          rw [show ((bt s k / 16).toNat : Int) = bt s k / 16 from by omega] at h
          unfold hexFn
          rw [if_pos (by omega), show 2 * k / 2 = k from by omega]
          exact h
        have e2 : bt ⟨#[48, 49, 50, 51, 52, 53, 54, 55, 56, 57, 97, 98, 99, 100, 101, 102]⟩ (bt s k % 16).toNat = hexFn s (2 * k + 1) := by
          have h := bt_dgx (bt s k % 16).toNat (by omega)
          rw [show ((bt s k % 16).toNat : Int) = bt s k % 16 from by omega] at h
          unfold hexFn
          rw [if_neg (by omega), show (2 * k + 1) / 2 = k from by omega]
          exact h
        rw [e1, e2]
        refine ⟨k + 1, by omega, by go_num, ((R.set (2 * k) _ (by omega)).set (2 * k + 1) _ (by omega)).congr (fun j hj => ?_), (B.setCell (Nat.le_refl _) _).setCell (Nat.le_refl _) _⟩
        by_cases a1 : j = 2 * k + 1
        · subst a1; rw [if_pos rfl, if_pos (by omega)]
        · rw [if_neg a1]
          by_cases a2 : j = 2 * k
          · subst a2; rw [if_pos rfl, if_pos (by omega)]
          · rw [if_neg a2]
            by_cases h : j < 2 * k
            · rw [if_pos h, if_pos (by omega)]
            · rw [if_neg h, if_neg (by omega)]
      case measure => simp [intOf]; omega
    · have c1 := run_string_row (P := Tryz.prog) (src := 45) (dst := 9) (c := 2 * s.size) Tryz.underlying45 Tryz.underlying5 Tryz.underlying9 R
      obtain rfl : k = s.size := by omega
      rw [show strFn (2 * s.size) (fun j => if j < 2 * s.size then hexFn s j else 0) = hexStr s from strFn_congr (fun j hj => by rw [if_pos hj])] at c1
      go_wp2
      go_ret
      exact ⟨rfl, B⟩
#print axioms hex_any
end Go.Proofs.YtdjjleahfciipaaGreatDoor
/- Numbers by their digits (plain arithmetic). -/
namespace Go.Proofs.YtdjjleahfciipaaGreatDoor

/-- The number whose digit i is f i, to the base B, n digits. -/
def num (B : Nat) (f : Nat → Nat) : Nat → Nat
  | 0 => 0
  | n + 1 => num B f n + f n * B ^ n

theorem num_lt (B : Nat) (f : Nat → Nat) (n : Nat) (_hB : 0 < B) (h : ∀ i, i < n → f i < B) : num B f n < B ^ n := by
  induction n with
  | zero => simp [num]
  | succ n ih =>
    rw [num, Nat.pow_succ]
    have h1 := ih (fun i hi => h i (by omega))
    have h2 : f n + 1 ≤ B := h n (by omega)
    have h3 : (f n + 1) * B ^ n ≤ B * B ^ n := Nat.mul_le_mul_right _ h2
    rw [Nat.add_mul, Nat.one_mul] at h3
    rw [Nat.mul_comm (B ^ n) B]
    omega

theorem num_congr (B : Nat) {f g : Nat → Nat} (n : Nat) (h : ∀ i, i < n → f i = g i) : num B f n = num B g n := by
  induction n with
  | zero => rfl
  | succ n ih => rw [num, num, ih (fun i hi => h i (by omega)), h n (by omega)]

/-- The digits from i on. -/
theorem num_div (B : Nat) (f : Nat → Nat) (i n : Nat) (hB : 0 < B) (h : ∀ i, i < n → f i < B) (hi : i ≤ n) : num B f n / B ^ i = num B (fun j => f (i + j)) (n - i) := by
  induction n with
  | zero =>
    obtain rfl : i = 0 := by omega
    simp [num]
  | succ n ih =>
    by_cases e : i = n + 1
    · subst e
      rw [Nat.sub_self, num, Nat.div_eq_of_lt (num_lt B f (n + 1) hB h)]
    · rw [num, show n + 1 - i = (n - i) + 1 from by omega, num, ← ih (fun j hj => h j (by omega)) (by omega), show i + (n - i) = n from by omega]
      have hp : B ^ n = B ^ i * B ^ (n - i) := by rw [← Nat.pow_add]; congr 1; omega
      rw [hp, ← Nat.mul_assoc, Nat.mul_comm (f n) (B ^ i), Nat.mul_assoc, Nat.add_mul_div_left _ _ (Nat.pow_pos hB)]

theorem num_head (B : Nat) (f : Nat → Nat) (n : Nat) (h : f 0 < B) : num B f (n + 1) % B = f 0 := by
  induction n with
  | zero => simp [num]; exact Nat.mod_eq_of_lt h
  | succ n ih => rw [num, Nat.pow_succ, ← Nat.mul_assoc, Nat.add_mul_mod_self_right, ih]

theorem num_digit (B : Nat) (f : Nat → Nat) (i n : Nat) (hB : 0 < B) (h : ∀ i, i < n → f i < B) (hi : i < n) : num B f n / B ^ i % B = f i := by
  rw [num_div B f i n hB h (by omega), show n - i = (n - i - 1) + 1 from by omega, num_head B _ _ (by simpa using h i hi)]
  simp

theorem num_of (B x n : Nat) (_hB : 0 < B) : num B (fun i => x / B ^ i % B) n = x % B ^ n := by
  induction n with
  | zero => simp [num, Nat.mod_one]
  | succ n ih => rw [num, ih, Nat.pow_succ, Nat.mod_mul, Nat.mul_comm (x / B ^ n % B)]

/-- Equal numbers have equal digits. -/
theorem num_inj (B : Nat) (f g : Nat → Nat) (n : Nat) (hB : 0 < B) (hf : ∀ i, i < n → f i < B) (hg : ∀ i, i < n → g i < B) (e : num B f n = num B g n) (i : Nat) (hi : i < n) : f i = g i := by
  rw [← num_digit B f i n hB hf hi, ← num_digit B g i n hB hg hi, e]

/-- A text's bytes as one number, the first byte the lowest. -/
def bnum (s : ByteArray) : Nat := num 256 (fun i => (bt s i).toNat) s.size

theorem bnum_lt (s : ByteArray) : bnum s < 256 ^ s.size := num_lt _ _ _ (by omega) (fun i _ => by have := bt_bd s i; omega)

theorem bnum_byte (s : ByteArray) (q : Nat) : ((bnum s / 256 ^ q % 256 : Nat) : Int) = bt s q := by
  by_cases h : q < s.size
  · unfold bnum
    rw [num_digit 256 _ q s.size (by omega) (fun i _ => by have := bt_bd s i; omega) h]
    have := bt_bd s q
    omega
  · rw [Nat.div_eq_of_lt (Nat.lt_of_lt_of_le (bnum_lt s) (Nat.pow_le_pow_right (by omega) (by omega)))]
    unfold bt
    rw [dif_neg h]
    rfl

theorem bnum_inj {a b : ByteArray} (hs : a.size = b.size) (e : bnum a = bnum b) : a = b :=
  bytes_ext hs (fun k _ => by rw [← bnum_byte a k, ← bnum_byte b k, e])

theorem bnum_strFn (n x : Nat) : bnum (strFn n (fun i => ((x / 256 ^ i % 256 : Nat) : Int))) = x % 256 ^ n := by
  unfold bnum
  rw [strFn_size, ← num_of 256 x n (by omega)]
  apply num_congr
  intro i hi
  rw [bt_strFn _ _ _ hi (by omega) (by omega)]
  omega

/-- Five bits from bit k on. -/
def fb (s : ByteArray) (k : Nat) : Int := (bt s (k / 8) + 256 * bt s (k / 8 + 1)) / 2 ^ (k % 8) % 32

theorem pow32 (j : Nat) : 32 ^ j = 256 ^ (5 * j / 8) * 2 ^ (5 * j % 8) := by
  rw [show (32 : Nat) = 2 ^ 5 from rfl, show (256 : Nat) = 2 ^ 8 from rfl, ← Nat.pow_mul, ← Nat.pow_mul, ← Nat.pow_add]
  congr 1
  omega

theorem fb_num (s : ByteArray) (j : Nat) : fb s (5 * j) = ((bnum s / 32 ^ j % 32 : Nat) : Int) := by
  unfold fb
  rw [pow32 j, ← Nat.div_div_eq_div_mul]
  have h0 := bnum_byte s (5 * j / 8)
  have h1 := bnum_byte s (5 * j / 8 + 1)
  rw [Nat.pow_succ, ← Nat.div_div_eq_div_mul] at h1
  generalize bnum s / 256 ^ (5 * j / 8) = x at h0 h1 ⊢
  generalize bt s (5 * j / 8) = a at h0 ⊢
  generalize bt s (5 * j / 8 + 1) = b at h1 ⊢
  have hr : 5 * j % 8 < 8 := Nat.mod_lt _ (by omega)
  generalize 5 * j % 8 = r at hr ⊢
  rcases (show r = 0 ∨ r = 1 ∨ r = 2 ∨ r = 3 ∨ r = 4 ∨ r = 5 ∨ r = 6 ∨ r = 7 from by omega) with rfl | rfl | rfl | rfl | rfl | rfl | rfl | rfl
  all_goals omega
#print axioms fb_num
end Go.Proofs.YtdjjleahfciipaaGreatDoor
