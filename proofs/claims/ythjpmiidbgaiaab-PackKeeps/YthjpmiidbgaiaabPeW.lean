/- The law PackKeeps, walked. -/
import Derived.Test.YthjpmiidbgaiaabPkW
import Derived.Deep.AppendLies
import Derived.Laws.OwnMore
import Derived.Lib.LazyBuf
import Derived.Deep.QuietTactic
import Derived.BigQuiet
namespace Go.Proofs.Ythjpmiidbgaiaab
open Go.RowKit

theorem size5 : ∀ w : World, (Go.sizeOf 5).run Try.prog w = .ok 1 w := fun w => by
  obtain ⟨i0, hi, hz0, hz1, hz2⟩ := info_parts infoU8
  simp [sizeOf, typeInfo, hi, hz1]
theorem setCells_only (g : Nat) : ∀ (l : List Value) (o : Nat) (w : World), (w.setCells g o l).heap.size = w.heap.size ∧ (∀ k, k ≠ g → (w.setCells g o l).heap[k]? = w.heap[k]?) ∧ (w.setCells g o l).os = w.os ∧ (w.setCells g o l).tape = w.tape ∧ (w.setCells g o l).output = w.output := by
  intro l
  induction l with
  | nil => intro o w; exact ⟨rfl, fun _ _ => rfl, rfl, rfl, rfl⟩
  | cons a l ih =>
    intro o w
    obtain ⟨h1, h2, h3, h4, h5⟩ := ih (o + 1) (w.setCell ⟨g, o, none⟩ a)
    exact ⟨h1.trans (by simp), fun k hk => (h2 k hk).trans (Below.heap_setCell w _ _ k hk), h3, h4, h5⟩
/-- copy(q, t). -/
theorem copy_str (w : World) (g m : Nat) (z : Nat → Int) (t : ByteArray) (ty : TypeId) (V : Row .u8 w g m z) (hm : t.size ≤ m) :
    ∃ w', (Builtin.copy_ #[30, 9] ty #[.slice (some ⟨g, 0, none⟩) m m, .string t]).run Try.prog w = .ok (goInt t.size) w' ∧ Row .u8 w' g m (fun j => if j < t.size then bt t j else z j) ∧ w.grownBy w' (some g) := by
  have hl : (t.data.toList.map fun x => Value.int .u8 (x.toNat : Int)).length = t.size := by rw [List.length_map, Array.length_toList]; rfl
  have hr := Go.run_copy_string (P := Try.prog) w 30 9 ty 5 g 0 m m t Try.underlying30 size5 hm (fun j hj => by rw [Nat.zero_add, V.cell j (by omega)]; rfl) (fun j hj => by rw [Nat.zero_add]; exact V.free j (by omega))
  obtain ⟨s1, s2, s3, s4, s5⟩ := setCells_only g (t.data.toList.map fun x => Value.int .u8 (x.toNat : Int)) 0 w
  refine ⟨_, hr, ⟨fun j hj => ?_, fun j hj => by rw [World.frozen?_setCells]; exact V.free j hj⟩, ⟨s3, s4, s5, by rw [s1]; exact Nat.le_refl _, fun k _ hk => s2 k (fun e => hk (by rw [e]))⟩⟩
  by_cases h : j < t.size
  · have := World.cell?_setCells_in g (t.data.toList.map fun x => Value.int .u8 (x.toNat : Int)) 0 w (fun i hi => by rw [Nat.zero_add, V.cell i (by omega)]; rfl) j (by omega)
    rw [Nat.zero_add] at this
    rw [this, if_pos h]
    unfold bt
    rw [dif_pos h]
    simp
    rfl
  · rw [if_neg h, World.cell?_setCells_out g _ 0 w _ (fun _ _ => by right; rw [hl]; show 0 + t.size ≤ j; omega)]
    exact V.cell j hj
theorem make_bytes (w : World) (n : Nat) (hn : n ≤ 1073741824) : (Instr.makeSlice 30 (.int .i64 (n : Int)) (.int .i64 (n : Int))).run Try.prog w = .ok (.slice (some ⟨w.heap.size, 0, none⟩) n n) (w.alloc (.cells (madeCells (Value.int .u8 0).cells n) 5)) := by
  obtain ⟨i0, hi, hz0, hz1, hz2⟩ := info_parts infoU8
  rw [run_make (P := Try.prog) w 30 5 i0 (.int .u8 0) Try.underlying30 hi hz0 .i64 .i64 _ _ (by omega) (by omega) (by rw [hz2]; omega) (by omega), Int.toNat_natCast, hz1, Nat.mul_one]

/-- The bytes, then marks up to k, then noughts. -/
def g1F (T : ByteArray) (n k : Nat) (mk : Int) (j : Nat) : Int := if j < n then bt T j else if j < k then mk else 0
/-- Marks up to k; then the bytes, then marks. -/
def g2F (T : ByteArray) (n k : Nat) (mk : Int) (j : Nat) : Int := if j < k then mk else if j < n then bt T j else mk
theorem g1F_set (T : ByteArray) (n k : Nat) (mk : Int) (h : n ≤ k) (j : Nat) : (if j = k then mk else g1F T n k mk j) = g1F T n (k + 1) mk j := by
  unfold g1F
  by_cases e : j = k
  · rw [if_pos e, if_neg (by omega), if_pos (by omega)]
  · rw [if_neg e]
    by_cases h1 : j < n
    · rw [if_pos h1, if_pos h1]
    · rw [if_neg h1, if_neg h1]
      by_cases h2 : j < k
      · rw [if_pos h2, if_pos (by omega)]
      · rw [if_neg h2, if_neg (by omega)]
theorem g2F_set (T : ByteArray) (n k : Nat) (mk : Int) (j : Nat) : (if j = k then mk else g2F T n k mk j) = g2F T n (k + 1) mk j := by
  unfold g2F
  by_cases e : j = k
  · rw [if_pos e, if_pos (by omega)]
  · rw [if_neg e]
    by_cases h1 : j < k
    · rw [if_pos h1, if_pos (by omega)]
    · rw [if_neg h1, if_neg (show ¬ j < k + 1 by omega)]
theorem grown_trans {a b c : World} {o : Option Nat} (h : a.grownBy b o) (k : b.grownBy c o) : a.grownBy c o :=
  ⟨k.os.trans h.os, k.tape.trans h.tape, k.output.trans h.output, Nat.le_trans h.size k.size, fun i hi ho => (k.block i (Nat.lt_of_lt_of_le hi h.size) ho).trans (h.block i hi ho)⟩
theorem grown_below {a b : World} {g B : Nat} (h : a.grownBy b (some g)) (hB : B ≤ g) (hs : B ≤ a.heap.size) : Below B a b := ⟨h.os, h.tape, h.output, h.size, fun i hi => h.block i (by omega) (fun e => by cases e; omega)⟩
theorem grown_refl (a : World) (o : Option Nat) : a.grownBy a o := ⟨rfl, rfl, rfl, Nat.le_refl _, fun _ _ _ => rfl⟩
theorem grown_set (a : World) (g j : Nat) (x : Value) : a.grownBy (a.setCell ⟨g, j, none⟩ x) (some g) := ⟨rfl, rfl, rfl, by simp, fun i _ ho => Below.heap_setCell a _ _ i (fun e => ho (by rw [e]))⟩


set_option maxHeartbeats 8000000 in
set_option maxRecDepth 10000 in
theorem pkeeps_walk (s : ByteArray) (mk : Int) (w : World) (hs : s.size ≤ 9223372036854775807) (_ : 0 ≤ mk) (_ : mk ≤ 255) : Calls Try.prog 4 #[.string s, .int .u8 mk] w fun e w' => e = .returned (.bool true) ∧ Below w.heap.size w w' := by
  by_cases hb : 1048576 < s.size
  · go_enter Try.func4, Try.ntmps4
    go_wp2_with fail
    refine (awake_any _).mono ?_
    rintro e w1 ⟨rfl, B1⟩
    go_wp2_with fail
    refine (pk_big s w1 hb hs).mono ?_
    rintro e w2 ⟨rfl, rfl⟩
    go_wp2
    go_ret
    exact ⟨rfl, B1⟩
  · obtain ⟨l, rfl⟩ : ∃ l, s = ba l := ⟨s.data.toList, (ba_list s).symm⟩
    rw [ba_size] at hb hs
    have hl := pk_len l
    have PC := fun w => pack_any l w (by omega)
    have hsz := ba_size l
    obtain ⟨lk, nr, hrun⟩ := pk_run l (by omega)
    obtain ⟨n, hn⟩ : ∃ n, (pk l).length = n := ⟨_, rfl⟩
    have hnb : n ≤ 4194304 := by omega
    have hTs : (ba (pk l)).size = n := by rw [ba_size]; exact hn
    have HMK : Hid (∀ w : World, (Instr.makeSlice 30 (.int .i64 ((n : Int) + 80)) (.int .i64 ((n : Int) + 80))).run Try.prog w = .ok (.slice (some ⟨w.heap.size, 0, none⟩) (n + 80) (n + 80)) (w.alloc (.cells (madeCells (Value.int .u8 0).cells (n + 80)) 5))) := fun w => by
      have h := make_bytes w (n + 80) (by omega)
      rw [show (((n + 80 : Nat)) : Int) = (n : Int) + 80 by omega] at h
      exact h
    have HCS : Hid (∀ (w : World) (g : Nat) (z : Nat → Int) (ty : TypeId), Row .u8 w g (n + 80) z → ∃ w', (Builtin.copy_ #[30, 9] ty #[.slice (some ⟨g, 0, none⟩) (n + 80) (n + 80), .string (ba (pk l))]).run Try.prog w = .ok (goInt n) w' ∧ Row .u8 w' g (n + 80) (fun j => if j < n then bt (ba (pk l)) j else z j) ∧ w.grownBy w' (some g)) := fun w g z ty V => by
      have h := copy_str w g (n + 80) z (ba (pk l)) ty V (by omega)
      rw [hTs] at h
      exact h
    have HFC : Hid (∀ (G Q c : Nat) (w : World), Up w G (.slice none 0 0) u0 → BSl w G (.slice none 0 0) (some ⟨Q, 0, none⟩) (pk l) → Calls Try.prog 9 #[.pointer (some ⟨G, 0, none⟩), .slice (some ⟨Q, 0, none⟩) n c] w fun e w' => (∃ z : Int, e = .returned (.int .i64 z)) ∧ ∃ v', Up w' G v' (u0.run (pk l)) ∧ Mv w w' G (.slice none 0 0) v') := fun G Q c w R hX => by
      have h := feed_any G (.slice none 0 0) u0 (some ⟨Q, 0, none⟩) c (pk l) w R UI.u0 hX (by show 0 + (pk l).length ≤ _; omega)
      rw [hn] at h
      exact h.mono fun e w' ⟨h1, h2⟩ => ⟨⟨_, h1⟩, h2⟩
    have HPS : Hid (∀ (w : World) (G Q m : Nat) (F : Nat → Int), Row .u8 w Q m F → n ≤ m → Q ≠ G → Q < w.heap.size → (∀ j, j < n → F j = bt (ba (pk l)) j) → BSl w G (.slice none 0 0) (some ⟨Q, 0, none⟩) (pk l)) := fun w G Q m F V hm h1 h3 hF => .inr ⟨Q, 0, rfl, h1, by simp [Value.ownBlock], h3, fun j hj => by
      rw [Nat.zero_add, V.cell j (by omega), hF j (by omega), bt_ba _ _ hj]⟩
    have HCL : Hid (∀ (G : Nat) (v : Value) (w : World), Up w G v (u0.run (pk l)) → Calls Try.prog 10 #[.pointer (some ⟨G, 0, none⟩)] w fun e w' => e = .returned (.tuple #[.string (ba l), .agg #[.int .i64 0, .int .i64 0]]) ∧ ∃ v', Up w' G v' (u0.run (pk l)).shut ∧ Mv w w' G v v') := fun G v w R => by
      have h := uclose_any G v _ w R (UI.u0.run (pk l))
      obtain ⟨h1, h2, h3⟩ := pk_unp l (by omega)
      unfold unp at h1 h2 h3
      rw [h1, h2, h3] at h
      exact h
    have HCL2 : Hid (∀ (G : Nat) (v : Value) (w : World), Up w G v (u0.run (pk l)).shut → Calls Try.prog 10 #[.pointer (some ⟨G, 0, none⟩)] w fun e w' => e = .returned (.tuple #[.string (ba l), .agg #[.int .i64 0, .int .i64 0]]) ∧ ∃ v', Up w' G v' (u0.run (pk l)).shut.shut ∧ Mv w w' G v v') := fun G v w R => by
      have h := uclose_any G v _ w R ((UI.u0.run (pk l)).shut)
      have e1 : (u0.run (pk l)).shut = { US.t (pk l).length l.length l lk nr with cl := true } := by
        rw [hrun]
        unfold US.shut
        rw [if_neg (fun h => by have := h.2; unfold US.wh US.t at this; simp at this)]
      have e2 : (u0.run (pk l)).shut.shut.tx = l ∧ (u0.run (pk l)).shut.shut.code = 0 ∧ (u0.run (pk l)).shut.shut.fat = 0 := by
        rw [e1]
        unfold US.shut
        rw [if_neg (fun h => by have := h.2; unfold US.wh US.t at this; simp at this)]
        exact ⟨rfl, rfl, rfl⟩
      rw [e2.1, e2.2.1, e2.2.2] at h
      exact h
    generalize hT : ba (pk l) = T at *
    clear hT
    generalize u0.run (pk l) = S1 at *
    clear hl hrun hn
    go_enter Try.func4, Try.ntmps4
    go_wp2_with fail
    refine (awake_any _).mono ?_
    rintro e w1 ⟨rfl, b1⟩
    go_wp2_with fail
    refine (PC _).mono ?_
    rintro e w2 ⟨rfl, b2⟩
    have B2 : Hid (Below w.heap.size w w2) := bel_trans b1 b2
    clear b1 b2 PC
    go_wp2_with fail
    rw [HMK.out]
    have V3 : Hid (Row .u8 (w2.alloc (.cells (madeCells (Value.int .u8 0).cells (n + 80)) 5)) w2.heap.size (n + 80) (fun _ => 0)) := Row.made rfl
    have B3 : Hid (Below w.heap.size w (w2.alloc (.cells (madeCells (Value.int .u8 0).cells (n + 80)) 5))) := B2.out.alloc B2.out.size _
    have hQ : w2.heap.size < (w2.alloc (.cells (madeCells (Value.int .u8 0).cells (n + 80)) 5)).heap.size := by rw [World.size_alloc]; omega
    have hwQ : w.heap.size ≤ w2.heap.size := B2.out.size
    generalize w2.alloc (.cells (madeCells (Value.int .u8 0).cells (n + 80)) 5) = w3 at *
    generalize w2.heap.size = Q at *
    clear B2 HMK
    go_wp2_with fail
    obtain ⟨w4, hcp, V4, G4⟩ := HCS.out w3 Q _ 3 V3.out
    rw [hcp]
    clear hcp
    have HV4 : Hid (Row .u8 w4 Q (n + 80) (g1F T n n mk)) := V4.congr (fun j _ => by unfold g1F; by_cases e : j < n; rw [if_pos e, if_pos e]; rw [if_neg e, if_neg e, if_neg e])
    have B4 : Hid (Below w.heap.size w w4) := B3.out.trans (grown_below G4 hwQ (by omega))
    have hQ4 : Q < w4.heap.size := by have := G4.size; omega
    clear V4 G4 V3 B3 hQ HCS
    go_wp2
    go_loopw [8] (fun ix wr => ∃ k : Nat, n ≤ k ∧ k ≤ n + 80 ∧ ix = .int .i64 k ∧ Hid (Row .u8 wr Q (n + 80) (g1F T n k mk)) ∧ Hid (Below w.heap.size w wr ∧ Q < wr.heap.size)) (fun i _ => n + 80 - (intOf i).toNat)
    case atStart => exact ⟨n, Nat.le_refl _, by omega, rfl, HV4, B4.out, hQ4⟩
    case round =>
      clear HV4 B4 hQ4
      obtain ⟨k, hk0, hk, rfl, hV, hB⟩ := hrel
      by_cases hlt : k < n + 80
      · have d0 := hV.out.cell k hlt
        have z0 := hV.out.free k hlt
        go_wp2
        go_roundw
        case rel => exact ⟨k + 1, by omega, by omega, by go_num, (hV.out.set k mk hlt).congr (fun j _ => g1F_set T n k mk hk0 j), hB.out.1.setCell hwQ _, by simpa using hB.out.2⟩
        case measure => simp [intOf]; omega
      · obtain rfl : k = n + 80 := by omega
        go_wp2_with fail
        refine (newU_any _).mono ?_
        rintro e w5 ⟨rfl, R5, b5⟩
        have hG : Q < wr.heap.size := hB.out.2
        have HR5 : Hid (Up w5 wr.heap.size (.slice none 0 0) u0) := R5
        have HV5 : Hid (Row .u8 w5 Q (n + 80) (g1F T n (n + 80) mk)) := hV.out.below b5 hG
        have HB5 : Hid (Below w.heap.size w w5) := hB.out.1.trans (b5.mono hB.out.1.size)
        have hwG : w.heap.size ≤ wr.heap.size := hB.out.1.size
        have hG5 : wr.heap.size < w5.heap.size := R5.lt
        clear R5 b5 hV hB
        generalize wr.heap.size = G at *
        go_wp2_with fail
        refine (HFC.out G Q (n + 80) w5 HR5.out (HPS.out w5 G Q (n + 80) _ HV5.out (by omega) (by omega) (by omega) (fun j hj => by unfold g1F; rw [if_pos hj]))).mono ?_
        rintro e w6 ⟨⟨z6, rfl⟩, v6, R6, M6⟩
        have hQG : Q ≠ G := by omega
        have HV6 : Hid (Row .u8 w6 Q (n + 80) (g2F T n 0 mk)) := (HV5.out.same (M6.block Q (by omega) hQG (by simp [Value.ownBlock]))).congr (fun j hj => by unfold g1F g2F; rw [if_neg (show ¬ j < 0 by omega)]; by_cases e : j < n; rw [if_pos e, if_pos e]; rw [if_neg e, if_neg e, if_pos hj])
        have HB6 : Hid (Below w.heap.size w w6) := HB5.out.trans (M6.keeps w.heap.size (by omega) hwG (fun k h => by cases h))
        have HR6 : Hid (Up w6 G v6 S1) := R6
        have HN6 : Hid (∀ q, v6.ownBlock = some q → w.heap.size ≤ q ∧ q ≠ Q ∧ q < w6.heap.size) := fun q h => ⟨(M6.new q h).elim (fun e => by cases e) (fun e => by omega), (M6.new q h).elim (fun e => by cases e) (fun e => by omega), (R6.buf.lt q h).2⟩
        have hs6 : G < w6.heap.size := R6.lt
        clear R6 M6 HR5 HV5 HB5 HFC HPS
        go_wp2
        go_loopw [10, 56] (fun _ ix wr => ∃ k : Nat, k ≤ n + 80 ∧ ix = .int .i64 k ∧ Hid (Row .u8 wr Q (n + 80) (g2F T n k mk)) ∧ Hid (w6.grownBy wr (some Q))) (fun _ i _ => n + 80 - (intOf i).toNat)
        case atStart => exact ⟨0, Nat.zero_le _, rfl, HV6, grown_refl _ _⟩
        case round =>
          clear HV6
          obtain ⟨k, hk, rfl, hV, hGr⟩ := hrel
          by_cases hlt : k < n + 80
          · have z0 := hV.out.free k hlt
            have hgb := get_bt T
            by_cases hkn : k < n
            · have d0 : wr.cell? ⟨Q, k, none⟩ = some (.int .u8 (bt T k)) := by rw [hV.out.cell k hlt]; unfold g2F; rw [if_neg (Nat.lt_irrefl _), if_pos hkn]
              have e1 : decide (k < n) = true := by simpa using hkn
              have e2 : decide (n ≤ k) = false := by simp; omega
              have e3 : decide ((k : Int) < (n : Int)) = true := by simpa using hkn
              have e4 : decide ((n : Int) ≤ (k : Int)) = false := by simp; omega
              have i1 : (k : Int) < (n : Int) := by omega
              have i2 : (k : Int) < (n : Int) + 80 := by omega
              have i3 : (0 : Int) ≤ (k : Int) := by omega
              go_wp2
              go_quiet (fail)
              have V9 : Hid (Row .u8 (wr.drewN nq) Q (n + 80) (g2F T n k mk)) := hV.out.drewN _
              have G9 : Hid (w6.grownBy (wr.drewN nq) (some Q)) := ⟨hGr.out.os, hGr.out.tape, hGr.out.output, hGr.out.size, hGr.out.block⟩
              have d9 : (wr.drewN nq).cell? ⟨Q, k, none⟩ = some (.int .u8 (bt T k)) := d0
              have z9 : (wr.drewN nq).frozen? ⟨Q, k, none⟩ = false := z0
              generalize wr.drewN nq = w9 at *
              go_wp2
              go_roundw
              case rel => exact ⟨k + 1, by omega, by go_num, (V9.out.set k mk hlt).congr (fun j _ => g2F_set T n k mk j), grown_trans G9.out (grown_set _ _ _ _)⟩
              case measure => simp [intOf]; omega
            · have d0 : wr.cell? ⟨Q, k, none⟩ = some (.int .u8 mk) := by rw [hV.out.cell k hlt]; unfold g2F; rw [if_neg (Nat.lt_irrefl _), if_neg hkn]
              have e1 : decide (k < n) = false := by simpa using hkn
              have e2 : decide (n ≤ k) = true := by simp; omega
              have e3 : decide ((k : Int) < (n : Int)) = false := by simp; omega
              have e4 : decide ((n : Int) ≤ (k : Int)) = true := by simp; omega
              have i1 : (n : Int) ≤ (k : Int) := by omega
              have i2 : (k : Int) < (n : Int) + 80 := by omega
              have i3 : (0 : Int) ≤ (k : Int) := by omega
              go_wp2
              go_quiet (fail)
              have V9 : Hid (Row .u8 (wr.drewN nq) Q (n + 80) (g2F T n k mk)) := hV.out.drewN _
              have G9 : Hid (w6.grownBy (wr.drewN nq) (some Q)) := ⟨hGr.out.os, hGr.out.tape, hGr.out.output, hGr.out.size, hGr.out.block⟩
              have d9 : (wr.drewN nq).cell? ⟨Q, k, none⟩ = some (.int .u8 mk) := d0
              have z9 : (wr.drewN nq).frozen? ⟨Q, k, none⟩ = false := z0
              generalize wr.drewN nq = w9 at *
              go_wp2
              go_roundw
              case rel => exact ⟨k + 1, by omega, by go_num, (V9.out.set k mk hlt).congr (fun j _ => g2F_set T n k mk j), grown_trans G9.out (grown_set _ _ _ _)⟩
              case measure => simp [intOf]; omega
          · obtain rfl : k = n + 80 := by omega
            have hs7 : w6.heap.size ≤ wr.heap.size := hGr.out.size
            have HR7 : Hid (Up wr G v6 S1) := HR6.out.same hs7 (hGr.out.block G hs6 (fun e => by cases e; omega)) (fun q h => hGr.out.block q (HN6.out q h).2.2 (fun e => by cases e; exact (HN6.out _ h).2.1 rfl))
            have HB7 : Hid (Below w.heap.size w wr) := HB6.out.trans (grown_below hGr.out hwQ (by omega))
            clear hV hGr HR6 HB6
            go_wp2_with fail
            refine (HCL.out G v6 wr HR7.out).mono ?_
            rintro e w8 ⟨rfl, v8, R8, M8⟩
            have HR8 : Hid (Up (w8.alloc (.cells #[.int .i64 0, .int .i64 0] 27)) G v8 S1.shut) := R8.alloc _
            have HB8 : Hid (Below w.heap.size w (w8.alloc (.cells #[.int .i64 0, .int .i64 0] 27))) := (HB7.out.trans (M8.keeps w.heap.size HB7.out.size hwG (fun q h => (HN6.out q h).1))).alloc (Nat.le_trans HB7.out.size M8.size) _
            have HN8 : Hid (∀ q, v8.ownBlock = some q → w.heap.size ≤ q) := fun q h => (M8.new q h).elim (fun e => (HN6.out q e).1) (fun e => Nat.le_trans HB7.out.size e)
            have q8 : Hid (St (w8.alloc (.cells #[.int .i64 0, .int .i64 0] 27)) w8.heap.size [.int .i64 0, .int .i64 0]) := St.new w8 _ _
            have nG8 : Hid (w8.heap.size ≠ G ∧ v8.ownBlock ≠ some w8.heap.size) := R8.newBlock _ (Nat.le_refl _)
            clear R8 M8 HCL
            go_wp2_with fail
            generalize w8.alloc (.cells #[.int .i64 0, .int .i64 0] 27) = w9 at HR8 HB8 q8 ⊢
            refine (HCL2.out G v8 w9 HR8.out).mono ?_
            rintro e w10 ⟨rfl, v10, R10, M10⟩
            have q10 : Hid (St w10 w8.heap.size [.int .i64 0, .int .i64 0]) := q8.out.same M10.size (M10.block _ q8.out.lt nG8.out.1 nG8.out.2)
            have HB10 : Hid (Below w.heap.size w w10) := HB8.out.trans (M10.keeps w.heap.size HB8.out.size hwG HN8.out)
            have c0 := q10.out.get 0 _ rfl
            have c1 := q10.out.get 1 _ rfl
            have lt10 := q10.out.lt
            have HBS : Hid (w.heap.size ≤ w10.heap.size) := HB10.out.size
            clear R10 M10 HCL2
            go_wp2
            go_ret
            exact ⟨rfl, HB10.out.alloc HBS.out _⟩

end Go.Proofs.Ythjpmiidbgaiaab
