/- The law WireKeeps, walked. -/
import Derived.Test.YtjlbbnjcdickgabWkA
namespace Go.Proofs.Ytjlbbnjcdickgab
open Go.RowKit

/-- The bytes, then marks up to k, then noughts. -/
def g1F (T : ByteArray) (n k : Nat) (mk : Int) (j : Nat) : Int := if j < n then bt T j else if j < k then mk else 0
/-- Marks up to k; then the bytes, then marks. -/
def g2F (T : ByteArray) (n k : Nat) (mk : Int) (j : Nat) : Int := if j < k then mk else if j < n then bt T j else mk
theorem g1F_set (T : ByteArray) (n k : Nat) (mk : Int) (h : n ≤ k) (j : Nat) : (if j = k then mk else g1F T n k mk j) = g1F T n (k + 1) mk j := by
  unfold g1F
  by_cases e : j = k
  · rw [if_pos e, if_neg (by omega), if_pos (by omega)]
  · rw [if_neg e]
    by_cases h1 : j < n
    · rw [if_pos h1, if_pos h1]
    · rw [if_neg h1, if_neg h1]
      by_cases h2 : j < k
      · rw [if_pos h2, if_pos (by omega)]
      · rw [if_neg h2, if_neg (by omega)]
theorem g2F_set (T : ByteArray) (n k : Nat) (mk : Int) (j : Nat) : (if j = k then mk else g2F T n k mk j) = g2F T n (k + 1) mk j := by
  unfold g2F
  by_cases e : j = k
  · rw [if_pos e, if_pos (by omega)]
  · rw [if_neg e]
    by_cases h1 : j < k
    · rw [if_pos h1, if_pos (by omega)]
    · rw [if_neg h1, if_neg (show ¬ j < k + 1 by omega)]
theorem grown_trans {a b c : World} {o : Option Nat} (h : a.grownBy b o) (k : b.grownBy c o) : a.grownBy c o :=
  ⟨k.os.trans h.os, k.tape.trans h.tape, k.output.trans h.output, Nat.le_trans h.size k.size, fun i hi ho => (k.block i (Nat.lt_of_lt_of_le hi h.size) ho).trans (h.block i hi ho)⟩
theorem grown_below {a b : World} {g B : Nat} (h : a.grownBy b (some g)) (hB : B ≤ g) (hs : B ≤ a.heap.size) : Below B a b := ⟨h.os, h.tape, h.output, h.size, fun i hi => h.block i (by omega) (fun e => by cases e; omega)⟩
theorem grown_refl (a : World) (o : Option Nat) : a.grownBy a o := ⟨rfl, rfl, rfl, Nat.le_refl _, fun _ _ _ => rfl⟩
theorem grown_set (a : World) (g j : Nat) (x : Value) : a.grownBy (a.setCell ⟨g, j, none⟩ x) (some g) := ⟨rfl, rfl, rfl, by simp, fun i _ ho => Below.heap_setCell a _ _ i (fun e => ho (by rw [e]))⟩

theorem field_code (a b : Value) (w : World) : (Instr.field 29 (.agg #[a, b]) 0).run Try.prog w = .ok a w := by
  simp [Instr.field, run_underlying Try.underlying29, asAgg, part, isAgg, run_underlying Try.underlying27]
def mineB : ByteArray := ⟨#[109, 105, 110, 101]⟩
def yourB : ByteArray := ⟨#[121, 111, 117, 114, 115]⟩
/-- The k-th item's text, the first k written over. -/
def kM (l : List UInt8) (b : ByteArray) (k : Nat) : List Value := [.bool false, .int .u64 0, .string (if 0 < k then b else ba l), .bool false, .int .u64 0, .string (if 1 < k then b else ba (l ++ [120]))]
def kX (l : List UInt8) (b : ByteArray) (k : Nat) : ByteArray := if k = 0 then ba l else if k = 1 then ba (l ++ [120]) else b
theorem kM_at (l : List UInt8) (b : ByteArray) (k : Nat) (h : k < 2) : (kM l b k)[k * 3 + 2]? = some (.string (kX l b k)) := by
  rcases (show k = 0 ∨ k = 1 by omega) with rfl | rfl <;> rfl
theorem kM_set (l : List UInt8) (b : ByteArray) (k : Nat) (h : k < 2) : (kM l b k).set (k * 3 + 2) (.string b) = kM l b (k + 1) := by
  rcases (show k = 0 ∨ k = 1 by omega) with rfl | rfl <;> rfl

set_option maxHeartbeats 8000000 in
set_option maxRecDepth 8000 in
theorem keeps_walk (l : List UInt8) (mk : Int) (w : World) (hl : l.length ≤ 1048576) :
    Calls Try.prog 5 #[.string (ba l), .int .u8 mk] w fun e w' => e = .returned (.bool true) ∧ Below w.heap.size w w' := by
  have hls := ba_size l
  obtain ⟨K1, K2, K3⟩ := keep_pure l hl
  have hKL := kT_len l
  have p1 := padN_lt l.length
  have p2 := padN_lt (l.length + 1)
  obtain ⟨n, hn⟩ : ∃ n, (kT l).length = n := ⟨_, rfl⟩
  rw [hn] at hKL
  have hnb : n ≤ 4194304 := by omega
  have hTs : (ba (kT l)).size = n := by rw [ba_size]; exact hn
  have h1s : (ba (fr8 l)).size ≤ 4194304 := by rw [ba_size, fr8_len]; omega
  have h2s : (ba (fr8 (l ++ [120]))).size ≤ 4194304 := by rw [ba_size, fr8_len, List.length_append]; have : [120].length = 1 := rfl; have e : l.length + ([120] : List UInt8).length = l.length + 1 := rfl; rw [e]; omega
  have hcat : ba (fr8 l) ++ ba (fr8 (l ++ [120])) = ba (kT l) := by unfold kT; rw [ba_append]
  have hx : ba l ++ ⟨#[120]⟩ = ba (l ++ [120]) := by rw [ba_append]; rfl
  have HTC : Hid (∀ w, Calls Try.prog 10 #[.string (ba (l ++ [120]))] w fun e w' => e = .returned (.string (ba (fr8 (l ++ [120])))) ∧ Below w.heap.size w w') := fun w => by
    have h := text_any (ba (l ++ [120])) w (by rw [ba_size]; simp; omega)
    rw [txt_ba] at h
    exact h
  have HTA : Hid (∀ w, Calls Try.prog 10 #[.string (ba l)] w fun e w' => e = .returned (.string (ba (fr8 l))) ∧ Below w.heap.size w w') := fun w => by
    have h := text_any (ba l) w (by rw [ba_size]; omega)
    rw [txt_ba] at h
    exact h
  have HMK : Hid (∀ w : World, (Instr.makeSlice 32 (.int .i64 ((n : Int) + 80)) (.int .i64 ((n : Int) + 80))).run Try.prog w = .ok (.slice (some ⟨w.heap.size, 0, none⟩) (n + 80) (n + 80)) (w.alloc (.cells (madeCells (Value.int .u8 0).cells (n + 80)) 5))) := fun w => by
    have h := make_bytes w (n + 80) (by omega)
    rw [show (((n + 80 : Nat)) : Int) = (n : Int) + 80 by omega] at h
    exact h
  have HFC : Hid (∀ (G Q c : Nat) (v : Value) (s : RS) (w : World), Rd w G v s → (s.off = true ∨ s.Inv) → PSl w G v (some ⟨Q, 0, none⟩) (kT l) → s.tk ≤ 8388608 → Calls Try.prog 12 #[.pointer (some ⟨G, 0, none⟩), .slice (some ⟨Q, 0, none⟩) n c] w fun e w' => ∃ v' r L, e = .returned r ∧ Rd w' G v' (s.run (kT l)) ∧ ((s.run (kT l)).off = true ∨ (s.run (kT l)).Inv) ∧ Mv w w' G v v' ∧ OwnI w' w.heap.size r L ∧ (s.run (kT l)).out = s.out ++ L ∧ (∀ k, r.ownBlock = some k → v'.ownBlock ≠ some k)) := fun G Q c v s w R hI hX ht => by
    have h := feed_any G v s (some ⟨Q, 0, none⟩) c (kT l) w R hI hX (by rw [hn]; omega)
    rw [hn] at h
    exact h
  have HNC : Hid (∀ w : World, Calls Try.prog 11 #[.string ⟨#[116, 116, 116, 116]⟩, .int .i64 ((l.length : Int) + 1)] w fun e w' => e = .returned (.pointer (some ⟨w.heap.size, 0, none⟩)) ∧ Rd w' w.heap.size (.slice none 0 0) (rsNew [116, 116, 116, 116] (l.length + 1)) ∧ Below w.heap.size w w') := fun w => by
    have h := newReader_any [116, 116, 116, 116] ((l.length : Int) + 1) w (by decide) (by omega)
    rw [show ((l.length : Int) + 1).toNat = l.length + 1 by omega] at h
    exact h
  have HI0 : Hid ((rsNew [116, 116, 116, 116] (l.length + 1)).off = true ∨ (rsNew [116, 116, 116, 116] (l.length + 1)).Inv) := rsNew_ok _ _ (by omega)
  have HT0 : Hid ((rsNew [116, 116, 116, 116] (l.length + 1)).tk = 0 ∧ (rsNew [116, 116, 116, 116] (l.length + 1)).out = []) := rsNew_tk _ _
  have HTK : Hid (∀ s : RS, (s.run (kT l)).tk ≤ s.tk + n) := fun s => by have := RS.run_tk s (kT l); rw [hn] at this; exact this
  have HPS : Hid (∀ (w : World) (G Q m : Nat) (v : Value) (F : Nat → Int), Row .u8 w Q m F → n ≤ m → Q ≠ G → v.ownBlock ≠ some Q → Q < w.heap.size → (∀ j, j < n → F j = bt (ba (kT l)) j) → PSl w G v (some ⟨Q, 0, none⟩) (kT l)) := fun w G Q m v F V hm h1 h2 h3 hF => .inr ⟨Q, 0, rfl, h1, h2, h3, fun j hj => by
    rw [Nat.zero_add, V.cell j (by omega), hF j (by omega), bt_ba _ _ hj]⟩
  clear p1 p2 hKL
  generalize rsNew [116, 116, 116, 116] (l.length + 1) = S0 at *
  have HK1 : Hid ((S0.run (kT l)).out = kI l) := K1
  have HK2 : Hid (((S0.run (kT l)).run (kT l)).out = kI l ++ kI l) := K2
  have HK3 : Hid (((S0.run (kT l)).run (kT l)).shut.code = 0) := K3
  have HCS : Hid (∀ (w : World) (g : Nat) (z : Nat → Int) (ty : TypeId), Row .u8 w g (n + 80) z → ∃ w', (Builtin.copy_ #[32, 9] ty #[.slice (some ⟨g, 0, none⟩) (n + 80) (n + 80), .string (ba (kT l))]).run Try.prog w = .ok (goInt n) w' ∧ Row .u8 w' g (n + 80) (fun j => if j < n then bt (ba (kT l)) j else z j) ∧ w.grownBy w' (some g)) := fun w g z ty V => by
    have h := copy_str w g (n + 80) z (ba (kT l)) ty V (by omega)
    rw [hTs] at h
    exact h
  obtain ⟨S1, hS1⟩ : ∃ S1, S0.run (kT l) = S1 := ⟨_, rfl⟩
  rw [hS1] at HK1 HK2 HK3
  obtain ⟨S2, hS2⟩ : ∃ S2, S1.run (kT l) = S2 := ⟨_, rfl⟩
  rw [hS2] at HK2 HK3
  have HS1 : Hid (S0.run (kT l) = S1) := hS1
  have HS2 : Hid (S1.run (kT l) = S2) := hS2
  clear hS1 hS2
  generalize ba (fr8 (l ++ [120])) = T2 at *
  generalize ba (fr8 l) = T1 at *
  generalize ba (kT l) = T at *
  clear K1 K2 K3 hn
  go_enter Try.func5, Try.ntmps5
  go_wp2_with fail
  refine (awake_any w).mono ?_
  rintro e w0 ⟨rfl, b0⟩
  go_wp2_with fail
  refine (HTA.out _).mono ?_
  rintro e w1 ⟨rfl, b1⟩
  go_wp2_with fail
  refine (HTC.out _).mono ?_
  rintro e w2 ⟨rfl, b2⟩
  have B2 : Hid (Below w.heap.size w w2) := (b0.trans (b1.mono b0.size)).trans (b2.mono (by have := b0.size; have := b1.size; omega))
  clear b0 b1 b2 HTA HTC
  go_wp2_with fail
  rw [HMK.out]
  have V3 : Hid (Row .u8 (w2.alloc (.cells (madeCells (Value.int .u8 0).cells (n + 80)) 5)) w2.heap.size (n + 80) (fun _ => 0)) := Row.made rfl
  have B3 : Hid (Below w.heap.size w (w2.alloc (.cells (madeCells (Value.int .u8 0).cells (n + 80)) 5))) := B2.out.alloc B2.out.size _
  have hQ : w2.heap.size < (w2.alloc (.cells (madeCells (Value.int .u8 0).cells (n + 80)) 5)).heap.size := by rw [World.size_alloc]; omega
  have hwQ : w.heap.size ≤ w2.heap.size := B2.out.size
  generalize w2.alloc (.cells (madeCells (Value.int .u8 0).cells (n + 80)) 5) = w3 at *
  generalize w2.heap.size = Q at *
  clear B2 HMK
  go_wp2_with fail
  obtain ⟨w4, hcp, V4, G4⟩ := HCS.out w3 Q _ 3 V3.out
  rw [hcp]
  clear hcp
  have HV4 : Hid (Row .u8 w4 Q (n + 80) (g1F T n n mk)) := V4.congr (fun j _ => by unfold g1F; by_cases e : j < n; rw [if_pos e, if_pos e]; rw [if_neg e, if_neg e, if_neg e])
  have B4 : Hid (Below w.heap.size w w4) := B3.out.trans (grown_below G4 hwQ (by omega))
  have hQ4 : Q < w4.heap.size := by have := G4.size; omega
  clear V4 G4 V3 B3 hQ
  go_wp2
  go_loopw [7] (fun ix wr => ∃ k : Nat, n ≤ k ∧ k ≤ n + 80 ∧ ix = .int .i64 k ∧ Hid (Row .u8 wr Q (n + 80) (g1F T n k mk)) ∧ Hid (Below w.heap.size w wr ∧ Q < wr.heap.size)) (fun i _ => n + 80 - (intOf i).toNat)
  case atStart => exact ⟨n, Nat.le_refl _, by omega, rfl, HV4, B4.out, hQ4⟩
  case round =>
    clear HV4 B4 hQ4
    obtain ⟨k, hk0, hk, rfl, hV, hB⟩ := hrel
    by_cases hlt : k < n + 80
    · have d0 := hV.out.cell k hlt
      have z0 := hV.out.free k hlt
      go_wp2
      go_roundw
      case rel => exact ⟨k + 1, by omega, by omega, by go_num, (hV.out.set k mk hlt).congr (fun j _ => g1F_set T n k mk hk0 j), hB.out.1.setCell hwQ _, by simpa using hB.out.2⟩
      case measure => simp [intOf]; omega
    · obtain rfl : k = n + 80 := by omega
      go_wp2_with fail
      refine (HNC.out _).mono ?_
      rintro e w5 ⟨rfl, R5, b5⟩
      have hG : Q < wr.heap.size := hB.out.2
      have HR5 : Hid (Rd w5 wr.heap.size (.slice none 0 0) S0) := R5
      have HV5 : Hid (Row .u8 w5 Q (n + 80) (g1F T n (n + 80) mk)) := hV.out.below b5 hG
      have HB5 : Hid (Below w.heap.size w w5) := hB.out.1.trans (b5.mono hB.out.1.size)
      have hwG : w.heap.size ≤ wr.heap.size := hB.out.1.size
      have hG5 : wr.heap.size < w5.heap.size := R5.lt
      clear R5 b5 hV hB HNC
      generalize wr.heap.size = G at *
      go_wp2_with fail
      refine (HFC.out G Q (n + 80) (.slice none 0 0) S0 w5 HR5.out HI0.out (HPS.out w5 G Q (n + 80) _ _ HV5.out (by omega) (by omega) (by simp [Value.ownBlock]) (by omega) (fun j hj => by unfold g1F; rw [if_pos hj])) (by rw [HT0.out.1]; omega)).mono ?_
      rintro e w6 ⟨v6, r1, L1, rfl, R6, I6, M6, O6, hO6, N6⟩
      rw [HS1.out] at R6 I6 hO6
      rw [HT0.out.2, List.nil_append, HK1.out] at hO6
      subst hO6
      have hQG : Q ≠ G := by omega
      have HV6 : Hid (Row .u8 w6 Q (n + 80) (g2F T n 0 mk)) := (HV5.out.same (M6.block Q (by omega) hQG (by simp [Value.ownBlock]))).congr (fun j hj => by unfold g1F g2F; rw [if_neg (show ¬ j < 0 by omega)]; by_cases e : j < n; rw [if_pos e, if_pos e]; rw [if_neg e, if_neg e, if_pos hj])
      have HB6 : Hid (Below w.heap.size w w6) := HB5.out.trans (M6.keeps w.heap.size (by omega) hwG (fun k h => by cases h))
      obtain ⟨ga, ca, hr1, hgaB, hgaL⟩ : ∃ g c, r1 = .slice (some ⟨g, 0, none⟩) 2 c ∧ w5.heap.size ≤ g ∧ g < w6.heap.size := by
        rcases O6.open with ⟨_, h⟩ | ⟨g, cap, h, h2, h3, _⟩
        · cases h
        · exact ⟨g, cap, h, h2, h3⟩
      subst hr1
      have HR6 : Hid (Rd w6 G v6 S1) := R6
      have HI6 : Hid (S1.off = true ∨ S1.Inv) := I6
      have HO6 : Hid (w6.ownsRow 0 41 3 (.slice (some ⟨ga, 0, none⟩) 2 ca) 2 ((kI l).flatMap itC)) := O6.mono (Nat.zero_le _)
      have HN6 : Hid (∀ q, v6.ownBlock = some q → w.heap.size ≤ q ∧ q ≠ Q ∧ q ≠ ga ∧ q < w6.heap.size) := fun q h => ⟨(M6.new q h).elim (fun e => by cases e) (fun e => by omega), (M6.new q h).elim (fun e => by cases e) (fun e => by omega), fun e => N6 ga rfl (e ▸ h), (R6.buf.lt q h).2⟩
      have HTK1 : Hid (S1.tk ≤ n) := by have := HTK.out S0; rw [HT0.out.1, HS1.out] at this; unfold Hid; omega
      have hs6 : G < w6.heap.size := R6.lt
      have hga1 : G < ga ∧ Q < ga ∧ w.heap.size ≤ ga := by omega
      clear R6 I6 M6 O6 N6 HR5 HV5 HB5 hgaB
      go_wp2
      go_loopw [10, 55] (fun _ ix wr => ∃ k : Nat, k ≤ n + 80 ∧ ix = .int .i64 k ∧ Hid (Row .u8 wr Q (n + 80) (g2F T n k mk)) ∧ Hid (w6.grownBy wr (some Q))) (fun _ i _ => n + 80 - (intOf i).toNat)
      case atStart => exact ⟨0, Nat.zero_le _, rfl, HV6, grown_refl _ _⟩
      case round =>
        clear HV6
        obtain ⟨k, hk, rfl, hV, hGr⟩ := hrel
        by_cases hlt : k < n + 80
        · have z0 := hV.out.free k hlt
          have hgb := get_bt T
          by_cases hkn : k < n
          · have d0 : wr.cell? ⟨Q, k, none⟩ = some (.int .u8 (bt T k)) := by rw [hV.out.cell k hlt]; unfold g2F; rw [if_neg (Nat.lt_irrefl _), if_pos hkn]
            have e1 : decide (k < n) = true := by simpa using hkn
            have e2 : decide (n ≤ k) = false := by simp; omega
            have e3 : decide ((k : Int) < (n : Int)) = true := by simpa using hkn
            have e4 : decide ((n : Int) ≤ (k : Int)) = false := by simp; omega
            have i1 : (k : Int) < (n : Int) := by omega
            have i2 : (k : Int) < (n : Int) + 80 := by omega
            have i3 : (0 : Int) ≤ (k : Int) := by omega
            go_wp2
            go_quiet (fail)
            have V9 : Hid (Row .u8 (wr.drewN nq) Q (n + 80) (g2F T n k mk)) := hV.out.drewN _
            have G9 : Hid (w6.grownBy (wr.drewN nq) (some Q)) := ⟨hGr.out.os, hGr.out.tape, hGr.out.output, hGr.out.size, hGr.out.block⟩
            have d9 : (wr.drewN nq).cell? ⟨Q, k, none⟩ = some (.int .u8 (bt T k)) := d0
            have z9 : (wr.drewN nq).frozen? ⟨Q, k, none⟩ = false := z0
            generalize wr.drewN nq = w9 at *
            go_wp2
            go_roundw
            case rel => exact ⟨k + 1, by omega, by go_num, (V9.out.set k mk hlt).congr (fun j _ => g2F_set T n k mk j), grown_trans G9.out (grown_set _ _ _ _)⟩
            case measure => simp [intOf]; omega
          · have d0 : wr.cell? ⟨Q, k, none⟩ = some (.int .u8 mk) := by rw [hV.out.cell k hlt]; unfold g2F; rw [if_neg (Nat.lt_irrefl _), if_neg hkn]
            have e1 : decide (k < n) = false := by simpa using hkn
            have e2 : decide (n ≤ k) = true := by simp; omega
            have e3 : decide ((k : Int) < (n : Int)) = false := by simp; omega
            have e4 : decide ((n : Int) ≤ (k : Int)) = true := by simp; omega
            have i1 : (n : Int) ≤ (k : Int) := by omega
            have i2 : (k : Int) < (n : Int) + 80 := by omega
            have i3 : (0 : Int) ≤ (k : Int) := by omega
            go_wp2
            go_quiet (fail)
            have V9 : Hid (Row .u8 (wr.drewN nq) Q (n + 80) (g2F T n k mk)) := hV.out.drewN _
            have G9 : Hid (w6.grownBy (wr.drewN nq) (some Q)) := ⟨hGr.out.os, hGr.out.tape, hGr.out.output, hGr.out.size, hGr.out.block⟩
            have d9 : (wr.drewN nq).cell? ⟨Q, k, none⟩ = some (.int .u8 mk) := d0
            have z9 : (wr.drewN nq).frozen? ⟨Q, k, none⟩ = false := z0
            generalize wr.drewN nq = w9 at *
            go_wp2
            go_roundw
            case rel => exact ⟨k + 1, by omega, by go_num, (V9.out.set k mk hlt).congr (fun j _ => g2F_set T n k mk j), grown_trans G9.out (grown_set _ _ _ _)⟩
            case measure => simp [intOf]; omega
        · obtain rfl : k = n + 80 := by omega
          go_wp2_with fail
          obtain ⟨w7, hcp, V7, G7⟩ := HCS.out wr Q _ 3 hV.out
          rw [hcp]
          have G67 : Hid (w6.grownBy w7 (some Q)) := grown_trans hGr.out G7
          have HV7 : Hid (Row .u8 w7 Q (n + 80) (fun j => if j < n then bt T j else g2F T n (n + 80) mk j)) := V7
          have hs7 : w6.heap.size ≤ w7.heap.size := G67.out.size
          have HR7 : Hid (Rd w7 G v6 S1) := HR6.out.same hs7 (G67.out.block G hs6 (fun e => by cases e; omega)) (fun q h => G67.out.block q (HN6.out q h).2.2.2 (fun e => by cases e; exact (HN6.out _ h).2.1 rfl))
          have HO7 : Hid (w7.ownsRow 0 41 3 (.slice (some ⟨ga, 0, none⟩) 2 ca) 2 ((kI l).flatMap itC)) := HO6.out.kept G67.out (.inr (by show some ga ≠ some Q; intro e; cases e; omega))
          have HB7 : Hid (Below w.heap.size w w7) := HB6.out.trans (grown_below G67.out hwQ (by omega))
          clear hcp V7 G7 hV hGr G67 HR6 HO6 HB6
          go_wp2_with fail
          refine (HFC.out G Q (n + 80) v6 S1 w7 HR7.out HI6.out (HPS.out w7 G Q (n + 80) _ _ HV7.out (by omega) (by omega) (fun h => (HN6.out Q h).2.1 rfl) (by omega) (fun j hj => by rw [if_pos hj])) (by have := HTK1.out; omega)).mono ?_
          rintro e w8 ⟨v8, r2, L2, rfl, R8, I8, M8, O8, hO8, N8⟩
          rw [HS2.out] at R8 I8 hO8
          have hL2 : kI l = L2 := by
            rw [HK2.out, HK1.out] at hO8
            exact List.append_cancel_left hO8
          subst hL2
          obtain ⟨gb, cb, hr2, hgbB, hgbL⟩ : ∃ g c, r2 = .slice (some ⟨g, 0, none⟩) 2 c ∧ w7.heap.size ≤ g ∧ g < w8.heap.size := by
            rcases O8.open with ⟨_, h⟩ | ⟨g, cap, h, h2, h3, _⟩
            · cases h
            · exact ⟨g, cap, h, h2, h3⟩
          subst hr2
          have hgab : ga ≠ gb := by omega
          have hga8 : ga < w8.heap.size := by omega
          have hgab' : gb ≠ ga := fun e => hgab e.symm
          have hgb1 : G < gb ∧ w.heap.size ≤ gb := by have := HB7.out.size; omega
          have HA8 : Hid (w8.ownsRow 0 41 3 (.slice (some ⟨ga, 0, none⟩) 2 ca) 2 ((kI l).flatMap itC)) := OwnI.same (L := kI l) HO7.out (fun q hq => by
            have e : ga = q := by simpa [Value.ownBlock] using hq
            subst e
            exact M8.block ga (by omega) (by omega) (fun h => (HN6.out _ h).2.2.1 rfl))
          have HB8 : Hid (w8.ownsRow 0 41 3 (.slice (some ⟨gb, 0, none⟩) 2 cb) 2 ((kI l).flatMap itC)) := O8.mono (Nat.zero_le _)
          have HN8 : Hid (∀ q, v8.ownBlock = some q → w.heap.size ≤ q ∧ q ≠ ga ∧ q ≠ gb ∧ q < w8.heap.size) := fun q h => ⟨(M8.new q h).elim (fun e => (HN6.out q e).1) (fun e => by have := HB7.out.size; omega), (M8.new q h).elim (fun e => (HN6.out q e).2.2.1) (fun e => by omega), fun e => N8 gb rfl (e ▸ h), (R8.buf.lt q h).2⟩
          have HR8 : Hid (Rd w8 G v8 S2) := R8
          have HW8 : Hid (Below w.heap.size w w8) := HB7.out.trans (M8.keeps w.heap.size HB7.out.size hwG (fun q h => (HN6.out q h).1))
          have hG8 : G < w8.heap.size := R8.lt
          clear R8 I8 M8 O8 hO8 N8 HR7 HO7 HB7 HV7 hs7 HFC HPS HCS HTK HTK1 HN6 HI6 HT0 HI0
          have a2 : w8.cell? ⟨ga, 2, none⟩ = some (.string (ba l)) := (HA8.out.cellAt 2 (by decide)).trans rfl
          have a5 : w8.cell? ⟨ga, 5, none⟩ = some (.string (ba (l ++ [120]))) := (HA8.out.cellAt 5 (by decide)).trans rfl
          have c2 : w8.cell? ⟨gb, 2, none⟩ = some (.string (ba l)) := (HB8.out.cellAt 2 (by decide)).trans rfl
          have c5 : w8.cell? ⟨gb, 5, none⟩ = some (.string (ba (l ++ [120]))) := (HB8.out.cellAt 5 (by decide)).trans rfl
          go_wp2
          clear a2 a5 c2 c5
          go_loopw [12, 144] (fun _ ix wr => ∃ k : Nat, k ≤ 2 ∧ ix = .int .i64 k ∧ Hid (w8.grownBy wr (some ga)) ∧ Hid (wr.ownsRow 0 41 3 (.slice (some ⟨ga, 0, none⟩) 2 ca) 2 (kM l mineB k))) (fun _ i _ => 2 - (intOf i).toNat)
          case atStart => exact ⟨0, Nat.zero_le _, rfl, grown_refl _ _, HA8⟩
          case round =>
            clear HA8
            obtain ⟨k, hk, rfl, hGr, hOw⟩ := hrel
            by_cases hlt : k < 2
            · have d2 : wr.cell? ⟨ga, k * 3 + 2, none⟩ = some (.string (kX l mineB k)) := (hOw.out.cellAt (k * 3 + 2) (by omega)).trans (kM_at l mineB k hlt)
              have z2 := hOw.out.frozenAt (k * 3 + 2)
              have st := hOw.out.stored (k * 3 + 2) (.string mineB)
              rw [kM_set l mineB k hlt] at st
              have S1' : Hid _ := st.1
              have S2' : Hid _ := st.2
              clear st
              unfold mineB at S1' S2'
              go_wp2
              go_roundw
              case rel => exact ⟨k + 1, by omega, by go_num, grown_trans hGr.out S2'.out, S1'⟩
              case measure => simp [intOf]; omega
            · obtain rfl : k = 2 := by omega
              have HA9 := hOw
              have HB9 : Hid (wr.ownsRow 0 41 3 (.slice (some ⟨gb, 0, none⟩) 2 cb) 2 (kM l yourB 0)) := HB8.out.kept hGr.out (.inr (by show some gb ≠ some ga; intro e; cases e; omega))
              have HR9 : Hid (Rd wr G v8 S2) := HR8.out.same hGr.out.size (hGr.out.block G hG8 (fun e => by cases e; omega)) (fun q h => hGr.out.block q (HN8.out q h).2.2.2 (fun e => by cases e; exact (HN8.out _ h).2.1 rfl))
              have HW9 : Hid (Below w.heap.size w wr) := HW8.out.trans (grown_below hGr.out (by omega) HW8.out.size)
              have hs9 : w8.heap.size ≤ wr.heap.size := hGr.out.size
              clear hOw hGr HB8 HR8 HW8
              obtain ⟨w9, hw9⟩ : ∃ w9, w9 = wr := ⟨_, rfl⟩
              rw [← hw9] at HA9 HB9 HR9 HW9 hs9 ⊢
              clear hw9
              go_wp2
              go_loopw [13, 154] (fun _ ix wr => ∃ k : Nat, k ≤ 2 ∧ ix = .int .i64 k ∧ Hid (w9.grownBy wr (some gb)) ∧ Hid (wr.ownsRow 0 41 3 (.slice (some ⟨gb, 0, none⟩) 2 cb) 2 (kM l yourB k))) (fun _ i _ => 2 - (intOf i).toNat)
              case atStart => exact ⟨0, Nat.zero_le _, rfl, grown_refl _ _, HB9⟩
              case round =>
                clear HB9
                obtain ⟨k, hk, rfl, hGr, hOw⟩ := hrel
                by_cases hlt : k < 2
                · have d2 : wr.cell? ⟨gb, k * 3 + 2, none⟩ = some (.string (kX l yourB k)) := (hOw.out.cellAt (k * 3 + 2) (by omega)).trans (kM_at l yourB k hlt)
                  have z2 := hOw.out.frozenAt (k * 3 + 2)
                  have st := hOw.out.stored (k * 3 + 2) (.string yourB)
                  rw [kM_set l yourB k hlt] at st
                  have S1' : Hid _ := st.1
                  have S2' : Hid _ := st.2
                  clear st
                  unfold yourB at S1' S2'
                  go_wp2
                  go_roundw
                  case rel => exact ⟨k + 1, by omega, by go_num, grown_trans hGr.out S2'.out, S1'⟩
                  case measure => simp [intOf]; omega
                · obtain rfl : k = 2 := by omega
                  have HAw : Hid (wr.ownsRow 0 41 3 (.slice (some ⟨ga, 0, none⟩) 2 ca) 2 (kM l mineB 2)) := HA9.out.kept hGr.out (.inr (by show some ga ≠ some gb; intro e; cases e; omega))
                  have HRw : Hid (Rd wr G v8 S2) := HR9.out.same hGr.out.size (hGr.out.block G (by omega) (fun e => by cases e; omega)) (fun q h => hGr.out.block q (by have := (HN8.out q h).2.2.2; omega) (fun e => by cases e; exact (HN8.out _ h).2.2.1 rfl))
                  have HWw : Hid (Below w.heap.size w wr) := HW9.out.trans (grown_below hGr.out (by omega) HW9.out.size)
                  have hsw : w9.heap.size ≤ wr.heap.size := hGr.out.size
                  obtain ⟨i0, hi, hz0, hz1, hz2⟩ := info_parts info_it
                  have hnews : ∀ j u, (kM l yourB 2)[j]? = some u → wr.cell? ((⟨gb, 0, none⟩ : Addr).add j) = some u := hOw.out.cells rfl
                  obtain ⟨gc, cc, wA, hap, oA, gA, hwA, hlA⟩ := run_append_lies (P := Try.prog) wr 22 22 0 41 i0 (.agg #[.bool false, .int .u64 0, .string ByteArray.empty]) 3 32 Try.underlying22 hi hz0 hz1 hz2 rfl (by decide) (.slice (some ⟨ga, 0, none⟩) 2 ca) 2 (kM l mineB 2) HAw.out ⟨gb, 0, none⟩ 2 cb (kM l yourB 2) rfl hnews (fun u hu => by simp [kM] at hu; rcases hu with rfl | rfl | rfl | rfl | rfl | rfl <;> rfl) (by decide) (by unfold maxLen; omega) (by omega) (Nat.zero_le _) wr.heap.size rfl
                  have HAP : Hid _ := hap
                  have gA' : Hid (wr.grownBy wA (some ga)) := gA
                  have HRA : Hid (Rd wA G v8 S2) := HRw.out.same gA'.out.size (gA'.out.block G (by omega) (fun e => by cases e; omega)) (fun q h => gA'.out.block q (by have := (HN8.out q h).2.2.2; omega) (fun e => by cases e; exact (HN8.out _ h).2.1 rfl))
                  have HWA : Hid (Below w.heap.size w wA) := HWw.out.trans (grown_below gA'.out (by omega) HWw.out.size)
                  have HOb : Hid (wA.ownsRow 0 41 3 (.slice (some ⟨gb, 0, none⟩) 2 cb) 2 (kM l yourB 2)) := hOw.out.kept gA'.out (.inr (by show some gb ≠ some ga; intro e; cases e; omega))
                  have m2 : wA.cell? ⟨gc, 2, none⟩ = some (.string ⟨#[109, 105, 110, 101]⟩) := (oA.cellAt 2 (by decide)).trans rfl
                  have m5 : wA.cell? ⟨gc, 5, none⟩ = some (.string ⟨#[109, 105, 110, 101]⟩) := (oA.cellAt 5 (by decide)).trans rfl
                  have y2 : wA.cell? ⟨gb, 2, none⟩ = some (.string ⟨#[121, 111, 117, 114, 115]⟩) := (HOb.out.cellAt 2 (by decide)).trans rfl
                  have y5 : wA.cell? ⟨gb, 5, none⟩ = some (.string ⟨#[121, 111, 117, 114, 115]⟩) := (HOb.out.cellAt 5 (by decide)).trans rfl
                  clear hap oA gA hwA hlA hnews HAw HRw HWw hOw hGr
                  go_wp2_with (at_builtin; refine wpList_append_li rfl _ _ rfl (.slice (some ⟨ga, 0, none⟩) 2 ca) (.slice (some ⟨gb, 0, none⟩) 2 cb) (.slice (some ⟨gc, 0, none⟩) 4 cc) wA rfl rfl HAP.out ?_)
                  go_wp2_with fail
                  refine (close_any G v8 S2 wA HRA.out).mono ?_
                  rintro e wZ ⟨vZ, rfl, RZ, MZ⟩
                  rw [HK3.out]
                  have HBZ : Hid (Below w.heap.size w wZ) := HWA.out.trans (MZ.keeps w.heap.size HWA.out.size hwG (fun q h => (HN8.out q h).1))
                  clear RZ MZ
                  have hfd := field_code (.int .i64 0) (.int .i64 (S2.shut.fat : Int)) wZ
                  go_wp2
                  go_ret
                  exact ⟨rfl, HBZ.out⟩

theorem keeps_walkF (s : ByteArray) (m : Int) (w : World) (hs : s.size ≤ 1048576) (_ : 0 ≤ m) (_ : m ≤ 255) :
    Calls Try.prog 5 #[.string s, .int .u8 m] w fun e w' => e = .returned (.bool true) ∧ Below w.heap.size w w' := by
  have h := keeps_walk s.data.toList m w (by rw [← ba_size, ba_list]; exact hs)
  rw [ba_list] at h
  exact h

end Go.Proofs.Ytjlbbnjcdickgab
