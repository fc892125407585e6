/- The document's chains (for PackWrites). -/
import Derived.Test.YthjpmiidbgaiaaaPwA
import Derived.Deep.LoopGhost
namespace Go.Proofs.Ythjpmiidbgaiaaa
open Go.RowKit

/-- Two bytes as a number. -/
def twoN (s : List UInt8) (i : Nat) : Nat := (s.getD i 0).toNat * 256 + (s.getD (i + 1) 0).toNat
def twoK (t : Nat) : List UInt8 := [UInt8.ofNat (t / 256), UInt8.ofNat (t % 256)]
theorem twoK_N (s : List UInt8) (i : Nat) : twoK (twoN s i) = twoAt s i := by
  have h0 := (s.getD i 0).toNat_lt
  have h1 := (s.getD (i + 1) 0).toNat_lt
  unfold twoK twoN twoAt
  rw [show ((s.getD i 0).toNat * 256 + (s.getD (i + 1) 0).toNat) / 256 = (s.getD i 0).toNat by omega, show ((s.getD i 0).toNat * 256 + (s.getD (i + 1) 0).toNat) % 256 = (s.getD (i + 1) 0).toNat by omega]
  simp
theorem twoN_lt (s : List UInt8) (i : Nat) : twoN s i < 65536 := by
  have h0 := (s.getD i 0).toNat_lt
  have h1 := (s.getD (i + 1) 0).toNat_lt
  unfold twoN
  omega
theorem twoK_inj (a b : Nat) (ha : a < 65536) (hb : b < 65536) (h : twoK a = twoK b) : a = b := by
  unfold twoK at h
  injection h with e0 h
  injection h with e1 h
  have f0 := congrArg UInt8.toNat e0
  have f1 := congrArg UInt8.toNat e1
  rw [UInt8.toNat_ofNat', UInt8.toNat_ofNat'] at f0 f1
  omega
/-- What heads hold ahead of place i. -/
def hdF (s : List UInt8) (i t : Nat) : Int := match lastTwo s (twoK t) i with | some p => (p : Int) + 1 | none => 0
/-- What prev holds of place j. -/
def pvF (s : List UInt8) (j : Nat) : Int := match prv s j with | some p => (p : Int) | none => -1
/-- prev, when the places ahead of i are done. -/
def pvI (s : List UInt8) (i j : Nat) : Int := if j < i then pvF s j else 0
theorem hdF_pv (s : List UInt8) (i : Nat) : hdF s i (twoN s i) - 1 = pvF s i := by
  unfold hdF pvF prv
  rw [twoK_N]
  cases lastTwo s (twoAt s i) i with
  | none => rfl
  | some p => show (p : Int) + 1 - 1 = p; omega
theorem hdF_bd (s : List UInt8) (i t : Nat) : 0 ≤ hdF s i t ∧ hdF s i t ≤ i := by
  unfold hdF
  cases h : lastTwo s (twoK t) i with
  | none => exact ⟨Int.le_refl _, by show (0 : Int) ≤ i; omega⟩
  | some p => have := (lastTwo_some h).1; dsimp only; omega
theorem hdF_set (s : List UInt8) (i : Nat) (hi : i + 1 < s.length) (t : Nat) (ht : t < 65536) : (if t = twoN s i then (i : Int) + 1 else hdF s i t) = hdF s (i + 1) t := by
  unfold hdF
  show _ = (match (if i + 1 < s.length ∧ twoAt s i = twoK t then some i else lastTwo s (twoK t) i) with | some p => (p : Int) + 1 | none => 0)
  by_cases e : t = twoN s i
  · rw [if_pos e, if_pos ⟨hi, by rw [e, twoK_N]⟩]
  · rw [if_neg e, if_neg (fun c => e (twoK_inj _ _ ht (twoN_lt s i) (by rw [twoK_N]; exact c.2.symm)))]

theorem info3' : (Try.prog.info? 3).map (fun i => (i.zero, i.size, i.bytes)) = some (some (.int .i64 0), 1, 8) := by kernel_rfl
theorem make_ints (w : World) (n : Nat) (hn : n ≤ 1073741824) : (Instr.makeSlice 55 (.int .i64 (n : Int)) (.int .i64 (n : Int))).run Try.prog w = .ok (.slice (some ⟨w.heap.size, 0, none⟩) n n) (w.alloc (.cells (madeCells (Value.int .i64 0).cells n) 3)) := by
  obtain ⟨i0, hi, hz0, hz1, hz2⟩ := info_parts info3'
  rw [run_make (P := Try.prog) w 55 3 i0 (.int .i64 0) Try.underlying55 hi hz0 .i64 .i64 _ _ (by omega) (by omega) (by rw [hz2]; omega) (by omega), Int.toNat_natCast, hz1, Nat.mul_one]

set_option maxHeartbeats 4000000 in
set_option maxRecDepth 10000 in
theorem chains_any (s : List UInt8) (w : World) (hs : s.length ≤ 1048576) :
    Calls Try.prog 28 #[.string (ba s)] w fun e w' => (∃ P, w.heap.size ≤ P ∧ e = .returned (.slice (some ⟨P, 0, none⟩) s.length s.length) ∧ Row .i64 w' P s.length (fun j => if j + 1 < s.length then pvF s j else 0) ∧ P < w'.heap.size) ∧ Below w.heap.size w w' := by
  have hsz := ba_size s
  have hgt : ∀ (n : Nat) (h : n < (ba s).size), (((ba s)[n]'h).toNat : Int) = bt (ba s) n := get_bt (ba s)
  have hBT : Hid (∀ i, i < s.length → bt (ba s) i = ((s.getD i 0).toNat : Int)) := bt_get s
  obtain ⟨N, hN⟩ : ∃ N : Nat, N = 65536 := ⟨_, rfl⟩
  have HN : Hid (N = 65536) := hN
  clear hN
  have HM1 : Hid (∀ w : World, (Instr.makeSlice 55 (.int .i64 65536) (.int .i64 65536)).run Try.prog w = .ok (.slice (some ⟨w.heap.size, 0, none⟩) N N) (w.alloc (.cells (madeCells (Value.int .i64 0).cells N) 3))) := fun w => by
    have h := make_ints w N (by have := HN.out; omega)
    rw [show ((N : Nat) : Int) = 65536 by have := HN.out; omega] at h
    exact h
  have HM2 : Hid (∀ w : World, (Instr.makeSlice 55 (.int .i64 (s.length : Int)) (.int .i64 (s.length : Int))).run Try.prog w = .ok (.slice (some ⟨w.heap.size, 0, none⟩) s.length s.length) (w.alloc (.cells (madeCells (Value.int .i64 0).cells s.length) 3))) := fun w => make_ints w s.length (by omega)
  go_enter Try.func28, Try.ntmps28
  go_wp2_with fail
  rw [HM1.out]
  have V1 : Row .i64 (w.alloc (.cells (madeCells (Value.int .i64 0).cells N) 3)) w.heap.size N (fun _ => 0) := Row.made rfl
  have B1 : Below w.heap.size w (w.alloc (.cells (madeCells (Value.int .i64 0).cells N) 3)) := (Below.refl _ _).alloc (Nat.le_refl _) _
  have L1 : w.heap.size < (w.alloc (.cells (madeCells (Value.int .i64 0).cells N) 3)).heap.size := by rw [World.size_alloc]; omega
  generalize w.alloc (.cells (madeCells (Value.int .i64 0).cells N) 3) = w1 at V1 B1 L1 ⊢
  have HV1 : Hid (Row .i64 w1 w.heap.size N (fun _ => 0)) := V1
  have HB1 : Hid (Below w.heap.size w w1) := B1
  have HL1 : Hid (w.heap.size < w1.heap.size) := L1
  clear V1 B1 L1 HM1
  go_wp2_with fail
  rw [HM2.out]
  have V2 : Hid (Row .i64 (w1.alloc (.cells (madeCells (Value.int .i64 0).cells s.length) 3)) w1.heap.size s.length (pvI s 0)) := (Row.made rfl).congr (fun j _ => by unfold pvI; rw [if_neg (Nat.not_lt_zero _)])
  have V3 : Hid (Row .i64 (w1.alloc (.cells (madeCells (Value.int .i64 0).cells s.length) 3)) w.heap.size N (hdF s 0)) := (HV1.out.alloc HL1.out _).congr (fun j _ => rfl)
  have B2 : Hid (Below w.heap.size w (w1.alloc (.cells (madeCells (Value.int .i64 0).cells s.length) 3)) ∧ w1.heap.size < (w1.alloc (.cells (madeCells (Value.int .i64 0).cells s.length) 3)).heap.size) := ⟨HB1.out.alloc HB1.out.size _, by rw [World.size_alloc]; omega⟩
  have hHP : w.heap.size ≠ w1.heap.size := by have := HL1.out; omega
  have hwP : Hid (w.heap.size ≤ w1.heap.size) := HB1.out.size
  generalize w1.alloc (.cells (madeCells (Value.int .i64 0).cells s.length) 3) = w2 at *
  generalize w1.heap.size = P at *
  clear HM2 HV1 HB1 HL1
  generalize hH : w.heap.size = H at *
  have HH : Hid (w.heap.size = H) := hH
  clear hH
  have hPH : P ≠ H := fun e => hHP e.symm
  go_wp2_with fail
  go_loopg [5, 6] s.length (fun gk ix _t wr => ∃ i : Nat, Hid (gk + i = s.length ∧ (i = 0 ∨ i + 1 ≤ s.length)) ∧ ix = .int .i64 i ∧ Hid (Row .i64 wr P s.length (pvI s i)) ∧ Hid (Row .i64 wr H N (hdF s i)) ∧ Hid (Below H w wr ∧ P < wr.heap.size))
  case atStart => exact ⟨0, ⟨rfl, .inl rfl⟩, rfl, V2, V3, B2⟩
  case round =>
    obtain ⟨i, hgk, rfl, hV, hU, hB⟩ := hrel
    clear V2 V3 B2
    by_cases hi : i + 1 < s.length
    · have x1 := hBT.out i (by omega)
      have x2 := hBT.out (i + 1) (by omega)
      have hT : ((s.getD i 0).toNat : Int) * 256 + ((s.getD (i + 1) 0).toNat : Int) = (twoN s i : Int) := by unfold twoN; omega
      have hTl := twoN_lt s i
      have hTN : twoN s i < N := by have := HN.out; omega
      have b0 := (s.getD i 0).toNat_lt
      have b1 := (s.getD (i + 1) 0).toNat_lt
      have hd := hdF_pv s i
      have hbd := hdF_bd s i (twoN s i)
      have HST : Hid (∀ t, t < 65536 → (if t = twoN s i then (i : Int) + 1 else hdF s i t) = hdF s (i + 1) t) := hdF_set s i hi
      have HPV : Hid (hdF s i (twoN s i) - 1 = pvF s i) := hd
      have hi' : (i : Int) + 1 < (s.length : Int) := by omega
      clear hd
      generalize s.getD i 0 = X at x1 hT b0
      generalize s.getD (i + 1) 0 = Y at x2 hT b1
      generalize hTT : twoN s i = T at *
      clear hTT
      go_wp2_with fail
      go_quiet (fail)
      have V9 : Hid (Row .i64 (wr.drewN nq) P s.length (pvI s i)) := hV.out.drewN nq
      have U9 : Hid (Row .i64 (wr.drewN nq) H N (hdF s i)) := hU.out.drewN nq
      have B9 : Hid (Below H w (wr.drewN nq) ∧ P < (wr.drewN nq).heap.size) := ⟨bel_drewN hB.out.1 nq, hB.out.2⟩
      have HG : Hid (gk + i = s.length) := hgk.out.1
      generalize wr.drewN nq = w9 at V9 U9 B9 ⊢
      clear hV hU hB
      have z1 := U9.out.cell T hTN
      have z2 := U9.out.free T hTN
      have z3 := V9.out.cell i (by omega)
      have z4 := V9.out.free i (by omega)
      generalize hHD : hdF s i T = hd at z1 hbd HPV
      clear hHD
      go_wp2
      go_roundg (gk - 1)
      case measure => have := HG.out; omega
      case rel => exact ⟨i + 1, ⟨by have := HG.out; omega, .inr (by omega)⟩, by go_num, ((V9.out.set i (hd - 1) (by omega)).congr (fun j _ => by
        unfold pvI
        by_cases e : j = i
        · rw [if_pos e, if_pos (by omega), HPV.out, e]
        · rw [if_neg e]
          by_cases e2 : j < i
          · rw [if_pos e2, if_pos (by omega)]
          · rw [if_neg e2, if_neg (by omega)])).other _ _ hPH, ((U9.out.other ⟨P, i, none⟩ _ hHP).set T ((i : Int) + 1) hTN).congr (fun j hj => HST.out j (by have := HN.out; omega)), ⟨(B9.out.1.setCell (p := ⟨P, i, none⟩) (by show H ≤ P; have := hwP.out; omega) _).setCell (p := ⟨H, T, none⟩) (Nat.le_refl _) _, by simpa using B9.out.2⟩⟩
    · have hi' : ¬ (i : Int) + 1 < (s.length : Int) := by omega
      have hib : i ≤ 1048576 := by have := hgk.out.1; omega
      go_wp2
      go_ret
      exact ⟨⟨P, by rw [HH.out]; exact hwP.out, rfl, hV.out.congr (fun j hj => by
        unfold pvI
        have := hgk.out.2
        by_cases e : j < i
        · rw [if_pos e, if_pos (by omega)]
        · rw [if_neg e, if_neg (by omega)]), hB.out.2⟩, by rw [HH.out]; exact hB.out.1⟩

end Go.Proofs.Ythjpmiidbgaiaaa
