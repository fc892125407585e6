/- The law TablePlays, walked (own text of the verifier). -/
import Derived.Test.YtbdnniaajiiimaaPpE
import Derived.Test.YtbdnniaajiiimaaPpF
import Derived.Deep.RegionHeld3
import Derived.Deep.Cut
namespace Go.Proofs.Ytbdnniaajiiimaa
namespace TS
open Go.RowKit
def pa : ByteArray := ⟨#[97]⟩
theorem pa1n : decide ((BT.cnt (.E : BT ByteArray) : Int) < ((BT.wth ltK pa 1 .E).cnt : Int)) = true := by decide +kernel
theorem pa1c : (BT.wth ltK pa 1 .E).cnt = 1 := by decide +kernel
theorem pa2n : decide (((BT.wtout ltK (BT.wth ltK pa 1 .E) pa).cnt : Int) < ((BT.wth ltK pa 1 .E).cnt : Int)) = true := by decide +kernel
theorem pa3 : BT.wtout ltK (BT.wth ltK pa 1 .E) pa = .E := by
  have h : (ltK pa pa) = false := less_irr _
  simp [BT.wth, BT.wtout, h]
  rfl
/-- Two tables' first places. -/
def two (a b : Nat) : Nat → Nat := fun i => if i = 0 then a else b

theorem cell4p {w : World} {R : Nat} {a b c d : Value} {ty : TypeId} (h : w.heap[R]? = some (.cells #[a, b, c, d] ty (0, 0))) : w.cell? ⟨R, 0, none⟩ = some a ∧ w.cell? ⟨R, 1, none⟩ = some b ∧ w.cell? ⟨R, 2, none⟩ = some c ∧ w.cell? ⟨R, 3, none⟩ = some d ∧ ∀ i, w.frozen? ⟨R, i, none⟩ = false :=
  ⟨by rw [Lib.cell_of_heap h]; rfl, by rw [Lib.cell_of_heap h]; rfl, by rw [Lib.cell_of_heap h]; rfl, by rw [Lib.cell_of_heap h]; rfl, fun i => by unfold World.frozen?; rw [h]; simp⟩
theorem heap_ltP {w : World} {b : Nat} {o : Obj} (h : w.heap[b]? = some o) : b < w.heap.size := by
  by_cases hb : b < w.heap.size
  · exact hb
  · rw [Array.getElem?_eq_none (by omega)] at h
    cases h
theorem LU.up {L : Nat → PL} {t : Nat → BT ByteArray} {i k : Nat} {L' : PL} {t' : BT ByteArray} (h : ∀ m, m < 2 → LU (L m) (t m) k) (h' : LU L' t' (k + 1)) : ∀ m, m < 2 → LU (TS.up L i L' m) (TS.up t i t' m) (k + 1) := fun m hm => by
  by_cases e : m = i
  · subst e; rw [up_same, up_same]; exact h'
  · rw [up_ne _ _ e, up_ne _ _ e]; exact (h m hm).mono (Nat.le_succ _)
theorem and1 (a : Int) : ∃ i : Nat, i < 2 ∧ bits .and .i64 a 1 = (i : Int) := by
  refine ⟨(BitVec.ofInt 64 a).toNat % 2, Nat.mod_lt _ (by omega), ?_⟩
  show IntKind.i64.wrap ((BitVec.ofInt 64 a &&& BitVec.ofInt 64 1).toNat : Int) = _
  rw [BitVec.toNat_and, show (BitVec.ofInt 64 1).toNat = 1 from rfl, Nat.and_one_is_mod, IntKind.wrap_i64]
  omega
theorem YP.start {w w2 : World} {T0 T1 A B : Nat} (t0 : Tab w2 T0 .E) (t1 : Tab w2 T1 .E) (h0 : w.heap.size ≤ T0) (h1 : T0 < T1) (b : Below w.heap.size w w2) :
    YP w ((w2.alloc (.cells #[.pointer (some ⟨T0, 0, none⟩), .pointer (some ⟨T1, 0, none⟩)] A)).alloc (.cells #[.slice none 0 0, .slice none 0 0] B)) w2.heap.size (w2.heap.size + 1) (two T0 T1) (fun _ => .E) (fun _ => .slice none 0 0) (fun _ => []) := by
  have hs : (w2.alloc (.cells #[.pointer (some ⟨T0, 0, none⟩), .pointer (some ⟨T1, 0, none⟩)] A)).heap.size = w2.heap.size + 1 := World.size_alloc _ _
  have l0 := t0.lt
  have l1 := t1.lt
  have b1 : Below w2.heap.size w2 (w2.alloc (.cells #[.pointer (some ⟨T0, 0, none⟩), .pointer (some ⟨T1, 0, none⟩)] A)) := (Below.refl _ _).alloc (Nat.le_refl _) _
  have b2 : Below w2.heap.size w2 ((w2.alloc (.cells #[.pointer (some ⟨T0, 0, none⟩), .pointer (some ⟨T1, 0, none⟩)] A)).alloc (.cells #[.slice none 0 0, .slice none 0 0] B)) := b1.alloc (by rw [hs]; omega) _
  have e1 : ((w2.alloc (.cells #[.pointer (some ⟨T0, 0, none⟩), .pointer (some ⟨T1, 0, none⟩)] A)).alloc (.cells #[.slice none 0 0, .slice none 0 0] B)).heap[w2.heap.size]? = some (.cells #[.pointer (some ⟨T0, 0, none⟩), .pointer (some ⟨T1, 0, none⟩)] A (0, 0)) := (Below.heap_alloc _ _ _ (by rw [hs]; omega)).trans (heap_alloc_new _ _)
  have e2 : ((w2.alloc (.cells #[.pointer (some ⟨T0, 0, none⟩), .pointer (some ⟨T1, 0, none⟩)] A)).alloc (.cells #[.slice none 0 0, .slice none 0 0] B)).heap[w2.heap.size + 1]? = some (.cells #[.slice none 0 0, .slice none 0 0] B (0, 0)) := by
    rw [← hs]; exact heap_alloc_new _ _
  generalize (w2.alloc (.cells #[.pointer (some ⟨T0, 0, none⟩), .pointer (some ⟨T1, 0, none⟩)] A)).alloc (.cells #[.slice none 0 0, .slice none 0 0] B) = W at *
  have hb : w.heap.size ≤ w2.heap.size := b.size
  have c2 : ∀ (P : Nat → Prop), P 0 → P 1 → ∀ i, i < 2 → P i := fun P p0 p1 i hi => by
    rcases (by omega : i = 0 ∨ i = 1) with rfl | rfl
    · exact p0
    · exact p1
  exact {
    cl := c2 _ (by rw [Lib.cell_of_heap e1]; rfl) (by rw [Lib.cell_of_heap e1]; rfl)
    fl := fun i _ => by unfold World.frozen?; rw [e1]; simp
    cw := c2 _ (by rw [Lib.cell_of_heap e2]; rfl) (by rw [Lib.cell_of_heap e2]; rfl)
    fw := fun i _ => by unfold World.frozen?; rw [e2]; simp
    tb := c2 _ (t0.below b2 (Nat.le_refl _)) (t1.below b2 (Nat.le_refl _))
    ow := fun _ _ => OwnP.nil _ _
    ob := fun _ _ b hb => by cases hb
    nt := fun i k hi hk hne => by
      rcases (by omega : i = 0 ∨ i = 1) with rfl | rfl <;> rcases (by omega : k = 0 ∨ k = 1) with rfl | rfl
      · exact absurd rfl hne
      · exact Nat.ne_of_lt h1
      · exact (Nat.ne_of_lt h1).symm
      · exact absurd rfl hne
    nb := by omega
    nl := c2 _ ⟨by show T0 ≠ _; omega, by show T0 ≠ _; omega⟩ ⟨by show T1 ≠ _; omega, by show T1 ≠ _; omega⟩
    lo := ⟨hb, by omega, c2 _ h0 (by show _ ≤ T1; omega)⟩
    be := b.trans (b2.mono hb) }

set_option maxRecDepth 100000 in
set_option maxHeartbeats 16000000 in
theorem plays_walk (x : Option Addr) (n c : Nat) (wh kd : Nat → Int) (ky : Nat → ByteArray) (nm : Nat → Int) (w : World) (hS : CRow w x n wh kd ky nm) (hn : n ≤ 1048576) :
    Calls Try.prog 3 #[.slice x n c] w fun e w' => e = .returned (.bool true) ∧ Below w.heap.size w w' := by
  have HS : Hid (CRow w x n wh kd ky nm) := hS
  clear hS
  go_enter Try.func3, Try.ntmps3
  rw [show (⟨#[97]⟩ : ByteArray) = pa from rfl]
  have CN := new_any w
  go_wp2_with fail
  refine CN.mono ?_
  rintro e w1 ⟨T0, rfl, h01, h02, t0, b1⟩
  clear CN
  have CN := new_any w1
  go_wp2_with fail
  refine CN.mono ?_
  rintro e w2 ⟨T1, rfl, h11, h12, t1, b2⟩
  clear CN
  have H2 : Hid (Tab w2 T0 .E ∧ Tab w2 T1 .E ∧ w.heap.size ≤ T0 ∧ T0 < w1.heap.size ∧ w1.heap.size ≤ T1 ∧ T1 < w2.heap.size ∧ Below w.heap.size w w2) := ⟨t0.below b2 (Nat.le_refl _), t1, h01, h02, h11, h12, b1.trans (b2.mono b1.size)⟩
  clear h01 h02 t0 b1 h11 h12 t1 b2
  go_upto_region 5 with fail
  have HY4 : Hid (YP w ((w2.alloc (.cells #[.pointer (some ⟨T0, 0, none⟩), .pointer (some ⟨T1, 0, none⟩)] 23)).alloc (.cells #[.slice none 0 0, .slice none 0 0] 27)) w2.heap.size (w2.heap.size + 1) (two T0 T1) (fun _ => .E) (fun _ => .slice none 0 0) (fun _ => [])) := YP.start H2.out.1 H2.out.2.1 H2.out.2.2.1 (by have := H2.out.2.2.2; omega) H2.out.2.2.2.2.2.2
  obtain ⟨Bl, hBl⟩ : ∃ B, w2.heap.size = B := ⟨_, rfl⟩
  rw [hBl] at HY4 ⊢
  have HBl : Hid (w.heap.size ≤ Bl) := by unfold Hid; have := H2.out.2.2.2; have := H2.out.2.2.1; omega
  clear hBl H2
  generalize (w2.alloc (.cells #[.pointer (some ⟨T0, 0, none⟩), .pointer (some ⟨T1, 0, none⟩)] 23)).alloc (.cells #[.slice none 0 0, .slice none 0 0] 27) = w4 at *
  have cl0 := HY4.out.cl 0 (by omega)
  have CP := put2_any T0 .E pa 1 w4 (HY4.out.tb 0 (by omega)) (by decide)
  go_wp2_with fail
  refine CP.mono ?_
  rintro e w5 ⟨rfl, p5, g5⟩
  rw [pa1n]
  have HY5 : Hid (YP w w5 Bl (Bl + 1) (two T0 T1) (up (fun _ => .E) 0 (BT.wth ltK pa 1 .E)) (fun _ => .slice none 0 0) (fun _ => [])) := HY4.out.put (by omega) p5 g5
  have CL := len_any T0 (BT.wth ltK pa 1 .E) w5 p5
  rw [pa1c] at CL
  have cl1 := HY5.out.cl 0 (by omega)
  clear p5 g5 HY4 CP cl0
  go_wp2_with fail
  refine CL.mono ?_
  rintro e w6 ⟨rfl, rfl⟩
  clear CL
  have CC := cut2_any T0 (BT.wth ltK pa 1 .E) pa w6 (HY5.out.tb 0 (by omega)) (by rw [pa1c]; decide)
  go_wp2_with fail
  refine CC.mono ?_
  rintro e w7 ⟨rfl, p7, g7⟩
  rw [pa2n]
  rw [pa3] at p7
  have HY7 : Hid (YP w w7 Bl (Bl + 1) (two T0 T1) (fun _ => .E) (fun _ => .slice none 0 0) (fun _ => [])) := by
    have h := HY5.out.put (i := 0) (by omega) p7 g7
    have e : up (up (fun _ => (.E : BT ByteArray)) 0 (BT.wth ltK pa 1 .E)) 0 .E = fun _ => .E := by
      funext k
      unfold up
      by_cases hk : k = 0
      · rw [if_pos hk]
      · rw [if_neg hk, if_neg hk]
    rw [e] at h
    exact h
  clear p7 g7 HY5 CC cl1
  go_wp2
  go_loopw [50] (fun xi wr => ∃ (k : Nat) (T : Nat → Nat) (t : Nat → BT ByteArray) (v : Nat → Value) (L : Nat → PL), xi = .int .i64 (k : Int) ∧ k ≤ n ∧ Hid (YP w wr Bl (Bl + 1) T t v L) ∧ Hid (∀ i, i < 2 → LU (L i) (t i) k)) (fun xi _ => n - (intOf xi).toNat)
  case atStart => exact ⟨0, two T0 T1, fun _ => .E, fun _ => .slice none 0 0, fun _ => [], rfl, Nat.zero_le _, HY7.out, fun _ _ => LU.nil⟩
  case round =>
    obtain ⟨k, T, t, v, L, rfl, hk, HY, HU⟩ := hrel
    clear HY7
    by_cases hlt : k < n
    · obtain ⟨b, o, rfl, hbl, c0, c1, c2, c3⟩ := (HS.out.below (HY.out.be.trans (Below.refl _ _))).cell k hlt
      have hwb := HS.out.wb k hlt
      generalize wh k = who at *
      generalize kd k = kind at *
      generalize ky k = key at *
      generalize nm k = N at *
      go_upto_region 11 with fail
      have HY8 : Hid (YP w (wr.alloc (.cells #[.int .i64 who, .int .i64 kind, .string key, .int .i64 N] 32)) Bl (Bl + 1) T t v L) := HY.out.below ((Below.refl _ _).alloc (Nat.le_refl _) _)
      have HO8 : Hid ((wr.alloc (.cells #[.int .i64 who, .int .i64 kind, .string key, .int .i64 N] 32)).heap[wr.heap.size]? = some (.cells #[.int .i64 who, .int .i64 kind, .string key, .int .i64 N] 32 (0, 0))) := heap_alloc_new _ _
      obtain ⟨O, hO⟩ : ∃ O, wr.heap.size = O := ⟨_, rfl⟩
      have HTO : Hid ((∀ m, m < 2 → T m < O) ∧ Bl + 1 < O) := ⟨fun m hm => by rw [← hO]; exact (HY.out.tb m hm).lt, by rw [← hO]; exact HY.out.ltw⟩
      rw [hO] at HO8 ⊢
      clear hO c0 c1 c2 c3 HY
      generalize wr.alloc (.cells #[.int .i64 who, .int .i64 kind, .string key, .int .i64 N] 32) = w8 at *
      obtain ⟨i, hi, hbits⟩ := and1 who
      rw [hbits]
      clear hbits
      have a1 : (i : Int) < 2 := by omega
      have a2 : ¬ (2 : Int) ≤ (i : Int) := by omega
      have l0 := HY8.out.cl i hi
      have l1 := HY8.out.cw i hi
      obtain ⟨o0, o1, o2, o3, _⟩ := cell4p HO8.out
      have hll := (HU.out i hi).len
      have hFA := fnd_ans (HU.out i hi) key
      have CF : ∀ q, Calls Try.prog 9 #[v i, .string key] (w8.drewN q) fun e w' => e = .returned (.int .i64 (fndF (fL (L i)) key (L i).length)) ∧ w' = w8.drewN q := fun q =>
        findL_any (v i) (L i) key _ ((HY8.out.at hi).below (bel_drewN (Below.refl _ _) q) (Nat.le_refl _)) (by omega)
      generalize fndF (fL (L i)) key (L i).length = F at CF hFA
      obtain ⟨Bt, hBt⟩ : ∃ B, gb (BT.fnd ltK key (t i)) = B := ⟨_, rfl⟩
      have HBt : Hid (gb (BT.fnd ltK key (t i)) = Bt) := hBt
      rw [hBt] at hFA
      clear hBt
      go_wp2
      go_quiet ((go_at_call 9; exact Calls.quiet_of_same (CF _)))
      have HY9 : ∀ q, Hid (YP w (w8.drewN q) Bl (Bl + 1) T t v L) := fun q => HY8.out.below (bel_drewN (Below.refl _ _) q)
      have HO9 : ∀ q, Hid ((w8.drewN q).heap[O]? = some (.cells #[.int .i64 who, .int .i64 kind, .string key, .int .i64 N] 32 (0, 0))) := fun q => HO8.out
      replace HY9 := HY9 nq
      replace HO9 := HO9 nq
      clear CF HY8 HO8 l0 l1 o0 o1 o2 o3
      generalize w8.drewN nq = w9 at *
      obtain ⟨o0, o1, o2, o3, _⟩ := cell4p HO9.out
      have l0 := HY9.out.cl i hi
      have l1 := HY9.out.cw i hi
      by_cases k0 : kind = 0
      · subst k0
        have CP := put2_any (T i) (t i) key N w9 (HY9.out.tb i hi) (by have := (HU.out i hi).cnt (Tab.ok (HY9.out.tb i hi)); omega)
        rw [put_ans (HU.out i hi) (Tab.ok (HY9.out.tb i hi)), HBt.out] at CP
        go_wp2_with fail
        refine CP.mono ?_
        rintro e w10 ⟨rfl, p10, g10⟩
        have HY10 : Hid (YP w w10 Bl (Bl + 1) T (up t i (BT.wth ltK key N (t i))) v L) := HY9.out.put hi p10 g10
        have HO10 : Hid (w10.heap[O]? = some (.cells #[.int .i64 who, .int .i64 0, .string key, .int .i64 N] 32 (0, 0))) := (g10.block O (heap_ltP HO9.out) (fun e => by have := HTO.out.1 i hi; injection e with e; omega)).trans HO9.out
        have hne : ((!Bt) == Bt) = false := by cases Bt <;> rfl
        clear p10 g10 HY9 HO9 CP l0 l1 o0 o1 o2 o3
        go_upto_region 21 with fail
        have HYd : Hid (YP w w10.drew Bl (Bl + 1) T (up t i (BT.wth ltK key N (t i))) v L) := HY10.out.below (Below.refl _ _).drew
        have HOd : Hid (w10.drew.heap[O]? = some (.cells #[.int .i64 who, .int .i64 0, .string key, .int .i64 N] 32 (0, 0))) := HO10.out
        clear HY10 HO10
        refine wp_region_held_drew (S := fun W => W.heap[O]? = some (.cells #[.int .i64 who, .int .i64 0, .string key, .int .i64 N] 32 (0, 0))) (by kernel_rfl) HOd.out (fun hH => ?_)
        generalize w10.drew = wd at *
        -- @R21
        refine wpAnyH_take (i := 0) (oi := { dst := some 89, op := Op.move (Operand.tmp 7), type := 3, pos := "law.go:84", after := #[], guard := none }) (v := .int .i64 (i : Int)) rfl (by kernel_rfl) (by kernel_rfl) (by kernel_rfl) (fun _ _ _ h => h) (Or.inl ⟨by rfl, by intro w _; go_simp⟩) hH ?_
        simp only [Act.put, List.setIfInBounds_toArray, List.set_cons_zero, List.set_cons_succ]
        refine wpAnyH_take (i := 1) (oi := { dst := some 90, op := Op.move (Operand.tmp 7), type := 3, pos := "law.go:84", after := #[], guard := none }) (v := .int .i64 (i : Int)) rfl (by kernel_rfl) (by kernel_rfl) (by kernel_rfl) (fun _ _ _ h => h) (Or.inl ⟨by rfl, by intro w _; go_simp⟩) hH ?_
        simp only [Act.put, List.setIfInBounds_toArray, List.set_cons_zero, List.set_cons_succ]
        refine wpAnyH_take (i := 2) (oi := { dst := some 91, op := Op.indexAddr 27 (Operand.tmp 4) (Operand.tmp 90), type := 0, pos := "law.go:84", after := #[{ on := 1, ground := Ground.data }], guard := none }) (v := .pointer (some ⟨Bl + 1, i, none⟩)) rfl (by kernel_rfl) (by kernel_rfl) (by kernel_rfl) (fun _ _ _ h => h) (Or.inl ⟨by rfl, by intro w _; go_simp⟩) hH ?_
        simp only [Act.put, List.setIfInBounds_toArray, List.set_cons_zero, List.set_cons_succ]
        refine wpAnyH_take (i := 4) (oi := { dst := some 93, op := Op.fieldAddr 32 (Operand.tmp 6) 2, type := 0, pos := "law.go:84", after := #[], guard := none }) (v := .pointer (some ⟨O, 2, none⟩)) rfl (by kernel_rfl) (by kernel_rfl) (by kernel_rfl) (fun _ _ _ h => h) (Or.inl ⟨by rfl, by intro w _; go_simp⟩) hH ?_
        simp only [Act.put, List.setIfInBounds_toArray, List.set_cons_zero, List.set_cons_succ]
        refine wpAnyH_take (i := 5) (oi := { dst := some 94, op := Op.load 9 (Operand.tmp 93), type := 9, pos := "law.go:84", after := #[{ on := 4, ground := Ground.data }], guard := none }) (v := .string key) rfl (by kernel_rfl) (by kernel_rfl) (by kernel_rfl) (fun _ _ _ h => h) (Or.inl ⟨by rfl, by intro w' s'; have q0 := (cell4p s').2.2.1; go_simp⟩) hH ?_
        simp only [Act.put, List.setIfInBounds_toArray, List.set_cons_zero, List.set_cons_succ]
        refine wpAnyH_take (i := 6) (oi := { dst := some 95, op := Op.fieldAddr 32 (Operand.tmp 6) 3, type := 0, pos := "law.go:84", after := #[], guard := none }) (v := .pointer (some ⟨O, 3, none⟩)) rfl (by kernel_rfl) (by kernel_rfl) (by kernel_rfl) (fun _ _ _ h => h) (Or.inl ⟨by rfl, by intro w _; go_simp⟩) hH ?_
        simp only [Act.put, List.setIfInBounds_toArray, List.set_cons_zero, List.set_cons_succ]
        refine wpAnyH_take (i := 7) (oi := { dst := some 96, op := Op.load 3 (Operand.tmp 95), type := 3, pos := "law.go:84", after := #[{ on := 6, ground := Ground.data }], guard := none }) (v := .int .i64 N) rfl (by kernel_rfl) (by kernel_rfl) (by kernel_rfl) (fun _ _ _ h => h) (Or.inl ⟨by rfl, by intro w' s'; have q0 := (cell4p s').2.2.2.1; go_simp⟩) hH ?_
        simp only [Act.put, List.setIfInBounds_toArray, List.set_cons_zero, List.set_cons_succ]
        have l1 := HYd.out.cw i hi
        have CR := putL_any (v i) (L i) key N wd (HYd.out.at hi) (by omega)
        refine wpAnyH_ready (rs := [3]) (by kernel_rfl) (by decide) (AllReadyH.cons rfl (fun K hK => ?_) AllReadyH.nil)
        rw [if_pos (by rfl)]
        go_simp
        refine hK.out _ _ hH (fun _ => ?_)
        clear hK K
        try simp only [Act.put, List.setIfInBounds_toArray, List.set_cons_zero, List.set_cons_succ]
        refine wpAnyH_ready (rs := [8]) (by kernel_rfl) (by decide) (AllReadyH.cons rfl (fun K hK => ?_) AllReadyH.nil)
        rw [if_pos (by rfl)]
        go_simp
        refine CR.mono ?_
        rintro e w11 ⟨v', rfl, own, b11⟩
        obtain ⟨xv, nv, cv, rfl⟩ : ∃ x n c, v' = Value.slice x n c := by obtain ⟨x, c, h, _⟩ := own.at; exact ⟨x, _, c, h⟩
        have hH2 : w11.heap[O]? = _ := (b11.block O (heap_ltP hH)).trans hH
        have HY11 := HYd.out.below b11
        have l2 := HY11.cw i hi
        have l3 := HY11.fw i hi
        go_wp2_with fail
        refine hK.out _ _ hH2 (fun _ => ?_)
        clear hK K
        try simp only [Act.put, List.setIfInBounds_toArray, List.set_cons_zero, List.set_cons_succ]
        refine wpAnyH_take (i := 9) (oi := { dst := some 98, op := Op.indexAddr 27 (Operand.tmp 4) (Operand.tmp 89), type := 0, pos := "law.go:84", after := #[{ on := 0, ground := Ground.data }, { on := 0, ground := Ground.phase }, { on := 1, ground := Ground.phase }, { on := 2, ground := Ground.phase }, { on := 3, ground := Ground.phase }, { on := 4, ground := Ground.phase }, { on := 5, ground := Ground.phase }, { on := 6, ground := Ground.phase }, { on := 7, ground := Ground.phase }, { on := 8, ground := Ground.phase }], guard := none }) (v := .pointer (some ⟨Bl + 1, i, none⟩)) rfl (by kernel_rfl) (by kernel_rfl) (by kernel_rfl) (fun _ _ _ h => h) (Or.inl ⟨by rfl, by intro w _; go_simp⟩) hH2 ?_
        simp only [Act.put, List.setIfInBounds_toArray, List.set_cons_zero, List.set_cons_succ]
        have hH3 : (w11.setCell ⟨Bl + 1, i, none⟩ (.slice xv nv cv)).heap[O]? = _ := (Below.heap_setCell w11 ⟨Bl + 1, i, none⟩ (.slice xv nv cv) O (by have := HTO.out.2; intro e; simp at e; omega)).trans hH2
        refine wpAnyH_ready (rs := [10]) (by kernel_rfl) (by decide) (AllReadyH.cons rfl (fun K hK => ?_) AllReadyH.nil)
        rw [if_pos (by rfl)]
        go_simp
        refine hK.out _ _ hH3 (fun _ => ?_)
        clear hK K
        try simp only [Act.put, List.setIfInBounds_toArray, List.set_cons_zero, List.set_cons_succ]
        refine wpAnyH_done (by kernel_rfl) ?_ _
        have HYF : Hid (YP w (w11.setCell ⟨Bl + 1, i, none⟩ (.slice xv nv cv)) Bl (Bl + 1) T (up t i (BT.wth ltK key N (t i))) (up v i (.slice xv nv cv)) (up L i (BT.dl key (L i) ++ [(key, N)]))) := HY11.setw hi (own.mono (Nat.zero_le _)) (fun b hb => ⟨by have h1 := (own.lt b hb).1; have h2 := HYd.out.ltl; omega, by have h1 := (own.lt b hb).1; have h2 := HYd.out.ltw; omega, fun m hm => by have h1 := (own.lt b hb).1; have h2 := (HYd.out.tb m hm).lt; omega⟩)
        have HUF : Hid (∀ m, m < 2 → LU (up L i (BT.dl key (L i) ++ [(key, N)]) m) (up t i (BT.wth ltK key N (t i)) m) (k + 1)) := LU.up HU.out ((HU.out i hi).put key N)
        clear HY11 own b11 hH hH2 hH3 l1 l2 l3 CR HYd HOd
        go_wp2
        go_roundw
        case rel => exact ⟨k + 1, T, _, _, _, by go_num, by omega, HYF.out, HUF.out⟩
        case measure => simp [intOf]; omega
        -- @E21
      have q0 : (kind == 0) = false := by simp [k0]
      by_cases k2 : kind = 2
      · subst k2
        have hok : Hid (t i).Ok := Tab.ok (HY9.out.tb i hi)
        have CP := cut2_any (T i) (t i) key w9 (HY9.out.tb i hi) (by have := (HU.out i hi).cnt hok.out; omega)
        rw [cut_ans (HU.out i hi) hok.out, HBt.out] at CP
        go_wp2_with fail
        refine CP.mono ?_
        rintro e w10 ⟨rfl, p10, g10⟩
        have HY10 : Hid (YP w w10 Bl (Bl + 1) T (up t i (BT.wtout ltK (t i) key)) v L) := HY9.out.put hi p10 g10
        have HO10 : Hid (w10.heap[O]? = some (.cells #[.int .i64 who, .int .i64 2, .string key, .int .i64 N] 32 (0, 0))) := (g10.block O (heap_ltP HO9.out) (fun e => by have := HTO.out.1 i hi; injection e with e; omega)).trans HO9.out
        have hne : (Bt != Bt) = false := by cases Bt <;> rfl
        clear p10 g10 HY9 HO9 CP l0 l1 o0 o1 o2 o3
        go_upto_region 25 with fail
        have HYd : Hid (YP w w10.drew Bl (Bl + 1) T (up t i (BT.wtout ltK (t i) key)) v L) := HY10.out.below (Below.refl _ _).drew
        have HOd : Hid (w10.drew.heap[O]? = some (.cells #[.int .i64 who, .int .i64 2, .string key, .int .i64 N] 32 (0, 0))) := HO10.out
        clear HY10 HO10
        refine wp_region_held_drew (S := fun W => W.heap[O]? = some (.cells #[.int .i64 who, .int .i64 2, .string key, .int .i64 N] 32 (0, 0))) (by kernel_rfl) HOd.out (fun hH => ?_)
        generalize w10.drew = wd at *
        -- @R25
        refine wpAnyH_take (i := 0) (oi := { dst := some 107, op := Op.move (Operand.tmp 7), type := 3, pos := "law.go:89", after := #[], guard := none }) (v := .int .i64 (i : Int)) rfl (by kernel_rfl) (by kernel_rfl) (by kernel_rfl) (fun _ _ _ h => h) (Or.inl ⟨by rfl, by intro w _; go_simp⟩) hH ?_
        simp only [Act.put, List.setIfInBounds_toArray, List.set_cons_zero, List.set_cons_succ]
        refine wpAnyH_take (i := 1) (oi := { dst := some 108, op := Op.move (Operand.tmp 7), type := 3, pos := "law.go:89", after := #[], guard := none }) (v := .int .i64 (i : Int)) rfl (by kernel_rfl) (by kernel_rfl) (by kernel_rfl) (fun _ _ _ h => h) (Or.inl ⟨by rfl, by intro w _; go_simp⟩) hH ?_
        simp only [Act.put, List.setIfInBounds_toArray, List.set_cons_zero, List.set_cons_succ]
        refine wpAnyH_take (i := 2) (oi := { dst := some 109, op := Op.indexAddr 27 (Operand.tmp 4) (Operand.tmp 108), type := 0, pos := "law.go:89", after := #[{ on := 1, ground := Ground.data }], guard := none }) (v := .pointer (some ⟨Bl + 1, i, none⟩)) rfl (by kernel_rfl) (by kernel_rfl) (by kernel_rfl) (fun _ _ _ h => h) (Or.inl ⟨by rfl, by intro w _; go_simp⟩) hH ?_
        simp only [Act.put, List.setIfInBounds_toArray, List.set_cons_zero, List.set_cons_succ]
        refine wpAnyH_take (i := 4) (oi := { dst := some 111, op := Op.fieldAddr 32 (Operand.tmp 6) 2, type := 0, pos := "law.go:89", after := #[], guard := none }) (v := .pointer (some ⟨O, 2, none⟩)) rfl (by kernel_rfl) (by kernel_rfl) (by kernel_rfl) (fun _ _ _ h => h) (Or.inl ⟨by rfl, by intro w _; go_simp⟩) hH ?_
        simp only [Act.put, List.setIfInBounds_toArray, List.set_cons_zero, List.set_cons_succ]
        refine wpAnyH_take (i := 5) (oi := { dst := some 112, op := Op.load 9 (Operand.tmp 111), type := 9, pos := "law.go:89", after := #[{ on := 4, ground := Ground.data }], guard := none }) (v := .string key) rfl (by kernel_rfl) (by kernel_rfl) (by kernel_rfl) (fun _ _ _ h => h) (Or.inl ⟨by rfl, by intro w' s'; have q0 := (cell4p s').2.2.1; go_simp⟩) hH ?_
        simp only [Act.put, List.setIfInBounds_toArray, List.set_cons_zero, List.set_cons_succ]
        have l1 := HYd.out.cw i hi
        have CR := cutL_any (v i) (L i) key wd (HYd.out.at hi) (by omega)
        refine wpAnyH_ready (rs := [3]) (by kernel_rfl) (by decide) (AllReadyH.cons rfl (fun K hK => ?_) AllReadyH.nil)
        rw [if_pos (by rfl)]
        go_simp
        refine hK.out _ _ hH (fun _ => ?_)
        clear hK K
        try simp only [Act.put, List.setIfInBounds_toArray, List.set_cons_zero, List.set_cons_succ]
        refine wpAnyH_ready (rs := [6]) (by kernel_rfl) (by decide) (AllReadyH.cons rfl (fun K hK => ?_) AllReadyH.nil)
        rw [if_pos (by rfl)]
        go_simp
        refine CR.mono ?_
        rintro e w11 ⟨v', rfl, own, b11⟩
        obtain ⟨xv, nv, cv, rfl⟩ : ∃ x n c, v' = Value.slice x n c := by obtain ⟨x, c, h, _⟩ := own.at; exact ⟨x, _, c, h⟩
        have hH2 : w11.heap[O]? = _ := (b11.block O (heap_ltP hH)).trans hH
        have HY11 := HYd.out.below b11
        have l2 := HY11.cw i hi
        have l3 := HY11.fw i hi
        go_wp2_with fail
        refine hK.out _ _ hH2 (fun _ => ?_)
        clear hK K
        try simp only [Act.put, List.setIfInBounds_toArray, List.set_cons_zero, List.set_cons_succ]
        refine wpAnyH_take (i := 7) (oi := { dst := some 114, op := Op.indexAddr 27 (Operand.tmp 4) (Operand.tmp 107), type := 0, pos := "law.go:89", after := #[{ on := 0, ground := Ground.data }, { on := 0, ground := Ground.phase }, { on := 1, ground := Ground.phase }, { on := 2, ground := Ground.phase }, { on := 3, ground := Ground.phase }, { on := 4, ground := Ground.phase }, { on := 5, ground := Ground.phase }, { on := 6, ground := Ground.phase }], guard := none }) (v := .pointer (some ⟨Bl + 1, i, none⟩)) rfl (by kernel_rfl) (by kernel_rfl) (by kernel_rfl) (fun _ _ _ h => h) (Or.inl ⟨by rfl, by intro w _; go_simp⟩) hH2 ?_
        simp only [Act.put, List.setIfInBounds_toArray, List.set_cons_zero, List.set_cons_succ]
        have hH3 : (w11.setCell ⟨Bl + 1, i, none⟩ (.slice xv nv cv)).heap[O]? = _ := (Below.heap_setCell w11 ⟨Bl + 1, i, none⟩ (.slice xv nv cv) O (by have := HTO.out.2; intro e; simp at e; omega)).trans hH2
        refine wpAnyH_ready (rs := [8]) (by kernel_rfl) (by decide) (AllReadyH.cons rfl (fun K hK => ?_) AllReadyH.nil)
        rw [if_pos (by rfl)]
        go_simp
        refine hK.out _ _ hH3 (fun _ => ?_)
        clear hK K
        try simp only [Act.put, List.setIfInBounds_toArray, List.set_cons_zero, List.set_cons_succ]
        refine wpAnyH_done (by kernel_rfl) ?_ _
        have HYF : Hid (YP w (w11.setCell ⟨Bl + 1, i, none⟩ (.slice xv nv cv)) Bl (Bl + 1) T (up t i (BT.wtout ltK (t i) key)) (up v i (.slice xv nv cv)) (up L i (BT.dl key (L i)))) := HY11.setw hi (own.mono (Nat.zero_le _)) (fun b hb => ⟨by have h1 := (own.lt b hb).1; have h2 := HYd.out.ltl; omega, by have h1 := (own.lt b hb).1; have h2 := HYd.out.ltw; omega, fun m hm => by have h1 := (own.lt b hb).1; have h2 := (HYd.out.tb m hm).lt; omega⟩)
        have HUF : Hid (∀ m, m < 2 → LU (up L i (BT.dl key (L i)) m) (up t i (BT.wtout ltK (t i) key) m) (k + 1)) := LU.up HU.out (((HU.out i hi).cut hok.out key).mono (Nat.le_succ _))
        clear HY11 own b11 hH hH2 hH3 l1 l2 l3 CR HYd HOd
        go_wp2
        go_roundw
        case rel => exact ⟨k + 1, T, _, _, _, by go_num, by omega, HYF.out, HUF.out⟩
        case measure => simp [intOf]; omega
        -- @E25
      have q2 : (kind == 2) = false := by simp [k2]
      by_cases k6 : kind = 6
      · subst k6
        go_upto_region 27 with fail
        have HYd : Hid (YP w w9.drew Bl (Bl + 1) T t v L) := HY9.out.below (Below.refl _ _).drew
        clear HY9 HO9 l0 l1 o0 o1 o2 o3
        obtain ⟨j, hj⟩ : ∃ j : Nat, (1 : Int) - (i : Int) = (j : Int) := ⟨1 - i, by omega⟩
        have hj2 : j < 2 := by omega
        have hji : Hid (j ≠ i) := by unfold Hid; omega
        have j1 : (j : Int) < 2 := by omega
        have jw : IntKind.i64.wrap (j : Int) = (j : Int) := by rw [IntKind.wrap_i64]; omega
        obtain ⟨pt, hpt⟩ := (HYd.out.tb i hi).ptr
        have CK := fork2_any (T i) pt w9.drew hpt
        have HF : Hid (Tab (w9.drew.alloc (.cells #[.pointer pt] 50)) w9.drew.heap.size (t i)) := (HYd.out.tb i hi).fork hpt
        obtain ⟨xv, cv, hv⟩ := HYd.out.slice hi
        have Hv : Hid (v i = .slice xv (L i).length cv) := hv
        have hcw := HYd.out.cw i hi
        rw [hv] at hcw
        clear hv hpt
        generalize (L i).length = nv at hcw Hv
        refine wp_region_held_drew (S := fun W => W.cell? ⟨Bl + 1, i, none⟩ = some (.slice xv nv cv)) (by kernel_rfl) hcw (fun hH => ?_)
        generalize w9.drew = wd at *
        -- @R27
        refine wpAnyH_take (i := 0) (oi := { dst := some 117, op := Op.move (Operand.tmp 3), type := 25, pos := "law.go:91", after := #[], guard := none }) (v := .slice (some ⟨Bl, 0, none⟩) 2 2) rfl (by kernel_rfl) (by kernel_rfl) (by kernel_rfl) (fun _ _ _ h => h) (Or.inl ⟨by rfl, by intro w _; go_simp⟩) hH ?_
        simp only [Act.put, List.setIfInBounds_toArray, List.set_cons_zero, List.set_cons_succ]
        refine wpAnyH_take (i := 1) (oi := { dst := some 118, op := Op.move (Operand.tmp 7), type := 3, pos := "law.go:91", after := #[], guard := none }) (v := .int .i64 (i : Int)) rfl (by kernel_rfl) (by kernel_rfl) (by kernel_rfl) (fun _ _ _ h => h) (Or.inl ⟨by rfl, by intro w _; go_simp⟩) hH ?_
        simp only [Act.put, List.setIfInBounds_toArray, List.set_cons_zero, List.set_cons_succ]
        refine wpAnyH_take (i := 2) (oi := { dst := some 119, op := Op.binOp BinOp.sub 3 (Operand.const (Value.int IntKind.i64 1)) (Operand.tmp 118) 3, type := 3, pos := "law.go:91", after := #[{ on := 1, ground := Ground.data }], guard := none }) (v := .int .i64 (j : Int)) rfl (by kernel_rfl) (by kernel_rfl) (by kernel_rfl) (fun _ _ _ h => h) (Or.inl ⟨by rfl, by intro w _; go_simp⟩) hH ?_
        simp only [Act.put, List.setIfInBounds_toArray, List.set_cons_zero, List.set_cons_succ]
        refine wpAnyH_take (i := 3) (oi := { dst := some 120, op := Op.move (Operand.tmp 7), type := 3, pos := "law.go:91", after := #[{ on := 11, ground := Ground.gcOnly Departure.lateStores }], guard := none }) (v := .int .i64 (i : Int)) rfl (by kernel_rfl) (by kernel_rfl) (by kernel_rfl) (fun _ _ _ h => h) (Or.inl ⟨by rfl, by intro w _; go_simp⟩) hH ?_
        simp only [Act.put, List.setIfInBounds_toArray, List.set_cons_zero, List.set_cons_succ]
        refine wpAnyH_take (i := 4) (oi := { dst := some 121, op := Op.binOp BinOp.sub 3 (Operand.const (Value.int IntKind.i64 1)) (Operand.tmp 120) 3, type := 3, pos := "law.go:91", after := #[{ on := 3, ground := Ground.data }, { on := 11, ground := Ground.gcOnly Departure.lateStores }], guard := none }) (v := .int .i64 (j : Int)) rfl (by kernel_rfl) (by kernel_rfl) (by kernel_rfl) (fun _ _ _ h => h) (Or.inl ⟨by rfl, by intro w _; go_simp⟩) hH ?_
        simp only [Act.put, List.setIfInBounds_toArray, List.set_cons_zero, List.set_cons_succ]
        refine wpAnyH_take (i := 5) (oi := { dst := some 122, op := Op.move (Operand.tmp 8), type := 23, pos := "law.go:91", after := #[], guard := none }) (v := .pointer (some ⟨T i, 0, none⟩)) rfl (by kernel_rfl) (by kernel_rfl) (by kernel_rfl) (fun _ _ _ h => h) (Or.inl ⟨by rfl, by intro w _; go_simp⟩) hH ?_
        simp only [Act.put, List.setIfInBounds_toArray, List.set_cons_zero, List.set_cons_succ]
        refine wpAnyH_take (i := 7) (oi := { dst := some 124, op := Op.move (Operand.tmp 7), type := 3, pos := "law.go:91", after := #[], guard := none }) (v := .int .i64 (i : Int)) rfl (by kernel_rfl) (by kernel_rfl) (by kernel_rfl) (fun _ _ _ h => h) (Or.inl ⟨by rfl, by intro w _; go_simp⟩) hH ?_
        simp only [Act.put, List.setIfInBounds_toArray, List.set_cons_zero, List.set_cons_succ]
        refine wpAnyH_take (i := 8) (oi := { dst := some 125, op := Op.indexAddr 27 (Operand.tmp 4) (Operand.tmp 124), type := 0, pos := "law.go:91", after := #[{ on := 7, ground := Ground.data }], guard := none }) (v := .pointer (some ⟨Bl + 1, i, none⟩)) rfl (by kernel_rfl) (by kernel_rfl) (by kernel_rfl) (fun _ _ _ h => h) (Or.inl ⟨by rfl, by intro w _; go_simp⟩) hH ?_
        simp only [Act.put, List.setIfInBounds_toArray, List.set_cons_zero, List.set_cons_succ]
        refine wpAnyH_take (i := 9) (oi := { dst := some 126, op := Op.load 26 (Operand.tmp 125), type := 26, pos := "law.go:91", after := #[{ on := 8, ground := Ground.data }], guard := none }) (v := .slice xv nv cv) rfl (by kernel_rfl) (by kernel_rfl) (by kernel_rfl) (fun _ _ _ h => h) (Or.inl ⟨by rfl, by intro w' s'; have q0 := s'; go_simp⟩) hH ?_
        simp only [Act.put, List.setIfInBounds_toArray, List.set_cons_zero, List.set_cons_succ]
        have HY1 := HYd.out.below ((Below.refl wd.heap.size wd).alloc (Nat.le_refl _) (.cells #[.pointer pt] 50))
        have ltl := HYd.out.ltl
        have ltw := HYd.out.ltw
        have HY2 := HY1.setl (i := j) hj2 HF.out ⟨by omega, by omega⟩ (fun m hm _ => by have := (HYd.out.tb m hm).lt; omega) (fun m hm b hb => by have := ((HYd.out.ow m hm).lt b hb).2; omega) (by have := HYd.out.lo.1; omega)
        have HY3 := HY2.setw (i := j) (v' := v i) (L' := L i) hj2 (HY2.ow i hi) (HY2.ob i hi)
        rw [Hv.out] at HY3
        have s0 := HY1.cl j hj2
        have s1 := HY1.fl j hj2
        have s2 := HY2.cw j hj2
        have s3 := HY2.fw j hj2
        have S1 := HY1.cw i hi
        have S2 := HY2.cw i hi
        have S3 := HY3.cw i hi
        rw [up_ne _ _ hji.out.symm, Hv.out] at S3
        rw [Hv.out] at S1 S2
        have HYF : Hid _ := HY3
        clear HYd HF HY1 HY2 HY3 ltl ltw
        refine wpAnyH_ready (rs := [6]) (by kernel_rfl) (by decide) (AllReadyH.cons rfl (fun K hK => ?_) AllReadyH.nil)
        rw [if_pos (by rfl)]
        go_simp
        refine CK.mono ?_
        rintro e w11 ⟨rfl, rfl⟩
        go_wp2_with fail
        refine hK.out _ _ S1 (fun _ => ?_)
        clear hK K
        try simp only [Act.put, List.setIfInBounds_toArray, List.set_cons_zero, List.set_cons_succ]
        refine wpAnyH_take (i := 10) (oi := { dst := some 127, op := Op.indexAddr 25 (Operand.tmp 117) (Operand.tmp 119), type := 0, pos := "law.go:91", after := #[{ on := 0, ground := Ground.data }, { on := 2, ground := Ground.data }, { on := 0, ground := Ground.phase }, { on := 1, ground := Ground.phase }, { on := 2, ground := Ground.phase }, { on := 3, ground := Ground.textOnly Departure.lateStores }, { on := 4, ground := Ground.textOnly Departure.lateStores }, { on := 5, ground := Ground.phase }, { on := 6, ground := Ground.phase }, { on := 7, ground := Ground.textOnly Departure.lateStores }, { on := 8, ground := Ground.textOnly Departure.lateStoresUnsure }, { on := 9, ground := Ground.textOnly Departure.lateStoresUnsure }], guard := none }) (v := .pointer (some ⟨Bl, j, none⟩)) rfl (by kernel_rfl) (by kernel_rfl) (by kernel_rfl) (fun _ _ _ h => h) (Or.inl ⟨by rfl, by intro w _; go_simp⟩) S1 ?_
        simp only [Act.put, List.setIfInBounds_toArray, List.set_cons_zero, List.set_cons_succ]
        refine wpAnyH_ready (rs := [11]) (by kernel_rfl) (by decide) (AllReadyH.cons rfl (fun K hK => ?_) AllReadyH.nil)
        rw [if_pos (by rfl)]
        go_simp
        refine hK.out _ _ S2 (fun _ => ?_)
        clear hK K
        try simp only [Act.put, List.setIfInBounds_toArray, List.set_cons_zero, List.set_cons_succ]
        refine wpAnyH_take (i := 12) (oi := { dst := some 128, op := Op.indexAddr 27 (Operand.tmp 4) (Operand.tmp 121), type := 0, pos := "law.go:91", after := #[{ on := 4, ground := Ground.data }, { on := 0, ground := Ground.phase }, { on := 1, ground := Ground.phase }, { on := 2, ground := Ground.phase }, { on := 3, ground := Ground.phase }, { on := 4, ground := Ground.phase }, { on := 5, ground := Ground.phase }, { on := 6, ground := Ground.phase }, { on := 7, ground := Ground.phase }, { on := 8, ground := Ground.phase }, { on := 9, ground := Ground.phase }, { on := 10, ground := Ground.phase }, { on := 11, ground := Ground.phase }], guard := none }) (v := .pointer (some ⟨Bl + 1, j, none⟩)) rfl (by kernel_rfl) (by kernel_rfl) (by kernel_rfl) (fun _ _ _ h => h) (Or.inl ⟨by rfl, by intro w _; go_simp⟩) S2 ?_
        simp only [Act.put, List.setIfInBounds_toArray, List.set_cons_zero, List.set_cons_succ]
        refine wpAnyH_ready (rs := [13]) (by kernel_rfl) (by decide) (AllReadyH.cons rfl (fun K hK => ?_) AllReadyH.nil)
        rw [if_pos (by rfl)]
        go_simp
        refine hK.out _ _ S3 (fun _ => ?_)
        clear hK K
        try simp only [Act.put, List.setIfInBounds_toArray, List.set_cons_zero, List.set_cons_succ]
        refine wpAnyH_done (by kernel_rfl) ?_ _
        have HUF : Hid (∀ m, m < 2 → LU (up L j (L i) m) (up t j (t i) m) (k + 1)) := LU.up HU.out ((HU.out i hi).mono (Nat.le_succ _))
        clear CK s0 s1 s2 s3 S1 S2 S3 hH hcw
        go_wp2
        go_roundw
        case rel => exact ⟨k + 1, _, _, _, _, by go_num, by omega, HYF.out, HUF.out⟩
        case measure => simp [intOf]; omega
        -- @E27
      have q6 : (kind == 6) = false := by simp [k6]
      go_upto_region 16 with fail
      have HYd : Hid (YP w w9.drew Bl (Bl + 1) T t v L) := HY9.out.below (Below.refl _ _).drew
      have HOd : Hid (w9.drew.heap[O]? = some (.cells #[.int .i64 who, .int .i64 kind, .string key, .int .i64 N] 32 (0, 0))) := HO9.out
      have CA := asked_any (T i) (v i) (t i) (L i) k who kind key N w9.drew (HYd.out.tb i hi) (HYd.out.at hi) (HU.out i hi) (by omega)
      clear HY9 HO9 l0 l1 o0 o1 o2 o3
      obtain ⟨xv, cv, hv⟩ := HYd.out.slice hi
      have hcw := HYd.out.cw i hi
      rw [hv] at hcw CA
      clear hv
      generalize (L i).length = nv at *
      refine wp_region_held_drew (S := fun W => W.heap[O]? = some (.cells #[.int .i64 who, .int .i64 kind, .string key, .int .i64 N] 32 (0, 0)) ∧ W.cell? ⟨Bl + 1, i, none⟩ = some (.slice xv nv cv)) (by kernel_rfl) ⟨HOd.out, hcw⟩ (fun hH => ?_)
      generalize w9.drew = wd at *
      -- @R16
      refine wpAnyH_take (i := 0) (oi := { dst := some 72, op := Op.move (Operand.tmp 8), type := 23, pos := "law.go:93", after := #[], guard := none }) (v := .pointer (some ⟨T i, 0, none⟩)) rfl (by kernel_rfl) (by kernel_rfl) (by kernel_rfl) (fun _ _ _ h => h) (Or.inl ⟨by rfl, by intro w _; go_simp⟩) hH ?_
      simp only [Act.put, List.setIfInBounds_toArray, List.set_cons_zero, List.set_cons_succ]
      refine wpAnyH_take (i := 1) (oi := { dst := some 73, op := Op.move (Operand.tmp 7), type := 3, pos := "law.go:93", after := #[], guard := none }) (v := .int .i64 (i : Int)) rfl (by kernel_rfl) (by kernel_rfl) (by kernel_rfl) (fun _ _ _ h => h) (Or.inl ⟨by rfl, by intro w _; go_simp⟩) hH ?_
      simp only [Act.put, List.setIfInBounds_toArray, List.set_cons_zero, List.set_cons_succ]
      refine wpAnyH_take (i := 2) (oi := { dst := some 74, op := Op.indexAddr 27 (Operand.tmp 4) (Operand.tmp 73), type := 0, pos := "law.go:93", after := #[{ on := 1, ground := Ground.data }], guard := none }) (v := .pointer (some ⟨Bl + 1, i, none⟩)) rfl (by kernel_rfl) (by kernel_rfl) (by kernel_rfl) (fun _ _ _ h => h) (Or.inl ⟨by rfl, by intro w _; go_simp⟩) hH ?_
      simp only [Act.put, List.setIfInBounds_toArray, List.set_cons_zero, List.set_cons_succ]
      refine wpAnyH_take (i := 3) (oi := { dst := some 75, op := Op.load 26 (Operand.tmp 74), type := 26, pos := "law.go:93", after := #[{ on := 2, ground := Ground.data }], guard := none }) (v := .slice xv nv cv) rfl (by kernel_rfl) (by kernel_rfl) (by kernel_rfl) (fun _ _ _ h => h) (Or.inl ⟨by rfl, by intro w' s'; have q0 := s'.2; go_simp⟩) hH ?_
      simp only [Act.put, List.setIfInBounds_toArray, List.set_cons_zero, List.set_cons_succ]
      refine wpAnyH_take (i := 4) (oi := { dst := some 76, op := Op.load 32 (Operand.tmp 6), type := 32, pos := "law.go:93", after := #[], guard := none }) (v := .agg #[.int .i64 who, .int .i64 kind, .string key, .int .i64 N]) rfl (by kernel_rfl) (by kernel_rfl) (by kernel_rfl) (fun _ _ _ h => h) (Or.inl ⟨by rfl, by intro w' s'; have q0 := (cell4p s'.1).1; have q1 := (cell4p s'.1).2.1; have q2 := (cell4p s'.1).2.2.1; have q3 := (cell4p s'.1).2.2.2.1; go_simp⟩) hH ?_
      simp only [Act.put, List.setIfInBounds_toArray, List.set_cons_zero, List.set_cons_succ]
      refine wpAnyH_ready (rs := [5]) (by kernel_rfl) (by decide) (AllReadyH.cons rfl (fun K hK => ?_) AllReadyH.nil)
      rw [if_pos (by rfl)]
      go_simp
      refine CA.mono ?_
      rintro e w11 ⟨rfl, b11⟩
      have HYF : Hid (YP w w11 Bl (Bl + 1) T t v L) := HYd.out.below b11
      have hH2 : w11.heap[O]? = some (.cells #[.int .i64 who, .int .i64 kind, .string key, .int .i64 N] 32 (0, 0)) ∧ w11.cell? ⟨Bl + 1, i, none⟩ = some (.slice xv nv cv) := ⟨(b11.block O (heap_ltP hH.1)).trans hH.1, (b11.cell (p := ⟨Bl + 1, i, none⟩) HYd.out.ltw).trans hH.2⟩
      go_wp2_with fail
      refine hK.out _ _ hH2 (fun _ => ?_)
      clear hK K
      try simp only [Act.put, List.setIfInBounds_toArray, List.set_cons_zero, List.set_cons_succ]
      refine wpAnyH_take (i := 6) (oi := { dst := some 78, op := Op.unOp UnOp.not 4 (Operand.tmp 77), type := 4, pos := "law.go:93", after := #[{ on := 5, ground := Ground.data }], guard := none }) (v := .bool false) rfl (by kernel_rfl) (by kernel_rfl) (by kernel_rfl) (fun _ _ _ h => h) (Or.inl ⟨by rfl, by intro w _; go_simp⟩) hH2 ?_
      simp only [Act.put, List.setIfInBounds_toArray, List.set_cons_zero, List.set_cons_succ]
      refine wpAnyH_done (by kernel_rfl) ?_ _
      clear CA hH hH2 hcw HYd HOd
      go_wp2
      go_roundw
      case rel => exact ⟨k + 1, _, _, _, _, by go_num, by omega, HYF.out, fun m hm => (HU.out m hm).mono (Nat.le_succ _)⟩
      case measure => simp [intOf]; omega
      -- @E16
    · obtain rfl : k = n := by omega
      clear hlt hk
      go_wp2
      go_loopw [132] (fun xi wz => ∃ m : Nat, xi = .int .i64 (m : Int) ∧ m ≤ 2 ∧ Hid (YP w wz Bl (Bl + 1) T t v L)) (fun xi _ => 2 - (intOf xi).toNat)
      case atStart => exact ⟨0, rfl, by omega, HY.out⟩
      case round =>
        obtain ⟨m, rfl, hm, HZ⟩ := hrel
        clear HY
        by_cases hm2 : m < 2
        · have a1 : (m : Int) < 2 := by omega
          have l0 := HZ.out.cl m hm2
          have l1 := HZ.out.cw m hm2
          obtain ⟨xv, cv, hv⟩ := HZ.out.slice hm2
          have hA := HZ.out.at hm2
          have CA := asked_any (T m) (v m) (t m) (L m) k 0 5 ⟨#[]⟩ 0 wr (HZ.out.tb m hm2) hA (HU.out m hm2) (by omega)
          have Hv : Hid (v m = .slice xv (L m).length cv) := hv
          rw [hv] at l1 CA
          clear hv hA
          go_wp2_with fail
          refine CA.mono ?_
          rintro e w11 ⟨rfl, b11⟩
          have HZ1 : Hid (YP w w11 Bl (Bl + 1) T t v L) := HZ.out.below b11
          clear CA l0 l1 b11 HZ
          have l1 := HZ1.out.cw m hm2
          rw [Hv.out] at l1
          have hll := (HU.out m hm2).len
          go_wp2
          go_loopw [152] (fun xi wz => ∃ q : Nat, xi = .int .i64 (q : Int) ∧ q ≤ (L m).length ∧ Hid (YP w wz Bl (Bl + 1) T t v L)) (fun xi _ => (L m).length - (intOf xi).toNat)
          case atStart => exact ⟨0, rfl, by omega, HZ1.out⟩
          case round =>
            obtain ⟨q, rfl, hq, HQ⟩ := hrel
            clear HZ1
            by_cases hq2 : q < (L m).length
            · have hA := HQ.out.at hm2
              rw [Hv.out] at hA
              obtain ⟨x2, c2, he, hP⟩ := hA
              obtain ⟨b, o, hx, d0, d1⟩ := hP q hq2
              obtain rfl : xv = some ⟨b, o, none⟩ := by
                injection he with he
                rw [he, hx]
              clear he hP hx
              have hm3 : (fL (L m) q, gL (L m) q) ∈ L m := by rw [fgL hq2]; exact List.getElem_mem hq2
              obtain ⟨g1, g2⟩ := get_some (HU.out m hm2).br.srt (((HU.out m hm2).br.look_iff ordS).2 hm3)
              clear hm3
              generalize fL (L m) q = ky2 at *
              generalize gL (L m) q = vl at *
              go_upto_region 37 with fail
              have HQ2 : Hid (YP w (wr.alloc (.cells #[.string ky2, .int .i64 vl] 38)) Bl (Bl + 1) T t v L) := HQ.out.below ((Below.refl _ _).alloc (Nat.le_refl _) _)
              have HP2 : Hid ((wr.alloc (.cells #[.string ky2, .int .i64 vl] 38)).heap[wr.heap.size]? = some (.cells #[.string ky2, .int .i64 vl] 38 (0, 0))) := heap_alloc_new _ _
              obtain ⟨P, hP⟩ : ∃ P, wr.heap.size = P := ⟨_, rfl⟩
              rw [hP] at HP2 ⊢
              clear hP d0 d1 HQ
              generalize wr.alloc (.cells #[.string ky2, .int .i64 vl] 38) = w12 at *
              have p0 : w12.cell? ⟨P, 0, none⟩ = some (.string ky2) := by rw [Lib.cell_of_heap HP2.out]; rfl
              have CG := get_any (T m) (t m) ky2 w12 (HQ2.out.tb m hm2)
              rw [g1, g2] at CG
              go_wp2_with fail
              refine CG.mono ?_
              rintro e w13 ⟨rfl, b13⟩
              have HQ3 : Hid (YP w w13 Bl (Bl + 1) T t v L) := HQ2.out.below b13
              have p1 : w13.cell? ⟨P, 1, none⟩ = some (.int .i64 vl) := (b13.cell (p := ⟨P, 1, none⟩) (heap_ltP HP2.out)).trans (by rw [Lib.cell_of_heap HP2.out]; rfl)
              have e1 : (vl != vl) = false := by simp
              clear CG HQ2 HP2 b13 p0 g1 g2
              go_wp2
              go_roundw
              case rel => exact ⟨q + 1, by go_num, by omega, HQ3.out⟩
              case measure => simp [intOf]; omega
            · obtain rfl : q = (L m).length := by omega
              go_wp2
              go_roundw
              case rel => exact ⟨m + 1, by go_num, by omega, HQ.out⟩
              case measure => simp [intOf]; omega
        · obtain rfl : m = 2 := by omega
          go_wp2
          go_ret
          exact ⟨rfl, HZ.out.be⟩
end TS
end Go.Proofs.Ytbdnniaajiiimaa
