/- The document's Look, walked (over visit). -/
import Derived.Test.YtpbgmknebhnonaaTvG
import Derived.Deep.RegionHeld3
import Derived.Deep.CutRange
namespace Go.Proofs.Ytpbgmknebhnonaa
open Go.RowKit

/-- The value that visit hands back at the root. -/
def SeenV (r : VR) (M : List RW) (B : Nat) (w : World) (x : Option Addr) (n c : Nat) (b code : Int) (p : ByteArray) : Prop := match r.off with
  | none => n = M.length ∧ b = r.bytes ∧ code = 0 ∧ Rws 125 w B (.slice x n c) M
  | some o => code = o.2 ∧ p = o.1
theorem VsR.seen {r : VR} {B : Nat} {M : List RW} {w w' : World} {e : Ending} (h : VsR r B M w e w') : ∃ x n c b code p, e = .returned (.agg #[.slice x n c, .int .i64 b, .int .i64 code, .string p]) ∧ SeenV r M B w' x n c b code p ∧ Fk B 125 w w' := by
  obtain ⟨h1, h2⟩ := h
  unfold SeenV
  cases hX : r.off with
  | none =>
    rw [hX] at h1
    obtain ⟨x, c, p, rfl, hr⟩ := h1
    exact ⟨x, _, c, _, _, p, rfl, ⟨rfl, rfl, rfl, hr⟩, h2⟩
  | some o =>
    rw [hX] at h1
    obtain ⟨x, n, c, b, rfl⟩ := h1
    exact ⟨x, n, c, b, _, _, rfl, ⟨rfl, rfl⟩, h2⟩
theorem SeenV.same {r : VR} {B : Nat} {M : List RW} {w w' : World} {x : Option Addr} {n c : Nat} {b code : Int} {p : ByteArray} (h : SeenV r M B w x n c b code p) (e : ∀ (k : Nat) (C : Array Value) (fz : Nat × Nat), w.heap[k]? = some (Obj.cells C 125 fz) → w'.heap[k]? = w.heap[k]?) : SeenV r M B w' x n c b code p := by
  unfold SeenV at h ⊢
  cases hX : r.off with
  | none =>
    rw [hX] at h
    obtain ⟨h1, h2, h3, h4⟩ := h
    refine ⟨h1, h2, h3, h4.same fun k hk => ?_⟩
    obtain ⟨c', fz', hh⟩ := Lib.ownsRow_kind h4 k hk
    exact e k _ _ hh
  | some o =>
    rw [hX] at h
    exact h

theorem keep4 {W : World} {K : Nat} {a b c d : Value} (o : Obj) (h : W.cell? ⟨K, 0, none⟩ = some a ∧ W.cell? ⟨K, 1, none⟩ = some b ∧ W.cell? ⟨K, 2, none⟩ = some c ∧ W.cell? ⟨K, 3, none⟩ = some d) : (W.alloc o).cell? ⟨K, 0, none⟩ = some a ∧ (W.alloc o).cell? ⟨K, 1, none⟩ = some b ∧ (W.alloc o).cell? ⟨K, 2, none⟩ = some c ∧ (W.alloc o).cell? ⟨K, 3, none⟩ = some d := by
  have e : (W.alloc o).heap[K]? = W.heap[K]? := Below.heap_alloc W o K (World.block_lt_of_cell? _ _ h.1)
  exact ⟨(World.cell?_of_block (w := W) (a := ⟨K, 0, none⟩) e).trans h.1, (World.cell?_of_block (w := W) (a := ⟨K, 1, none⟩) e).trans h.2.1, (World.cell?_of_block (w := W) (a := ⟨K, 2, none⟩) e).trans h.2.2.1, (World.cell?_of_block (w := W) (a := ⟨K, 3, none⟩) e).trans h.2.2.2⟩
/-- What Look leaves. -/
def LkR (T : Tr) (w : World) (e : Ending) (w' : World) : Prop := (if (ckT T).2 ≠ 0 then e = .returned (.agg #[.slice none 0 0, .int .i64 0, .int .i64 (ckT T).2, .string (ckT T).1]) else ∃ x c, e = .returned (.agg #[.slice x (rwT [] T).length c, .int .i64 (24 + tbT T), .int .i64 0, .string ⟨#[]⟩]) ∧ Rws 125 w' w.heap.size (.slice x (rwT [] T).length c) (rwT [] T)) ∧ Below w.heap.size w w'
theorem Rws.up {ty : TypeId} {w : World} {B B' : Nat} {v : Value} {L : List RW} (h : Rws ty w B v L) (hb : B' ≤ B) : Rws ty w B' v L := ⟨h.1, h.2.imp id fun ⟨g, cap, cur, a, b, r⟩ => ⟨g, cap, cur, a, Nat.le_trans hb b, r⟩⟩

theorem exit_look {W : World} {Z : Nat} {a0 a1 a2 a3 a b c d : Value} {tmps : Array Value} {R : Ending → World → Prop} (h : W.heap[Z]? = some (.cells #[a0, a1, a2, a3] 77 (0, 0))) (ht : tmps[2]?.getD undef = .pointer (some ⟨Z, 0, none⟩))
    (hR : R (.returned (.agg #[a, b, c, d])) ((((W.setCell ⟨Z, 0, none⟩ a).setCell ⟨Z, 1, none⟩ b).setCell ⟨Z, 2, none⟩ c).setCell ⟨Z, 3, none⟩ d)) :
    bodyPost Try.prog Try.f30 R .ret { tmps := tmps, defers := [] } ((((W.setCell ⟨Z, 0, none⟩ a).setCell ⟨Z, 1, none⟩ b).setCell ⟨Z, 2, none⟩ c).setCell ⟨Z, 3, none⟩ d) := by
  have q := four_set (a := a) (b := b) (c := c) (d := d) h
  generalize (((W.setCell ⟨Z, 0, none⟩ a).setCell ⟨Z, 1, none⟩ b).setCell ⟨Z, 2, none⟩ c).setCell ⟨Z, 3, none⟩ d = W4 at q hR ⊢
  have q0 : W4.cell? ⟨Z, 0, none⟩ = some a := by rw [Lib.cell_of_heap q]; rfl
  have q1 : W4.cell? ⟨Z, 1, none⟩ = some b := by rw [Lib.cell_of_heap q]; rfl
  have q2 : W4.cell? ⟨Z, 2, none⟩ = some c := by rw [Lib.cell_of_heap q]; rfl
  have q3 : W4.cell? ⟨Z, 3, none⟩ = some d := by rw [Lib.cell_of_heap q]; rfl
  exact bodyPost_ret (v := .agg #[a, b, c, d]) (by simp [results, Try.results30, go_sem, ht, q0, q1, q2, q3]) rfl hR

set_option maxHeartbeats 16000000 in
theorem look_any (VA : ∀ f, VsAt f) (f : Nat) (u : Value) (T : Tr) (w : World) (hA : At w f u T) (hsm : smT T) :
    Calls Try.prog 30 #[u] w fun e w' => LkR T w e w' := by
  obtain ⟨k, e, t, nms, ks⟩ := T
  cases f with
  | zero => exact hA.elim
  | succ f =>
  obtain ⟨x, n, c, rfl, hrest⟩ := hA
  have HA : Hid (At w (f + 1) (.agg #[.int .i64 k, .bool e, .string t, .slice x n c]) (.mk k e t nms ks)) := ⟨x, n, c, rfl, hrest⟩
  clear hrest
  generalize (Tr.mk k e t nms ks) = T at HA hsm ⊢
  have e1 : (w.alloc (.cells #[.int .i64 k, .bool e, .string t, .slice x n c] 25)).heap.size = w.heap.size + 1 := World.size_alloc _ _
  have b1 : Below w.heap.size w ((w.alloc (.cells #[.int .i64 k, .bool e, .string t, .slice x n c] 25)).alloc (.cells #[.slice none 0 0, .int .i64 0, .int .i64 0, .string ⟨#[]⟩] 77)) := ((Below.refl _ _).alloc (Nat.le_refl _) _).alloc (by rw [e1]; omega) _
  have HN1 : Hid (NB ((w.alloc (.cells #[.int .i64 k, .bool e, .string t, .slice x n c] 25)).alloc (.cells #[.slice none 0 0, .int .i64 0, .int .i64 0, .string ⟨#[]⟩] 77)) w.heap.size k e t x n c) := (Below.heap_alloc _ _ _ (by rw [e1]; omega)).trans (NB.new w k e t x n c)
  have HZ1 : Hid (((w.alloc (.cells #[.int .i64 k, .bool e, .string t, .slice x n c] 25)).alloc (.cells #[.slice none 0 0, .int .i64 0, .int .i64 0, .string ⟨#[]⟩] 77)).heap[w.heap.size + 1]? = some (.cells #[.slice none 0 0, .int .i64 0, .int .i64 0, .string ⟨#[]⟩] 77 (0, 0))) := by
    unfold Hid
    rw [← e1]
    exact Array.getElem?_push_size
  have HB1 : Hid (Below w.heap.size w ((w.alloc (.cells #[.int .i64 k, .bool e, .string t, .slice x n c] 25)).alloc (.cells #[.slice none 0 0, .int .i64 0, .int .i64 0, .string ⟨#[]⟩] 77))) := b1
  have HSM : Hid (smT T) := hsm
  clear b1 e1 hsm
  go_enter Try.func30, Try.ntmps30
  go_upto_region 1 with fail
  generalize (w.alloc (.cells #[.int .i64 k, .bool e, .string t, .slice x n c] 25)).alloc (.cells #[.slice none 0 0, .int .i64 0, .int .i64 0, .string ⟨#[]⟩] 77) = w1 at *
  obtain ⟨K, hK⟩ : ∃ K, K = w.heap.size := ⟨_, rfl⟩
  obtain ⟨Z, hZ⟩ : ∃ Z, Z = K + 1 := ⟨_, rfl⟩
  rw [← hK, ← hZ] at HZ1
  rw [← hK] at HN1
  rw [← hK, ← hZ]
  have HKZ : Hid (K = w.heap.size ∧ Z = w.heap.size + 1) := by unfold Hid; omega
  have hKZ : K ≠ Z := by omega
  clear hK hZ
  have VC : Hid (∀ W, Below w1.heap.size w1 W → Calls Try.prog 44 #[.agg #[.slice none 0 0, .int .i64 24, .int .i64 0, .string ⟨#[]⟩], .string ⟨#[]⟩, .agg #[.int .i64 k, .bool e, .string t, .slice x n c], .int .i64 1] W fun e w' => ∃ x n c b code p, e = .returned (.agg #[.slice x n c, .int .i64 b, .int .i64 code, .string p]) ∧ SeenV (vT [] 24 T) (rwT [] T) w1.heap.size w' x n c b code p ∧ Fk w1.heap.size 125 W w') := fun W hW =>
    (VA (f + 1) _ T [] 24 none 0 [] ⟨#[]⟩ w1.heap.size w W HA.out HSM.out (HB1.out.trans (hW.mono HB1.out.size)) HB1.out.size hW.size (World.ownsRow_nil _ _ _ _) (by decide) (by decide) (by intro s hs; cases hs) (by decide) (by decide)).mono fun e w' h => h.seen
  have y0 := HN1.out.c0
  have y1 := HN1.out.c1
  have y2 := HN1.out.c2
  have y3 := HN1.out.c3
  have hKl := heap_lt HN1.out
  have bA : Below w1.heap.size w1 w1.drew := (Below.refl _ _).drew
  have bB : Below w1.heap.size w1 (w1.alloc (.cells #[.slice none 0 0, .int .i64 0, .int .i64 0, .string ⟨#[]⟩] 77)).drew := ((Below.refl _ _).alloc (Nat.le_refl _) _).drew
  have tB : (w1.alloc (.cells #[.slice none 0 0, .int .i64 0, .int .i64 0, .string ⟨#[]⟩] 77)).drew.heap[w1.heap.size]? = some (.cells #[.slice none 0 0, .int .i64 0, .int .i64 0, .string ⟨#[]⟩] 77 (0, 0)) := Array.getElem?_push_size
  have hlB : w1.heap.size < (w1.alloc (.cells #[.slice none 0 0, .int .i64 0, .int .i64 0, .string ⟨#[]⟩] 77)).drew.heap.size := heap_lt tB
  go_cut [3] from 4 to 17 (fun v3 wx => ∃ G x n c b code p, v3 = .pointer (some ⟨G, 0, none⟩) ∧ Hid (wx.heap[G]? = some (.cells #[.slice x n c, .int .i64 b, .int .i64 code, .string p] 77 (0, 0))) ∧ Hid (SeenV (vT [] 24 T) (rwT [] T) w1.heap.size wx x n c b code p) ∧ Hid (Below w1.heap.size w1 wx) ∧ w1.heap.size ≤ G)
  case first =>
    refine wp_region_held_drew (S := (fun W : World => W.cell? ⟨K, 0, none⟩ = some (.int .i64 k) ∧ W.cell? ⟨K, 1, none⟩ = some (.bool e) ∧ W.cell? ⟨K, 2, none⟩ = some (.string t) ∧ W.cell? ⟨K, 3, none⟩ = some (.slice x n c))) (by kernel_rfl) ⟨y0, y1, y2, y3⟩ (fun _ => ?_)
    have N0 : (fun W : World => W.cell? ⟨K, 0, none⟩ = some (.int .i64 k) ∧ W.cell? ⟨K, 1, none⟩ = some (.bool e) ∧ W.cell? ⟨K, 2, none⟩ = some (.string t) ∧ W.cell? ⟨K, 3, none⟩ = some (.slice x n c)) w1.drew := ⟨y0, y1, y2, y3⟩
    generalize w1.drew = W1 at bA N0 ⊢
    clear bB tB hlB
    refine wpAnyH_take (i := 2) (oi := { dst := some 6, op := Op.load 25 (Operand.tmp 1), type := 25, pos := "ref.go:170", after := #[], guard := none }) (v := .agg #[.int .i64 k, .bool e, .string t, .slice x n c]) rfl (by kernel_rfl) (by kernel_rfl) (by kernel_rfl) (fun _ _ _ h => h) (Or.inl ⟨by rfl, by rintro w ⟨s0, s1, s2, s3⟩; go_simp⟩) N0 ?_
    try simp only [Act.put, List.setIfInBounds_toArray, List.set_cons_zero, List.set_cons_succ]
    refine wpAnyH_ready (rs := [0, 4]) (by kernel_rfl) (by decide) (AllReadyH.cons rfl (fun K1 hK1 => ?_) (AllReadyH.cons rfl (fun K1 hK1 => ?_) AllReadyH.nil))
    · rw [if_pos (by rfl)]
      go_simp
      refine (magic_any W1).mono ?_
      rintro e5 w5 ⟨rfl, b5⟩
      have B5 : Below w1.heap.size w1 w5 := bA.trans (b5.mono bA.size)
      have N5 : (fun W : World => W.cell? ⟨K, 0, none⟩ = some (.int .i64 k) ∧ W.cell? ⟨K, 1, none⟩ = some (.bool e) ∧ W.cell? ⟨K, 2, none⟩ = some (.string t) ∧ W.cell? ⟨K, 3, none⟩ = some (.slice x n c)) w5 := ⟨(B5.cell (p := ⟨K, 0, none⟩) hKl).trans y0, (B5.cell (p := ⟨K, 1, none⟩) hKl).trans y1, (B5.cell (p := ⟨K, 2, none⟩) hKl).trans y2, (B5.cell (p := ⟨K, 3, none⟩) hKl).trans y3⟩
      go_wp2_with fail
      refine hK1.out _ _ N5 (fun _ => ?_)
      clear hK1 K1
      try simp only [Act.put, List.setIfInBounds_toArray, List.set_cons_zero, List.set_cons_succ]
      refine wpAnyH_take (i := 1) (oi := { dst := some 5, op := Op.build 77 #[(1, Operand.tmp 4)], type := 77, pos := "ref.go:170", after := #[{ on := 0, ground := Ground.data }], guard := none }) (v := .agg #[.slice none 0 0, .int .i64 24, .int .i64 0, .string ⟨#[]⟩]) rfl (by kernel_rfl) (by kernel_rfl) (by kernel_rfl) (fun _ _ _ h => h) (Or.inl ⟨by rfl, by intro w _; go_simp⟩) N5 ?_
      try simp only [Act.put, List.setIfInBounds_toArray, List.set_cons_zero, List.set_cons_succ]
      refine wpAnyH_ready (rs := [3, 4]) (by kernel_rfl) (by decide) (AllReadyH.cons rfl (fun K1 hK1 => ?_) (AllReadyH.cons rfl (fun K1 hK1 => ?_) AllReadyH.nil))
      · rw [if_pos (by rfl)]
        go_simp
        refine (VC.out w5 B5).mono ?_
        rintro e6 w6 ⟨x6, n6, c6, b6, code6, p6, rfl, S6, F6⟩
        have B6 : Below w1.heap.size w1 w6 := B5.trans F6.below
        have N6 : (fun W : World => W.cell? ⟨K, 0, none⟩ = some (.int .i64 k) ∧ W.cell? ⟨K, 1, none⟩ = some (.bool e) ∧ W.cell? ⟨K, 2, none⟩ = some (.string t) ∧ W.cell? ⟨K, 3, none⟩ = some (.slice x n c)) w6 := ⟨(B6.cell (p := ⟨K, 0, none⟩) hKl).trans y0, (B6.cell (p := ⟨K, 1, none⟩) hKl).trans y1, (B6.cell (p := ⟨K, 2, none⟩) hKl).trans y2, (B6.cell (p := ⟨K, 3, none⟩) hKl).trans y3⟩
        go_wp2_with fail
        refine hK1.out _ _ N6 (fun _ => ?_)
        clear hK1 K1
        try simp only [Act.put, List.setIfInBounds_toArray, List.set_cons_zero, List.set_cons_succ]
        have B7 : Below w1.heap.size w1 (w6.alloc (.cells #[.slice x6 n6 c6, .int .i64 b6, .int .i64 code6, .string p6] 77)) := B6.alloc B6.size _
        have S7 : SeenV (vT [] 24 T) (rwT [] T) w1.heap.size (w6.alloc (.cells #[.slice x6 n6 c6, .int .i64 b6, .int .i64 code6, .string p6] 77)) x6 n6 c6 b6 code6 p6 := S6.same (fun j C fz hj => Below.heap_alloc _ _ j (heap_lt hj))
        have q6 : (w6.alloc (.cells #[.slice x6 n6 c6, .int .i64 b6, .int .i64 code6, .string p6] 77)).heap[w6.heap.size]? = some (.cells #[.slice x6 n6 c6, .int .i64 b6, .int .i64 code6, .string p6] 77 (0, 0)) := Array.getElem?_push_size
        have N7 : (fun W : World => W.cell? ⟨K, 0, none⟩ = some (.int .i64 k) ∧ W.cell? ⟨K, 1, none⟩ = some (.bool e) ∧ W.cell? ⟨K, 2, none⟩ = some (.string t) ∧ W.cell? ⟨K, 3, none⟩ = some (.slice x n c)) (w6.alloc (.cells #[.slice x6 n6 c6, .int .i64 b6, .int .i64 code6, .string p6] 77)) := ⟨(B7.cell (p := ⟨K, 0, none⟩) hKl).trans y0, (B7.cell (p := ⟨K, 1, none⟩) hKl).trans y1, (B7.cell (p := ⟨K, 2, none⟩) hKl).trans y2, (B7.cell (p := ⟨K, 3, none⟩) hKl).trans y3⟩
        have B8 : Below w1.heap.size w1 (w6.alloc (.cells #[.slice none 0 0, .int .i64 0, .int .i64 0, .string ⟨#[]⟩] 77)) := B6.alloc B6.size _
        have N8 : (fun W : World => W.cell? ⟨K, 0, none⟩ = some (.int .i64 k) ∧ W.cell? ⟨K, 1, none⟩ = some (.bool e) ∧ W.cell? ⟨K, 2, none⟩ = some (.string t) ∧ W.cell? ⟨K, 3, none⟩ = some (.slice x n c)) (w6.alloc (.cells #[.slice none 0 0, .int .i64 0, .int .i64 0, .string ⟨#[]⟩] 77)) := ⟨(B8.cell (p := ⟨K, 0, none⟩) hKl).trans y0, (B8.cell (p := ⟨K, 1, none⟩) hKl).trans y1, (B8.cell (p := ⟨K, 2, none⟩) hKl).trans y2, (B8.cell (p := ⟨K, 3, none⟩) hKl).trans y3⟩
        refine wpAnyH_ready (rs := [4]) (by kernel_rfl) (by decide) (AllReadyH.cons rfl (fun K1 hK1 => ?_) AllReadyH.nil)
        rw [if_pos (by rfl)]
        go_simp
        refine hK1.out _ _ N8 (fun _ => ?_)
        clear hK1 K1
        try simp only [Act.put, List.setIfInBounds_toArray, List.set_cons_zero, List.set_cons_succ]
        refine wpAnyH_ready (rs := [5]) (by kernel_rfl) (by decide) (AllReadyH.cons rfl (fun K1 hK1 => ?_) AllReadyH.nil)
        rw [if_pos (by rfl)]
        go_simp
        refine hK1.out _ _ N7 (fun _ => ?_)
        clear hK1 K1
        refine wpAnyH_done (by kernel_rfl) ?_ _
        (try go_wp2_with fail)
        go_meet
        exact ⟨w6.heap.size, x6, n6, c6, b6, code6, p6, rfl, q6, S7, B7, B6.size⟩
      · rw [if_pos (by rfl)]
        have B9 : Below w1.heap.size w1 (w5.alloc (.cells #[.slice none 0 0, .int .i64 0, .int .i64 0, .string ⟨#[]⟩] 77)) := B5.alloc B5.size _
        have N9 : (fun W : World => W.cell? ⟨K, 0, none⟩ = some (.int .i64 k) ∧ W.cell? ⟨K, 1, none⟩ = some (.bool e) ∧ W.cell? ⟨K, 2, none⟩ = some (.string t) ∧ W.cell? ⟨K, 3, none⟩ = some (.slice x n c)) (w5.alloc (.cells #[.slice none 0 0, .int .i64 0, .int .i64 0, .string ⟨#[]⟩] 77)) := ⟨(B9.cell (p := ⟨K, 0, none⟩) hKl).trans y0, (B9.cell (p := ⟨K, 1, none⟩) hKl).trans y1, (B9.cell (p := ⟨K, 2, none⟩) hKl).trans y2, (B9.cell (p := ⟨K, 3, none⟩) hKl).trans y3⟩
        go_simp
        refine hK1.out _ _ N9 (fun _ => ?_)
        clear hK1 K1
        try simp only [Act.put, List.setIfInBounds_toArray, List.set_cons_zero, List.set_cons_succ]
        refine wpAnyH_ready (rs := [3]) (by kernel_rfl) (by decide) (AllReadyH.cons rfl (fun K1 hK1 => ?_) AllReadyH.nil)
        rw [if_pos (by rfl)]
        go_simp
        refine (VC.out (w5.alloc (.cells #[.slice none 0 0, .int .i64 0, .int .i64 0, .string ⟨#[]⟩] 77)) B9).mono ?_
        rintro e6 w6 ⟨x6, n6, c6, b6, code6, p6, rfl, S6, F6⟩
        have B6 : Below w1.heap.size w1 w6 := B9.trans F6.below
        have N6 : (fun W : World => W.cell? ⟨K, 0, none⟩ = some (.int .i64 k) ∧ W.cell? ⟨K, 1, none⟩ = some (.bool e) ∧ W.cell? ⟨K, 2, none⟩ = some (.string t) ∧ W.cell? ⟨K, 3, none⟩ = some (.slice x n c)) w6 := ⟨(B6.cell (p := ⟨K, 0, none⟩) hKl).trans y0, (B6.cell (p := ⟨K, 1, none⟩) hKl).trans y1, (B6.cell (p := ⟨K, 2, none⟩) hKl).trans y2, (B6.cell (p := ⟨K, 3, none⟩) hKl).trans y3⟩
        go_wp2_with fail
        refine hK1.out _ _ N6 (fun _ => ?_)
        clear hK1 K1
        try simp only [Act.put, List.setIfInBounds_toArray, List.set_cons_zero, List.set_cons_succ]
        have t6 : w6.heap[w5.heap.size]? = some (.cells #[.slice none 0 0, .int .i64 0, .int .i64 0, .string ⟨#[]⟩] 77 (0, 0)) := (F6.mid w5.heap.size _ _ _ Array.getElem?_push_size (by decide)).trans Array.getElem?_push_size
        have u0 : w6.cell? ⟨w5.heap.size, 0, none⟩ = some (.slice none 0 0) := by rw [Lib.cell_of_heap t6]; rfl
        have v0 := Lib.frozen_of_heap t6 0
        have u1 : w6.cell? ⟨w5.heap.size, 1, none⟩ = some (.int .i64 0) := by rw [Lib.cell_of_heap t6]; rfl
        have v1 := Lib.frozen_of_heap t6 1
        have u2 : w6.cell? ⟨w5.heap.size, 2, none⟩ = some (.int .i64 0) := by rw [Lib.cell_of_heap t6]; rfl
        have v2 := Lib.frozen_of_heap t6 2
        have u3 : w6.cell? ⟨w5.heap.size, 3, none⟩ = some (.string ⟨#[]⟩) := by rw [Lib.cell_of_heap t6]; rfl
        have v3 := Lib.frozen_of_heap t6 3
        have q6 := four_set (a := .slice x6 n6 c6) (b := .int .i64 b6) (c := .int .i64 code6) (d := .string p6) t6
        have hs6 : ∀ j, j ≠ w5.heap.size → ((((w6.setCell ⟨w5.heap.size, 0, none⟩ (.slice x6 n6 c6)).setCell ⟨w5.heap.size, 1, none⟩ (.int .i64 b6)).setCell ⟨w5.heap.size, 2, none⟩ (.int .i64 code6)).setCell ⟨w5.heap.size, 3, none⟩ (.string p6)).heap[j]? = w6.heap[j]? := fun j hj => (Below.heap_setCell _ ⟨w5.heap.size, 3, none⟩ _ j hj).trans ((Below.heap_setCell _ ⟨w5.heap.size, 2, none⟩ _ j hj).trans ((Below.heap_setCell _ ⟨w5.heap.size, 1, none⟩ _ j hj).trans (Below.heap_setCell _ ⟨w5.heap.size, 0, none⟩ _ j hj)))
        have B7 : Below w1.heap.size w1 ((((w6.setCell ⟨w5.heap.size, 0, none⟩ (.slice x6 n6 c6)).setCell ⟨w5.heap.size, 1, none⟩ (.int .i64 b6)).setCell ⟨w5.heap.size, 2, none⟩ (.int .i64 code6)).setCell ⟨w5.heap.size, 3, none⟩ (.string p6)) := (((B6.setCell (p := ⟨w5.heap.size, 0, none⟩) B5.size _).setCell (p := ⟨w5.heap.size, 1, none⟩) B5.size _).setCell (p := ⟨w5.heap.size, 2, none⟩) B5.size _).setCell (p := ⟨w5.heap.size, 3, none⟩) B5.size _
        have S7 : SeenV (vT [] 24 T) (rwT [] T) w1.heap.size ((((w6.setCell ⟨w5.heap.size, 0, none⟩ (.slice x6 n6 c6)).setCell ⟨w5.heap.size, 1, none⟩ (.int .i64 b6)).setCell ⟨w5.heap.size, 2, none⟩ (.int .i64 code6)).setCell ⟨w5.heap.size, 3, none⟩ (.string p6)) x6 n6 c6 b6 code6 p6 := S6.same (fun j C fz hj => hs6 j (fun e9 => by subst e9; rw [t6] at hj; injection hj with hj; injection hj with _ hj; exact absurd hj (by decide)))
        have N7 : (fun W : World => W.cell? ⟨K, 0, none⟩ = some (.int .i64 k) ∧ W.cell? ⟨K, 1, none⟩ = some (.bool e) ∧ W.cell? ⟨K, 2, none⟩ = some (.string t) ∧ W.cell? ⟨K, 3, none⟩ = some (.slice x n c)) ((((w6.setCell ⟨w5.heap.size, 0, none⟩ (.slice x6 n6 c6)).setCell ⟨w5.heap.size, 1, none⟩ (.int .i64 b6)).setCell ⟨w5.heap.size, 2, none⟩ (.int .i64 code6)).setCell ⟨w5.heap.size, 3, none⟩ (.string p6)) := ⟨(B7.cell (p := ⟨K, 0, none⟩) hKl).trans y0, (B7.cell (p := ⟨K, 1, none⟩) hKl).trans y1, (B7.cell (p := ⟨K, 2, none⟩) hKl).trans y2, (B7.cell (p := ⟨K, 3, none⟩) hKl).trans y3⟩
        refine wpAnyH_ready (rs := [5]) (by kernel_rfl) (by decide) (AllReadyH.cons rfl (fun K1 hK1 => ?_) AllReadyH.nil)
        rw [if_pos (by rfl)]
        go_simp
        refine hK1.out _ _ N7 (fun _ => ?_)
        clear hK1 K1
        refine wpAnyH_done (by kernel_rfl) ?_ _
        (try go_wp2_with fail)
        go_meet
        exact ⟨w5.heap.size, x6, n6, c6, b6, code6, p6, rfl, q6, S7, B7, B5.size⟩
    · rw [if_pos (by rfl)]
      have B9 : Below w1.heap.size w1 (W1.alloc (.cells #[.slice none 0 0, .int .i64 0, .int .i64 0, .string ⟨#[]⟩] 77)) := bA.alloc bA.size _
      have N9 : (fun W : World => W.cell? ⟨K, 0, none⟩ = some (.int .i64 k) ∧ W.cell? ⟨K, 1, none⟩ = some (.bool e) ∧ W.cell? ⟨K, 2, none⟩ = some (.string t) ∧ W.cell? ⟨K, 3, none⟩ = some (.slice x n c)) (W1.alloc (.cells #[.slice none 0 0, .int .i64 0, .int .i64 0, .string ⟨#[]⟩] 77)) := ⟨(B9.cell (p := ⟨K, 0, none⟩) hKl).trans y0, (B9.cell (p := ⟨K, 1, none⟩) hKl).trans y1, (B9.cell (p := ⟨K, 2, none⟩) hKl).trans y2, (B9.cell (p := ⟨K, 3, none⟩) hKl).trans y3⟩
      have hlt9 : W1.heap.size < (W1.alloc (.cells #[.slice none 0 0, .int .i64 0, .int .i64 0, .string ⟨#[]⟩] 77)).heap.size := by rw [World.size_alloc]; omega
      have t9 : (W1.alloc (.cells #[.slice none 0 0, .int .i64 0, .int .i64 0, .string ⟨#[]⟩] 77)).heap[W1.heap.size]? = some (.cells #[.slice none 0 0, .int .i64 0, .int .i64 0, .string ⟨#[]⟩] 77 (0, 0)) := Array.getElem?_push_size
      go_simp
      refine hK1.out _ _ N9 (fun _ => ?_)
      clear hK1 K1
      try simp only [Act.put, List.setIfInBounds_toArray, List.set_cons_zero, List.set_cons_succ]
      refine wpAnyH_ready (rs := [0]) (by kernel_rfl) (by decide) (AllReadyH.cons rfl (fun K1 hK1 => ?_) AllReadyH.nil)
      rw [if_pos (by rfl)]
      go_simp
      refine (magic_any (W1.alloc (.cells #[.slice none 0 0, .int .i64 0, .int .i64 0, .string ⟨#[]⟩] 77))).mono ?_
      rintro e5 w5 ⟨rfl, b5⟩
      have B5 : Below w1.heap.size w1 w5 := B9.trans (b5.mono B9.size)
      have N5 : (fun W : World => W.cell? ⟨K, 0, none⟩ = some (.int .i64 k) ∧ W.cell? ⟨K, 1, none⟩ = some (.bool e) ∧ W.cell? ⟨K, 2, none⟩ = some (.string t) ∧ W.cell? ⟨K, 3, none⟩ = some (.slice x n c)) w5 := ⟨(B5.cell (p := ⟨K, 0, none⟩) hKl).trans y0, (B5.cell (p := ⟨K, 1, none⟩) hKl).trans y1, (B5.cell (p := ⟨K, 2, none⟩) hKl).trans y2, (B5.cell (p := ⟨K, 3, none⟩) hKl).trans y3⟩
      go_wp2_with fail
      refine hK1.out _ _ N5 (fun _ => ?_)
      clear hK1 K1
      try simp only [Act.put, List.setIfInBounds_toArray, List.set_cons_zero, List.set_cons_succ]
      have t5 := (b5.block W1.heap.size hlt9).trans t9
      refine wpAnyH_take (i := 1) (oi := { dst := some 5, op := Op.build 77 #[(1, Operand.tmp 4)], type := 77, pos := "ref.go:170", after := #[{ on := 0, ground := Ground.data }], guard := none }) (v := .agg #[.slice none 0 0, .int .i64 24, .int .i64 0, .string ⟨#[]⟩]) rfl (by kernel_rfl) (by kernel_rfl) (by kernel_rfl) (fun _ _ _ h => h) (Or.inl ⟨by rfl, by intro w _; go_simp⟩) N5 ?_
      try simp only [Act.put, List.setIfInBounds_toArray, List.set_cons_zero, List.set_cons_succ]
      refine wpAnyH_ready (rs := [3]) (by kernel_rfl) (by decide) (AllReadyH.cons rfl (fun K1 hK1 => ?_) AllReadyH.nil)
      rw [if_pos (by rfl)]
      go_simp
      refine (VC.out w5 B5).mono ?_
      rintro e6 w6 ⟨x6, n6, c6, b6, code6, p6, rfl, S6, F6⟩
      have B6 : Below w1.heap.size w1 w6 := B5.trans F6.below
      have N6 : (fun W : World => W.cell? ⟨K, 0, none⟩ = some (.int .i64 k) ∧ W.cell? ⟨K, 1, none⟩ = some (.bool e) ∧ W.cell? ⟨K, 2, none⟩ = some (.string t) ∧ W.cell? ⟨K, 3, none⟩ = some (.slice x n c)) w6 := ⟨(B6.cell (p := ⟨K, 0, none⟩) hKl).trans y0, (B6.cell (p := ⟨K, 1, none⟩) hKl).trans y1, (B6.cell (p := ⟨K, 2, none⟩) hKl).trans y2, (B6.cell (p := ⟨K, 3, none⟩) hKl).trans y3⟩
      go_wp2_with fail
      refine hK1.out _ _ N6 (fun _ => ?_)
      clear hK1 K1
      try simp only [Act.put, List.setIfInBounds_toArray, List.set_cons_zero, List.set_cons_succ]
      have t6 := (F6.mid W1.heap.size _ _ _ t5 (by decide)).trans t5
      have u0 : w6.cell? ⟨W1.heap.size, 0, none⟩ = some (.slice none 0 0) := by rw [Lib.cell_of_heap t6]; rfl
      have v0 := Lib.frozen_of_heap t6 0
      have u1 : w6.cell? ⟨W1.heap.size, 1, none⟩ = some (.int .i64 0) := by rw [Lib.cell_of_heap t6]; rfl
      have v1 := Lib.frozen_of_heap t6 1
      have u2 : w6.cell? ⟨W1.heap.size, 2, none⟩ = some (.int .i64 0) := by rw [Lib.cell_of_heap t6]; rfl
      have v2 := Lib.frozen_of_heap t6 2
      have u3 : w6.cell? ⟨W1.heap.size, 3, none⟩ = some (.string ⟨#[]⟩) := by rw [Lib.cell_of_heap t6]; rfl
      have v3 := Lib.frozen_of_heap t6 3
      have q6 := four_set (a := .slice x6 n6 c6) (b := .int .i64 b6) (c := .int .i64 code6) (d := .string p6) t6
      have hs6 : ∀ j, j ≠ W1.heap.size → ((((w6.setCell ⟨W1.heap.size, 0, none⟩ (.slice x6 n6 c6)).setCell ⟨W1.heap.size, 1, none⟩ (.int .i64 b6)).setCell ⟨W1.heap.size, 2, none⟩ (.int .i64 code6)).setCell ⟨W1.heap.size, 3, none⟩ (.string p6)).heap[j]? = w6.heap[j]? := fun j hj => (Below.heap_setCell _ ⟨W1.heap.size, 3, none⟩ _ j hj).trans ((Below.heap_setCell _ ⟨W1.heap.size, 2, none⟩ _ j hj).trans ((Below.heap_setCell _ ⟨W1.heap.size, 1, none⟩ _ j hj).trans (Below.heap_setCell _ ⟨W1.heap.size, 0, none⟩ _ j hj)))
      have B7 : Below w1.heap.size w1 ((((w6.setCell ⟨W1.heap.size, 0, none⟩ (.slice x6 n6 c6)).setCell ⟨W1.heap.size, 1, none⟩ (.int .i64 b6)).setCell ⟨W1.heap.size, 2, none⟩ (.int .i64 code6)).setCell ⟨W1.heap.size, 3, none⟩ (.string p6)) := (((B6.setCell (p := ⟨W1.heap.size, 0, none⟩) bA.size _).setCell (p := ⟨W1.heap.size, 1, none⟩) bA.size _).setCell (p := ⟨W1.heap.size, 2, none⟩) bA.size _).setCell (p := ⟨W1.heap.size, 3, none⟩) bA.size _
      have S7 : SeenV (vT [] 24 T) (rwT [] T) w1.heap.size ((((w6.setCell ⟨W1.heap.size, 0, none⟩ (.slice x6 n6 c6)).setCell ⟨W1.heap.size, 1, none⟩ (.int .i64 b6)).setCell ⟨W1.heap.size, 2, none⟩ (.int .i64 code6)).setCell ⟨W1.heap.size, 3, none⟩ (.string p6)) x6 n6 c6 b6 code6 p6 := S6.same (fun j C fz hj => hs6 j (fun e9 => by subst e9; rw [t6] at hj; injection hj with hj; injection hj with _ hj; exact absurd hj (by decide)))
      have N7 : (fun W : World => W.cell? ⟨K, 0, none⟩ = some (.int .i64 k) ∧ W.cell? ⟨K, 1, none⟩ = some (.bool e) ∧ W.cell? ⟨K, 2, none⟩ = some (.string t) ∧ W.cell? ⟨K, 3, none⟩ = some (.slice x n c)) ((((w6.setCell ⟨W1.heap.size, 0, none⟩ (.slice x6 n6 c6)).setCell ⟨W1.heap.size, 1, none⟩ (.int .i64 b6)).setCell ⟨W1.heap.size, 2, none⟩ (.int .i64 code6)).setCell ⟨W1.heap.size, 3, none⟩ (.string p6)) := ⟨(B7.cell (p := ⟨K, 0, none⟩) hKl).trans y0, (B7.cell (p := ⟨K, 1, none⟩) hKl).trans y1, (B7.cell (p := ⟨K, 2, none⟩) hKl).trans y2, (B7.cell (p := ⟨K, 3, none⟩) hKl).trans y3⟩
      refine wpAnyH_ready (rs := [5]) (by kernel_rfl) (by decide) (AllReadyH.cons rfl (fun K1 hK1 => ?_) AllReadyH.nil)
      rw [if_pos (by rfl)]
      go_simp
      refine hK1.out _ _ N7 (fun _ => ?_)
      clear hK1 K1
      refine wpAnyH_done (by kernel_rfl) ?_ _
      (try go_wp2_with fail)
      go_meet
      exact ⟨W1.heap.size, x6, n6, c6, b6, code6, p6, rfl, q6, S7, B7, bA.size⟩
  case rest =>
    obtain ⟨G, x2, n2, c2, b2, code2, p2, rfl, HG, HSV, HBw, hG⟩ := hcut
    have hGZ : G ≠ Z := fun e9 => by have := heap_lt HZ1.out; omega
    have hZG : Z ≠ G := fun e9 => hGZ e9.symm
    have HZw : Hid (wc.heap[Z]? = some (.cells #[.slice none 0 0, .int .i64 0, .int .i64 0, .string ⟨#[]⟩] 77 (0, 0))) := (HBw.out.block Z (heap_lt HZ1.out)).trans HZ1.out
    have HBx : Hid (Below w.heap.size w wc) := HB1.out.trans (HBw.out.mono HB1.out.size)
    have hzw : w.heap.size ≤ Z := by have := HKZ.out; omega
    have hzl := heap_lt HZ1.out
    clear bA bB tB hlB y0 y1 y2 y3 hKl VC HN1 HZ1 HB1 HBw
    have g0 : wc.cell? ⟨G, 0, none⟩ = some (.slice x2 n2 c2) := by rw [Lib.cell_of_heap HG.out]; rfl
    have g1 : wc.cell? ⟨G, 1, none⟩ = some (.int .i64 b2) := by rw [Lib.cell_of_heap HG.out]; rfl
    have g2 : wc.cell? ⟨G, 2, none⟩ = some (.int .i64 code2) := by rw [Lib.cell_of_heap HG.out]; rfl
    have g3 : wc.cell? ⟨G, 3, none⟩ = some (.string p2) := by rw [Lib.cell_of_heap HG.out]; rfl
    have gf3 := Lib.frozen_of_heap HG.out 3
    have z0 : wc.cell? ⟨Z, 0, none⟩ = some (.slice none 0 0) := by rw [Lib.cell_of_heap HZw.out]; rfl
    have z1 : wc.cell? ⟨Z, 1, none⟩ = some (.int .i64 0) := by rw [Lib.cell_of_heap HZw.out]; rfl
    have z2 : wc.cell? ⟨Z, 2, none⟩ = some (.int .i64 0) := by rw [Lib.cell_of_heap HZw.out]; rfl
    have z3 : wc.cell? ⟨Z, 3, none⟩ = some (.string ⟨#[]⟩) := by rw [Lib.cell_of_heap HZw.out]; rfl
    have zf0 := Lib.frozen_of_heap HZw.out 0
    have zf1 := Lib.frozen_of_heap HZw.out 1
    have zf2 := Lib.frozen_of_heap HZw.out 2
    have zf3 := Lib.frozen_of_heap HZw.out 3
    have BZ : ∀ (W : World) (a b c d : Value), Below w.heap.size w W → Below w.heap.size w ((((W.setCell ⟨Z, 0, none⟩ a).setCell ⟨Z, 1, none⟩ b).setCell ⟨Z, 2, none⟩ c).setCell ⟨Z, 3, none⟩ d) := fun W a b c d h => (((h.setCell (p := ⟨Z, 0, none⟩) hzw _).setCell (p := ⟨Z, 1, none⟩) hzw _).setCell (p := ⟨Z, 2, none⟩) hzw _).setCell (p := ⟨Z, 3, none⟩) hzw _
    cases hX : (vT [] 24 T).off with
    | some oo =>
      have hs := HSV.out
      unfold SeenV at hs
      rw [hX] at hs
      obtain ⟨op, oc⟩ := oo
      dsimp only at hs
      obtain ⟨rfl, rfl⟩ := hs
      have hoc : code2 ≠ 0 := vT_code [] 24 T _ hX
      have q1 : (code2 != 0) = true := by simpa using hoc
      have HCK : Hid (ckT T = (p2, code2)) := by unfold Hid ckT; rw [hX]
      have HBZ : Hid (Below w.heap.size w ((((wc.setCell ⟨Z, 0, none⟩ (.slice none 0 0)).setCell ⟨Z, 1, none⟩ (.int .i64 0)).setCell ⟨Z, 2, none⟩ (.int .i64 code2)).setCell ⟨Z, 3, none⟩ (.string p2))) := BZ wc _ _ _ _ HBx.out
      clear hX
      go_wp2
      refine exit_look HZw.out rfl ?_
      refine ⟨?_, HBZ.out⟩
      rw [HCK.out, if_pos hoc]
    | none =>
      have hs := HSV.out
      unfold SeenV at hs
      rw [hX] at hs
      obtain ⟨rfl, rfl, rfl, RR⟩ := hs
      have HCK : Hid ((ckT T).2 = 0) := by unfold Hid ckT; rw [hX]
      have HBY : Hid ((vT [] 24 T).bytes = 24 + tbT T) := vT_bytes [] 24 T hX
      have HRR : Hid (Rws 125 (wc.setCell ⟨G, 3, none⟩ (.string ⟨#[]⟩)) w1.heap.size (.slice x2 (rwT [] T).length c2) (rwT [] T)) := RR.over HG.out (by decide) 3 _
      have HG3 : Hid ((wc.setCell ⟨G, 3, none⟩ (.string ⟨#[]⟩)).heap[G]? = some (.cells #[.slice x2 (rwT [] T).length c2, .int .i64 (vT [] 24 T).bytes, .int .i64 0, .string ⟨#[]⟩] 77 (0, 0))) := by
        have := HG.out
        unfold Hid
        simp [World.setCell, Array.getElem?_modify, this]
      have HZ3 : Hid ((wc.setCell ⟨G, 3, none⟩ (.string ⟨#[]⟩)).heap[Z]? = some (.cells #[.slice none 0 0, .int .i64 0, .int .i64 0, .string ⟨#[]⟩] 77 (0, 0))) := (Below.heap_setCell _ _ _ Z hZG).trans HZw.out
      have HB3 : Hid (Below w.heap.size w (wc.setCell ⟨G, 3, none⟩ (.string ⟨#[]⟩))) := HBx.out.setCell (p := ⟨G, 3, none⟩) (by show _ ≤ G; omega) _
      clear hX RR HSV
      go_upto_region 5 with fail
      generalize wc.setCell ⟨G, 3, none⟩ (.string ⟨#[]⟩) = w3 at *
      clear g0 g1 g2 g3 gf3 z0 z1 z2 z3 zf0 zf1 zf2 zf3
      generalize (vT [] 24 T).bytes = BY at *
      have g0 : w3.cell? ⟨G, 0, none⟩ = some (.slice x2 (rwT [] T).length c2) := by rw [Lib.cell_of_heap HG3.out]; rfl
      have g1 : w3.cell? ⟨G, 1, none⟩ = some (.int .i64 BY) := by rw [Lib.cell_of_heap HG3.out]; rfl
      have g2 : w3.cell? ⟨G, 2, none⟩ = some (.int .i64 0) := by rw [Lib.cell_of_heap HG3.out]; rfl
      have g3 : w3.cell? ⟨G, 3, none⟩ = some (.string ⟨#[]⟩) := by rw [Lib.cell_of_heap HG3.out]; rfl
      have z0 : w3.cell? ⟨Z, 0, none⟩ = some (.slice none 0 0) := by rw [Lib.cell_of_heap HZ3.out]; rfl
      have z1 : w3.cell? ⟨Z, 1, none⟩ = some (.int .i64 0) := by rw [Lib.cell_of_heap HZ3.out]; rfl
      have z2 : w3.cell? ⟨Z, 2, none⟩ = some (.int .i64 0) := by rw [Lib.cell_of_heap HZ3.out]; rfl
      have z3 : w3.cell? ⟨Z, 3, none⟩ = some (.string ⟨#[]⟩) := by rw [Lib.cell_of_heap HZ3.out]; rfl
      have zf0 := Lib.frozen_of_heap HZ3.out 0
      have zf1 := Lib.frozen_of_heap HZ3.out 1
      have zf2 := Lib.frozen_of_heap HZ3.out 2
      have zf3 := Lib.frozen_of_heap HZ3.out 3
      have HBZ : Hid (Below w.heap.size w ((((w3.setCell ⟨Z, 0, none⟩ (.slice x2 (rwT [] T).length c2)).setCell ⟨Z, 1, none⟩ (.int .i64 BY)).setCell ⟨Z, 2, none⟩ (.int .i64 0)).setCell ⟨Z, 3, none⟩ (.string ⟨#[]⟩))) := BZ w3 _ _ _ _ HB3.out
      have HRZ : Hid (Rws 125 ((((w3.setCell ⟨Z, 0, none⟩ (.slice x2 (rwT [] T).length c2)).setCell ⟨Z, 1, none⟩ (.int .i64 BY)).setCell ⟨Z, 2, none⟩ (.int .i64 0)).setCell ⟨Z, 3, none⟩ (.string ⟨#[]⟩)) w.heap.size (.slice x2 (rwT [] T).length c2) (rwT [] T)) := by
        refine Rws.up (B := w1.heap.size) (HRR.out.same fun kk hk => ?_) (by omega)
        have hne : kk ≠ Z := fun e9 => by have := (World.ownsRow.lt HRR.out kk hk).1; omega
        exact (Below.heap_setCell _ ⟨Z, 3, none⟩ _ kk hne).trans ((Below.heap_setCell _ ⟨Z, 2, none⟩ _ kk hne).trans ((Below.heap_setCell _ ⟨Z, 1, none⟩ _ kk hne).trans (Below.heap_setCell _ ⟨Z, 0, none⟩ _ kk hne)))
      go_wp2
      refine exit_look HZ3.out rfl ?_
      refine ⟨?_, HBZ.out⟩
      rw [if_neg (by rw [HCK.out]; decide), ← HBY.out]
      exact ⟨x2, c2, rfl, HRZ.out⟩

end Go.Proofs.Ytpbgmknebhnonaa
