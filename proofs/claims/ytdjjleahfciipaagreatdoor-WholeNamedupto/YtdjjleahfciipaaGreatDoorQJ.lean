/- Gathered: ScB. -/
import Derived.Laws.Append
import Derived.Laws.IdiomCopy
import Derived.Deep.Upon
import Derived.Lib.AppendZeros
import Derived.OwnWalk
import Derived.BigQuiet
import Derived.Test.YtdjjleahfciipaaGreatDoorQI
/- scan's window: kept, take, keep, walked (own text of the verifier). -/
namespace Go.Proofs.YtdjjleahfciipaaGreatDoor
namespace Sc
open Go.RowKit

def bv (l : List UInt8) : List Value := l.map fun b => .int .u8 (b.toNat : Int)
theorem bv_len (l : List UInt8) : (bv l).length = l.length := List.length_map ..
theorem bv_at {l : List UInt8} {j : Nat} {v : Value} (h : (bv l)[j]? = some v) : ∃ b, l[j]? = some b ∧ v = .int .u8 (b.toNat : Int) := by
  unfold bv at h
  rw [List.getElem?_map] at h
  cases e : l[j]? with
  | none => rw [e] at h; cases h
  | some b => rw [e] at h; exact ⟨b, rfl, (Option.some.inj h).symm⟩
theorem bv_one (l : List UInt8) : ∀ v ∈ bv l, v.oneCell' = true := fun v hv => by
  obtain ⟨b, _, rfl⟩ := List.mem_map.1 hv
  rfl
/-- Block g begins with a window: n bytes taken in, these in hand. -/
structure Win (W : World) (g n : Nat) (kept : List UInt8) : Prop where
  c0 : W.cell? ⟨g, 0, none⟩ = some (.int .i64 (n : Int))
  f0 : W.frozen? ⟨g, 0, none⟩ = false
  c1 : W.cell? ⟨g, 1, none⟩ = some (.int .i64 (kept.length : Int))
  f1 : W.frozen? ⟨g, 1, none⟩ = false
  kp : ∀ i b, kept[i]? = some b → W.cell? ⟨g, 2 + i, none⟩ = some (.int .u8 (b.toNat : Int))
  rm : ∀ i, i < 31 → (W.cell? ⟨g, 2 + i, none⟩).isSome = true
  fr : ∀ i, i < 31 → W.frozen? ⟨g, 2 + i, none⟩ = false
  sh : kept.length ≤ 31
theorem Win.lt {W : World} {g n : Nat} {kept : List UInt8} (h : Win W g n kept) : g < W.heap.size := World.block_lt_of_cell? _ _ h.c0
theorem Win.same {W W' : World} {g n : Nat} {kept : List UInt8} (h : Win W g n kept) (e : W'.heap[g]? = W.heap[g]?) : Win W' g n kept := by
  have c : ∀ i, W'.cell? ⟨g, i, none⟩ = W.cell? ⟨g, i, none⟩ := fun i => World.cell?_of_block (w := W) (w' := W') (a := ⟨g, i, none⟩) e
  have f : ∀ i, W'.frozen? ⟨g, i, none⟩ = W.frozen? ⟨g, i, none⟩ := fun i => World.frozen?_of_block (w := W) (w' := W') (a := ⟨g, i, none⟩) e
  exact ⟨(c 0).trans h.c0, (f 0).trans h.f0, (c 1).trans h.c1, (f 1).trans h.f1, fun i b hb => (c _).trans (h.kp i b hb), fun i hi => by rw [c]; exact h.rm i hi, fun i hi => (f _).trans (h.fr i hi), h.sh⟩
theorem Win.below {W W' : World} {g n : Nat} {kept : List UInt8} (h : Win W g n kept) (b : Below W.heap.size W W') : Win W' g n kept := h.same (b.block g h.lt)
theorem Win.set0 {W : World} {g n : Nat} {kept : List UInt8} (h : Win W g n kept) (m : Nat) : Win (W.setCell ⟨g, 0, none⟩ (.int .i64 (m : Int))) g m kept := by
  have c : ∀ i, i ≠ 0 → (W.setCell ⟨g, 0, none⟩ (.int .i64 (m : Int))).cell? ⟨g, i, none⟩ = W.cell? ⟨g, i, none⟩ := fun i hi => World.cell?_setCell_other _ _ _ _ (by intro q; injection q with _ q; exact hi q.symm)
  exact ⟨World.cell?_setCell_same _ _ _ h.c0, by rw [World.frozen?_setCell]; exact h.f0, (c 1 (by omega)).trans h.c1, by rw [World.frozen?_setCell]; exact h.f1, fun i b hb => (c _ (by omega)).trans (h.kp i b hb), fun i hi => by rw [c _ (by omega)]; exact h.rm i hi, fun i hi => by rw [World.frozen?_setCell]; exact h.fr i hi, h.sh⟩
theorem gb_self (W : World) (g : Nat) : W.grownBy W (some g) := ⟨rfl, rfl, rfl, Nat.le_refl _, fun _ _ _ => rfl⟩
theorem gb_tr {a b c : World} {r : Option Nat} (h1 : a.grownBy b r) (h2 : b.grownBy c r) : a.grownBy c r :=
  ⟨h2.os.trans h1.os, h2.tape.trans h1.tape, h2.output.trans h1.output, Nat.le_trans h1.size h2.size, fun i hi hr => (h2.block i (Nat.lt_of_lt_of_le hi h1.size) hr).trans (h1.block i hi hr)⟩
theorem gb_setC (W : World) (g i : Nat) (v : Value) : W.grownBy (W.setCell ⟨g, i, none⟩ v) (some g) :=
  ⟨rfl, rfl, rfl, by rw [World.size_setCell]; exact Nat.le_refl _, fun k _ hk => Below.heap_setCell W ⟨g, i, none⟩ v k (fun e => hk (by rw [e]))⟩
theorem gb_of {a b : World} (h : Below a.heap.size a b) (g : Nat) : a.grownBy b (some g) := ⟨h.os, h.tape, h.output, h.size, fun k hk _ => h.block k hk⟩

theorem kept_any (g n : Nat) (kept : List UInt8) (w : World) (h : Win w g n kept) :
    Calls Tryz.prog 59 #[.pointer (some ⟨g, 0, none⟩)] w fun e w' => e = .returned (.slice (some ⟨g, 2, none⟩) kept.length kept.length) ∧ ∃ q, w' = w.drewN q := by
  have c1 := h.c1
  have h1 := h.sh
  have h2 : (kept.length : Int) ≤ 31 := by omega
  generalize kept.length = m at *
  clear h
  go_enter Tryz.func59, Tryz.ntmps59
  go_wp2
  go_quiet (fail)
  go_wp2
  go_ret
  exact ⟨rfl, _, rfl⟩

theorem und30 : Tryz.prog.underlying 45 = some (.slice 5) := by kernel_rfl
theorem info5 : (Tryz.prog.info? 5).map (fun i => (i.zero, i.size, i.bytes)) = some (some (.int .u8 0), 1, 1) := by kernel_rfl
theorem one5 : (Tryz.prog.info? 5).map (·.size) = some 1 := by kernel_rfl
theorem Txt.at {W : World} {v : Value} {l : List UInt8} (h : Txt W v l) (hl : 0 < l.length) : ∃ a o c, v = .slice (some ⟨a, o, none⟩) l.length c ∧ a < W.heap.size ∧ (∀ i b, l[i]? = some b → W.cell? ⟨a, o + i, none⟩ = some (.int .u8 (b.toNat : Int))) ∧ l.length ≤ c := by
  obtain ⟨x, c, rfl, hc, hlc⟩ := h
  obtain ⟨a, o, rfl, c0⟩ := hc 0 _ (List.getElem?_eq_getElem hl)
  refine ⟨a, o, c, rfl, World.block_lt_of_cell? _ _ c0, fun i b hb => ?_, hlc⟩
  obtain ⟨a', o', e, c1⟩ := hc i b hb
  injection e with e
  injection e with e1 e2
  rw [e1, e2]
  exact c1
theorem Txt.mk {W : World} {a o c : Nat} {l : List UInt8} (hlc : l.length ≤ c) (h : ∀ i b, l[i]? = some b → W.cell? ⟨a, o + i, none⟩ = some (.int .u8 (b.toNat : Int))) : Txt W (.slice (some ⟨a, o, none⟩) l.length c) l := ⟨_, c, rfl, fun i b hb => ⟨a, o, rfl, h i b hb⟩, hlc⟩
theorem Txt.len {W : World} {v : Value} {l : List UInt8} (h : Txt W v l) : ∃ x c, v = .slice x l.length c := by obtain ⟨x, c, e, _⟩ := h; exact ⟨x, c, e⟩
theorem Txt.below {W W' : World} {v : Value} {l : List UInt8} (h : Txt W v l) (b : Below W.heap.size W W') : Txt W' v l := by
  obtain ⟨x, c, e, hc, hlc⟩ := h
  refine ⟨x, c, e, fun i y hy => ?_, hlc⟩
  obtain ⟨a, o, h1, h2⟩ := hc i y hy
  exact ⟨a, o, h1, (b.cell (p := ⟨a, o + i, none⟩) (World.block_lt_of_cell? _ _ h2)).trans h2⟩

theorem txt_new (W : World) (ty : TypeId) (l : List UInt8) (Z : Array Value) (c : Nat) (hlc : l.length ≤ c) : Txt (W.alloc (.cells ((bv l).toArray ++ Z) ty)) (.slice (some ⟨W.heap.size, 0, none⟩) l.length c) l := by
  refine Txt.mk hlc fun i b hb => ?_
  rw [Nat.zero_add, Lib.cell_of_heap (heap_alloc_new W _)]
  have hb2 : (bv l)[i]? = some (.int .u8 (b.toNat : Int)) := by unfold bv; rw [List.getElem?_map, hb]; rfl
  have hi2 : i < (bv l).length := (List.getElem?_eq_some_iff.1 hb2).1
  rw [Array.getElem?_append_left (by simpa using hi2)]
  simpa using hb2
/-- append(kept, p...). -/
theorem app_any (g n : Nat) (kept : List UInt8) (v : Value) (p : List UInt8) (w : World) (h : Win w g n kept) (hp : Txt w v p) (hl : p.length ≤ 1073741824) (ty : TypeId) :
    ∃ x c w', (Builtin.append_ #[45, 45] ty #[.slice (some ⟨g, 2, none⟩) kept.length kept.length, v]).run Tryz.prog w = .ok (.slice x (kept ++ p).length c) w' ∧ Txt w' (.slice x (kept ++ p).length c) (kept ++ p) ∧ Below w.heap.size w w' ∧ ((p = [] ∧ x = some ⟨g, 2, none⟩ ∧ w' = w) ∨ ∃ b, x = some ⟨b, 0, none⟩ ∧ w.heap.size ≤ b ∧ p ≠ []) := by
  obtain ⟨i0, hi, hz0, hz1, hz2⟩ := info_parts info5
  by_cases hz : p.length = 0
  · obtain rfl : p = [] := List.eq_nil_of_length_eq_zero hz
    obtain ⟨x, c, rfl, _⟩ := hp
    refine ⟨some ⟨g, 2, none⟩, kept.length, w, ?_, ?_, Below.refl _ _, .inl ⟨rfl, rfl, rfl⟩⟩
    · rw [List.append_nil]
      exact run_append_nothing (P := Tryz.prog) w 45 45 ty 5 i0 und30 hi _ _ _ (Nat.le_refl _) _ (by
        cases x with
        | none => exact Src.ofNil w und30 c
        | some a => exact Src.ofSlice w und30 a 0 c [] (by simp) (fun j u hj => by cases hj) (fun u hu => by cases hu))
    · rw [List.append_nil]
      exact Txt.mk (Nat.le_refl _) fun i b hb => h.kp i b hb
  · obtain ⟨a, o, c, rfl, ha, hc, _⟩ := hp.at (by omega)
    have hr := run_append_grow (P := Tryz.prog) w 45 ty 5 i0 (.int .u8 0) und30 hi hz0 ⟨g, 2, none⟩ kept.length kept.length (bv kept) (by rw [bv_len, hz1, Nat.mul_one]) (fun j v hv => by
        obtain ⟨b, hb, rfl⟩ := bv_at hv
        rw [Addr.add_lit]
        exact h.kp j b hb) ⟨a, o, none⟩ p.length c (bv p) (by rw [bv_len, hz1, Nat.mul_one]) (fun j v hv => by
        obtain ⟨b, hb, rfl⟩ := bv_at hv
        rw [Addr.add_lit]
        exact hc j b hb) (by omega) (by have := h.sh; omega) (by rw [hz2]; exact growslice_fits (by omega) (by have := h.sh; omega))
    have hls : (kept ++ p).length = kept.length + p.length := List.length_append
    have e : (bv kept).toArray ++ (bv p).toArray = (bv (kept ++ p)).toArray := by unfold bv; simp
    rw [e, ← hls] at hr
    exact ⟨_, _, _, hr, txt_new w.drew 5 (kept ++ p) _ _ (by rw [hls]; exact grownCap_ge w _ _ _), ((Below.refl _ _).drew).alloc (by simp) _, .inr ⟨_, rfl, Nat.le_refl _, fun e => hz (by rw [e]; rfl)⟩⟩

set_option maxHeartbeats 1000000 in
theorem take_any (g n : Nat) (kept : List UInt8) (v : Value) (p : List UInt8) (w : World) (h : Win w g n kept) (hp : Txt w v p) (hpg : ∀ x l c, v = .slice (some x) l c → x.block ≠ g) (hl : p.length ≤ 1073741824) (hn : n ≤ 1099511627776) :
    Calls Tryz.prog 31 #[.pointer (some ⟨g, 0, none⟩), v] w fun e w' => ∃ x c, e = .returned (.slice x (kept ++ p).length c) ∧ Txt w' (.slice x (kept ++ p).length c) (kept ++ p) ∧ Win w' g (n + p.length) kept ∧ w.grownBy w' (some g) ∧ ((p = [] ∧ x = some ⟨g, 2, none⟩) ∨ ∃ b, x = some ⟨b, 0, none⟩ ∧ w.heap.size ≤ b ∧ p ≠ []) ∧ ∀ i, 33 ≤ i → w'.cell? ⟨g, i, none⟩ = w.cell? ⟨g, i, none⟩ ∧ w'.frozen? ⟨g, i, none⟩ = w.frozen? ⟨g, i, none⟩ := by
  obtain ⟨xp, cp, hv⟩ := hp.len
  subst hv
  obtain ⟨m, hm⟩ : ∃ m, n + p.length = m := ⟨_, rfl⟩
  have hm1 : (n : Int) + (p.length : Int) = (m : Int) := by omega
  have hm2 : IntKind.i64.wrap (m : Int) = (m : Int) := by rw [IntKind.wrap_i64]; omega
  have HW : Hid (Win (w.setCell ⟨g, 0, none⟩ (.int .i64 (m : Int))) g m kept) := h.set0 m
  have HP : Hid (Txt (w.setCell ⟨g, 0, none⟩ (.int .i64 (m : Int))) (.slice xp p.length cp) p) := by
    obtain ⟨x, c, e, hc, hlc⟩ := hp
    injection e with e1 _ e3
    subst e1; subst e3
    refine ⟨xp, cp, rfl, fun i b hb => ?_, hlc⟩
    obtain ⟨a, o, e2, h2⟩ := hc i b hb
    subst e2
    have hne : a ≠ g := hpg _ _ _ rfl
    exact ⟨a, o, rfl, (World.cell?_setCell_other _ _ _ _ (by intro q; injection q with q; exact hne q.symm)).trans h2⟩
  have HG : Hid (w.grownBy (w.setCell ⟨g, 0, none⟩ (.int .i64 (m : Int))) (some g) ∧ ∀ i, 33 ≤ i → (w.setCell ⟨g, 0, none⟩ (.int .i64 (m : Int))).cell? ⟨g, i, none⟩ = w.cell? ⟨g, i, none⟩ ∧ (w.setCell ⟨g, 0, none⟩ (.int .i64 (m : Int))).frozen? ⟨g, i, none⟩ = w.frozen? ⟨g, i, none⟩) := ⟨gb_setC _ _ _ _, fun i hi => ⟨World.cell?_setCell_other _ _ _ _ (by intro q; injection q with _ q; omega), World.frozen?_setCell _ _ _ _⟩⟩
  have c0 := h.c0
  have f0 := h.f0
  have HM : Hid (n + p.length = m) := hm
  clear h hp hpg hm
  generalize hpl : p.length = pl at *
  go_enter Tryz.func31, Tryz.ntmps31
  go_wp2_with fail
  generalize w.setCell ⟨g, 0, none⟩ (.int .i64 (m : Int)) = w1 at *
  refine (kept_any g m kept w1 HW.out).mono ?_
  rintro e w2 ⟨rfl, q, rfl⟩
  have HW2 : Hid (Win (w1.drewN q) g m kept) := HW.out.below (bel_drewN (Below.refl _ _) q)
  have HP2 : Hid (Txt (w1.drewN q) (.slice xp pl cp) p) := HP.out.below (bel_drewN (Below.refl _ _) q)
  have HG2 : Hid (w.grownBy (w1.drewN q) (some g) ∧ ∀ i, 33 ≤ i → (w1.drewN q).cell? ⟨g, i, none⟩ = w.cell? ⟨g, i, none⟩ ∧ (w1.drewN q).frozen? ⟨g, i, none⟩ = w.frozen? ⟨g, i, none⟩) := ⟨gb_tr HG.out.1 (gb_of (bel_drewN (Below.refl _ _) q) g), HG.out.2⟩
  clear HW HP HG c0 f0
  generalize w1.drewN q = w3 at *
  obtain ⟨x, c, w4, hr, ht, hb, hx⟩ := app_any g m kept (.slice xp pl cp) p w3 HW2.out HP2.out (by omega) 45
  go_wp2_with (at_builtin; refine Lib.wpList_append_run _ rfl _ _ _ _ rfl _ _ rfl rfl _ _ hr ?_)
  go_ret
  have hlen : (kept ++ p).length = kept.length + pl := by rw [List.length_append, hpl]
  refine ⟨x, c, by rw [hlen]; rfl, ht, by rw [HM.out]; exact HW2.out.below hb, gb_tr HG2.out.1 (gb_of hb g), ?_, fun i hi => ⟨(hb.cell (p := ⟨g, i, none⟩) HW2.out.lt).trans (HG2.out.2 i hi).1, (hb.frozen (p := ⟨g, i, none⟩) HW2.out.lt).trans (HG2.out.2 i hi).2⟩⟩
  rcases hx with ⟨h1, h2, _⟩ | ⟨b, h1, h2, h3⟩
  · exact .inl ⟨h1, h2⟩
  · exact .inr ⟨b, h1, Nat.le_trans HG2.out.1.size h2, h3⟩

theorem setCells_same (w : World) (g o : Nat) (cs : List Value) (k : Nat) (hk : k ≠ g) : (w.setCells g o cs).heap[k]? = w.heap[k]? := by
  induction cs generalizing o w with
  | nil => rfl
  | cons v vs ih => exact (ih (w.setCell ⟨g, o, none⟩ v) (o + 1)).trans (Below.heap_setCell w ⟨g, o, none⟩ v k hk)
theorem setCells_below (w : World) (g o : Nat) (cs : List Value) : w.grownBy (w.setCells g o cs) (some g) := by
  have h : ∀ (cs : List Value) (o : Nat) (w : World), (w.setCells g o cs).os = w.os ∧ (w.setCells g o cs).tape = w.tape ∧ (w.setCells g o cs).output = w.output ∧ (w.setCells g o cs).heap.size = w.heap.size := by
    intro cs
    induction cs with
    | nil => intro o w; exact ⟨rfl, rfl, rfl, rfl⟩
    | cons v vs ih =>
      intro o w
      obtain ⟨a, b, c, d⟩ := ih (o + 1) (w.setCell ⟨g, o, none⟩ v)
      exact ⟨a, b, c, d.trans (World.size_setCell _ _ _)⟩
  obtain ⟨a, b, c, d⟩ := h cs o w
  exact ⟨a, b, c, by rw [d]; exact Nat.le_refl _, fun k _ hk => setCells_same w g o cs k (fun e => hk (by rw [e]))⟩

/-- copy(room, rest). -/
theorem cpy_any (g n : Nat) (kept : List UInt8) (v : Value) (r : List UInt8) (w : World) (h : Win w g n kept) (hr : Txt w v r) (hl : r.length ≤ 31) (ty : TypeId) :
    ∃ w', (Builtin.copy_ #[45, 45] ty #[.slice (some ⟨g, 2, none⟩) 31 31, v]).run Tryz.prog w = .ok (goInt r.length) w' ∧ w.grownBy w' (some g) ∧ Win (w'.setCell ⟨g, 1, none⟩ (.int .i64 (r.length : Int))) g n r ∧ w'.cell? ⟨g, 1, none⟩ = some (.int .i64 (kept.length : Int)) ∧ w'.frozen? ⟨g, 1, none⟩ = false ∧ ∀ i, 33 ≤ i → w'.cell? ⟨g, i, none⟩ = w.cell? ⟨g, i, none⟩ ∧ w'.frozen? ⟨g, i, none⟩ = w.frozen? ⟨g, i, none⟩ := by
  have key : ∀ w', w.grownBy w' (some g) → (∀ i, i < 2 → w'.cell? ⟨g, i, none⟩ = w.cell? ⟨g, i, none⟩) → (∀ i, w'.frozen? ⟨g, i, none⟩ = w.frozen? ⟨g, i, none⟩) → (∀ i b, r[i]? = some b → w'.cell? ⟨g, 2 + i, none⟩ = some (.int .u8 (b.toNat : Int))) → (∀ i, i < 31 → (w'.cell? ⟨g, 2 + i, none⟩).isSome = true) → Win (w'.setCell ⟨g, 1, none⟩ (.int .i64 (r.length : Int))) g n r ∧ w'.cell? ⟨g, 1, none⟩ = some (.int .i64 (kept.length : Int)) ∧ w'.frozen? ⟨g, 1, none⟩ = false := by
    intro w' _ h2 h3 h4 h5
    have c1 : w'.cell? ⟨g, 1, none⟩ = some (.int .i64 (kept.length : Int)) := (h2 1 (by omega)).trans h.c1
    have c : ∀ i, i ≠ 1 → (w'.setCell ⟨g, 1, none⟩ (.int .i64 (r.length : Int))).cell? ⟨g, i, none⟩ = w'.cell? ⟨g, i, none⟩ := fun i hi => World.cell?_setCell_other _ _ _ _ (by intro q; injection q with _ q; exact hi q.symm)
    refine ⟨⟨(c 0 (by omega)).trans ((h2 0 (by omega)).trans h.c0), by rw [World.frozen?_setCell, h3]; exact h.f0, World.cell?_setCell_same _ _ _ c1, by rw [World.frozen?_setCell, h3]; exact h.f1, fun i b hb => (c _ (by omega)).trans (h4 i b hb), fun i hi => by rw [c _ (by omega)]; exact h5 i hi, fun i hi => by rw [World.frozen?_setCell, h3]; exact h.fr i hi, hl⟩, c1, by rw [h3]; exact h.f1⟩
  by_cases hz : r.length = 0
  · obtain rfl : r = [] := List.eq_nil_of_length_eq_zero hz
    obtain ⟨x, c, rfl, _⟩ := hr
    exact ⟨w, run_copy_none (P := Tryz.prog) w 45 45 ty 5 _ _ 31 31 0 c und30 one5 (by simp), gb_self w g, (key w (gb_self w g) (fun _ _ => rfl) (fun _ => rfl) (fun i b hb => by simp at hb) h.rm).1, h.c1, h.f1, fun _ _ => ⟨rfl, rfl⟩⟩
  · obtain ⟨a, o, c, rfl, ha, hc, _⟩ := hr.at (by omega)
    have hrun := run_copy_cells (P := Tryz.prog) w 45 45 ty 5 g 2 31 31 ⟨a, o, none⟩ r.length c (bv r) und30 one5 (by rw [bv_len]; exact (Nat.min_eq_left (by omega)).symm) (fun j v hv => by
      obtain ⟨b, hb, rfl⟩ := bv_at hv
      rw [Addr.add_lit]
      exact hc j b hb) (fun j hj => by rw [bv_len] at hj; exact h.rm j (by omega)) (fun j hj => by rw [bv_len] at hj; exact h.fr j (by omega)) (bv_one r)
    rw [bv_len] at hrun
    have hin : ∀ i b, r[i]? = some b → (w.setCells g 2 (bv r)).cell? ⟨g, 2 + i, none⟩ = some (.int .u8 (b.toNat : Int)) := fun i b hb => by
      have hil : i < (bv r).length := by rw [bv_len]; exact (List.getElem?_eq_some_iff.1 hb).1
      rw [World.cell?_setCells_in g (bv r) 2 w (fun j hj => by rw [bv_len] at hj; exact h.rm j (by omega)) i hil, ← List.getElem?_eq_getElem hil]
      unfold bv; rw [List.getElem?_map, hb]; rfl
    have hout : ∀ i, i < 2 ∨ 2 + r.length ≤ i → (w.setCells g 2 (bv r)).cell? ⟨g, i, none⟩ = w.cell? ⟨g, i, none⟩ := fun i hi => World.cell?_setCells_out g (bv r) 2 w _ (fun _ _ => by rw [bv_len]; exact hi)
    have K := key _ (setCells_below w g 2 (bv r)) (fun i hi => hout i (.inl hi)) (fun i => World.frozen?_setCells _ _ _ _ _) hin (fun i hi => ?_)
    exact ⟨_, hrun, setCells_below w g 2 (bv r), K.1, K.2.1, K.2.2, fun i hi => ⟨hout i (.inr (by omega)), World.frozen?_setCells _ _ _ _ _⟩⟩
    by_cases e : i < r.length
    · rw [hin i _ (List.getElem?_eq_getElem e)]; rfl
    · rw [hout _ (.inr (by omega))]; exact h.rm i hi

set_option maxHeartbeats 1000000 in
theorem keep_any (g n : Nat) (kept : List UInt8) (v : Value) (r : List UInt8) (w : World) (h : Win w g n kept) (hr : Txt w v r) (hl : r.length ≤ 31) :
    Calls Tryz.prog 35 #[.pointer (some ⟨g, 0, none⟩), v] w fun e w' => e = .returned (.tuple #[]) ∧ Win w' g n r ∧ w.grownBy w' (some g) ∧ ∀ i, 33 ≤ i → w'.cell? ⟨g, i, none⟩ = w.cell? ⟨g, i, none⟩ ∧ w'.frozen? ⟨g, i, none⟩ = w.frozen? ⟨g, i, none⟩ := by
  obtain ⟨w1, hrun, hg, hw, c1, f1, hhi⟩ := cpy_any g n kept v r w h hr hl 3
  go_enter Tryz.func35, Tryz.ntmps35
  go_wp2
  go_end0
  exact ⟨rfl, hw, gb_tr hg (gb_setC _ _ _ _), fun i hi => ⟨(World.cell?_setCell_other _ _ _ _ (by intro q; injection q with _ q; omega)).trans (hhi i hi).1, (World.frozen?_setCell _ _ _ _).trans (hhi i hi).2⟩⟩

end Sc
end Go.Proofs.YtdjjleahfciipaaGreatDoor
