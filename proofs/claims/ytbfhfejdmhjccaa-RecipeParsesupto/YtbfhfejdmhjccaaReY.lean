/- Parse, walked. -/
import Derived.Test.YtbfhfejdmhjccaaReX
import Derived.Deep.Cut
namespace Go.Proofs.Ytbfhfejdmhjccaa
open Go.RowKit

/-- What Parse leaves. -/
def ParseP (s : List UInt8) (w : World) (e : Ending) (w' : World) : Prop :=
  (match prs s with
  | .ok r _ => ∃ vd vs, e = .returned (.tuple #[.agg #[.string (ba r.nm), vd, vs], .nilIface]) ∧ TxS w' w.heap.size vd r.ds ∧ StS w' w.heap.size vs r.ss
  | .bad l => ∃ k, w.heap.size ≤ k ∧ e = .returned (.tuple #[.agg #[.string ⟨#[]⟩, .slice none 0 0, .slice none 0 0], .iface 48 (.pointer (some ⟨k, 0, none⟩))]) ∧ w'.heap[k]? = some (.cells #[.int .i64 210, .int .i64 ((s.length - l.length : Nat) : Int)] 40 (0, 0))) ∧ Below w.heap.size w w'

set_option maxHeartbeats 8000000 in
set_option maxRecDepth 10000 in
theorem parse_any (s : List UInt8) (w : World) (hs : s.length ≤ 16777216) :
    Calls Try.prog 9 #[.string (ba s)] w fun e w' => ParseP s w e w' := by
  have hmf : ∀ (fn : Fn) (first cap : Array Value) (w : World), (Instr.makeFunc fn first cap).run Try.prog w = .ok (.func fn first cap) w := fun _ _ _ _ => rfl
  have hsz := ba_size s
  have e1 : (w.alloc (.cells #[.string ⟨#[]⟩, .slice none 0 0, .slice none 0 0] 26)).heap.size = w.heap.size + 1 := World.size_alloc _ _
  have e2 : ((w.alloc (.cells #[.string ⟨#[]⟩, .slice none 0 0, .slice none 0 0] 26)).alloc (.cells #[.nilIface] 28)).heap.size = w.heap.size + 2 := by rw [World.size_alloc, e1]
  go_enter_defers Try.func9, Try.ntmps9
  go_wp2_with fail
  have b0 : Below w.heap.size w (((w.alloc (.cells #[.string ⟨#[]⟩, .slice none 0 0, .slice none 0 0] 26)).alloc (.cells #[.nilIface] 28)).alloc (.cells #[.string (ba s), .int .i64 0] 52)) := (((Below.refl _ _).alloc (Nat.le_refl _) _).alloc (by rw [e1]; omega) _).alloc (by rw [e2]; omega) _
  have R0 : St3 (((w.alloc (.cells #[.string ⟨#[]⟩, .slice none 0 0, .slice none 0 0] 26)).alloc (.cells #[.nilIface] 28)).alloc (.cells #[.string (ba s), .int .i64 0] 52)) w.heap.size (.string ⟨#[]⟩) (.slice none 0 0) (.slice none 0 0) := (St3.new w _ _ _).same ((Below.heap_alloc _ _ _ (by rw [e2]; omega)).trans (Below.heap_alloc _ _ _ (by rw [e1]; omega)))
  have Q0 : (((w.alloc (.cells #[.string ⟨#[]⟩, .slice none 0 0, .slice none 0 0] 26)).alloc (.cells #[.nilIface] 28)).alloc (.cells #[.string (ba s), .int .i64 0] 52)).heap[w.heap.size + 1]? = some (.cells #[.nilIface] 28 (0, 0)) := by
    refine (Below.heap_alloc _ _ _ (by rw [e2]; omega)).trans ?_
    rw [← e1]
    exact Array.getElem?_push_size
  have P0 : Ps (((w.alloc (.cells #[.string ⟨#[]⟩, .slice none 0 0, .slice none 0 0] 26)).alloc (.cells #[.nilIface] 28)).alloc (.cells #[.string (ba s), .int .i64 0] 52)) (w.heap.size + 2) s s := by
    refine ⟨?_, [], rfl⟩
    rw [Nat.sub_self, ← e2]
    exact Array.getElem?_push_size
  have z0 : (((w.alloc (.cells #[.string ⟨#[]⟩, .slice none 0 0, .slice none 0 0] 26)).alloc (.cells #[.nilIface] 28)).alloc (.cells #[.string (ba s), .int .i64 0] 52)).heap.size = w.heap.size + 3 := by rw [World.size_alloc, e2]
  clear e1 e2
  generalize ((w.alloc (.cells #[.string ⟨#[]⟩, .slice none 0 0, .slice none 0 0] 26)).alloc (.cells #[.nilIface] 28)).alloc (.cells #[.string (ba s), .int .i64 0] 52) = w0 at b0 R0 Q0 P0 z0 ⊢
  have HB0 : Hid (Below w.heap.size w w0) := b0
  have HR0 : Hid (St3 w0 w.heap.size (.string ⟨#[]⟩) (.slice none 0 0) (.slice none 0 0)) := R0
  have HQ0 : Hid (w0.heap[w.heap.size + 1]? = some (.cells #[.nilIface] 28 (0, 0))) := Q0
  have HP0 : Hid (Ps w0 (w.heap.size + 2) s s) := P0
  have Hz : Hid (w0.heap.size = w.heap.size + 3) := z0
  clear b0 R0 Q0 P0 z0
  generalize hr : w.heap.size = r at *
  obtain ⟨q, hq⟩ : ∃ q, q = r + 1 := ⟨_, rfl⟩
  obtain ⟨g, hg⟩ : ∃ g, g = r + 2 := ⟨_, rfl⟩
  rw [← hq] at HQ0
  rw [← hg] at HP0
  rw [← hq, ← hg]
  have Hr : Hid (w.heap.size = r) := hr
  have Hrq : Hid (q = r + 1 ∧ g = r + 2) := ⟨hq, hg⟩
  have h1 : r < q := by omega
  have h2 : q < g := by omega
  clear hr hq hg
  refine (recipe_any g s s (s.length + 1) (by omega) w0 hs HP0.out).mono ?_
  intro e w1 hO
  cases hx : rcp (s.length + 1) s with
  | bad m =>
    rw [hx] at hO
    obtain ⟨rfl, M1⟩ := hO
    have BB : Hid (Below r w w1) := M1.bel HB0.out (by rw [Hz.out]; omega) (by omega)
    have SS : St3 w1 r (.string ⟨#[]⟩) (.slice none 0 0) (.slice none 0 0) := HR0.out.same (M1.block r HR0.out.lt (by omega))
    have QQ : w1.heap[q]? = some (.cells #[.nilIface] 28 (0, 0)) := (M1.block q (by rw [Hz.out]; have := Hrq.out; omega) (by omega)).trans HQ0.out
    clear M1 HR0 HQ0 HP0
    go_wp2
    refine leaves_cons (f := 16) (args := #[.pointer (some ⟨r, 0, none⟩), .pointer (some ⟨q, 0, none⟩)]) (by simp) (by simp [go_sem]) ?_
    refine (catch_broken r q (s.length - m.length) _ _ _ _ w1 SS QQ (by omega)).mono ?_
    rintro e u' w5 ⟨rfl, rfl, k, hk, S5, Q5, K5, Z5, D5, o1, o2, o3⟩
    have B5 : Below r w w5 := BB.out.trans ⟨o1, o2, o3, by rw [Z5]; omega, fun j hj => D5 j (by have := BB.out.size; rw [Hr.out] at this; omega) (by omega) (by omega)⟩
    have s0 := S5.c0
    have s1 := S5.c1
    have s2 := S5.c2
    have s3 : w5.cell? ⟨q, 0, none⟩ = some (.iface 48 (.pointer (some ⟨k, 0, none⟩))) := by rw [Lib.cell_of_heap Q5]; rfl
    have HPS : Hid (prs s = .bad m) := by unfold Hid prs; rw [hx]; rfl
    refine ⟨.tuple #[.agg #[.string ⟨#[]⟩, .slice none 0 0, .slice none 0 0], .iface 48 (.pointer (some ⟨k, 0, none⟩))], by simp [results, Try.results9, go_sem, s0, s1, s2, s3], ?_⟩
    unfold ParseP
    rw [HPS.out]
    exact ⟨⟨k, Nat.le_trans BB.out.size hk, rfl, K5⟩, by rw [Hr.out]; exact B5⟩
  | ok rc m =>
    rw [hx] at hO
    obtain ⟨⟨x, rfl, vd, vs, rfl, TD, TS⟩, P1, M1⟩ := hO
    have B1 : Hid (Below r w w1) := M1.bel HB0.out (by rw [Hz.out]; omega) (by omega)
    have S1 : Hid (St3 w1 r (.string ⟨#[]⟩) (.slice none 0 0) (.slice none 0 0)) := HR0.out.same (M1.block r HR0.out.lt (by omega))
    have Q1 : Hid (w1.heap[q]? = some (.cells #[.nilIface] 28 (0, 0))) := (M1.block q (by rw [Hz.out]; have := Hrq.out; omega) (by omega)).trans HQ0.out
    have HP1 : Hid (Ps w1 g s m) := P1
    have HTD : Hid (TxS w1 (g + 1) vd rc.ds) := TD.up (by rw [Hz.out]; have := Hrq.out; omega)
    have HTS : Hid (StS w1 (g + 1) vs rc.ss) := TS.up (by rw [Hz.out]; have := Hrq.out; omega)
    obtain ⟨pd, cd, rfl⟩ := TD.shape
    obtain ⟨pt, ct, rfl⟩ := TS.shape
    clear M1 P1 HR0 HQ0 HP0 TD TS
    have a0 := S1.out.c0
    have a1 := S1.out.c1
    have a2 := S1.out.c2
    have f0 := S1.out.f 0
    have f1 := S1.out.f 1
    have f2 := S1.out.f 2
    have hset : ∀ j, j ≠ r → (((w1.setCell ⟨r, 0, none⟩ (.string (ba rc.nm))).setCell ⟨r, 1, none⟩ (.slice pd rc.ds.length cd)).setCell ⟨r, 2, none⟩ (.slice pt rc.ss.length ct)).heap[j]? = w1.heap[j]? := fun j hj => (Below.heap_setCell _ ⟨r, 2, none⟩ _ j hj).trans ((Below.heap_setCell _ ⟨r, 1, none⟩ _ j hj).trans (Below.heap_setCell _ ⟨r, 0, none⟩ _ j hj))
    have BB : Hid (Below r w (((w1.setCell ⟨r, 0, none⟩ (.string (ba rc.nm))).setCell ⟨r, 1, none⟩ (.slice pd rc.ds.length cd)).setCell ⟨r, 2, none⟩ (.slice pt rc.ss.length ct))) := ((B1.out.setCell (p := ⟨r, 0, none⟩) (Nat.le_refl _) _).setCell (p := ⟨r, 1, none⟩) (Nat.le_refl _) _).setCell (p := ⟨r, 2, none⟩) (Nat.le_refl _) _
    have S2 : Hid (St3 (((w1.setCell ⟨r, 0, none⟩ (.string (ba rc.nm))).setCell ⟨r, 1, none⟩ (.slice pd rc.ds.length cd)).setCell ⟨r, 2, none⟩ (.slice pt rc.ss.length ct)) r (.string (ba rc.nm)) (.slice pd rc.ds.length cd) (.slice pt rc.ss.length ct)) := ((S1.out.set0 _).set1 _).set2 _
    have Q2 : Hid ((((w1.setCell ⟨r, 0, none⟩ (.string (ba rc.nm))).setCell ⟨r, 1, none⟩ (.slice pd rc.ds.length cd)).setCell ⟨r, 2, none⟩ (.slice pt rc.ss.length ct)).heap[q]? = some (.cells #[.nilIface] 28 (0, 0))) := (hset q (by omega)).trans Q1.out
    have P2 : Hid (Ps (((w1.setCell ⟨r, 0, none⟩ (.string (ba rc.nm))).setCell ⟨r, 1, none⟩ (.slice pd rc.ds.length cd)).setCell ⟨r, 2, none⟩ (.slice pt rc.ss.length ct)) g s m) := HP1.out.same (hset g (by omega))
    have D2 : Hid (TxS (((w1.setCell ⟨r, 0, none⟩ (.string (ba rc.nm))).setCell ⟨r, 1, none⟩ (.slice pd rc.ds.length cd)).setCell ⟨r, 2, none⟩ (.slice pt rc.ss.length ct)) (g + 1) (.slice pd rc.ds.length cd) rc.ds) := HTD.out.same (fun j hj => hset j (by have := (HTD.out.lt j hj).1; omega))
    have T2 : Hid (StS (((w1.setCell ⟨r, 0, none⟩ (.string (ba rc.nm))).setCell ⟨r, 1, none⟩ (.slice pd rc.ds.length cd)).setCell ⟨r, 2, none⟩ (.slice pt rc.ss.length ct)) (g + 1) (.slice pt rc.ss.length ct) rc.ss) := HTS.out.same (fun j hj _ => hset j (by omega))
    clear hset HP1 HTD HTS S1 Q1 B1
    have c1 := P2.out.c1
    have hml := P2.out.le
    have GC := give_any g s m _ P2.out
    have HPS0 : Hid ((Rs.ok rc m).bind (fun r l => if l = [] then Rs.ok r l else Rs.bad l) = prs s) := by unfold Hid prs; rw [hx]
    clear hx
    by_cases hm : m = []
    · have hPS : Hid (prs s = .ok rc []) := by
        unfold Hid
        rw [← HPS0.out]
        show (if m = [] then Rs.ok rc m else Rs.bad m) = _
        rw [if_pos hm, hm]
      have hml0 : m.length = 0 := by rw [hm]; rfl
      have hnl : ¬ ((s.length - m.length : Nat) : Int) < (s.length : Int) := by omega
      clear GC HPS0 c1
      go_upto_region 4 with fail
      generalize ((w1.setCell ⟨r, 0, none⟩ (.string (ba rc.nm))).setCell ⟨r, 1, none⟩ (.slice pd rc.ds.length cd)).setCell ⟨r, 2, none⟩ (.slice pt rc.ss.length ct) = w2 at BB S2 Q2 P2 D2 T2 ⊢
      clear a0 a1 a2 f0 f1 f2
      have c1 := P2.out.c1
      have d0 := S2.out.c0
      have d1 := S2.out.c1
      have d2 := S2.out.c2
      have k0 := S2.out.f 0
      have k1 := S2.out.f 1
      have k2 := S2.out.f 2
      have hrq : r ≠ q := by omega
      have hqr : q ≠ r := by omega
      have y0 : w2.cell? ⟨q, 0, none⟩ = some .nilIface := by rw [Lib.cell_of_heap Q2.out]; rfl
      have y1 : w2.frozen? ⟨q, 0, none⟩ = false := Lib.frozen_of_heap Q2.out 0
      have hset : ∀ j, j ≠ r → j ≠ q → ((((w2.setCell ⟨r, 0, none⟩ (.string (ba rc.nm))).setCell ⟨r, 1, none⟩ (.slice pd rc.ds.length cd)).setCell ⟨r, 2, none⟩ (.slice pt rc.ss.length ct)).setCell ⟨q, 0, none⟩ .nilIface).heap[j]? = w2.heap[j]? := fun j hj h2 => (Below.heap_setCell _ ⟨q, 0, none⟩ _ j h2).trans ((Below.heap_setCell _ ⟨r, 2, none⟩ _ j hj).trans ((Below.heap_setCell _ ⟨r, 1, none⟩ _ j hj).trans (Below.heap_setCell _ ⟨r, 0, none⟩ _ j hj)))
      have B3 : Hid (Below r w ((((w2.setCell ⟨r, 0, none⟩ (.string (ba rc.nm))).setCell ⟨r, 1, none⟩ (.slice pd rc.ds.length cd)).setCell ⟨r, 2, none⟩ (.slice pt rc.ss.length ct)).setCell ⟨q, 0, none⟩ .nilIface)) := (((BB.out.setCell (p := ⟨r, 0, none⟩) (Nat.le_refl _) _).setCell (p := ⟨r, 1, none⟩) (Nat.le_refl _) _).setCell (p := ⟨r, 2, none⟩) (Nat.le_refl _) _).setCell (p := ⟨q, 0, none⟩) (by show r ≤ q; omega) _
      have S3 : Hid (St3 ((((w2.setCell ⟨r, 0, none⟩ (.string (ba rc.nm))).setCell ⟨r, 1, none⟩ (.slice pd rc.ds.length cd)).setCell ⟨r, 2, none⟩ (.slice pt rc.ss.length ct)).setCell ⟨q, 0, none⟩ .nilIface) r (.string (ba rc.nm)) (.slice pd rc.ds.length cd) (.slice pt rc.ss.length ct)) := (((S2.out.set0 _).set1 _).set2 _).same (Below.heap_setCell _ ⟨q, 0, none⟩ _ r hrq)
      have Q3 : Hid (((((w2.setCell ⟨r, 0, none⟩ (.string (ba rc.nm))).setCell ⟨r, 1, none⟩ (.slice pd rc.ds.length cd)).setCell ⟨r, 2, none⟩ (.slice pt rc.ss.length ct)).setCell ⟨q, 0, none⟩ .nilIface).heap[q]? = some (.cells #[.nilIface] 28 (0, 0))) := by
        have : (((w2.setCell ⟨r, 0, none⟩ (.string (ba rc.nm))).setCell ⟨r, 1, none⟩ (.slice pd rc.ds.length cd)).setCell ⟨r, 2, none⟩ (.slice pt rc.ss.length ct)).heap[q]? = some (.cells #[.nilIface] 28 (0, 0)) := ((Below.heap_setCell _ ⟨r, 2, none⟩ _ q hqr).trans ((Below.heap_setCell _ ⟨r, 1, none⟩ _ q hqr).trans (Below.heap_setCell _ ⟨r, 0, none⟩ _ q hqr))).trans Q2.out
        generalize ((w2.setCell ⟨r, 0, none⟩ (.string (ba rc.nm))).setCell ⟨r, 1, none⟩ (.slice pd rc.ds.length cd)).setCell ⟨r, 2, none⟩ (.slice pt rc.ss.length ct) = W at this ⊢
        unfold Hid
        simp [World.setCell, Array.getElem?_modify, this]
      have D3 : Hid (TxS ((((w2.setCell ⟨r, 0, none⟩ (.string (ba rc.nm))).setCell ⟨r, 1, none⟩ (.slice pd rc.ds.length cd)).setCell ⟨r, 2, none⟩ (.slice pt rc.ss.length ct)).setCell ⟨q, 0, none⟩ .nilIface) r (.slice pd rc.ds.length cd) rc.ds) := (D2.out.same (fun j hj => hset j (by have := (D2.out.lt j hj).1; omega) (by have := (D2.out.lt j hj).1; omega))).up (by omega)
      have T3 : Hid (StS ((((w2.setCell ⟨r, 0, none⟩ (.string (ba rc.nm))).setCell ⟨r, 1, none⟩ (.slice pd rc.ds.length cd)).setCell ⟨r, 2, none⟩ (.slice pt rc.ss.length ct)).setCell ⟨q, 0, none⟩ .nilIface) r (.slice pt rc.ss.length ct) rc.ss) := (T2.out.same (fun j h1 _ => hset j (by omega) (by omega))).up (by omega)
      clear hset S2 Q2 P2 D2 T2 BB
      go_wp2
      generalize (((w2.setCell ⟨r, 0, none⟩ (.string (ba rc.nm))).setCell ⟨r, 1, none⟩ (.slice pd rc.ds.length cd)).setCell ⟨r, 2, none⟩ (.slice pt rc.ss.length ct)).setCell ⟨q, 0, none⟩ .nilIface = w3 at B3 S3 Q3 D3 T3 ⊢
      refine leaves_cons (f := 16) (args := #[.pointer (some ⟨r, 0, none⟩), .pointer (some ⟨q, 0, none⟩)]) (by simp) (by simp [go_sem]) ?_
      refine (catch_idle ⟨r, 0, none⟩ ⟨q, 0, none⟩ w3).mono ?_
      rintro e u' w5 ⟨rfl, rfl, rfl⟩
      have s0 := S3.out.c0
      have s1 := S3.out.c1
      have s2 := S3.out.c2
      have s3 : w5.cell? ⟨q, 0, none⟩ = some .nilIface := by rw [Lib.cell_of_heap Q3.out]; rfl
      refine ⟨.tuple #[.agg #[.string (ba rc.nm), .slice pd rc.ds.length cd, .slice pt rc.ss.length ct], .nilIface], by simp [results, Try.results9, go_sem, s0, s1, s2, s3], ?_⟩
      unfold ParseP
      rw [hPS.out, Hr.out]
      exact ⟨⟨_, _, rfl, D3.out, T3.out⟩, B3.out⟩
    · have hPS : Hid (prs s = .bad m) := by
        unfold Hid
        rw [← HPS0.out]
        show (if m = [] then Rs.ok rc m else Rs.bad m) = _
        rw [if_neg hm]
      have hml0 : 0 < m.length := by
        cases m with
        | nil => exact absurd rfl hm
        | cons _ _ => simp
      have hnl : ((s.length - m.length : Nat) : Int) < (s.length : Int) := by omega
      clear HPS0 hm
      go_wp2_with fail
      refine GC.mono ?_
      rintro e w3 ⟨rfl, rfl⟩
      clear GC D2 T2 P2
      generalize ((w1.setCell ⟨r, 0, none⟩ (.string (ba rc.nm))).setCell ⟨r, 1, none⟩ (.slice pd rc.ds.length cd)).setCell ⟨r, 2, none⟩ (.slice pt rc.ss.length ct) = w3 at BB S2 Q2 c1 ⊢
      have SS := S2.out
      have QQ := Q2.out
      go_wp2
      refine leaves_cons (f := 16) (args := #[.pointer (some ⟨r, 0, none⟩), .pointer (some ⟨q, 0, none⟩)]) (by simp) (by simp [go_sem]) ?_
      refine (catch_broken r q (s.length - m.length) _ _ _ _ w3 SS QQ (by omega)).mono ?_
      rintro e u' w5 ⟨rfl, rfl, k, hk, S5, Q5, K5, Z5, D5, o1, o2, o3⟩
      have B5 : Below r w w5 := BB.out.trans ⟨o1, o2, o3, by rw [Z5]; omega, fun j hj => D5 j (by have := BB.out.size; rw [Hr.out] at this; omega) (by omega) (by omega)⟩
      have s0 := S5.c0
      have s1 := S5.c1
      have s2 := S5.c2
      have s3 : w5.cell? ⟨q, 0, none⟩ = some (.iface 48 (.pointer (some ⟨k, 0, none⟩))) := by rw [Lib.cell_of_heap Q5]; rfl
      have HPS : Hid (prs s = .bad m) := hPS.out
      refine ⟨.tuple #[.agg #[.string ⟨#[]⟩, .slice none 0 0, .slice none 0 0], .iface 48 (.pointer (some ⟨k, 0, none⟩))], by simp [results, Try.results9, go_sem, s0, s1, s2, s3], ?_⟩
      unfold ParseP
      rw [HPS.out]
      exact ⟨⟨k, Nat.le_trans BB.out.size hk, rfl, K5⟩, by rw [Hr.out]; exact B5⟩

end Go.Proofs.Ytbfhfejdmhjccaa
