/- Walk, walked. -/
import Derived.Test.YtmknnblogfpifaaDoorTvI
namespace Go.Proofs.YtmknnblogfpifaaDoor
open Go.RowKit

theorem Rws.mono {ty : TypeId} {w : World} {B B' : Nat} {v : Value} {L : List RW} (h : Rws ty w B v L) (hb : B' ≤ B) : Rws ty w B' v L := ⟨h.1, h.2.imp id fun ⟨g, cap, cur, a, b, r⟩ => ⟨g, cap, cur, a, Nat.le_trans hb b, r⟩⟩
/-- What Walk leaves. -/
def WkR (T : Tr) (w : World) (e : Ending) (w' : World) : Prop := (if (ckT T).2 ≠ 0 then e = .returned (.tuple #[.slice none 0 0, .int .i64 (ckT T).2]) else ∃ x c, e = .returned (.tuple #[.slice x (rwT [] T).length c, .int .i64 0]) ∧ Rws 39 w' w.heap.size (.slice x (rwT [] T).length c) (rwT [] T)) ∧ Below w.heap.size w w'
theorem WkR.bad {T : Tr} {w w' : World} {e : Ending} {c : Int} (h : (ckT T).2 = c) (hc : c ≠ 0) (he : e = .returned (.tuple #[.slice none 0 0, .int .i64 c])) (b : Below w.heap.size w w') : WkR T w e w' := by
  refine ⟨?_, b⟩
  rw [if_pos (by rw [h]; exact hc), h]
  exact he
theorem WkR.fine {T : Tr} {w w' : World} {e : Ending} {x : Option Addr} {c : Nat} (h : (ckT T).2 = 0) (he : e = .returned (.tuple #[.slice x (rwT [] T).length c, .int .i64 0])) (r : Rws 39 w' w.heap.size (.slice x (rwT [] T).length c) (rwT [] T)) (b : Below w.heap.size w w') : WkR T w e w' := by
  refine ⟨?_, b⟩
  rw [if_neg (by rw [h]; decide)]
  exact ⟨x, c, he, r⟩

set_option maxHeartbeats 8000000 in
theorem walk_tree (f : Nat) (u : Value) (T : Tr) (w : World) (hA : At w f u T) (hsm : smT T) :
    Calls Tryd.prog 9 #[u] w fun e w' => WkR T w e w' := by
  have hmf : ∀ (fn : Fn) (first cap : Array Value) (w : World), (Instr.makeFunc fn first cap).run Tryd.prog w = .ok (.func fn first cap) w := fun _ _ _ _ => rfl
  have rsf : ∀ (a : Addr) (fn : Fn) (fs cp : Array Value) (w : World) (m : Mode), (store a (.func fn fs cp) m).run Tryd.prog w = stored Tryd.prog w a (.func fn fs cp) m := fun a fn fs cp w m => run_store Tryd.prog w a _ m rfl
  obtain ⟨k, e, t, nms, ks⟩ := T
  cases f with
  | zero => exact hA.elim
  | succ f =>
  obtain ⟨x, n, c, rfl, hrest⟩ := hA
  have HA : Hid (At w (f + 1) (.agg #[.int .i64 k, .bool e, .string t, .slice x n c]) (.mk k e t nms ks)) := ⟨x, n, c, rfl, hrest⟩
  clear hrest
  generalize (Tr.mk k e t nms ks) = T at HA hsm ⊢
  have b1 : Below w.heap.size w (w.alloc (.cells #[.int .i64 k, .bool e, .string t, .slice x n c] 25)) := (Below.refl _ _).alloc (Nat.le_refl _) _
  have N1 : NB (w.alloc (.cells #[.int .i64 k, .bool e, .string t, .slice x n c] 25)) w.heap.size k e t x n c := NB.new w k e t x n c
  have CC := check_tree (f + 1) _ T (w.alloc (.cells #[.int .i64 k, .bool e, .string t, .slice x n c] 25)) (HA.out.below b1) hsm
  have hz1 : w.heap.size < (w.alloc (.cells #[.int .i64 k, .bool e, .string t, .slice x n c] 25)).heap.size := by rw [World.size_alloc]; omega
  have HSM : Hid (smT T) := hsm
  have HB1 : Hid (Below w.heap.size w (w.alloc (.cells #[.int .i64 k, .bool e, .string t, .slice x n c] 25))) := b1
  have HN1 : Hid (NB (w.alloc (.cells #[.int .i64 k, .bool e, .string t, .slice x n c] 25)) w.heap.size k e t x n c) := N1
  clear b1 N1 hsm
  go_enter Tryd.func9, Tryd.ntmps9
  go_wp2_with fail
  refine CC.mono ?_
  rintro e5 w2 ⟨rfl, b2⟩
  have HB2 : Hid (Below w.heap.size w w2) := HB1.out.trans (b2.mono HB1.out.size)
  have HN2 : Hid (NB w2 w.heap.size k e t x n c) := (b2.block _ hz1).trans HN1.out
  clear b2 CC HB1 HN1 hz1
  obtain ⟨CV, hcv⟩ : ∃ CV, (ckT T).2 = CV := ⟨_, rfl⟩
  have HCV : Hid ((ckT T).2 = CV) := hcv
  rw [hcv]
  clear hcv
  generalize (ckT T).1 = CP
  by_cases hc : CV ≠ 0
  · have q1 : (CV != 0) = true := by simpa using hc
    go_wp2
    go_ret2
    exact WkR.bad HCV.out hc rfl HB2.out
  · obtain rfl : CV = 0 := by omega
    have hz2 : (w2.alloc (.cells #[.slice none 0 0] 26)).heap.size = w2.heap.size + 1 := World.size_alloc _ _
    have b3 : Below w2.heap.size w2 ((w2.alloc (.cells #[.slice none 0 0] 26)).alloc (.cells #[.func (.func 24) #[] #[.pointer (some ⟨w2.heap.size, 0, none⟩), .pointer (some ⟨w2.heap.size + 1, 0, none⟩)]] 63)) := ((Below.refl _ _).alloc (Nat.le_refl _) _).alloc (by rw [hz2]; omega) _
    have HG3 : Hid (Gv ((w2.alloc (.cells #[.slice none 0 0] 26)).alloc (.cells #[.func (.func 24) #[] #[.pointer (some ⟨w2.heap.size, 0, none⟩), .pointer (some ⟨w2.heap.size + 1, 0, none⟩)]] 63)) w2.heap.size (w2.heap.size + 1) none 0 []) := by
      refine ⟨(Below.heap_alloc _ _ _ (by rw [hz2]; omega)).trans Array.getElem?_push_size, ?_, World.ownsRow_nil _ _ _ _⟩
      rw [← hz2]
      exact Array.getElem?_push_size
    have HB3 : Hid (Below w.heap.size w ((w2.alloc (.cells #[.slice none 0 0] 26)).alloc (.cells #[.func (.func 24) #[] #[.pointer (some ⟨w2.heap.size, 0, none⟩), .pointer (some ⟨w2.heap.size + 1, 0, none⟩)]] 63))) := HB2.out.trans (b3.mono HB2.out.size)
    have HN3 : Hid (NB ((w2.alloc (.cells #[.slice none 0 0] 26)).alloc (.cells #[.func (.func 24) #[] #[.pointer (some ⟨w2.heap.size, 0, none⟩), .pointer (some ⟨w2.heap.size + 1, 0, none⟩)]] 63)) w.heap.size k e t x n c) := (b3.block _ (heap_lt HN2.out)).trans HN2.out
    have hrb : w.heap.size ≤ w2.heap.size := HB2.out.size
    clear b3 hz2 HB2 HN2 hc
    go_upto_region 7 with fail
    generalize (w2.alloc (.cells #[.slice none 0 0] 26)).alloc (.cells #[.func (.func 24) #[] #[.pointer (some ⟨w2.heap.size, 0, none⟩), .pointer (some ⟨w2.heap.size + 1, 0, none⟩)]] 63) = w3 at *
    generalize w2.heap.size = rb at *
    obtain ⟨gb, hgb⟩ : ∃ gb, gb = rb + 1 := ⟨_, rfl⟩
    rw [← hgb] at HG3
    rw [← hgb]
    have hrg : rb < gb := by omega
    clear hgb
    have hoff := ckT_zero HCV.out
    have NC := gather_any (f + 1) _ T [] 24 rb gb none 0 [] w w3 HA.out HSM.out HB3.out hrb hrg HG3.out (by decide) (by decide) (by decide) hoff (fun h => absurd rfl h) (by intro s hs; cases hs) (by decide)
    have y0 := HN3.out.c0
    have y1 := HN3.out.c1
    have y2 := HN3.out.c2
    have y3 := HN3.out.c3
    have ga : w3.cell? ⟨gb, 0, none⟩ = some (.func (.func 24) #[] #[.pointer (some ⟨rb, 0, none⟩), .pointer (some ⟨gb, 0, none⟩)]) := by rw [Lib.cell_of_heap HG3.out.hg]; rfl
    rw [show joinB [] = ⟨#[]⟩ from rfl] at NC
    clear hoff
    go_wp2_with fail
    refine NC.mono ?_
    rintro e6 w4 ⟨rfl, ⟨x4, c4, G4⟩, F4⟩
    rw [List.nil_append] at G4
    have HG4 : Hid (Gv w4 rb gb x4 c4 (rwT [] T)) := G4
    have HB4 : Hid (Below w.heap.size w w4) := HB3.out.trans (F4.below.mono hrb)
    have r0 : w4.cell? ⟨rb, 0, none⟩ = some (.slice x4 (rwT [] T).length c4) := by rw [Lib.cell_of_heap G4.hr]; rfl
    clear NC G4 F4 y0 y1 y2 y3 ga
    go_wp2
    go_ret2
    exact WkR.fine HCV.out rfl (HG4.out.rows.mono (by omega)) HB4.out

end Go.Proofs.YtmknnblogfpifaaDoor
