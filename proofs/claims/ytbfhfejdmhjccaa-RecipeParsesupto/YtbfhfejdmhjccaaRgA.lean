/- fault and awake, walked. -/
import Derived.Test.YtbfhfejdmhjccaaRpD
import Derived.Test.YtbfhfejdmhjccaaRfP
namespace Go.Proofs.Ytbfhfejdmhjccaa
open Go.RowKit

/-- Block k holds a fault. -/
def Flt (w : World) (k : Nat) (a b : Int) : Prop := w.heap[k]? = some (.cells #[.int .i64 a, .int .i64 b] 40 (0, 0))
theorem Flt.lt {w : World} {k : Nat} {a b : Int} (h : Flt w k a b) : k < w.heap.size := (Array.getElem?_eq_some_iff.1 h).1
theorem Flt.c0 {w : World} {k : Nat} {a b : Int} (h : Flt w k a b) : w.cell? ⟨k, 0, none⟩ = some (.int .i64 a) := by rw [Lib.cell_of_heap h]; rfl
theorem Flt.c1 {w : World} {k : Nat} {a b : Int} (h : Flt w k a b) : w.cell? ⟨k, 1, none⟩ = some (.int .i64 b) := by rw [Lib.cell_of_heap h]; rfl
theorem Flt.f {w : World} {k : Nat} {a b : Int} (h : Flt w k a b) (j : Nat) : w.frozen? ⟨k, j, none⟩ = false := Lib.frozen_of_heap h j
theorem Flt.same {w w' : World} {k : Nat} {a b : Int} (h : Flt w k a b) (e : w'.heap[k]? = w.heap[k]?) : Flt w' k a b := e.trans h
theorem Flt.below {w w' : World} {k : Nat} {a b : Int} (h : Flt w k a b) (e : Below w.heap.size w w') : Flt w' k a b := h.same (e.block k h.lt)
theorem Flt.new (w : World) (a b : Int) : Flt (w.alloc (.cells #[.int .i64 a, .int .i64 b] 40)) w.heap.size a b := Array.getElem?_push_size
theorem Flt.set {w : World} {k : Nat} {a b : Int} (h : Flt w k a b) (a' b' : Int) : Flt ((w.setCell ⟨k, 0, none⟩ (.int .i64 a')).setCell ⟨k, 1, none⟩ (.int .i64 b')) k a' b' := by
  unfold Flt at h ⊢
  simp [World.setCell, Array.getElem?_modify, h]

set_option maxHeartbeats 2000000 in
theorem fault_any (k : Nat) (i : Nat) (w : World) (h : Flt w k 210 i) :
    Calls Try.prog 13 #[.iface 48 (.pointer (some ⟨k, 0, none⟩))] w fun e w' => e = .returned (.agg #[.int .i64 210, .int .i64 (i : Int)]) ∧ Below w.heap.size w w' := by
  have hta : ∀ W : World, (Instr.typeAssert (.iface 48 (.pointer (some ⟨k, 0, none⟩))) 28 48 true).run Try.prog W = .ok (.tuple #[.pointer (some ⟨k, 0, none⟩), .bool true]) W := fun W => by
    simp [Instr.typeAssert, go_sem]
  have b0 : Below w.heap.size w (w.alloc (.cells #[.int .i64 0, .int .i64 0] 40)) := (Below.refl _ _).alloc (Nat.le_refl _) _
  have F0 := Flt.new w 0 0
  have K0 := h.below b0
  have hkl := h.lt
  have a0 := K0.c0
  have a1 := K0.c1
  have r0 := F0.c0
  have r1 := F0.c1
  have q0 := F0.f 0
  have q1 := F0.f 1
  have HB1 : Hid (Below w.heap.size w (w.alloc (.cells #[.int .i64 210, .int .i64 (i : Int)] 40))) := (Below.refl _ _).alloc (Nat.le_refl _) _
  clear h K0 F0 b0
  go_enter Try.func13, Try.ntmps13
  go_wp2
  refine bodyPost_ret (v := .agg #[.int .i64 210, .int .i64 (i : Int)]) (by simp [results, Try.results13, go_sem]) rfl ?_
  exact ⟨rfl, HB1.out⟩

/-- awake's recipe and its text. -/
def awT : List UInt8 := [82, 101, 99, 105, 112, 101, 40, 34, 97, 34, 44, 91, 34, 98, 34, 93, 44, 91, 40, 34, 100, 105, 114, 34, 44, 34, 120, 34, 41, 93, 41]
theorem awT_r : rT ⟨[97], [[98]], [([100, 105, 114], [[120]])]⟩ = awT := by rfl
theorem awT_p : prs awT = .ok ⟨[97], [[98]], [([100, 105, 114], [[120]])]⟩ [] := by rfl
theorem awX_p : prs [82, 101, 99, 105, 112, 101, 40, 120] = .bad [120] := by rfl

set_option maxHeartbeats 8000000 in
theorem awake_any (w : World) : Calls Try.prog 8 #[] w fun e w' => e = .returned (.bool true) ∧ Below w.heap.size w w' := by
  have eT : ba awT = ⟨#[82, 101, 99, 105, 112, 101, 40, 34, 97, 34, 44, 91, 34, 98, 34, 93, 44, 91, 40, 34, 100, 105, 114, 34, 44, 34, 120, 34, 41, 93, 41]⟩ := rfl
  have eX : ba [82, 101, 99, 105, 112, 101, 40, 120] = ⟨#[82, 101, 99, 105, 112, 101, 40, 120]⟩ := rfl
  have s1 : (w.alloc (.cells #[.string ⟨#[98]⟩] 9)).heap.size = w.heap.size + 1 := World.size_alloc _ _
  have s2 : ((w.alloc (.cells #[.string ⟨#[98]⟩] 9)).alloc (.cells #[.string ⟨#[120]⟩] 9)).heap.size = w.heap.size + 1 + 1 := by rw [World.size_alloc, s1]
  have s3 : (((w.alloc (.cells #[.string ⟨#[98]⟩] 9)).alloc (.cells #[.string ⟨#[120]⟩] 9)).alloc (.cells #[.string ⟨#[100, 105, 114]⟩, .slice (some ⟨w.heap.size + 1, 0, none⟩) 1 1] 47)).heap.size = w.heap.size + 1 + 1 + 1 := by rw [World.size_alloc, s2]
  have s4 : ((((w.alloc (.cells #[.string ⟨#[98]⟩] 9)).alloc (.cells #[.string ⟨#[120]⟩] 9)).alloc (.cells #[.string ⟨#[100, 105, 114]⟩, .slice (some ⟨w.heap.size + 1, 0, none⟩) 1 1] 47)).alloc (.cells #[.string ⟨#[97]⟩, .slice (some ⟨w.heap.size, 0, none⟩) 1 1, .slice (some ⟨w.heap.size + 1 + 1, 0, none⟩) 1 1] 26)).heap.size = w.heap.size + 4 := by rw [World.size_alloc, s3]
  have B0 : Below w.heap.size w ((((w.alloc (.cells #[.string ⟨#[98]⟩] 9)).alloc (.cells #[.string ⟨#[120]⟩] 9)).alloc (.cells #[.string ⟨#[100, 105, 114]⟩, .slice (some ⟨w.heap.size + 1, 0, none⟩) 1 1] 47)).alloc (.cells #[.string ⟨#[97]⟩, .slice (some ⟨w.heap.size, 0, none⟩) 1 1, .slice (some ⟨w.heap.size + 1 + 1, 0, none⟩) 1 1] 26)) := ((((Below.refl _ _).alloc (Nat.le_refl _) _).alloc (by rw [s1]; omega) _).alloc (by rw [s2]; omega) _).alloc (by rw [s3]; omega) _
  have h0 : ((((w.alloc (.cells #[.string ⟨#[98]⟩] 9)).alloc (.cells #[.string ⟨#[120]⟩] 9)).alloc (.cells #[.string ⟨#[100, 105, 114]⟩, .slice (some ⟨w.heap.size + 1, 0, none⟩) 1 1] 47)).alloc (.cells #[.string ⟨#[97]⟩, .slice (some ⟨w.heap.size, 0, none⟩) 1 1, .slice (some ⟨w.heap.size + 1 + 1, 0, none⟩) 1 1] 26)).heap[w.heap.size]? = some (.cells #[.string ⟨#[98]⟩] 9 (0, 0)) := (Below.heap_alloc _ _ _ (by rw [s3]; omega)).trans ((Below.heap_alloc _ _ _ (by rw [s2]; omega)).trans ((Below.heap_alloc _ _ _ (by rw [s1]; omega)).trans Array.getElem?_push_size))
  have h1 : ((((w.alloc (.cells #[.string ⟨#[98]⟩] 9)).alloc (.cells #[.string ⟨#[120]⟩] 9)).alloc (.cells #[.string ⟨#[100, 105, 114]⟩, .slice (some ⟨w.heap.size + 1, 0, none⟩) 1 1] 47)).alloc (.cells #[.string ⟨#[97]⟩, .slice (some ⟨w.heap.size, 0, none⟩) 1 1, .slice (some ⟨w.heap.size + 1 + 1, 0, none⟩) 1 1] 26)).heap[w.heap.size + 1]? = some (.cells #[.string ⟨#[120]⟩] 9 (0, 0)) := (Below.heap_alloc _ _ _ (by rw [s3]; omega)).trans ((Below.heap_alloc _ _ _ (by rw [s2]; omega)).trans (by rw [← s1]; exact Array.getElem?_push_size))
  have h2 : ((((w.alloc (.cells #[.string ⟨#[98]⟩] 9)).alloc (.cells #[.string ⟨#[120]⟩] 9)).alloc (.cells #[.string ⟨#[100, 105, 114]⟩, .slice (some ⟨w.heap.size + 1, 0, none⟩) 1 1] 47)).alloc (.cells #[.string ⟨#[97]⟩, .slice (some ⟨w.heap.size, 0, none⟩) 1 1, .slice (some ⟨w.heap.size + 1 + 1, 0, none⟩) 1 1] 26)).heap[w.heap.size + 1 + 1]? = some (.cells #[.string ⟨#[100, 105, 114]⟩, .slice (some ⟨w.heap.size + 1, 0, none⟩) 1 1] 47 (0, 0)) := (Below.heap_alloc _ _ _ (by rw [s3]; omega)).trans (by
    have gen : ∀ (W : World) (n : Nat) (o : Obj), W.heap.size = n → (W.alloc o).heap[n]? = some o := fun W n o e => by subst e; exact Array.getElem?_push_size
    exact gen _ _ _ s2)
  have RD : RT ((((w.alloc (.cells #[.string ⟨#[98]⟩] 9)).alloc (.cells #[.string ⟨#[120]⟩] 9)).alloc (.cells #[.string ⟨#[100, 105, 114]⟩, .slice (some ⟨w.heap.size + 1, 0, none⟩) 1 1] 47)).alloc (.cells #[.string ⟨#[97]⟩, .slice (some ⟨w.heap.size, 0, none⟩) 1 1, .slice (some ⟨w.heap.size + 1 + 1, 0, none⟩) 1 1] 26)) ((((w.alloc (.cells #[.string ⟨#[98]⟩] 9)).alloc (.cells #[.string ⟨#[120]⟩] 9)).alloc (.cells #[.string ⟨#[100, 105, 114]⟩, .slice (some ⟨w.heap.size + 1, 0, none⟩) 1 1] 47)).alloc (.cells #[.string ⟨#[97]⟩, .slice (some ⟨w.heap.size, 0, none⟩) 1 1, .slice (some ⟨w.heap.size + 1 + 1, 0, none⟩) 1 1] 26)).heap.size (.slice (some ⟨w.heap.size, 0, none⟩) 1 1) [[98]] := ⟨_, 1, rfl, fun i t hi => by
    match i, hi with
    | 0, hi => simp at hi; subst hi; exact ⟨w.heap.size, 0, rfl, by rw [s4]; omega, by rw [Lib.cell_of_heap h0]; rfl⟩⟩
  have RA : RT ((((w.alloc (.cells #[.string ⟨#[98]⟩] 9)).alloc (.cells #[.string ⟨#[120]⟩] 9)).alloc (.cells #[.string ⟨#[100, 105, 114]⟩, .slice (some ⟨w.heap.size + 1, 0, none⟩) 1 1] 47)).alloc (.cells #[.string ⟨#[97]⟩, .slice (some ⟨w.heap.size, 0, none⟩) 1 1, .slice (some ⟨w.heap.size + 1 + 1, 0, none⟩) 1 1] 26)) ((((w.alloc (.cells #[.string ⟨#[98]⟩] 9)).alloc (.cells #[.string ⟨#[120]⟩] 9)).alloc (.cells #[.string ⟨#[100, 105, 114]⟩, .slice (some ⟨w.heap.size + 1, 0, none⟩) 1 1] 47)).alloc (.cells #[.string ⟨#[97]⟩, .slice (some ⟨w.heap.size, 0, none⟩) 1 1, .slice (some ⟨w.heap.size + 1 + 1, 0, none⟩) 1 1] 26)).heap.size (.slice (some ⟨w.heap.size + 1, 0, none⟩) 1 1) [[120]] := ⟨_, 1, rfl, fun i t hi => by
    match i, hi with
    | 0, hi => simp at hi; subst hi; exact ⟨w.heap.size + 1, 0, rfl, by rw [s4]; omega, by rw [Lib.cell_of_heap h1]; rfl⟩⟩
  have RSS : RS ((((w.alloc (.cells #[.string ⟨#[98]⟩] 9)).alloc (.cells #[.string ⟨#[120]⟩] 9)).alloc (.cells #[.string ⟨#[100, 105, 114]⟩, .slice (some ⟨w.heap.size + 1, 0, none⟩) 1 1] 47)).alloc (.cells #[.string ⟨#[97]⟩, .slice (some ⟨w.heap.size, 0, none⟩) 1 1, .slice (some ⟨w.heap.size + 1 + 1, 0, none⟩) 1 1] 26)) ((((w.alloc (.cells #[.string ⟨#[98]⟩] 9)).alloc (.cells #[.string ⟨#[120]⟩] 9)).alloc (.cells #[.string ⟨#[100, 105, 114]⟩, .slice (some ⟨w.heap.size + 1, 0, none⟩) 1 1] 47)).alloc (.cells #[.string ⟨#[97]⟩, .slice (some ⟨w.heap.size, 0, none⟩) 1 1, .slice (some ⟨w.heap.size + 1 + 1, 0, none⟩) 1 1] 26)).heap.size (.slice (some ⟨w.heap.size + 1 + 1, 0, none⟩) 1 1) [([100, 105, 114], [[120]])] := ⟨_, 1, rfl, fun i t hi => by
    match i, hi with
    | 0, hi => simp at hi; subst hi; exact ⟨w.heap.size + 1 + 1, 0, _, rfl, by rw [s4]; omega, by rw [Lib.cell_of_heap h2]; rfl, by rw [Lib.cell_of_heap h2]; rfl, RA⟩⟩
  have PC := print_any [97] [[98]] [([100, 105, 114], [[120]])] _ _ ((((w.alloc (.cells #[.string ⟨#[98]⟩] 9)).alloc (.cells #[.string ⟨#[120]⟩] 9)).alloc (.cells #[.string ⟨#[100, 105, 114]⟩, .slice (some ⟨w.heap.size + 1, 0, none⟩) 1 1] 47)).alloc (.cells #[.string ⟨#[97]⟩, .slice (some ⟨w.heap.size, 0, none⟩) 1 1, .slice (some ⟨w.heap.size + 1 + 1, 0, none⟩) 1 1] 26)) RD RSS (by rw [awT_r]; decide)
  rw [awT_r] at PC
  have e97 : ba [97] = ⟨#[97]⟩ := rfl
  rw [e97] at PC
  clear s1 s2 s3 s4 h0 h1 h2 RD RA RSS
  go_enter Try.func8, Try.ntmps8
  go_wp2_with fail
  refine PC.mono ?_
  generalize ((((w.alloc (.cells #[.string ⟨#[98]⟩] 9)).alloc (.cells #[.string ⟨#[120]⟩] 9)).alloc (.cells #[.string ⟨#[100, 105, 114]⟩, .slice (some ⟨w.heap.size + 1, 0, none⟩) 1 1] 47)).alloc (.cells #[.string ⟨#[97]⟩, .slice (some ⟨w.heap.size, 0, none⟩) 1 1, .slice (some ⟨w.heap.size + 1 + 1, 0, none⟩) 1 1] 26)) = w0 at B0 PC ⊢
  rintro e w1 ⟨rfl, b1⟩
  have HB1 : Hid (Below w.heap.size w w1) := B0.trans (b1.mono B0.size)
  clear PC B0 b1
  go_wp2_with fail
  refine (parse_any awT w1 (by decide)).mono ?_
  intro e w2 hP
  unfold ParseP at hP
  rw [awT_p] at hP
  obtain ⟨⟨vd, vs, rfl, TD, TS⟩, b2⟩ := hP
  have HB2 : Hid (Below w.heap.size w w2) := HB1.out.trans (b2.mono HB1.out.size)
  obtain ⟨pd, cd, rfl⟩ := TD.shape
  obtain ⟨pt, ct, rfl⟩ := TS.shape
  have S2 := St3.new w2 (.string ⟨#[97]⟩) (.slice pd 1 cd) (.slice pt 1 ct)
  clear TD TS b2 HB1
  have PX := fun W => parse_any [82, 101, 99, 105, 112, 101, 40, 120] W (by decide)
  rw [eX] at PX
  have b3 : Below w2.heap.size w2 (w2.alloc (.cells #[.string ⟨#[97]⟩, .slice pd 1 cd, .slice pt 1 ct] 26)) := (Below.refl _ _).alloc (Nat.le_refl _) _
  rw [show ba (Rec.mk [97] [[98]] [([100, 105, 114], [[120]])]).nm = ⟨#[97]⟩ from rfl, show (Rec.mk [97] [[98]] [([100, 105, 114], [[120]])]).ds.length = 1 from rfl, show (Rec.mk [97] [[98]] [([100, 105, 114], [[120]])]).ss.length = 1 from rfl]
  go_wp2_with fail
  generalize w2.alloc (.cells #[.string ⟨#[97]⟩, .slice pd 1 cd, .slice pt 1 ct] 26) = w3 at S2 b3 ⊢
  refine (PX w3).mono ?_
  intro e w4 hP
  unfold ParseP at hP
  rw [awX_p] at hP
  obtain ⟨⟨k, hk, rfl, hF⟩, b4⟩ := hP
  have S4 : St3 w4 w2.heap.size (.string ⟨#[97]⟩) (.slice pd 1 cd) (.slice pt 1 ct) := S2.same (b4.block _ S2.lt)
  have S5 : St3 (w4.alloc (.cells #[.string ⟨#[]⟩, .slice none 0 0, .slice none 0 0] 26)) w2.heap.size (.string ⟨#[97]⟩) (.slice pd 1 cd) (.slice pt 1 ct) := S4.same (Below.heap_alloc _ _ _ S4.lt)
  have c0 := S5.c0
  have c2 := S5.c2
  have HB4 : Hid (Below w.heap.size w w4) := HB2.out.trans ((b3.mono HB2.out.size).trans (b4.mono (Nat.le_trans HB2.out.size b3.size)))
  have HB5 : Hid (Below w.heap.size w (w4.alloc (.cells #[.string ⟨#[]⟩, .slice none 0 0, .slice none 0 0] 26))) := HB4.out.alloc HB4.out.size _
  clear hF hk b4 b3 PX HB2 S4 S5 S2
  go_wp2
  go_ret
  exact ⟨rfl, HB5.out⟩

end Go.Proofs.Ytbfhfejdmhjccaa
