/- NpD NpE, joined (own text of the verifier). -/
import Derived.Test.YtljcbibcdajhiaaNp1
import Derived.Test.YtljcbibcdajhiaaNa1
import Derived.Test.YtljcbibcdajhiaaNa3
import Derived.Test.YtljcbibcdajhiaaTvC
import Derived.Deep.RegionLaw
import Derived.Deep.RegionHeldLaw
import Derived.Deep.Cut
import Derived.Deep.CutRange
namespace Go.Proofs.Ytljcbibcdajhiaa
open Go.RowKit

theorem last_zero (g p n c : Nat) (w : World) (h : w.cell? ⟨g, 9, none⟩ = some (.slice (some ⟨p, 0, none⟩) (n + 1) c)) (hn : n ≤ 1048576) :
    Calls Try.prog 60 #[.pointer (some ⟨g, 0, none⟩)] w fun e w' => e = .returned (.pointer (some ⟨p, n * 5, none⟩)) ∧ ∃ q, w' = w.drewN q := by
  have := last_any g p 0 n c w h hn
  rw [Nat.zero_add] at this
  exact this

theorem PW.drewN {w : World} {g B : Nat} {p : PS} {fp : List Nat} (h : PW w g B p fp) (q : Nat) : PW (w.drewN q) g B p fp := h.same (Nat.le_refl _) rfl (fun _ _ => rfl)
theorem Top.of {w : World} {g B : Nat} {p : PS} {fp : List Nat} {o : ON} {R : List ON} {q co : Nat} {u : Value} (hP : PW w g B p fp) (ho : p.c.op = o :: R) (h9 : w.cell? ⟨g, 9, none⟩ = some (.slice (some ⟨q, 0, none⟩) (R.length + 1) co)) (h3 : w.cell? ⟨q, R.length * 5 + 3, none⟩ = some u) : Top w g B p fp o R q co u := by
  obtain ⟨q', co', u', h⟩ := hP.top ho
  have e9 := h.c9.symm.trans h9
  injection e9 with e9
  injection e9 with e1 _ e3
  injection e1 with e1
  injection e1 with e1
  subst e1 e3
  have e3 := (h.c 3 (by decide)).symm.trans h3
  have e3 : some u' = some u := e3
  injection e3 with e3
  subst e3
  exact h
theorem Top.drewN {w : World} {g B : Nat} {p : PS} {fp : List Nat} {o : ON} {R : List ON} {q co : Nat} {u : Value} (h : Top w g B p fp o R q co u) (hP : PW w g B p fp) (ho : p.c.op = o :: R) (n : Nat) : Top (w.drewN n) g B p fp o R q co u :=
  Top.of (hP.drewN n) ho h.c9 (h.c 3 (by decide))
theorem Top.below {w w' : World} {g B : Nat} {p : PS} {fp : List Nat} {o : ON} {R : List ON} {q co : Nat} {u : Value} (h : Top w g B p fp o R q co u) (hP : PW w g B p fp) (ho : p.c.op = o :: R) (b : Below w.heap.size w w') : Top w' g B p fp o R q co u :=
  Top.of (hP.below b) ho ((b.cell (p := ⟨g, 9, none⟩) (Nat.lt_of_lt_of_le hP.lt.1 hP.lt.2.1)).trans h.c9) ((b.cell (p := ⟨q, R.length * 5 + 3, none⟩) h.ql).trans (h.c 3 (by decide)))
/-- The cells of an idle parser's stack and root. -/
theorem PW.rootCells {w : World} {g B : Nat} {p : PS} {fp : List Nat} (h : PW w g B p fp) : (∃ r, w.cell? ⟨g, 10, none⟩ = some (.int .i64 r)) ∧ (∃ r, w.cell? ⟨g, 11, none⟩ = some (.bool r)) ∧ (∃ r, w.cell? ⟨g, 12, none⟩ = some (.string r)) ∧ (∃ x n c, w.cell? ⟨g, 13, none⟩ = some (.slice x n c)) ∧ (∀ j, j < 14 → w.frozen? ⟨g, j, none⟩ = false) ∧ ∃ x c, w.cell? ⟨g, 9, none⟩ = some (.slice x p.c.op.length c) := by
  obtain ⟨tv, ov, rv, cs, fo, fr, h, rfl⟩ := h
  obtain ⟨x, c, hv⟩ := h.ro.shape
  refine ⟨⟨_, h.st.get 10 _ rfl⟩, ⟨_, h.st.get 11 _ rfl⟩, ⟨_, h.st.get 12 _ rfl⟩, ⟨x, _, c, by rw [← hv]; exact h.st.get 13 _ rfl⟩, fun j hj => h.st.fr j hj, ?_⟩
  rcases h.op.2 with ⟨e, e0⟩ | ⟨q, cap, cur, e, _⟩
  · exact ⟨none, 0, by rw [← e0] at e; rw [h.st.get 9 _ rfl, e, e0]⟩
  · exact ⟨_, _, by rw [h.st.get 9 _ rfl, e]⟩
theorem PM.of {w w' : World} {g B : Nat} {fp fp1 : List Nat} {p' : PS} (h : PW w' g B p' fp1) (hF : Ff g fp w w') (hf : ∀ x ∈ fp1, x ∈ fp ∨ w.heap.size ≤ x) : PM w w' g B fp p' := ⟨fp1, h, hF, hf⟩
set_option maxHeartbeats 4000000 in
set_option maxRecDepth 8000 in
theorem closen_root (g B : Nat) (p : PS) (fp : List Nat) (o : ON) (w : World) (H : PW w g B p fp) (ho : p.c.op = [o]) :
    Calls Try.prog 68 #[.pointer (some ⟨g, 0, none⟩)] w fun e w' => e = .returned (.int .i64 17) ∧ PM w w' g B fp (p.sc ⟨p.c.next, [], o.tr⟩) := by
  have HH : Hid (PW w g B p fp) := H
  have HO : Hid (p.c.op = [o]) := ho
  obtain ⟨q, co, u, HT⟩ := H.top ho
  have HTT : Hid (Top w g B p fp o [] q co u) := HT
  have c9 := HT.c9
  obtain ⟨xu, cu, hu⟩ := HT.hu
  subst hu
  have CL := last_zero g q 0 co w c9 (by decide)
  have d0 := HT.c 0 (by decide)
  have d1 := HT.c 1 (by decide)
  have d2 := HT.c 2 (by decide)
  have d3 := HT.c 3 (by decide)
  change w.cell? ⟨q, 0, none⟩ = some (.int .i64 o.k) at d0
  change w.cell? ⟨q, 1, none⟩ = some (.bool o.e) at d1
  change w.cell? ⟨q, 2, none⟩ = some (.string o.t) at d2
  change w.cell? ⟨q, 3, none⟩ = some (.slice xu o.nms.length cu) at d3
  change w.cell? ⟨g, 9, none⟩ = some (.slice (some ⟨q, 0, none⟩) 1 co) at c9
  clear H ho HT
  go_enter Try.func68, Try.ntmps68
  go_wp2_with fail
  refine CL.mono ?_
  rintro e1 w1 ⟨rfl, qd, rfl⟩
  clear CL
  have H1 : Hid (PW (w.drewN qd) g B p fp) := HH.out.drewN qd
  have T1 : Hid (Top (w.drewN qd) g B p fp o [] q co (.slice xu o.nms.length cu)) := HTT.out.drewN HH.out HO.out qd
  have F1 : Hid (Ff g fp w (w.drewN qd)) := (Ff.refl _ _ _).drewN qd
  clear HH HTT c9 d0 d1 d2 d3
  generalize w.drewN qd = w1 at *
  have c9 : w1.cell? ⟨g, 9, none⟩ = some (.slice (some ⟨q, 0, none⟩) 1 co) := T1.out.c9
  have d0 : w1.cell? ⟨q, 0, none⟩ = some (.int .i64 o.k) := T1.out.c 0 (by decide)
  have d1 : w1.cell? ⟨q, 1, none⟩ = some (.bool o.e) := T1.out.c 1 (by decide)
  have d2 : w1.cell? ⟨q, 2, none⟩ = some (.string o.t) := T1.out.c 2 (by decide)
  have d3 : w1.cell? ⟨q, 3, none⟩ = some (.slice xu o.nms.length cu) := T1.out.c 3 (by decide)
  go_upto_region 2 with fail
  have bA : Hid (Below w1.heap.size w1 (w1.alloc (.cells #[.int .i64 o.k, .bool o.e, .string o.t, .slice xu o.nms.length cu] 25))) := (Below.refl _ _).alloc (Nat.le_refl _) _
  have HK : Hid ((w1.alloc (.cells #[.int .i64 o.k, .bool o.e, .string o.t, .slice xu o.nms.length cu] 25)).heap[w1.heap.size]? = some (.cells #[.int .i64 o.k, .bool o.e, .string o.t, .slice xu o.nms.length cu] 25 (0, 0))) := heap_alloc_new _ _
  have HS : Hid (w1.heap.size = w1.heap.size) := rfl
  obtain ⟨K, hK⟩ : ∃ K, w1.heap.size = K := ⟨_, rfl⟩
  have HKK : Hid (w1.heap.size = K) := hK
  have H2 : Hid (PW (w1.alloc (.cells #[.int .i64 o.k, .bool o.e, .string o.t, .slice xu o.nms.length cu] 25)) g B p fp) := H1.out.below bA.out
  have T2 : Hid (Top (w1.alloc (.cells #[.int .i64 o.k, .bool o.e, .string o.t, .slice xu o.nms.length cu] 25)) g B p fp o [] q co (.slice xu o.nms.length cu)) := T1.out.below H1.out HO.out bA.out
  have F2 : Hid (Ff g fp w (w1.alloc (.cells #[.int .i64 o.k, .bool o.e, .string o.t, .slice xu o.nms.length cu] 25))) := F1.out.alloc _
  clear c9 d0 d1 d2 d3
  rw [hK] at HK ⊢
  generalize w1.alloc (.cells #[.int .i64 o.k, .bool o.e, .string o.t, .slice xu o.nms.length cu] 25) = w2 at *
  clear hK bA T1 HS
  have c9 : w2.cell? ⟨g, 9, none⟩ = some (.slice (some ⟨q, 0, none⟩) 1 co) := T2.out.c9
  have f9 : w2.frozen? ⟨g, 9, none⟩ = false := by
    obtain ⟨tv, ov, rv, cs, fo, fr, h, _⟩ := H2.out
    exact h.st.fr 9 (by show 9 < 14; decide)
  have hco := T2.out.hco
  have hcoI : (0 : Int) ≤ (co : Int) := by omega
  have hgK : g ≠ K := by have h1 := H1.out.lt; have := HKK.out; omega
  have hKl : K < w2.heap.size := heap_lt HK.out
  obtain ⟨fk, fp1, P3, TK3, N3, S3⟩ := H2.out.pop HO.out T2.out
  have HP3 : Hid (PW ((w2.setCell ⟨g, 9, none⟩ (.slice (some ⟨q, 0, none⟩) 0 co)).drew) g B (p.sc ⟨p.c.next, [], p.c.root⟩) fp1) := P3.same (Nat.le_refl _) rfl (fun _ _ => rfl)
  have HTK : Hid (TrV ((w2.setCell ⟨g, 9, none⟩ (.slice (some ⟨q, 0, none⟩) 0 co)).drew) B o.tr (.slice xu o.nms.length cu) fk) := TrV.same _ _ _ TK3 (fun _ _ => rfl)
  have HNS : Hid ((fp1 ++ fk).Nodup ∧ ∀ x ∈ fp1 ++ fk, x ∈ fp) := ⟨N3, S3⟩
  have HF3 : Hid (Ff g fp w ((w2.setCell ⟨g, 9, none⟩ (.slice (some ⟨q, 0, none⟩) 0 co)).drew)) := (F2.out.set g 9 _ (Or.inl rfl)).drewN 1
  have HK3 : Hid (((w2.setCell ⟨g, 9, none⟩ (.slice (some ⟨q, 0, none⟩) 0 co)).drew).heap[K]? = some (.cells #[.int .i64 o.k, .bool o.e, .string o.t, .slice xu o.nms.length cu] 25 (0, 0))) := (Below.heap_setCell w2 ⟨g, 9, none⟩ _ K (fun e => hgK e.symm)).trans HK.out
  clear P3 TK3 N3 S3
  go_region
  generalize (w2.setCell ⟨g, 9, none⟩ (.slice (some ⟨q, 0, none⟩) 0 co)).drew = w3 at *
  clear c9 f9 HK F2 T2 H2
  obtain ⟨u0, u1, u2, u3, _⟩ := cell4n HK3.out
  obtain ⟨⟨r0, e0⟩, ⟨r1, e1⟩, ⟨r2, e2⟩, ⟨x3, n3, c3, e3⟩, hfz, x9, c9, e9⟩ := HP3.out.rootCells
  change w3.cell? ⟨g, 9, none⟩ = some (.slice x9 0 c9) at e9
  have f0 := hfz 10 (by decide)
  have f1 := hfz 11 (by decide)
  have f2 := hfz 12 (by decide)
  have f3 := hfz 13 (by decide)
  clear hfz
  go_wp2
  go_ret
  refine ⟨rfl, ?_⟩
  obtain ⟨fp4, P4, S4⟩ := HP3.out.root rfl o.k o.e o.t o.nms o.ks (.slice xu o.nms.length cu) fk HTK.out HNS.out.1
  exact PM.of P4 ((((HF3.out.set g 10 _ (Or.inl rfl)).set g 11 _ (Or.inl rfl)).set g 12 _ (Or.inl rfl)).set g 13 _ (Or.inl rfl)) (fun x hx => Or.inl (HNS.out.2 x (S4 x hx)))
end Go.Proofs.Ytljcbibcdajhiaa

namespace Go.Proofs.Ytljcbibcdajhiaa
open Go.RowKit

theorem set_comm (w : World) (a b : Addr) (u v : Value) (h : a.block ≠ b.block) : (w.setCell a u).setCell b v = (w.setCell b v).setCell a u := by
  have e : ((w.setCell a u).setCell b v).heap = ((w.setCell b v).setCell a u).heap := by
    apply Array.ext_getElem?
    intro i
    simp only [World.setCell, Array.getElem?_modify]
    by_cases h1 : b.block = i
    · by_cases h2 : a.block = i
      · exact absurd (h2.trans h1.symm) h
      · simp [h1, h2]
    · by_cases h2 : a.block = i
      · simp [h1, h2]
      · simp [h1, h2]
  cases hw : (w.setCell a u).setCell b v
  cases hw2 : (w.setCell b v).setCell a u
  rw [hw, hw2] at e
  simp only [World.setCell] at hw hw2
  injection hw
  injection hw2
  simp_all
theorem set5_comm (w : World) (g o : Nat) (a b c d e : Value) (p : Addr) (v : Value) (h : p.block ≠ g) : set5 (w.setCell p v) g o [a, b, c, d, e] = (set5 w g o [a, b, c, d, e]).setCell p v := by
  dsimp only [set5]
  rw [set_comm w p ⟨g, o, none⟩ v a h, set_comm _ p ⟨g, o + 1, none⟩ v b h, set_comm _ p ⟨g, o + 2, none⟩ v c h, set_comm _ p ⟨g, o + 3, none⟩ v d h, set_comm _ p ⟨g, o + 4, none⟩ v e h]

/-- What the region reads. -/
def SC (q n K : Nat) (en : ByteArray) (k : Int) (e : Bool) (t : ByteArray) (v : Value) (W : World) : Prop := W.cell? ⟨q, n * 5 + 4, none⟩ = some (.string en) ∧ W.cell? ⟨K, 0, none⟩ = some (.int .i64 k) ∧ W.cell? ⟨K, 1, none⟩ = some (.bool e) ∧ W.cell? ⟨K, 2, none⟩ = some (.string t) ∧ W.cell? ⟨K, 3, none⟩ = some v
theorem SC.same {q n K : Nat} {en : ByteArray} {k : Int} {e : Bool} {t : ByteArray} {v : Value} {W W' : World} (h : SC q n K en k e t v W) (h1 : W'.heap[q]? = W.heap[q]?) (h2 : W'.heap[K]? = W.heap[K]?) : SC q n K en k e t v W' :=
  ⟨(World.cell?_of_block (w := W) (a := ⟨q, n * 5 + 4, none⟩) h1).trans h.1, (World.cell?_of_block (w := W) (a := ⟨K, 0, none⟩) h2).trans h.2.1, (World.cell?_of_block (w := W) (a := ⟨K, 1, none⟩) h2).trans h.2.2.1, (World.cell?_of_block (w := W) (a := ⟨K, 2, none⟩) h2).trans h.2.2.2.1, (World.cell?_of_block (w := W) (a := ⟨K, 3, none⟩) h2).trans h.2.2.2.2⟩
theorem SC.put {q n K : Nat} {en : ByteArray} {k : Int} {e : Bool} {t : ByteArray} {v : Value} {W : World} {x : Value} (h : SC q n K en k e t v W) (hq : K ≠ q) : SC q n K en k e t v (W.setCell ⟨q, n * 5 + 3, none⟩ x) :=
  ⟨(World.cell?_setCell_other _ _ _ _ (fun e => by injection e; omega)).trans h.1, (World.cell?_of_block (w := W) (a := ⟨K, 0, none⟩) (Below.heap_setCell W _ _ K hq)).trans h.2.1, (World.cell?_of_block (w := W) (a := ⟨K, 1, none⟩) (Below.heap_setCell W _ _ K hq)).trans h.2.2.1, (World.cell?_of_block (w := W) (a := ⟨K, 2, none⟩) (Below.heap_setCell W _ _ K hq)).trans h.2.2.2.1, (World.cell?_of_block (w := W) (a := ⟨K, 3, none⟩) (Below.heap_setCell W _ _ K hq)).trans h.2.2.2.2⟩

set_option maxHeartbeats 16000000 in
set_option maxRecDepth 8000 in
theorem closen_more (g B : Nat) (p : PS) (fp : List Nat) (o h : ON) (R : List ON) (w : World) (H : PW w g B p fp) (ho : p.c.op = o :: h :: R) (hR : R.length ≤ 1000) (hl : h.nms.length ≤ 1048576) :
    Calls Try.prog 68 #[.pointer (some ⟨g, 0, none⟩)] w fun e w' => e = .returned (.int .i64 16) ∧ PM w w' g B fp (p.sc ⟨p.c.next, h.kid o.tr :: R, p.c.root⟩) := by
  have HH : Hid (PW w g B p fp) := H
  have HO : Hid (p.c.op = o :: h :: R) := ho
  obtain ⟨q, co, u, HT⟩ := H.top ho
  have HTT : Hid (Top w g B p fp o (h :: R) q co u) := HT
  obtain ⟨xu, cu, hu⟩ := HT.hu
  subst hu
  have CL := last_zero g q (R.length + 1) co w HT.c9 (by omega)
  obtain ⟨n, hn⟩ : ∃ n, R.length = n := ⟨_, rfl⟩
  have HN : Hid (R.length = n) := hn
  rw [hn] at CL hR
  clear H ho HT hn
  have c9 : w.cell? ⟨g, 9, none⟩ = some (.slice (some ⟨q, 0, none⟩) (n + 1 + 1) co) := by rw [← HN.out]; exact HTT.out.c9
  go_enter Try.func68, Try.ntmps68
  go_wp2_with fail
  refine CL.mono ?_
  rintro e1 w1 ⟨rfl, qd, rfl⟩
  clear CL
  have H1 : Hid (PW (w.drewN qd) g B p fp) := HH.out.drewN qd
  have T1 : Hid (Top (w.drewN qd) g B p fp o (h :: R) q co (.slice xu o.nms.length cu)) := HTT.out.drewN HH.out HO.out qd
  have F1 : Hid (Ff g fp w (w.drewN qd)) := (Ff.refl _ _ _).drewN qd
  clear HH HTT c9
  generalize w.drewN qd = w1 at *
  have hn1 : (h :: R).length = n + 1 := by rw [List.length_cons, HN.out]
  have d0 : w1.cell? ⟨q, (n + 1) * 5, none⟩ = some (.int .i64 o.k) := by rw [← hn1]; exact T1.out.c 0 (by decide)
  have d1 : w1.cell? ⟨q, (n + 1) * 5 + 1, none⟩ = some (.bool o.e) := by rw [← hn1]; exact T1.out.c 1 (by decide)
  have d2 : w1.cell? ⟨q, (n + 1) * 5 + 2, none⟩ = some (.string o.t) := by rw [← hn1]; exact T1.out.c 2 (by decide)
  have d3 : w1.cell? ⟨q, (n + 1) * 5 + 3, none⟩ = some (.slice xu o.nms.length cu) := by rw [← hn1]; exact T1.out.c 3 (by decide)
  clear hn1
  go_upto_region 2 with fail
  have bA : Hid (Below w1.heap.size w1 (w1.alloc (.cells #[.int .i64 o.k, .bool o.e, .string o.t, .slice xu o.nms.length cu] 25))) := (Below.refl _ _).alloc (Nat.le_refl _) _
  have HK : Hid ((w1.alloc (.cells #[.int .i64 o.k, .bool o.e, .string o.t, .slice xu o.nms.length cu] 25)).heap[w1.heap.size]? = some (.cells #[.int .i64 o.k, .bool o.e, .string o.t, .slice xu o.nms.length cu] 25 (0, 0))) := heap_alloc_new _ _
  obtain ⟨K, hK⟩ : ∃ K, w1.heap.size = K := ⟨_, rfl⟩
  have HKK : Hid (w1.heap.size = K) := hK
  have H2 : Hid (PW (w1.alloc (.cells #[.int .i64 o.k, .bool o.e, .string o.t, .slice xu o.nms.length cu] 25)) g B p fp) := H1.out.below bA.out
  have T2 : Hid (Top (w1.alloc (.cells #[.int .i64 o.k, .bool o.e, .string o.t, .slice xu o.nms.length cu] 25)) g B p fp o (h :: R) q co (.slice xu o.nms.length cu)) := T1.out.below H1.out HO.out bA.out
  have F2 : Hid (Ff g fp w (w1.alloc (.cells #[.int .i64 o.k, .bool o.e, .string o.t, .slice xu o.nms.length cu] 25))) := F1.out.alloc _
  clear d0 d1 d2 d3
  rw [hK] at HK ⊢
  generalize w1.alloc (.cells #[.int .i64 o.k, .bool o.e, .string o.t, .slice xu o.nms.length cu] 25) = w2 at *
  clear hK bA T1
  have c9 : w2.cell? ⟨g, 9, none⟩ = some (.slice (some ⟨q, 0, none⟩) (n + 1 + 1) co) := by rw [← HN.out]; exact T2.out.c9
  have f9 : w2.frozen? ⟨g, 9, none⟩ = false := by
    obtain ⟨tv, ov, rv, cs, fo, fr, h, _⟩ := H2.out
    exact h.st.fr 9 (by show 9 < 14; decide)
  have hco : n + 1 + 1 ≤ co := by rw [← HN.out]; exact T2.out.hco
  have hcoI : (n : Int) + 1 ≤ (co : Int) := by omega
  have hgK : g ≠ K := by have h1 := H1.out.lt; have := HKK.out; omega
  have hKn : Hid (K ∉ fp) := fun hm => by have := (H1.out.lt.2.2 K hm).2; have := HKK.out; omega
  have hqK : K ≠ q := fun e => hKn.out (by rw [e]; exact T2.out.qf)
  have hKl : K < w2.heap.size := heap_lt HK.out
  obtain ⟨fk, fp1, P3, TK3, N3, S3⟩ := H2.out.pop HO.out T2.out
  rw [show (h :: R).length = n + 1 by rw [List.length_cons, HN.out]] at P3 TK3
  have HP3 : Hid (PW ((w2.setCell ⟨g, 9, none⟩ (.slice (some ⟨q, 0, none⟩) (n + 1) co)).drew) g B (p.sc ⟨p.c.next, h :: R, p.c.root⟩) fp1) := P3.same (Nat.le_refl _) rfl (fun _ _ => rfl)
  have HTK : Hid (TrV ((w2.setCell ⟨g, 9, none⟩ (.slice (some ⟨q, 0, none⟩) (n + 1) co)).drew) B o.tr (.slice xu o.nms.length cu) fk) := TrV.same _ _ _ TK3 (fun _ _ => rfl)
  have HNS : Hid ((fp1 ++ fk).Nodup ∧ ∀ x ∈ fp1 ++ fk, x ∈ fp) := ⟨N3, S3⟩
  have HF3 : Hid (Ff g fp w ((w2.setCell ⟨g, 9, none⟩ (.slice (some ⟨q, 0, none⟩) (n + 1) co)).drew)) := (F2.out.set g 9 _ (Or.inl rfl)).drewN 1
  have HK3 : Hid (((w2.setCell ⟨g, 9, none⟩ (.slice (some ⟨q, 0, none⟩) (n + 1) co)).drew).heap[K]? = some (.cells #[.int .i64 o.k, .bool o.e, .string o.t, .slice xu o.nms.length cu] 25 (0, 0))) := (Below.heap_setCell w2 ⟨g, 9, none⟩ _ K (fun e => hgK e.symm)).trans HK.out
  have e9 : ((w2.setCell ⟨g, 9, none⟩ (.slice (some ⟨q, 0, none⟩) (n + 1) co)).drew).cell? ⟨g, 9, none⟩ = some (.slice (some ⟨q, 0, none⟩) (n + 1) co) := World.cell?_setCell_same _ _ _ c9
  clear P3 TK3 N3 S3
  have i1 : ((n : Int) + 1 + 1 - 1).toNat = n + 1 := by omega
  have i2 : IntKind.i64.wrap ((n : Int) + 1 + 1 - 1) = (n : Int) + 1 + 1 - 1 := by rw [IntKind.wrap_i64]; omega
  have i3 : (0 : Int) ≤ (n : Int) + 1 + 1 - 1 := by omega
  have i4 : (n : Int) + 1 + 1 - 1 ≤ (co : Int) := by omega
  go_region
  generalize (w2.setCell ⟨g, 9, none⟩ (.slice (some ⟨q, 0, none⟩) (n + 1) co)).drew = w3 at *
  clear c9 f9 HK F2 T2 H2 i1 i2 i3 i4
  have j1 : ((n : Int) + 1 == 0) = false := by simp; omega
  have CL := last_zero g q n co w3 e9 (by omega)
  go_wp2_with fail
  refine CL.mono ?_
  rintro e2 w4 ⟨rfl, qe, rfl⟩
  clear CL
  obtain rfl : n = R.length := HN.out.symm
  clear HN
  have P4 : Hid (PW (w3.drewN qe) g B (p.sc ⟨p.c.next, h :: R, p.c.root⟩) fp1) := HP3.out.drewN qe
  have TK4 : Hid (TrV (w3.drewN qe) B o.tr (.slice xu o.nms.length cu) fk) := TrV.same _ _ _ HTK.out (fun _ _ => rfl)
  have F4 : Hid (Ff g fp w (w3.drewN qe)) := HF3.out.drewN qe
  have K4 : Hid ((w3.drewN qe).heap[K]? = some (.cells #[.int .i64 o.k, .bool o.e, .string o.t, .slice xu o.nms.length cu] 25 (0, 0))) := HK3.out
  have e9' : (w3.drewN qe).cell? ⟨g, 9, none⟩ = some (.slice (some ⟨q, 0, none⟩) (R.length + 1) co) := e9
  clear HP3 HTK HF3 HK3 e9
  generalize w3.drewN qe = w4 at *
  obtain ⟨q4, co4, uh, T4⟩ := P4.out.top rfl
  have ee := T4.c9.symm.trans e9'
  injection ee with ee
  injection ee with e1 _ e3
  injection e1 with e1
  injection e1 with e1
  subst e1 e3
  obtain ⟨xh, ch, g2, cap2, w', KD⟩ := P4.out.kid rfl T4 o.tr (.slice xu o.nms.length cu) fk TK4.out HNS.out.1 (by omega)
  have HKD : Hid (Kd w4 g B (p.sc ⟨p.c.next, h :: R, p.c.root⟩) fp1 fk h R o.tr (.slice xu o.nms.length cu) q4 xh ch g2 cap2 w') := KD
  have hKfp : Hid (K ∉ fp1 ++ fk) := fun hm => hKn.out (HNS.out.2 K hm)
  have hK4 : K < w4.heap.size := heap_lt K4.out
  have hq4 : q4 < w4.heap.size := T4.ql
  have hq2 := KD.hq2
  have kK := KD.kk K hK4 hKfp.out
  have hK2 : K ≠ g2 := kK.2
  have kK1 := kK.1
  have hqK' : K ≠ q4 := hqK
  have N0 : SC q4 R.length K h.en o.k o.e o.t (.slice xu o.nms.length cu) w4.drew := by
    obtain ⟨u0, u1, u2, u3, _⟩ := cell4n K4.out
    exact ⟨T4.c 4 (by decide), u0, u1, u2, u3⟩
  have N1 : SC q4 R.length K h.en o.k o.e o.t (.slice xu o.nms.length cu) (w4.drew.alloc (.cells #[.string ⟨#[]⟩, .int .i64 0, .bool false, .string ⟨#[]⟩, .slice none 0 0] 83)) := N0.same (Below.heap_alloc w4.drew _ _ hq4) (Below.heap_alloc w4.drew _ _ hK4)
  have N2 : SC q4 R.length K h.en o.k o.e o.t (.slice xu o.nms.length cu) w' := SC.same (W := w4) N0 KD.kq kK1
  have N3 : SC q4 R.length K h.en o.k o.e o.t (.slice xu o.nms.length cu) (((((w'.setCell ⟨g2, h.nms.length * 5, none⟩ (.string h.en)).setCell ⟨g2, h.nms.length * 5 + 1, none⟩ (.int .i64 o.k)).setCell ⟨g2, h.nms.length * 5 + 2, none⟩ (.bool o.e)).setCell ⟨g2, h.nms.length * 5 + 3, none⟩ (.string o.t)).setCell ⟨g2, h.nms.length * 5 + 4, none⟩ (.slice xu o.nms.length cu)) := N2.same (set5_other w' g2 (h.nms.length * 5) (.string h.en) (.int .i64 o.k) (.bool o.e) (.string o.t) (.slice xu o.nms.length cu) q4 hq2) (set5_other w' g2 (h.nms.length * 5) (.string h.en) (.int .i64 o.k) (.bool o.e) (.string o.t) (.slice xu o.nms.length cu) K hK2)
  have N4 : SC q4 R.length K h.en o.k o.e o.t (.slice xu o.nms.length cu) ((((((w'.setCell ⟨g2, h.nms.length * 5, none⟩ (.string h.en)).setCell ⟨g2, h.nms.length * 5 + 1, none⟩ (.int .i64 o.k)).setCell ⟨g2, h.nms.length * 5 + 2, none⟩ (.bool o.e)).setCell ⟨g2, h.nms.length * 5 + 3, none⟩ (.string o.t)).setCell ⟨g2, h.nms.length * 5 + 4, none⟩ (.slice xu o.nms.length cu)).setCell ⟨q4, R.length * 5 + 3, none⟩ (.slice (some ⟨g2, 0, none⟩) (h.nms.length + 1) cap2)) := SC.put N3 hqK'
  have N5 : SC q4 R.length K h.en o.k o.e o.t (.slice xu o.nms.length cu) (w'.setCell ⟨q4, R.length * 5 + 3, none⟩ (.slice (some ⟨g2, 0, none⟩) (h.nms.length + 1) cap2)) := SC.put N2 hqK'
  have N6 : SC q4 R.length K h.en o.k o.e o.t (.slice xu o.nms.length cu) ((((((w'.setCell ⟨q4, R.length * 5 + 3, none⟩ (.slice (some ⟨g2, 0, none⟩) (h.nms.length + 1) cap2)).setCell ⟨g2, h.nms.length * 5, none⟩ (.string h.en)).setCell ⟨g2, h.nms.length * 5 + 1, none⟩ (.int .i64 o.k)).setCell ⟨g2, h.nms.length * 5 + 2, none⟩ (.bool o.e)).setCell ⟨g2, h.nms.length * 5 + 3, none⟩ (.string o.t)).setCell ⟨g2, h.nms.length * 5 + 4, none⟩ (.slice xu o.nms.length cu)) := N5.same (set5_other _ g2 (h.nms.length * 5) (.string h.en) (.int .i64 o.k) (.bool o.e) (.string o.t) (.slice xu o.nms.length cu) q4 hq2) (set5_other _ g2 (h.nms.length * 5) (.string h.en) (.int .i64 o.k) (.bool o.e) (.string o.t) (.slice xu o.nms.length cu) K hK2)
  have d4x : w4.drew.cell? ⟨q4, R.length * 5 + 3, none⟩ = some (.slice xh h.nms.length ch) := KD.c3
  have d4a : (w4.drew.alloc (.cells #[.string ⟨#[]⟩, .int .i64 0, .bool false, .string ⟨#[]⟩, .slice none 0 0] 83)).cell? ⟨q4, R.length * 5 + 3, none⟩ = some (.slice xh h.nms.length ch) := (World.cell?_of_block (w := w4) (a := ⟨q4, R.length * 5 + 3, none⟩) (Below.heap_alloc w4.drew _ _ hq4)).trans KD.c3
  have d4' : w'.cell? ⟨q4, R.length * 5 + 3, none⟩ = some (.slice xh h.nms.length ch) := (World.cell?_of_block (w := w4) (a := ⟨q4, R.length * 5 + 3, none⟩) KD.kq).trans KD.c3
  have df : w'.frozen? ⟨q4, R.length * 5 + 3, none⟩ = false := KD.df
  have z0 := KD.z0
  have z1 := KD.z1
  have z2 := KD.z2
  have z3 := KD.z3
  have z4 := KD.z4
  have f0 := KD.f (h.nms.length * 5)
  have f1 := KD.f (h.nms.length * 5 + 1)
  have f2 := KD.f (h.nms.length * 5 + 2)
  have f3 := KD.f (h.nms.length * 5 + 3)
  have f4 := KD.f (h.nms.length * 5 + 4)
  have hapD : (Builtin.append_ #[23, 23] 23 #[.slice xh h.nms.length ch, .slice (some ⟨w4.drew.heap.size, 0, none⟩) 1 1]).run Try.prog (w4.drew.alloc (.cells #[.string ⟨#[]⟩, .int .i64 0, .bool false, .string ⟨#[]⟩, .slice none 0 0] 83)) = .ok (.slice (some ⟨g2, 0, none⟩) (h.nms.length + 1) cap2) w' := KD.hap
  have hq2' : g2 ≠ q4 := fun e => hq2 e.symm
  have hlI : (0 : Int) ≤ (h.nms.length : Int) := by omega
  have hlI2 : (h.nms.length : Int) < (h.nms.length : Int) + 1 := by omega
  have hlN : h.nms.length < h.nms.length + 1 := by omega
  have HEQ : Hid (((set5 w' g2 (h.nms.length * 5) (entV h.en o.tr (.slice xu o.nms.length cu))).setCell ⟨q4, R.length * 5 + 3, none⟩ (.slice (some ⟨g2, 0, none⟩) (h.nms.length + 1) cap2)) = (((((w'.setCell ⟨g2, h.nms.length * 5, none⟩ (.string h.en)).setCell ⟨g2, h.nms.length * 5 + 1, none⟩ (.int .i64 o.k)).setCell ⟨g2, h.nms.length * 5 + 2, none⟩ (.bool o.e)).setCell ⟨g2, h.nms.length * 5 + 3, none⟩ (.string o.t)).setCell ⟨g2, h.nms.length * 5 + 4, none⟩ (.slice xu o.nms.length cu)).setCell ⟨q4, R.length * 5 + 3, none⟩ (.slice (some ⟨g2, 0, none⟩) (h.nms.length + 1) cap2)) := rfl
  clear KD T4 kK kK1
  go_upto_region 7 with fail
  go_cut [] from 5 to 53 (fun wx => wx = (((((w'.setCell ⟨g2, h.nms.length * 5, none⟩ (.string h.en)).setCell ⟨g2, h.nms.length * 5 + 1, none⟩ (.int .i64 o.k)).setCell ⟨g2, h.nms.length * 5 + 2, none⟩ (.bool o.e)).setCell ⟨g2, h.nms.length * 5 + 3, none⟩ (.string o.t)).setCell ⟨g2, h.nms.length * 5 + 4, none⟩ (.slice xu o.nms.length cu)).setCell ⟨q4, R.length * 5 + 3, none⟩ (.slice (some ⟨g2, 0, none⟩) (h.nms.length + 1) cap2))
  case first =>
    refine wp_region_held_drew (S := SC q4 R.length K h.en o.k o.e o.t (.slice xu o.nms.length cu)) (by kernel_rfl) N0 (fun _ => ?_)
    generalize w4.drew = W1 at N0 N1 d4x d4a hapD ⊢
    refine wpAnyH_take (i := 0) (oi := { dst := some 36, op := Op.move (Operand.tmp 4), type := 121, pos := "parser.go:259", after := #[], guard := none }) (v := .pointer (some ⟨q4, R.length * 5, none⟩)) rfl (by kernel_rfl) (by kernel_rfl) (by kernel_rfl) (fun _ _ _ h => h) (Or.inl ⟨by rfl, by intro w _; go_simp⟩) N0 ?_
    try simp only [Act.put, List.setIfInBounds_toArray, List.set_cons_zero, List.set_cons_succ]
    refine wpAnyH_take (i := 1) (oi := { dst := some 37, op := Op.nilCheck (Operand.tmp 36), type := 0, pos := "parser.go:259", after := #[{ on := 0, ground := Ground.data }], guard := none }) (v := .pointer (some ⟨q4, R.length * 5, none⟩)) rfl (by kernel_rfl) (by kernel_rfl) (by kernel_rfl) (fun _ _ _ h => h) (Or.inl ⟨by rfl, by intro w _; go_simp⟩) N0 ?_
    try simp only [Act.put, List.setIfInBounds_toArray, List.set_cons_zero, List.set_cons_succ]
    refine wpAnyH_take (i := 2) (oi := { dst := some 38, op := Op.fieldAddr 120 (Operand.tmp 37) 0, type := 0, pos := "parser.go:259", after := #[{ on := 1, ground := Ground.data }], guard := none }) (v := .pointer (some ⟨q4, R.length * 5, none⟩)) rfl (by kernel_rfl) (by kernel_rfl) (by kernel_rfl) (fun _ _ _ h => h) (Or.inl ⟨by rfl, by intro w _; go_simp⟩) N0 ?_
    try simp only [Act.put, List.setIfInBounds_toArray, List.set_cons_zero, List.set_cons_succ]
    refine wpAnyH_take (i := 3) (oi := { dst := some 39, op := Op.fieldAddr 25 (Operand.tmp 38) 3, type := 0, pos := "parser.go:259", after := #[{ on := 2, ground := Ground.data }], guard := none }) (v := .pointer (some ⟨q4, R.length * 5 + 3, none⟩)) rfl (by kernel_rfl) (by kernel_rfl) (by kernel_rfl) (fun _ _ _ h => h) (Or.inl ⟨by rfl, by intro w _; go_simp⟩) N0 ?_
    try simp only [Act.put, List.setIfInBounds_toArray, List.set_cons_zero, List.set_cons_succ]
    refine wpAnyH_take (i := 5) (oi := { dst := some 41, op := Op.move (Operand.tmp 4), type := 121, pos := "parser.go:259", after := #[], guard := none }) (v := .pointer (some ⟨q4, R.length * 5, none⟩)) rfl (by kernel_rfl) (by kernel_rfl) (by kernel_rfl) (fun _ _ _ h => h) (Or.inl ⟨by rfl, by intro w _; go_simp⟩) N0 ?_
    try simp only [Act.put, List.setIfInBounds_toArray, List.set_cons_zero, List.set_cons_succ]
    refine wpAnyH_take (i := 6) (oi := { dst := some 42, op := Op.nilCheck (Operand.tmp 41), type := 0, pos := "parser.go:259", after := #[{ on := 5, ground := Ground.data }], guard := none }) (v := .pointer (some ⟨q4, R.length * 5, none⟩)) rfl (by kernel_rfl) (by kernel_rfl) (by kernel_rfl) (fun _ _ _ h => h) (Or.inl ⟨by rfl, by intro w _; go_simp⟩) N0 ?_
    try simp only [Act.put, List.setIfInBounds_toArray, List.set_cons_zero, List.set_cons_succ]
    refine wpAnyH_take (i := 7) (oi := { dst := some 43, op := Op.fieldAddr 120 (Operand.tmp 42) 1, type := 0, pos := "parser.go:259", after := #[{ on := 6, ground := Ground.data }], guard := none }) (v := .pointer (some ⟨q4, R.length * 5 + 4, none⟩)) rfl (by kernel_rfl) (by kernel_rfl) (by kernel_rfl) (fun _ _ _ h => h) (Or.inl ⟨by rfl, by intro w _; go_simp⟩) N0 ?_
    try simp only [Act.put, List.setIfInBounds_toArray, List.set_cons_zero, List.set_cons_succ]
    refine wpAnyH_take (i := 8) (oi := { dst := some 44, op := Op.load 9 (Operand.tmp 43), type := 9, pos := "parser.go:259", after := #[{ on := 7, ground := Ground.data }], guard := none }) (v := .string h.en) rfl (by kernel_rfl) (by kernel_rfl) (by kernel_rfl) (fun _ _ _ h => h) (Or.inl ⟨by rfl, by rintro w ⟨s0, s1, s2, s3, s4⟩; go_simp⟩) N0 ?_
    try simp only [Act.put, List.setIfInBounds_toArray, List.set_cons_zero, List.set_cons_succ]
    refine wpAnyH_take (i := 9) (oi := { dst := some 45, op := Op.load 25 (Operand.tmp 3), type := 25, pos := "parser.go:259", after := #[], guard := none }) (v := .agg #[.int .i64 o.k, .bool o.e, .string o.t, .slice xu o.nms.length cu]) rfl (by kernel_rfl) (by kernel_rfl) (by kernel_rfl) (fun _ _ _ h => h) (Or.inl ⟨by rfl, by rintro w ⟨s0, s1, s2, s3, s4⟩; go_simp⟩) N0 ?_
    try simp only [Act.put, List.setIfInBounds_toArray, List.set_cons_zero, List.set_cons_succ]
    refine wpAnyH_take (i := 10) (oi := { dst := some 46, op := Op.build 83 #[(0, Operand.tmp 44), (1, Operand.tmp 45)], type := 83, pos := "parser.go:259", after := #[{ on := 8, ground := Ground.data }, { on := 9, ground := Ground.data }], guard := none }) (v := .agg #[.string h.en, .int .i64 o.k, .bool o.e, .string o.t, .slice xu o.nms.length cu]) rfl (by kernel_rfl) (by kernel_rfl) (by kernel_rfl) (fun _ _ _ h => h) (Or.inl ⟨by rfl, by intro w _; go_simp⟩) N0 ?_
    try simp only [Act.put, List.setIfInBounds_toArray, List.set_cons_zero, List.set_cons_succ]
    refine wpAnyH_ready (rs := [4, 12]) (by kernel_rfl) (by decide) (AllReadyH.cons rfl (fun K1 hK1 => ?_) (AllReadyH.cons rfl (fun K1 hK1 => ?_) AllReadyH.nil))
    · skip
      rw [if_pos (by rfl)]
      go_simp
      refine hK1.out _ _ N0 (fun _ => ?_)
      clear hK1 K1
      try simp only [Act.put, List.setIfInBounds_toArray, List.set_cons_zero, List.set_cons_succ]
      refine wpAnyH_take (i := 11) (oi := { dst := some 47, op := Op.call { callee := Callee.builtin Builtin.len, args := #[Operand.tmp 40], argTypes := #[23] }, type := 3, pos := "parser.go:259", after := #[{ on := 4, ground := Ground.data }], guard := none }) (v := .int .i64 (h.nms.length : Int)) rfl (by kernel_rfl) (by kernel_rfl) (by kernel_rfl) (fun _ _ _ h => h) (Or.inl ⟨by rfl, by intro w _; go_simp⟩) N0 ?_
      try simp only [Act.put, List.setIfInBounds_toArray, List.set_cons_zero, List.set_cons_succ]
      refine wpAnyH_ready (rs := [12]) (by kernel_rfl) (by decide) (AllReadyH.cons rfl (fun K1 hK1 => ?_) AllReadyH.nil)
      rw [if_pos (by rfl)]
      go_simp
      refine hK1.out _ _ N1 (fun _ => ?_)
      clear hK1 K1
      try simp only [Act.put, List.setIfInBounds_toArray, List.set_cons_zero, List.set_cons_succ]
      refine wpAnyH_ready (rs := [13]) (by kernel_rfl) (by decide) (AllReadyH.cons rfl (fun K1 hK1 => ?_) AllReadyH.nil)
      refine step_app (o := { dst := some 49, op := Op.call { callee := Callee.builtin Builtin.append, args := #[Operand.tmp 40, Operand.tmp 48], argTypes := #[23, 23] }, type := 23, pos := "parser.go:259", after := #[{ on := 4, ground := Ground.data }, { on := 12, ground := Ground.data }, { on := 0, ground := Ground.phase }, { on := 1, ground := Ground.phase }, { on := 2, ground := Ground.phase }, { on := 3, ground := Ground.phase }, { on := 4, ground := Ground.phase }, { on := 5, ground := Ground.phase }, { on := 6, ground := Ground.phase }, { on := 7, ground := Ground.phase }, { on := 8, ground := Ground.phase }, { on := 9, ground := Ground.phase }, { on := 10, ground := Ground.phase }, { on := 11, ground := Ground.phase }, { on := 12, ground := Ground.phase }], guard := none }) rfl (.tmp 40) (.tmp 48) 23 rfl (.slice xh h.nms.length ch) (.slice (some ⟨W1.heap.size, 0, none⟩) 1 1) rfl rfl (.slice (some ⟨g2, 0, none⟩) (h.nms.length + 1) cap2) w' hapD ?_
      refine hK1.out _ _ N2 (fun _ => ?_)
      clear hK1 K1
      try simp only [Act.put, List.setIfInBounds_toArray, List.set_cons_zero, List.set_cons_succ]
      refine wpAnyH_take (i := 14) (oi := { dst := some 50, op := Op.indexAddr 23 (Operand.tmp 49) (Operand.tmp 47), type := 0, pos := "parser.go:259", after := #[{ on := 13, ground := Ground.data }, { on := 11, ground := Ground.data }, { on := 0, ground := Ground.phase }, { on := 1, ground := Ground.phase }, { on := 2, ground := Ground.phase }, { on := 3, ground := Ground.phase }, { on := 4, ground := Ground.phase }, { on := 5, ground := Ground.phase }, { on := 6, ground := Ground.phase }, { on := 7, ground := Ground.phase }, { on := 8, ground := Ground.phase }, { on := 9, ground := Ground.phase }, { on := 10, ground := Ground.phase }, { on := 11, ground := Ground.phase }, { on := 12, ground := Ground.phase }, { on := 13, ground := Ground.phase }, { on := 19, ground := Ground.gcOnly Departure.appendInPlace }], guard := none }) (v := .pointer (some ⟨g2, h.nms.length * 5, none⟩)) rfl (by kernel_rfl) (by kernel_rfl) (by kernel_rfl) (fun _ _ _ h => h) (Or.inl ⟨by rfl, by intro w _; go_simp⟩) N2 ?_
      try simp only [Act.put, List.setIfInBounds_toArray, List.set_cons_zero, List.set_cons_succ]
      refine wpAnyH_take (i := 16) (oi := { dst := some 51, op := Op.nilCheck (Operand.tmp 36), type := 0, pos := "parser.go:259", after := #[{ on := 0, ground := Ground.data }, { on := 0, ground := Ground.phase }, { on := 1, ground := Ground.phase }, { on := 2, ground := Ground.phase }, { on := 3, ground := Ground.phase }, { on := 4, ground := Ground.phase }, { on := 5, ground := Ground.phase }, { on := 6, ground := Ground.phase }, { on := 7, ground := Ground.phase }, { on := 8, ground := Ground.phase }, { on := 9, ground := Ground.phase }, { on := 10, ground := Ground.phase }, { on := 11, ground := Ground.phase }, { on := 12, ground := Ground.phase }, { on := 13, ground := Ground.phase }, { on := 14, ground := Ground.textOnly Departure.appendInPlace }, { on := 15, ground := Ground.textOnly Departure.appendInPlace }], guard := none }) (v := .pointer (some ⟨q4, R.length * 5, none⟩)) rfl (by kernel_rfl) (by kernel_rfl) (by kernel_rfl) (fun _ _ _ h => h) (Or.inl ⟨by rfl, by intro w _; go_simp⟩) N2 ?_
      try simp only [Act.put, List.setIfInBounds_toArray, List.set_cons_zero, List.set_cons_succ]
      refine wpAnyH_take (i := 17) (oi := { dst := some 52, op := Op.fieldAddr 120 (Operand.tmp 51) 0, type := 0, pos := "parser.go:259", after := #[{ on := 16, ground := Ground.data }, { on := 0, ground := Ground.phase }, { on := 1, ground := Ground.phase }, { on := 2, ground := Ground.phase }, { on := 3, ground := Ground.phase }, { on := 4, ground := Ground.phase }, { on := 5, ground := Ground.phase }, { on := 6, ground := Ground.phase }, { on := 7, ground := Ground.phase }, { on := 8, ground := Ground.phase }, { on := 9, ground := Ground.phase }, { on := 10, ground := Ground.phase }, { on := 11, ground := Ground.phase }, { on := 12, ground := Ground.phase }, { on := 13, ground := Ground.phase }, { on := 14, ground := Ground.textOnly Departure.appendInPlace }, { on := 15, ground := Ground.textOnly Departure.appendInPlace }], guard := none }) (v := .pointer (some ⟨q4, R.length * 5, none⟩)) rfl (by kernel_rfl) (by kernel_rfl) (by kernel_rfl) (fun _ _ _ h => h) (Or.inl ⟨by rfl, by intro w _; go_simp⟩) N2 ?_
      try simp only [Act.put, List.setIfInBounds_toArray, List.set_cons_zero, List.set_cons_succ]
      refine wpAnyH_take (i := 18) (oi := { dst := some 53, op := Op.fieldAddr 25 (Operand.tmp 52) 3, type := 0, pos := "parser.go:259", after := #[{ on := 17, ground := Ground.data }, { on := 0, ground := Ground.phase }, { on := 1, ground := Ground.phase }, { on := 2, ground := Ground.phase }, { on := 3, ground := Ground.phase }, { on := 4, ground := Ground.phase }, { on := 5, ground := Ground.phase }, { on := 6, ground := Ground.phase }, { on := 7, ground := Ground.phase }, { on := 8, ground := Ground.phase }, { on := 9, ground := Ground.phase }, { on := 10, ground := Ground.phase }, { on := 11, ground := Ground.phase }, { on := 12, ground := Ground.phase }, { on := 13, ground := Ground.phase }, { on := 14, ground := Ground.textOnly Departure.appendInPlace }, { on := 15, ground := Ground.textOnly Departure.appendInPlace }], guard := none }) (v := .pointer (some ⟨q4, R.length * 5 + 3, none⟩)) rfl (by kernel_rfl) (by kernel_rfl) (by kernel_rfl) (fun _ _ _ h => h) (Or.inl ⟨by rfl, by intro w _; go_simp⟩) N2 ?_
      try simp only [Act.put, List.setIfInBounds_toArray, List.set_cons_zero, List.set_cons_succ]
      refine wpAnyH_ready (rs := [15, 19]) (by kernel_rfl) (by decide) (AllReadyH.cons rfl (fun K1 hK1 => ?_) (AllReadyH.cons rfl (fun K1 hK1 => ?_) AllReadyH.nil))
      · skip
        rw [if_pos (by rfl)]
        go_simp
        refine hK1.out _ _ N3 (fun _ => ?_)
        clear hK1 K1
        refine wpAnyH_ready (rs := [19]) (by kernel_rfl) (by decide) (AllReadyH.cons rfl (fun K1 hK1 => ?_) AllReadyH.nil)
        rw [if_pos (by rfl)]
        go_simp
        refine hK1.out _ _ N4 (fun _ => ?_)
        clear hK1 K1
        refine wpAnyH_done (by kernel_rfl) ?_ _
        (try go_wp2_with fail)
        go_meet
        rfl
      · skip
        rw [if_pos (by rfl)]
        go_simp
        refine hK1.out _ _ N5 (fun _ => ?_)
        clear hK1 K1
        refine wpAnyH_ready (rs := [15]) (by kernel_rfl) (by decide) (AllReadyH.cons rfl (fun K1 hK1 => ?_) AllReadyH.nil)
        rw [if_pos (by rfl)]
        go_simp
        refine hK1.out _ _ N6 (fun _ => ?_)
        clear hK1 K1
        refine wpAnyH_done (by kernel_rfl) ?_ _
        (try go_wp2_with fail)
        go_meet
        exact set5_comm w' g2 (h.nms.length * 5) _ _ _ _ _ ⟨q4, R.length * 5 + 3, none⟩ _ hq2
    · skip
      rw [if_pos (by rfl)]
      go_simp
      refine hK1.out _ _ N1 (fun _ => ?_)
      clear hK1 K1
      try simp only [Act.put, List.setIfInBounds_toArray, List.set_cons_zero, List.set_cons_succ]
      refine wpAnyH_ready (rs := [4]) (by kernel_rfl) (by decide) (AllReadyH.cons rfl (fun K1 hK1 => ?_) AllReadyH.nil)
      rw [if_pos (by rfl)]
      go_simp
      refine hK1.out _ _ N1 (fun _ => ?_)
      clear hK1 K1
      try simp only [Act.put, List.setIfInBounds_toArray, List.set_cons_zero, List.set_cons_succ]
      refine wpAnyH_take (i := 11) (oi := { dst := some 47, op := Op.call { callee := Callee.builtin Builtin.len, args := #[Operand.tmp 40], argTypes := #[23] }, type := 3, pos := "parser.go:259", after := #[{ on := 4, ground := Ground.data }], guard := none }) (v := .int .i64 (h.nms.length : Int)) rfl (by kernel_rfl) (by kernel_rfl) (by kernel_rfl) (fun _ _ _ h => h) (Or.inl ⟨by rfl, by intro w _; go_simp⟩) N1 ?_
      try simp only [Act.put, List.setIfInBounds_toArray, List.set_cons_zero, List.set_cons_succ]
      refine wpAnyH_ready (rs := [13]) (by kernel_rfl) (by decide) (AllReadyH.cons rfl (fun K1 hK1 => ?_) AllReadyH.nil)
      refine step_app (o := { dst := some 49, op := Op.call { callee := Callee.builtin Builtin.append, args := #[Operand.tmp 40, Operand.tmp 48], argTypes := #[23, 23] }, type := 23, pos := "parser.go:259", after := #[{ on := 4, ground := Ground.data }, { on := 12, ground := Ground.data }, { on := 0, ground := Ground.phase }, { on := 1, ground := Ground.phase }, { on := 2, ground := Ground.phase }, { on := 3, ground := Ground.phase }, { on := 4, ground := Ground.phase }, { on := 5, ground := Ground.phase }, { on := 6, ground := Ground.phase }, { on := 7, ground := Ground.phase }, { on := 8, ground := Ground.phase }, { on := 9, ground := Ground.phase }, { on := 10, ground := Ground.phase }, { on := 11, ground := Ground.phase }, { on := 12, ground := Ground.phase }], guard := none }) rfl (.tmp 40) (.tmp 48) 23 rfl (.slice xh h.nms.length ch) (.slice (some ⟨W1.heap.size, 0, none⟩) 1 1) rfl rfl (.slice (some ⟨g2, 0, none⟩) (h.nms.length + 1) cap2) w' hapD ?_
      refine hK1.out _ _ N2 (fun _ => ?_)
      clear hK1 K1
      try simp only [Act.put, List.setIfInBounds_toArray, List.set_cons_zero, List.set_cons_succ]
      refine wpAnyH_take (i := 14) (oi := { dst := some 50, op := Op.indexAddr 23 (Operand.tmp 49) (Operand.tmp 47), type := 0, pos := "parser.go:259", after := #[{ on := 13, ground := Ground.data }, { on := 11, ground := Ground.data }, { on := 0, ground := Ground.phase }, { on := 1, ground := Ground.phase }, { on := 2, ground := Ground.phase }, { on := 3, ground := Ground.phase }, { on := 4, ground := Ground.phase }, { on := 5, ground := Ground.phase }, { on := 6, ground := Ground.phase }, { on := 7, ground := Ground.phase }, { on := 8, ground := Ground.phase }, { on := 9, ground := Ground.phase }, { on := 10, ground := Ground.phase }, { on := 11, ground := Ground.phase }, { on := 12, ground := Ground.phase }, { on := 13, ground := Ground.phase }, { on := 19, ground := Ground.gcOnly Departure.appendInPlace }], guard := none }) (v := .pointer (some ⟨g2, h.nms.length * 5, none⟩)) rfl (by kernel_rfl) (by kernel_rfl) (by kernel_rfl) (fun _ _ _ h => h) (Or.inl ⟨by rfl, by intro w _; go_simp⟩) N2 ?_
      try simp only [Act.put, List.setIfInBounds_toArray, List.set_cons_zero, List.set_cons_succ]
      refine wpAnyH_take (i := 16) (oi := { dst := some 51, op := Op.nilCheck (Operand.tmp 36), type := 0, pos := "parser.go:259", after := #[{ on := 0, ground := Ground.data }, { on := 0, ground := Ground.phase }, { on := 1, ground := Ground.phase }, { on := 2, ground := Ground.phase }, { on := 3, ground := Ground.phase }, { on := 4, ground := Ground.phase }, { on := 5, ground := Ground.phase }, { on := 6, ground := Ground.phase }, { on := 7, ground := Ground.phase }, { on := 8, ground := Ground.phase }, { on := 9, ground := Ground.phase }, { on := 10, ground := Ground.phase }, { on := 11, ground := Ground.phase }, { on := 12, ground := Ground.phase }, { on := 13, ground := Ground.phase }, { on := 14, ground := Ground.textOnly Departure.appendInPlace }, { on := 15, ground := Ground.textOnly Departure.appendInPlace }], guard := none }) (v := .pointer (some ⟨q4, R.length * 5, none⟩)) rfl (by kernel_rfl) (by kernel_rfl) (by kernel_rfl) (fun _ _ _ h => h) (Or.inl ⟨by rfl, by intro w _; go_simp⟩) N2 ?_
      try simp only [Act.put, List.setIfInBounds_toArray, List.set_cons_zero, List.set_cons_succ]
      refine wpAnyH_take (i := 17) (oi := { dst := some 52, op := Op.fieldAddr 120 (Operand.tmp 51) 0, type := 0, pos := "parser.go:259", after := #[{ on := 16, ground := Ground.data }, { on := 0, ground := Ground.phase }, { on := 1, ground := Ground.phase }, { on := 2, ground := Ground.phase }, { on := 3, ground := Ground.phase }, { on := 4, ground := Ground.phase }, { on := 5, ground := Ground.phase }, { on := 6, ground := Ground.phase }, { on := 7, ground := Ground.phase }, { on := 8, ground := Ground.phase }, { on := 9, ground := Ground.phase }, { on := 10, ground := Ground.phase }, { on := 11, ground := Ground.phase }, { on := 12, ground := Ground.phase }, { on := 13, ground := Ground.phase }, { on := 14, ground := Ground.textOnly Departure.appendInPlace }, { on := 15, ground := Ground.textOnly Departure.appendInPlace }], guard := none }) (v := .pointer (some ⟨q4, R.length * 5, none⟩)) rfl (by kernel_rfl) (by kernel_rfl) (by kernel_rfl) (fun _ _ _ h => h) (Or.inl ⟨by rfl, by intro w _; go_simp⟩) N2 ?_
      try simp only [Act.put, List.setIfInBounds_toArray, List.set_cons_zero, List.set_cons_succ]
      refine wpAnyH_take (i := 18) (oi := { dst := some 53, op := Op.fieldAddr 25 (Operand.tmp 52) 3, type := 0, pos := "parser.go:259", after := #[{ on := 17, ground := Ground.data }, { on := 0, ground := Ground.phase }, { on := 1, ground := Ground.phase }, { on := 2, ground := Ground.phase }, { on := 3, ground := Ground.phase }, { on := 4, ground := Ground.phase }, { on := 5, ground := Ground.phase }, { on := 6, ground := Ground.phase }, { on := 7, ground := Ground.phase }, { on := 8, ground := Ground.phase }, { on := 9, ground := Ground.phase }, { on := 10, ground := Ground.phase }, { on := 11, ground := Ground.phase }, { on := 12, ground := Ground.phase }, { on := 13, ground := Ground.phase }, { on := 14, ground := Ground.textOnly Departure.appendInPlace }, { on := 15, ground := Ground.textOnly Departure.appendInPlace }], guard := none }) (v := .pointer (some ⟨q4, R.length * 5 + 3, none⟩)) rfl (by kernel_rfl) (by kernel_rfl) (by kernel_rfl) (fun _ _ _ h => h) (Or.inl ⟨by rfl, by intro w _; go_simp⟩) N2 ?_
      try simp only [Act.put, List.setIfInBounds_toArray, List.set_cons_zero, List.set_cons_succ]
      refine wpAnyH_ready (rs := [15, 19]) (by kernel_rfl) (by decide) (AllReadyH.cons rfl (fun K1 hK1 => ?_) (AllReadyH.cons rfl (fun K1 hK1 => ?_) AllReadyH.nil))
      · skip
        rw [if_pos (by rfl)]
        go_simp
        refine hK1.out _ _ N3 (fun _ => ?_)
        clear hK1 K1
        refine wpAnyH_ready (rs := [19]) (by kernel_rfl) (by decide) (AllReadyH.cons rfl (fun K1 hK1 => ?_) AllReadyH.nil)
        rw [if_pos (by rfl)]
        go_simp
        refine hK1.out _ _ N4 (fun _ => ?_)
        clear hK1 K1
        refine wpAnyH_done (by kernel_rfl) ?_ _
        (try go_wp2_with fail)
        go_meet
        rfl
      · skip
        rw [if_pos (by rfl)]
        go_simp
        refine hK1.out _ _ N5 (fun _ => ?_)
        clear hK1 K1
        refine wpAnyH_ready (rs := [15]) (by kernel_rfl) (by decide) (AllReadyH.cons rfl (fun K1 hK1 => ?_) AllReadyH.nil)
        rw [if_pos (by rfl)]
        go_simp
        refine hK1.out _ _ N6 (fun _ => ?_)
        clear hK1 K1
        refine wpAnyH_done (by kernel_rfl) ?_ _
        (try go_wp2_with fail)
        go_meet
        exact set5_comm w' g2 (h.nms.length * 5) _ _ _ _ _ ⟨q4, R.length * 5 + 3, none⟩ _ hq2
  case rest =>
    clear N0 N1 N2 N3 N4 N5 N6 d4x d4a d4' df z0 z1 z2 z3 z4 f0 f1 f2 f3 f4 hapD
    rw [← HEQ.out] at hcut
    have X1 := HKD.out.out
    rw [← hcut] at X1
    clear hcut HEQ HKD
    have HX : Hid (PM w4 wc g B (fp1 ++ fk) (p.sc ⟨p.c.next, h.kid o.tr :: R, p.c.root⟩)) := X1
    clear X1
    go_wp2
    go_ret
    exact ⟨rfl, PM.trans F4.out (fun x hx => Or.inl (HNS.out.2 x hx)) HX.out⟩
end Go.Proofs.Ytljcbibcdajhiaa
