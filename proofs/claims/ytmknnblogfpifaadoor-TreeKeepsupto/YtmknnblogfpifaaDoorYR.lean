/- TyR, gathered (own text of the verifier; made by joint.py). -/
import Derived.Test.YtmknnblogfpifaaDoorYK
import Derived.Test.YtmknnblogfpifaaDoorYD
import Derived.Deep.RegionHeld3
namespace Go.Proofs.YtmknnblogfpifaaDoor
open Go.RowKit

/-- What Put answers. -/
def putE (R : Tr) : Int × Tr := if (ckT R).2 ≠ 0 then ((ckT R).2, zT) else (0, R)
def putN (T U : Tr) (L : List ByteArray) (s : ByteArray) : Int × Tr := if (rchH L T).1 ≠ 0 then ((rchH L T).1, zT) else putE (repT L T (putK (rch L T).2 s U))
def putT (T : Tr) (p : ByteArray) (U : Tr) : Int × Tr := if nmO [T, U] p ≠ 0 then (nmO [T, U] p, zT) else match (pathN p).reverse with
  | [] => (0, U)
  | s :: r => putN T U r.reverse s

/-- Two nodes laid side by side. -/
theorem Nds.two {w : World} {m mu : Nat} {k ku : Int} {e eu : Bool} {t tu : ByteArray} {x xu : Option Addr} {n c nu cu : Nat} {T U : Tr} (H : At w m (.agg #[Value.int IntKind.i64 k, Value.bool e, Value.string t, Value.slice x n c]) T) (HU : At w mu (.agg #[Value.int IntKind.i64 ku, Value.bool eu, Value.string tu, Value.slice xu nu cu]) U) (S1 : smT T) (S2 : smT U) (ty : TypeId) :
    Nds (w.alloc (.cells #[Value.int IntKind.i64 k, Value.bool e, Value.string t, Value.slice x n c, Value.int IntKind.i64 ku, Value.bool eu, Value.string tu, Value.slice xu nu cu] ty)) (some ⟨w.heap.size, 0, none⟩) [T, U] := fun j K hj => by
  obtain ⟨e1, e2, e3⟩ := H.NP
  obtain ⟨f1, f2, f3⟩ := HU.NP
  have b : Below w.heap.size w (w.alloc (.cells #[Value.int IntKind.i64 k, Value.bool e, Value.string t, Value.slice x n c, Value.int IntKind.i64 ku, Value.bool eu, Value.string tu, Value.slice xu nu cu] ty)) := (Below.refl _ _).alloc (Nat.le_refl _) _
  have hz : w.heap.size < (w.alloc (.cells #[Value.int IntKind.i64 k, Value.bool e, Value.string t, Value.slice x n c, Value.int IntKind.i64 ku, Value.bool eu, Value.string tu, Value.slice xu nu cu] ty)).heap.size := by rw [World.size_alloc]; omega
  match j, hj with
  | 0, hj =>
    simp at hj
    subst hj
    refine ⟨S1, m, _, 0, rfl, hz, x, n, c, ?_, ?_, ?_, ?_, ?_⟩
    · rw [World.cell?_alloc_new, e1]; rfl
    · rw [World.cell?_alloc_new, e2]; rfl
    · rw [World.cell?_alloc_new, e3]; rfl
    · rw [World.cell?_alloc_new]; rfl
    · rw [e1, e2, e3]; exact H.below b
  | 1, hj =>
    simp at hj
    subst hj
    refine ⟨S2, mu, _, 0, rfl, hz, xu, nu, cu, ?_, ?_, ?_, ?_, ?_⟩
    · rw [World.cell?_alloc_new, f1]; rfl
    · rw [World.cell?_alloc_new, f2]; rfl
    · rw [World.cell?_alloc_new, f3]; rfl
    · rw [World.cell?_alloc_new]; rfl
    · rw [f1, f2, f3]; exact HU.below b
  | j + 2, hj => simp at hj

/-- What Put keeps in its first blocks: the place of its answer, and sub. -/
def PuI (w0 : World) (G : Nat) (C : Array Value) (w : World) : Prop := w.heap[G + 1 + 1]? = some (Obj.cells #[Value.int IntKind.i64 0, Value.bool false, Value.string ⟨#[]⟩, Value.slice none 0 0] 25 (0, 0)) ∧ G + 1 + 1 + 1 < w.heap.size ∧ Below G w0 w ∧ w.heap[G + 1]? = some (Obj.cells C 25 (0, 0))
theorem PuI.on {w0 w w' : World} {G : Nat} {C : Array Value} (h : PuI w0 G C w) (b : Below w.heap.size w w') : PuI w0 G C w' := by
  obtain ⟨h1, h2, h3, h4⟩ := h
  exact ⟨(b.block _ (by omega)).trans h1, Nat.lt_of_lt_of_le h2 b.size, h3.trans (b.mono (by omega)), (b.block _ (by omega)).trans h4⟩
theorem PuI.keep {w0 w w' : World} {G : Nat} {C : Array Value} (h : PuI w0 G C w) (hb : w'.heap[G + 1]? = w.heap[G + 1]?) (hb2 : w'.heap[G + 1 + 1]? = w.heap[G + 1 + 1]?) (hs : w.heap.size ≤ w'.heap.size) (b : Below G w w') : PuI w0 G C w' := by
  obtain ⟨h1, h2, h3, h4⟩ := h
  exact ⟨hb2.trans h1, by omega, h3.trans b, hb.trans h4⟩

set_option maxHeartbeats 16000000 in
set_option maxRecDepth 10000 in
theorem put_any (m mu : Nat) (k : Int) (e : Bool) (t : ByteArray) (x : Option Addr) (n c : Nat) (T : Tr) (p : ByteArray) (ku : Int) (eu : Bool) (tu : ByteArray) (xu : Option Addr) (nu cu : Nat) (U : Tr) (w : World) (hp : p.size ≤ 1048576) (H : At w m (.agg #[Value.int IntKind.i64 k, Value.bool e, Value.string t, Value.slice x n c]) T) (S : smT T) (HU : At w mu (.agg #[Value.int IntKind.i64 ku, Value.bool eu, Value.string tu, Value.slice xu nu cu]) U) (SU : smT U) :
    Calls Tryd.prog 12 #[.agg #[Value.int IntKind.i64 k, Value.bool e, Value.string t, Value.slice x n c], .string p, .agg #[Value.int IntKind.i64 ku, Value.bool eu, Value.string tu, Value.slice xu nu cu]] w (NdP (putT T p U) w) := by
  have HH : Hid (At w m (.agg #[Value.int IntKind.i64 k, Value.bool e, Value.string t, Value.slice x n c]) T ∧ smT T ∧ wfT T ∧ At w mu (.agg #[Value.int IntKind.i64 ku, Value.bool eu, Value.string tu, Value.slice xu nu cu]) U ∧ smT U ∧ wfT U) := ⟨H, S, At.wf _ _ _ H, HU, SU, At.wf _ _ _ HU⟩
  clear H S HU SU
  go_enter Tryd.func12, Tryd.ntmps12
  go_wp2_with fail
  obtain ⟨w3, hw3⟩ : ∃ w3, w3 = ((((w.alloc (Obj.cells #[Value.int IntKind.i64 k, Value.bool e, Value.string t, Value.slice x n c] 25)).alloc (Obj.cells #[Value.int IntKind.i64 ku, Value.bool eu, Value.string tu, Value.slice xu nu cu] 25)).alloc (Obj.cells #[Value.int IntKind.i64 0, Value.bool false, Value.string ⟨#[]⟩, Value.slice none 0 0] 25)).alloc (Obj.cells #[Value.int IntKind.i64 k, Value.bool e, Value.string t, Value.slice x n c, Value.int IntKind.i64 ku, Value.bool eu, Value.string tu, Value.slice xu nu cu] 25)) := ⟨_, rfl⟩
  have b1 : Below w.heap.size w (w.alloc (Obj.cells #[Value.int IntKind.i64 k, Value.bool e, Value.string t, Value.slice x n c] 25)) := (Below.refl _ _).alloc (Nat.le_refl _) _
  have hs1 : (w.alloc (Obj.cells #[Value.int IntKind.i64 k, Value.bool e, Value.string t, Value.slice x n c] 25)).heap.size = w.heap.size + 1 := World.size_alloc _ _
  have hs2 : ((w.alloc (Obj.cells #[Value.int IntKind.i64 k, Value.bool e, Value.string t, Value.slice x n c] 25)).alloc (Obj.cells #[Value.int IntKind.i64 ku, Value.bool eu, Value.string tu, Value.slice xu nu cu] 25)).heap.size = w.heap.size + 1 + 1 := by rw [World.size_alloc, hs1]
  have hs3 : (((w.alloc (Obj.cells #[Value.int IntKind.i64 k, Value.bool e, Value.string t, Value.slice x n c] 25)).alloc (Obj.cells #[Value.int IntKind.i64 ku, Value.bool eu, Value.string tu, Value.slice xu nu cu] 25)).alloc (Obj.cells #[Value.int IntKind.i64 0, Value.bool false, Value.string ⟨#[]⟩, Value.slice none 0 0] 25)).heap.size = w.heap.size + 1 + 1 + 1 := by rw [World.size_alloc, hs2]
  have b2 : Below w.heap.size w ((w.alloc (Obj.cells #[Value.int IntKind.i64 k, Value.bool e, Value.string t, Value.slice x n c] 25)).alloc (Obj.cells #[Value.int IntKind.i64 ku, Value.bool eu, Value.string tu, Value.slice xu nu cu] 25)) := b1.alloc (by rw [hs1]; omega) _
  have b3 : Below w.heap.size w (((w.alloc (Obj.cells #[Value.int IntKind.i64 k, Value.bool e, Value.string t, Value.slice x n c] 25)).alloc (Obj.cells #[Value.int IntKind.i64 ku, Value.bool eu, Value.string tu, Value.slice xu nu cu] 25)).alloc (Obj.cells #[Value.int IntKind.i64 0, Value.bool false, Value.string ⟨#[]⟩, Value.slice none 0 0] 25)) := b2.alloc (by rw [hs2]; omega) _
  have P0 : Hid (NP w3 m w.heap.size 0 T) := by
    rw [hw3]
    exact (((NP.new HH.out.1 25).below ((Below.refl _ _).alloc (Nat.le_refl _) _)).below ((Below.refl _ _).alloc (Nat.le_refl _) _)).below ((Below.refl _ _).alloc (Nat.le_refl _) _)
  have P1 : Hid (Nds w3 (some ⟨w.heap.size + 1 + 1 + 1, 0, none⟩) [T, U]) := by
    have := Nds.two (HH.out.1.below b3) (HH.out.2.2.2.1.below b3) HH.out.2.1 HH.out.2.2.2.2.1 25
    rw [hs3] at this
    rw [hw3]
    exact this
  have P2 : Hid (PuI w w.heap.size #[Value.int IntKind.i64 ku, Value.bool eu, Value.string tu, Value.slice xu nu cu] w3) := by
    rw [hw3]
    refine ⟨?_, by rw [World.size_alloc, hs3]; omega, b3.alloc (by rw [hs3]; omega) _, ?_⟩
    · rw [Below.heap_alloc _ _ _ (by rw [hs3]; omega), ← hs2]; exact heap_alloc_new _ _
    · rw [Below.heap_alloc _ _ _ (by rw [hs3]; omega), Below.heap_alloc _ _ _ (by rw [hs2]; omega), ← hs1]; exact heap_alloc_new _ _
  rw [← hw3]
  clear hw3 b1 b2 b3 hs1 hs2 hs3
  refine (namesOf_any p _ [T, U] 2 2 w3 (by omega) rfl (by omega) P1.out).mono ?_
  rintro en w4 ⟨⟨v, rfl, hv⟩, b4⟩
  have P3 : Hid (NP w4 m w.heap.size 0 T) := P0.out.below b4
  have P4 : Hid (PuI w w.heap.size #[Value.int IntKind.i64 ku, Value.bool eu, Value.string tu, Value.slice xu nu cu] w4) := P2.out.on b4
  clear P0 P1 P2 b4
  obtain ⟨G, hG⟩ : ∃ G, w.heap.size = G := ⟨_, rfl⟩
  have HG : Hid (w.heap.size = G) := hG
  rw [hG] at P3 P4 ⊢
  clear hG
  obtain ⟨c1, hc1⟩ : ∃ c1, nmO [T, U] p = c1 := ⟨_, rfl⟩
  have HC : Hid (nmO [T, U] p = c1) := hc1
  rw [hc1] at hv ⊢
  clear hc1
  by_cases hz : c1 = 0
  · subst hz
    obtain ⟨y, cy, rfl, hcy, hT⟩ := (hv rfl).tns
    have HT : Hid (Tns w4 y (pathN p)) := hT
    have HA : Hid (ascT T) := ckS_asc (nmO_ck HC.out).1 (by simp) HH.out.2.2.1
    have HLn : Hid (lnB 1048576 T ∧ lnB 1048576 U) := ⟨ck_ln HH.out.2.2.1 (ckS_off (nmO_ck HC.out).1 (by simp)), ck_ln HH.out.2.2.2.2.2 (ckS_off (nmO_ck HC.out).1 (by simp))⟩
    have HSM : Hid (∀ z ∈ pathN p, z.size ≤ 1048576) := fun z hz => by
      have := (spN_right p (pathN p) (by unfold spN; rw [if_pos (nmO_ck HC.out).2])).2.1 z hz
      have := chk_short z this
      omega
    clear hv hT
    have hsh := pathN_short p
    generalize hN : pathN p = N at HT hcy hsh HSM ⊢
    have HNN : Hid (pathN p = N) := hN
    clear hN
    rcases List.eq_nil_or_concat N with rfl | ⟨L, s, rfl⟩
    · have HR : Hid (putT T p U = (0, U)) := by
        show putT T p U = (0, U)
        unfold putT; rw [if_neg (by rw [HC.out]; decide), HNN.out]; rfl
      obtain ⟨a0, a1, a2, a3, _⟩ := cell4 P4.out.2.2.2
      go_wp2_with fail
      have HA4 : At w4 mu (.agg #[Value.int IntKind.i64 ku, Value.bool eu, Value.string tu, Value.slice xu nu cu]) U := HH.out.2.2.2.1.below (by rw [HG.out]; exact P4.out.2.2.1)
      refine (copyV_any mu _ U w4 HA4).mono ?_
      rintro e5 w5 ⟨⟨x5, fp, rfl, hV, hn⟩, b5⟩
      obtain ⟨y5, c5, rfl⟩ := hV.shape
      have P5 := P4.out.on b5
      have HV : Hid (TrV w5 w4.heap.size U (.slice y5 U.nms.length c5) fp ∧ fp.Nodup ∧ G + 1 + 1 + 1 < w4.heap.size) := ⟨hV, hn, P4.out.2.1⟩
      obtain ⟨u0, u1, u2, u3, uf⟩ := cell4 P5.1
      have v0 := uf 0
      have v1 := uf 1
      have v2 := uf 2
      have v3 := uf 3
      clear uf hV hn b5 a0 a1 a2 a3
      have HP5 : Hid (PuI w G #[Value.int IntKind.i64 ku, Value.bool eu, Value.string tu, Value.slice xu nu cu] w5) := P5
      clear P5
      generalize q1 : U.k = rk
      generalize q2 : U.e = re
      generalize q3 : U.t = rt
      generalize q4 : U.nms.length = rn at HV
      have HQR : Hid (U.k = rk ∧ U.e = re ∧ U.t = rt) := ⟨q1, q2, q3⟩
      clear q1 q2 q3 q4
      go_wp2
      have hq := put4 HP5.out.1 (Value.int .i64 rk) (.bool re) (.string rt) (.slice y5 rn c5)
      have hB : Below w.heap.size w (w5.setCells (G + 1 + 1) 0 [Value.int .i64 rk, .bool re, .string rt, .slice y5 rn c5]) := belowE_setCells _ _ _ (by rw [HG.out]; omega) (by rw [HG.out]; exact HP5.out.2.2.1)
      have hVE := TrV.low (show w.heap.size ≤ w4.heap.size by rw [HG.out]; have := HV.out.2.2; omega) _ _ _ (TrV.same (w' := w5.setCells (G + 1 + 1) 0 [Value.int .i64 rk, .bool re, .string rt, .slice y5 rn c5]) _ _ _ HV.out.1 (fun b hb => heapE_setCells (G + 1 + 1) _ _ b (fun hh => by have := (TrV.lt _ _ _ HV.out.1 b hb).1; have := HV.out.2.2; omega) w5))
      change bodyPost _ _ _ _ _ (w5.setCells (G + 1 + 1) 0 [Value.int .i64 rk, .bool re, .string rt, .slice y5 rn c5])
      generalize w5.setCells (G + 1 + 1) 0 [Value.int .i64 rk, .bool re, .string rt, .slice y5 rn c5] = W at *
      obtain ⟨z0, z1, z2, z3, _⟩ := cell4 hq
      refine bodyPost_ret (v := .tuple #[.agg #[.int .i64 rk, .bool re, .string rt, .slice y5 rn c5], .int .i64 0]) (by simp [results, Tryd.results12, go_sem, z0, z1, z2, z3]) rfl ?_
      rw [← HQR.out.1, ← HQR.out.2.1, ← HQR.out.2.2]
      exact NdP.ok HR.out hVE HV.out.2.1 hB
    · have HR0 : Hid (putT T p U = putN T U L s) := by
        show putT T p U = putN T U L s
        unfold putT; rw [if_neg (by rw [HC.out]; decide), HNN.out]; simp
      obtain ⟨_, x1, n1, c1, d0, d1, d2, d3, hA⟩ := P3.out
      have HA2 : Hid (At w4 m (.agg #[.int .i64 T.k, .bool T.e, .string T.t, .slice x1 n1 c1]) T) := hA
      clear hA
      generalize q1 : T.k = rk at d0 HA2
      generalize q2 : T.e = re at d1 HA2
      generalize q3 : T.t = rt at d2 HA2
      clear q1 q2 q3
      simp only [Nat.zero_add] at d1 d2 d3
      go_wp2_with fail
      refine (copyT_any m _ T w4 HA2.out).mono ?_
      rintro e5 w5 ⟨⟨x5, fp, rfl, hV, hn⟩, b5⟩
      obtain ⟨y5, c5, rfl⟩ := hV.shape
      have P5 : Hid (PuI w G #[Value.int IntKind.i64 ku, Value.bool eu, Value.string tu, Value.slice xu nu cu] w5) := P4.out.on b5
      have HV : Hid (TrT w5 w4.heap.size T (.slice y5 T.nms.length c5) fp ∧ fp.Nodup ∧ G + 1 + 1 + 1 < w4.heap.size) := ⟨hV, hn, P4.out.2.1⟩
      have HT5 : Hid (Tns w5 y (L ++ [s])) := by have h0 := HT.out.below b5; rw [List.concat_eq_append] at h0; exact h0
      have hsz5 := b5.size
      clear b5 hV hn d0 d1 d2 d3 HA2
      have hcy' : L.length + 1 ≤ cy := by simpa using hcy
      have hL : L.length ≤ 999999 := by simp at hsh; omega
      have HSS : Hid (s.size ≤ 1048576) := HSM.out s (by simp)
      go_wp2_with fail
      have bA : Below w5.heap.size w5 (w5.alloc (Obj.cells #[Value.int IntKind.i64 T.k, Value.bool T.e, Value.string T.t, Value.slice y5 T.nms.length c5] 25)) := (Below.refl _ _).alloc (Nat.le_refl _) _
      have P6 : Hid (PuI w G #[Value.int IntKind.i64 ku, Value.bool eu, Value.string tu, Value.slice xu nu cu] (w5.alloc (Obj.cells #[Value.int IntKind.i64 T.k, Value.bool T.e, Value.string T.t, Value.slice y5 T.nms.length c5] 25))) := P5.out.on bA
      have HT6 := HT5.out.below bA
      have HV6 := TrT.same _ _ _ HV.out.1 (fun b hb => bA.block b (TrT.lt _ _ _ HV.out.1 b hb).2)
      have TN6 : TN (w5.alloc (Obj.cells #[Value.int IntKind.i64 T.k, Value.bool T.e, Value.string T.t, Value.slice y5 T.nms.length c5] 25)) w4.heap.size w5.heap.size 0 T (.slice y5 T.nms.length c5) fp := by
        refine ⟨by rw [World.cell?_alloc_new]; rfl, by rw [World.cell?_alloc_new]; rfl, by rw [World.cell?_alloc_new]; rfl, by rw [World.cell?_alloc_new]; rfl, TrT.trV _ _ _ HV6, HV.out.2.1, fun hm => ?_⟩
        have := (TrT.lt _ _ _ HV.out.1 _ hm).2
        omega
      have NP6 : ∃ f, NP (w5.alloc (Obj.cells #[Value.int IntKind.i64 T.k, Value.bool T.e, Value.string T.t, Value.slice y5 T.nms.length c5] 25)) f w5.heap.size 0 T := by
        obtain ⟨f, hf⟩ := TrV.at T _ _ TN6.2.2.2.2.1 (lnB_ln (by decide) T HLn.out.1)
        exact ⟨f, by rw [World.size_alloc]; omega, _, _, _, TN6.1, TN6.2.1, TN6.2.2.1, TN6.2.2.2.1, hf⟩
      have HTN : Hid (TN (w5.alloc (Obj.cells #[Value.int IntKind.i64 T.k, Value.bool T.e, Value.string T.t, Value.slice y5 T.nms.length c5] 25)) w4.heap.size w5.heap.size 0 T (.slice y5 T.nms.length c5) fp ∧ TrT (w5.alloc (Obj.cells #[Value.int IntKind.i64 T.k, Value.bool T.e, Value.string T.t, Value.slice y5 T.nms.length c5] 25)) w4.heap.size T (.slice y5 T.nms.length c5) fp) := ⟨TN6, HV6⟩
      have HS6 : Hid (w5.heap.size < (w5.alloc (Obj.cells #[Value.int IntKind.i64 T.k, Value.bool T.e, Value.string T.t, Value.slice y5 T.nms.length c5] 25)).heap.size ∧ G + 1 + 1 + 1 < w4.heap.size ∧ w4.heap.size ≤ w5.heap.size ∧ ∃ D, (w5.alloc (Obj.cells #[Value.int IntKind.i64 T.k, Value.bool T.e, Value.string T.t, Value.slice y5 T.nms.length c5] 25)).heap[w5.heap.size]? = some (Obj.cells D 25 (0, 0))) := ⟨by rw [World.size_alloc]; omega, HV.out.2.2, hsz5, _, heap_alloc_new _ _⟩
      obtain ⟨f6, NP6⟩ := NP6
      clear TN6 bA P5 HT5 HV6 HV hsz5
      generalize w5.alloc (Obj.cells #[Value.int IntKind.i64 T.k, Value.bool T.e, Value.string T.t, Value.slice y5 T.nms.length c5] 25) = w6 at *
      generalize w5.heap.size = C at *
      refine (reachH_any f6 C 0 cy T y L s w6 NP6 HA.out HT6 hL hcy').mono ?_
      rintro e7 w7 ⟨hr, b7⟩
      have P7 : Hid (PuI w G #[Value.int IntKind.i64 ku, Value.bool eu, Value.string tu, Value.slice xu nu cu] w7) := P6.out.on b7
      rcases hr with ⟨hr1, rfl⟩ | ⟨hr1, g', o', m', rfl, hr2, hr3, hr4, hr5, hr6⟩
      · have HR : Hid (putT T p U = ((rchH L T).1, zT)) := by
          show putT T p U = ((rchH L T).1, zT)
          rw [HR0.out]; unfold putN; rw [if_pos hr1]
        clear b7
        generalize (rchH L T).1 = c2 at HR hr1
        obtain ⟨u0, u1, u2, u3, uf⟩ := cell4 (P7.out).1
        have v0 := uf 0
        have v1 := uf 1
        have v2 := uf 2
        have v3 := uf 3
        clear uf
        go_wp2
        have hq := put4 (P7.out).1 (Value.int .i64 0) (.bool false) (.string ⟨#[]⟩) (.slice none 0 0)
        have hB : Below w.heap.size w (w7.setCells (G + 1 + 1) 0 [Value.int .i64 0, .bool false, .string ⟨#[]⟩, .slice none 0 0]) := belowE_setCells _ _ _ (by rw [HG.out]; omega) (by rw [HG.out]; exact (P7.out).2.2.1)
        change bodyPost _ _ _ _ _ (w7.setCells (G + 1 + 1) 0 [Value.int .i64 0, .bool false, .string ⟨#[]⟩, .slice none 0 0])
        generalize w7.setCells (G + 1 + 1) 0 [Value.int .i64 0, .bool false, .string ⟨#[]⟩, .slice none 0 0] = W at *
        obtain ⟨q0, q1, q2, q3, _⟩ := cell4 hq
        exact bodyPost_ret (v := .tuple #[.agg #[.int .i64 0, .bool false, .string ⟨#[]⟩, .slice none 0 0], .int .i64 c2]) (by simp [results, Tryd.results12, go_sem, q0, q1, q2, q3]) rfl (NdP.bad HR.out hB)
      · have HB7 : Hid (Below w6.heap.size w6 w7) := b7
        have HF := TN.focus L C 0 T _ fp g' o' HTN.out.1 HA.out hr6
        obtain ⟨T', v', fp', f1, f2, f3, f4, f5⟩ := HF
        obtain rfl := f4 hr2
        obtain ⟨hg', x1, n1, c2, d0, d1, d2, d3, hAt⟩ := hr4
        obtain ⟨_, j2, j3, j4, j5, _⟩ := hAt.nms
        have hv' : v' = .slice x1 n1 c2 := by have := f1.2.2.2.1; rw [d3] at this; exact (Option.some.inj this).symm
        subst hv'
        obtain rfl : n1 = c2 := TrT.tight L C 0 T _ fp g' o' HTN.out.1.2.2.2.1 HTN.out.2 hr6 x1 n1 c2 d3
        have HF1 : Hid (TN w6 w4.heap.size g' o' (rch L T).2 (.slice x1 n1 n1) fp') := f1
        have HF5 : Hid _ := f5
        have HU : Hid (Up (rch L T).2.nms) := (Tr.up hr5).1
        have HJ : Hid ((rch L T).2.nms.length = n1 ∧ Nms w7 x1 (rch L T).2.nms) := ⟨j2, j5.below b7⟩
        have HNL : Hid (n1 ≤ 1048576 ∧ (rch L T).2.nms.length = (rch L T).2.ks.length) := by
          have h0 := lnB_rch L HLn.out.1
          have h2 := f1.2.2.2.2.1.lenE
          generalize (rch L T).2 = Q at h0 h2 j2
          obtain ⟨_, _, _, nms, ks⟩ := Q
          rw [lnB] at h0
          exact ⟨by rw [← j2]; exact h0.1, h2⟩
        have e3 : w7.cell? ⟨g', o' + 3, none⟩ = some (.slice x1 n1 n1) := by rw [b7.cell (p := ⟨g', o' + 3, none⟩) hg']; exact d3
        have hg7 : g' < w7.heap.size := Nat.lt_of_lt_of_le hg' b7.size
        have HGB : Hid ((∃ D ty, w6.heap[g']? = some (Obj.cells D ty (0, 0))) ∧ w4.heap.size ≤ g' ∧ g' < w6.heap.size ∧ w6.cell? ⟨g', o' + 3, none⟩ = some (.slice x1 n1 n1)) := by
          refine ⟨?_, ?_, hg', d3⟩
          · rcases f3 with ⟨_, rfl, _⟩ | hm
            · obtain ⟨D, hD⟩ := HS6.out.2.2.2
              exact ⟨D, _, hD⟩
            · obtain ⟨D, hD⟩ := TrV.cells _ _ _ HTN.out.1.2.2.2.2.1 _ hm
              exact ⟨D, _, hD⟩
          · rcases f3 with ⟨_, hh, _⟩ | hm
            · have := HS6.out.2.2.1
              omega
            · exact (TrV.lt _ _ _ HTN.out.1.2.2.2.2.1 _ hm).1
        have HRS : Hid (smT (repT L T (putK (rch L T).2 s U)) ∧ lnT (repT L T (putK (rch L T).2 s U)) ∧ putT T p U = putE (repT L T (putK (rch L T).2 s U))) := by
          refine ⟨smT_rep L HH.out.2.1 (smT_put (smT_rch L HH.out.2.1) HH.out.2.2.2.2.1 HSS.out HNL.out.2), lnB_ln (by decide) _ (lnB_rep L (lnB_mono (by decide) _ HLn.out.1) (lnB_put (c := 1048576) (lnB_rch L HLn.out.1) (lnB_mono (by decide) _ HLn.out.2))), ?_⟩
          rw [HR0.out]; unfold putN; rw [if_neg (by rw [hr1]; decide)]
        clear f1 f5 d0 d1 d2 d3 hAt j2 j3 j5 b7 hr5 hr6 HT6 NP6
        go_wp2_with fail
        refine (find_any x1 n1 n1 (rch L T).2.nms s w7 HJ.out.1 j4 HJ.out.2 (HU.out.mono s)).mono ?_
        rintro e8 w8 ⟨⟨i, r, rfl, h1, h2⟩, b8⟩
        have P8 : Hid (PuI w G #[Value.int IntKind.i64 ku, Value.bool eu, Value.string tu, Value.slice xu nu cu] w8) := P7.out.on b8
        have HB8 : Hid (Below w6.heap.size w6 w8) := HB7.out.trans (b8.mono HB7.out.size)
        have e8 : w8.cell? ⟨g', o' + 3, none⟩ = some (.slice x1 n1 n1) := by rw [b8.cell (p := ⟨g', o' + 3, none⟩) hg7]; exact e3
        have hg8 : g' < w8.heap.size := Nat.lt_of_lt_of_le hg7 b8.size
        have V8 := TrV.same (w' := w8) _ _ _ HF1.out.2.2.2.2.1 (fun b hb => HB8.out.block b (TrV.lt _ _ _ HF1.out.2.2.2.2.1 b hb).2)
        cases r
        · have hfn := h1.none HU.out (fun hc => by have := h2.2 ⟨by rw [← HJ.out.1]; exact hc.1, hc.2⟩; cases this)
          have hpos := h1.pos
          have hile := h1.le
          have hpk : Hid (insK (rch L T).2 i s U = putK (rch L T).2 s U) := by
            show insK (rch L T).2 i s U = putK (rch L T).2 s U
            unfold putK; rw [hfn, hpos]
          have hin : i ≤ n1 := by rw [← HJ.out.1]; exact hile
          have HW8 : Hid (w4.heap.size ≤ w8.heap.size ∧ w6.heap.size ≤ w8.heap.size) := by
            have q1 := HS6.out.1
            have q2 := HS6.out.2.2.1
            have q3 := HB8.out.size
            exact ⟨by omega, q3⟩
          have HV8 : Hid (TrV w8 w4.heap.size (rch L T).2 (.slice x1 n1 n1) fp') := V8
          clear V8 h1 h2 b8 e3 hg7 hfn hpos
          go_wp2_with fail
          have bE : Below w8.heap.size w8 (w8.alloc (Obj.cells #[Value.string s, Value.int IntKind.i64 0, Value.bool false, Value.string ⟨#[]⟩, Value.slice none 0 0] 54)) := (Below.refl _ _).alloc (Nat.le_refl _) _
          have hcE : ∀ j u, (entV s zT (.slice none 0 0))[j]? = some u → (w8.alloc (Obj.cells #[Value.string s, Value.int IntKind.i64 0, Value.bool false, Value.string ⟨#[]⟩, Value.slice none 0 0] 54)).cell? ⟨w8.heap.size, j, none⟩ = some u := fun j u hj => by rw [World.cell?_alloc_new, ← Array.getElem?_toList]; exact hj
          have PE : Hid (PuI w G #[Value.int IntKind.i64 ku, Value.bool eu, Value.string tu, Value.slice xu nu cu] (w8.alloc (Obj.cells #[Value.string s, Value.int IntKind.i64 0, Value.bool false, Value.string ⟨#[]⟩, Value.slice none 0 0] 54))) := P8.out.on bE
          have HBE : Hid (Below w8.heap.size w8 (w8.alloc (Obj.cells #[Value.string s, Value.int IntKind.i64 0, Value.bool false, Value.string ⟨#[]⟩, Value.slice none 0 0] 54)) ∧ w8.heap.size < (w8.alloc (Obj.cells #[Value.string s, Value.int IntKind.i64 0, Value.bool false, Value.string ⟨#[]⟩, Value.slice none 0 0] 54)).heap.size) := ⟨bE, by rw [World.size_alloc]; omega⟩
          clear bE
          generalize w8.alloc (Obj.cells #[Value.string s, Value.int IntKind.i64 0, Value.bool false, Value.string ⟨#[]⟩, Value.slice none 0 0] 54) = wE at *
          obtain ⟨VE, hVE⟩ : ∃ VE, w8.heap.size = VE := ⟨_, rfl⟩
          rw [hVE] at hcE ⊢
          have VEE := TrV.same (w' := wE) _ _ _ HV8.out (fun b hb => HBE.out.1.block b (TrV.lt _ _ _ HV8.out b hb).2)
          have hwE : w4.heap.size ≤ wE.heap.size := by have := HBE.out.1.size; have := HW8.out.1; omega
          obtain ⟨cs, hl0, hO, hone, hIns⟩ := TrV.ins (w := wE) (s := s) (i := i) VEE HF1.out.2.2.2.2.2.1 (by rw [HJ.out.1]; exact hin) hwE
          refine (insert_any x1 n1 i VE cs (entV s zT (.slice none 0 0)) _ wE hO hone hin (by have := HNL.out.1; omega) rfl hcE (by intro u hu; simp [ent_zero] at hu; rcases hu with rfl | rfl | rfl | rfl | rfl <;> rfl)).mono ?_
          rintro e9 w9 ⟨cap, rfl, hrow, b9⟩
          obtain ⟨fp1, hV9, hn9, hsub9⟩ := hIns _ _ hrow b9
          obtain ⟨q, hq⟩ : ∃ q, wE.heap.size = q := ⟨_, rfl⟩
          rw [hq] at hV9 ⊢
          have H9 : ∀ b, b < w6.heap.size → w9.heap[b]? = w6.heap[b]? := fun b hb => by
            have q1 := HW8.out.2
            have q2 := HBE.out.1.size
            exact (b9.block b (by omega)).trans ((HBE.out.1.block b (by omega)).trans (HB8.out.block b hb))
          obtain ⟨⟨D, ty, hD⟩, hgB, hg6, hc6⟩ := HGB.out
          have hD9 : w9.heap[g']? = some (Obj.cells D ty (0, 0)) := (H9 g' hg6).trans hD
          have hfz : w9.frozen? ⟨g', o' + 3, none⟩ = false := by unfold World.frozen?; rw [hD9]; simp
          have e9 : w9.cell? ⟨g', o' + 3, none⟩ = some (.slice x1 n1 n1) := (cell_same ((H9 g' hg6))).trans hc6
          have hs9 : w6.heap.size ≤ w9.heap.size := by
            have q1 := HW8.out.2
            have q2 := HBE.out.1.size
            have q3 := b9.size
            omega
          have hgq : g' ≠ q := by
            have q1 := HW8.out.2
            have q2 := HBE.out.1.size
            omega
          have hgf : g' ∉ fp1 := fun hm => by
            rcases hsub9 g' hm with hm | hm
            · exact HF1.out.2.2.2.2.2.2 hm
            · have q1 := HW8.out.2
              have q2 := HBE.out.1.size
              omega
          have P9 : PuI w G #[Value.int IntKind.i64 ku, Value.bool eu, Value.string tu, Value.slice xu nu cu] w9 := PE.out.on b9
          have hat := insK_at (T := (rch L T).2) (i := i) (by rw [HJ.out.1]; exact hin) HNL.out.2 s zT
          have hset := setK_ins (T := (rch L T).2) (i := i) (by rw [← HNL.out.2, HJ.out.1]; exact hin) s zT U
          rw [hpk.out] at hset
          have HT1 : Hid (TrV (w9.setCell ⟨g', o' + 3, none⟩ (.slice (some ⟨q, 0, none⟩) (n1 + 1) cap)) w4.heap.size (insK (rch L T).2 i s zT) (.slice (some ⟨q, 0, none⟩) (n1 + 1) cap) fp1 ∧ fp1.Nodup ∧ (∀ b ∈ fp1, b ∈ fp' ∨ w6.heap.size ≤ b) ∧ g' ∉ fp1) := ⟨TrV.same _ _ _ hV9 (fun b hb => Below.heap_setCell _ ⟨g', o' + 3, none⟩ _ b (fun hh => hgf (by rw [← show b = g' from hh]; exact hb))), hn9, fun b hb => by
            rcases hsub9 b hb with hm | hm
            · exact .inl hm
            · have q1 := HW8.out.2
              have q2 := HBE.out.1.size
              exact .inr (by omega), hgf⟩
          have HI1 : Hid ((insK (rch L T).2 i s zT).nms[i]? = some s ∧ (insK (rch L T).2 i s zT).ks[i]? = some zT ∧ setK (insK (rch L T).2 i s zT) i U = putK (rch L T).2 s U) := ⟨hat.1, hat.2, hset⟩
          have HFR : Hid ((∀ b, b < w6.heap.size → b ∉ fp' → b ≠ g' → (w9.setCell ⟨g', o' + 3, none⟩ (.slice (some ⟨q, 0, none⟩) (n1 + 1) cap)).heap[b]? = w6.heap[b]?) ∧ w6.heap.size ≤ (w9.setCell ⟨g', o' + 3, none⟩ (.slice (some ⟨q, 0, none⟩) (n1 + 1) cap)).heap.size ∧ (w9.setCell ⟨g', o' + 3, none⟩ (.slice (some ⟨q, 0, none⟩) (n1 + 1) cap)).heap[g']? = (w6.setCell ⟨g', o' + 3, none⟩ (.slice (some ⟨q, 0, none⟩) (n1 + 1) cap)).heap[g']?) := ⟨fun b hb _ hbg => (Below.heap_setCell _ ⟨g', o' + 3, none⟩ _ b hbg).trans (H9 b hb), by rw [World.size_setCell]; exact hs9, by rw [Go.Joins.block_setCell (i := o' + 3) hD9 _, Go.Joins.block_setCell (i := o' + 3) hD _]⟩
          have hGg : G + 1 + 1 + 1 < g' := by have := HS6.out.2.1; omega
          have P10 : Hid (PuI w G #[Value.int IntKind.i64 ku, Value.bool eu, Value.string tu, Value.slice xu nu cu] (w9.setCell ⟨g', o' + 3, none⟩ (.slice (some ⟨q, 0, none⟩) (n1 + 1) cap))) := P9.keep (Below.heap_setCell _ ⟨g', o' + 3, none⟩ _ _ (by show G + 1 ≠ g'; omega)) (Below.heap_setCell _ ⟨g', o' + 3, none⟩ _ _ (by show G + 1 + 1 ≠ g'; omega)) (by rw [World.size_setCell]; exact Nat.le_refl _) ((Below.refl _ _).setCell (by show G ≤ g'; omega) _)
          have e10 : (w9.setCell ⟨g', o' + 3, none⟩ (.slice (some ⟨q, 0, none⟩) (n1 + 1) cap)).cell? ⟨g', o' + 3, none⟩ = some (.slice (some ⟨q, 0, none⟩) (n1 + 1) cap) := World.cell?_setCell_same _ _ _ e9
          have hg10 : g' < (w9.setCell ⟨g', o' + 3, none⟩ (.slice (some ⟨q, 0, none⟩) (n1 + 1) cap)).heap.size := by rw [World.size_setCell]; omega
          have HX : Hid (g' ≠ q ∧ G + 1 + 1 + 1 < g' ∧ n1 + 1 ≤ 1048577) := ⟨hgq, hGg, by have := HNL.out.1; omega⟩
          clear hat hset hV9 hn9 hsub9 hgf P9 H9 hD hD9 hc6 hs9 hIns hrow b9 hO hone VEE hcE HBE PE HV8 HW8 hpk
          go_upto_region 13 with fail
          clear e9 hfz e8
          generalize w9.setCell ⟨g', o' + 3, none⟩ (.slice (some ⟨q, 0, none⟩) (n1 + 1) cap) = W9 at *
          have hiN : i < n1 + 1 := by omega
          generalize n1 + 1 = N1 at *
          generalize insK (rch L T).2 i s zT = T1 at *
          generalize zT = K0 at HI1
          have HA9 : Hid (At W9 mu (.agg #[Value.int IntKind.i64 ku, Value.bool eu, Value.string tu, Value.slice xu nu cu]) U) := HH.out.2.2.2.1.below (by rw [HG.out]; exact P10.out.2.2.1)
          obtain ⟨a0, a1, a2, a3, _⟩ := cell4 P10.out.2.2.2
          obtain ⟨gq, capq, uq, fkq, hvq, _, hqm, hcq, _, _⟩ := HT1.out.1.get i s K0 HI1.out.1 HI1.out.2.1
          obtain rfl : gq = q := by
            injection hvq with h0
            injection h0 with h0
            injection h0 with h0
            exact h0.symm
          have k1 : W9.cell? ⟨gq, i * 5 + 1, none⟩ = some (.int .i64 K0.k) := hcq 1 (by omega)
          have k2 : W9.cell? ⟨gq, i * 5 + 2, none⟩ = some (.bool K0.e) := hcq 2 (by omega)
          have k3 : W9.cell? ⟨gq, i * 5 + 3, none⟩ = some (.string K0.t) := hcq 3 (by omega)
          have k4 : W9.cell? ⟨gq, i * 5 + 4, none⟩ = some uq := hcq 4 (by omega)
          have l1 := HT1.out.1.unfrozen gq (i * 5 + 1) hqm
          have l2 := HT1.out.1.unfrozen gq (i * 5 + 2) hqm
          have l3 := HT1.out.1.unfrozen gq (i * 5 + 3) hqm
          have l4 := HT1.out.1.unfrozen gq (i * 5 + 4) hqm
          have hqW := TrV.lt _ _ _ HT1.out.1 gq hqm
          have HQB : Hid (gq ∈ fp1 ∧ w4.heap.size ≤ gq ∧ gq < W9.heap.size) := ⟨hqm, hqW⟩
          have hqw : gq < W9.heap.size := hqW.2
          have n1' : gq ≠ G + 1 := by have := HS6.out.2.1; omega
          have n2' : G + 1 ≠ gq := Ne.symm n1'
          have n3' : g' ≠ gq := HX.out.1
          have n4' : gq ≠ g' := Ne.symm n3'
          have hzG : G + 1 < W9.heap.size := by have := P10.out.2.1; omega
          have hDr : Below W9.heap.size W9 W9.drew := (Below.refl _ _).drew
          have hN0 : N1 ≤ 9223372036854775807 := by have := HX.out.2.2; omega
          clear hcq hqm hqW hvq
          go_region_held3 (fun W => W.cell? ⟨G + 1, 0, none⟩ = some (.int .i64 ku) ∧ W.cell? ⟨G + 1, 1, none⟩ = some (.bool eu) ∧ W.cell? ⟨G + 1, 2, none⟩ = some (.string tu) ∧ W.cell? ⟨G + 1, 3, none⟩ = some (.slice xu nu cu) ∧ W.cell? ⟨g', o' + 3, none⟩ = some (.slice (some ⟨gq, 0, none⟩) N1 cap))
            (first
              | go_keep
              | (refine ⟨(b5.cell (p := ⟨G + 1, 0, none⟩) hzG).trans a0, (b5.cell (p := ⟨G + 1, 1, none⟩) hzG).trans a1, (b5.cell (p := ⟨G + 1, 2, none⟩) hzG).trans a2, (b5.cell (p := ⟨G + 1, 3, none⟩) hzG).trans a3, (b5.cell (p := ⟨g', o' + 3, none⟩) hg10).trans e10⟩))
            (first
              | (go_at_call 17
                 refine (copyV_any mu _ U W9.drew (HA9.out.below hDr)).mono ?_
                 rintro e5 w5 ⟨⟨v5, fp5, rfl, hv5, hnd⟩, b5⟩
                 obtain ⟨x5, q5, rfl⟩ := hv5.shape
                 have m1 : w5.cell? ⟨gq, i * 5 + 1, none⟩ = some (.int .i64 K0.k) := (b5.cell (p := ⟨gq, i * 5 + 1, none⟩) hqw).trans k1
                 have m2 : w5.cell? ⟨gq, i * 5 + 2, none⟩ = some (.bool K0.e) := (b5.cell (p := ⟨gq, i * 5 + 2, none⟩) hqw).trans k2
                 have m3 : w5.cell? ⟨gq, i * 5 + 3, none⟩ = some (.string K0.t) := (b5.cell (p := ⟨gq, i * 5 + 3, none⟩) hqw).trans k3
                 have m4 : w5.cell? ⟨gq, i * 5 + 4, none⟩ = some uq := (b5.cell (p := ⟨gq, i * 5 + 4, none⟩) hqw).trans k4
                 have o1 : w5.frozen? ⟨gq, i * 5 + 1, none⟩ = false := (b5.frozen (p := ⟨gq, i * 5 + 1, none⟩) hqw).trans l1
                 have o2 : w5.frozen? ⟨gq, i * 5 + 2, none⟩ = false := (b5.frozen (p := ⟨gq, i * 5 + 2, none⟩) hqw).trans l2
                 have o3 : w5.frozen? ⟨gq, i * 5 + 3, none⟩ = false := (b5.frozen (p := ⟨gq, i * 5 + 3, none⟩) hqw).trans l3
                 have o4 : w5.frozen? ⟨gq, i * 5 + 4, none⟩ = false := (b5.frozen (p := ⟨gq, i * 5 + 4, none⟩) hqw).trans l4))
          have hB5 : Below W9.heap.size W9 w5 := hDr.trans b5
          obtain ⟨fp2, hV11, hn11, hsub11, _⟩ := TrV.put (S := U) (TrV.same (w' := W9.drew) _ _ _ HT1.out.1 (fun _ _ => rfl)) HT1.out.2.1 HI1.out.1 HI1.out.2.1 b5 hv5 hnd (by show w4.heap.size ≤ W9.heap.size; have := HQB.out.2; omega)
          rw [HI1.out.2.2] at hV11
          have HW11 : ∀ b, b < W9.heap.size → b ≠ gq → (w5.setCells gq (i * 5 + 1) [.int .i64 U.k, .bool U.e, .string U.t, .slice x5 U.nms.length q5]).heap[b]? = W9.heap[b]? := fun b hb hbq => (heapE_setCells gq _ _ b hbq _).trans (hB5.block b hb)
          have hhd := putK_hd (rch L T).2 s U
          have hs6 := HFR.out.2.1
          have F := HF5.out (w5.setCells gq (i * 5 + 1) [.int .i64 U.k, .bool U.e, .string U.t, .slice x5 U.nms.length q5]) (putK (rch L T).2 s U) (.slice (some ⟨gq, 0, none⟩) N1 cap) fp2 hhd.1 hhd.2.1 hhd.2.2 hV11 hn11 (fun b hb => by
            rcases hsub11 b hb with hm | hm
            · exact HT1.out.2.2.1 b hm
            · have hm' : W9.heap.size ≤ b := hm
              exact .inr (by omega)) (fun b hb hbf hbg => (HW11 b (by omega) (fun hh => by
                rcases HT1.out.2.2.1 gq HQB.out.1 with hm | hm
                · exact hbf (by rw [hh]; exact hm)
                · omega)).trans (HFR.out.1 b hb hbf hbg)) ((HW11 g' hg10 n3').trans HFR.out.2.2)
          obtain ⟨vE, fpE, tn, _⟩ := F
          obtain ⟨yE, cE, rfl⟩ := tn.2.2.2.2.1.shape
          have P11 : Hid (PuI w G #[Value.int IntKind.i64 ku, Value.bool eu, Value.string tu, Value.slice xu nu cu] (w5.setCells gq (i * 5 + 1) [.int .i64 U.k, .bool U.e, .string U.t, .slice x5 U.nms.length q5])) := (P10.out.on hB5).keep (heapE_setCells gq _ _ _ n2' _) (heapE_setCells gq _ _ _ (by have := HS6.out.2.1; have := HQB.out.2.1; omega) _) (by rw [sizeE_setCells]; exact Nat.le_refl _) (belowE_setCells _ _ _ (by have := HS6.out.2.1; have := HQB.out.2.1; omega) (Below.refl _ _))
          have HE : Hid (TN (w5.setCells gq (i * 5 + 1) [.int .i64 U.k, .bool U.e, .string U.t, .slice x5 U.nms.length q5]) w4.heap.size C 0 (repT L T (putK (rch L T).2 s U)) (.slice yE (repT L T (putK (rch L T).2 s U)).nms.length cE) fpE) := tn
          have HG4 : Hid (G + 1 + 1 + 1 < w4.heap.size) := HS6.out.2.1
          change Exit.then _ _ Exit.normal _ (w5.setCells gq (i * 5 + 1) [.int .i64 U.k, .bool U.e, .string U.t, .slice x5 U.nms.length q5])
          clear tn hV11 hn11 hsub11 HW11 b5 hv5 hnd m1 m2 m3 m4 o1 o2 o3 o4 hB5 HT1 HFR a0 a1 a2 a3 k1 k2 k3 k4 l1 l2 l3 l4 e10 HA9 hDr
          generalize w5.setCells gq (i * 5 + 1) [.int .i64 U.k, .bool U.e, .string U.t, .slice x5 U.nms.length q5] = W11 at *
          generalize repT L T (putK (rch L T).2 s U) = R at HE HRS
          obtain ⟨f11, hA11⟩ := TrV.at R _ _ HE.out.2.2.2.2.1 HRS.out.2.1
          have HAR : Hid (At W11 f11 (.agg #[.int .i64 R.k, .bool R.e, .string R.t, .slice yE R.nms.length cE]) R) := hA11
          obtain ⟨m0, m1, m2, m3, _⟩ := HE.out
          simp only [Nat.zero_add] at m1 m2 m3
          have hC11 : C < W11.heap.size := cell_lt m0
          clear hA11
          generalize q1 : R.k = rk at m0 HAR
          generalize q2 : R.e = re at m1 HAR
          generalize q3 : R.t = rt at m2 HAR
          generalize q4 : R.nms.length = rn at m3 HAR HE
          have HQR : Hid (R.k = rk ∧ R.e = re ∧ R.t = rt) := ⟨q1, q2, q3⟩
          clear q1 q2 q3 q4
          go_wp2_with fail
          refine (check_tree f11 _ R W11 HAR.out HRS.out.1).mono ?_
          rintro e12 w12 ⟨rfl, b12⟩
          have P12 : Hid (PuI w G #[Value.int IntKind.i64 ku, Value.bool eu, Value.string tu, Value.slice xu nu cu] w12) := P11.out.on b12
          have r0 := (b12.cell (p := ⟨C, 0, none⟩) hC11).trans m0
          have r1 := (b12.cell (p := ⟨C, 1, none⟩) hC11).trans m1
          have r2 := (b12.cell (p := ⟨C, 2, none⟩) hC11).trans m2
          have r3 := (b12.cell (p := ⟨C, 3, none⟩) hC11).trans m3
          have HVE : Hid (TrV w12 w4.heap.size R (.slice yE rn cE) fpE ∧ fpE.Nodup) := ⟨TrV.same _ _ _ HE.out.2.2.2.2.1 (fun b hb => b12.block b (TrV.lt _ _ _ HE.out.2.2.2.2.1 b hb).2), HE.out.2.2.2.2.2.1⟩
          have HPE : Hid (putT T p U = putE R) := HRS.out.2.2
          have HPD : Hid (putE R = if (ckT R).2 ≠ 0 then ((ckT R).2, zT) else (0, R)) := rfl
          generalize (ckT R).1 = pd
          generalize (ckT R).2 = cd at HPD ⊢
          clear m0 m1 m2 m3 b12 hC11 HAR HE P11 HRS
          by_cases hcz : cd = 0
          · subst hcz
            obtain ⟨u0, u1, u2, u3, uf⟩ := cell4 P12.out.1
            have v0 := uf 0
            have v1 := uf 1
            have v2 := uf 2
            have v3 := uf 3
            clear uf
            go_wp2
            have hq := put4 P12.out.1 (Value.int .i64 rk) (.bool re) (.string rt) (.slice yE rn cE)
            have hB : Below w.heap.size w (w12.setCells (G + 1 + 1) 0 [Value.int .i64 rk, .bool re, .string rt, .slice yE rn cE]) := belowE_setCells _ _ _ (by rw [HG.out]; omega) (by rw [HG.out]; exact P12.out.2.2.1)
            have hVE := TrV.low (show w.heap.size ≤ w4.heap.size by rw [HG.out]; have := HG4.out; omega) _ _ _ (TrV.same (w' := w12.setCells (G + 1 + 1) 0 [Value.int .i64 rk, .bool re, .string rt, .slice yE rn cE]) _ _ _ HVE.out.1 (fun b hb => heapE_setCells (G + 1 + 1) _ _ b (fun hh => by have := (TrV.lt _ _ _ HVE.out.1 b hb).1; have := HG4.out; omega) w12))
            change bodyPost _ _ _ _ _ (w12.setCells (G + 1 + 1) 0 [Value.int .i64 rk, .bool re, .string rt, .slice yE rn cE])
            generalize w12.setCells (G + 1 + 1) 0 [Value.int .i64 rk, .bool re, .string rt, .slice yE rn cE] = W at *
            obtain ⟨z0, z1, z2, z3, _⟩ := cell4 hq
            refine bodyPost_ret (v := .tuple #[.agg #[.int .i64 rk, .bool re, .string rt, .slice yE rn cE], .int .i64 0]) (by simp [results, Tryd.results12, go_sem, z0, z1, z2, z3]) rfl ?_
            rw [← HQR.out.1, ← HQR.out.2.1, ← HQR.out.2.2]
            exact NdP.ok (by rw [HPE.out, HPD.out, if_neg (by decide)]) hVE HVE.out.2 hB
          · have HR : Hid (putT T p U = (cd, zT)) := by
              show putT T p U = (cd, zT)
              rw [HPE.out, HPD.out, if_pos hcz]
            obtain ⟨u0, u1, u2, u3, uf⟩ := cell4 (P12.out).1
            have v0 := uf 0
            have v1 := uf 1
            have v2 := uf 2
            have v3 := uf 3
            clear uf
            go_wp2
            have hq := put4 (P12.out).1 (Value.int .i64 0) (.bool false) (.string ⟨#[]⟩) (.slice none 0 0)
            have hB : Below w.heap.size w (w12.setCells (G + 1 + 1) 0 [Value.int .i64 0, .bool false, .string ⟨#[]⟩, .slice none 0 0]) := belowE_setCells _ _ _ (by rw [HG.out]; omega) (by rw [HG.out]; exact (P12.out).2.2.1)
            change bodyPost _ _ _ _ _ (w12.setCells (G + 1 + 1) 0 [Value.int .i64 0, .bool false, .string ⟨#[]⟩, .slice none 0 0])
            generalize w12.setCells (G + 1 + 1) 0 [Value.int .i64 0, .bool false, .string ⟨#[]⟩, .slice none 0 0] = W at *
            obtain ⟨q0, q1, q2, q3, _⟩ := cell4 hq
            exact bodyPost_ret (v := .tuple #[.agg #[.int .i64 0, .bool false, .string ⟨#[]⟩, .slice none 0 0], .int .i64 cd]) (by simp [results, Tryd.results12, go_sem, q0, q1, q2, q3]) rfl (NdP.bad HR.out hB)
        · obtain ⟨hi, hc⟩ := h2.1 rfl
          have hi' : i < (rch L T).2.nms.length := by rw [HJ.out.1]; exact hi
          have hs1 : (rch L T).2.nms[i]? = some s := by rw [List.getElem?_eq_getElem hi', ← cmpB_eq hc, nmA_of (List.getElem?_eq_getElem hi')]
          obtain ⟨K0, hK0⟩ : ∃ K0, (rch L T).2.ks[i]? = some K0 := ⟨_, List.getElem?_eq_getElem (by rw [← HNL.out.2]; exact hi')⟩
          have hset : setK (rch L T).2 i U = putK (rch L T).2 s U := by unfold putK; rw [HU.out.find hs1]
          obtain ⟨q, cap, u0, fk0, hvq, _, _, hqf, _, _⟩ := HF1.out.level i s K0 hs1 hK0
          have hx : x1 = some ⟨q, 0, none⟩ ∧ n1 = cap := by
            injection hvq with a b c
            exact ⟨a, c⟩
          obtain ⟨rfl, rfl⟩ := hx
          obtain ⟨⟨D, ty, hD⟩, hgB, hg6, hc6⟩ := HGB.out
          have hgq : g' ≠ q := fun hh => HF1.out.2.2.2.2.2.2 (by rw [hh]; exact hqf)
          have hGg : G + 1 + 1 + 1 < g' := by have := HS6.out.2.1; omega
          have HT1 : Hid (TrV w8 w4.heap.size (rch L T).2 (.slice (some ⟨q, 0, none⟩) n1 n1) fp' ∧ fp'.Nodup ∧ (∀ b ∈ fp', b ∈ fp' ∨ w6.heap.size ≤ b) ∧ g' ∉ fp') := ⟨V8, HF1.out.2.2.2.2.2.1, fun b hb => .inl hb, HF1.out.2.2.2.2.2.2⟩
          have HI1 : Hid ((rch L T).2.nms[i]? = some s ∧ (rch L T).2.ks[i]? = some K0 ∧ setK (rch L T).2 i U = putK (rch L T).2 s U) := ⟨hs1, hK0, hset⟩
          have HFR : Hid ((∀ b, b < w6.heap.size → b ∉ fp' → b ≠ g' → w8.heap[b]? = w6.heap[b]?) ∧ w6.heap.size ≤ w8.heap.size ∧ w8.heap[g']? = (w6.setCell ⟨g', o' + 3, none⟩ (.slice (some ⟨q, 0, none⟩) n1 n1)).heap[g']?) := ⟨fun b hb _ _ => HB8.out.block b hb, HB8.out.size, by rw [set_held hD hc6]; exact HB8.out.block g' hg6⟩
          have P10 : Hid (PuI w G #[Value.int IntKind.i64 ku, Value.bool eu, Value.string tu, Value.slice xu nu cu] w8) := P8.out
          have HX : Hid (g' ≠ q ∧ G + 1 + 1 + 1 < g' ∧ n1 ≤ 1048577) := ⟨hgq, hGg, by have := HNL.out.1; omega⟩
          have e10 := e8
          have hg10 := hg8
          have hiN : i < n1 := hi
          clear hs1 hK0 hset hvq hqf hD hc6 hi' hi hc V8 h1 h2 b8 e3 hg7 e8 hg8 P8
          go_upto_region 13 with fail
          have HA9 : Hid (At w8 mu (.agg #[Value.int IntKind.i64 ku, Value.bool eu, Value.string tu, Value.slice xu nu cu]) U) := HH.out.2.2.2.1.below (by rw [HG.out]; exact P10.out.2.2.1)
          obtain ⟨a0, a1, a2, a3, _⟩ := cell4 P10.out.2.2.2
          obtain ⟨gq, capq, uq, fkq, hvq, _, hqm, hcq, _, _⟩ := HT1.out.1.get i s K0 HI1.out.1 HI1.out.2.1
          obtain rfl : gq = q := by
            injection hvq with h0
            injection h0 with h0
            injection h0 with h0
            exact h0.symm
          have k1 : w8.cell? ⟨gq, i * 5 + 1, none⟩ = some (.int .i64 K0.k) := hcq 1 (by omega)
          have k2 : w8.cell? ⟨gq, i * 5 + 2, none⟩ = some (.bool K0.e) := hcq 2 (by omega)
          have k3 : w8.cell? ⟨gq, i * 5 + 3, none⟩ = some (.string K0.t) := hcq 3 (by omega)
          have k4 : w8.cell? ⟨gq, i * 5 + 4, none⟩ = some uq := hcq 4 (by omega)
          have l1 := HT1.out.1.unfrozen gq (i * 5 + 1) hqm
          have l2 := HT1.out.1.unfrozen gq (i * 5 + 2) hqm
          have l3 := HT1.out.1.unfrozen gq (i * 5 + 3) hqm
          have l4 := HT1.out.1.unfrozen gq (i * 5 + 4) hqm
          have hqW := TrV.lt _ _ _ HT1.out.1 gq hqm
          have HQB : Hid (gq ∈ fp' ∧ w4.heap.size ≤ gq ∧ gq < w8.heap.size) := ⟨hqm, hqW⟩
          have hqw : gq < w8.heap.size := hqW.2
          have n1' : gq ≠ G + 1 := by have := HS6.out.2.1; omega
          have n2' : G + 1 ≠ gq := Ne.symm n1'
          have n3' : g' ≠ gq := HX.out.1
          have n4' : gq ≠ g' := Ne.symm n3'
          have hzG : G + 1 < w8.heap.size := by have := P10.out.2.1; omega
          have hDr : Below w8.heap.size w8 w8.drew := (Below.refl _ _).drew
          have hN0 : n1 ≤ 9223372036854775807 := by have := HX.out.2.2; omega
          clear hcq hqm hqW hvq
          go_region_held3 (fun W => W.cell? ⟨G + 1, 0, none⟩ = some (.int .i64 ku) ∧ W.cell? ⟨G + 1, 1, none⟩ = some (.bool eu) ∧ W.cell? ⟨G + 1, 2, none⟩ = some (.string tu) ∧ W.cell? ⟨G + 1, 3, none⟩ = some (.slice xu nu cu) ∧ W.cell? ⟨g', o' + 3, none⟩ = some (.slice (some ⟨gq, 0, none⟩) n1 n1))
            (first
              | go_keep
              | (refine ⟨(b5.cell (p := ⟨G + 1, 0, none⟩) hzG).trans a0, (b5.cell (p := ⟨G + 1, 1, none⟩) hzG).trans a1, (b5.cell (p := ⟨G + 1, 2, none⟩) hzG).trans a2, (b5.cell (p := ⟨G + 1, 3, none⟩) hzG).trans a3, (b5.cell (p := ⟨g', o' + 3, none⟩) hg10).trans e10⟩))
            (first
              | (go_at_call 17
                 refine (copyV_any mu _ U w8.drew (HA9.out.below hDr)).mono ?_
                 rintro e5 w5 ⟨⟨v5, fp5, rfl, hv5, hnd⟩, b5⟩
                 obtain ⟨x5, q5, rfl⟩ := hv5.shape
                 have m1 : w5.cell? ⟨gq, i * 5 + 1, none⟩ = some (.int .i64 K0.k) := (b5.cell (p := ⟨gq, i * 5 + 1, none⟩) hqw).trans k1
                 have m2 : w5.cell? ⟨gq, i * 5 + 2, none⟩ = some (.bool K0.e) := (b5.cell (p := ⟨gq, i * 5 + 2, none⟩) hqw).trans k2
                 have m3 : w5.cell? ⟨gq, i * 5 + 3, none⟩ = some (.string K0.t) := (b5.cell (p := ⟨gq, i * 5 + 3, none⟩) hqw).trans k3
                 have m4 : w5.cell? ⟨gq, i * 5 + 4, none⟩ = some uq := (b5.cell (p := ⟨gq, i * 5 + 4, none⟩) hqw).trans k4
                 have o1 : w5.frozen? ⟨gq, i * 5 + 1, none⟩ = false := (b5.frozen (p := ⟨gq, i * 5 + 1, none⟩) hqw).trans l1
                 have o2 : w5.frozen? ⟨gq, i * 5 + 2, none⟩ = false := (b5.frozen (p := ⟨gq, i * 5 + 2, none⟩) hqw).trans l2
                 have o3 : w5.frozen? ⟨gq, i * 5 + 3, none⟩ = false := (b5.frozen (p := ⟨gq, i * 5 + 3, none⟩) hqw).trans l3
                 have o4 : w5.frozen? ⟨gq, i * 5 + 4, none⟩ = false := (b5.frozen (p := ⟨gq, i * 5 + 4, none⟩) hqw).trans l4))
          have hB5 : Below w8.heap.size w8 w5 := hDr.trans b5
          obtain ⟨fp2, hV11, hn11, hsub11, _⟩ := TrV.put (S := U) (TrV.same (w' := w8.drew) _ _ _ HT1.out.1 (fun _ _ => rfl)) HT1.out.2.1 HI1.out.1 HI1.out.2.1 b5 hv5 hnd (by show w4.heap.size ≤ w8.heap.size; have := HQB.out.2; omega)
          rw [HI1.out.2.2] at hV11
          have HW11 : ∀ b, b < w8.heap.size → b ≠ gq → (w5.setCells gq (i * 5 + 1) [.int .i64 U.k, .bool U.e, .string U.t, .slice x5 U.nms.length q5]).heap[b]? = w8.heap[b]? := fun b hb hbq => (heapE_setCells gq _ _ b hbq _).trans (hB5.block b hb)
          have hhd := putK_hd (rch L T).2 s U
          have hs6 := HFR.out.2.1
          have F := HF5.out (w5.setCells gq (i * 5 + 1) [.int .i64 U.k, .bool U.e, .string U.t, .slice x5 U.nms.length q5]) (putK (rch L T).2 s U) (.slice (some ⟨gq, 0, none⟩) n1 n1) fp2 hhd.1 hhd.2.1 hhd.2.2 hV11 hn11 (fun b hb => by
            rcases hsub11 b hb with hm | hm
            · exact HT1.out.2.2.1 b hm
            · have hm' : w8.heap.size ≤ b := hm
              exact .inr (by omega)) (fun b hb hbf hbg => (HW11 b (by omega) (fun hh => by
                rcases HT1.out.2.2.1 gq HQB.out.1 with hm | hm
                · exact hbf (by rw [hh]; exact hm)
                · omega)).trans (HFR.out.1 b hb hbf hbg)) ((HW11 g' hg10 n3').trans HFR.out.2.2)
          obtain ⟨vE, fpE, tn, _⟩ := F
          obtain ⟨yE, cE, rfl⟩ := tn.2.2.2.2.1.shape
          have P11 : Hid (PuI w G #[Value.int IntKind.i64 ku, Value.bool eu, Value.string tu, Value.slice xu nu cu] (w5.setCells gq (i * 5 + 1) [.int .i64 U.k, .bool U.e, .string U.t, .slice x5 U.nms.length q5])) := (P10.out.on hB5).keep (heapE_setCells gq _ _ _ n2' _) (heapE_setCells gq _ _ _ (by have := HS6.out.2.1; have := HQB.out.2.1; omega) _) (by rw [sizeE_setCells]; exact Nat.le_refl _) (belowE_setCells _ _ _ (by have := HS6.out.2.1; have := HQB.out.2.1; omega) (Below.refl _ _))
          have HE : Hid (TN (w5.setCells gq (i * 5 + 1) [.int .i64 U.k, .bool U.e, .string U.t, .slice x5 U.nms.length q5]) w4.heap.size C 0 (repT L T (putK (rch L T).2 s U)) (.slice yE (repT L T (putK (rch L T).2 s U)).nms.length cE) fpE) := tn
          have HG4 : Hid (G + 1 + 1 + 1 < w4.heap.size) := HS6.out.2.1
          change Exit.then _ _ Exit.normal _ (w5.setCells gq (i * 5 + 1) [.int .i64 U.k, .bool U.e, .string U.t, .slice x5 U.nms.length q5])
          clear tn hV11 hn11 hsub11 HW11 b5 hv5 hnd m1 m2 m3 m4 o1 o2 o3 o4 hB5 HT1 HFR a0 a1 a2 a3 k1 k2 k3 k4 l1 l2 l3 l4 e10 HA9 hDr
          generalize w5.setCells gq (i * 5 + 1) [.int .i64 U.k, .bool U.e, .string U.t, .slice x5 U.nms.length q5] = W11 at *
          generalize repT L T (putK (rch L T).2 s U) = R at HE HRS
          obtain ⟨f11, hA11⟩ := TrV.at R _ _ HE.out.2.2.2.2.1 HRS.out.2.1
          have HAR : Hid (At W11 f11 (.agg #[.int .i64 R.k, .bool R.e, .string R.t, .slice yE R.nms.length cE]) R) := hA11
          obtain ⟨m0, m1, m2, m3, _⟩ := HE.out
          simp only [Nat.zero_add] at m1 m2 m3
          have hC11 : C < W11.heap.size := cell_lt m0
          clear hA11
          generalize q1 : R.k = rk at m0 HAR
          generalize q2 : R.e = re at m1 HAR
          generalize q3 : R.t = rt at m2 HAR
          generalize q4 : R.nms.length = rn at m3 HAR HE
          have HQR : Hid (R.k = rk ∧ R.e = re ∧ R.t = rt) := ⟨q1, q2, q3⟩
          clear q1 q2 q3 q4
          go_wp2_with fail
          refine (check_tree f11 _ R W11 HAR.out HRS.out.1).mono ?_
          rintro e12 w12 ⟨rfl, b12⟩
          have P12 : Hid (PuI w G #[Value.int IntKind.i64 ku, Value.bool eu, Value.string tu, Value.slice xu nu cu] w12) := P11.out.on b12
          have r0 := (b12.cell (p := ⟨C, 0, none⟩) hC11).trans m0
          have r1 := (b12.cell (p := ⟨C, 1, none⟩) hC11).trans m1
          have r2 := (b12.cell (p := ⟨C, 2, none⟩) hC11).trans m2
          have r3 := (b12.cell (p := ⟨C, 3, none⟩) hC11).trans m3
          have HVE : Hid (TrV w12 w4.heap.size R (.slice yE rn cE) fpE ∧ fpE.Nodup) := ⟨TrV.same _ _ _ HE.out.2.2.2.2.1 (fun b hb => b12.block b (TrV.lt _ _ _ HE.out.2.2.2.2.1 b hb).2), HE.out.2.2.2.2.2.1⟩
          have HPE : Hid (putT T p U = putE R) := HRS.out.2.2
          have HPD : Hid (putE R = if (ckT R).2 ≠ 0 then ((ckT R).2, zT) else (0, R)) := rfl
          generalize (ckT R).1 = pd
          generalize (ckT R).2 = cd at HPD ⊢
          clear m0 m1 m2 m3 b12 hC11 HAR HE P11 HRS
          by_cases hcz : cd = 0
          · subst hcz
            obtain ⟨u0, u1, u2, u3, uf⟩ := cell4 P12.out.1
            have v0 := uf 0
            have v1 := uf 1
            have v2 := uf 2
            have v3 := uf 3
            clear uf
            go_wp2
            have hq := put4 P12.out.1 (Value.int .i64 rk) (.bool re) (.string rt) (.slice yE rn cE)
            have hB : Below w.heap.size w (w12.setCells (G + 1 + 1) 0 [Value.int .i64 rk, .bool re, .string rt, .slice yE rn cE]) := belowE_setCells _ _ _ (by rw [HG.out]; omega) (by rw [HG.out]; exact P12.out.2.2.1)
            have hVE := TrV.low (show w.heap.size ≤ w4.heap.size by rw [HG.out]; have := HG4.out; omega) _ _ _ (TrV.same (w' := w12.setCells (G + 1 + 1) 0 [Value.int .i64 rk, .bool re, .string rt, .slice yE rn cE]) _ _ _ HVE.out.1 (fun b hb => heapE_setCells (G + 1 + 1) _ _ b (fun hh => by have := (TrV.lt _ _ _ HVE.out.1 b hb).1; have := HG4.out; omega) w12))
            change bodyPost _ _ _ _ _ (w12.setCells (G + 1 + 1) 0 [Value.int .i64 rk, .bool re, .string rt, .slice yE rn cE])
            generalize w12.setCells (G + 1 + 1) 0 [Value.int .i64 rk, .bool re, .string rt, .slice yE rn cE] = W at *
            obtain ⟨z0, z1, z2, z3, _⟩ := cell4 hq
            refine bodyPost_ret (v := .tuple #[.agg #[.int .i64 rk, .bool re, .string rt, .slice yE rn cE], .int .i64 0]) (by simp [results, Tryd.results12, go_sem, z0, z1, z2, z3]) rfl ?_
            rw [← HQR.out.1, ← HQR.out.2.1, ← HQR.out.2.2]
            exact NdP.ok (by rw [HPE.out, HPD.out, if_neg (by decide)]) hVE HVE.out.2 hB
          · have HR : Hid (putT T p U = (cd, zT)) := by
              show putT T p U = (cd, zT)
              rw [HPE.out, HPD.out, if_pos hcz]
            obtain ⟨u0, u1, u2, u3, uf⟩ := cell4 (P12.out).1
            have v0 := uf 0
            have v1 := uf 1
            have v2 := uf 2
            have v3 := uf 3
            clear uf
            go_wp2
            have hq := put4 (P12.out).1 (Value.int .i64 0) (.bool false) (.string ⟨#[]⟩) (.slice none 0 0)
            have hB : Below w.heap.size w (w12.setCells (G + 1 + 1) 0 [Value.int .i64 0, .bool false, .string ⟨#[]⟩, .slice none 0 0]) := belowE_setCells _ _ _ (by rw [HG.out]; omega) (by rw [HG.out]; exact (P12.out).2.2.1)
            change bodyPost _ _ _ _ _ (w12.setCells (G + 1 + 1) 0 [Value.int .i64 0, .bool false, .string ⟨#[]⟩, .slice none 0 0])
            generalize w12.setCells (G + 1 + 1) 0 [Value.int .i64 0, .bool false, .string ⟨#[]⟩, .slice none 0 0] = W at *
            obtain ⟨q0, q1, q2, q3, _⟩ := cell4 hq
            exact bodyPost_ret (v := .tuple #[.agg #[.int .i64 0, .bool false, .string ⟨#[]⟩, .slice none 0 0], .int .i64 cd]) (by simp [results, Tryd.results12, go_sem, q0, q1, q2, q3]) rfl (NdP.bad HR.out hB)
  · have HR : Hid (putT T p U = (c1, zT)) := by
      show putT T p U = (c1, zT)
      unfold putT; rw [if_pos (by rw [HC.out]; exact hz), HC.out]
    clear hv
    obtain ⟨u0, u1, u2, u3, uf⟩ := cell4 (P4.out).1
    have v0 := uf 0
    have v1 := uf 1
    have v2 := uf 2
    have v3 := uf 3
    clear uf
    go_wp2
    have hq := put4 (P4.out).1 (Value.int .i64 0) (.bool false) (.string ⟨#[]⟩) (.slice none 0 0)
    have hB : Below w.heap.size w (w4.setCells (G + 1 + 1) 0 [Value.int .i64 0, .bool false, .string ⟨#[]⟩, .slice none 0 0]) := belowE_setCells _ _ _ (by rw [HG.out]; omega) (by rw [HG.out]; exact (P4.out).2.2.1)
    change bodyPost _ _ _ _ _ (w4.setCells (G + 1 + 1) 0 [Value.int .i64 0, .bool false, .string ⟨#[]⟩, .slice none 0 0])
    generalize w4.setCells (G + 1 + 1) 0 [Value.int .i64 0, .bool false, .string ⟨#[]⟩, .slice none 0 0] = W at *
    obtain ⟨q0, q1, q2, q3, _⟩ := cell4 hq
    exact bodyPost_ret (v := .tuple #[.agg #[.int .i64 0, .bool false, .string ⟨#[]⟩, .slice none 0 0], .int .i64 c1]) (by simp [results, Tryd.results12, go_sem, q0, q1, q2, q3]) rfl (NdP.bad HR.out hB)
end Go.Proofs.YtmknnblogfpifaaDoor
