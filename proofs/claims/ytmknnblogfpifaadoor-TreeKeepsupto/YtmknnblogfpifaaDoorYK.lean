/- TyK, gathered (own text of the verifier; made by joint.py). -/
import Derived.Test.YtmknnblogfpifaaDoorYC
namespace Go.Proofs.YtmknnblogfpifaaDoor
open Go.RowKit

/-- What Cut answers. -/
def cutN (T : Tr) (L : List ByteArray) (s : ByteArray) : Int × Tr := if (rchH L T).1 ≠ 0 then ((rchH L T).1, zT) else match (rch L T).2.nms.findIdx? (fun n => decide (n = s)) with
  | none => (3, zT)
  | some i => (0, repT L T (delK (rch L T).2 i))
def cutT (T : Tr) (p : ByteArray) : Int × Tr := if nmO [T] p ≠ 0 then (nmO [T] p, zT) else match (pathN p).reverse with
  | [] => (66, zT)
  | s :: r => cutN T r.reverse s

set_option maxHeartbeats 8000000 in
set_option maxRecDepth 10000 in
theorem cut_any (m : Nat) (k : Int) (e : Bool) (t : ByteArray) (x : Option Addr) (n c : Nat) (T : Tr) (p : ByteArray) (w : World) (hp : p.size ≤ 1048576) (H : At w m (.agg #[.int .i64 k, .bool e, .string t, .slice x n c]) T) (S : smT T) :
    Calls Tryd.prog 14 #[.agg #[.int .i64 k, .bool e, .string t, .slice x n c], .string p] w (NdP (cutT T p) w) := by
  have HH : Hid (At w m (.agg #[.int .i64 k, .bool e, .string t, .slice x n c]) T ∧ smT T ∧ wfT T) := ⟨H, S, At.wf _ _ _ H⟩
  clear H S
  go_enter Tryd.func14, Tryd.ntmps14
  go_wp2_with fail
  obtain ⟨w3, hw3⟩ : ∃ w3, w3 = (((w.alloc (Obj.cells #[Value.int IntKind.i64 k, Value.bool e, Value.string t, Value.slice x n c] 25)).alloc (Obj.cells #[Value.int IntKind.i64 0, Value.bool false, Value.string ⟨#[]⟩, Value.slice none 0 0] 25)).alloc (Obj.cells #[Value.int IntKind.i64 k, Value.bool e, Value.string t, Value.slice x n c] 25)) := ⟨_, rfl⟩
  have b1 : Below w.heap.size w (w.alloc (Obj.cells #[Value.int IntKind.i64 k, Value.bool e, Value.string t, Value.slice x n c] 25)) := (Below.refl _ _).alloc (Nat.le_refl _) _
  have hs1 : (w.alloc (Obj.cells #[Value.int IntKind.i64 k, Value.bool e, Value.string t, Value.slice x n c] 25)).heap.size = w.heap.size + 1 := World.size_alloc _ _
  have hs2 : ((w.alloc (Obj.cells #[Value.int IntKind.i64 k, Value.bool e, Value.string t, Value.slice x n c] 25)).alloc (Obj.cells #[Value.int IntKind.i64 0, Value.bool false, Value.string ⟨#[]⟩, Value.slice none 0 0] 25)).heap.size = w.heap.size + 1 + 1 := by rw [World.size_alloc, hs1]
  have P0 : Hid (NP w3 m w.heap.size 0 T) := by
    rw [hw3]
    exact ((NP.new HH.out.1 25).below ((Below.refl _ _).alloc (Nat.le_refl _) _)).below ((Below.refl _ _).alloc (Nat.le_refl _) _)
  have P1 : Hid (Nds w3 (some ⟨w.heap.size + 1 + 1, 0, none⟩) [T]) := fun j K hj => by
    have h0 : j = 0 := by
      have := (List.getElem?_eq_some_iff.1 hj).1
      simp at this; omega
    subst h0
    simp at hj
    subst hj
    refine ⟨HH.out.2.1, m, _, 0, rfl, ?_⟩
    have := NP.new ((HH.out.1.below b1).below ((Below.refl _ _).alloc (Nat.le_refl _) (Obj.cells #[Value.int IntKind.i64 0, Value.bool false, Value.string ⟨#[]⟩, Value.slice none 0 0] 25))) 25
    rw [hs2] at this
    rw [hw3]
    exact this
  have P2 : Hid (w3.heap[w.heap.size + 1]? = some (Obj.cells #[Value.int IntKind.i64 0, Value.bool false, Value.string ⟨#[]⟩, Value.slice none 0 0] 25 (0, 0)) ∧ w.heap.size + 1 + 1 < w3.heap.size ∧ Below w.heap.size w w3) := by
    rw [hw3]
    refine ⟨?_, by rw [World.size_alloc, hs2]; omega, (b1.alloc (by rw [hs1]; omega) _).alloc (by rw [hs2]; omega) _⟩
    rw [Below.heap_alloc _ _ _ (by rw [hs2]; omega), ← hs1]; exact heap_alloc_new _ _
  rw [← hw3]
  clear hw3 b1 hs1 hs2
  refine (namesOf_any p _ [T] 1 1 w3 (by omega) rfl (by omega) P1.out).mono ?_
  rintro en w4 ⟨⟨v, rfl, hv⟩, b4⟩
  have P3 : Hid (NP w4 m w.heap.size 0 T) := P0.out.below b4
  have P4 : Hid (w4.heap[w.heap.size + 1]? = some (Obj.cells #[Value.int IntKind.i64 0, Value.bool false, Value.string ⟨#[]⟩, Value.slice none 0 0] 25 (0, 0)) ∧ w.heap.size + 1 + 1 < w4.heap.size ∧ Below w.heap.size w w4) := ⟨(b4.block _ (by have := P2.out.2.1; omega)).trans P2.out.1, Nat.lt_of_lt_of_le P2.out.2.1 b4.size, P2.out.2.2.trans (b4.mono P2.out.2.2.size)⟩
  clear P0 P1 P2 b4
  obtain ⟨G, hG⟩ : ∃ G, w.heap.size = G := ⟨_, rfl⟩
  have HG : Hid (w.heap.size = G) := hG
  rw [hG] at P3 P4 ⊢
  clear hG
  obtain ⟨c1, hc1⟩ : ∃ c1, nmO [T] p = c1 := ⟨_, rfl⟩
  have HC : Hid (nmO [T] p = c1) := hc1
  rw [hc1] at hv ⊢
  clear hc1
  by_cases hz : c1 = 0
  · subst hz
    obtain ⟨y, cy, rfl, hcy, hT⟩ := (hv rfl).tns
    have HT : Hid (Tns w4 y (pathN p)) := hT
    have HA : Hid (ascT T) := by
      refine ckS_asc (l := [T]) ?_ (by simp) HH.out.2.2
      have := HC.out
      unfold nmO at this
      by_cases hk : ckS [T] ≠ 0
      · rw [if_pos hk] at this; exact absurd this hk
      · omega
    have HLn : Hid (lnT T) := lnB_ln (by decide) T (ck_ln HH.out.2.2 (ckS_off (nmO_ck HC.out).1 (by simp)))
    clear hv hT
    have hsh := pathN_short p
    generalize hN : pathN p = N at HT hcy hsh ⊢
    have HNN : Hid (pathN p = N) := hN
    clear hN
    rcases List.eq_nil_or_concat N with rfl | ⟨L, s, rfl⟩
    · have HR : Hid (cutT T p = (66, zT)) := by
        show cutT T p = (66, zT)
        unfold cutT; rw [if_neg (by rw [HC.out]; decide), HNN.out]; rfl
      obtain ⟨u0, u1, u2, u3, uf⟩ := cell4 P4.out.1
      have v0 := uf 0
      have v1 := uf 1
      have v2 := uf 2
      have v3 := uf 3
      clear uf
      go_wp2
      have hq := put4 P4.out.1 (Value.int .i64 0) (.bool false) (.string ⟨#[]⟩) (.slice none 0 0)
      have hB : Below w.heap.size w (w4.setCells (G + 1) 0 [Value.int .i64 0, .bool false, .string ⟨#[]⟩, .slice none 0 0]) := belowE_setCells _ _ _ (by rw [HG.out]; omega) (by rw [HG.out]; exact P4.out.2.2)
      change bodyPost _ _ _ _ _ (w4.setCells (G + 1) 0 [Value.int .i64 0, .bool false, .string ⟨#[]⟩, .slice none 0 0])
      generalize w4.setCells (G + 1) 0 [Value.int .i64 0, .bool false, .string ⟨#[]⟩, .slice none 0 0] = W at *
      obtain ⟨q0, q1, q2, q3, _⟩ := cell4 hq
      exact bodyPost_ret (v := .tuple #[.agg #[.int .i64 0, .bool false, .string ⟨#[]⟩, .slice none 0 0], .int .i64 66]) (by simp [results, Tryd.results14, go_sem, q0, q1, q2, q3]) rfl (NdP.bad HR.out hB)
    · have HR0 : Hid (cutT T p = cutN T L s) := by
        show cutT T p = cutN T L s
        unfold cutT; rw [if_neg (by rw [HC.out]; decide), HNN.out]; simp
      obtain ⟨_, x1, n1, c1, d0, d1, d2, d3, hA⟩ := P3.out
      have HA2 : Hid (At w4 m (.agg #[.int .i64 T.k, .bool T.e, .string T.t, .slice x1 n1 c1]) T) := hA
      clear hA
      generalize q1 : T.k = rk at d0 HA2
      generalize q2 : T.e = re at d1 HA2
      generalize q3 : T.t = rt at d2 HA2
      have HQ : Hid (T.k = rk ∧ T.e = re ∧ T.t = rt) := ⟨q1, q2, q3⟩
      clear q1 q2 q3
      simp only [Nat.zero_add] at d1 d2 d3
      go_wp2_with fail
      refine (copyV_any m _ T w4 HA2.out).mono ?_
      rintro e5 w5 ⟨⟨x5, fp, rfl, hV, hn⟩, b5⟩
      obtain ⟨y5, c5, rfl⟩ := hV.shape
      have P5 : Hid (w5.heap[G + 1]? = some (Obj.cells #[Value.int IntKind.i64 0, Value.bool false, Value.string ⟨#[]⟩, Value.slice none 0 0] 25 (0, 0)) ∧ G + 1 + 1 < w5.heap.size ∧ Below G w w5) := ⟨(b5.block _ (by have := P4.out.2.1; omega)).trans P4.out.1, Nat.lt_of_lt_of_le P4.out.2.1 b5.size, P4.out.2.2.trans (b5.mono (by have := P4.out.2.1; omega))⟩
      have HV : Hid (TrV w5 w4.heap.size T (.slice y5 T.nms.length c5) fp ∧ fp.Nodup ∧ G + 1 + 1 < w4.heap.size) := ⟨hV, hn, P4.out.2.1⟩
      have HT5 : Hid (Tns w5 y (L ++ [s])) := by have h0 := HT.out.below b5; rw [List.concat_eq_append] at h0; exact h0
      have hsz5 := b5.size
      clear b5 hV hn d0 d1 d2 d3 HA2
      have hcy' : L.length + 1 ≤ cy := by simpa using hcy
      have hL : L.length ≤ 999999 := by simp at hsh; omega
      go_wp2_with fail
      have bA : Below w5.heap.size w5 (w5.alloc (Obj.cells #[Value.int IntKind.i64 T.k, Value.bool T.e, Value.string T.t, Value.slice y5 T.nms.length c5] 25)) := (Below.refl _ _).alloc (Nat.le_refl _) _
      have P6 : Hid ((w5.alloc (Obj.cells #[Value.int IntKind.i64 T.k, Value.bool T.e, Value.string T.t, Value.slice y5 T.nms.length c5] 25)).heap[G + 1]? = some (Obj.cells #[Value.int IntKind.i64 0, Value.bool false, Value.string ⟨#[]⟩, Value.slice none 0 0] 25 (0, 0)) ∧ G + 1 + 1 < (w5.alloc (Obj.cells #[Value.int IntKind.i64 T.k, Value.bool T.e, Value.string T.t, Value.slice y5 T.nms.length c5] 25)).heap.size ∧ Below G w (w5.alloc (Obj.cells #[Value.int IntKind.i64 T.k, Value.bool T.e, Value.string T.t, Value.slice y5 T.nms.length c5] 25))) := ⟨(bA.block _ (by have := P5.out.2.1; omega)).trans P5.out.1, Nat.lt_of_lt_of_le P5.out.2.1 bA.size, P5.out.2.2.trans (bA.mono (by have := P5.out.2.1; omega))⟩
      have HT6 := HT5.out.below bA
      have TN6 : TN (w5.alloc (Obj.cells #[Value.int IntKind.i64 T.k, Value.bool T.e, Value.string T.t, Value.slice y5 T.nms.length c5] 25)) w4.heap.size w5.heap.size 0 T (.slice y5 T.nms.length c5) fp := by
        refine ⟨by rw [World.cell?_alloc_new]; rfl, by rw [World.cell?_alloc_new]; rfl, by rw [World.cell?_alloc_new]; rfl, by rw [World.cell?_alloc_new]; rfl, TrV.same _ _ _ HV.out.1 (fun b hb => bA.block b (TrV.lt _ _ _ HV.out.1 b hb).2), HV.out.2.1, fun hm => ?_⟩
        have := (TrV.lt _ _ _ HV.out.1 _ hm).2
        omega
      have NP6 : ∃ f, NP (w5.alloc (Obj.cells #[Value.int IntKind.i64 T.k, Value.bool T.e, Value.string T.t, Value.slice y5 T.nms.length c5] 25)) f w5.heap.size 0 T := by
        obtain ⟨f, hf⟩ := TrV.at T _ _ TN6.2.2.2.2.1 HLn.out
        exact ⟨f, by rw [World.size_alloc]; omega, _, _, _, TN6.1, TN6.2.1, TN6.2.2.1, TN6.2.2.2.1, hf⟩
      have HTN : Hid (TN (w5.alloc (Obj.cells #[Value.int IntKind.i64 T.k, Value.bool T.e, Value.string T.t, Value.slice y5 T.nms.length c5] 25)) w4.heap.size w5.heap.size 0 T (.slice y5 T.nms.length c5) fp) := TN6
      have HS6 : Hid (w5.heap.size < (w5.alloc (Obj.cells #[Value.int IntKind.i64 T.k, Value.bool T.e, Value.string T.t, Value.slice y5 T.nms.length c5] 25)).heap.size ∧ G + 1 + 1 < w5.heap.size ∧ ∃ D, (w5.alloc (Obj.cells #[Value.int IntKind.i64 T.k, Value.bool T.e, Value.string T.t, Value.slice y5 T.nms.length c5] 25)).heap[w5.heap.size]? = some (Obj.cells D 25 (0, 0))) := ⟨by rw [World.size_alloc]; omega, P5.out.2.1, _, heap_alloc_new _ _⟩
      obtain ⟨f6, NP6⟩ := NP6
      have HC5 : Hid (w4.heap.size ≤ w5.heap.size) := hsz5
      clear TN6 bA P5 HT5
      generalize w5.alloc (Obj.cells #[Value.int IntKind.i64 T.k, Value.bool T.e, Value.string T.t, Value.slice y5 T.nms.length c5] 25) = w6 at *
      generalize w5.heap.size = C at *
      refine (reachH_any f6 C 0 cy T y L s w6 NP6 HA.out HT6 hL hcy').mono ?_
      rintro e7 w7 ⟨hr, b7⟩
      have P7 : Hid (w7.heap[G + 1]? = some (Obj.cells #[Value.int IntKind.i64 0, Value.bool false, Value.string ⟨#[]⟩, Value.slice none 0 0] 25 (0, 0)) ∧ G + 1 + 1 < w7.heap.size ∧ Below G w w7) := ⟨(b7.block _ (by have := P6.out.2.1; omega)).trans P6.out.1, Nat.lt_of_lt_of_le P6.out.2.1 b7.size, P6.out.2.2.trans (b7.mono (by have := P6.out.2.1; omega))⟩
      rcases hr with ⟨hr1, rfl⟩ | ⟨hr1, g', o', m', rfl, hr2, hr3, hr4, hr5, hr6⟩
      · have HR : Hid (cutT T p = ((rchH L T).1, zT)) := by
          show cutT T p = ((rchH L T).1, zT)
          rw [HR0.out]; unfold cutN; rw [if_pos hr1]
        clear b7
        generalize (rchH L T).1 = c2 at HR hr1
        obtain ⟨u0, u1, u2, u3, uf⟩ := cell4 P7.out.1
        have v0 := uf 0
        have v1 := uf 1
        have v2 := uf 2
        have v3 := uf 3
        clear uf
        go_wp2
        have hq := put4 P7.out.1 (Value.int .i64 0) (.bool false) (.string ⟨#[]⟩) (.slice none 0 0)
        have hB : Below w.heap.size w (w7.setCells (G + 1) 0 [Value.int .i64 0, .bool false, .string ⟨#[]⟩, .slice none 0 0]) := belowE_setCells _ _ _ (by rw [HG.out]; omega) (by rw [HG.out]; exact P7.out.2.2)
        change bodyPost _ _ _ _ _ (w7.setCells (G + 1) 0 [Value.int .i64 0, .bool false, .string ⟨#[]⟩, .slice none 0 0])
        generalize w7.setCells (G + 1) 0 [Value.int .i64 0, .bool false, .string ⟨#[]⟩, .slice none 0 0] = W at *
        obtain ⟨q0, q1, q2, q3, _⟩ := cell4 hq
        exact bodyPost_ret (v := .tuple #[.agg #[.int .i64 0, .bool false, .string ⟨#[]⟩, .slice none 0 0], .int .i64 c2]) (by simp [results, Tryd.results14, go_sem, q0, q1, q2, q3]) rfl (NdP.bad HR.out hB)
      · have HB7 : Hid (Below w6.heap.size w6 w7) := b7
        have HF := TN.focus L C 0 T _ fp g' o' HTN.out HA.out hr6
        obtain ⟨T', v', fp', f1, f2, f3, f4, f5⟩ := HF
        obtain rfl := f4 hr2
        obtain ⟨hg', x1, n1, c2, d0, d1, d2, d3, hAt⟩ := hr4
        obtain ⟨_, j2, j3, j4, j5, _⟩ := hAt.nms
        have hv' : v' = .slice x1 n1 c2 := by have := f1.2.2.2.1; rw [d3] at this; exact (Option.some.inj this).symm
        subst hv'
        have HF1 : Hid (TN w6 w4.heap.size g' o' (rch L T).2 (.slice x1 n1 c2) fp') := f1
        have HF5 : Hid _ := f5
        have HU : Hid (Up (rch L T).2.nms) := (Tr.up hr5).1
        have HJ : Hid ((rch L T).2.nms.length = n1 ∧ Nms w7 x1 (rch L T).2.nms) := ⟨j2, j5.below b7⟩
        have e3 : w7.cell? ⟨g', o' + 3, none⟩ = some (.slice x1 n1 c2) := by rw [b7.cell (p := ⟨g', o' + 3, none⟩) hg']; exact d3
        have hg7 : g' < w7.heap.size := Nat.lt_of_lt_of_le hg' b7.size
        have HGB : Hid (∃ D ty, w6.heap[g']? = some (Obj.cells D ty (0, 0))) := by
          rcases f3 with ⟨_, rfl, _⟩ | hm
          · obtain ⟨D, hD⟩ := HS6.out.2.2
            exact ⟨D, _, hD⟩
          · obtain ⟨D, hD⟩ := TrV.cells _ _ _ HTN.out.2.2.2.2.1 _ hm
            exact ⟨D, _, hD⟩
        clear f1 f5 d0 d1 d2 d3 hAt j2 j3 j5 b7 hr5
        go_wp2_with fail
        refine (find_any x1 n1 c2 (rch L T).2.nms s w7 HJ.out.1 j4 HJ.out.2 (HU.out.mono s)).mono ?_
        rintro e8 w8 ⟨⟨i, r, rfl, h1, h2⟩, b8⟩
        have P8 : Hid (w8.heap[G + 1]? = some (Obj.cells #[Value.int IntKind.i64 0, Value.bool false, Value.string ⟨#[]⟩, Value.slice none 0 0] 25 (0, 0)) ∧ G + 1 + 1 < w8.heap.size ∧ Below G w w8) := ⟨(b8.block _ (by have := P7.out.2.1; omega)).trans P7.out.1, Nat.lt_of_lt_of_le P7.out.2.1 b8.size, P7.out.2.2.trans (b8.mono (by have := P7.out.2.1; omega))⟩
        have HB8 : Hid (Below w6.heap.size w6 w8) := HB7.out.trans (b8.mono HB7.out.size)
        cases r
        · have HR : Hid (cutT T p = (3, zT)) := by
            show cutT T p = (3, zT)
            rw [HR0.out]; unfold cutN; rw [if_neg (by rw [hr1]; decide), h1.none HU.out (fun hc => by have := h2.2 ⟨by rw [← HJ.out.1]; exact hc.1, hc.2⟩; cases this)]
          clear h1 h2 b8
          obtain ⟨u0, u1, u2, u3, uf⟩ := cell4 P8.out.1
          have v0 := uf 0
          have v1 := uf 1
          have v2 := uf 2
          have v3 := uf 3
          clear uf
          go_wp2
          have hq := put4 P8.out.1 (Value.int .i64 0) (.bool false) (.string ⟨#[]⟩) (.slice none 0 0)
          have hB : Below w.heap.size w (w8.setCells (G + 1) 0 [Value.int .i64 0, .bool false, .string ⟨#[]⟩, .slice none 0 0]) := belowE_setCells _ _ _ (by rw [HG.out]; omega) (by rw [HG.out]; exact P8.out.2.2)
          change bodyPost _ _ _ _ _ (w8.setCells (G + 1) 0 [Value.int .i64 0, .bool false, .string ⟨#[]⟩, .slice none 0 0])
          generalize w8.setCells (G + 1) 0 [Value.int .i64 0, .bool false, .string ⟨#[]⟩, .slice none 0 0] = W at *
          obtain ⟨q0, q1, q2, q3, _⟩ := cell4 hq
          exact bodyPost_ret (v := .tuple #[.agg #[.int .i64 0, .bool false, .string ⟨#[]⟩, .slice none 0 0], .int .i64 3]) (by simp [results, Tryd.results14, go_sem, q0, q1, q2, q3]) rfl (NdP.bad HR.out hB)
        · obtain ⟨hi, hc⟩ := h2.1 rfl
          have hi' : i < (rch L T).2.nms.length := by rw [HJ.out.1]; exact hi
          have hs1 : (rch L T).2.nms[i]? = some s := by rw [List.getElem?_eq_getElem hi', ← cmpB_eq hc, nmA_of (List.getElem?_eq_getElem hi')]
          have HR : Hid (cutT T p = (0, repT L T (delK (rch L T).2 i))) := by
            show cutT T p = (0, repT L T (delK (rch L T).2 i))
            rw [HR0.out]; unfold cutN; rw [if_neg (by rw [hr1]; decide), HU.out.find hs1]
          obtain ⟨K0, hK0⟩ : ∃ K0, (rch L T).2.ks[i]? = some K0 := ⟨_, List.getElem?_eq_getElem (by rw [← TrV.lenE HF1.out.2.2.2.2.1]; exact hi')⟩
          obtain ⟨q, cap, u0, fk0, hvq, _, _, hqf, _, _⟩ := HF1.out.level i s K0 hs1 hK0
          have hx : x1 = some ⟨q, 0, none⟩ ∧ n1 = (rch L T).2.nms.length ∧ c2 = cap := by
            injection hvq with a b c
            exact ⟨a, b, c⟩
          obtain ⟨rfl, rfl, rfl⟩ := hx
          have V8 := TrV.same (w' := w8) _ _ _ HF1.out.2.2.2.2.1 (fun b hb => HB8.out.block b (TrV.lt _ _ _ HF1.out.2.2.2.2.1 b hb).2)
          obtain ⟨cs, hO, hone, fp2, hV9, hn9, hsub⟩ := V8.del HF1.out.2.2.2.2.2.1 hi'
          have HO : Hid (w8.ownsRow w4.heap.size 54 5 (.slice (some ⟨q, 0, none⟩) (rch L T).2.nms.length c2) (rch L T).2.nms.length cs ∧ ∀ u ∈ cs, u.oneCell' = true) := ⟨hO, hone⟩
          have HV9 : Hid (TrV ((w8.drew.setCells q (i * 5) (cs.drop ((i + 1) * 5))).setCells q (((rch L T).2.nms.length - 1) * 5) zEnt) w4.heap.size (delK (rch L T).2 i) (.slice (some ⟨q, 0, none⟩) ((rch L T).2.nms.length - 1) c2) fp2 ∧ fp2.Nodup ∧ (∀ b ∈ fp2, b ∈ fp')) := ⟨hV9, hn9, hsub⟩
          have HQ' : Hid (q ∈ fp' ∧ g' ∉ fp') := ⟨hqf, HF1.out.2.2.2.2.2.2⟩
          have e8 : w8.cell? ⟨g', o' + 3, none⟩ = some (.slice (some ⟨q, 0, none⟩) (rch L T).2.nms.length c2) := by rw [b8.cell (p := ⟨g', o' + 3, none⟩) hg7]; exact e3
          have hg8 : g' < w8.heap.size := Nat.lt_of_lt_of_le hg7 b8.size
          have HG8 : Hid (g' < w6.heap.size) := hg'
          clear V8 hO hone hV9 hn9 hsub hqf b8 h1 h2 hc hvq e3 hg7 hg'
          obtain ⟨N0, hN0⟩ : ∃ N0, (rch L T).2.nms.length = N0 := ⟨_, rfl⟩
          have HN0 : Hid ((rch L T).2.nms.length = N0) := hN0
          rw [hN0] at HO HV9 e8 hi j4 hi' ⊢
          clear hN0
          go_wp2_with fail
          refine (delete_any _ q N0 c2 i cs w8 HO.out.1 HO.out.2 hi (by omega)).mono ?_
          rintro e9 w9 ⟨rfl, hw9⟩
          rw [← hw9] at HV9
          have hgq : g' ≠ q := fun hh => HQ'.out.2 (by rw [hh]; exact HQ'.out.1)
          have H9 : ∀ b, b ≠ q → w9.heap[b]? = w8.heap[b]? := fun b hb => by
            rw [hw9]
            exact (heapE_setCells q _ _ b hb _).trans (heapE_setCells q _ _ b hb _)
          have s9 : w9.heap.size = w8.heap.size := by
            rw [hw9]
            exact (sizeE_setCells _ _ _ _).trans (sizeE_setCells _ _ _ _)
          have B9 : Below G w w9 := by
            have hqG : G ≤ q := by have := (TrV.lt _ _ _ HF1.out.2.2.2.2.1 q HQ'.out.1).1; have := HV.out.2.2; omega
            rw [hw9]
            exact belowE_setCells _ _ _ hqG (belowE_setCells _ _ _ hqG (P8.out.2.2.trans ⟨rfl, rfl, rfl, Nat.le_refl _, fun _ _ => rfl⟩))
          obtain ⟨D, ty, hD⟩ := HGB.out
          have hD9 : w9.heap[g']? = some (Obj.cells D ty (0, 0)) := ((H9 g' hgq).trans (HB8.out.block g' HG8.out)).trans hD
          have hfz : w9.frozen? ⟨g', o' + 3, none⟩ = false := by unfold World.frozen?; rw [hD9]; simp
          have e9 : w9.cell? ⟨g', o' + 3, none⟩ = some (.slice (some ⟨q, 0, none⟩) N0 c2) := (cell_same (H9 g' hgq)).trans e8
          have HG2 : G + 1 < w4.heap.size := by have := HV.out.2.2; omega
          have hqB := (TrV.lt _ _ _ HF1.out.2.2.2.2.1 q HQ'.out.1).1
          have hgB : w4.heap.size ≤ g' := by
            rcases f3 with ⟨_, hh, _⟩ | hm
            · have := HS6.out.2.1
              have := TrV.lt _ _ _ HTN.out.2.2.2.2.1
              have h5 := HC5.out
              omega
            · exact (TrV.lt _ _ _ HTN.out.2.2.2.2.1 _ hm).1
          have P9 : Hid ((w9.setCell ⟨g', o' + 3, none⟩ (.slice (some ⟨q, 0, none⟩) (N0 - 1) c2)).heap[G + 1]? = some (Obj.cells #[Value.int IntKind.i64 0, Value.bool false, Value.string ⟨#[]⟩, Value.slice none 0 0] 25 (0, 0)) ∧ Below G w (w9.setCell ⟨g', o' + 3, none⟩ (.slice (some ⟨q, 0, none⟩) (N0 - 1) c2))) := ⟨((Below.heap_setCell _ ⟨g', o' + 3, none⟩ _ (G + 1) (by show G + 1 ≠ g'; omega)).trans (H9 _ (by omega))).trans P8.out.1, B9.setCell (by show G ≤ g'; omega) _⟩
          have F9 := HF5.out (w9.setCell ⟨g', o' + 3, none⟩ (.slice (some ⟨q, 0, none⟩) (N0 - 1) c2)) (delK (rch L T).2 i) (.slice (some ⟨q, 0, none⟩) (N0 - 1) c2) fp2 rfl rfl rfl (TrV.same _ _ _ HV9.out.1 (fun b hb => Below.heap_setCell _ ⟨g', o' + 3, none⟩ _ b (fun hh => HQ'.out.2 (by have := HV9.out.2.2 b hb; rw [show b = g' from hh] at this; exact this)))) HV9.out.2.1 (fun b hb => .inl (HV9.out.2.2 b hb)) (fun b hb hbf hbg => (Below.heap_setCell _ ⟨g', o' + 3, none⟩ _ b hbg).trans ((H9 b (fun hh => hbf (by rw [hh]; exact HQ'.out.1))).trans (HB8.out.block b hb))) (by rw [Go.Joins.block_setCell (i := o' + 3) hD9 _, Go.Joins.block_setCell (i := o' + 3) hD _])
          obtain ⟨v2, fpE, tn, _⟩ := F9
          obtain ⟨yE, cE, rfl⟩ := tn.2.2.2.2.1.shape
          have HE : Hid (TN (w9.setCell ⟨g', o' + 3, none⟩ (.slice (some ⟨q, 0, none⟩) (N0 - 1) c2)) w4.heap.size C 0 (repT L T (delK (rch L T).2 i)) (.slice yE (repT L T (delK (rch L T).2 i)).nms.length cE) fpE) := tn
          clear tn hw9 H9 B9 hD hD9
          generalize repT L T (delK (rch L T).2 i) = R at HR HE
          go_upto_region 14 with fail
          clear HV9 e9 hfz HO e8
          generalize w9.setCell ⟨g', o' + 3, none⟩ (.slice (some ⟨q, 0, none⟩) (N0 - 1) c2) = w10 at *
          obtain ⟨m0, m1, m2, m3, _⟩ := HE.out
          simp only [Nat.zero_add] at m1 m2 m3
          obtain ⟨u0, u1, u2, u3, uf⟩ := cell4 P9.out.1
          have v0 := uf 0
          have v1 := uf 1
          have v2 := uf 2
          have v3 := uf 3
          clear uf
          generalize q1 : R.k = rk at m0
          generalize q2 : R.e = re at m1
          generalize q3 : R.t = rt at m2
          generalize q4 : R.nms.length = rn at m3 HE
          have HQR : Hid (R.k = rk ∧ R.e = re ∧ R.t = rt) := ⟨q1, q2, q3⟩
          clear q1 q2 q3 q4
          go_wp2
          have hq := put4 P9.out.1 (Value.int .i64 rk) (.bool re) (.string rt) (.slice yE rn cE)
          have hB : Below w.heap.size w (w10.setCells (G + 1) 0 [Value.int .i64 rk, .bool re, .string rt, .slice yE rn cE]) := belowE_setCells _ _ _ (by rw [HG.out]; omega) (by rw [HG.out]; exact P9.out.2)
          have hVE := TrV.low (show w.heap.size ≤ w4.heap.size by rw [HG.out]; omega) _ _ _ (TrV.same (w' := w10.setCells (G + 1) 0 [Value.int .i64 rk, .bool re, .string rt, .slice yE rn cE]) _ _ _ HE.out.2.2.2.2.1 (fun b hb => heapE_setCells (G + 1) _ _ b (fun hh => by have := (TrV.lt _ _ _ HE.out.2.2.2.2.1 b hb).1; omega) w10))
          change bodyPost _ _ _ _ _ (w10.setCells (G + 1) 0 [Value.int .i64 rk, .bool re, .string rt, .slice yE rn cE])
          generalize w10.setCells (G + 1) 0 [Value.int .i64 rk, .bool re, .string rt, .slice yE rn cE] = W at *
          obtain ⟨z0, z1, z2, z3, _⟩ := cell4 hq
          refine bodyPost_ret (v := .tuple #[.agg #[.int .i64 rk, .bool re, .string rt, .slice yE rn cE], .int .i64 0]) (by simp [results, Tryd.results14, go_sem, z0, z1, z2, z3]) rfl ?_
          rw [← HQR.out.1, ← HQR.out.2.1, ← HQR.out.2.2]
          exact NdP.ok HR.out hVE HE.out.2.2.2.2.2.1 hB
  · have HR : Hid (cutT T p = (c1, zT)) := by
      show cutT T p = (c1, zT)
      unfold cutT; rw [if_pos (by rw [HC.out]; exact hz), HC.out]
    clear hv
    obtain ⟨u0, u1, u2, u3, uf⟩ := cell4 P4.out.1
    have v0 := uf 0
    have v1 := uf 1
    have v2 := uf 2
    have v3 := uf 3
    clear uf
    go_wp2
    have hq := put4 P4.out.1 (Value.int .i64 0) (.bool false) (.string ⟨#[]⟩) (.slice none 0 0)
    have hB : Below w.heap.size w (w4.setCells (G + 1) 0 [Value.int .i64 0, .bool false, .string ⟨#[]⟩, .slice none 0 0]) := belowE_setCells _ _ _ (by rw [HG.out]; omega) (by rw [HG.out]; exact P4.out.2.2)
    change bodyPost _ _ _ _ _ (w4.setCells (G + 1) 0 [Value.int .i64 0, .bool false, .string ⟨#[]⟩, .slice none 0 0])
    generalize w4.setCells (G + 1) 0 [Value.int .i64 0, .bool false, .string ⟨#[]⟩, .slice none 0 0] = W at *
    obtain ⟨q0, q1, q2, q3, _⟩ := cell4 hq
    exact bodyPost_ret (v := .tuple #[.agg #[.int .i64 0, .bool false, .string ⟨#[]⟩, .slice none 0 0], .int .i64 c1]) (by simp [results, Tryd.results14, go_sem, q0, q1, q2, q3]) rfl (NdP.bad HR.out hB)
end Go.Proofs.YtmknnblogfpifaaDoor
