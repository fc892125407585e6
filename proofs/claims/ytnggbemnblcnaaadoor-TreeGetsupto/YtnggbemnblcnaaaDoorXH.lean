/- UiE UiG UiH, gathered (own text of the verifier). -/
import Derived.Test.YtnggbemnblcnaaaDoorXG
import Derived.Deep.RegionHeld3
import Derived.Test.YtnggbemnblcnaaaDoorXN
import Derived.Test.YtnggbemnblcnaaaDoorTqR
import Derived.Test.YtnggbemnblcnaaaDoorTvO
namespace Go.Proofs.YtnggbemnblcnaaaDoor
open Go.RowKit

theorem set4_farG (W : World) {Z g o : Nat} (h : g ≠ Z) (a b c d : Value) : ((((W.setCell ⟨Z, 0, none⟩ a).setCell ⟨Z, 1, none⟩ b).setCell ⟨Z, 2, none⟩ c).setCell ⟨Z, 3, none⟩ d).cell? ⟨g, o, none⟩ = W.cell? ⟨g, o, none⟩ := by
  rw [World.cell?_setCell_far _ _ _ _ (by exact Ne.symm h), World.cell?_setCell_far _ _ _ _ (by exact Ne.symm h), World.cell?_setCell_far _ _ _ _ (by exact Ne.symm h), World.cell?_setCell_far _ _ _ _ (by exact Ne.symm h)]
/-- The node that came in, the answer's place. -/
def RgI (w0 : World) (G : Nat) (A : Array Value) (w : World) : Prop :=
  w.heap[G]? = some (.cells A 32 (0, 0)) ∧ w.heap[G + 1]? = some (.cells #[Value.int IntKind.i64 0, Value.bool false, Value.string ⟨#[]⟩, Value.slice none 0 0] 32 (0, 0)) ∧ G + 1 < w.heap.size ∧ Below G w0 w
theorem RgI.on {w0 w w' : World} {G : Nat} {A : Array Value} (h : RgI w0 G A w) (b : Below w.heap.size w w') : RgI w0 G A w' := by
  obtain ⟨h1, h3, h6, h7⟩ := h
  exact ⟨(b.block _ (by omega)).trans h1, (b.block _ (by omega)).trans h3, Nat.lt_of_lt_of_le h6 b.size, h7.trans (b.mono (by omega))⟩
theorem Tns.drop {w : World} {g o : Nat} {L : List ByteArray} (h : Tns w (some ⟨g, o, none⟩) L) (n : Nat) : Tns w (some ⟨g, o + n, none⟩) (L.drop n) := fun i s hs => by
  rw [List.getElem?_drop] at hs
  obtain ⟨g', o', h1, h2, h3⟩ := h (n + i) s hs
  injection h1 with h1
  injection h1 with e1 e2
  subst e1 e2
  exact ⟨g, o + n, rfl, h2, by rw [show o + n + i = o + (n + i) by omega]; exact h3⟩
theorem Rws.cap {ty : TypeId} {w : World} {B : Nat} {x : Option Addr} {n c : Nat} {L : List RW} (h : Rws ty w B (.slice x n c) L) : n = L.length ∧ n ≤ c := by
  rcases h.2 with ⟨hv, h0⟩ | ⟨g, cap, cur, hv, _, _, hc, _⟩
  · injection hv with e1 e2 e3
    subst e2 e3
    exact ⟨h0.symm, Nat.le_refl _⟩
  · injection hv with e1 e2 e3
    subst e2 e3
    exact ⟨rfl, hc⟩

set_option maxHeartbeats 16000000 in
set_option maxRecDepth 10000 in
theorem rget_any (m : Nat) (k : Int) (e : Bool) (t : ByteArray) (x : Option Addr) (n c : Nat) (T : Tr) (p : ByteArray) (w : World) (hp : p.size ≤ 1048576) (H : At w m (.agg #[Value.int IntKind.i64 k, Value.bool e, Value.string t, Value.slice x n c]) T) (S : smT T) :
    Calls Tryd.prog 11 #[.agg #[Value.int IntKind.i64 k, Value.bool e, Value.string t, Value.slice x n c], .string p] w (NdP (getT T p) w) := by
  have HH : Hid (At w m (.agg #[Value.int IntKind.i64 k, Value.bool e, Value.string t, Value.slice x n c]) T ∧ smT T ∧ wfT T) := ⟨H, S, At.wf _ _ _ H⟩
  clear H S
  generalize hR : getT T p = R
  have HR : Hid (getT T p = R) := hR
  clear hR
  go_enter Tryd.func11, Tryd.ntmps11
  go_wp2_with fail
  have hs1 : (w.alloc (Obj.cells #[Value.int IntKind.i64 k, Value.bool e, Value.string t, Value.slice x n c] 32)).heap.size = w.heap.size + 1 := World.size_alloc _ _
  have P3 : Hid (RgI w w.heap.size #[Value.int IntKind.i64 k, Value.bool e, Value.string t, Value.slice x n c] ((w.alloc (Obj.cells #[Value.int IntKind.i64 k, Value.bool e, Value.string t, Value.slice x n c] 32)).alloc (Obj.cells #[Value.int IntKind.i64 0, Value.bool false, Value.string ⟨#[]⟩, Value.slice none 0 0] 32))) := by
    refine ⟨?_, ?_, ?_, ((Below.refl _ _).alloc (Nat.le_refl _) _).alloc (by rw [hs1]; omega) _⟩
    · rw [Below.heap_alloc _ _ _ (by rw [hs1]; omega)]; exact heap_alloc_new w _
    · rw [← hs1]; exact heap_alloc_new _ _
    · rw [World.size_alloc, hs1]; omega
  clear hs1
  obtain ⟨G, hG⟩ : ∃ G, w.heap.size = G := ⟨_, rfl⟩
  have HG : Hid (w.heap.size = G) := hG
  rw [hG] at P3 ⊢
  clear hG
  generalize ((w.alloc (Obj.cells #[Value.int IntKind.i64 k, Value.bool e, Value.string t, Value.slice x n c] 32)).alloc (Obj.cells #[Value.int IntKind.i64 0, Value.bool false, Value.string ⟨#[]⟩, Value.slice none 0 0] 32)) = w3 at *
  refine (look_form m _ T w3 (HH.out.1.below (by rw [HG.out]; exact P3.out.2.2.2)) HH.out.2.1).mono ?_
  rintro e5 w5 ⟨⟨x5, n5, c5, b5, p5, rfl, hrows⟩, bl5⟩
  have P5 : Hid (RgI w G #[Value.int IntKind.i64 k, Value.bool e, Value.string t, Value.slice x n c] w5) := P3.out.on bl5
  obtain ⟨C1, hC1⟩ : ∃ C1, (ckT T).2 = C1 := ⟨_, rfl⟩
  have HC1 : Hid ((ckT T).2 = C1) := hC1
  rw [hC1] at hrows ⊢
  have HRW : Hid (C1 = 0 → n5 = (rwT [] T).length ∧ RIs w5 x5 (rwT [] T)) := hrows
  clear hC1 hrows bl5 P3 w3
  have bS : Below w5.heap.size w5 (w5.alloc (Obj.cells #[Value.slice x5 n5 c5, Value.int IntKind.i64 b5, Value.int IntKind.i64 C1, Value.string p5] 77)) := (Below.refl _ _).alloc (Nat.le_refl _) _
  have P6 : Hid (RgI w G #[Value.int IntKind.i64 k, Value.bool e, Value.string t, Value.slice x n c] (w5.alloc (Obj.cells #[Value.slice x5 n5 c5, Value.int IntKind.i64 b5, Value.int IntKind.i64 C1, Value.string p5] 77))) := P5.out.on bS
  have HS6 : Hid ((w5.alloc (Obj.cells #[Value.slice x5 n5 c5, Value.int IntKind.i64 b5, Value.int IntKind.i64 C1, Value.string p5] 77)).heap[w5.heap.size]? = some (.cells #[Value.slice x5 n5 c5, Value.int IntKind.i64 b5, Value.int IntKind.i64 C1, Value.string p5] 77 (0, 0)) ∧ G + 1 < w5.heap.size) := ⟨heap_alloc_new _ _, P5.out.2.2.1⟩
  have HR6 : Hid (C1 = 0 → n5 = (rwT [] T).length ∧ RIs (w5.alloc (Obj.cells #[Value.slice x5 n5 c5, Value.int IntKind.i64 b5, Value.int IntKind.i64 C1, Value.string p5] 77)) x5 (rwT [] T)) := fun h => ⟨(HRW.out h).1, (HRW.out h).2.below bS (Nat.le_refl _)⟩
  clear bS P5 HRW
  go_upto_region 2 with fail
  obtain ⟨g8, h8⟩ : ∃ g8, w5.heap.size = g8 := ⟨_, rfl⟩
  generalize w5.alloc (Obj.cells #[Value.slice x5 n5 c5, Value.int IntKind.i64 b5, Value.int IntKind.i64 C1, Value.string p5] 77) = w6 at *
  rw [h8] at HS6 ⊢
  clear h8 w5
  obtain ⟨s0, s1, s2, s3, _⟩ := cell4 HS6.out.1
  by_cases hz1 : C1 = 0
  · subst hz1
    have HR6' : Hid (n5 = (rwT [] T).length ∧ RIs w6 x5 (rwT [] T)) := HR6.out rfl
    have HOT : Hid ((vT [] 24 T).off = none ∧ ascT T) := ⟨ck_off HC1.out, ckS_asc (l := [T]) (by rw [ckS, if_neg (by rw [HC1.out]; decide)]; rfl) (by simp) HH.out.2.2⟩
    have HNM : Hid (nmO [T] p = (pathF p).1) := by
      rw [Hid]
      unfold nmO
      have : ckS [T] = 0 := by rw [ckS, if_neg (by rw [HC1.out]; decide)]; rfl
      rw [this, if_neg (by decide)]
    clear HR6
    have CS := rsplit_any p w6 (by omega)
    go_wp2_with fail
    refine CS.mono ?_
    rintro e9 w9 ⟨v9, rfl, hs9, bl9⟩
    obtain ⟨y, cy, rfl, hcy, hT9⟩ := hs9.tns
    have P9 : Hid (RgI w G #[Value.int IntKind.i64 k, Value.bool e, Value.string t, Value.slice x n c] w9) := P6.out.on bl9
    have HS9 : Hid (w9.heap[g8]? = some (.cells #[Value.slice x5 n5 c5, Value.int IntKind.i64 b5, Value.int IntKind.i64 0, Value.string p5] 77 (0, 0)) ∧ G + 1 < g8) := ⟨(bl9.block _ (heap_lt HS6.out.1)).trans HS6.out.1, HS6.out.2⟩
    have HR9 : Hid (n5 = (rwT [] T).length ∧ RIs w9 x5 (rwT [] T)) := ⟨HR6'.out.1, HR6'.out.2.below bl9 (Nat.le_refl _)⟩
    have HT9 : Hid (Tns w9 y (pathN p)) := hT9
    clear hs9 hT9 bl9 P6 HS6 HR6' s0 s1 s2 s3 CS
    generalize (pathF p).2 = pf2
    obtain ⟨C3, hC3⟩ : ∃ C3, (pathF p).1 = C3 := ⟨_, rfl⟩
    have HC3 : Hid ((pathF p).1 = C3) := hC3
    rw [hC3] at HNM ⊢
    clear hC3
    have hsh := pathN_short p
    obtain ⟨N, hN⟩ : ∃ N, pathN p = N := ⟨_, rfl⟩
    have HN : Hid (pathN p = N) := hN
    rw [hN] at HT9 hcy hsh ⊢
    clear hN
    obtain ⟨ln, hln⟩ : ∃ ln, N.length = ln := ⟨_, rfl⟩
    have HLN : Hid (N.length = ln) := hln
    rw [hln] at hcy hsh ⊢
    clear hln
    by_cases hz3 : C3 = 0
    · subst hz3
      obtain ⟨t0, t1, t2, t3, _⟩ := cell4 HS9.out.1
      have hn5 : n5 ≤ 1048576 := by rw [HR9.out.1]; exact len_tree HOT.out.1
      have HSR : Hid (smR (rwT [] T)) := smR_tree HOT.out.1 HH.out.2.1
      have CW := way_any x5 y n5 c5 ln cy T N w9 HR9.out.2 HT9.out HR9.out.1.symm HLN.out (by omega) HSR.out hcy (by omega) HOT.out.1 HOT.out.2
      go_wp2_with fail
      refine CW.mono ?_
      rintro e10 w10 ⟨rfl, bl10⟩
      have P10 : Hid (RgI w G #[Value.int IntKind.i64 k, Value.bool e, Value.string t, Value.slice x n c] w10) := P9.out.on bl10
      have HS10 : Hid (w10.heap[g8]? = some (.cells #[Value.slice x5 n5 c5, Value.int IntKind.i64 b5, Value.int IntKind.i64 0, Value.string p5] 77 (0, 0)) ∧ G + 1 < g8) := ⟨(bl10.block _ (heap_lt HS9.out.1)).trans HS9.out.1, HS9.out.2⟩
      have HR10 : Hid (n5 = (rwT [] T).length ∧ RIs w10 x5 (rwT [] T)) := ⟨HR9.out.1, HR9.out.2.below bl10 (Nat.le_refl _)⟩
      have HT10 : Hid (Tns w10 y N) := HT9.out.below bl10
      clear bl10 P9 HS9 HR9 HT9 t0 t1 t2 t3 CW
      obtain ⟨C4, hC4⟩ : ∃ C4, wayC T N = C4 := ⟨_, rfl⟩
      have HC4 : Hid (wayC T N = C4) := hC4
      rw [hC4]
      clear hC4
      by_cases hz4 : C4 = 0
      · subst hz4
        obtain ⟨t0, t1, t2, t3, _⟩ := cell4 HS10.out.1
        have CU := under_any x5 y n5 c5 ln cy (rwT [] T) N w10 HR10.out.2 HT10.out HR10.out.1.symm HLN.out (by omega) HSR.out
        go_wp2_with fail
        refine CU.mono ?_
        rintro e11 w11 ⟨⟨fr, tt, rfl, hU⟩, bl11⟩
        have P11 : Hid (RgI w G #[Value.int IntKind.i64 k, Value.bool e, Value.string t, Value.slice x n c] w11) := P10.out.on bl11
        have HS11 : Hid (w11.heap[g8]? = some (.cells #[Value.slice x5 n5 c5, Value.int IntKind.i64 b5, Value.int IntKind.i64 0, Value.string p5] 77 (0, 0)) ∧ G + 1 < g8) := ⟨(bl11.block _ (heap_lt HS10.out.1)).trans HS10.out.1, HS10.out.2⟩
        have HR11 : Hid (n5 = (rwT [] T).length ∧ RIs w11 x5 (rwT [] T)) := ⟨HR10.out.1, HR10.out.2.below bl11 (Nat.le_refl _)⟩
        have HT11 : Hid (Tns w11 y N) := HT10.out.below bl11
        have hUT := hU.tree HOT.out.1 HOT.out.2
        clear bl11 P10 HS10 HR10 HT10 t0 t1 t2 t3 CU
        rcases hUT with ⟨hno, rfl⟩ | ⟨K, A, B, hK, e1, rfl, rfl, hat⟩
        · have HRB : Hid (R = (3, zT)) := by
            rw [Hid, ← HR.out]
            exact get_none HNM.out (by rw [HN.out]; exact HC4.out) (by rw [HN.out]; exact hno)
          clear hno hU
          obtain ⟨r0, r1, r2, r3, uf⟩ := cell4 P11.out.2.1
          have v0 := uf 0
          have v1 := uf 1
          have v2 := uf 2
          have v3 := uf 3
          clear uf
          go_wp2
          have hq := put4 P11.out.2.1 (Value.int .i64 0) (.bool false) (.string ⟨#[]⟩) (.slice none 0 0)
          have hB0 : Below w.heap.size w (w11.setCells (G + 1) 0 [Value.int .i64 0, .bool false, .string ⟨#[]⟩, .slice none 0 0]) := belowE_setCells _ _ _ (by rw [HG.out]; omega) (by rw [HG.out]; exact P11.out.2.2.2)
          have hB : Below w.heap.size w (w11.setCells (G + 1) 0 [Value.int .i64 0, .bool false, .string ⟨#[]⟩, .slice none 0 0]) := ⟨hB0.os, hB0.tape, hB0.output, hB0.size, hB0.block⟩
          clear hB0
          change (w11.setCells (G + 1) 0 [Value.int .i64 0, .bool false, .string ⟨#[]⟩, .slice none 0 0]).heap[G + 1]? = _ at hq
          change bodyPost _ _ _ _ _ (w11.setCells (G + 1) 0 [Value.int .i64 0, .bool false, .string ⟨#[]⟩, .slice none 0 0])
          generalize (w11.setCells (G + 1) 0 [Value.int .i64 0, .bool false, .string ⟨#[]⟩, .slice none 0 0]) = WE at *
          obtain ⟨z0, z1, z2, z3, _⟩ := cell4 hq
          exact bodyPost_ret (v := .tuple #[.agg #[Value.int IntKind.i64 0, Value.bool false, Value.string ⟨#[]⟩, Value.slice none 0 0], .int .i64 3]) (by simp [results, Tryd.results11, go_sem, z0, z1, z2, z3]) rfl (NdP.bad HRB.out hB)
        · clear hU
          have HK : Hid (lk N T = some K) := hK
          have HE1 : Hid (rnT [] T = A ++ rnT N K ++ B) := e1
          have HRF : Hid (R = (0, K)) := by
            rw [Hid, ← HR.out]
            exact get_some HNM.out (by rw [HN.out]; exact HC4.out) (by rw [HN.out]; exact hK)
          have HKO : Hid ((vT [] 24 K).off = none ∧ wfT K ∧ smT K) := by
            have hr := (way_lk HC4.out).2 K hK
            have h1 := rch_off N HOT.out.1
            have h2 := wfT_rch N HH.out.2.2
            have h3 := smT_rch N HH.out.2.1
            rw [hr] at h1 h2 h3
            exact ⟨h1, h2, h3⟩
          have HRL : Hid ((rwT [] T).length = A.length + (rnT N K).length + B.length) := by rw [Hid, rwT_rn, List.length_map, e1, List.length_append, List.length_append]
          obtain ⟨al, hal⟩ : ∃ al, A.length = al := ⟨_, rfl⟩
          obtain ⟨kl, hkl⟩ : ∃ kl, (rnT N K).length = kl := ⟨_, rfl⟩
          have HAL : Hid (A.length = al ∧ (rnT N K).length = kl) := ⟨hal, hkl⟩
          obtain ⟨te, hte⟩ : ∃ te, al + kl = te := ⟨_, rfl⟩
          have HTE : Hid (al + kl = te) := hte
          have hbn : te ≤ n5 := by have := HRL.out; have := HR11.out.1; omega
          have hale : al ≤ te := by omega
          rw [hal, hkl, hte]
          clear hK e1 hat hal hkl hte HRL
          go_wp2
          go_loopw [12, 13] (fun xo xi wr => ∃ (j : Nat) (Lo : List RW) (po : Option Addr) (co : Nat), al ≤ j ∧ j ≤ te ∧ xi = .int .i64 j ∧ xo = .slice po Lo.length co ∧ Hid (Lo = (rwT [] K).take (j - al)) ∧ Hid (Lo.length = j - al) ∧ Hid (Rws 29 wr w11.heap.size (.slice po Lo.length co) Lo ∧ Below w11.heap.size w11 wr)) (fun _ i _ => te - (intOf i).toNat)
          case atStart => exact ⟨al, [], none, 0, Nat.le_refl _, hale, rfl, rfl, by rw [Hid, Nat.sub_self, List.take_zero], by rw [Hid, Nat.sub_self]; rfl, ⟨rfl, .inl ⟨rfl, rfl⟩⟩, Below.refl _ _⟩
          case round =>
            obtain ⟨j, Lo, po, co, hj1, hj2, rfl, rfl, HL, HLL, HO⟩ := hrel
            by_cases hlt : j < te
            · have hik : j - al < (rnT N K).length := by rw [HAL.out.2]; have := HTE.out; omega
              obtain ⟨q, hq⟩ : ∃ q, (rnT N K)[j - al]? = some q := ⟨_, List.getElem?_eq_getElem hik⟩
              have HQ : Hid (N <+: q.1 ∧ q ∈ rnT [] T ∧ (rwT [] T)[j]? = some (rnR q) ∧ (rwT [] K)[j - al]? = some ((joinB (q.1.drop ln), q.2.k, q.2.e, q.2.t) : RW)) := by
                have hm := List.mem_of_getElem? hq
                refine ⟨rnT_pre K N q hm, by rw [HE1.out]; simp [hm], ?_, ?_⟩
                · rw [rwT_rn, List.getElem?_map, HE1.out, List.append_assoc, List.getElem?_append_right (by rw [HAL.out.1]; omega), HAL.out.1, List.getElem?_append_left hik, hq]
                  rfl
                · rw [← rw_shift N K, List.getElem?_map, hq, HLN.out]
                  rfl
              have HQ2 : Hid (pathN (rnR q).1 = q.1 ∧ q.1.length ≤ 31 ∧ (∀ z ∈ q.1, z.size ≤ 255) ∧ ln ≤ q.1.length) := by
                have h1 := rn_ok T [] 24 HOT.out.1 (by intro z hz; cases hz) q HQ.out.2.1
                exact ⟨rn_nm pathN_ok HOT.out.1 q HQ.out.2.1, h1.1, fun z hz => chk_short z (h1.2 z hz), by rw [← HLN.out]; exact HQ.out.1.length_le⟩
              clear hq hik
              obtain ⟨r, hr⟩ : ∃ r, rnR q = r := ⟨_, rfl⟩
              have HRQ : Hid (rnR q = r) := hr
              have hri := HQ.out.2.2.1
              rw [hr] at hri
              obtain ⟨g, o, rfl, hg, c0, c1, c2, c3⟩ := HR11.out.2.below HO.out.2 (Nat.le_refl _) j r hri
              have hps := HSR.out r (List.mem_of_getElem? hri)
              obtain ⟨t0, t1, t2, t3, _⟩ := cell4 ((HO.out.2.block _ (heap_lt HS11.out.1)).trans HS11.out.1)
              have hai : j < n5 := by omega
              have CS := rsplit_any r.1 wr (by omega)
              have hqn : pathN r.1 = q.1 := by rw [← hr]; exact HQ2.out.1
              rw [hqn] at CS
              clear hr hri hqn
              go_wp2_with fail
              refine CS.mono ?_
              rintro e12 w12 ⟨v12, rfl, hs12, b12⟩
              obtain ⟨x12, c12, rfl, hc12, T12, hsh12⟩ : ∃ x c, v12 = .slice x q.1.length c ∧ q.1.length ≤ c ∧ Tns w12 x q.1 ∧ ((x = none ∧ c = 0) ∨ ∃ g o, x = some (⟨g, o, none⟩ : Addr)) := by
                obtain ⟨x, c, h1, h2, h3⟩ := hs12.tns
                refine ⟨x, c, h1, h2, h3, ?_⟩
                rcases hs12 with ⟨h4, _⟩ | ⟨g', c', h4, _⟩
                · rw [h1] at h4; injection h4 with h4 _ h5; exact .inl ⟨h4, h5⟩
                · rw [h1] at h4; injection h4 with h4 _ h5; exact .inr ⟨_, _, h4⟩
              obtain ⟨q1, hq1⟩ : ∃ q1, q.1 = q1 := ⟨_, rfl⟩
              have HQ1 : Hid (q.1 = q1) := hq1
              rw [hq1] at T12 hc12 ⊢
              obtain ⟨ql, hql⟩ : ∃ ql, q1.length = ql := ⟨_, rfl⟩
              have HQL : Hid (q1.length = ql) := hql
              rw [hql] at hc12 ⊢
              have hlq : ln ≤ ql := by rw [← hql, ← hq1]; exact HQ2.out.2.2.2
              have hq31 : ql ≤ 31 := by rw [← hql, ← hq1]; exact HQ2.out.2.1
              generalize (pathF r.1).1 = pa1
              generalize (pathF r.1).2 = pa2
              have hb13 : Below w12.heap.size w12 (w12.alloc (Obj.cells #[Value.string r.1, Value.int IntKind.i64 r.2.1, Value.bool r.2.2.1, Value.string r.2.2.2] 29)) := (Below.refl _ _).alloc (Nat.le_refl _) _
              have hb13' : Below wr.heap.size wr (w12.alloc (Obj.cells #[Value.string r.1, Value.int IntKind.i64 r.2.1, Value.bool r.2.2.1, Value.string r.2.2.2] 29)) := b12.trans (hb13.mono b12.size)
              have HO13 : Hid (Rws 29 (w12.alloc (Obj.cells #[Value.string r.1, Value.int IntKind.i64 r.2.1, Value.bool r.2.2.1, Value.string r.2.2.2] 29)) w11.heap.size (.slice po Lo.length co) Lo ∧ Below w11.heap.size w11 (w12.alloc (Obj.cells #[Value.string r.1, Value.int IntKind.i64 r.2.1, Value.bool r.2.2.1, Value.string r.2.2.2] 29))) := ⟨HO.out.1.below hb13', HO.out.2.trans (hb13'.mono HO.out.2.size)⟩
              have HT13 : Hid (Tns (w12.alloc (Obj.cells #[Value.string r.1, Value.int IntKind.i64 r.2.1, Value.bool r.2.2.1, Value.string r.2.2.2] 29)) x12 q1) := T12.below hb13
              have HE13 : Hid ((w12.alloc (Obj.cells #[Value.string r.1, Value.int IntKind.i64 r.2.1, Value.bool r.2.2.1, Value.string r.2.2.2] 29)).heap[w12.heap.size]? = some (.cells #[Value.string r.1, Value.int IntKind.i64 r.2.1, Value.bool r.2.2.1, Value.string r.2.2.2] 29 (0, 0)) ∧ w11.heap.size ≤ w12.heap.size) := ⟨heap_alloc_new _ _, Nat.le_trans HO.out.2.size b12.size⟩
              have HOB : Hid (∀ kk, (Value.slice po Lo.length co).ownBlock = some kk → kk < w12.heap.size) := fun kk hk => Nat.lt_of_lt_of_le (World.ownsRow.lt HO.out.1 kk hk).2 b12.size
              have m0 := (b12.cell (p := ⟨g, o + j * 4, none⟩) hg).trans c0
              have m1 := (b12.cell (p := ⟨g, o + j * 4 + 1, none⟩) hg).trans c1
              have m2 := (b12.cell (p := ⟨g, o + j * 4 + 2, none⟩) hg).trans c2
              have m3 := (b12.cell (p := ⟨g, o + j * 4 + 3, none⟩) hg).trans c3
              obtain ⟨u0, u1, u2, u3, _⟩ := cell4 (((HO.out.2.trans (b12.mono HO.out.2.size)).block _ (heap_lt HS11.out.1)).trans HS11.out.1)
              clear hq1 hql hs12 T12 CS c0 c1 c2 c3 t0 t1 t2 t3 hb13 hb13' HO b12 hg
              go_upto_region 18 with fail
              clear m0 m1 m2 m3 u0 u1 u2 u3
              obtain ⟨E, hE⟩ : ∃ E, w12.heap.size = E := ⟨_, rfl⟩
              generalize w12.alloc (Obj.cells #[Value.string r.1, Value.int IntKind.i64 r.2.1, Value.bool r.2.2.1, Value.string r.2.2.2] 29) = w13 at *
              rw [hE] at HE13 HOB ⊢
              clear hE
              have hlI : (ln : Int) ≤ (ql : Int) := by omega
              have hqcI : (ql : Int) ≤ (c12 : Int) := by omega
              rcases hsh12 with ⟨rfl, rfl⟩ | ⟨g6, o6, rfl⟩
              · have hql0 : ql = 0 := by omega
                have hln0 : 0 = ln := by omega
                subst hql0
                subst hln0
                have CP := rpathOf_any none 0 0 (q1.drop 0) w13 (by intro i z hz; rw [List.drop_zero, List.length_eq_zero_iff.1 HQL.out] at hz; simp at hz) (by rw [List.drop_zero]; exact HQL.out) (by omega) (fun z hz => HQ2.out.2.2.1 z (by rw [HQ1.out]; exact List.mem_of_mem_drop hz))
                obtain ⟨J, hJ⟩ : ∃ J, joinB (q1.drop 0) = J := ⟨_, rfl⟩
                have HJ : Hid (joinB (q1.drop 0) = J) := hJ
                rw [hJ] at CP
                clear hJ
                go_wp2_with fail
                refine CP.mono ?_
                rintro e14 w14 ⟨rfl, b14⟩
                have hE14 := (b14.block _ (heap_lt HE13.out.1)).trans HE13.out.1
                obtain ⟨a0, a1, a2, a3, af⟩ := cell4 hE14
                have af0 := af 0
                have HRN : Hid (((J, r.2.1, r.2.2.1, r.2.2.2) : RW) = (joinB (q.1.drop 0), q.2.k, q.2.e, q.2.t)) := by
                  rw [Hid, ← HJ.out, ← HRQ.out, HQ1.out]
                  rfl
                have HO15 : Hid (Rws 29 (w14.setCell ⟨E, 0, none⟩ (.string J)) w11.heap.size (.slice po Lo.length co) Lo ∧ Below w11.heap.size w11 (w14.setCell ⟨E, 0, none⟩ (.string J))) := by
                  refine ⟨HO13.out.1.same (fun kk hk => (Below.heap_setCell _ _ _ kk (by show kk ≠ E; have := HOB.out kk hk; omega)).trans (b14.block kk (World.ownsRow.lt HO13.out.1 kk hk).2)), (HO13.out.2.trans (b14.mono HO13.out.2.size)).setCell HE13.out.2 _⟩
                have hE15 : (w14.setCell ⟨E, 0, none⟩ (.string J)).heap[E]? = some (.cells #[Value.string J, Value.int IntKind.i64 r.2.1, Value.bool r.2.2.1, Value.string r.2.2.2] 29 (0, 0)) := Go.Joins.block_setCell (i := 0) hE14 _
                clear b14 CP HO13 HT13 HE13 HOB hE14
                go_upto_region 19 with fail
                clear a0 a1 a2 a3 af af0
                generalize (w14.setCell ⟨E, 0, none⟩ (.string J)) = w15 at *
                obtain ⟨a0, a1, a2, a3, _⟩ := cell4 hE15
                obtain ⟨p2, c2', w8, hr, hR8, hF8⟩ := Rws.app (lty := 24) HO15.out.1 infoRROW undLRROW ((J, r.2.1, r.2.2.1, r.2.2.2) : RW) HO15.out.2.size (by have := HLL.out; omega)
                have HO8 : Hid (Rws 29 w8 w11.heap.size (.slice p2 (Lo ++ [((J, r.2.1, r.2.2.1, r.2.2.2) : RW)]).length c2') (Lo ++ [((J, r.2.1, r.2.2.1, r.2.2.2) : RW)]) ∧ Below w11.heap.size w11 w8) := ⟨by rw [List.length_append]; exact hR8, HO15.out.2.trans hF8.below⟩
                clear hR8 hF8
                go_wp2_with (first | (refine wpList_app_is (by rfl) 24 24 (.tmp 83) (.tmp 85) (by rfl) _ _ _ _ (by rfl) (by rfl) hr ?_))
                go_roundw
                case rel =>
                  refine ⟨j + 1, Lo ++ [((J, r.2.1, r.2.2.1, r.2.2.2) : RW)], p2, c2', by omega, by omega, by go_num, by simp, ?_, ?_, HO8⟩
                  · rw [Hid, show j + 1 - al = j - al + 1 by omega, List.take_add_one, HQ.out.2.2.2, ← HL.out, HRN.out]
                    rfl
                  · rw [Hid, List.length_append, HLL.out]
                    simp
                    omega
                case measure => simp [intOf]; omega
              · skip
                by_cases hcl : c12 = ln
                · have hcl' : ln = c12 := hcl.symm
                  clear hcl
                  subst hcl'
                  have hql' : ln = ql := by omega
                  subst hql'
                  clear hlq hlI hqcI hc12
                  have CP := rpathOf_any (some ⟨g6, o6, none⟩) 0 0 (q1.drop ln) w13 (by intro i z hz; have hd : q1.drop ln = [] := List.drop_of_length_le (Nat.le_of_eq HQL.out); rw [hd] at hz; simp at hz) (by rw [List.length_drop, HQL.out, Nat.sub_self]) (by omega) (fun z hz => HQ2.out.2.2.1 z (by rw [HQ1.out]; exact List.mem_of_mem_drop hz))
                  obtain ⟨J, hJ⟩ : ∃ J, joinB (q1.drop ln) = J := ⟨_, rfl⟩
                  have HJ : Hid (joinB (q1.drop ln) = J) := hJ
                  rw [hJ] at CP
                  clear hJ
                  go_wp2_with fail
                  refine CP.mono ?_
                  rintro e14 w14 ⟨rfl, b14⟩
                  have hE14 := (b14.block _ (heap_lt HE13.out.1)).trans HE13.out.1
                  obtain ⟨a0, a1, a2, a3, af⟩ := cell4 hE14
                  have af0 := af 0
                  have HRN : Hid (((J, r.2.1, r.2.2.1, r.2.2.2) : RW) = (joinB (q.1.drop ln), q.2.k, q.2.e, q.2.t)) := by
                    rw [Hid, ← HJ.out, ← HRQ.out, HQ1.out]
                    rfl
                  have HO15 : Hid (Rws 29 (w14.setCell ⟨E, 0, none⟩ (.string J)) w11.heap.size (.slice po Lo.length co) Lo ∧ Below w11.heap.size w11 (w14.setCell ⟨E, 0, none⟩ (.string J))) := by
                    refine ⟨HO13.out.1.same (fun kk hk => (Below.heap_setCell _ _ _ kk (by show kk ≠ E; have := HOB.out kk hk; omega)).trans (b14.block kk (World.ownsRow.lt HO13.out.1 kk hk).2)), (HO13.out.2.trans (b14.mono HO13.out.2.size)).setCell HE13.out.2 _⟩
                  have hE15 : (w14.setCell ⟨E, 0, none⟩ (.string J)).heap[E]? = some (.cells #[Value.string J, Value.int IntKind.i64 r.2.1, Value.bool r.2.2.1, Value.string r.2.2.2] 29 (0, 0)) := Go.Joins.block_setCell (i := 0) hE14 _
                  clear b14 CP HO13 HT13 HE13 HOB hE14
                  go_upto_region 19 with fail
                  clear a0 a1 a2 a3 af af0
                  generalize (w14.setCell ⟨E, 0, none⟩ (.string J)) = w15 at *
                  obtain ⟨a0, a1, a2, a3, _⟩ := cell4 hE15
                  obtain ⟨p2, c2', w8, hr, hR8, hF8⟩ := Rws.app (lty := 24) HO15.out.1 infoRROW undLRROW ((J, r.2.1, r.2.2.1, r.2.2.2) : RW) HO15.out.2.size (by have := HLL.out; omega)
                  have HO8 : Hid (Rws 29 w8 w11.heap.size (.slice p2 (Lo ++ [((J, r.2.1, r.2.2.1, r.2.2.2) : RW)]).length c2') (Lo ++ [((J, r.2.1, r.2.2.1, r.2.2.2) : RW)]) ∧ Below w11.heap.size w11 w8) := ⟨by rw [List.length_append]; exact hR8, HO15.out.2.trans hF8.below⟩
                  clear hR8 hF8
                  go_wp2_with (first | (refine wpList_app_is (by rfl) 24 24 (.tmp 83) (.tmp 85) (by rfl) _ _ _ _ (by rfl) (by rfl) hr ?_))
                  go_roundw
                  case rel =>
                    refine ⟨j + 1, Lo ++ [((J, r.2.1, r.2.2.1, r.2.2.2) : RW)], p2, c2', by omega, by omega, by go_num, by simp, ?_, ?_, HO8⟩
                    · rw [Hid, show j + 1 - al = j - al + 1 by omega, List.take_add_one, HQ.out.2.2.2, ← HL.out, HRN.out]
                      rfl
                    · rw [Hid, List.length_append, HLL.out]
                      simp
                      omega
                  case measure => simp [intOf]; omega
                · skip
                  have CP := rpathOf_any (some ⟨g6, o6 + ln, none⟩) (ql - ln) (c12 - ln) (q1.drop ln) w13 (HT13.out.drop ln) (by rw [List.length_drop, HQL.out]) (by omega) (fun z hz => HQ2.out.2.2.1 z (by rw [HQ1.out]; exact List.mem_of_mem_drop hz))
                  obtain ⟨J, hJ⟩ : ∃ J, joinB (q1.drop ln) = J := ⟨_, rfl⟩
                  have HJ : Hid (joinB (q1.drop ln) = J) := hJ
                  rw [hJ] at CP
                  clear hJ
                  go_wp2_with fail
                  refine CP.mono ?_
                  rintro e14 w14 ⟨rfl, b14⟩
                  have hE14 := (b14.block _ (heap_lt HE13.out.1)).trans HE13.out.1
                  obtain ⟨a0, a1, a2, a3, af⟩ := cell4 hE14
                  have af0 := af 0
                  have HRN : Hid (((J, r.2.1, r.2.2.1, r.2.2.2) : RW) = (joinB (q.1.drop ln), q.2.k, q.2.e, q.2.t)) := by
                    rw [Hid, ← HJ.out, ← HRQ.out, HQ1.out]
                    rfl
                  have HO15 : Hid (Rws 29 (w14.setCell ⟨E, 0, none⟩ (.string J)) w11.heap.size (.slice po Lo.length co) Lo ∧ Below w11.heap.size w11 (w14.setCell ⟨E, 0, none⟩ (.string J))) := by
                    refine ⟨HO13.out.1.same (fun kk hk => (Below.heap_setCell _ _ _ kk (by show kk ≠ E; have := HOB.out kk hk; omega)).trans (b14.block kk (World.ownsRow.lt HO13.out.1 kk hk).2)), (HO13.out.2.trans (b14.mono HO13.out.2.size)).setCell HE13.out.2 _⟩
                  have hE15 : (w14.setCell ⟨E, 0, none⟩ (.string J)).heap[E]? = some (.cells #[Value.string J, Value.int IntKind.i64 r.2.1, Value.bool r.2.2.1, Value.string r.2.2.2] 29 (0, 0)) := Go.Joins.block_setCell (i := 0) hE14 _
                  clear b14 CP HO13 HT13 HE13 HOB hE14
                  go_upto_region 19 with fail
                  clear a0 a1 a2 a3 af af0
                  generalize (w14.setCell ⟨E, 0, none⟩ (.string J)) = w15 at *
                  obtain ⟨a0, a1, a2, a3, _⟩ := cell4 hE15
                  obtain ⟨p2, c2', w8, hr, hR8, hF8⟩ := Rws.app (lty := 24) HO15.out.1 infoRROW undLRROW ((J, r.2.1, r.2.2.1, r.2.2.2) : RW) HO15.out.2.size (by have := HLL.out; omega)
                  have HO8 : Hid (Rws 29 w8 w11.heap.size (.slice p2 (Lo ++ [((J, r.2.1, r.2.2.1, r.2.2.2) : RW)]).length c2') (Lo ++ [((J, r.2.1, r.2.2.1, r.2.2.2) : RW)]) ∧ Below w11.heap.size w11 w8) := ⟨by rw [List.length_append]; exact hR8, HO15.out.2.trans hF8.below⟩
                  clear hR8 hF8
                  go_wp2_with (first | (refine wpList_app_is (by rfl) 24 24 (.tmp 83) (.tmp 85) (by rfl) _ _ _ _ (by rfl) (by rfl) hr ?_))
                  go_roundw
                  case rel =>
                    refine ⟨j + 1, Lo ++ [((J, r.2.1, r.2.2.1, r.2.2.2) : RW)], p2, c2', by omega, by omega, by go_num, by simp, ?_, ?_, HO8⟩
                    · rw [Hid, show j + 1 - al = j - al + 1 by omega, List.take_add_one, HQ.out.2.2.2, ← HL.out, HRN.out]
                      rfl
                    · rw [Hid, List.length_append, HLL.out]
                      simp
                      omega
                  case measure => simp [intOf]; omega
            · obtain rfl : j = te := by omega
              have hLK : Lo = rwT [] K := by
                have h1 : (rwT [] K).length = j - al := by rw [← rw_shift N K, List.length_map, HAL.out.2]; have := HTE.out; omega
                rw [HL.out, List.take_of_length_le (by omega)]
              have HLK : Hid (Lo = rwT [] K) := hLK
              obtain ⟨hcn, hcc⟩ := HO.out.1.cap
              have CB := rbuild_any po Lo.length co Lo wr HO.out.1.ris rfl (by rw [hLK]; exact len_tree HKO.out.1) hcc (by rw [hLK]; exact smR_tree HKO.out.1 HKO.out.2.2)
              rw [show bldT Lo = (K, 0, 0) by rw [hLK]; exact bld_tree HKO.out.2.1 HKO.out.1] at CB
              have PB : Hid (RgI w G #[Value.int IntKind.i64 k, Value.bool e, Value.string t, Value.slice x n c] wr) := P11.out.on HO.out.2
              clear hLK hcn hcc HO P11 HS11 HR11 HT11
              go_wp2_with fail
              refine CB.mono ?_
              rintro e15 w15 ⟨⟨v15, fp15, rfl, hV15, hn15⟩, b15⟩
              obtain ⟨x15, c15, rfl⟩ : ∃ xx cc, v15 = .slice xx K.nms.length cc := hV15.shape
              have P15 : Hid (RgI w G #[Value.int IntKind.i64 k, Value.bool e, Value.string t, Value.slice x n c] w15) := PB.out.on b15
              have HV15 : Hid (TrV w15 wr.heap.size K (.slice x15 K.nms.length c15) fp15 ∧ fp15.Nodup ∧ G + 1 < wr.heap.size) := ⟨hV15, hn15, PB.out.2.2.1⟩
              clear hV15 hn15 b15 PB
              have bQ : Below w15.heap.size w15 (w15.alloc (Obj.cells #[Value.int IntKind.i64 K.k, Value.bool K.e, Value.string K.t, Value.slice x15 K.nms.length c15] 32)) := (Below.refl _ _).alloc (Nat.le_refl _) _
              have P16 : Hid (RgI w G #[Value.int IntKind.i64 k, Value.bool e, Value.string t, Value.slice x n c] (w15.alloc (Obj.cells #[Value.int IntKind.i64 K.k, Value.bool K.e, Value.string K.t, Value.slice x15 K.nms.length c15] 32))) := P15.out.on bQ
              have HV16 : Hid (TrV (w15.alloc (Obj.cells #[Value.int IntKind.i64 K.k, Value.bool K.e, Value.string K.t, Value.slice x15 K.nms.length c15] 32)) wr.heap.size K (.slice x15 K.nms.length c15) fp15 ∧ fp15.Nodup ∧ G + 1 < wr.heap.size) := ⟨TrV.same _ _ _ HV15.out.1 (fun b hb => bQ.block b (TrV.lt _ _ _ HV15.out.1 b hb).2), HV15.out.2⟩
              have HQ16 : Hid ((w15.alloc (Obj.cells #[Value.int IntKind.i64 K.k, Value.bool K.e, Value.string K.t, Value.slice x15 K.nms.length c15] 32)).heap[w15.heap.size]? = some (.cells #[Value.int IntKind.i64 K.k, Value.bool K.e, Value.string K.t, Value.slice x15 K.nms.length c15] 32 (0, 0))) := heap_alloc_new _ _
              clear bQ P15 HV15
              go_upto_region 21 with fail
              obtain ⟨g16, h16⟩ : ∃ g16, w15.heap.size = g16 := ⟨_, rfl⟩
              generalize w15.alloc (Obj.cells #[Value.int IntKind.i64 K.k, Value.bool K.e, Value.string K.t, Value.slice x15 K.nms.length c15] 32) = w16 at *
              rw [h16] at HQ16 ⊢
              clear h16 w15
              obtain ⟨a0, a1, a2, a3, _⟩ := cell4 HQ16.out
              obtain ⟨r0, r1, r2, r3, uf⟩ := cell4 P16.out.2.1
              have v0 := uf 0
              have v1 := uf 1
              have v2 := uf 2
              have v3 := uf 3
              clear uf
              go_wp2
              have hq := put4 P16.out.2.1 (Value.int .i64 K.k) (.bool K.e) (.string K.t) (.slice x15 K.nms.length c15)
              have hB : Below w.heap.size w (w16.setCells (G + 1) 0 [Value.int .i64 K.k, .bool K.e, .string K.t, .slice x15 K.nms.length c15]) := belowE_setCells _ _ _ (by rw [HG.out]; omega) (by rw [HG.out]; exact P16.out.2.2.2)
              have hVE := TrV.low (show w.heap.size ≤ wr.heap.size by rw [HG.out]; have := HV16.out.2.2; omega) _ _ _ (TrV.same (w' := w16.setCells (G + 1) 0 [Value.int .i64 K.k, .bool K.e, .string K.t, .slice x15 K.nms.length c15]) _ _ _ HV16.out.1 (fun b hb => heapE_setCells (G + 1) _ _ b (fun hh => by have := (TrV.lt _ _ _ HV16.out.1 b hb).1; have := HV16.out.2.2; omega) w16))
              change bodyPost _ _ _ _ _ (w16.setCells (G + 1) 0 [Value.int .i64 K.k, .bool K.e, .string K.t, .slice x15 K.nms.length c15])
              generalize w16.setCells (G + 1) 0 [Value.int .i64 K.k, .bool K.e, .string K.t, .slice x15 K.nms.length c15] = WE at *
              obtain ⟨z0, z1, z2, z3, _⟩ := cell4 hq
              exact bodyPost_ret (v := .tuple #[.agg #[.int .i64 K.k, .bool K.e, .string K.t, .slice x15 K.nms.length c15], .int .i64 0]) (by simp [results, Tryd.results11, go_sem, z0, z1, z2, z3]) rfl (NdP.ok HRF.out hVE HV16.out.2.1 hB)
      · have HRB : Hid (R = (C4, zT)) := by
          rw [Hid, ← HR.out, get_bad HNM.out (by rw [HN.out, HC4.out]; exact hz4), HN.out, HC4.out]
        have hne : (C4 == 0) = false := by simp [hz4]
        obtain ⟨r0, r1, r2, r3, uf⟩ := cell4 P10.out.2.1
        have v0 := uf 0
        have v1 := uf 1
        have v2 := uf 2
        have v3 := uf 3
        clear uf
        go_wp2
        have hq := put4 P10.out.2.1 (Value.int .i64 0) (.bool false) (.string ⟨#[]⟩) (.slice none 0 0)
        have hB0 : Below w.heap.size w (w10.setCells (G + 1) 0 [Value.int .i64 0, .bool false, .string ⟨#[]⟩, .slice none 0 0]) := belowE_setCells _ _ _ (by rw [HG.out]; omega) (by rw [HG.out]; exact P10.out.2.2.2)
        have hB : Below w.heap.size w (w10.setCells (G + 1) 0 [Value.int .i64 0, .bool false, .string ⟨#[]⟩, .slice none 0 0]) := ⟨hB0.os, hB0.tape, hB0.output, hB0.size, hB0.block⟩
        clear hB0
        change (w10.setCells (G + 1) 0 [Value.int .i64 0, .bool false, .string ⟨#[]⟩, .slice none 0 0]).heap[G + 1]? = _ at hq
        change bodyPost _ _ _ _ _ (w10.setCells (G + 1) 0 [Value.int .i64 0, .bool false, .string ⟨#[]⟩, .slice none 0 0])
        generalize (w10.setCells (G + 1) 0 [Value.int .i64 0, .bool false, .string ⟨#[]⟩, .slice none 0 0]) = WE at *
        obtain ⟨z0, z1, z2, z3, _⟩ := cell4 hq
        exact bodyPost_ret (v := .tuple #[.agg #[Value.int IntKind.i64 0, Value.bool false, Value.string ⟨#[]⟩, Value.slice none 0 0], .int .i64 C4]) (by simp [results, Tryd.results11, go_sem, z0, z1, z2, z3]) rfl (NdP.bad HRB.out hB)
    · have HRB : Hid (R = (C3, zT)) := by
        rw [Hid, ← HR.out]
        unfold getT
        rw [HNM.out, if_pos hz3]
      have hne : (C3 == 0) = false := by simp [hz3]
      obtain ⟨r0, r1, r2, r3, uf⟩ := cell4 P9.out.2.1
      have v0 := uf 0
      have v1 := uf 1
      have v2 := uf 2
      have v3 := uf 3
      clear uf
      go_wp2
      have hq := put4 P9.out.2.1 (Value.int .i64 0) (.bool false) (.string ⟨#[]⟩) (.slice none 0 0)
      have hB0 : Below w.heap.size w (w9.setCells (G + 1) 0 [Value.int .i64 0, .bool false, .string ⟨#[]⟩, .slice none 0 0]) := belowE_setCells _ _ _ (by rw [HG.out]; omega) (by rw [HG.out]; exact P9.out.2.2.2)
      have hB : Below w.heap.size w (w9.setCells (G + 1) 0 [Value.int .i64 0, .bool false, .string ⟨#[]⟩, .slice none 0 0]) := ⟨hB0.os, hB0.tape, hB0.output, hB0.size, hB0.block⟩
      clear hB0
      change (w9.setCells (G + 1) 0 [Value.int .i64 0, .bool false, .string ⟨#[]⟩, .slice none 0 0]).heap[G + 1]? = _ at hq
      change bodyPost _ _ _ _ _ (w9.setCells (G + 1) 0 [Value.int .i64 0, .bool false, .string ⟨#[]⟩, .slice none 0 0])
      generalize (w9.setCells (G + 1) 0 [Value.int .i64 0, .bool false, .string ⟨#[]⟩, .slice none 0 0]) = WE at *
      obtain ⟨z0, z1, z2, z3, _⟩ := cell4 hq
      exact bodyPost_ret (v := .tuple #[.agg #[Value.int IntKind.i64 0, Value.bool false, Value.string ⟨#[]⟩, Value.slice none 0 0], .int .i64 C3]) (by simp [results, Tryd.results11, go_sem, z0, z1, z2, z3]) rfl (NdP.bad HRB.out hB)
  · have HRB : Hid (R = (C1, zT)) := by
      rw [Hid, ← HR.out]
      unfold getT
      have : nmO [T] p = C1 := by
        unfold nmO
        have : ckS [T] = C1 := by rw [ckS, HC1.out, if_pos hz1]
        rw [this, if_pos hz1]
      rw [this, if_pos hz1]
    have hne : (C1 == 0) = false := by simp [hz1]
    have hgg : g8 ≠ G + 1 := by have := HS6.out.2; omega
    obtain ⟨r0, r1, r2, r3, uf⟩ := cell4 P6.out.2.1
    have v0 := uf 0
    have v1 := uf 1
    have v2 := uf 2
    have v3 := uf 3
    clear uf
    go_upto_region 3 with fail
    go_region_held3 (fun W => W.cell? ⟨g8, 2, none⟩ = some (.int .i64 C1)) (first | exact s2 | exact (set4_farG _ hgg _ _ _ _).trans s2) (fail)
    go_wp2
    have hq := put4 P6.out.2.1 (Value.int .i64 0) (.bool false) (.string ⟨#[]⟩) (.slice none 0 0)
    have hB0 : Below w.heap.size w (w6.setCells (G + 1) 0 [Value.int .i64 0, .bool false, .string ⟨#[]⟩, .slice none 0 0]) := belowE_setCells _ _ _ (by rw [HG.out]; omega) (by rw [HG.out]; exact P6.out.2.2.2)
    have hB : Below w.heap.size w (w6.setCells (G + 1) 0 [Value.int .i64 0, .bool false, .string ⟨#[]⟩, .slice none 0 0]).drew := ⟨hB0.os, hB0.tape, hB0.output, hB0.size, hB0.block⟩
    clear hB0
    change (w6.setCells (G + 1) 0 [Value.int .i64 0, .bool false, .string ⟨#[]⟩, .slice none 0 0]).drew.heap[G + 1]? = _ at hq
    change bodyPost _ _ _ _ _ (w6.setCells (G + 1) 0 [Value.int .i64 0, .bool false, .string ⟨#[]⟩, .slice none 0 0]).drew
    generalize (w6.setCells (G + 1) 0 [Value.int .i64 0, .bool false, .string ⟨#[]⟩, .slice none 0 0]).drew = WE at *
    obtain ⟨z0, z1, z2, z3, _⟩ := cell4 hq
    exact bodyPost_ret (v := .tuple #[.agg #[Value.int IntKind.i64 0, Value.bool false, Value.string ⟨#[]⟩, Value.slice none 0 0], .int .i64 C1]) (by simp [results, Tryd.results11, go_sem, z0, z1, z2, z3]) rfl (NdP.bad HRB.out hB)
end Go.Proofs.YtnggbemnblcnaaaDoor
namespace Go.Proofs.YtnggbemnblcnaaaDoor
open Go.RowKit


set_option maxHeartbeats 16000000 in
set_option maxRecDepth 10000 in
theorem rcut_any (m : Nat) (k : Int) (e : Bool) (t : ByteArray) (x : Option Addr) (n c : Nat) (T : Tr) (p : ByteArray) (w : World) (hp : p.size ≤ 1048576) (H : At w m (.agg #[Value.int IntKind.i64 k, Value.bool e, Value.string t, Value.slice x n c]) T) (S : smT T) :
    Calls Tryd.prog 13 #[.agg #[Value.int IntKind.i64 k, Value.bool e, Value.string t, Value.slice x n c], .string p] w (NdP (cutT T p) w) := by
  have HH : Hid (At w m (.agg #[Value.int IntKind.i64 k, Value.bool e, Value.string t, Value.slice x n c]) T ∧ smT T ∧ wfT T) := ⟨H, S, At.wf _ _ _ H⟩
  clear H S
  generalize hR : cutT T p = R
  have HR : Hid (cutT T p = R) := hR
  clear hR
  go_enter Tryd.func13, Tryd.ntmps13
  go_wp2_with fail
  have hs1 : (w.alloc (Obj.cells #[Value.int IntKind.i64 k, Value.bool e, Value.string t, Value.slice x n c] 32)).heap.size = w.heap.size + 1 := World.size_alloc _ _
  have P3 : Hid (RgI w w.heap.size #[Value.int IntKind.i64 k, Value.bool e, Value.string t, Value.slice x n c] ((w.alloc (Obj.cells #[Value.int IntKind.i64 k, Value.bool e, Value.string t, Value.slice x n c] 32)).alloc (Obj.cells #[Value.int IntKind.i64 0, Value.bool false, Value.string ⟨#[]⟩, Value.slice none 0 0] 32))) := by
    refine ⟨?_, ?_, ?_, ((Below.refl _ _).alloc (Nat.le_refl _) _).alloc (by rw [hs1]; omega) _⟩
    · rw [Below.heap_alloc _ _ _ (by rw [hs1]; omega)]; exact heap_alloc_new w _
    · rw [← hs1]; exact heap_alloc_new _ _
    · rw [World.size_alloc, hs1]; omega
  clear hs1
  obtain ⟨G, hG⟩ : ∃ G, w.heap.size = G := ⟨_, rfl⟩
  have HG : Hid (w.heap.size = G) := hG
  rw [hG] at P3 ⊢
  clear hG
  generalize ((w.alloc (Obj.cells #[Value.int IntKind.i64 k, Value.bool e, Value.string t, Value.slice x n c] 32)).alloc (Obj.cells #[Value.int IntKind.i64 0, Value.bool false, Value.string ⟨#[]⟩, Value.slice none 0 0] 32)) = w3 at *
  refine (look_form m _ T w3 (HH.out.1.below (by rw [HG.out]; exact P3.out.2.2.2)) HH.out.2.1).mono ?_
  rintro e5 w5 ⟨⟨x5, n5, c5, b5, p5, rfl, hrows⟩, bl5⟩
  have P5 : Hid (RgI w G #[Value.int IntKind.i64 k, Value.bool e, Value.string t, Value.slice x n c] w5) := P3.out.on bl5
  obtain ⟨C1, hC1⟩ : ∃ C1, (ckT T).2 = C1 := ⟨_, rfl⟩
  have HC1 : Hid ((ckT T).2 = C1) := hC1
  rw [hC1] at hrows ⊢
  have HRW : Hid (C1 = 0 → n5 = (rwT [] T).length ∧ RIs w5 x5 (rwT [] T)) := hrows
  clear hC1 hrows bl5 P3 w3
  have bS : Below w5.heap.size w5 (w5.alloc (Obj.cells #[Value.slice x5 n5 c5, Value.int IntKind.i64 b5, Value.int IntKind.i64 C1, Value.string p5] 77)) := (Below.refl _ _).alloc (Nat.le_refl _) _
  have P6 : Hid (RgI w G #[Value.int IntKind.i64 k, Value.bool e, Value.string t, Value.slice x n c] (w5.alloc (Obj.cells #[Value.slice x5 n5 c5, Value.int IntKind.i64 b5, Value.int IntKind.i64 C1, Value.string p5] 77))) := P5.out.on bS
  have HS6 : Hid ((w5.alloc (Obj.cells #[Value.slice x5 n5 c5, Value.int IntKind.i64 b5, Value.int IntKind.i64 C1, Value.string p5] 77)).heap[w5.heap.size]? = some (.cells #[Value.slice x5 n5 c5, Value.int IntKind.i64 b5, Value.int IntKind.i64 C1, Value.string p5] 77 (0, 0)) ∧ G + 1 < w5.heap.size) := ⟨heap_alloc_new _ _, P5.out.2.2.1⟩
  have HR6 : Hid (C1 = 0 → n5 = (rwT [] T).length ∧ RIs (w5.alloc (Obj.cells #[Value.slice x5 n5 c5, Value.int IntKind.i64 b5, Value.int IntKind.i64 C1, Value.string p5] 77)) x5 (rwT [] T)) := fun h => ⟨(HRW.out h).1, (HRW.out h).2.below bS (Nat.le_refl _)⟩
  clear bS P5 HRW
  go_upto_region 2 with fail
  obtain ⟨g8, h8⟩ : ∃ g8, w5.heap.size = g8 := ⟨_, rfl⟩
  generalize w5.alloc (Obj.cells #[Value.slice x5 n5 c5, Value.int IntKind.i64 b5, Value.int IntKind.i64 C1, Value.string p5] 77) = w6 at *
  rw [h8] at HS6 ⊢
  clear h8 w5
  obtain ⟨s0, s1, s2, s3, _⟩ := cell4 HS6.out.1
  by_cases hz1 : C1 = 0
  · subst hz1
    have HR6' : Hid (n5 = (rwT [] T).length ∧ RIs w6 x5 (rwT [] T)) := HR6.out rfl
    have HOT : Hid ((vT [] 24 T).off = none ∧ ascT T) := ⟨ck_off HC1.out, ckS_asc (l := [T]) (by rw [ckS, if_neg (by rw [HC1.out]; decide)]; rfl) (by simp) HH.out.2.2⟩
    have HNM : Hid (nmO [T] p = (pathF p).1) := by
      rw [Hid]
      unfold nmO
      have : ckS [T] = 0 := by rw [ckS, if_neg (by rw [HC1.out]; decide)]; rfl
      rw [this, if_neg (by decide)]
    clear HR6
    have CS := rsplit_any p w6 (by omega)
    go_wp2_with fail
    refine CS.mono ?_
    rintro e9 w9 ⟨v9, rfl, hs9, bl9⟩
    obtain ⟨y, cy, rfl, hcy, hT9⟩ := hs9.tns
    have P9 : Hid (RgI w G #[Value.int IntKind.i64 k, Value.bool e, Value.string t, Value.slice x n c] w9) := P6.out.on bl9
    have HS9 : Hid (w9.heap[g8]? = some (.cells #[Value.slice x5 n5 c5, Value.int IntKind.i64 b5, Value.int IntKind.i64 0, Value.string p5] 77 (0, 0)) ∧ G + 1 < g8) := ⟨(bl9.block _ (heap_lt HS6.out.1)).trans HS6.out.1, HS6.out.2⟩
    have HR9 : Hid (n5 = (rwT [] T).length ∧ RIs w9 x5 (rwT [] T)) := ⟨HR6'.out.1, HR6'.out.2.below bl9 (Nat.le_refl _)⟩
    have HT9 : Hid (Tns w9 y (pathN p)) := hT9
    clear hs9 hT9 bl9 P6 HS6 HR6' s0 s1 s2 s3 CS
    generalize (pathF p).2 = pf2
    obtain ⟨C3, hC3⟩ : ∃ C3, (pathF p).1 = C3 := ⟨_, rfl⟩
    have HC3 : Hid ((pathF p).1 = C3) := hC3
    rw [hC3] at HNM ⊢
    clear hC3
    have hsh := pathN_short p
    obtain ⟨N, hN⟩ : ∃ N, pathN p = N := ⟨_, rfl⟩
    have HN : Hid (pathN p = N) := hN
    rw [hN] at HT9 hcy hsh ⊢
    clear hN
    obtain ⟨ln, hln⟩ : ∃ ln, N.length = ln := ⟨_, rfl⟩
    have HLN : Hid (N.length = ln) := hln
    rw [hln] at hcy hsh ⊢
    clear hln
    by_cases hz3 : C3 = 0
    · subst hz3
      by_cases hl0 : ln = 0
      · subst hl0
        have HRB : Hid (R = (66, zT)) := by
          rw [Hid, ← HR.out]
          exact cut_root HNM.out (by rw [HN.out]; exact List.length_eq_zero_iff.1 HLN.out)
        obtain ⟨r0, r1, r2, r3, uf⟩ := cell4 P9.out.2.1
        have v0 := uf 0
        have v1 := uf 1
        have v2 := uf 2
        have v3 := uf 3
        clear uf
        go_wp2
        have hq := put4 P9.out.2.1 (Value.int .i64 0) (.bool false) (.string ⟨#[]⟩) (.slice none 0 0)
        have hB0 : Below w.heap.size w (w9.setCells (G + 1) 0 [Value.int .i64 0, .bool false, .string ⟨#[]⟩, .slice none 0 0]) := belowE_setCells _ _ _ (by rw [HG.out]; omega) (by rw [HG.out]; exact P9.out.2.2.2)
        have hB : Below w.heap.size w (w9.setCells (G + 1) 0 [Value.int .i64 0, .bool false, .string ⟨#[]⟩, .slice none 0 0]) := ⟨hB0.os, hB0.tape, hB0.output, hB0.size, hB0.block⟩
        clear hB0
        change (w9.setCells (G + 1) 0 [Value.int .i64 0, .bool false, .string ⟨#[]⟩, .slice none 0 0]).heap[G + 1]? = _ at hq
        change bodyPost _ _ _ _ _ (w9.setCells (G + 1) 0 [Value.int .i64 0, .bool false, .string ⟨#[]⟩, .slice none 0 0])
        generalize (w9.setCells (G + 1) 0 [Value.int .i64 0, .bool false, .string ⟨#[]⟩, .slice none 0 0]) = WE at *
        obtain ⟨z0, z1, z2, z3, _⟩ := cell4 hq
        exact bodyPost_ret (v := .tuple #[.agg #[Value.int IntKind.i64 0, Value.bool false, Value.string ⟨#[]⟩, Value.slice none 0 0], .int .i64 66]) (by simp [results, Tryd.results13, go_sem, z0, z1, z2, z3]) rfl (NdP.bad HRB.out hB)
      · have gl : ((ln : Int) == 0) = false := by simp; omega
        obtain ⟨t0, t1, t2, t3, _⟩ := cell4 HS9.out.1
        have hn5 : n5 ≤ 1048576 := by rw [HR9.out.1]; exact len_tree HOT.out.1
        have HSR : Hid (smR (rwT [] T)) := smR_tree HOT.out.1 HH.out.2.1
        have CW := way_any x5 y n5 c5 ln cy T N w9 HR9.out.2 HT9.out HR9.out.1.symm HLN.out (by omega) HSR.out hcy (by omega) HOT.out.1 HOT.out.2
        go_wp2_with fail
        refine CW.mono ?_
        rintro e10 w10 ⟨rfl, bl10⟩
        have P10 : Hid (RgI w G #[Value.int IntKind.i64 k, Value.bool e, Value.string t, Value.slice x n c] w10) := P9.out.on bl10
        have HS10 : Hid (w10.heap[g8]? = some (.cells #[Value.slice x5 n5 c5, Value.int IntKind.i64 b5, Value.int IntKind.i64 0, Value.string p5] 77 (0, 0)) ∧ G + 1 < g8) := ⟨(bl10.block _ (heap_lt HS9.out.1)).trans HS9.out.1, HS9.out.2⟩
        have HR10 : Hid (n5 = (rwT [] T).length ∧ RIs w10 x5 (rwT [] T)) := ⟨HR9.out.1, HR9.out.2.below bl10 (Nat.le_refl _)⟩
        have HT10 : Hid (Tns w10 y N) := HT9.out.below bl10
        clear bl10 P9 HS9 HR9 HT9 t0 t1 t2 t3 CW
        obtain ⟨C4, hC4⟩ : ∃ C4, wayC T N = C4 := ⟨_, rfl⟩
        have HC4 : Hid (wayC T N = C4) := hC4
        rw [hC4]
        clear hC4
        by_cases hz4 : C4 = 0
        · subst hz4
          obtain ⟨t0, t1, t2, t3, _⟩ := cell4 HS10.out.1
          have CU := under_any x5 y n5 c5 ln cy (rwT [] T) N w10 HR10.out.2 HT10.out HR10.out.1.symm HLN.out (by omega) HSR.out
          go_wp2_with fail
          refine CU.mono ?_
          rintro e11 w11 ⟨⟨fr, tt, rfl, hU⟩, bl11⟩
          have P11 : Hid (RgI w G #[Value.int IntKind.i64 k, Value.bool e, Value.string t, Value.slice x n c] w11) := P10.out.on bl11
          have HS11 : Hid (w11.heap[g8]? = some (.cells #[Value.slice x5 n5 c5, Value.int IntKind.i64 b5, Value.int IntKind.i64 0, Value.string p5] 77 (0, 0)) ∧ G + 1 < g8) := ⟨(bl11.block _ (heap_lt HS10.out.1)).trans HS10.out.1, HS10.out.2⟩
          have HR11 : Hid (n5 = (rwT [] T).length ∧ RIs w11 x5 (rwT [] T)) := ⟨HR10.out.1, HR10.out.2.below bl11 (Nat.le_refl _)⟩
          have HT11 : Hid (Tns w11 y N) := HT10.out.below bl11
          have hUT := hU.tree HOT.out.1 HOT.out.2
          clear bl11 P10 HS10 HR10 HT10 t0 t1 t2 t3 CU
          rcases hUT with ⟨hno, rfl⟩ | ⟨K, A, B, hK, e1, rfl, rfl, hat⟩
          · have HRB : Hid (R = (3, zT)) := by
              rw [Hid, ← HR.out]
              exact cut_none HH.out.2.2 HNM.out (by rw [HN.out]; intro h0; rw [h0] at HLN; exact hl0 HLN.out.symm) (by rw [HN.out]; exact HC4.out) (by rw [HN.out]; exact hno)
            clear hno hU
            obtain ⟨r0, r1, r2, r3, uf⟩ := cell4 P11.out.2.1
            have v0 := uf 0
            have v1 := uf 1
            have v2 := uf 2
            have v3 := uf 3
            clear uf
            go_wp2
            have hq := put4 P11.out.2.1 (Value.int .i64 0) (.bool false) (.string ⟨#[]⟩) (.slice none 0 0)
            have hB0 : Below w.heap.size w (w11.setCells (G + 1) 0 [Value.int .i64 0, .bool false, .string ⟨#[]⟩, .slice none 0 0]) := belowE_setCells _ _ _ (by rw [HG.out]; omega) (by rw [HG.out]; exact P11.out.2.2.2)
            have hB : Below w.heap.size w (w11.setCells (G + 1) 0 [Value.int .i64 0, .bool false, .string ⟨#[]⟩, .slice none 0 0]) := ⟨hB0.os, hB0.tape, hB0.output, hB0.size, hB0.block⟩
            clear hB0
            change (w11.setCells (G + 1) 0 [Value.int .i64 0, .bool false, .string ⟨#[]⟩, .slice none 0 0]).heap[G + 1]? = _ at hq
            change bodyPost _ _ _ _ _ (w11.setCells (G + 1) 0 [Value.int .i64 0, .bool false, .string ⟨#[]⟩, .slice none 0 0])
            generalize (w11.setCells (G + 1) 0 [Value.int .i64 0, .bool false, .string ⟨#[]⟩, .slice none 0 0]) = WE at *
            obtain ⟨z0, z1, z2, z3, _⟩ := cell4 hq
            exact bodyPost_ret (v := .tuple #[.agg #[Value.int IntKind.i64 0, Value.bool false, Value.string ⟨#[]⟩, Value.slice none 0 0], .int .i64 3]) (by simp [results, Tryd.results13, go_sem, z0, z1, z2, z3]) rfl (NdP.bad HRB.out hB)
          · clear hU
            have HK : Hid (lk N T = some K) := hK
            obtain ⟨t0, t1, t2, t3, _⟩ := cell4 HS11.out.1
            have CWT := without_any x5 y n5 c5 ln cy (rwT [] T) N w11 HR11.out.2 HT11.out HR11.out.1.symm HLN.out hn5 HSR.out
            obtain ⟨A', B', _, hRun, hat'⟩ := run_some pathN_ok HOT.out.1 HOT.out.2 hK
            have HRun : Hid (Run pathN N (rwT [] T) A'.length (A'.length + (rnT N K).length)) := hRun
            generalize A.length = al at *
            generalize al + (rnT N K).length = te at *
            clear hK e1 hat hat' hRun
            go_wp2_with fail
            refine CWT.mono ?_
            rintro e12 w12 ⟨⟨v12, Lo, rfl, hRw, hLl, hWt⟩, bl12⟩
            obtain ⟨po, co, rfl⟩ := hRw.shape
            obtain ⟨D, HD⟩ : ∃ D, Hid (R = (0, D) ∧ wfT D ∧ (vT [] 24 D).off = none ∧ Lo = rwT [] D) := by
              rcases hWt with h | ⟨a, cc, hF, hLo⟩
              · exfalso
                have hal : A'.length < (rwT [] T).length := by have := HRun.out.le; have := HRun.out.len; omega
                exact h _ _ (List.getElem?_eq_getElem hal) (HRun.out.mid A'.length _ (Nat.le_refl _) HRun.out.le (List.getElem?_eq_getElem hal))
              · obtain ⟨q1, q2⟩ := hF.run rfl HRun.out
                obtain ⟨D, d1, d2, d3, d4⟩ := cut_some (p := p) (a := a) (c := cc) (K := K) HH.out.2.2 HOT.out.1 HOT.out.2 HNM.out (by rw [HN.out]; intro h0; rw [h0] at HLN; exact hl0 HLN.out.symm) (by rw [HN.out]; exact HC4.out) (by rw [HN.out]; exact HK.out) (by rw [HN.out, q1, q2]; exact HRun.out)
                exact ⟨D, by rw [← HR.out]; exact d1, d2, d3, by rw [hLo]; exact d4⟩
            have HRF : Hid (R = (0, D)) := HD.out.1
            obtain ⟨hcn, hcc⟩ := hRw.cap
            have HSL : Hid (smR Lo) := by
              rw [Hid]
              rcases hWt with h | ⟨a, cc, hF, hLo⟩
              · exfalso
                have hal : A'.length < (rwT [] T).length := by have := HRun.out.le; have := HRun.out.len; omega
                exact h _ _ (List.getElem?_eq_getElem hal) (HRun.out.mid A'.length _ (Nat.le_refl _) HRun.out.le (List.getElem?_eq_getElem hal))
              · intro r hr
                rw [hLo] at hr
                rcases List.mem_append.1 hr with hr | hr
                · exact HSR.out r (List.mem_of_mem_take hr)
                · exact HSR.out r (List.mem_of_mem_drop hr)
            have CB := rbuild_any po Lo.length co Lo w12 hRw.ris rfl (by have := HR11.out.1; omega) hcc HSL.out
            rw [show bldT Lo = (D, 0, 0) by rw [HD.out.2.2.2]; exact bld_tree HD.out.2.1 HD.out.2.2.1] at CB
            have PB : Hid (RgI w G #[Value.int IntKind.i64 k, Value.bool e, Value.string t, Value.slice x n c] w12) := P11.out.on bl12
            clear hcn hcc P11 HS11 HR11 HT11 CWT hRw hWt hLl bl12 t0 t1 t2 t3
            go_wp2_with fail
            refine CB.mono ?_
            rintro e15 w15 ⟨⟨v15, fp15, rfl, hV15, hn15⟩, b15⟩
            obtain ⟨x15, c15, rfl⟩ : ∃ xx cc, v15 = .slice xx D.nms.length cc := hV15.shape
            have P15 : Hid (RgI w G #[Value.int IntKind.i64 k, Value.bool e, Value.string t, Value.slice x n c] w15) := PB.out.on b15
            have HV15 : Hid (TrV w15 w12.heap.size D (.slice x15 D.nms.length c15) fp15 ∧ fp15.Nodup ∧ G + 1 < w12.heap.size) := ⟨hV15, hn15, PB.out.2.2.1⟩
            clear hV15 hn15 b15 PB
            have bQ : Below w15.heap.size w15 (w15.alloc (Obj.cells #[Value.int IntKind.i64 D.k, Value.bool D.e, Value.string D.t, Value.slice x15 D.nms.length c15] 32)) := (Below.refl _ _).alloc (Nat.le_refl _) _
            have P16 : Hid (RgI w G #[Value.int IntKind.i64 k, Value.bool e, Value.string t, Value.slice x n c] (w15.alloc (Obj.cells #[Value.int IntKind.i64 D.k, Value.bool D.e, Value.string D.t, Value.slice x15 D.nms.length c15] 32))) := P15.out.on bQ
            have HV16 : Hid (TrV (w15.alloc (Obj.cells #[Value.int IntKind.i64 D.k, Value.bool D.e, Value.string D.t, Value.slice x15 D.nms.length c15] 32)) w12.heap.size D (.slice x15 D.nms.length c15) fp15 ∧ fp15.Nodup ∧ G + 1 < w12.heap.size) := ⟨TrV.same _ _ _ HV15.out.1 (fun b hb => bQ.block b (TrV.lt _ _ _ HV15.out.1 b hb).2), HV15.out.2⟩
            have HQ16 : Hid ((w15.alloc (Obj.cells #[Value.int IntKind.i64 D.k, Value.bool D.e, Value.string D.t, Value.slice x15 D.nms.length c15] 32)).heap[w15.heap.size]? = some (.cells #[Value.int IntKind.i64 D.k, Value.bool D.e, Value.string D.t, Value.slice x15 D.nms.length c15] 32 (0, 0))) := heap_alloc_new _ _
            clear bQ P15 HV15
            go_upto_region 15 with fail
            obtain ⟨g16, h16⟩ : ∃ g16, w15.heap.size = g16 := ⟨_, rfl⟩
            generalize w15.alloc (Obj.cells #[Value.int IntKind.i64 D.k, Value.bool D.e, Value.string D.t, Value.slice x15 D.nms.length c15] 32) = w16 at *
            rw [h16] at HQ16 ⊢
            clear h16 w15
            obtain ⟨a0, a1, a2, a3, _⟩ := cell4 HQ16.out
            obtain ⟨r0, r1, r2, r3, uf⟩ := cell4 P16.out.2.1
            have v0 := uf 0
            have v1 := uf 1
            have v2 := uf 2
            have v3 := uf 3
            clear uf
            go_wp2
            have hq := put4 P16.out.2.1 (Value.int .i64 D.k) (.bool D.e) (.string D.t) (.slice x15 D.nms.length c15)
            have hB : Below w.heap.size w (w16.setCells (G + 1) 0 [Value.int .i64 D.k, .bool D.e, .string D.t, .slice x15 D.nms.length c15]) := belowE_setCells _ _ _ (by rw [HG.out]; omega) (by rw [HG.out]; exact P16.out.2.2.2)
            have hVE := TrV.low (show w.heap.size ≤ w12.heap.size by rw [HG.out]; have := HV16.out.2.2; omega) _ _ _ (TrV.same (w' := w16.setCells (G + 1) 0 [Value.int .i64 D.k, .bool D.e, .string D.t, .slice x15 D.nms.length c15]) _ _ _ HV16.out.1 (fun b hb => heapE_setCells (G + 1) _ _ b (fun hh => by have := (TrV.lt _ _ _ HV16.out.1 b hb).1; have := HV16.out.2.2; omega) w16))
            change bodyPost _ _ _ _ _ (w16.setCells (G + 1) 0 [Value.int .i64 D.k, .bool D.e, .string D.t, .slice x15 D.nms.length c15])
            generalize w16.setCells (G + 1) 0 [Value.int .i64 D.k, .bool D.e, .string D.t, .slice x15 D.nms.length c15] = WE at *
            obtain ⟨z0, z1, z2, z3, _⟩ := cell4 hq
            exact bodyPost_ret (v := .tuple #[.agg #[.int .i64 D.k, .bool D.e, .string D.t, .slice x15 D.nms.length c15], .int .i64 0]) (by simp [results, Tryd.results13, go_sem, z0, z1, z2, z3]) rfl (NdP.ok HRF.out hVE HV16.out.2.1 hB)
        · have HRB : Hid (R = (C4, zT)) := by
            rw [Hid, ← HR.out, cut_bad HNM.out (by rw [HN.out, HC4.out]; exact hz4), HN.out, HC4.out]
          have hne : (C4 == 0) = false := by simp [hz4]
          obtain ⟨r0, r1, r2, r3, uf⟩ := cell4 P10.out.2.1
          have v0 := uf 0
          have v1 := uf 1
          have v2 := uf 2
          have v3 := uf 3
          clear uf
          go_wp2
          have hq := put4 P10.out.2.1 (Value.int .i64 0) (.bool false) (.string ⟨#[]⟩) (.slice none 0 0)
          have hB0 : Below w.heap.size w (w10.setCells (G + 1) 0 [Value.int .i64 0, .bool false, .string ⟨#[]⟩, .slice none 0 0]) := belowE_setCells _ _ _ (by rw [HG.out]; omega) (by rw [HG.out]; exact P10.out.2.2.2)
          have hB : Below w.heap.size w (w10.setCells (G + 1) 0 [Value.int .i64 0, .bool false, .string ⟨#[]⟩, .slice none 0 0]) := ⟨hB0.os, hB0.tape, hB0.output, hB0.size, hB0.block⟩
          clear hB0
          change (w10.setCells (G + 1) 0 [Value.int .i64 0, .bool false, .string ⟨#[]⟩, .slice none 0 0]).heap[G + 1]? = _ at hq
          change bodyPost _ _ _ _ _ (w10.setCells (G + 1) 0 [Value.int .i64 0, .bool false, .string ⟨#[]⟩, .slice none 0 0])
          generalize (w10.setCells (G + 1) 0 [Value.int .i64 0, .bool false, .string ⟨#[]⟩, .slice none 0 0]) = WE at *
          obtain ⟨z0, z1, z2, z3, _⟩ := cell4 hq
          exact bodyPost_ret (v := .tuple #[.agg #[Value.int IntKind.i64 0, Value.bool false, Value.string ⟨#[]⟩, Value.slice none 0 0], .int .i64 C4]) (by simp [results, Tryd.results13, go_sem, z0, z1, z2, z3]) rfl (NdP.bad HRB.out hB)
    · have HRB : Hid (R = (C3, zT)) := by
        rw [Hid, ← HR.out]
        unfold cutT
        rw [HNM.out, if_pos hz3]
      have hne : (C3 == 0) = false := by simp [hz3]
      obtain ⟨r0, r1, r2, r3, uf⟩ := cell4 P9.out.2.1
      have v0 := uf 0
      have v1 := uf 1
      have v2 := uf 2
      have v3 := uf 3
      clear uf
      go_wp2
      have hq := put4 P9.out.2.1 (Value.int .i64 0) (.bool false) (.string ⟨#[]⟩) (.slice none 0 0)
      have hB0 : Below w.heap.size w (w9.setCells (G + 1) 0 [Value.int .i64 0, .bool false, .string ⟨#[]⟩, .slice none 0 0]) := belowE_setCells _ _ _ (by rw [HG.out]; omega) (by rw [HG.out]; exact P9.out.2.2.2)
      have hB : Below w.heap.size w (w9.setCells (G + 1) 0 [Value.int .i64 0, .bool false, .string ⟨#[]⟩, .slice none 0 0]) := ⟨hB0.os, hB0.tape, hB0.output, hB0.size, hB0.block⟩
      clear hB0
      change (w9.setCells (G + 1) 0 [Value.int .i64 0, .bool false, .string ⟨#[]⟩, .slice none 0 0]).heap[G + 1]? = _ at hq
      change bodyPost _ _ _ _ _ (w9.setCells (G + 1) 0 [Value.int .i64 0, .bool false, .string ⟨#[]⟩, .slice none 0 0])
      generalize (w9.setCells (G + 1) 0 [Value.int .i64 0, .bool false, .string ⟨#[]⟩, .slice none 0 0]) = WE at *
      obtain ⟨z0, z1, z2, z3, _⟩ := cell4 hq
      exact bodyPost_ret (v := .tuple #[.agg #[Value.int IntKind.i64 0, Value.bool false, Value.string ⟨#[]⟩, Value.slice none 0 0], .int .i64 C3]) (by simp [results, Tryd.results13, go_sem, z0, z1, z2, z3]) rfl (NdP.bad HRB.out hB)
  · have HRB : Hid (R = (C1, zT)) := by
      rw [Hid, ← HR.out]
      unfold cutT
      have : nmO [T] p = C1 := by
        unfold nmO
        have : ckS [T] = C1 := by rw [ckS, HC1.out, if_pos hz1]
        rw [this, if_pos hz1]
      rw [this, if_pos hz1]
    have hne : (C1 == 0) = false := by simp [hz1]
    have hgg : g8 ≠ G + 1 := by have := HS6.out.2; omega
    obtain ⟨r0, r1, r2, r3, uf⟩ := cell4 P6.out.2.1
    have v0 := uf 0
    have v1 := uf 1
    have v2 := uf 2
    have v3 := uf 3
    clear uf
    go_upto_region 3 with fail
    go_region_held3 (fun W => W.cell? ⟨g8, 2, none⟩ = some (.int .i64 C1)) (first | exact s2 | exact (set4_farG _ hgg _ _ _ _).trans s2) (fail)
    go_wp2
    have hq := put4 P6.out.2.1 (Value.int .i64 0) (.bool false) (.string ⟨#[]⟩) (.slice none 0 0)
    have hB0 : Below w.heap.size w (w6.setCells (G + 1) 0 [Value.int .i64 0, .bool false, .string ⟨#[]⟩, .slice none 0 0]) := belowE_setCells _ _ _ (by rw [HG.out]; omega) (by rw [HG.out]; exact P6.out.2.2.2)
    have hB : Below w.heap.size w (w6.setCells (G + 1) 0 [Value.int .i64 0, .bool false, .string ⟨#[]⟩, .slice none 0 0]).drew := ⟨hB0.os, hB0.tape, hB0.output, hB0.size, hB0.block⟩
    clear hB0
    change (w6.setCells (G + 1) 0 [Value.int .i64 0, .bool false, .string ⟨#[]⟩, .slice none 0 0]).drew.heap[G + 1]? = _ at hq
    change bodyPost _ _ _ _ _ (w6.setCells (G + 1) 0 [Value.int .i64 0, .bool false, .string ⟨#[]⟩, .slice none 0 0]).drew
    generalize (w6.setCells (G + 1) 0 [Value.int .i64 0, .bool false, .string ⟨#[]⟩, .slice none 0 0]).drew = WE at *
    obtain ⟨z0, z1, z2, z3, _⟩ := cell4 hq
    exact bodyPost_ret (v := .tuple #[.agg #[Value.int IntKind.i64 0, Value.bool false, Value.string ⟨#[]⟩, Value.slice none 0 0], .int .i64 C1]) (by simp [results, Tryd.results13, go_sem, z0, z1, z2, z3]) rfl (NdP.bad HRB.out hB)
end Go.Proofs.YtnggbemnblcnaaaDoor
namespace Go.Proofs.YtnggbemnblcnaaaDoor
open Go.RowKit

theorem getT_off (T : Tr) (p : ByteArray) (_ : wfT T) : (getT T p).2 = zT ∨ (vT [] 24 (getT T p).2).off = none := by
  unfold getT
  by_cases h : nmO [T] p ≠ 0
  · rw [if_pos h]; exact .inl rfl
  · rw [if_neg h]
    by_cases h2 : (rch (pathN p) T).1 ≠ 0
    · rw [if_pos h2]; exact .inl rfl
    · rw [if_neg h2]; exact .inr (rch_off _ (ckS_off (nmO_ck (by omega : nmO [T] p = 0)).1 (by simp)))
theorem cutT_off (T : Tr) (p : ByteArray) (hw : wfT T) : (cutT T p).2 = zT ∨ (vT [] 24 (cutT T p).2).off = none := by
  unfold cutT
  by_cases h : nmO [T] p ≠ 0
  · rw [if_pos h]; exact .inl rfl
  · rw [if_neg h]
    cases (pathN p).reverse with
    | nil => exact .inl rfl
    | cons s r =>
      show (cutN T r.reverse s).2 = zT ∨ (vT [] 24 (cutN T r.reverse s).2).off = none
      unfold cutN
      by_cases h2 : (rchH r.reverse T).1 ≠ 0
      · rw [if_pos h2]; exact .inl rfl
      · rw [if_neg h2]
        cases hf : (rch r.reverse T).2.nms.findIdx? (fun n => decide (n = s)) with
        | none => exact .inl rfl
        | some i =>
          refine .inr (cut_off (wfT_rch _ hw) (ckS_off (nmO_ck (by omega : nmO [T] p = 0)).1 (by simp)) (rchH_zero (by omega)).1 ?_)
          exact (List.findIdx?_eq_some_iff_getElem.1 hf).1
theorem off_ln {V : Tr} (h : V = zT ∨ (vT [] 24 V).off = none) (hw : wfT V) : lnT V := by
  rcases h with rfl | h
  · exact zT_all.1
  · exact lnB_ln (by decide) _ (ck_ln hw h)
/-- The node that came in. -/
def GI1 (w0 : World) (G : Nat) (A : Array Value) (w : World) : Prop := w.heap[G]? = some (.cells A 32 (0, 0)) ∧ G < w.heap.size ∧ Below G w0 w
theorem GI1.on {w0 w w' : World} {G : Nat} {A : Array Value} (h : GI1 w0 G A w) (b : Below w.heap.size w w') : GI1 w0 G A w' := by
  obtain ⟨h1, h6, h7⟩ := h
  exact ⟨(b.block _ h6).trans h1, Nat.lt_of_lt_of_le h6 b.size, h7.trans (b.mono (by omega))⟩

set_option maxHeartbeats 8000000 in
set_option maxRecDepth 10000 in
theorem gets_walk (f : Nat) (k : Int) (e : Bool) (t : ByteArray) (x : Option Addr) (n c : Nat) (T : Tr) (p : ByteArray) (w : World) (hA : At w f (.agg #[Value.int IntKind.i64 k, Value.bool e, Value.string t, Value.slice x n c]) T) (hS : smT T) (hp : p.size ≤ 1048576) :
    Calls Tryd.prog 4 #[.agg #[Value.int IntKind.i64 k, Value.bool e, Value.string t, Value.slice x n c], .string p] w fun en w' => en = .returned (.bool true) ∧ Below w.heap.size w w' := by
  have HH : Hid (At w f (.agg #[Value.int IntKind.i64 k, Value.bool e, Value.string t, Value.slice x n c]) T ∧ smT T ∧ wfT T) := ⟨hA, hS, At.wf _ _ _ hA⟩
  clear hA hS
  go_enter Tryd.func4, Tryd.ntmps4
  go_wp2_with fail
  have P2 : Hid (GI1 w w.heap.size #[Value.int IntKind.i64 k, Value.bool e, Value.string t, Value.slice x n c] (w.alloc (Obj.cells #[Value.int IntKind.i64 k, Value.bool e, Value.string t, Value.slice x n c] 32))) := ⟨heap_alloc_new w _, by rw [World.size_alloc]; omega, (Below.refl _ _).alloc (Nat.le_refl _) _⟩
  obtain ⟨G, hG⟩ : ∃ G, w.heap.size = G := ⟨_, rfl⟩
  have HG : Hid (w.heap.size = G) := hG
  rw [hG] at P2 ⊢
  clear hG
  generalize (w.alloc (Obj.cells #[Value.int IntKind.i64 k, Value.bool e, Value.string t, Value.slice x n c] 32)) = w2 at *
  refine (awake_any w2).mono ?_
  rintro e3 w3 ⟨rfl, b3⟩
  have P3 : Hid (GI1 w G #[Value.int IntKind.i64 k, Value.bool e, Value.string t, Value.slice x n c] w3) := P2.out.on b3
  clear b3 P2
  obtain ⟨R, hR⟩ : ∃ R, getT T p = R := ⟨_, rfl⟩
  have HR : Hid (getT T p = R) := hR
  have bb : Below w.heap.size w w3 := by rw [HG.out]; exact P3.out.2.2
  have CP := get_any f k e t x n c T p w3 hp (HH.out.1.below bb) HH.out.2.1
  rw [hR] at CP
  clear hR bb
  obtain ⟨a0, a1, a2, a3, _⟩ := cell4 P3.out.1
  go_wp2_with fail
  refine CP.mono ?_
  rintro e4a w4a ⟨⟨v4a, fp4a, rfl, hV4a, hn4a⟩, b4a⟩
  obtain ⟨x4a, c4a, rfl⟩ := hV4a.shape
  have P4a : Hid (GI1 w G #[Value.int IntKind.i64 k, Value.bool e, Value.string t, Value.slice x n c] w4a) := P3.out.on b4a
  have HV4a : Hid (TrV w4a w3.heap.size R.2 (.slice x4a R.2.nms.length c4a) fp4a) := hV4a
  have HLN4 : Hid (lnT R.2) := by
    rw [Hid]
    have := getT_off T p
    rw [HR.out] at this
    exact off_ln (this HH.out.2.2) (TrV.wf _ _ _ hV4a)
  clear hV4a hn4a b4a P3 CP a0 a1 a2 a3
  have bQ : Below w4a.heap.size w4a (w4a.alloc (Obj.cells #[Value.int IntKind.i64 R.2.k, Value.bool R.2.e, Value.string R.2.t, Value.slice x4a R.2.nms.length c4a] 32)) := (Below.refl _ _).alloc (Nat.le_refl _) _
  have Q4a : Hid (GI1 w G #[Value.int IntKind.i64 k, Value.bool e, Value.string t, Value.slice x n c] (w4a.alloc (Obj.cells #[Value.int IntKind.i64 R.2.k, Value.bool R.2.e, Value.string R.2.t, Value.slice x4a R.2.nms.length c4a] 32))) := P4a.out.on bQ
  have HW4a : Hid (TrV (w4a.alloc (Obj.cells #[Value.int IntKind.i64 R.2.k, Value.bool R.2.e, Value.string R.2.t, Value.slice x4a R.2.nms.length c4a] 32)) w3.heap.size R.2 (.slice x4a R.2.nms.length c4a) fp4a) := TrV.same _ _ _ HV4a.out (fun b hb => bQ.block b (TrV.lt _ _ _ HV4a.out b hb).2)
  have HQ4a : Hid ((w4a.alloc (Obj.cells #[Value.int IntKind.i64 R.2.k, Value.bool R.2.e, Value.string R.2.t, Value.slice x4a R.2.nms.length c4a] 32)).heap[w4a.heap.size]? = some (.cells #[Value.int IntKind.i64 R.2.k, Value.bool R.2.e, Value.string R.2.t, Value.slice x4a R.2.nms.length c4a] 32 (0, 0))) := heap_alloc_new _ _
  clear bQ P4a HV4a
  go_upto_region 4 with fail
  obtain ⟨g4a, h5⟩ : ∃ g4a, w4a.heap.size = g4a := ⟨_, rfl⟩
  generalize (w4a.alloc (Obj.cells #[Value.int IntKind.i64 R.2.k, Value.bool R.2.e, Value.string R.2.t, Value.slice x4a R.2.nms.length c4a] 32)) = y4a at *
  rw [h5] at HQ4a ⊢
  clear h5
  have bb : Below w.heap.size w y4a := by rw [HG.out]; exact Q4a.out.2.2
  have CR := rget_any f k e t x n c T p y4a hp (HH.out.1.below bb) HH.out.2.1
  rw [HR.out] at CR
  clear bb
  obtain ⟨a0, a1, a2, a3, _⟩ := cell4 Q4a.out.1
  go_wp2_with fail
  refine CR.mono ?_
  rintro e4b w4b ⟨⟨v4b, fp4b, rfl, hV4b, hn4b⟩, b4b⟩
  obtain ⟨x4b, c4b, rfl⟩ := hV4b.shape
  have P4b : Hid (GI1 w G #[Value.int IntKind.i64 k, Value.bool e, Value.string t, Value.slice x n c] w4b) := Q4a.out.on b4b
  have HV4b : Hid (TrV w4b y4a.heap.size R.2 (.slice x4b R.2.nms.length c4b) fp4b) := hV4b
  have HX4a : Hid (TrV w4b w3.heap.size R.2 (.slice x4a R.2.nms.length c4a) fp4a) := TrV.same _ _ _ HW4a.out (fun b hb => b4b.block b (TrV.lt _ _ _ HW4a.out b hb).2)
  have HZ4a : Hid (w4b.heap[g4a]? = some (.cells #[Value.int IntKind.i64 R.2.k, Value.bool R.2.e, Value.string R.2.t, Value.slice x4a R.2.nms.length c4a] 32 (0, 0))) := (b4b.block _ (heap_lt HQ4a.out)).trans HQ4a.out
  clear hV4b hn4b b4b Q4a CR HW4a HQ4a a0 a1 a2 a3
  have bQ : Below w4b.heap.size w4b (w4b.alloc (Obj.cells #[Value.int IntKind.i64 R.2.k, Value.bool R.2.e, Value.string R.2.t, Value.slice x4b R.2.nms.length c4b] 32)) := (Below.refl _ _).alloc (Nat.le_refl _) _
  have Q4b : Hid (GI1 w G #[Value.int IntKind.i64 k, Value.bool e, Value.string t, Value.slice x n c] (w4b.alloc (Obj.cells #[Value.int IntKind.i64 R.2.k, Value.bool R.2.e, Value.string R.2.t, Value.slice x4b R.2.nms.length c4b] 32))) := P4b.out.on bQ
  have HW4b : Hid (TrV (w4b.alloc (Obj.cells #[Value.int IntKind.i64 R.2.k, Value.bool R.2.e, Value.string R.2.t, Value.slice x4b R.2.nms.length c4b] 32)) y4a.heap.size R.2 (.slice x4b R.2.nms.length c4b) fp4b) := TrV.same _ _ _ HV4b.out (fun b hb => bQ.block b (TrV.lt _ _ _ HV4b.out b hb).2)
  have HY4a : Hid (TrV (w4b.alloc (Obj.cells #[Value.int IntKind.i64 R.2.k, Value.bool R.2.e, Value.string R.2.t, Value.slice x4b R.2.nms.length c4b] 32)) w3.heap.size R.2 (.slice x4a R.2.nms.length c4a) fp4a) := TrV.same _ _ _ HX4a.out (fun b hb => bQ.block b (TrV.lt _ _ _ HX4a.out b hb).2)
  have HU4a : Hid ((w4b.alloc (Obj.cells #[Value.int IntKind.i64 R.2.k, Value.bool R.2.e, Value.string R.2.t, Value.slice x4b R.2.nms.length c4b] 32)).heap[g4a]? = some (.cells #[Value.int IntKind.i64 R.2.k, Value.bool R.2.e, Value.string R.2.t, Value.slice x4a R.2.nms.length c4a] 32 (0, 0))) := (bQ.block _ (heap_lt HZ4a.out)).trans HZ4a.out
  have HU4b : Hid ((w4b.alloc (Obj.cells #[Value.int IntKind.i64 R.2.k, Value.bool R.2.e, Value.string R.2.t, Value.slice x4b R.2.nms.length c4b] 32)).heap[w4b.heap.size]? = some (.cells #[Value.int IntKind.i64 R.2.k, Value.bool R.2.e, Value.string R.2.t, Value.slice x4b R.2.nms.length c4b] 32 (0, 0))) := heap_alloc_new _ _
  clear bQ P4b HV4b HX4a HZ4a
  go_upto_region 5 with fail
  obtain ⟨g4b, h7⟩ : ∃ g4b, w4b.heap.size = g4b := ⟨_, rfl⟩
  generalize (w4b.alloc (Obj.cells #[Value.int IntKind.i64 R.2.k, Value.bool R.2.e, Value.string R.2.t, Value.slice x4b R.2.nms.length c4b] 32)) = y4b at *
  rw [h7] at HU4b ⊢
  clear h7
  obtain ⟨fA, hA⟩ := TrV.at R.2 _ _ HY4a.out HLN4.out
  obtain ⟨fB, hB⟩ := TrV.at R.2 _ _ HW4b.out HLN4.out
  have CE := requal_any (fA + fB) _ _ _ _ y4b (hA.upto (by omega)) (hB.upto (by omega))
  obtain ⟨a0, a1, a2, a3, _⟩ := cell4 HU4a.out
  obtain ⟨i0, i1, i2, i3, _⟩ := cell4 HU4b.out
  clear hA hB
  generalize R.1 = rc4 at *
  have hcc : (rc4 == rc4) = true := by simp
  go_wp2_with fail
  refine CE.mono ?_
  rintro e4z w4z ⟨⟨r8, rfl, hr8⟩, b8⟩
  obtain rfl : r8 = true := hr8.2 trivial
  have P4z : Hid (GI1 w G #[Value.int IntKind.i64 k, Value.bool e, Value.string t, Value.slice x n c] w4z) := Q4b.out.on b8
  clear hr8 b8 CE a0 a1 a2 a3 i0 i1 i2 i3 Q4b HW4b HY4a HU4a HU4b hcc
  obtain ⟨Q, hQ⟩ : ∃ Q, cutT T p = Q := ⟨_, rfl⟩
  have HQ : Hid (cutT T p = Q) := hQ
  have bb : Below w.heap.size w w4z := by rw [HG.out]; exact P4z.out.2.2
  have CP := cut_any f k e t x n c T p w4z hp (HH.out.1.below bb) HH.out.2.1
  rw [hQ] at CP
  clear hQ bb
  obtain ⟨a0, a1, a2, a3, _⟩ := cell4 P4z.out.1
  go_wp2_with fail
  refine CP.mono ?_
  rintro e6a w6a ⟨⟨v6a, fp6a, rfl, hV6a, hn6a⟩, b6a⟩
  obtain ⟨x6a, c6a, rfl⟩ := hV6a.shape
  have P6a : Hid (GI1 w G #[Value.int IntKind.i64 k, Value.bool e, Value.string t, Value.slice x n c] w6a) := P4z.out.on b6a
  have HV6a : Hid (TrV w6a w4z.heap.size Q.2 (.slice x6a Q.2.nms.length c6a) fp6a) := hV6a
  have HLN6 : Hid (lnT Q.2) := by
    rw [Hid]
    have := cutT_off T p
    rw [HQ.out] at this
    exact off_ln (this HH.out.2.2) (TrV.wf _ _ _ hV6a)
  clear hV6a hn6a b6a P4z CP a0 a1 a2 a3
  have bQ : Below w6a.heap.size w6a (w6a.alloc (Obj.cells #[Value.int IntKind.i64 Q.2.k, Value.bool Q.2.e, Value.string Q.2.t, Value.slice x6a Q.2.nms.length c6a] 32)) := (Below.refl _ _).alloc (Nat.le_refl _) _
  have Q6a : Hid (GI1 w G #[Value.int IntKind.i64 k, Value.bool e, Value.string t, Value.slice x n c] (w6a.alloc (Obj.cells #[Value.int IntKind.i64 Q.2.k, Value.bool Q.2.e, Value.string Q.2.t, Value.slice x6a Q.2.nms.length c6a] 32))) := P6a.out.on bQ
  have HW6a : Hid (TrV (w6a.alloc (Obj.cells #[Value.int IntKind.i64 Q.2.k, Value.bool Q.2.e, Value.string Q.2.t, Value.slice x6a Q.2.nms.length c6a] 32)) w4z.heap.size Q.2 (.slice x6a Q.2.nms.length c6a) fp6a) := TrV.same _ _ _ HV6a.out (fun b hb => bQ.block b (TrV.lt _ _ _ HV6a.out b hb).2)
  have HQ6a : Hid ((w6a.alloc (Obj.cells #[Value.int IntKind.i64 Q.2.k, Value.bool Q.2.e, Value.string Q.2.t, Value.slice x6a Q.2.nms.length c6a] 32)).heap[w6a.heap.size]? = some (.cells #[Value.int IntKind.i64 Q.2.k, Value.bool Q.2.e, Value.string Q.2.t, Value.slice x6a Q.2.nms.length c6a] 32 (0, 0))) := heap_alloc_new _ _
  clear bQ P6a HV6a
  go_upto_region 8 with fail
  obtain ⟨g6a, h5⟩ : ∃ g6a, w6a.heap.size = g6a := ⟨_, rfl⟩
  generalize (w6a.alloc (Obj.cells #[Value.int IntKind.i64 Q.2.k, Value.bool Q.2.e, Value.string Q.2.t, Value.slice x6a Q.2.nms.length c6a] 32)) = y6a at *
  rw [h5] at HQ6a ⊢
  clear h5
  have bb : Below w.heap.size w y6a := by rw [HG.out]; exact Q6a.out.2.2
  have CR := rcut_any f k e t x n c T p y6a hp (HH.out.1.below bb) HH.out.2.1
  rw [HQ.out] at CR
  clear bb
  obtain ⟨a0, a1, a2, a3, _⟩ := cell4 Q6a.out.1
  go_wp2_with fail
  refine CR.mono ?_
  rintro e6b w6b ⟨⟨v6b, fp6b, rfl, hV6b, hn6b⟩, b6b⟩
  obtain ⟨x6b, c6b, rfl⟩ := hV6b.shape
  have P6b : Hid (GI1 w G #[Value.int IntKind.i64 k, Value.bool e, Value.string t, Value.slice x n c] w6b) := Q6a.out.on b6b
  have HV6b : Hid (TrV w6b y6a.heap.size Q.2 (.slice x6b Q.2.nms.length c6b) fp6b) := hV6b
  have HX6a : Hid (TrV w6b w4z.heap.size Q.2 (.slice x6a Q.2.nms.length c6a) fp6a) := TrV.same _ _ _ HW6a.out (fun b hb => b6b.block b (TrV.lt _ _ _ HW6a.out b hb).2)
  have HZ6a : Hid (w6b.heap[g6a]? = some (.cells #[Value.int IntKind.i64 Q.2.k, Value.bool Q.2.e, Value.string Q.2.t, Value.slice x6a Q.2.nms.length c6a] 32 (0, 0))) := (b6b.block _ (heap_lt HQ6a.out)).trans HQ6a.out
  clear hV6b hn6b b6b Q6a CR HW6a HQ6a a0 a1 a2 a3
  have bQ : Below w6b.heap.size w6b (w6b.alloc (Obj.cells #[Value.int IntKind.i64 Q.2.k, Value.bool Q.2.e, Value.string Q.2.t, Value.slice x6b Q.2.nms.length c6b] 32)) := (Below.refl _ _).alloc (Nat.le_refl _) _
  have Q6b : Hid (GI1 w G #[Value.int IntKind.i64 k, Value.bool e, Value.string t, Value.slice x n c] (w6b.alloc (Obj.cells #[Value.int IntKind.i64 Q.2.k, Value.bool Q.2.e, Value.string Q.2.t, Value.slice x6b Q.2.nms.length c6b] 32))) := P6b.out.on bQ
  have HW6b : Hid (TrV (w6b.alloc (Obj.cells #[Value.int IntKind.i64 Q.2.k, Value.bool Q.2.e, Value.string Q.2.t, Value.slice x6b Q.2.nms.length c6b] 32)) y6a.heap.size Q.2 (.slice x6b Q.2.nms.length c6b) fp6b) := TrV.same _ _ _ HV6b.out (fun b hb => bQ.block b (TrV.lt _ _ _ HV6b.out b hb).2)
  have HY6a : Hid (TrV (w6b.alloc (Obj.cells #[Value.int IntKind.i64 Q.2.k, Value.bool Q.2.e, Value.string Q.2.t, Value.slice x6b Q.2.nms.length c6b] 32)) w4z.heap.size Q.2 (.slice x6a Q.2.nms.length c6a) fp6a) := TrV.same _ _ _ HX6a.out (fun b hb => bQ.block b (TrV.lt _ _ _ HX6a.out b hb).2)
  have HU6a : Hid ((w6b.alloc (Obj.cells #[Value.int IntKind.i64 Q.2.k, Value.bool Q.2.e, Value.string Q.2.t, Value.slice x6b Q.2.nms.length c6b] 32)).heap[g6a]? = some (.cells #[Value.int IntKind.i64 Q.2.k, Value.bool Q.2.e, Value.string Q.2.t, Value.slice x6a Q.2.nms.length c6a] 32 (0, 0))) := (bQ.block _ (heap_lt HZ6a.out)).trans HZ6a.out
  have HU6b : Hid ((w6b.alloc (Obj.cells #[Value.int IntKind.i64 Q.2.k, Value.bool Q.2.e, Value.string Q.2.t, Value.slice x6b Q.2.nms.length c6b] 32)).heap[w6b.heap.size]? = some (.cells #[Value.int IntKind.i64 Q.2.k, Value.bool Q.2.e, Value.string Q.2.t, Value.slice x6b Q.2.nms.length c6b] 32 (0, 0))) := heap_alloc_new _ _
  clear bQ P6b HV6b HX6a HZ6a
  go_upto_region 9 with fail
  obtain ⟨g6b, h7⟩ : ∃ g6b, w6b.heap.size = g6b := ⟨_, rfl⟩
  generalize (w6b.alloc (Obj.cells #[Value.int IntKind.i64 Q.2.k, Value.bool Q.2.e, Value.string Q.2.t, Value.slice x6b Q.2.nms.length c6b] 32)) = y6b at *
  rw [h7] at HU6b ⊢
  clear h7
  obtain ⟨fA, hA⟩ := TrV.at Q.2 _ _ HY6a.out HLN6.out
  obtain ⟨fB, hB⟩ := TrV.at Q.2 _ _ HW6b.out HLN6.out
  have CE := requal_any (fA + fB) _ _ _ _ y6b (hA.upto (by omega)) (hB.upto (by omega))
  obtain ⟨a0, a1, a2, a3, _⟩ := cell4 HU6a.out
  obtain ⟨i0, i1, i2, i3, _⟩ := cell4 HU6b.out
  clear hA hB
  generalize Q.1 = rc6 at *
  have hcc : (rc6 == rc6) = true := by simp
  go_wp2_with fail
  refine CE.mono ?_
  rintro e6z w6z ⟨⟨r8, rfl, hr8⟩, b8⟩
  obtain rfl : r8 = true := hr8.2 trivial
  have P6z : Hid (GI1 w G #[Value.int IntKind.i64 k, Value.bool e, Value.string t, Value.slice x n c] w6z) := Q6b.out.on b8
  clear hr8 b8 CE a0 a1 a2 a3 i0 i1 i2 i3 Q6b HW6b HY6a HU6a HU6b hcc
  go_wp2
  go_ret
  exact ⟨rfl, by rw [HG.out]; exact P6z.out.2.2⟩
end Go.Proofs.YtnggbemnblcnaaaDoor
