/- Gathered: FpB FpW. -/
import Derived.Test.YtgnlkggodchlbabDoorQl
import Derived.Test.YtgnlkggodchlbabDoorQIpI
import Derived.Test.YtgnlkggodchlbabDoorQFpA
/- The fingerprint tells its parts; plain. -/
namespace Go.Proofs.YtgnlkggodchlbabDoor
open Go.RowKit Go.Shelf

theorem dirR_ch2 : ∀ k, k < dirR.size → bt dirR k ≠ 59 ∧ bt dirR k ≠ 44 := by decide +kernel
theorem pr_ch2 {p : ByteArray} (h : prC p = 0) (k : Nat) (hk : k < p.size) : bt p k ≠ 59 ∧ bt p k ≠ 44 := by
  obtain ⟨⟨s1, s2, s3⟩, ⟨h1, h2⟩, l1, l2, l3, l4⟩ := pr_parts h
  by_cases a : k < 13
  · have e := pr_dir h
    have hb : bt p k = bt dirR k := by
      conv => lhs; rw [e]
      rw [bt_append, if_pos (by rw [dirR_size]; exact a)]
    rw [hb]
    exact dirR_ch2 k (by rw [dirR_size]; exact a)
  by_cases b : k < 45
  · have hv := h2 (k - 13) (by omega)
    have hb : bt (pHash p) (k - 13) = bt p k := by
      unfold pHash
      rw [bt_extract p 13 45 (k - 13) (by omega) (by omega), show 13 + (k - 13) = k by omega]
    rw [hb] at hv
    constructor <;> (intro c; rw [c] at hv; exact absurd hv (by decide +kernel))
  by_cases d : k = 45
  · subst d
    rw [s3]
    decide
  · have hs : (pLab p).size = p.size - 46 := by unfold pLab; rw [ByteArray.size_extract]; omega
    have hv := l4 (k - 46) (by omega)
    have hb : bt (pLab p) (k - 46) = bt p k := by
      unfold pLab
      rw [bt_extract p 46 p.size (k - 46) (by omega) (Nat.le_refl _), show 46 + (k - 46) = k by omega]
    rw [hb] at hv
    constructor <;> (intro c; rw [c] at hv; exact absurd hv (by decide +kernel))
/-- Nothing in t is the byte c. -/
def NoC (c : Int) (t : ByteArray) : Prop := ∀ k, k < t.size → bt t k ≠ c
theorem NoC.app {c : Int} {a b : ByteArray} (ha : NoC c a) (hb : NoC c b) : NoC c (a ++ b) := fun k hk => by
  rw [ByteArray.size_append] at hk
  rw [bt_append]
  split
  · rename_i h; exact ha k h
  · exact hb _ (by omega)
theorem bt_uno (c : UInt8) : bt ⟨#[c]⟩ 0 = (c.toNat : Int) := rfl
/-- The first separator tells where the first part ends. -/
theorem sep_first {c : UInt8} {a a' r r' : ByteArray} (ha : NoC c.toNat a) (ha' : NoC c.toNat a') (e : a ++ ((⟨#[c]⟩ : ByteArray) ++ r) = a' ++ ((⟨#[c]⟩ : ByteArray) ++ r')) : a = a' ∧ r = r' := by
  have at1 : ∀ (x y : ByteArray), bt (x ++ ((⟨#[c]⟩ : ByteArray) ++ y)) x.size = (c.toNat : Int) := fun x y => by
    rw [bt_append, if_neg (by omega), Nat.sub_self, bt_append, if_pos (by show 0 < 1; omega)]; exact bt_uno c
  have lt1 : ∀ (x y : ByteArray) k, k < x.size → bt (x ++ ((⟨#[c]⟩ : ByteArray) ++ y)) k = bt x k := fun x y k hk => by rw [bt_append, if_pos hk]
  have hs : a.size = a'.size := by
    rcases Nat.lt_trichotomy a.size a'.size with h | h | h
    · have h1 := at1 a r
      rw [e, lt1 a' r' _ h] at h1
      exact absurd h1 (ha' _ h)
    · exact h
    · have h1 := at1 a' r'
      rw [← e, lt1 a r _ h] at h1
      exact absurd h1 (ha _ h)
  have h1 : a = a' := bytes_ext hs (fun k hk => by rw [← lt1 a r k hk, e, lt1 a' r' k (by omega)])
  subst h1
  refine ⟨rfl, ?_⟩
  have hz : ∀ y : ByteArray, (a ++ ((⟨#[c]⟩ : ByteArray) ++ y)).size = a.size + (1 + y.size) := fun y => by rw [ByteArray.size_append, ByteArray.size_append]; rfl
  have hr : r.size = r'.size := by have h2 := hz r; rw [e, hz r'] at h2; omega
  refine bytes_ext hr (fun k hk => ?_)
  have g : ∀ y : ByteArray, bt (a ++ ((⟨#[c]⟩ : ByteArray) ++ y)) (a.size + (1 + k)) = bt y k := fun y => by
    rw [bt_append, if_neg (by omega), bt_append, if_neg (by show ¬ _ < 1; omega)]
    show bt y (a.size + (1 + k) - a.size - 1) = _
    congr 1; omega
  rw [← g r, e, g r']
/-- The last separator tells where the last part begins. -/
theorem sep_last {c : UInt8} {a a' r r' : ByteArray} (hr : NoC c.toNat r) (hr' : NoC c.toNat r') (e : a ++ (⟨#[c]⟩ : ByteArray) ++ r = a' ++ (⟨#[c]⟩ : ByteArray) ++ r') : a = a' ∧ r = r' := by
  have hz : ∀ x y : ByteArray, (x ++ (⟨#[c]⟩ : ByteArray) ++ y).size = x.size + 1 + y.size := fun x y => by rw [ByteArray.size_append, ByteArray.size_append]; rfl
  have at1 : ∀ (x y : ByteArray), bt (x ++ (⟨#[c]⟩ : ByteArray) ++ y) x.size = (c.toNat : Int) := fun x y => by
    rw [ByteArray.append_assoc, bt_append, if_neg (by omega), Nat.sub_self, bt_append, if_pos (by show 0 < 1; omega)]; exact bt_uno c
  have gt1 : ∀ (x y : ByteArray) k, x.size + 1 ≤ k → bt (x ++ (⟨#[c]⟩ : ByteArray) ++ y) k = bt y (k - (x.size + 1)) := fun x y k hk => by
    have h1 : (x ++ (⟨#[c]⟩ : ByteArray)).size = x.size + 1 := by rw [ByteArray.size_append]; rfl
    rw [bt_append, if_neg (by omega), h1]
  have hsz := congrArg ByteArray.size e
  rw [hz, hz] at hsz
  have hs : a.size = a'.size := by
    rcases Nat.lt_trichotomy a.size a'.size with h | h | h
    · have h1 := at1 a' r'
      rw [← e, gt1 a r _ (by omega)] at h1
      exact absurd h1 (hr _ (by omega))
    · exact h
    · have h1 := at1 a r
      rw [e, gt1 a' r' _ (by omega)] at h1
      exact absurd h1 (hr' _ (by omega))
  have h2 : r = r' := bytes_ext (by omega) (fun k hk => by
    have h3 := gt1 a r (a.size + 1 + k) (by omega)
    rw [e, gt1 a' r' _ (by omega), show a.size + 1 + k - (a'.size + 1) = k from by omega, show a.size + 1 + k - (a.size + 1) = k from by omega] at h3
    exact h3.symm)
  refine ⟨bytes_ext hs (fun k hk => ?_), h2⟩
  have lt1 : ∀ (x y : ByteArray), k < x.size → bt (x ++ (⟨#[c]⟩ : ByteArray) ++ y) k = bt x k := fun x y hk => by rw [ByteArray.append_assoc, bt_append, if_pos hk]
  rw [← lt1 a r hk, e, lt1 a' r' (by omega)]
theorem jnS_inj {f f' : Nat → ByteArray} : ∀ (n n' : Nat), (∀ i, i < n → NoC 44 (f i) ∧ 0 < (f i).size) → (∀ i, i < n' → NoC 44 (f' i) ∧ 0 < (f' i).size) → jnS f cma n = jnS f' cma n' → n = n' ∧ ∀ i, i < n → f i = f' i
  | 0, 0, _, _, _ => ⟨rfl, fun i hi => absurd hi (by omega)⟩
  | 0, n' + 1, _, h', e => by
    exfalso
    have hs := congrArg ByteArray.size e
    have : 0 < (jnS f' cma (n' + 1)).size := by
      cases n' with
      | zero => exact (h' 0 (by omega)).2
      | succ m => rw [jnS_more, app_size, app_size]; have := (h' (m + 1) (by omega)).2; omega
    have h0 : (jnS f cma 0).size = 0 := rfl
    omega
  | n + 1, 0, h, _, e => by
    exfalso
    have hs := congrArg ByteArray.size e
    have : 0 < (jnS f cma (n + 1)).size := by
      cases n with
      | zero => exact (h 0 (by omega)).2
      | succ m => rw [jnS_more, app_size, app_size]; have := (h (m + 1) (by omega)).2; omega
    have h0 : (jnS f' cma 0).size = 0 := rfl
    omega
  | 1, 1, _, _, e => ⟨rfl, fun i hi => by obtain rfl : i = 0 := by omega
                                          exact e⟩
  | 1, n' + 2, h, _, e => by
    exfalso
    rw [jnS_one, jnS_more] at e
    have h1 : bt (jnS f' cma (n' + 1) ++ cma ++ f' (n' + 1)) (jnS f' cma (n' + 1)).size = 44 := by
      rw [ByteArray.append_assoc, bt_append, if_neg (by omega), Nat.sub_self, bt_append, if_pos (by show 0 < 1; omega)]; rfl
    rw [← e] at h1
    have hs := congrArg ByteArray.size e
    rw [app_size, app_size] at hs
    have hc : cma.size = 1 := rfl
    exact (h 0 (by omega)).1 _ (by omega) h1
  | n + 2, 1, _, h', e => by
    exfalso
    rw [jnS_one, jnS_more] at e
    have h1 : bt (jnS f cma (n + 1) ++ cma ++ f (n + 1)) (jnS f cma (n + 1)).size = 44 := by
      rw [ByteArray.append_assoc, bt_append, if_neg (by omega), Nat.sub_self, bt_append, if_pos (by show 0 < 1; omega)]; rfl
    rw [e] at h1
    have hs := congrArg ByteArray.size e
    rw [app_size, app_size] at hs
    have hc : cma.size = 1 := rfl
    exact (h' 0 (by omega)).1 _ (by omega) h1
  | n + 2, n' + 2, h, h', e => by
    rw [jnS_more, jnS_more] at e
    obtain ⟨e1, e2⟩ := sep_last (c := 44) (h (n + 1) (by omega)).1 (h' (n' + 1) (by omega)).1 e
    obtain ⟨e3, e4⟩ := jnS_inj (n + 1) (n' + 1) (fun i hi => h i (by omega)) (fun i hi => h' i (by omega)) e1
    obtain rfl : n = n' := by omega
    refine ⟨rfl, fun i hi => ?_⟩
    by_cases hl : i = n + 1
    · subst hl; exact e2
    · exact e4 i (by omega)
theorem fpT_eq (P : ByteArray) (D : Nat → Int) (z : Int) (fr : Nat → ByteArray) (nr : Nat) : fpT P D z fr nr = (⟨#[49]⟩ : ByteArray) ++ (smc ++ (P ++ (smc ++ ((sha7 ++ b32Str (strFn 32 D)) ++ (smc ++ (itB z ++ (smc ++ jnS fr cma nr))))))) := by
  show ((((⟨#[49]⟩ : ByteArray) ++ smc ++ P) ++ smc ++ (sha7 ++ b32Str (strFn 32 D))) ++ smc ++ itB z) ++ smc ++ jnS fr cma nr = _
  simp only [ByteArray.append_assoc]
theorem vl_59 : vl 59 < 0 := by decide +kernel
theorem fp_tells {P : ByteArray} {D : Nat → Int} {z : Int} {fr : Nat → ByteArray} {nr : Nat} {F : ByteArray} {P' : ByteArray} {D' : Nat → Int} {z' : Int} {fr' : Nat → ByteArray} {nr' : Nat} {F' : ByteArray} (h : fpC P z fr nr F = 0) (h' : fpC P' z' fr' nr' F' = 0)
    (hD : ∀ j, 0 ≤ D j ∧ D j < 256) (hD' : ∀ j, 0 ≤ D' j ∧ D' j < 256) (e : fpT P D z fr nr = fpT P' D' z' fr' nr') :
    P = P' ∧ (∀ j, j < 32 → D j = D' j) ∧ z = z' ∧ nr = nr' ∧ ∀ i, i < nr → fr i = fr' i := by
  obtain ⟨p1, ⟨z1, z2⟩, r1, _, _⟩ := ckC_parts h
  obtain ⟨p1', ⟨z1', z2'⟩, r1', _, _⟩ := ckC_parts h'
  have nH : ∀ E : Nat → Int, NoC 59 (sha7 ++ b32Str (strFn 32 E)) := fun E => NoC.app (by unfold NoC; decide +kernel) (fun k hk c => by
    rw [b32Str_size] at hk
    have h1 := vl_b32 _ k hk
    rw [c] at h1
    have := vl_59
    omega)
  have nZ : ∀ y : Int, 0 ≤ y → NoC 59 (itB y) := fun y hy k hk c => by
    rw [itB_dg hy] at hk c
    have := (dgB_ok y.toNat).2.1 k hk
    omega
  rw [fpT_eq, fpT_eq] at e
  obtain ⟨_, e⟩ := sep_first (c := 59) (by unfold NoC; decide +kernel) (by unfold NoC; decide +kernel) e
  obtain ⟨eP, e⟩ := sep_first (c := 59) (fun k hk => (pr_ch2 p1 k hk).1) (fun k hk => (pr_ch2 p1' k hk).1) e
  obtain ⟨eH, e⟩ := sep_first (c := 59) (nH D) (nH D') e
  obtain ⟨eZ, eJ⟩ := sep_first (c := 59) (nZ z z1) (nZ z' z1') e
  have hb : b32Str (strFn 32 D) = b32Str (strFn 32 D') := by
    have h1 := app_right sha7 (b32Str (strFn 32 D))
    rw [eH, app_right] at h1
    exact h1.symm
  have hb2 : strFn 32 D = strFn 32 D' := by rw [← (b32_back (strFn 32 D)).1, hb, (b32_back (strFn 32 D')).1]
  have ez : z = z' := by
    have a1 := (rz_back (z := z) (szC_yes z1 z2)).2
    have a2 := (rz_back (z := z') (szC_yes z1' z2')).2
    rw [← a1, eZ, a2]
  have ok : ∀ (g : Nat → ByteArray) (m : Nat), crf g m = 0 → ∀ i, i < m → NoC 44 (g i) ∧ 0 < (g i).size := fun g m hg i hi => by
    have hp := ((crf_ok hg).2 i hi).1
    obtain ⟨⟨s1, _, _⟩, _⟩ := pr_parts hp
    exact ⟨fun k hk => (pr_ch2 hp k hk).2, by omega⟩
  obtain ⟨e1, e2⟩ := jnS_inj nr nr' (ok fr nr r1) (ok fr' nr' r1') eJ
  exact ⟨eP, fun j hj => by
    have h1 := bt_strFn 32 D j hj (hD j).1 (hD j).2
    rw [hb2, bt_strFn 32 D' j hj (hD' j).1 (hD' j).2] at h1
    exact h1.symm, ez, e1, e2⟩
theorem fp_bare {P : ByteArray} {z : Int} {fr : Nat → ByteArray} {nr : Nat} {F : ByteArray} (h : fpC P z fr nr F = 0) : fpC P z fr nr ⟨#[]⟩ = 0 := by
  obtain ⟨u, hs⟩ := orC_0 h
  obtain ⟨hP, u⟩ := orC_0 u
  obtain ⟨hz, u⟩ := orC_0 u
  obtain ⟨hr, _⟩ := orC_0 u
  unfold fpC ckC unC
  rw [orC_z (by rw [orC_z hP, orC_z hz, orC_z hr]; exact frC_z rfl)]
  exact hs
/-- Equal parts, equal fingerprints: as the law compares them. -/
def fpE (P : ByteArray) (D : Nat → Int) (z : Int) (fr : Nat → ByteArray) (nr : Nat) (P' : ByteArray) (D' : Nat → Int) (z' : Int) (fr' : Nat → ByteArray) (nr' : Nat) : Bool :=
  (P.toList == P'.toList) && (((List.range 32).all fun i => D i == D' i) && ((z == z') && eqT fr nr fr' nr'))
theorem fp_same {P : ByteArray} {D : Nat → Int} {z : Int} {fr : Nat → ByteArray} {nr : Nat} {F : ByteArray} {P' : ByteArray} {D' : Nat → Int} {z' : Int} {fr' : Nat → ByteArray} {nr' : Nat} {F' : ByteArray} (h : fpC P z fr nr F = 0) (h' : fpC P' z' fr' nr' F' = 0)
    (hD : ∀ j, 0 ≤ D j ∧ D j < 256) (hD' : ∀ j, 0 ≤ D' j ∧ D' j < 256) : ((fpT P D z fr nr).toList == (fpT P' D' z' fr' nr').toList) = fpE P D z fr nr P' D' z' fr' nr' := by
  rw [Bool.eq_iff_iff]
  unfold fpE
  rw [beq_iff_eq, Bool.and_eq_true, Bool.and_eq_true, Bool.and_eq_true, beq_iff_eq, beq_iff_eq, List.all_eq_true]
  constructor
  · intro e
    obtain ⟨a, b, c, d, f⟩ := fp_tells h h' hD hD' (by rw [← Lib.mk_data (fpT P D z fr nr), ← Lib.mk_data (fpT P' D' z' fr' nr'), ← Lib.toList_data, ← Lib.toList_data, e])
    subst d
    exact ⟨by rw [a], fun i hi => by rw [beq_iff_eq]; exact b i (List.mem_range.1 hi), c, eqT_all f⟩
  · rintro ⟨a, b, c, d⟩
    have d' := of_decide_eq_true d
    obtain ⟨d1, d2⟩ := d'
    subst d1
    have eP : P = P' := by rw [← Lib.mk_data P, ← Lib.mk_data P', ← Lib.toList_data, ← Lib.toList_data, a]
    subst eP
    subst c
    have eD : strFn 32 D = strFn 32 D' := strFn_congr (fun j hj => by have := b j (List.mem_range.2 hj); rw [beq_iff_eq] at this; exact this)
    have eJ : ∀ m, m ≤ nr → jnS fr cma m = jnS fr' cma m := fun m => by
      induction m with
      | zero => intro _; rfl
      | succ m ih =>
        intro hm
        cases m with
        | zero => exact d2 0 (by omega)
        | succ m => rw [jnS_more, jnS_more, ih (by omega), d2 (m + 1) (by omega)]
    rw [fpT_eq, fpT_eq, eD, eJ nr (Nat.le_refl _)]

end Go.Proofs.YtgnlkggodchlbabDoor
/- The law InfoMarks walked. -/
namespace Go.Proofs.YtgnlkggodchlbabDoor
open Go.RowKit Go.Shelf

theorem Inf.setAll {w : World} {g : Nat} {P P' : ByteArray} {D D' : Nat → Int} {z z' : Int} {vr vr' : Value} {F F' : ByteArray} {vs vs' : Value} (h : Inf w g P D z vr F vs) : Inf (w.setCells g 0 (infL P' D' z' vr' F' vs')) g P' D' z' vr' F' vs' := by
  have R := World.rangeAt_setCells_same w g 0 (infL P' D' z' vr' F' vs') (by rw [infL_len]; exact h.there37)
  have R' : ∀ j v, (infL P' D' z' vr' F' vs')[j]? = some v → (w.setCells g 0 (infL P' D' z' vr' F' vs')).cell? ⟨g, j, none⟩ = some v := fun j v hv => by have := R j v hv; rw [Nat.zero_add] at this; exact this
  exact ⟨R' 0 _ rfl, fun j hj => R' (1 + j) _ (infL_dig _ _ _ _ _ _ j hj), R' 33 _ (infL_tail _ _ _ _ _ _ 0), R' 34 _ (infL_tail _ _ _ _ _ _ 1), R' 35 _ (infL_tail _ _ _ _ _ _ 2), R' 36 _ (infL_tail _ _ _ _ _ _ 3), fun j hj => by rw [World.frozen?_setCells]; exact h.free j hj⟩
theorem wpList_store_infI {ops : Array Oper} {rest : List Oper} {o : Oper} {a : Act} {w : World} {Q : Exit → Act → World → Prop} {g : Nat} {P P' : ByteArray} {D D' : Nat → Int} {z z' : Int} {vr vr' : Value} {F F' : ByteArray} {vs vs' : Value} (hgd : o.guard = none) (x y : Operand) (ho : o.op = .store 26 x y)
    (hx : a.eval x = .pointer (some ⟨g, 0, none⟩)) (hy : a.eval y = .agg (infC P' D' z' vr' F' vs')) (h : Inf w g P D z vr F vs) (h1 : vr'.oneCell' = true) (h2 : vs'.oneCell' = true) (hdst : o.dst = none)
    (hK : ∀ W, Inf W g P' D' z' vr' F' vs' → Upd w W g → wpList Tryd.prog ops Q rest a W) : wpList Tryd.prog ops Q (o :: rest) a w := by
  refine wpList_store_mid hgd 26 x y ho g 0 (infC P' D' z' vr' F' vs') hx hy (by rw [infC_size]; exact h.there37) (by rw [infC_size]; exact szINF) (inf_one _ _ _ _ _ _ h1 h2) ?_
  rw [hdst]
  obtain ⟨s1, s2, s3, s4, s5⟩ := setCells_only g (infL P' D' z' vr' F' vs') 0 w
  exact hK _ h.setAll ⟨s3, s4, s5, s1, fun i _ hne => s2 i hne⟩

set_option maxRecDepth 100000 in
set_option maxHeartbeats 4000000 in
theorem imark_walk (P : ByteArray) (D : Nat → Int) (z : Int) (F : ByteArray) (xr : Option Addr) (nr cr : Nat) (fr : Nat → ByteArray) (xs : Option Addr) (ns cz : Nat) (fs : Nat → ByteArray)
    (P' : ByteArray) (D' : Nat → Int) (z' : Int) (F' : ByteArray) (xr' : Option Addr) (nr' cr' : Nat) (fr' : Nat → ByteArray) (xs' : Option Addr) (ns' cz' : Nat) (fs' : Nat → ByteArray) (w : World)
    (hr : SIs w xr nr fr) (_hs : SIs w xs ns fs) (hnc : nr ≤ cr ∧ ns ≤ cz) (hm : nr ≤ 1048576 ∧ ns ≤ 1048576) (_hsz : ∀ i, i < ns → (fs i).size ≤ 1048576) (_hrz : ∀ i, i < nr → (fr i).size ≤ 1048576) (hD : ∀ j, 0 ≤ D j ∧ D j < 256) (_hPz : P.size ≤ 1048576) (_hFz : F.size ≤ 1048576)
    (hr' : SIs w xr' nr' fr') (_hs' : SIs w xs' ns' fs') (hnc' : nr' ≤ cr' ∧ ns' ≤ cz') (hm' : nr' ≤ 1048576 ∧ ns' ≤ 1048576) (_hsz' : ∀ i, i < ns' → (fs' i).size ≤ 1048576) (_hrz' : ∀ i, i < nr' → (fr' i).size ≤ 1048576) (hD' : ∀ j, 0 ≤ D' j ∧ D' j < 256) (_hPz' : P'.size ≤ 1048576) (_hFz' : F'.size ≤ 1048576) (hT : PT w) :
    Calls Tryd.prog 3 #[.agg (infC P D z (.slice xr nr cr) F (.slice xs ns cz)), .agg (infC P' D' z' (.slice xr' nr' cr') F' (.slice xs' ns' cz'))] w fun e w' => e = .returned (.bool true) ∧ Below w.heap.size w w' := by
  have I0 : Inf ((w.alloc (.cells (infC P D z (.slice xr nr cr) F (.slice xs ns cz)) 26)).alloc (.cells (infC P' D' z' (.slice xr' nr' cr') F' (.slice xs' ns' cz')) 26)) w.heap.size P D z (.slice xr nr cr) F (.slice xs ns cz) := (Inf.box _ _ _ _ _ _ _ _).same (Below.heap_alloc _ _ _ (by rw [World.size_alloc]; omega))
  have J0 : Inf ((w.alloc (.cells (infC P D z (.slice xr nr cr) F (.slice xs ns cz)) 26)).alloc (.cells (infC P' D' z' (.slice xr' nr' cr') F' (.slice xs' ns' cz')) 26)) (w.heap.size + 1) P' D' z' (.slice xr' nr' cr') F' (.slice xs' ns' cz') := by
    have := Inf.box (w.alloc (.cells (infC P D z (.slice xr nr cr) F (.slice xs ns cz)) 26)) 26 P' D' z' (.slice xr' nr' cr') F' (.slice xs' ns' cz')
    rw [World.size_alloc] at this
    exact this
  have B0 : Below w.heap.size w ((w.alloc (.cells (infC P D z (.slice xr nr cr) F (.slice xs ns cz)) 26)).alloc (.cells (infC P' D' z' (.slice xr' nr' cr') F' (.slice xs' ns' cz')) 26)) := ((Below.refl _ _).alloc (Nat.le_refl _) _).alloc (by rw [World.size_alloc]; omega) _
  have CA := fun W (b : Below w.heap.size w W) => iaw_any W (hT.below b)
  have CF1 := fun W (b : Below w.heap.size w W) => fing_any P D z F xr nr cr fr xs ns cz W (hr.below b (Nat.le_refl _)) hnc.1 (hT.below b)
  have CF2 := fun W (b : Below w.heap.size w W) => fing_any P D z ⟨#[]⟩ xr nr cr fr none 0 0 W (hr.below b (Nat.le_refl _)) hnc.1 (hT.below b)
  have CF3 := fun W (b : Below w.heap.size w W) => fing_any P' D' z' F' xr' nr' cr' fr' xs' ns' cz' W (hr'.below b (Nat.le_refl _)) hnc'.1 (hT.below b)
  have CX := fun W (b : Below w.heap.size w W) => texts_any xr xr' nr cr nr' cr' fr fr' W (hr.below b (Nat.le_refl _)) (hr'.below b (Nat.le_refl _)) (by omega) (by omega)
  have heq : ∀ w, (Op.equalIn 10000 23 (.agg (cs .u8 32 D)) (.agg (cs .u8 32 D'))).run Tryd.prog w = .ok ((List.range 32).all fun i => D i == D' i) w := fun w => by
    obtain ⟨i, hi⟩ := Option.isSome_iff_exists.1 (show (Tryd.prog.info? 5).isSome = true by kernel_rfl)
    exact run_equalIn_cs w 9998 23 5 .u8 .u8 32 D D' undDIG hi (by kernel_rfl) (by kernel_rfl)
  have HB : Hid (fpC P z fr nr F = 0 → fpC P z fr nr ⟨#[]⟩ = 0) := fp_bare
  have HS : Hid (fpC P z fr nr F = 0 → fpC P' z' fr' nr' F' = 0 → ((fpT P D z fr nr).toList == (fpT P' D' z' fr' nr').toList) = ((P.toList == P'.toList) && (((List.range 32).all fun i => D i == D' i) && ((z == z') && eqT fr nr fr' nr')))) := fun a b => fp_same a b hD hD'
  generalize fpC P z fr nr F = c1 at CF1 HB HS
  generalize fpC P z fr nr ⟨#[]⟩ = c2 at CF2 HB
  generalize fpC P' z' fr' nr' F' = c3 at CF3 HS
  generalize fpT P D z fr nr = T1 at CF1 CF2 HS
  generalize fpT P' D' z' fr' nr' = T3 at CF3 HS
  generalize ((List.range 32).all fun i => D i == D' i) = q2 at heq HS
  generalize eqT fr nr fr' nr' = q4 at CX HS
  clear hr hr' hnc hnc' hm hm' hD hD' hT _hs _hs' _hsz _hsz' _hrz _hrz' _hPz _hPz' _hFz _hFz'
  go_enter Tryd.func3, Tryd.ntmps3
  go_wp2_with fail
  generalize ((w.alloc (.cells (infC P D z (.slice xr nr cr) F (.slice xs ns cz)) 26)).alloc (.cells (infC P' D' z' (.slice xr' nr' cr') F' (.slice xs' ns' cz')) 26)) = w0 at I0 J0 B0 ⊢
  refine (CA w0 B0).mono ?_
  rintro e w1 ⟨rfl, b1⟩
  have I1 := I0.below b1 I0.lt
  have J1 : Hid (Inf w1 (w.heap.size + 1) P' D' z' (.slice xr' nr' cr') F' (.slice xs' ns' cz')) := J0.below b1 J0.lt
  have B1 : Hid (Below w.heap.size w w1) := B0.trans (b1.mono B0.size)
  clear I0 J0 B0 b1 CA
  go_wp2_with (refine wpList_load_infG (by rfl) (.tmp 2) (by rfl) (by rfl) I1 ?_)
  refine (CF1 w1 B1.out).mono ?_
  rintro e w2 ⟨rfl, b2⟩
  have I2 := I1.below b2 I1.lt
  have J2 : Hid (Inf w2 (w.heap.size + 1) P' D' z' (.slice xr' nr' cr') F' (.slice xs' ns' cz')) := J1.out.below b2 J1.out.lt
  have B2 : Hid (Below w.heap.size w w2) := B1.out.trans (b2.mono B1.out.size)
  have hl2 : Hid (w.heap.size + 1 < w2.heap.size) := J2.out.lt
  have K2 : Inf (w2.alloc (.cells (infC ⟨#[]⟩ (fun _ => 0) 0 (.slice none 0 0) ⟨#[]⟩ (.slice none 0 0)) 26)) w2.heap.size ⟨#[]⟩ (fun _ => 0) 0 (.slice none 0 0) ⟨#[]⟩ (.slice none 0 0) := Inf.box _ _ _ _ _ _ _ _
  clear I1 J1 B1 b2 CF1
  -- @1
  go_wp2_with (first | (refine wpList_load_infG (by rfl) (.tmp 2) (by rfl) (by rfl) I2 ?_) | (refine wpList_store_infI (by rfl) (.tmp 7) (.tmp 20) (by rfl) (by rfl) (by rfl) K2 rfl rfl (by rfl) ?_; intro W3 K3 U3; refine Hid.out ?_))
  unfold Hid
  have I3 : Inf W3 w.heap.size P D z (.slice xr nr cr) F (.slice xs ns cz) := I2.same ((U3.block _ (by rw [World.size_alloc]; have := hl2.out; omega) (by have := hl2.out; omega)).trans (Below.heap_alloc _ _ _ I2.lt))
  have J3 : Inf W3 (w.heap.size + 1) P' D' z' (.slice xr' nr' cr') F' (.slice xs' ns' cz') := J2.out.same ((U3.block _ (by rw [World.size_alloc]; have := hl2.out; omega) (by have := hl2.out; omega)).trans (Below.heap_alloc _ _ _ J2.out.lt))
  have B3 : Below w.heap.size w W3 := U3.below (B2.out.alloc B2.out.size _) (by have := hl2.out; omega) (by rw [World.size_alloc]; have := hl2.out; omega)
  have K4 : Inf ((W3.setCell ⟨w2.heap.size, 36, none⟩ (.slice none 0 0)).setCell ⟨w2.heap.size, 35, none⟩ (.string ⟨#[]⟩)) w2.heap.size P D z (.slice xr nr cr) ⟨#[]⟩ (.slice none 0 0) := (K3.setSigns _).setFrom _
  have o1 : ∀ g, g ≠ w2.heap.size → ((W3.setCell ⟨w2.heap.size, 36, none⟩ (.slice none 0 0)).setCell ⟨w2.heap.size, 35, none⟩ (.string ⟨#[]⟩)).heap[g]? = W3.heap[g]? := fun g hg => (Below.heap_setCell _ ⟨w2.heap.size, 35, none⟩ _ g hg).trans (Below.heap_setCell _ ⟨w2.heap.size, 36, none⟩ _ g hg)
  have I4 : Hid (Inf ((W3.setCell ⟨w2.heap.size, 36, none⟩ (.slice none 0 0)).setCell ⟨w2.heap.size, 35, none⟩ (.string ⟨#[]⟩)) w.heap.size P D z (.slice xr nr cr) F (.slice xs ns cz)) := I3.same (o1 _ (by have := hl2.out; omega))
  have J4 : Hid (Inf ((W3.setCell ⟨w2.heap.size, 36, none⟩ (.slice none 0 0)).setCell ⟨w2.heap.size, 35, none⟩ (.string ⟨#[]⟩)) (w.heap.size + 1) P' D' z' (.slice xr' nr' cr') F' (.slice xs' ns' cz')) := J3.same (o1 _ (by have := hl2.out; omega))
  have B4 : Hid (Below w.heap.size w ((W3.setCell ⟨w2.heap.size, 36, none⟩ (.slice none 0 0)).setCell ⟨w2.heap.size, 35, none⟩ (.string ⟨#[]⟩))) := (B3.setCell (p := ⟨w2.heap.size, 36, none⟩) (by show _ ≤ w2.heap.size; have := hl2.out; omega) _).setCell (p := ⟨w2.heap.size, 35, none⟩) (by show _ ≤ w2.heap.size; have := hl2.out; omega) _
  have c36 := K3.signs
  have f36 := K3.free 36 (by omega)
  have c35 := K3.from_
  have f35 := K3.free 35 (by omega)
  clear I3 J3 B3 K2 U3 I2 J2 B2 o1 K3
  go_wp2_with (refine wpList_load_infG (by rfl) (.tmp 7) (by rfl) (by rfl) K4 ?_; refine Hid.out ?_)
  unfold Hid
  generalize (W3.setCell ⟨w2.heap.size, 36, none⟩ (.slice none 0 0)).setCell ⟨w2.heap.size, 35, none⟩ (.string ⟨#[]⟩) = W4 at I4 J4 B4 K4 ⊢
  clear c36 f36 c35 f35 K4 hl2
  go_wp2_with fail
  refine (CF2 W4 B4.out).mono ?_
  rintro e w5 ⟨rfl, b5⟩
  have I5 : Hid (Inf w5 w.heap.size P D z (.slice xr nr cr) F (.slice xs ns cz)) := I4.out.below b5 I4.out.lt
  have J5 : Inf w5 (w.heap.size + 1) P' D' z' (.slice xr' nr' cr') F' (.slice xs' ns' cz') := J4.out.below b5 J4.out.lt
  have B5 : Hid (Below w.heap.size w w5) := B4.out.trans (b5.mono B4.out.size)
  clear I4 J4 B4 b5 CF2
  -- @2
  by_cases hc1 : c1 = 0
  · subst hc1
    have hc2 := HB.out (by first | rfl | trivial)
    subst hc2
    rw [prS_z rfl]
    have eTT0 : (T1.toList != T1.toList) = false := by simp
    have eT0 : (T1.toList == T1.toList) = true := by simp
    go_wp2_with (refine wpList_load_infG (by rfl) (.tmp 3) (by rfl) (by rfl) J5 ?_)
    refine (CF3 w5 B5.out).mono ?_
    rintro e w6 ⟨rfl, b6⟩
    have I6 := I5.out.below b6 I5.out.lt
    have J6 := J5.below b6 J5.lt
    have B6 : Hid (Below w.heap.size w w6) := B5.out.trans (b6.mono B5.out.size)
    clear I5 J5 B5 b6 CF3 eTT0 eT0
    by_cases hc3 : c3 = 0
    · subst hc3
      have HE : Hid ((T1.toList == T3.toList) = ((P.toList == P'.toList) && (q2 && ((z == z') && q4)))) := HS.out (by first | rfl | trivial) (by first | rfl | trivial)
      rw [prS_z rfl]
      clear HS HB
      have p1 := I6.path
      have p2 := I6.size
      have p3 := I6.refs
      have q1' := J6.path
      have q2' := J6.size
      have q3' := J6.refs
      have R1 := I6.digRange
      have R2 := J6.digRange
      cases e1 : (P.toList == P'.toList)
      · rw [e1] at HE
        have eTT : (T1.toList == T3.toList) = false := HE.out
        clear HE
        go_wp2_with fail
        go_ret
        exact ⟨rfl, B6.out⟩
      · rw [e1] at HE
        cases q2
        · have eTT : (T1.toList == T3.toList) = false := HE.out
          clear HE
          go_wp2_with (first
            | (refine wpList_load_midG (by rfl) 23 (.tmp 64) (by rfl) w.heap.size 1 (by rfl) (cs .u8 32 D).toList (.array 32 5) R1 undDIG rfl (by rw [szD32, Array.length_toList, cs_size]) ?_)
            | (refine wpList_load_midG (by rfl) 23 (.tmp 66) (by rfl) (w.heap.size + 1) 1 (by rfl) (cs .u8 32 D').toList (.array 32 5) R2 undDIG rfl (by rw [szD32, Array.length_toList, cs_size]) ?_))
          go_ret
          exact ⟨rfl, B6.out⟩
        · cases e3 : (z == z')
          · rw [e3] at HE
            have eTT : (T1.toList == T3.toList) = false := HE.out
            clear HE
            go_wp2_with (first
              | (refine wpList_load_midG (by rfl) 23 (.tmp 64) (by rfl) w.heap.size 1 (by rfl) (cs .u8 32 D).toList (.array 32 5) R1 undDIG rfl (by rw [szD32, Array.length_toList, cs_size]) ?_)
              | (refine wpList_load_midG (by rfl) 23 (.tmp 66) (by rfl) (w.heap.size + 1) 1 (by rfl) (cs .u8 32 D').toList (.array 32 5) R2 undDIG rfl (by rw [szD32, Array.length_toList, cs_size]) ?_))
            go_ret
            exact ⟨rfl, B6.out⟩
          · rw [e3] at HE
            have eTT : (T1.toList == T3.toList) = q4 := HE.out
            clear HE
            go_wp2_with (first
              | (refine wpList_load_midG (by rfl) 23 (.tmp 64) (by rfl) w.heap.size 1 (by rfl) (cs .u8 32 D).toList (.array 32 5) R1 undDIG rfl (by rw [szD32, Array.length_toList, cs_size]) ?_)
              | (refine wpList_load_midG (by rfl) 23 (.tmp 66) (by rfl) (w.heap.size + 1) 1 (by rfl) (cs .u8 32 D').toList (.array 32 5) R2 undDIG rfl (by rw [szD32, Array.length_toList, cs_size]) ?_))
            refine (CX _ B6.out).mono ?_
            rintro e w7 ⟨rfl, b7⟩
            have B7 : Hid (Below w.heap.size w w7) := B6.out.trans (b7.mono B6.out.size)
            clear b7 CX
            cases q4
            all_goals
              go_wp2
              go_ret
              exact ⟨rfl, B7.out⟩
    · have hc3' : (c3 != 0) = true := by rw [bne_iff_ne]; exact hc3
      clear HS HB
      go_wp2
      go_ret
      exact ⟨rfl, B6.out⟩
  · rw [prS_n hc1, show emp = (⟨#[]⟩ : ByteArray) from rfl]
    have hc1' : (c1 != 0) = true := by rw [bne_iff_ne]; exact hc1
    have hc1b : (c1 == 0) = false := by rw [beq_eq_false_iff_ne]; exact hc1
    clear HS HB
    -- @3
    go_wp2_with (refine wpList_load_infG (by rfl) (.tmp 3) (by rfl) (by rfl) J5 ?_)
    refine (CF3 w5 B5.out).mono ?_
    rintro e w6 ⟨rfl, b6⟩
    have B6 : Hid (Below w.heap.size w w6) := B5.out.trans (b6.mono B5.out.size)
    clear b6 CF3 I5 J5 B5
    go_wp2
    go_ret
    exact ⟨rfl, B6.out⟩
end Go.Proofs.YtgnlkggodchlbabDoor
