/- Gathered: IpJ IsW. -/
import Derived.Test.YtgnlkggodchlbaaDoorQo
/- A printed info cut short; plain. -/
namespace Go.Proofs.YtgnlkggodchlbaaDoor
open Go.RowKit Go.Shelf

/-- Lines, each with its end. -/
def jnL : List ByteArray → ByteArray
  | [] => ⟨#[]⟩
  | x :: r => x ++ nl ++ jnL r
/-- How many ends of lines the first k bytes have. -/
def cnl (t : ByteArray) : Nat → Nat
  | 0 => 0
  | k + 1 => cnl t k + (if bt t k = 10 then 1 else 0)
theorem cnl_congr {s t : ByteArray} : ∀ (k : Nat), (∀ j, j < k → bt s j = bt t j) → cnl s k = cnl t k
  | 0, _ => rfl
  | k + 1, h => by rw [cnl, cnl, cnl_congr k (fun j hj => h j (by omega)), h k (by omega)]
theorem cnl_no {t : ByteArray} : ∀ (k : Nat), (∀ j, j < k → bt t j ≠ 10) → cnl t k = 0
  | 0, _ => rfl
  | k + 1, h => by rw [cnl, cnl_no k (fun j hj => h j (by omega)), if_neg (h k (by omega))]
theorem cnl_left (a b : ByteArray) (k : Nat) (h : k ≤ a.size) : cnl (a ++ b) k = cnl a k := cnl_congr k (fun j hj => by rw [bt_append, if_pos (by omega)])
theorem cnl_right (a b : ByteArray) : ∀ (k : Nat), cnl (a ++ b) (a.size + k) = cnl a a.size + cnl b k
  | 0 => cnl_left a b a.size (Nat.le_refl _)
  | k + 1 => by
    have e : bt (a ++ b) (a.size + k) = bt b k := by rw [bt_append, if_neg (by omega), show a.size + k - a.size = k from by omega]
    rw [← Nat.add_assoc, cnl, cnl_right a b k, e, cnl]
    omega
theorem cnl_le (t : ByteArray) : ∀ (k : Nat), cnl t k ≤ k
  | 0 => Nat.le_refl _
  | k + 1 => by rw [cnl]; have := cnl_le t k; split <;> omega
theorem cnl_line {l : ByteArray} (h : NoNl l) : cnl (l ++ nl) (l ++ nl).size = 1 := by
  have hs : (l ++ nl).size = l.size + 1 := by rw [ByteArray.size_append]; rfl
  rw [hs, cnl_right l nl 1, cnl_no _ h]
  rfl
theorem jnL_app : ∀ (A B : List ByteArray), jnL (A ++ B) = jnL A ++ jnL B
  | [], B => by show jnL B = (⟨#[]⟩ : ByteArray) ++ jnL B; rw [show (⟨#[]⟩ : ByteArray) = emp from rfl, emp_app]
  | a :: A, B => by show a ++ nl ++ jnL (A ++ B) = a ++ nl ++ jnL A ++ jnL B; rw [jnL_app A B]; simp [ByteArray.append_assoc]
theorem cnl_all : ∀ (A : List ByteArray), (∀ x ∈ A, NoNl x) → cnl (jnL A) (jnL A).size = A.length
  | [], _ => rfl
  | a :: A, h => by
    show cnl (a ++ nl ++ jnL A) (a ++ nl ++ jnL A).size = _
    rw [ByteArray.size_append, cnl_right, cnl_line (h a (by simp)), cnl_all A (fun x hx => h x (by simp [hx])), List.length_cons]
    omega
/-- Where a cut lies. -/
theorem cut_at : ∀ (LS : List ByteArray) (c : Nat), (∀ x ∈ LS, NoNl x) → c < (jnL LS).size → ∃ A l B j, LS = A ++ l :: B ∧ j ≤ l.size ∧ c = (jnL A).size + j
  | [], c, _, h => absurd h (Nat.not_lt_zero _)
  | a :: LS, c, hn, h => by
    have hs : (jnL (a :: LS)).size = a.size + 1 + (jnL LS).size := line_size a (jnL LS)
    by_cases hc : c ≤ a.size
    · exact ⟨[], a, LS, c, rfl, hc, by show c = 0 + c; omega⟩
    · obtain ⟨A, l, B, j, rfl, hj, hc2⟩ := cut_at LS (c - (a.size + 1)) (fun x hx => hn x (by simp [hx])) (by omega)
      have hs2 : (jnL (a :: A)).size = a.size + 1 + (jnL A).size := line_size a (jnL A)
      exact ⟨a :: A, l, B, j, rfl, hj, by omega⟩
theorem ext_app_aux (a b : ByteArray) (j : Nat) : (a ++ b).extract 0 (a.size + j) = a ++ b.extract 0 j := by
  by_cases hj : j ≤ b.size
  · refine bytes_ext ?_ (fun k hk => ?_)
    · rw [ByteArray.size_extract, ByteArray.size_append, ByteArray.size_append, ByteArray.size_extract]; omega
    · rw [ByteArray.size_extract, ByteArray.size_append] at hk
      rw [bt_extract _ _ _ _ (by omega) (by rw [ByteArray.size_append]; omega), Nat.zero_add, bt_append, bt_append]
      by_cases h : k < a.size
      · rw [if_pos h, if_pos h]
      · rw [if_neg h, if_neg h, bt_extract _ _ _ _ (by omega) hj, Nat.zero_add]
  · have e1 : (a ++ b).extract 0 (a.size + j) = a ++ b := by
      apply ByteArray.ext
      have : (a ++ b).data.size = a.size + b.size := by show (a ++ b).size = _; exact ByteArray.size_append
      simp only [ByteArray.data_extract]
      exact Array.extract_eq_self_of_le (by omega)
    have e2 : b.extract 0 j = b := by
      apply ByteArray.ext
      simp only [ByteArray.data_extract]
      exact Array.extract_eq_self_of_le (by show b.size ≤ j; omega)
    rw [e1, e2]
theorem ext_app_right (a b : ByteArray) (j : Nat) : (a ++ b).extract 0 (a.size + j) = a ++ b.extract 0 j := by
  have h := ext_app_aux a b j
  exact h
theorem ext_app_left (a b : ByteArray) (j : Nat) (h : j ≤ a.size) : (a ++ b).extract 0 j = a.extract 0 j := by
  have h' : j ≤ a.data.size := h
  apply ByteArray.ext
  simp
  omega
theorem cut_is (A B : List ByteArray) (l : ByteArray) (j : Nat) (hj : j ≤ l.size) : (jnL (A ++ l :: B)).extract 0 ((jnL A).size + j) = jnL A ++ l.extract 0 j := by
  rw [jnL_app, ext_app_right]
  show jnL A ++ (l ++ nl ++ jnL B).extract 0 j = _
  rw [ByteArray.append_assoc, ext_app_left _ _ _ hj]
theorem cnl_cut (A B : List ByteArray) (l : ByteArray) (j : Nat) (hA : ∀ x ∈ A, NoNl x) (hl : NoNl l) (hj : j ≤ l.size) : cnl (jnL (A ++ l :: B)) ((jnL A).size + j) = A.length := by
  rw [jnL_app, cnl_right, cnl_all A hA]
  show A.length + cnl (l ++ nl ++ jnL B) j = _
  rw [ByteArray.append_assoc, cnl_left _ _ _ hj, cnl_no j (fun k hk => hl k (by omega))]
  rfl
/-- The lines that were taken: what comes behind them goes on from there. -/
theorem pz_took : ∀ (A : List ByteArray) (R : ByteArray) (n : Nat) (s : IS) (k : Nat), (∀ x ∈ A, NoNl x) → (pz k (jnL A ++ R) n s).2.1 = 0 → (jnL A ++ R).size < k →
    ∃ s', ∀ (r : ByteArray) (k' : Nat), (jnL A ++ r).size < k' → ∃ k'', r.size < k'' ∧ pz k' (jnL A ++ r) n s = pz k'' r (n + A.length) s'
  | [], R, n, s, k, _, _, _ => ⟨s, fun r k' hk => by
      rw [show jnL [] = emp from rfl, emp_app] at hk ⊢
      exact ⟨k', hk, rfl⟩⟩
  | a :: A, R, n, s, k, hn, h, hk => by
    have ha : NoNl a := hn a (by simp)
    have aas : ∀ r, jnL (a :: A) ++ r = a ++ nl ++ (jnL A ++ r) := fun r => by show a ++ nl ++ jnL A ++ r = _; simp [ByteArray.append_assoc]
    obtain ⟨k, rfl⟩ : ∃ m, k = m + 1 := ⟨k - 1, by omega⟩
    rw [aas] at h hk
    have hsz := line_size a (jnL A ++ R)
    by_cases hc : tkC s n a = 0
    · rw [pz_line ha hc] at h
      obtain ⟨s', hs'⟩ := pz_took A R (n + 1) (tkS s n a) k (fun x hx => hn x (by simp [hx])) h (by omega)
      refine ⟨s', fun r k' hk' => ?_⟩
      rw [aas] at hk' ⊢
      have hsz2 := line_size a (jnL A ++ r)
      obtain ⟨k', rfl⟩ : ∃ m, k' = m + 1 := ⟨k' - 1, by omega⟩
      obtain ⟨k'', h1, h2⟩ := hs' r k' (by omega)
      refine ⟨k'', h1, ?_⟩
      rw [pz_line ha hc, h2, List.length_cons, show n + 1 + A.length = n + (A.length + 1) from by omega]
    · exfalso
      obtain ⟨q1, q2, q3⟩ := ct_line a (jnL A ++ R) ha
      have := pz_bad (k := k) (n := n) (s := s) (t := a ++ nl ++ (jnL A ++ R)) (fun c => by omega) q3 (by rw [q1]; exact hc)
      rw [this, q1] at h
      exact hc h
/-- A text of lines that is read, cut short. -/
theorem pz_cut {LS : List ByteArray} (hn : ∀ x ∈ LS, NoNl x) (h : (PZ (jnL LS)).2.1 = 0) {c : Nat} (hc : c < (jnL LS).size) :
    (4 ≤ cnl (jnL LS) c → 0 < c) ∧ (4 ≤ cnl (jnL LS) c → bt (jnL LS) (c - 1) = 10 → (PZ ((jnL LS).extract 0 c)).2.1 = 0) ∧
      ((¬ 4 ≤ cnl (jnL LS) c ∨ bt (jnL LS) (c - 1) ≠ 10) → (PZ ((jnL LS).extract 0 c)).2 = (150, cnl (jnL LS) c)) := by
  obtain ⟨A, l, B, j, rfl, hj, rfl⟩ := cut_at LS c hn hc
  have hA : ∀ x ∈ A, NoNl x := fun x hx => hn x (by simp [hx])
  have hl : NoNl l := hn l (by simp)
  rw [cut_is _ _ _ _ hj, cnl_cut _ _ _ _ hA hl hj]
  rw [jnL_app] at h
  obtain ⟨s', hs'⟩ := pz_took A (jnL (l :: B)) 0 IS.zero _ hA h (by omega)
  obtain ⟨k, hk, e⟩ := hs' (l.extract 0 j) ((jnL A ++ l.extract 0 j).size + 1) (by omega)
  have e' : PZ (jnL A ++ l.extract 0 j) = pz k (l.extract 0 j) (0 + A.length) s' := e
  rw [e', Nat.zero_add]
  have sz : (l.extract 0 j).size = j := by rw [ByteArray.size_extract]; omega
  obtain ⟨k, rfl⟩ : ∃ m, k = m + 1 := ⟨k - 1, by omega⟩
  have nol : ctF (l.extract 0 j) 10 = false := by
    refine decide_eq_false (fun hlt => ?_)
    have h1 := fst_at hlt
    have h2 : fst (l.extract 0 j) 10 < j := by omega
    rw [bt_extract l 0 j _ (by omega) hj] at h1
    exact hl _ (by omega) h1
  have lastA : 4 ≤ A.length → 0 < (jnL A).size ∧ bt (jnL A) ((jnL A).size - 1) = 10 := fun h4 => by
    obtain ⟨A', a, rfl⟩ : ∃ A' a, A = A' ++ [a] := ⟨A.dropLast, A.getLast (by intro e; subst e; simp at h4), (List.dropLast_concat_getLast _).symm⟩
    have es : jnL (A' ++ [a]) = jnL A' ++ (a ++ nl) := by rw [jnL_app]; show jnL A' ++ (a ++ nl ++ (⟨#[]⟩ : ByteArray)) = _; rw [app_emp]
    have z1 : (jnL A' ++ (a ++ nl)).size = (jnL A').size + (a.size + 1) := by rw [ByteArray.size_append, ByteArray.size_append]; rfl
    rw [es, z1]
    refine ⟨by omega, ?_⟩
    rw [bt_append, if_neg (by omega), bt_append, if_neg (by omega), show (jnL A').size + (a.size + 1) - 1 - (jnL A').size - a.size = 0 from by omega]
    rfl
  have b0 : j = 0 → 4 ≤ A.length → bt (jnL (A ++ l :: B)) ((jnL A).size + j - 1) = 10 := fun hj0 h4 => by
    obtain ⟨p, q⟩ := lastA h4
    rw [jnL_app, bt_append, if_pos (by omega), hj0, Nat.add_zero]
    exact q
  have b1 : 0 < j → bt (jnL (A ++ l :: B)) ((jnL A).size + j - 1) ≠ 10 := fun hj0 => by
    rw [jnL_app, bt_append, if_neg (by omega)]
    show bt (l ++ nl ++ jnL B) _ ≠ 10
    rw [ByteArray.append_assoc, bt_append, if_pos (by omega)]
    exact hl _ (by omega)
  refine ⟨fun h4 => by have := (lastA h4).1; omega, fun h4 hb => ?_, fun hor => ?_⟩
  · by_cases hj0 : j = 0
    · rw [pz_done ⟨h4, by omega⟩]
    · exact absurd hb (b1 (by omega))
  · have nd : ¬ (4 ≤ A.length ∧ (l.extract 0 j).size = 0) := fun c => by
      rcases hor with h | h
      · exact h c.1
      · exact h (b0 (by omega) c.1)
    rw [pz_open nd nol]

/-- The lines of a printed info. -/
def linesOf (P : ByteArray) (D : Nat → Int) (z : Int) (fr : Nat → ByteArray) (nr : Nat) (F : ByteArray) (fs : Nat → ByteArray) (ns : Nat) : List ByteArray :=
  [hdP ++ P, hdH ++ b32Str (strFn 32 D), hdZ ++ itB z, hdR ++ bsS fr nr] ++ ((if F.size = 0 then [] else [hdF ++ F]) ++ ((List.range ns).map fs).map (hdS ++ ·))
theorem sgT_lines : ∀ (L : List ByteArray), sgT L = jnL (L.map (hdS ++ ·))
  | [] => rfl
  | x :: r => by show hdS ++ x ++ nl ++ sgT r = hdS ++ x ++ nl ++ jnL (r.map (hdS ++ ·)); rw [sgT_lines r]
theorem prT_jnL (P : ByteArray) (D : Nat → Int) (z : Int) (fr : Nat → ByteArray) (nr : Nat) (F : ByteArray) (fs : Nat → ByteArray) (ns : Nat) : prT P D z fr nr F fs ns = jnL (linesOf P D z fr nr F fs ns) := by
  rw [prT_lines]
  unfold linesOf tailT
  rw [sgT_lines]
  by_cases h : F.size = 0
  · rw [if_pos h, if_pos h]; rfl
  · rw [if_neg h, if_neg h]; rfl
theorem lines_len (P : ByteArray) (D : Nat → Int) (z : Int) (fr : Nat → ByteArray) (nr : Nat) (F : ByteArray) (fs : Nat → ByteArray) (ns : Nat) : (linesOf P D z fr nr F fs ns).length = 4 + ns + (if F.size = 0 then 0 else 1) := by
  unfold linesOf
  by_cases h : F.size = 0
  · simp [h]; omega
  · simp [h]; omega
theorem lines_nl {P : ByteArray} {D : Nat → Int} {z : Int} {fr : Nat → ByteArray} {nr : Nat} {F : ByteArray} {fs : Nat → ByteArray} {ns : Nat} (h : ckC P z fr nr F fs ns = 0) : ∀ x ∈ linesOf P D z fr nr F fs ns, NoNl x := by
  obtain ⟨hP, ⟨hz, _⟩, hr, hF, hs⟩ := ckC_parts h
  have hs' := ssC_ok hs
  obtain ⟨n1, n2, n3, n4, n5, n6, _⟩ := hd_nl
  intro x hx
  unfold linesOf at hx
  simp only [List.cons_append, List.nil_append, List.mem_cons, List.mem_append, List.mem_map, List.mem_range] at hx
  rcases hx with rfl | rfl | rfl | rfl | hx | hx
  · exact n1.app (pr_nl hP)
  · exact n2.app (b32_nl _)
  · exact n3.app (itB_nl hz)
  · exact (rr_back hr).2.2
  · by_cases h0 : F.size = 0
    · rw [if_pos h0] at hx; cases hx
    · rw [if_neg h0] at hx
      simp only [List.mem_singleton] at hx
      subst hx
      rw [frC_n h0] at hF
      exact n5.app (pr_nl hF)
  · obtain ⟨y, ⟨i, hi, rfl⟩, rfl⟩ := hx
    exact n6.app (sn_nl (hs' i hi).1)
/-- What InfoCuts says, plain. -/
theorem cuts_form {P : ByteArray} {D : Nat → Int} {z : Int} {fr : Nat → ByteArray} {nr : Nat} {F : ByteArray} {fs : Nat → ByteArray} {ns : Nat} (h : ckC P z fr nr F fs ns = 0) :
    cnl (prT P D z fr nr F fs ns) (prT P D z fr nr F fs ns).size = 4 + ns + (if F.size = 0 then 0 else 1) ∧
    ∀ c, c < (prT P D z fr nr F fs ns).size → (4 ≤ cnl (prT P D z fr nr F fs ns) c → 0 < c) ∧ (4 ≤ cnl (prT P D z fr nr F fs ns) c → bt (prT P D z fr nr F fs ns) (c - 1) = 10 → (PZ ((prT P D z fr nr F fs ns).extract 0 c)).2.1 = 0) ∧
      ((¬ 4 ≤ cnl (prT P D z fr nr F fs ns) c ∨ bt (prT P D z fr nr F fs ns) (c - 1) ≠ 10) → (PZ ((prT P D z fr nr F fs ns).extract 0 c)).2 = (150, cnl (prT P D z fr nr F fs ns) c)) := by
  have hb := back_form P D z fr nr F fs ns h
  rw [prT_jnL] at hb ⊢
  have hn := lines_nl (D := D) h
  exact ⟨by rw [cnl_all _ hn, lines_len], fun c hc => pz_cut hn (by rw [hb]) hc⟩

end Go.Proofs.YtgnlkggodchlbaaDoor
/- The law InfoCuts walked. -/
namespace Go.Proofs.YtgnlkggodchlbaaDoor
open Go.RowKit Go.Shelf

set_option maxRecDepth 100000 in
set_option maxHeartbeats 4000000 in
theorem icut_walk (P : ByteArray) (D : Nat → Int) (z : Int) (F : ByteArray) (xr : Option Addr) (nr cr : Nat) (fr : Nat → ByteArray) (xs : Option Addr) (ns cz : Nat) (fs : Nat → ByteArray) (cut : Int) (w : World)
    (hr : SIs w xr nr fr) (hs : SIs w xs ns fs) (hnc : ns ≤ cz) (hm : nr ≤ 1048576 ∧ ns ≤ 1048576) (hsz : ∀ i, i < ns → (fs i).size ≤ 1048576) (_hrz : ∀ i, i < nr → (fr i).size ≤ 1048576) (_hD : ∀ j, 0 ≤ D j ∧ D j < 256) (_hPz : P.size ≤ 1048576) (_hFz : F.size ≤ 1048576) (hk0 : -9223372036854775808 ≤ cut) (hk1 : cut ≤ 9223372036854775807) (hT : PT w) :
    Calls Tryd.prog 7 #[.agg (infC P D z (.slice xr nr cr) F (.slice xs ns cz)), .int .i64 cut] w fun e w' => e = .returned (.bool true) ∧ Below w.heap.size w w' := by
  have I0 : Inf (w.alloc (.cells (infC P D z (.slice xr nr cr) F (.slice xs ns cz)) 26)) w.heap.size P D z (.slice xr nr cr) F (.slice xs ns cz) := Inf.box _ _ _ _ _ _ _ _
  have B0 : Below w.heap.size w (w.alloc (.cells (infC P D z (.slice xr nr cr) F (.slice xs ns cz)) 26)) := (Below.refl _ _).alloc (Nat.le_refl _) _
  have CA := fun W (b : Below w.heap.size w W) => iaw_any W (hT.below b)
  have CR := fun W (b : Below w.heap.size w W) => print_any P D z F xr nr cr fr xs ns cz fs W (hr.below b (Nat.le_refl _)) (hs.below b (Nat.le_refl _)) hnc (by omega) (fun i hi => by have := hsz i hi; omega) (hT.below b)
  have HM : Hid (ns ≤ 1048576) := hm.2
  have HQ : Hid (∀ (_ : ckC P z fr nr F fs ns = 0), (prT P D z fr nr F fs ns).size ≤ 1000000000) := fun h => pr_small h hm.2
  have HC : Hid (∀ (_ : ckC P z fr nr F fs ns = 0), cnl (prT P D z fr nr F fs ns) (prT P D z fr nr F fs ns).size = 4 + ns + (if F.size = 0 then 0 else 1) ∧
    ∀ c, c < (prT P D z fr nr F fs ns).size → (4 ≤ cnl (prT P D z fr nr F fs ns) c → 0 < c) ∧ (4 ≤ cnl (prT P D z fr nr F fs ns) c → bt (prT P D z fr nr F fs ns) (c - 1) = 10 → (PZ ((prT P D z fr nr F fs ns).extract 0 c)).2.1 = 0) ∧
      ((¬ 4 ≤ cnl (prT P D z fr nr F fs ns) c ∨ bt (prT P D z fr nr F fs ns) (c - 1) ≠ 10) → (PZ ((prT P D z fr nr F fs ns).extract 0 c)).2 = (150, cnl (prT P D z fr nr F fs ns) c))) := fun h => cuts_form h
  generalize hTX : prT P D z fr nr F fs ns = tx at CR HQ HC
  clear hTX
  generalize hc0 : ckC P z fr nr F fs ns = c0 at CR HQ HC
  clear hc0 hr hs hnc hm hsz _hrz _hD _hPz _hFz hT
  go_enter Tryd.func7, Tryd.ntmps7
  go_wp2_with fail
  generalize w.alloc (.cells (infC P D z (.slice xr nr cr) F (.slice xs ns cz)) 26) = w0 at I0 B0 ⊢
  refine (CA w0 B0).mono ?_
  rintro e w1 ⟨rfl, b1⟩
  have I1 : Inf w1 w.heap.size P D z (.slice xr nr cr) F (.slice xs ns cz) := I0.below b1 I0.lt
  have B1 : Below w.heap.size w w1 := B0.trans (b1.mono B0.size)
  clear I0 B0 b1 CA
  -- @1
  go_wp2_with (refine wpList_load_infG (by rfl) (.tmp 2) (by rfl) (by rfl) I1 ?_; refine Hid.out ?_)
  unfold Hid
  go_wp2_with fail
  refine (CR w1 B1).mono ?_
  rintro e w2 ⟨rfl, b2⟩
  have I2 : Inf w2 w.heap.size P D z (.slice xr nr cr) F (.slice xs ns cz) := I1.below b2 I1.lt
  have B2 : Hid (Below w.heap.size w w2) := B1.trans (b2.mono B1.size)
  clear I1 B1 b2 CR
  by_cases hc : c0 = 0
  · subst hc
    rw [prS_z rfl]
    have hsz := HQ.out rfl
    obtain ⟨HN, HK⟩ := HC.out rfl
    have HN : Hid (cnl tx tx.size = 4 + ns + (if F.size = 0 then 0 else 1)) := HN
    clear HQ HC
    have c36 := I2.signs
    have c35 := I2.from_
    have hgb := get_bt tx
    go_wp2
    -- @2
    go_loopw [7, 8] (fun e i wr => ∃ k : Nat, k ≤ tx.size ∧ e = .int .i64 (cnl tx k : Nat) ∧ i = .int .i64 k ∧ wr = w2) (fun _ i _ => tx.size - (intOf i).toNat)
    case atStart => exact ⟨0, Nat.zero_le _, rfl, rfl, rfl⟩
    case round =>
      obtain ⟨k, hk, rfl, rfl, rfl⟩ := hrel
      have hle := cnl_le tx k
      by_cases hlt : k < tx.size
      · have hs := hgb k hlt
        by_cases hb : bt tx k = 10
        · have e1 : (bt tx k == 10) = true := by rw [hb]; rfl
          have e2 : cnl tx (k + 1) = cnl tx k + 1 := by rw [cnl, if_pos hb]
          go_wp2
          go_roundw
          case rel => exact ⟨k + 1, by omega, by rw [e2]; go_num, by go_num, trivial⟩
          case measure => simp [intOf]; omega
        · have e1 : (bt tx k == 10) = false := by rw [beq_eq_false_iff_ne]; exact hb
          have e2 : cnl tx (k + 1) = cnl tx k := by rw [cnl, if_neg hb]; rfl
          go_wp2
          go_roundw
          case rel => exact ⟨k + 1, by omega, by rw [e2], by go_num, trivial⟩
          case measure => simp [intOf]; omega
      · obtain rfl : k = tx.size := by omega
        -- @3
        have HW : Hid (Below w.heap.size w wr) := B2
        by_cases hF : F.size = 0
        · have hends : Hid (cnl tx tx.size = 4 + ns) := by have h := HN.out; rw [if_pos hF] at h; unfold Hid; omega
          obtain rfl : F = ⟨#[]⟩ := bytes_ext (by rw [hF]; rfl) (fun k hk => absurd hk (by omega))
          rw [hends.out] at hle ⊢
          have en : ((((4 + ns : Nat)) : Int) != (4 + (ns : Int))) = false := by rw [bne_eq_false_iff_eq]; omega
          have hm2 := HM.out
          clear hF hends
          by_cases hneg : cut < 0
          · go_wp2
            go_ret
            exact ⟨rfl, HW.out⟩
          by_cases hge : (tx.size : Int) ≤ cut
          · go_wp2
            go_ret
            exact ⟨rfl, HW.out⟩
          obtain ⟨c, rfl⟩ : ∃ c : Nat, cut = c := ⟨cut.toNat, by omega⟩
          have hc : c < tx.size := by omega
          have K := HK c hc
          have HKK : Hid ((4 ≤ cnl tx c → 0 < c) ∧ (4 ≤ cnl tx c → bt tx (c - 1) = 10 → (PZ (tx.extract 0 c)).2.1 = 0) ∧ ((¬ 4 ≤ cnl tx c ∨ bt tx (c - 1) ≠ 10) → (PZ (tx.extract 0 c)).2 = (150, cnl tx c))) := K
          clear K HK HN
          go_wp2
          go_loopw [10, 11] (fun e i wq => ∃ k : Nat, k ≤ c ∧ e = .int .i64 (cnl tx k : Nat) ∧ i = .int .i64 k ∧ wq = wr) (fun _ i _ => c - (intOf i).toNat)
          case atStart => exact ⟨0, Nat.zero_le _, rfl, rfl, rfl⟩
          case round =>
            obtain ⟨k, hk, rfl, rfl, rfl⟩ := hrel
            have hle2 := cnl_le tx k
            by_cases hlt : k < c
            · have hs := hgb k (by omega)
              by_cases hb : bt tx k = 10
              · have e1 : (bt tx k == 10) = true := by rw [hb]; rfl
                have e2 : cnl tx (k + 1) = cnl tx k + 1 := by rw [cnl, if_pos hb]
                go_wp2
                go_roundw
                case rel => exact ⟨k + 1, by omega, by rw [e2]; go_num, by go_num, trivial⟩
                case measure => simp [intOf]; omega
              · have e1 : (bt tx k == 10) = false := by rw [beq_eq_false_iff_ne]; exact hb
                have e2 : cnl tx (k + 1) = cnl tx k := by rw [cnl, if_neg hb]; rfl
                go_wp2
                go_roundw
                case rel => exact ⟨k + 1, by omega, by rw [e2], by go_num, trivial⟩
                case measure => simp [intOf]; omega
            · obtain rfl : k = c := by omega
              have CP := fun W => iparse_any (tx.extract 0 k) W (by rw [ByteArray.size_extract]; omega)
              generalize cnl tx k = cn at HKK hle2 ⊢
              generalize PZ (tx.extract 0 k) = pr at CP HKK
              obtain ⟨s, cd, at_⟩ := pr
              go_wp2_with fail
              refine (CP _).mono ?_
              clear CP
              rintro e w6 ⟨⟨vr, vs, rfl, OR, OS, _⟩, b6⟩
              obtain ⟨yr, dr, rfl, hdr, SR⟩ := OR.shape
              obtain ⟨ys, dz, rfl, hdz, SS⟩ := OS.shape
              have B6 : Hid (Below w.heap.size w w6) := HW.out.trans (b6.mono HW.out.size)
              clear b6 OR OS SR SS HW
              have J0 : Inf ((w6.alloc (.cells (infC ⟨#[]⟩ (fun _ => 0) 0 (.slice none 0 0) ⟨#[]⟩ (.slice none 0 0)) 26)).alloc (.cells #[.int .i64 0, .int .i64 0] 42)) w6.heap.size ⟨#[]⟩ (fun _ => 0) 0 (.slice none 0 0) ⟨#[]⟩ (.slice none 0 0) := (Inf.box _ _ _ _ _ _ _ _).same (Below.heap_alloc _ _ _ (by rw [World.size_alloc]; omega))
              have F0 : Hid (Row .i64 ((w6.alloc (.cells (infC ⟨#[]⟩ (fun _ => 0) 0 (.slice none 0 0) ⟨#[]⟩ (.slice none 0 0)) 26)).alloc (.cells #[.int .i64 0, .int .i64 0] 42)) (w6.heap.size + 1) 2 (fun _ => 0)) := by
                have := Row.arr (k := .i64) (w := w6.alloc (.cells (infC ⟨#[]⟩ (fun _ => 0) 0 (.slice none 0 0) ⟨#[]⟩ (.slice none 0 0)) 26)) (e := 42) (C := #[.int .i64 0, .int .i64 0]) (n := 2) (f := fun _ => 0) (fun j hj => by rcases (show j = 0 ∨ j = 1 from by omega) with rfl | rfl <;> rfl)
                rw [World.size_alloc] at this
                exact this
              have B0 : Hid (Below w6.heap.size w6 ((w6.alloc (.cells (infC ⟨#[]⟩ (fun _ => 0) 0 (.slice none 0 0) ⟨#[]⟩ (.slice none 0 0)) 26)).alloc (.cells #[.int .i64 0, .int .i64 0] 42))) := ((Below.refl _ _).alloc (Nat.le_refl _) _).alloc (by rw [World.size_alloc]; omega) _
              have z0 : Hid (w6.heap.size + 2 = ((w6.alloc (.cells (infC ⟨#[]⟩ (fun _ => 0) 0 (.slice none 0 0) ⟨#[]⟩ (.slice none 0 0)) 26)).alloc (.cells #[.int .i64 0, .int .i64 0] 42)).heap.size) := by unfold Hid; rw [World.size_alloc, World.size_alloc]
              go_wp2_with (refine wpList_store_inf (by rfl) (.tmp 12) (.tmp 73) (by rfl) (by rfl) (by rfl) J0 rfl rfl (by rfl) ?_; intro W5 R5 U5; refine Hid.out ?_)
              unfold Hid
              have F5 : Row .i64 W5 (w6.heap.size + 1) 2 (fun _ => 0) := F0.out.upd U5 (by have := z0.out; omega) (by omega)
              have B5' : Hid (Below w6.heap.size w6 W5) := U5.below B0.out (Nat.le_refl _) B0.out.size
              have d0 := F5.cell 0 (by omega)
              have d1 := F5.cell 1 (by omega)
              have g0 := F5.free 0 (by omega)
              have g1 := F5.free 1 (by omega)
              have B7 : Hid (Below w.heap.size w ((W5.setCell ⟨w6.heap.size + 1, 0, none⟩ (.int .i64 cd)).setCell ⟨w6.heap.size + 1, 1, none⟩ (.int .i64 at_))) := B6.out.trans (((B5'.out.setCell (by show _ ≤ w6.heap.size + 1; omega) _).setCell (by show _ ≤ w6.heap.size + 1; omega) _).mono B6.out.size)
              clear J0 F0 R5 U5 B5' B0 z0 B6
              by_cases h4 : 4 ≤ cn
              · obtain ⟨d, rfl⟩ : ∃ d, k = d + 1 := ⟨k - 1, by have := HKK.out.1 h4; omega⟩
                have hs := hgb d (by omega)
                have h4' : (4 : Int) ≤ (cn : Int) := by omega
                by_cases hb : bt tx d = 10
                · have e1 : (bt tx d == 10) = true := by rw [hb]; rfl
                  have e2 : cd = 0 := HKK.out.2.1 h4 hb
                  subst e2
                  clear HKK
                  go_wp2
                  go_ret
                  exact ⟨rfl, B7.out⟩
                · have e1 : (bt tx d == 10) = false := by rw [beq_eq_false_iff_ne]; exact hb
                  have e2 := HKK.out.2.2 (Or.inr hb)
                  simp only [Prod.mk.injEq] at e2
                  obtain ⟨rfl, rfl⟩ := e2
                  clear HKK
                  go_wp2
                  go_ret
                  exact ⟨rfl, B7.out⟩
              · have h4' : ¬ (4 : Int) ≤ (cn : Int) := by omega
                have e2 := HKK.out.2.2 (Or.inl h4)
                simp only [Prod.mk.injEq] at e2
                obtain ⟨rfl, rfl⟩ := e2
                clear HKK
                go_wp2
                go_ret
                exact ⟨rfl, B7.out⟩
        · have hends : Hid (cnl tx tx.size = 5 + ns) := by have h := HN.out; rw [if_neg hF] at h; unfold Hid; omega
          have f1 : (F.toList == []) = false := by
            rw [beq_eq_false_iff_ne]
            intro h
            exact hF ((empty_iff F).1 (by rw [h]; rfl))
          have f2 : (F.toList != []) = true := by rw [bne_iff_ne]; rw [beq_eq_false_iff_ne] at f1; exact f1
          have f3 : ¬ F.toList = [] := by rw [beq_eq_false_iff_ne] at f1; exact f1
          have f4 : F.toList.isEmpty = false := by
            cases h : F.toList.isEmpty
            · rfl
            · exact absurd ((empty_iff F).1 h) hF
          rw [hends.out] at hle ⊢
          have en : ((((5 + ns : Nat)) : Int) != (4 + (ns : Int) + 1)) = false := by rw [bne_eq_false_iff_eq]; omega
          have hm2 := HM.out
          clear hF hends
          by_cases hneg : cut < 0
          · go_wp2
            go_ret
            exact ⟨rfl, HW.out⟩
          by_cases hge : (tx.size : Int) ≤ cut
          · go_wp2
            go_ret
            exact ⟨rfl, HW.out⟩
          obtain ⟨c, rfl⟩ : ∃ c : Nat, cut = c := ⟨cut.toNat, by omega⟩
          have hc : c < tx.size := by omega
          have K := HK c hc
          have HKK : Hid ((4 ≤ cnl tx c → 0 < c) ∧ (4 ≤ cnl tx c → bt tx (c - 1) = 10 → (PZ (tx.extract 0 c)).2.1 = 0) ∧ ((¬ 4 ≤ cnl tx c ∨ bt tx (c - 1) ≠ 10) → (PZ (tx.extract 0 c)).2 = (150, cnl tx c))) := K
          clear K HK HN
          go_wp2
          go_loopw [10, 11] (fun e i wq => ∃ k : Nat, k ≤ c ∧ e = .int .i64 (cnl tx k : Nat) ∧ i = .int .i64 k ∧ wq = wr) (fun _ i _ => c - (intOf i).toNat)
          case atStart => exact ⟨0, Nat.zero_le _, rfl, rfl, rfl⟩
          case round =>
            obtain ⟨k, hk, rfl, rfl, rfl⟩ := hrel
            have hle2 := cnl_le tx k
            by_cases hlt : k < c
            · have hs := hgb k (by omega)
              by_cases hb : bt tx k = 10
              · have e1 : (bt tx k == 10) = true := by rw [hb]; rfl
                have e2 : cnl tx (k + 1) = cnl tx k + 1 := by rw [cnl, if_pos hb]
                go_wp2
                go_roundw
                case rel => exact ⟨k + 1, by omega, by rw [e2]; go_num, by go_num, trivial⟩
                case measure => simp [intOf]; omega
              · have e1 : (bt tx k == 10) = false := by rw [beq_eq_false_iff_ne]; exact hb
                have e2 : cnl tx (k + 1) = cnl tx k := by rw [cnl, if_neg hb]; rfl
                go_wp2
                go_roundw
                case rel => exact ⟨k + 1, by omega, by rw [e2], by go_num, trivial⟩
                case measure => simp [intOf]; omega
            · obtain rfl : k = c := by omega
              have CP := fun W => iparse_any (tx.extract 0 k) W (by rw [ByteArray.size_extract]; omega)
              generalize cnl tx k = cn at HKK hle2 ⊢
              generalize PZ (tx.extract 0 k) = pr at CP HKK
              obtain ⟨s, cd, at_⟩ := pr
              go_wp2_with fail
              refine (CP _).mono ?_
              clear CP
              rintro e w6 ⟨⟨vr, vs, rfl, OR, OS, _⟩, b6⟩
              obtain ⟨yr, dr, rfl, hdr, SR⟩ := OR.shape
              obtain ⟨ys, dz, rfl, hdz, SS⟩ := OS.shape
              have B6 : Hid (Below w.heap.size w w6) := HW.out.trans (b6.mono HW.out.size)
              clear b6 OR OS SR SS HW
              have J0 : Inf ((w6.alloc (.cells (infC ⟨#[]⟩ (fun _ => 0) 0 (.slice none 0 0) ⟨#[]⟩ (.slice none 0 0)) 26)).alloc (.cells #[.int .i64 0, .int .i64 0] 42)) w6.heap.size ⟨#[]⟩ (fun _ => 0) 0 (.slice none 0 0) ⟨#[]⟩ (.slice none 0 0) := (Inf.box _ _ _ _ _ _ _ _).same (Below.heap_alloc _ _ _ (by rw [World.size_alloc]; omega))
              have F0 : Hid (Row .i64 ((w6.alloc (.cells (infC ⟨#[]⟩ (fun _ => 0) 0 (.slice none 0 0) ⟨#[]⟩ (.slice none 0 0)) 26)).alloc (.cells #[.int .i64 0, .int .i64 0] 42)) (w6.heap.size + 1) 2 (fun _ => 0)) := by
                have := Row.arr (k := .i64) (w := w6.alloc (.cells (infC ⟨#[]⟩ (fun _ => 0) 0 (.slice none 0 0) ⟨#[]⟩ (.slice none 0 0)) 26)) (e := 42) (C := #[.int .i64 0, .int .i64 0]) (n := 2) (f := fun _ => 0) (fun j hj => by rcases (show j = 0 ∨ j = 1 from by omega) with rfl | rfl <;> rfl)
                rw [World.size_alloc] at this
                exact this
              have B0 : Hid (Below w6.heap.size w6 ((w6.alloc (.cells (infC ⟨#[]⟩ (fun _ => 0) 0 (.slice none 0 0) ⟨#[]⟩ (.slice none 0 0)) 26)).alloc (.cells #[.int .i64 0, .int .i64 0] 42))) := ((Below.refl _ _).alloc (Nat.le_refl _) _).alloc (by rw [World.size_alloc]; omega) _
              have z0 : Hid (w6.heap.size + 2 = ((w6.alloc (.cells (infC ⟨#[]⟩ (fun _ => 0) 0 (.slice none 0 0) ⟨#[]⟩ (.slice none 0 0)) 26)).alloc (.cells #[.int .i64 0, .int .i64 0] 42)).heap.size) := by unfold Hid; rw [World.size_alloc, World.size_alloc]
              go_wp2_with (refine wpList_store_inf (by rfl) (.tmp 12) (.tmp 73) (by rfl) (by rfl) (by rfl) J0 rfl rfl (by rfl) ?_; intro W5 R5 U5; refine Hid.out ?_)
              unfold Hid
              have F5 : Row .i64 W5 (w6.heap.size + 1) 2 (fun _ => 0) := F0.out.upd U5 (by have := z0.out; omega) (by omega)
              have B5' : Hid (Below w6.heap.size w6 W5) := U5.below B0.out (Nat.le_refl _) B0.out.size
              have d0 := F5.cell 0 (by omega)
              have d1 := F5.cell 1 (by omega)
              have g0 := F5.free 0 (by omega)
              have g1 := F5.free 1 (by omega)
              have B7 : Hid (Below w.heap.size w ((W5.setCell ⟨w6.heap.size + 1, 0, none⟩ (.int .i64 cd)).setCell ⟨w6.heap.size + 1, 1, none⟩ (.int .i64 at_))) := B6.out.trans (((B5'.out.setCell (by show _ ≤ w6.heap.size + 1; omega) _).setCell (by show _ ≤ w6.heap.size + 1; omega) _).mono B6.out.size)
              clear J0 F0 R5 U5 B5' B0 z0 B6
              by_cases h4 : 4 ≤ cn
              · obtain ⟨d, rfl⟩ : ∃ d, k = d + 1 := ⟨k - 1, by have := HKK.out.1 h4; omega⟩
                have hs := hgb d (by omega)
                have h4' : (4 : Int) ≤ (cn : Int) := by omega
                by_cases hb : bt tx d = 10
                · have e1 : (bt tx d == 10) = true := by rw [hb]; rfl
                  have e2 : cd = 0 := HKK.out.2.1 h4 hb
                  subst e2
                  clear HKK
                  go_wp2
                  go_ret
                  exact ⟨rfl, B7.out⟩
                · have e1 : (bt tx d == 10) = false := by rw [beq_eq_false_iff_ne]; exact hb
                  have e2 := HKK.out.2.2 (Or.inr hb)
                  simp only [Prod.mk.injEq] at e2
                  obtain ⟨rfl, rfl⟩ := e2
                  clear HKK
                  go_wp2
                  go_ret
                  exact ⟨rfl, B7.out⟩
              · have h4' : ¬ (4 : Int) ≤ (cn : Int) := by omega
                have e2 := HKK.out.2.2 (Or.inl h4)
                simp only [Prod.mk.injEq] at e2
                obtain ⟨rfl, rfl⟩ := e2
                clear HKK
                go_wp2
                go_ret
                exact ⟨rfl, B7.out⟩
  · rw [prS_n hc, show emp = (⟨#[]⟩ : ByteArray) from rfl]
    have hc' : (c0 != 0) = true := by rw [bne_iff_ne]; exact hc
    clear HQ HC
    go_wp2
    go_ret
    exact ⟨rfl, B2.out⟩
end Go.Proofs.YtgnlkggodchlbaaDoor
