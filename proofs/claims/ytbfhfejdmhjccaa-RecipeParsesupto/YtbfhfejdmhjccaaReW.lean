/- recipe, walked. -/
import Derived.Test.YtbfhfejdmhjccaaReV
namespace Go.Proofs.Ytbfhfejdmhjccaa
open Go.RowKit

/-- Block h holds a recipe: its name, its dependencies, its steps. -/
def St3 (w : World) (h : Nat) (a b c : Value) : Prop := w.heap[h]? = some (.cells #[a, b, c] 26 (0, 0))
theorem St3.lt {w : World} {h : Nat} {a b c : Value} (s : St3 w h a b c) : h < w.heap.size := (Array.getElem?_eq_some_iff.1 s).1
theorem St3.c0 {w : World} {h : Nat} {a b c : Value} (s : St3 w h a b c) : w.cell? ⟨h, 0, none⟩ = some a := by rw [Lib.cell_of_heap s]; rfl
theorem St3.c1 {w : World} {h : Nat} {a b c : Value} (s : St3 w h a b c) : w.cell? ⟨h, 1, none⟩ = some b := by rw [Lib.cell_of_heap s]; rfl
theorem St3.c2 {w : World} {h : Nat} {a b c : Value} (s : St3 w h a b c) : w.cell? ⟨h, 2, none⟩ = some c := by rw [Lib.cell_of_heap s]; rfl
theorem St3.f {w : World} {h : Nat} {a b c : Value} (s : St3 w h a b c) (j : Nat) : w.frozen? ⟨h, j, none⟩ = false := Lib.frozen_of_heap s j
theorem St3.same {w w' : World} {h : Nat} {a b c : Value} (s : St3 w h a b c) (e : w'.heap[h]? = w.heap[h]?) : St3 w' h a b c := e.trans s
theorem St3.set0 {w : World} {h : Nat} {a b c : Value} (s : St3 w h a b c) (a' : Value) : St3 (w.setCell ⟨h, 0, none⟩ a') h a' b c := by
  unfold St3 at s ⊢
  simp [World.setCell, Array.getElem?_modify, s]
theorem St3.set1 {w : World} {h : Nat} {a b c : Value} (s : St3 w h a b c) (b' : Value) : St3 (w.setCell ⟨h, 1, none⟩ b') h a b' c := by
  unfold St3 at s ⊢
  simp [World.setCell, Array.getElem?_modify, s]
theorem St3.set2 {w : World} {h : Nat} {a b c : Value} (s : St3 w h a b c) (c' : Value) : St3 (w.setCell ⟨h, 2, none⟩ c') h a b c' := by
  unfold St3 at s ⊢
  simp [World.setCell, Array.getElem?_modify, s]
theorem St3.new (w : World) (a b c : Value) : St3 (w.alloc (.cells #[a, b, c] 26)) w.heap.size a b c := Array.getElem?_push_size
theorem lst_le {α : Type} {cl : UInt8} {item : List UInt8 → Rs α} {g : α → List UInt8} (hi : One item g) {n : Nat} {b : Bool} {l m : List UInt8} {v : List α} (h : lst cl item n b l = .ok v m) : m.length < l.length := by
  have := congrArg List.length (lst_one hi n b l v m h)
  rw [List.length_append] at this
  simp at this
  omega

set_option maxHeartbeats 16000000 in
theorem recipe_any (g : Nat) (s l : List UInt8) (n : Nat) (hn : l.length < n) (w : World) (hs : s.length ≤ 16777216) (h : Ps w g s l) :
    Calls Try.prog 17 #[.pointer (some ⟨g, 0, none⟩)] w fun e w' => Out s g w (rcp n l) (fun r x w' => ∃ vd vs, x = .agg #[.string (ba r.nm), vd, vs] ∧ TxS w' w.heap.size vd r.ds ∧ StS w' w.heap.size vs r.ss) e w' := by
  have hgl := h.lt
  have hmf : ∀ (fn : Fn) (first cap : Array Value) (w : World), (Instr.makeFunc fn first cap).run Try.prog w = .ok (.func fn first cap) w := fun _ _ _ _ => rfl
  have e1 : ba opn = ⟨#[82, 101, 99, 105, 112, 101, 40]⟩ := rfl
  have e2 : ba [44, 91] = ⟨#[44, 91]⟩ := rfl
  have e3 : ba [41] = ⟨#[41]⟩ := rfl
  have b0 : Below w.heap.size w ((w.alloc (.cells #[.string ⟨#[]⟩, .slice none 0 0, .slice none 0 0] 26)).alloc (.cells #[.string ⟨#[]⟩, .slice none 0 0, .slice none 0 0] 26)) := ((Below.refl _ _).alloc (Nat.le_refl _) _).alloc (by rw [World.size_alloc]; omega) _
  have R0 : St3 ((w.alloc (.cells #[.string ⟨#[]⟩, .slice none 0 0, .slice none 0 0] 26)).alloc (.cells #[.string ⟨#[]⟩, .slice none 0 0, .slice none 0 0] 26)) w.heap.size (.string ⟨#[]⟩) (.slice none 0 0) (.slice none 0 0) := (St3.new w _ _ _).same (Below.heap_alloc _ _ _ (by rw [World.size_alloc]; omega))
  have S0 : St3 ((w.alloc (.cells #[.string ⟨#[]⟩, .slice none 0 0, .slice none 0 0] 26)).alloc (.cells #[.string ⟨#[]⟩, .slice none 0 0, .slice none 0 0] 26)) (w.heap.size + 1) (.string ⟨#[]⟩) (.slice none 0 0) (.slice none 0 0) := by
    have := St3.new (w.alloc (.cells #[.string ⟨#[]⟩, .slice none 0 0, .slice none 0 0] 26)) (.string ⟨#[]⟩) (.slice none 0 0) (.slice none 0 0)
    rw [World.size_alloc] at this
    exact this
  have P0 : Ps ((w.alloc (.cells #[.string ⟨#[]⟩, .slice none 0 0, .slice none 0 0] 26)).alloc (.cells #[.string ⟨#[]⟩, .slice none 0 0, .slice none 0 0] 26)) g s l := h.below b0
  generalize hR : rcp n l = R
  have HE : Hid ((ex opn l).bind (fun _ l => (quo l).bind fun nm l => (ex [44, 91] l).bind fun _ l => (lst 93 quo n true l).bind fun ds l => (ex [44, 91] l).bind fun _ l => (lst 93 (stp n) n true l).bind fun ss l => (ex [41] l).bind fun _ l => .ok ⟨nm, ds, ss⟩ l) = R) := hR
  clear hR h
  go_enter Try.func17, Try.ntmps17
  go_wp2_with fail
  generalize (w.alloc (.cells #[.string ⟨#[]⟩, .slice none 0 0, .slice none 0 0] 26)).alloc (.cells #[.string ⟨#[]⟩, .slice none 0 0, .slice none 0 0] 26) = w0 at b0 R0 S0 P0 ⊢
  have HP0 : Hid (Ps w0 g s l) := P0
  have HM0 : Hid (Pm g w w0) := Pm.below b0
  have HR0 : Hid (St3 w0 w.heap.size (.string ⟨#[]⟩) (.slice none 0 0) (.slice none 0 0)) := R0
  have HS0 : Hid (St3 w0 (w.heap.size + 1) (.string ⟨#[]⟩) (.slice none 0 0) (.slice none 0 0)) := S0
  generalize hr : w.heap.size = r at *
  obtain ⟨k, hk⟩ : ∃ k, k = r + 1 := ⟨_, rfl⟩
  rw [← hk] at HS0 ⊢
  have Hr : Hid (w.heap.size = r ∧ k = r + 1) := ⟨hr, hk⟩
  have hrk : r < k := by omega
  have HD0 : Hid True := trivial
  have HT0 : Hid True := trivial
  clear hr hk b0 R0 S0 P0
  have EC := expect_any g s l opn w0 (by omega) (by decide) HP0.out
  rw [e1] at EC
  refine EC.mono ?_
  clear EC
  intro e w1 hO
  cases hx : ex opn l with
  | bad m =>
    rw [hx] at hO HE
    obtain ⟨rfl, M1⟩ := hO
    go_wp2
    refine ⟨rfl, ?_⟩
    rw [← HE.out]
    exact ⟨rfl, HM0.out.trans M1⟩
  | ok u m1 =>
    have hlt1 := ex_le hx
    have hle1 : m1.length ≤ l.length := by omega
    clear hlt1
    rw [hx] at hO HE
    dsimp only [Rs.bind] at HE
    clear hx
    obtain ⟨⟨x, rfl, rfl⟩, P1, M1⟩ := hO
    have HP1' : Hid (Ps w1 g s m1) := P1
    have HM1' : Hid (Pm g w w1) := HM0.out.trans M1
    have HR1' : Hid (St3 w1 r (.string ⟨#[]⟩) (.slice none 0 0) (.slice none 0 0)) := HR0.out.same (M1.block r HR0.out.lt (by omega))
    have HS1' : Hid (St3 w1 k (.string ⟨#[]⟩) (.slice none 0 0) (.slice none 0 0)) := HS0.out.same (M1.block k HS0.out.lt (by omega))
    have HD1' : Hid True := trivial
    have HT1' : Hid True := trivial
    clear P1 M1 HP0 HM0 HR0 HS0 HD0 HT0
    have HP1 := HP1'
    have HM1 := HM1'
    have HR1 := HR1'
    have HS1 := HS1'
    have HD1 := HD1'
    have HT1 := HT1'
    clear HP1' HM1' HR1' HS1' HD1' HT1'
    go_wp2_with fail
    refine (quoted_any g s m1 w1 hs HP1.out).mono ?_
    intro e w2 hO
    cases hx : quo m1 with
    | bad m =>
      rw [hx] at hO HE
      obtain ⟨rfl, M1⟩ := hO
      go_wp2
      refine ⟨rfl, ?_⟩
      rw [← HE.out]
      exact ⟨rfl, HM1.out.trans M1⟩
    | ok nm m2 =>
      have hlt2 := quo_lt hx
      rw [hx] at hO HE
      dsimp only [Rs.bind] at HE
      clear hx
      obtain ⟨⟨x, rfl, rfl⟩, P1, M1⟩ := hO
      have HP2' : Hid (Ps w2 g s m2) := P1
      have HM2' : Hid (Pm g w w2) := HM1.out.trans M1
      have HR2' : Hid (St3 w2 r (.string ⟨#[]⟩) (.slice none 0 0) (.slice none 0 0)) := HR1.out.same (M1.block r HR1.out.lt (by omega))
      have HS2' : Hid (St3 w2 k (.string ⟨#[]⟩) (.slice none 0 0) (.slice none 0 0)) := HS1.out.same (M1.block k HS1.out.lt (by omega))
      have HD2' : Hid True := trivial
      have HT2' : Hid True := trivial
      clear P1 M1 HP1 HM1 HR1 HS1 HD1 HT1
      have z := HS2'.out.c0
      have z' := HS2'.out.f 0
      have hset : ∀ i, i ≠ k → (w2.setCell ⟨k, 0, none⟩ (.string (ba nm))).heap[i]? = w2.heap[i]? := fun i hi => Below.heap_setCell w2 ⟨k, 0, none⟩ _ i hi
      have HP2 : Hid (Ps (w2.setCell ⟨k, 0, none⟩ (.string (ba nm))) g s m2) := HP2'.out.same (hset g (by omega))
      have HM2 : Hid (Pm g w (w2.setCell ⟨k, 0, none⟩ (.string (ba nm)))) := HM2'.out.over k 0 _ (by rw [Hr.out.1]; omega)
      have HR2 : Hid (St3 (w2.setCell ⟨k, 0, none⟩ (.string (ba nm))) r (.string ⟨#[]⟩) (.slice none 0 0) (.slice none 0 0)) := HR2'.out.same (hset r (by omega))
      have HS2 : Hid (St3 (w2.setCell ⟨k, 0, none⟩ (.string (ba nm))) k (.string (ba nm)) (.slice none 0 0) (.slice none 0 0)) := HS2'.out.set0 _
      have HD2 : Hid True := trivial
      have HT2 : Hid True := trivial
      clear HP2' HM2' HR2' HS2' HD2' HT2' hset
      go_wp2_with fail
      generalize w2.setCell ⟨k, 0, none⟩ (.string (ba nm)) = w2 at HP2 HM2 HR2 HS2 HD2 HT2 ⊢
      clear z z'
      have EC := expect_any g s m2 [44, 91] w2 (by omega) (by decide) HP2.out
      rw [e2] at EC
      refine EC.mono ?_
      clear EC
      intro e w3 hO
      cases hx : ex [44, 91] m2 with
      | bad m =>
        rw [hx] at hO HE
        obtain ⟨rfl, M1⟩ := hO
        go_wp2
        refine ⟨rfl, ?_⟩
        rw [← HE.out]
        exact ⟨rfl, HM2.out.trans M1⟩
      | ok u m3 =>
        have hlt3 := ex_le hx
        have hle3 : m3.length ≤ m2.length := by omega
        clear hlt3
        rw [hx] at hO HE
        dsimp only [Rs.bind] at HE
        clear hx
        obtain ⟨⟨x, rfl, rfl⟩, P1, M1⟩ := hO
        have HP3' : Hid (Ps w3 g s m3) := P1
        have HM3' : Hid (Pm g w w3) := HM2.out.trans M1
        have HR3' : Hid (St3 w3 r (.string ⟨#[]⟩) (.slice none 0 0) (.slice none 0 0)) := HR2.out.same (M1.block r HR2.out.lt (by omega))
        have HS3' : Hid (St3 w3 k (.string (ba nm)) (.slice none 0 0) (.slice none 0 0)) := HS2.out.same (M1.block k HS2.out.lt (by omega))
        have HD3' : Hid True := trivial
        have HT3' : Hid True := trivial
        clear P1 M1 HP2 HM2 HR2 HS2 HD2 HT2
        have HP3 := HP3'
        have HM3 := HM3'
        have HR3 := HR3'
        have HS3 := HS3'
        have HD3 := HD3'
        have HT3 := HT3'
        clear HP3' HM3' HR3' HS3' HD3' HT3'
        go_wp2_with fail
        refine (listS_any g s m3 n (by omega) w3 hs HP3.out).mono ?_
        intro e w4 hO
        cases hx : lst 93 quo n true m3 with
        | bad m =>
          rw [hx] at hO HE
          obtain ⟨rfl, M1⟩ := hO
          go_wp2
          refine ⟨rfl, ?_⟩
          rw [← HE.out]
          exact ⟨rfl, HM3.out.trans M1⟩
        | ok ds m4 =>
          have hlt4 := lst_le quo_one hx
          rw [hx] at hO HE
          dsimp only [Rs.bind] at HE
          clear hx
          obtain ⟨⟨vd, rfl, TD⟩, P1, M1⟩ := hO
          have HP4' : Hid (Ps w4 g s m4) := P1
          have HM4' : Hid (Pm g w w4) := HM3.out.trans M1
          have HR4' : Hid (St3 w4 r (.string ⟨#[]⟩) (.slice none 0 0) (.slice none 0 0)) := HR3.out.same (M1.block r HR3.out.lt (by omega))
          have HS4' : Hid (St3 w4 k (.string (ba nm)) (.slice none 0 0) (.slice none 0 0)) := HS3.out.same (M1.block k HS3.out.lt (by omega))
          have HD4' : Hid (TxS w4 (k + 1) vd ds) := TD.up HS3.out.lt
          have HT4' : Hid True := trivial
          obtain ⟨pd, cd, rfl⟩ := TD.shape
          clear P1 M1 HP3 HM3 HR3 HS3 HD3 HT3 TD
          have z := HS4'.out.c1
          have z' := HS4'.out.f 1
          have hset : ∀ i, i ≠ k → (w4.setCell ⟨k, 1, none⟩ (.slice pd ds.length cd)).heap[i]? = w4.heap[i]? := fun i hi => Below.heap_setCell w4 ⟨k, 1, none⟩ _ i hi
          have HP4 : Hid (Ps (w4.setCell ⟨k, 1, none⟩ (.slice pd ds.length cd)) g s m4) := HP4'.out.same (hset g (by omega))
          have HM4 : Hid (Pm g w (w4.setCell ⟨k, 1, none⟩ (.slice pd ds.length cd))) := HM4'.out.over k 1 _ (by rw [Hr.out.1]; omega)
          have HR4 : Hid (St3 (w4.setCell ⟨k, 1, none⟩ (.slice pd ds.length cd)) r (.string ⟨#[]⟩) (.slice none 0 0) (.slice none 0 0)) := HR4'.out.same (hset r (by omega))
          have HS4 : Hid (St3 (w4.setCell ⟨k, 1, none⟩ (.slice pd ds.length cd)) k (.string (ba nm)) (.slice pd ds.length cd) (.slice none 0 0)) := HS4'.out.set1 _
          have HD4 : Hid (TxS (w4.setCell ⟨k, 1, none⟩ (.slice pd ds.length cd)) (k + 1) (.slice pd ds.length cd) ds) := HD4'.out.same (fun i hi => hset i (by have := (HD4'.out.lt i hi).1; omega))
          have HT4 : Hid True := trivial
          clear HP4' HM4' HR4' HS4' HD4' HT4' hset
          go_wp2_with fail
          generalize w4.setCell ⟨k, 1, none⟩ (.slice pd ds.length cd) = w4 at HP4 HM4 HR4 HS4 HD4 HT4 ⊢
          clear z z'
          have EC := expect_any g s m4 [44, 91] w4 (by omega) (by decide) HP4.out
          rw [e2] at EC
          refine EC.mono ?_
          clear EC
          intro e w5 hO
          cases hx : ex [44, 91] m4 with
          | bad m =>
            rw [hx] at hO HE
            obtain ⟨rfl, M1⟩ := hO
            go_wp2
            refine ⟨rfl, ?_⟩
            rw [← HE.out]
            exact ⟨rfl, HM4.out.trans M1⟩
          | ok u m5 =>
            have hlt5 := ex_le hx
            have hle5 : m5.length ≤ m4.length := by omega
            clear hlt5
            rw [hx] at hO HE
            dsimp only [Rs.bind] at HE
            clear hx
            obtain ⟨⟨x, rfl, rfl⟩, P1, M1⟩ := hO
            have HP5' : Hid (Ps w5 g s m5) := P1
            have HM5' : Hid (Pm g w w5) := HM4.out.trans M1
            have HR5' : Hid (St3 w5 r (.string ⟨#[]⟩) (.slice none 0 0) (.slice none 0 0)) := HR4.out.same (M1.block r HR4.out.lt (by omega))
            have HS5' : Hid (St3 w5 k (.string (ba nm)) (.slice pd ds.length cd) (.slice none 0 0)) := HS4.out.same (M1.block k HS4.out.lt (by omega))
            have HD5' : Hid (TxS w5 (k + 1) (.slice pd ds.length cd) ds) := HD4.out.pm M1 (by omega)
            have HT5' : Hid True := trivial
            clear P1 M1 HP4 HM4 HR4 HS4 HD4 HT4
            have HP5 := HP5'
            have HM5 := HM5'
            have HR5 := HR5'
            have HS5 := HS5'
            have HD5 := HD5'
            have HT5 := HT5'
            clear HP5' HM5' HR5' HS5' HD5' HT5'
            go_wp2_with fail
            refine (listT_any g s m5 n n (by omega) (by omega) w5 hs HP5.out).mono ?_
            intro e w6 hO
            cases hx : lst 93 (stp n) n true m5 with
            | bad m =>
              rw [hx] at hO HE
              obtain ⟨rfl, M1⟩ := hO
              go_wp2
              refine ⟨rfl, ?_⟩
              rw [← HE.out]
              exact ⟨rfl, HM5.out.trans M1⟩
            | ok ss m6 =>
              have hlt6 := lst_le (stp_one n) hx
              rw [hx] at hO HE
              dsimp only [Rs.bind] at HE
              clear hx
              obtain ⟨⟨vs, rfl, TS⟩, P1, M1⟩ := hO
              have HP6' : Hid (Ps w6 g s m6) := P1
              have HM6' : Hid (Pm g w w6) := HM5.out.trans M1
              have HR6' : Hid (St3 w6 r (.string ⟨#[]⟩) (.slice none 0 0) (.slice none 0 0)) := HR5.out.same (M1.block r HR5.out.lt (by omega))
              have HS6' : Hid (St3 w6 k (.string (ba nm)) (.slice pd ds.length cd) (.slice none 0 0)) := HS5.out.same (M1.block k HS5.out.lt (by omega))
              have HD6' : Hid (TxS w6 (k + 1) (.slice pd ds.length cd) ds) := HD5.out.pm M1 (by omega)
              have HT6' : Hid (StS w6 (k + 1) vs ss) := TS.up HS5.out.lt
              obtain ⟨pt, ct, rfl⟩ := TS.shape
              clear P1 M1 HP5 HM5 HR5 HS5 HD5 HT5 TS
              have z := HS6'.out.c2
              have z' := HS6'.out.f 2
              have hset : ∀ i, i ≠ k → (w6.setCell ⟨k, 2, none⟩ (.slice pt ss.length ct)).heap[i]? = w6.heap[i]? := fun i hi => Below.heap_setCell w6 ⟨k, 2, none⟩ _ i hi
              have HP6 : Hid (Ps (w6.setCell ⟨k, 2, none⟩ (.slice pt ss.length ct)) g s m6) := HP6'.out.same (hset g (by omega))
              have HM6 : Hid (Pm g w (w6.setCell ⟨k, 2, none⟩ (.slice pt ss.length ct))) := HM6'.out.over k 2 _ (by rw [Hr.out.1]; omega)
              have HR6 : Hid (St3 (w6.setCell ⟨k, 2, none⟩ (.slice pt ss.length ct)) r (.string ⟨#[]⟩) (.slice none 0 0) (.slice none 0 0)) := HR6'.out.same (hset r (by omega))
              have HS6 : Hid (St3 (w6.setCell ⟨k, 2, none⟩ (.slice pt ss.length ct)) k (.string (ba nm)) (.slice pd ds.length cd) (.slice pt ss.length ct)) := HS6'.out.set2 _
              have HD6 : Hid (TxS (w6.setCell ⟨k, 2, none⟩ (.slice pt ss.length ct)) (k + 1) (.slice pd ds.length cd) ds) := HD6'.out.same (fun i hi => hset i (by have := (HD6'.out.lt i hi).1; omega))
              have HT6 : Hid (StS (w6.setCell ⟨k, 2, none⟩ (.slice pt ss.length ct)) (k + 1) (.slice pt ss.length ct) ss) := HT6'.out.same (fun i h1 _ => hset i (by omega))
              clear HP6' HM6' HR6' HS6' HD6' HT6' hset
              go_wp2_with fail
              generalize w6.setCell ⟨k, 2, none⟩ (.slice pt ss.length ct) = w6 at HP6 HM6 HR6 HS6 HD6 HT6 ⊢
              clear z z'
              have EC := expect_any g s m6 [41] w6 (by omega) (by decide) HP6.out
              rw [e3] at EC
              refine EC.mono ?_
              clear EC
              intro e w7 hO
              cases hx : ex [41] m6 with
              | bad m =>
                rw [hx] at hO HE
                obtain ⟨rfl, M1⟩ := hO
                go_wp2
                refine ⟨rfl, ?_⟩
                rw [← HE.out]
                exact ⟨rfl, HM6.out.trans M1⟩
              | ok u m7 =>
                have hlt7 := ex_le hx
                have hle7 : m7.length ≤ m6.length := by omega
                clear hlt7
                rw [hx] at hO HE
                dsimp only [Rs.bind] at HE
                clear hx
                obtain ⟨⟨x, rfl, rfl⟩, P1, M1⟩ := hO
                have HP7' : Hid (Ps w7 g s m7) := P1
                have HM7' : Hid (Pm g w w7) := HM6.out.trans M1
                have HR7' : Hid (St3 w7 r (.string ⟨#[]⟩) (.slice none 0 0) (.slice none 0 0)) := HR6.out.same (M1.block r HR6.out.lt (by omega))
                have HS7' : Hid (St3 w7 k (.string (ba nm)) (.slice pd ds.length cd) (.slice pt ss.length ct)) := HS6.out.same (M1.block k HS6.out.lt (by omega))
                have HD7' : Hid (TxS w7 (k + 1) (.slice pd ds.length cd) ds) := HD6.out.pm M1 (by omega)
                have HT7' : Hid (StS w7 (k + 1) (.slice pt ss.length ct) ss) := HT6.out.pm M1 (by omega)
                clear P1 M1 HP6 HM6 HR6 HS6 HD6 HT6
                have HP7 := HP7'
                have HM7 := HM7'
                have HR7 := HR7'
                have HS7 := HS7'
                have HD7 := HD7'
                have HT7 := HT7'
                clear HP7' HM7' HR7' HS7' HD7' HT7'
                have a0 := HS7.out.c0
                have a1 := HS7.out.c1
                have a2 := HS7.out.c2
                have r0 := HR7.out.c0
                have r1 := HR7.out.c1
                have r2 := HR7.out.c2
                have q0 := HR7.out.f 0
                have q1 := HR7.out.f 1
                have q2 := HR7.out.f 2
                go_wp2
                have HR9 : St3 (((w7.setCell ⟨r, 0, none⟩ (.string (ba nm))).setCell ⟨r, 1, none⟩ (.slice pd ds.length cd)).setCell ⟨r, 2, none⟩ (.slice pt ss.length ct)) r (.string (ba nm)) (.slice pd ds.length cd) (.slice pt ss.length ct) := ((HR7.out.set0 _).set1 _).set2 _
                have hb9 : ∀ j, j ≠ r → (((w7.setCell ⟨r, 0, none⟩ (.string (ba nm))).setCell ⟨r, 1, none⟩ (.slice pd ds.length cd)).setCell ⟨r, 2, none⟩ (.slice pt ss.length ct)).heap[j]? = w7.heap[j]? := fun j hj => (Below.heap_setCell _ ⟨r, 2, none⟩ _ j hj).trans ((Below.heap_setCell _ ⟨r, 1, none⟩ _ j hj).trans (Below.heap_setCell _ ⟨r, 0, none⟩ _ j hj))
                have HM9 : Pm g w (((w7.setCell ⟨r, 0, none⟩ (.string (ba nm))).setCell ⟨r, 1, none⟩ (.slice pd ds.length cd)).setCell ⟨r, 2, none⟩ (.slice pt ss.length ct)) := ((HM7.out.over r 0 _ (by rw [Hr.out.1]; exact Nat.le_refl _)).over r 1 _ (by rw [Hr.out.1]; exact Nat.le_refl _)).over r 2 _ (by rw [Hr.out.1]; exact Nat.le_refl _)
                have HP9 : Ps (((w7.setCell ⟨r, 0, none⟩ (.string (ba nm))).setCell ⟨r, 1, none⟩ (.slice pd ds.length cd)).setCell ⟨r, 2, none⟩ (.slice pt ss.length ct)) g s m7 := HP7.out.same (hb9 g (by omega))
                have HD9 : TxS (((w7.setCell ⟨r, 0, none⟩ (.string (ba nm))).setCell ⟨r, 1, none⟩ (.slice pd ds.length cd)).setCell ⟨r, 2, none⟩ (.slice pt ss.length ct)) w.heap.size (.slice pd ds.length cd) ds := (HD7.out.same (fun j hj => hb9 j (by have := (HD7.out.lt j hj).1; omega))).up (by rw [Hr.out.1]; omega)
                have HT9 : StS (((w7.setCell ⟨r, 0, none⟩ (.string (ba nm))).setCell ⟨r, 1, none⟩ (.slice pd ds.length cd)).setCell ⟨r, 2, none⟩ (.slice pt ss.length ct)) w.heap.size (.slice pt ss.length ct) ss := (HT7.out.same (fun j h1 _ => hb9 j (by omega))).up (by rw [Hr.out.1]; omega)
                generalize ((w7.setCell ⟨r, 0, none⟩ (.string (ba nm))).setCell ⟨r, 1, none⟩ (.slice pd ds.length cd)).setCell ⟨r, 2, none⟩ (.slice pt ss.length ct) = w9 at HR9 HM9 HP9 HD9 HT9 ⊢
                have z0 := HR9.c0
                have z1 := HR9.c1
                have z2 := HR9.c2
                refine bodyPost_ret (v := .agg #[(.string (ba nm)), (.slice pd ds.length cd), (.slice pt ss.length ct)]) (by simp [results, Try.results17, go_sem, z0, z1, z2]) rfl ?_
                rw [← HE.out]
                exact ⟨⟨_, rfl, _, _, rfl, HD9, HT9⟩, HP9, HM9⟩

end Go.Proofs.Ytbfhfejdmhjccaa
