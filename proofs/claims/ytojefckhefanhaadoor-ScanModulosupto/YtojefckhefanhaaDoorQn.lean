/- Gathered: SmA OfB SmB ShaE SmC TbT. -/
import Derived.Lib.AppendIntMem
import Derived.Lib.ItoaLen
import Derived.ChangeKeysEq
import Derived.Test.YtojefckhefanhaaDoorQi
import Derived.Test.YtojefckhefanhaaDoorQj
import Derived.Test.YtojefckhefanhaaDoorQl
import Derived.Test.YtojefckhefanhaaDoorQm
/- scan.Modulo, walked (own text of the verifier). -/
namespace Go.Proofs.YtojefckhefanhaaDoor
open Go.RowKit Go.Shelf
/-- The library's table of powers lies in memory. -/
def PT (w : World) : Prop := Lib.TabIs Tryd.prog w "internal/strconv.uint64pow10" .u64 Lib.pow10Tab
theorem PT.below {w w' : World} (h : PT w) (b : Below w.heap.size w w') : PT w' := Lib.tabBelow_of_tabIs h w' b
namespace Sc
def itS (p : Nat) : ByteArray := ⟨(Lib.itoa (p : Int)).toArray⟩
theorem itS_le (p : Nat) (h : p ≤ 1048576) : (itS p).size ≤ 21 := Lib.itoa_length_le (p : Int) (by omega) (by omega)
theorem itoa_any (p : Nat) (w : World) (h1 : p ≤ 1048576) (hT : PT w) :
    Calls Tryd.prog 14 #[.int .i64 (p : Int)] w fun e w' => e = .returned (.string (itS p)) ∧ Below w.heap.size w w' :=
  (Tryd.strconv_Itoa (p : Int) (by omega) (by omega) w hT).mono (by rintro e w' ⟨rfl, k, os, rfl⟩; exact ⟨rfl, Lib.below_grow _ w (Nat.le_refl _) k os⟩)
/-- The places behind the text. -/
def ap (S : ByteArray) (L : List Nat) : ByteArray := L.foldl (fun S p => S ++ ((ByteArray.mk #[124]) ++ itS p)) S
theorem ap_succ (S : ByteArray) (L : List Nat) (k : Nat) (h : k < L.length) : ap S (L.take (k + 1)) = ap S (L.take k) ++ ((ByteArray.mk #[124]) ++ itS (L[k]'h)) := by
  unfold ap
  rw [List.take_succ_eq_append_getElem h, List.foldl_append]
  rfl
theorem ap_size (S : ByteArray) (L : List Nat) (hL : ∀ p ∈ L, p ≤ 1048576) : (ap S L).size ≤ S.size + 22 * L.length := by
  induction L generalizing S with
  | nil => exact Nat.le_refl _
  | cons a l ih =>
    have h1 := ih (S ++ ((ByteArray.mk #[124]) ++ itS a)) (fun p hp => hL p (by simp [hp]))
    have h2 := itS_le a (hL a (by simp))
    have h3 : (S ++ ((ByteArray.mk #[124]) ++ itS a)).size = S.size + (1 + (itS a).size) := by rw [ByteArray.size_append, ByteArray.size_append]; rfl
    show (ap (S ++ ((ByteArray.mk #[124]) ++ itS a)) l).size ≤ _
    rw [List.length_cons]
    omega
theorem pl_le (f : List UInt8) (hf : f.length = 32) : ∀ (n : Nat) (l : List UInt8), l.length ≤ n → ∀ o, ∀ p ∈ pl f o l, p ≤ o + l.length := by
  intro n
  induction n with
  | zero =>
    intro l hl o p hp
    rw [pl_short (by omega)] at hp
    cases hp
  | succ n ih =>
    intro l hl o p hp
    by_cases h0 : l.length < 32
    · rw [pl_short h0] at hp; cases hp
    · by_cases hw : l.take 32 = f
      · rw [pl_hit hw (by omega)] at hp
        rcases List.mem_cons.1 hp with rfl | hp
        · omega
        · have := ih (l.drop 32) (by rw [List.length_drop]; omega) _ p hp
          rw [List.length_drop] at this
          omega
      · rw [pl_miss hw hf (by omega)] at hp
        have := ih (l.drop 1) (by rw [List.length_drop]; omega) _ p hp
        rw [List.length_drop] at this
        omega
theorem undDIGm : Tryd.prog.underlying 24 = some (.array 32 5) := by kernel_rfl
theorem szDIGm : (Tryd.prog.info? 24).map (·.size) = some 32 := by kernel_rfl
theorem undD32m : Tryd.prog.underlying 23 = some (.array 32 5) := by kernel_rfl
theorem szD32m : (Tryd.prog.info? 23).map (·.size) = some 32 := by kernel_rfl
theorem results_ctt {P : Program} {k : IntKind} {n e g : Nat} {f : Nat → Int} {fn : Func} {p q r : Tmp} {ty : TypeId} (hr : fn.results = #[.cell p ty, .tmp q, .tmp r]) (tmps : Array Value) (w : World)
    (hp : tmps.getD p undef = .pointer (some ⟨g, 0, none⟩)) (h : Row k w g n f) (hu : P.underlying ty = some (.array n e)) (hi : (P.info? ty).map (·.size) = some n) :
    (results fn tmps).run P w = .ok (.tuple #[.agg (cs k n f), tmps.getD q undef, tmps.getD r undef]) w := by
  have hl := run_loadVar_row' ty h hu hi
  have hp' : tmps[p]?.getD undef = .pointer (some ⟨g, 0, none⟩) := by simpa using hp
  simp [results, hr, hp', asAddr, hl]
theorem cs_zero32m : (#[.int .u8 0, .int .u8 0, .int .u8 0, .int .u8 0, .int .u8 0, .int .u8 0, .int .u8 0, .int .u8 0, .int .u8 0, .int .u8 0, .int .u8 0, .int .u8 0, .int .u8 0, .int .u8 0, .int .u8 0, .int .u8 0, .int .u8 0, .int .u8 0, .int .u8 0, .int .u8 0, .int .u8 0, .int .u8 0, .int .u8 0, .int .u8 0, .int .u8 0, .int .u8 0, .int .u8 0, .int .u8 0, .int .u8 0, .int .u8 0, .int .u8 0, .int .u8 0] : Array Value) = cs .u8 32 (fun _ => 0) := by rfl
def nh : ByteArray := ⟨#[48, 48, 48, 48, 48, 48, 48, 48, 48, 48, 48, 48, 48, 48, 48, 48, 48, 48, 48, 48, 48, 48, 48, 48, 48, 48, 48, 48, 48, 48, 48, 48]⟩
theorem h_nh : hsh nh = 0 := by decide +kernel
/-- What is told of a text by its own hash s. -/
def mo (x s : ByteArray) : ByteArray := ap (ba (rw' s.data.toList nh.data.toList x.data.toList)) (pl s.data.toList 0 x.data.toList)
def dgS (s : ByteArray) : Nat → Int := dg (hw (bt (msg s)) (nb s))
theorem dgs_S (s : ByteArray) : dgs s = cs .u8 32 (dgS s) := rfl

set_option maxRecDepth 100000 in
set_option maxHeartbeats 8000000 in
theorem modulo_any (x s : ByteArray) (w : World) (hx : x.size ≤ 1048576) (hK : KT w) (hT : PT w) :
    Calls Tryd.prog 5 #[.string x, .string s] w fun e w' => Below w.heap.size w w' ∧ ((hsh s ≠ 0 ∧ e = .returned (.tuple #[.agg (cs .u8 32 fun _ => 0), .slice none 0 0, .int .i64 131])) ∨ (hsh s = 0 ∧ ∃ v, RI w' w'.heap.size v (pl s.data.toList 0 x.data.toList) ∧ e = .returned (.tuple #[.agg (cs .u8 32 (dgS (mo x s))), v, .int .i64 0]))) := by
  have HK : Hid (KT w) := hK
  have HT : Hid (PT w) := hT
  clear hK hT
  go_enter Tryd.func5, Tryd.ntmps5
  go_wp2_with fail
  rw [cs_zero32m]
  have R0 : Row .u8 (w.alloc (.cells (cs .u8 32 fun _ => 0) 24)) w.heap.size 32 (fun _ => 0) := Row.box
  have B0 : Below w.heap.size w (w.alloc (.cells (cs .u8 32 fun _ => 0) 24)) := (Below.refl _ _).alloc (Nat.le_refl _) _
  have z0 : w.heap.size < (w.alloc (.cells (cs .u8 32 fun _ => 0) 24)).heap.size := by rw [World.size_alloc]; omega
  show Calls Tryd.prog 11 #[.string x, .string s, .string nh] (w.alloc (.cells (cs .u8 32 fun _ => 0) 24)) _
  obtain ⟨D, hD⟩ : ∃ D, w.heap.size = D := ⟨_, rfl⟩
  have HD : Hid (w.heap.size = D) := hD
  have K1 : Hid (KT (w.alloc (.cells (cs .u8 32 fun _ => 0) 24))) := HK.out.below B0
  have T1 : Hid (PT (w.alloc (.cells (cs .u8 32 fun _ => 0) 24))) := HT.out.below B0
  rw [hD] at R0 B0 z0 ⊢
  clear hD HK HT
  generalize w.alloc (.cells (cs .u8 32 fun _ => 0) 24) = w1 at *
  refine (rewrite_any x s nh w1 (by omega)).mono ?_
  rintro e w2 ⟨b2, hcase⟩
  have R2 : Row .u8 w2 D 32 (fun _ => 0) := R0.below b2 z0
  have HB2 : Hid (Below D w w2) := B0.trans (b2.mono (by omega))
  have HZ2 : Hid (D < w2.heap.size) := Nat.lt_of_lt_of_le z0 b2.size
  have HZ1 : Hid (D < w1.heap.size) := z0
  have K2 : Hid (KT w2) := K1.out.below b2
  have T2 : Hid (PT w2) := T1.out.below b2
  clear b2 R0 B0 z0 K1 T1
  rcases hcase with ⟨h1, rfl⟩ | ⟨_, h2, -⟩ | ⟨h1, -, v, own, rfl⟩
  · have h131 : hsh s = 131 := by
      rcases hsh_cases s with ⟨-, e⟩ | ⟨-, e⟩
      · exact absurd e h1
      · exact e
    have HS : Hid (hsh s ≠ 0) := h1
    rw [h131]
    clear h1 h131
    go_wp2_with (refine wpList_store_any (f := fun _ => 0) (by rfl) 24 (.tmp 4) (.tmp 22) (by rfl) D (by rfl) (by rfl) R2 szDIGm (by rfl) ?_; intro W5 R5 U5)
    exact bodyPost_ret (results_ctt Tryd.results5 _ _ rfl R5 undDIGm szDIGm) rfl ⟨by rw [HD.out]; exact U5.below HB2.out (Nat.le_refl _) (Nat.le_of_lt HZ2.out), .inl ⟨HS.out, rfl⟩⟩
  · exact absurd h_nh h2
  have HS : Hid (hsh s = 0) := h1
  have RI2 := ri_own own
  have hown : ∀ b, v.ownBlock = some b → w1.heap.size ≤ b := fun b hb => (World.ownsRow.lt own b hb).1
  have hpl : ∀ p ∈ pl s.data.toList 0 x.data.toList, p ≤ 1048576 := fun p hp => by
    have := pl_le s.data.toList (isH_of h1).len _ x.data.toList (Nat.le_refl _) 0 p hp
    rw [size_list] at this
    omega
  have hrz : (ba (rw' s.data.toList nh.data.toList x.data.toList)).size = x.size := by rw [ba_size, rw_len (isH_of h_nh).len, size_list]
  have hll : (pl s.data.toList 0 x.data.toList).length ≤ x.size := by rw [← size_list]; exact pl_len _ _ _
  have HMO : Hid (mo x s = ap (ba (rw' s.data.toList nh.data.toList x.data.toList)) (pl s.data.toList 0 x.data.toList)) := rfl
  clear own h1
  generalize hLe : pl s.data.toList 0 x.data.toList = L at *
  have HLE : Hid (pl s.data.toList 0 x.data.toList = L) := hLe
  clear hLe
  generalize ba (rw' s.data.toList nh.data.toList x.data.toList) = S at *
  have HPL : Hid (∀ p ∈ L, p ≤ 1048576) := hpl
  obtain ⟨xv, cv, rfl, hcell⟩ := RI2
  have HOW : Hid (∀ b o, xv = some ⟨b, o, none⟩ → D < b) := fun b o e => by
    subst e
    exact Nat.lt_of_lt_of_le HZ1.out (hown b rfl)
  have HC : Hid (∀ i t, L[i]? = some t → ∃ b o, xv = some ⟨b, o, none⟩ ∧ b < w2.heap.size ∧ w2.cell? ⟨b, o + i, none⟩ = some (.int .i64 ((t : Nat) : Int))) := hcell
  clear hcell hpl hown
  have HR2 : Hid (Row .u8 w2 D 32 (fun _ => 0)) := R2
  clear R2
  go_wp2_with fail
  with_reducible refine (new_wrote w2).mono ?_
  rintro e w3 ⟨g, rfl, hg, hgl, W3, b3⟩
  have HW3 : Hid (Wrote w3 g ByteArray.empty) := W3
  have HB3 : Hid (Below w2.heap.size w2 w3) := b3
  have hg0 : 0 < g := by have := HZ2.out; omega
  have CW := writeText_wrote g ByteArray.empty S w3 W3 (by rw [hrz]; show 0 + x.size ≤ _; omega) (K2.out.below b3) hg0
  rw [ByteArray.empty_append] at CW
  clear W3 b3
  go_wp2_with fail
  with_reducible refine CW.mono ?_
  rintro e w4 ⟨rfl, W4, G4⟩
  have HW4 : Hid (Wrote w4 g S) := W4
  have HB4 : Hid (Below w2.heap.size w2 w4) := HB3.out.grown G4 HB3.out.size (fun k hk => by have := Option.some.inj hk; omega)
  have HG : Hid (w2.heap.size ≤ g) := hg
  clear CW W4 G4 HB3 HW3 hg hgl
  go_wp2_with fail
  go_loopg [30] L.length (fun gk iv wr => ∃ (k : Nat), gk + k = L.length ∧ iv = .int .i64 (k : Int) ∧ Hid (Wrote wr g (ap S (L.take k))) ∧ Hid (Below w2.heap.size w2 wr))
  case atStart => exact ⟨0, rfl, rfl, HW4, HB4⟩
  case round =>
    obtain ⟨k, hgk, rfl, hW, hB⟩ := hrel
    by_cases hk : k < L.length
    · obtain ⟨b1, o1, rfl, hb1, c1⟩ := HC.out k (L[k]'hk) (List.getElem?_eq_getElem hk)
      have d1 : wr.cell? ⟨b1, o1 + k, none⟩ = some (.int .i64 ((L[k]'hk : Nat) : Int)) := (hB.out.cell (p := ⟨b1, o1 + k, none⟩) hb1).trans c1
      have hap := ap_succ S L k hk
      have hpk : L[k]'hk ≤ 1048576 := HPL.out _ (List.getElem_mem hk)
      have hsz := ap_size S (L.take (k + 1)) (fun p hp => HPL.out p (List.mem_of_mem_take hp))
      rw [List.length_take, hap] at hsz
      generalize L[k]'hk = p at *
      rw [ByteArray.size_append, ByteArray.size_append] at hsz
      have hi := itS_le p hpk
      have CI := itoa_any p wr hpk (T2.out.below hB.out)
      clear c1
      go_wp2_with fail
      with_reducible refine CI.mono ?_
      rintro e w5 ⟨rfl, b5⟩
      have HB5 : Hid (Below w2.heap.size w2 w5) := hB.out.trans (b5.mono hB.out.size)
      have CW := writeText_wrote g (ap S (L.take k)) ((ByteArray.mk #[124]) ++ itS p) w5 (hW.out.below b5 hW.out.lt) (by rw [ByteArray.size_append]; omega) (K2.out.below HB5.out) hg0
      have h124 : (ByteArray.mk #[124]).size = 1 := rfl
      clear CI b5
      go_wp2_with fail
      with_reducible refine CW.mono ?_
      rintro e w6 ⟨rfl, W6, G6⟩
      rw [← hap] at W6
      have HW6 : Hid (Wrote w6 g (ap S (L.take (k + 1)))) := W6
      have HB6 : Hid (Below w2.heap.size w2 w6) := HB5.out.grown G6 HB5.out.size (fun k hk => by have := Option.some.inj hk; have := HG.out; omega)
      clear CW W6 G6 HB5 hap hsz
      go_wp2
      go_roundg (gk - 1)
      case measure => omega
      case rel => exact ⟨k + 1, by omega, by go_num, HW6, HB6⟩
    · have hLk : L.take k = L := List.take_of_length_le (by omega)
      rw [hLk] at hW
      have hsz := ap_size S L HPL.out
      have CS := sum_wrote g (ap S L) wr hW.out (by omega) (K2.out.below hB.out) hg0
      rw [dgs_S] at CS
      clear hLk
      go_wp2_with fail
      with_reducible refine CS.mono ?_
      rintro e w5 ⟨rfl, b5⟩
      have HB5 : Hid (Below w2.heap.size w2 w5) := hB.out.trans (b5.mono hB.out.size)
      have R5 : Row .u8 w5 D 32 (fun _ => 0) := HR2.out.below HB5.out HZ2.out
      have HZ5 : Hid (D < w5.heap.size) := Nat.lt_of_lt_of_le HZ2.out HB5.out.size
      have HRI : Hid (∀ W, Upd w5 W D → RI W W.heap.size (.slice xv L.length cv) L) := fun W U => ⟨xv, cv, rfl, fun i t ht => by
        obtain ⟨b, o, e1, e2, e3⟩ := HC.out i t ht
        have h4 := HOW.out b o e1
        have h5 : b < w5.heap.size := Nat.lt_of_lt_of_le e2 HB5.out.size
        refine ⟨b, o, e1, by rw [U.size]; exact h5, ?_⟩
        rw [World.cell?_of_block (w := w5) (w' := W) (a := ⟨b, o + i, none⟩) (U.block b h5 (by omega))]
        exact (HB5.out.cell (p := ⟨b, o + i, none⟩) e2).trans e3⟩
      clear CS b5 hsz
      go_wp2_with (refine wpList_store_any (by rfl) 24 (.tmp 4) (.tmp 41) (by rfl) D (by rfl) (by rfl) R5 szDIGm (by rfl) ?_; intro W6 R6 U6)
      exact bodyPost_ret (results_ctt Tryd.results5 _ _ rfl R6 undDIGm szDIGm) rfl ⟨by rw [HD.out]; exact U6.below (HB2.out.trans (HB5.out.mono (by have := HZ2.out; omega))) (Nat.le_refl _) (Nat.le_of_lt HZ5.out), .inr ⟨HS.out, .slice xv L.length cv, by rw [HLE.out]; exact HRI.out W6 U6, by rw [HMO.out]; rfl⟩⟩

end Sc
end Go.Proofs.YtojefckhefanhaaDoor
/- What the reference's Of answers. -/
namespace Go.Proofs.YtojefckhefanhaaDoor
open Go.RowKit
theorem Tryd.sz23 : (Tryd.prog.info? 23).map (·.size) = some 32 := by kernel_rfl
set_option maxRecDepth 100000 in
set_option maxHeartbeats 8000000 in
theorem rof_any (s : ByteArray) (w : World) (hs : s.size ≤ 140737488351232) :
    Calls Tryd.prog 17 #[.string s] w fun e w' => e = .returned (.agg (cs .u8 32 (dg (hw (bt (msg s)) (nb s))))) ∧ Below w.heap.size w w' := by
  have hsz := msg_size s
  have hnb : nb s ≤ 140737488351232 := by unfold nb; omega
  have hp72 : (padStr s.size).size ≤ 72 := by rw [padStr_size]; omega
  have HM : Hid (s ++ padStr s.size = msg s) := rfl
  go_enter Tryd.func17, Tryd.ntmps17
  go_wp2_with fail
  refine (rpad_all s.size _ (by omega)).mono ?_
  rintro e w1 ⟨rfl, b1⟩
  have R1 : Row .u8 w1 w.heap.size 32 (fun _ => 0) := Row.below (Row.rep (by rfl)) b1 (by rw [World.size_alloc]; omega)
  have B1 : Below w.heap.size w w1 := ((Below.refl _ _).alloc (Nat.le_refl _) _).trans (b1.mono (by rw [World.size_alloc]; omega))
  have z1 : w.heap.size < w1.heap.size := by have := b1.size; rw [World.size_alloc] at this; omega
  clear b1
  go_wp2_with fail
  refine (rstart_any _).mono ?_
  rintro e w2 ⟨rfl, b2⟩
  rw [HM.out]
  have R2 := R1.below b2 z1
  have B2 : Below w.heap.size w w2 := B1.trans (b2.mono B1.size)
  have z2 : w.heap.size < w2.heap.size := Nat.lt_of_lt_of_le z1 b2.size
  clear R1 B1 b2 HM
  go_wp2_with (refine wpList_store_any (by rfl) 70 (.tmp 4) (.tmp 15) (by rfl) w2.heap.size (by rfl) (by rfl) (Row.rep (n := 8) (z := 0) rfl) Tryd.sz70 (by rfl) ?_; intro W3 RH3 U3)
  have R3 := (R2.alloc (by omega) _).upd U3 (by rw [World.size_alloc]; omega) (by omega)
  have B3 : Below w.heap.size w W3 := U3.below (B2.alloc (by omega) _) (by omega) (by rw [World.size_alloc]; omega)
  have z3 : w2.heap.size < W3.heap.size := by rw [U3.size, World.size_alloc]; omega
  clear R2 B2 U3
  generalize hT : nb s = T at hsz hnb ⊢
  generalize hM : msg s = M at hsz ⊢
  have HT : Hid (nb s = T) := hT
  have HM : Hid (msg s = M) := hM
  clear hT hM hp72
  have gl := get_bt M
  generalize hg2 : w2.heap.size = gh at *
  clear hg2 z1
  go_loopw [5] (fun i wr => ∃ t : Nat, t ≤ T ∧ i = .int .i64 (64 * (t : Int)) ∧ Row .u32 wr gh 8 (hw (bt M) t) ∧ Row .u8 wr w.heap.size 32 (fun _ => 0) ∧ Below w.heap.size w wr ∧ gh < wr.heap.size) (fun i _ => 64 * T - (intOf i).toNat)
  case atStart => exact ⟨0, Nat.zero_le _, by simp, RH3, R3, B3, z3⟩
  case round =>
    obtain ⟨t, ht, rfl, RH, R, B, z⟩ := hrel
    clear RH3 R3 B3 z3
    obtain ⟨wo, hwo⟩ : ∃ wo, wo = wr := ⟨_, rfl⟩
    subst hwo
    by_cases hlt : t < T
    · go_wp2
      go_loopw [7] (fun i wi => ∃ j : Nat, j ≤ 64 ∧ i = .int .i64 j ∧ Row .u8 wi wo.heap.size 64 (upF (fun x => bt M (64 * t + x)) j) ∧ Row .u32 wi gh 8 (hw (bt M) t) ∧ Row .u8 wi w.heap.size 32 (fun _ => 0) ∧ Below w.heap.size w wi ∧ wo.heap.size < wi.heap.size) (fun i _ => 64 - (intOf i).toNat)
      case atStart => exact ⟨0, Nat.zero_le _, rfl, (Row.rep (n := 64) (z := 0) rfl).congr (fun x _ => (upF_zero _ x).symm), RH.alloc z _, R.alloc (by omega) _, B.alloc (by omega) _, by rw [World.size_alloc]; omega⟩
      case round =>
        obtain ⟨j, hj, rfl, RB, RH, R, B, zi⟩ := hrel
        by_cases hj64 : j < 64
        · have c1 := RB.cell j hj64
          have f1 := RB.free j hj64
          have hM : 64 * t + j < M.size := by omega
          go_wp2
          go_roundw
          case rel => exact ⟨j + 1, by omega, by go_num, (RB.set j _ hj64).congr (fun x _ => upF_set (fun x => bt M (64 * t + x)) j x), RH.other _ _ (by simp; omega), R.other _ _ (by simp; omega), B.setCell (by simp; omega) _, by rw [World.size_setCell]; exact zi⟩
          case measure => simp [intOf]; omega
        · obtain rfl : j = 64 := by omega
          have RB' : Row .u8 wr wo.heap.size 64 (fun x => bt M (64 * t + x)) := RB.congr (fun x hx => upF_all _ 64 x hx)
          clear RB
          go_wp2_with (first | refine wpList_load_arr (by rfl) 70 (.tmp 4) (by rfl) gh (by rfl) RH Tryd.underlying70 Tryd.sz70 ?_ | refine wpList_load_arr (by rfl) 74 (.tmp 6) (by rfl) wo.heap.size (by rfl) RB' Tryd.underlying74 Tryd.sz74 ?_)
          refine (rblock_any (hw (bt M) t) (fun x => bt M (64 * t + x)) _ (hw_w _ _) (fun x => bt_bd M _)).mono ?_
          rintro e w5 ⟨rfl, b5⟩
          have RH5 := RH.below b5 (by omega)
          have R5 := R.below b5 (by omega)
          have B5 : Below w.heap.size w w5 := B.trans (b5.mono B.size)
          have z5 : gh < w5.heap.size := by have := b5.size; omega
          have z6 : w.heap.size < w5.heap.size := by omega
          clear RH R B b5 RB'
          go_wp2_with (refine wpList_store_any (by rfl) 70 (.tmp 4) (.tmp 35) (by rfl) gh (by rfl) (by rfl) RH5 Tryd.sz70 (by rfl) ?_; intro W6 RH6 U6)
          have R6 := R5.upd U6 z6 (by omega)
          have B6 : Below w.heap.size w W6 := U6.below B5 (by omega) (by omega)
          have z7 : gh < W6.heap.size := by rw [U6.size]; exact z5
          clear RH5 R5 B5 U6
          go_wp2
          go_roundw
          case rel => exact ⟨t + 1, by omega, by congr 1, RH6, R6, B6, z7⟩
          case measure => simp [intOf]; omega
    · obtain rfl : t = T := by omega
      have HW : Hid (∀ j, W32 (hw (bt M) t j)) := hw_w (bt M) t
      generalize hh : hw (bt M) t = h at HW RH ⊢
      have HH : Hid (hw (bt M) t = h) := hh
      clear hh
      go_wp2
      go_loopw [9] (fun i wi => ∃ j : Nat, j ≤ 32 ∧ i = .int .i64 j ∧ Row .u8 wi wo.heap.size 32 (upF (dg h) j) ∧ Row .u32 wi gh 8 h ∧ Row .u8 wi w.heap.size 32 (fun _ => 0) ∧ Below w.heap.size w wi ∧ wo.heap.size < wi.heap.size) (fun i _ => 32 - (intOf i).toNat)
      case atStart => exact ⟨0, Nat.zero_le _, rfl, (Row.rep (n := 32) (z := 0) rfl).congr (fun x _ => (upF_zero _ x).symm), RH.alloc z _, R.alloc (by omega) _, B.alloc (by omega) _, by rw [World.size_alloc]; omega⟩
      case round =>
        obtain ⟨j, hj, rfl, RB, RH, R, B, zi⟩ := hrel
        by_cases hj32 : j < 32
        · have c1 := RB.cell j hj32
          have f1 := RB.free j hj32
          have c2 := RH.cell (j / 4) (by omega)
          have hx0 := (HW.out (j / 4)).1
          have hx1 := (HW.out (j / 4)).2
          have hdg : Hid (∀ x, (if x = j then h (j / 4) / 2 ^ (8 * (3 - j % 4)) % 256 else upF (dg h) j x) = upF (dg h) (j + 1) x) := fun x => upF_set (dg h) j x
          go_wp2
          go_roundw
          case rel => exact ⟨j + 1, by omega, by go_num, (RB.set j _ hj32).congr (fun x _ => hdg.out x), RH.other _ _ (by simp; omega), R.other _ _ (by simp; omega), B.setCell (by simp; omega) _, by rw [World.size_setCell]; exact zi⟩
          case measure => simp [intOf]; omega
        · obtain rfl : j = 32 := by omega
          have RB' : Row .u8 wr wo.heap.size 32 (dg h) := RB.congr (fun x hx => upF_all _ 32 x hx)
          clear RB
          go_wp2_with (first | refine wpList_load_arr (by rfl) 23 (.tmp 8) (by rfl) wo.heap.size (by rfl) RB' Tryd.underlying23 Tryd.sz23 ?_ | (refine wpList_store_any (by rfl) 23 (.tmp 2) (.tmp 53) (by rfl) w.heap.size (by rfl) (by rfl) R Tryd.sz23 (by rfl) ?_; intro W7 R7 U7))
          exact bodyPost_ret (results_arr Tryd.results17 _ _ rfl R7 Tryd.underlying23 Tryd.sz23) rfl ⟨by rw [HM.out, HT.out, HH.out], U7.below B (Nat.le_refl _) (by omega)⟩
#print axioms rof_any
end Go.Proofs.YtojefckhefanhaaDoor
/- depotref14's Modulo, walked (own text of the verifier). -/
namespace Go.Proofs.YtojefckhefanhaaDoor
open Go.RowKit Go.Shelf
namespace Sc

set_option maxRecDepth 100000 in
set_option maxHeartbeats 8000000 in
theorem rmodulo_any (x s : ByteArray) (w : World) (hx : x.size ≤ 1048576) (hK : KT w) (hT : PT w) :
    Calls Tryd.prog 6 #[.string x, .string s] w fun e w' => Below w.heap.size w w' ∧ ((hsh s ≠ 0 ∧ e = .returned (.tuple #[.agg (cs .u8 32 fun _ => 0), .slice none 0 0, .int .i64 131])) ∨ (hsh s = 0 ∧ ∃ v, RI w' w'.heap.size v (pl s.data.toList 0 x.data.toList) ∧ e = .returned (.tuple #[.agg (cs .u8 32 (dgS (mo x s))), v, .int .i64 0]))) := by
  have HK : Hid (KT w) := hK
  have HT : Hid (PT w) := hT
  clear hK hT
  go_enter Tryd.func6, Tryd.ntmps6
  go_wp2_with fail
  rw [cs_zero32m]
  have R0 : Row .u8 (w.alloc (.cells (cs .u8 32 fun _ => 0) 23)) w.heap.size 32 (fun _ => 0) := Row.box
  have B0 : Below w.heap.size w (w.alloc (.cells (cs .u8 32 fun _ => 0) 23)) := (Below.refl _ _).alloc (Nat.le_refl _) _
  have z0 : w.heap.size < (w.alloc (.cells (cs .u8 32 fun _ => 0) 23)).heap.size := by rw [World.size_alloc]; omega
  show Calls Tryd.prog 16 #[.string x, .string s, .string nh] (w.alloc (.cells (cs .u8 32 fun _ => 0) 23)) _
  obtain ⟨D, hD⟩ : ∃ D, w.heap.size = D := ⟨_, rfl⟩
  have HD : Hid (w.heap.size = D) := hD
  have K1 : Hid (KT (w.alloc (.cells (cs .u8 32 fun _ => 0) 23))) := HK.out.below B0
  have T1 : Hid (PT (w.alloc (.cells (cs .u8 32 fun _ => 0) 23))) := HT.out.below B0
  rw [hD] at R0 B0 z0 ⊢
  clear hD HK HT
  generalize w.alloc (.cells (cs .u8 32 fun _ => 0) 23) = w1 at *
  refine (rscrw_any x s nh w1 (by omega)).mono ?_
  rintro e w2 ⟨b2, hcase⟩
  have R2 : Row .u8 w2 D 32 (fun _ => 0) := R0.below b2 z0
  have HB2 : Hid (Below D w w2) := B0.trans (b2.mono (by omega))
  have HZ2 : Hid (D < w2.heap.size) := Nat.lt_of_lt_of_le z0 b2.size
  have HZ1 : Hid (D < w1.heap.size) := z0
  have K2 : Hid (KT w2) := K1.out.below b2
  have T2 : Hid (PT w2) := T1.out.below b2
  clear b2 R0 B0 z0 K1 T1
  rcases hcase with ⟨h1, rfl⟩ | ⟨h1, -, v, own, rfl⟩
  · have HS : Hid (hsh s ≠ 0) := fun h => h1 ⟨h, h_nh⟩
    clear h1
    go_wp2_with (refine wpList_store_any (f := fun _ => 0) (by rfl) 23 (.tmp 4) (.tmp 20) (by rfl) D (by rfl) (by rfl) R2 szD32m (by rfl) ?_; intro W5 R5 U5)
    exact bodyPost_ret (results_ctt Tryd.results6 _ _ rfl R5 undD32m szD32m) rfl ⟨by rw [HD.out]; exact U5.below HB2.out (Nat.le_refl _) (Nat.le_of_lt HZ2.out), .inl ⟨HS.out, rfl⟩⟩
  have HS : Hid (hsh s = 0) := h1
  have RI2 := ri_own own
  have hown : ∀ b, v.ownBlock = some b → w1.heap.size ≤ b := fun b hb => (World.ownsRow.lt own b hb).1
  have hpl : ∀ p ∈ pl s.data.toList 0 x.data.toList, p ≤ 1048576 := fun p hp => by
    have := pl_le s.data.toList (isH_of h1).len _ x.data.toList (Nat.le_refl _) 0 p hp
    rw [size_list] at this
    omega
  have hrz : (ba (rw' s.data.toList nh.data.toList x.data.toList)).size = x.size := by rw [ba_size, rw_len (isH_of h_nh).len, size_list]
  have hll : (pl s.data.toList 0 x.data.toList).length ≤ x.size := by rw [← size_list]; exact pl_len _ _ _
  have HMO : Hid (mo x s = ap (ba (rw' s.data.toList nh.data.toList x.data.toList)) (pl s.data.toList 0 x.data.toList)) := rfl
  clear own h1
  generalize hLe : pl s.data.toList 0 x.data.toList = L at *
  have HLE : Hid (pl s.data.toList 0 x.data.toList = L) := hLe
  clear hLe
  generalize ba (rw' s.data.toList nh.data.toList x.data.toList) = S at *
  have HPL : Hid (∀ p ∈ L, p ≤ 1048576) := hpl
  obtain ⟨xv, cv, rfl, hcell⟩ := RI2
  have HOW : Hid (∀ b o, xv = some ⟨b, o, none⟩ → D < b) := fun b o e => by
    subst e
    exact Nat.lt_of_lt_of_le HZ1.out (hown b rfl)
  have HC : Hid (∀ i t, L[i]? = some t → ∃ b o, xv = some ⟨b, o, none⟩ ∧ b < w2.heap.size ∧ w2.cell? ⟨b, o + i, none⟩ = some (.int .i64 ((t : Nat) : Int))) := hcell
  clear hcell hpl hown
  have HR2 : Hid (Row .u8 w2 D 32 (fun _ => 0)) := R2
  clear R2
  go_wp2_with fail
  go_loopg [7, 10] L.length (fun gk sv iv wr => ∃ (k : Nat), gk + k = L.length ∧ iv = .int .i64 (k : Int) ∧ sv = .string (ap S (L.take k)) ∧ Hid (Below w2.heap.size w2 wr))
  case atStart => exact ⟨0, rfl, rfl, rfl, Below.refl _ _⟩
  case round =>
    obtain ⟨k, hgk, rfl, rfl, hB⟩ := hrel
    by_cases hk : k < L.length
    · obtain ⟨b1, o1, rfl, hb1, c1⟩ := HC.out k (L[k]'hk) (List.getElem?_eq_getElem hk)
      have d1 : wr.cell? ⟨b1, o1 + k, none⟩ = some (.int .i64 ((L[k]'hk : Nat) : Int)) := (hB.out.cell (p := ⟨b1, o1 + k, none⟩) hb1).trans c1
      have hap := ap_succ S L k hk
      have hpk : L[k]'hk ≤ 1048576 := HPL.out _ (List.getElem_mem hk)
      have hsz := ap_size S (L.take (k + 1)) (fun p hp => HPL.out p (List.mem_of_mem_take hp))
      rw [List.length_take, hap] at hsz
      generalize L[k]'hk = p at *
      have hq1 : ((ByteArray.mk #[124]) ++ itS p).size = 1 + (itS p).size := by rw [ByteArray.size_append]; rfl
      rw [ByteArray.size_append, hq1] at hsz
      have hi := itS_le p hpk
      have CI := itoa_any p wr hpk (T2.out.below hB.out)
      have h124 : (ByteArray.mk #[124]).size = 1 := rfl
      clear c1
      go_wp2_with fail
      with_reducible refine CI.mono ?_
      rintro e w5 ⟨rfl, b5⟩
      have HB5 : Hid (Below w2.heap.size w2 w5) := hB.out.trans (b5.mono hB.out.size)
      have HAP : Hid (ap S (L.take (k + 1)) = ap S (L.take k) ++ ((ByteArray.mk #[124]) ++ itS p)) := hap
      have hno1 : ¬ 9223372036854775807 < (ByteArray.mk #[124]).size + (itS p).size := by rw [h124]; omega
      have hno2 : ¬ 9223372036854775807 < (ap S (L.take k)).size + ((ByteArray.mk #[124]) ++ itS p).size := by rw [hq1]; omega
      clear CI b5 hap
      go_wp2
      go_roundg (gk - 1)
      case measure => omega
      case rel => exact ⟨k + 1, by omega, by go_num, by rw [HAP.out], HB5⟩
    · have hLk : L.take k = L := List.take_of_length_le (by omega)
      rw [hLk]
      have hsz := ap_size S L HPL.out
      have CS := rof_any (ap S L) wr (by omega)
      clear hLk
      go_wp2_with fail
      refine (show Calls Tryd.prog 17 #[.string (ap S L)] wr _ from CS.mono ?_)
      rintro e w5 ⟨rfl, b5⟩
      have HB5 : Hid (Below w2.heap.size w2 w5) := hB.out.trans (b5.mono hB.out.size)
      have R5 : Row .u8 w5 D 32 (fun _ => 0) := HR2.out.below HB5.out HZ2.out
      have HZ5 : Hid (D < w5.heap.size) := Nat.lt_of_lt_of_le HZ2.out HB5.out.size
      have HRI : Hid (∀ W, Upd w5 W D → RI W W.heap.size (.slice xv L.length cv) L) := fun W U => ⟨xv, cv, rfl, fun i t ht => by
        obtain ⟨b, o, e1, e2, e3⟩ := HC.out i t ht
        have h4 := HOW.out b o e1
        have h5 : b < w5.heap.size := Nat.lt_of_lt_of_le e2 HB5.out.size
        refine ⟨b, o, e1, by rw [U.size]; exact h5, ?_⟩
        rw [World.cell?_of_block (w := w5) (w' := W) (a := ⟨b, o + i, none⟩) (U.block b h5 (by omega))]
        exact (HB5.out.cell (p := ⟨b, o + i, none⟩) e2).trans e3⟩
      clear CS b5 hsz
      go_wp2_with (refine wpList_store_any (by rfl) 23 (.tmp 4) (.tmp 37) (by rfl) D (by rfl) (by rfl) R5 szD32m (by rfl) ?_; intro W6 R6 U6)
      exact bodyPost_ret (results_ctt Tryd.results6 _ _ rfl R6 undD32m szD32m) rfl ⟨by rw [HD.out]; exact U6.below (HB2.out.trans (HB5.out.mono (by have := HZ2.out; omega))) (Nat.le_refl _) (Nat.le_of_lt HZ5.out), .inr ⟨HS.out, .slice xv L.length cv, by rw [HLE.out]; exact HRI.out W6 U6, by rw [HMO.out]; rfl⟩⟩

end Sc
end Go.Proofs.YtojefckhefanhaaDoor
/- Comparing two arrays of numbers. -/
namespace Go.Proofs.YtojefckhefanhaaDoor
open Go.RowKit
theorem run_part_cs {P : Program} (w : World) (e : TypeId) (k k' : IntKind) (n : Nat) (f : Nat → Int) (he : P.underlying e = some (.int k')) (j : Nat) (hj : j < n) : (part e (cs k n f) j).run P w = .ok (.int k (f j)) w := by
  simp [part, isAgg, run_underlying he, cs_get k n f j hj]

theorem eqItems_cs {P : Program} (w : World) (d : Nat) (e : TypeId) (k k' : IntKind) (n : Nat) (f g : Nat → Int) (he : P.underlying e = some (.int k')) :
    ∀ (L : List Nat), (∀ i ∈ L, i < n) → (Op.eqItems (d + 1) e 1 (cs k n f) (cs k n g) L).run P w = .ok (L.all fun i => f i == g i) w
  | [], _ => by simp [Op.eqItems]
  | i :: L, h => by
    have hi := h i (by simp)
    have ih := eqItems_cs w d e k k' n f g he L (fun j hj => h j (by simp [hj]))
    rw [Op.eqItems]
    simp only [Nat.mul_one, Sem.run_bind, run_part_cs w e k k' n f he i hi, run_part_cs w e k k' n g he i hi, Result.andThen_ok, run_equalIn_int w d e k k' (f i) (g i) he]
    by_cases hfg : f i = g i
    · simp [hfg, ih]
    · simp [hfg]

theorem run_equalIn_cs {P : Program} (w : World) (d : Nat) (t e : TypeId) (k k' : IntKind) (n : Nat) (f g : Nat → Int) {i : TypeInfo} (hu : P.underlying t = some (.array n e)) (hi : P.info? e = some i) (hc : P.cellsOf e = 1) (he : P.underlying e = some (.int k')) :
    (Op.equalIn (d + 1 + 1) t (.agg (cs k n f)) (.agg (cs k n g))).run P w = .ok ((List.range n).all fun i => f i == g i) w := by
  rw [run_equalIn_array w (d + 1) _ _ hu hi, hc]
  exact eqItems_cs w d e k k' n f g he _ (fun i hi => List.mem_range.1 hi)

theorem run_equalIn_same {P : Program} (w : World) (d : Nat) (t e : TypeId) (k k' : IntKind) (n : Nat) (f : Nat → Int) (hu : P.underlying t = some (.array n e)) (hi : (P.info? e).isSome = true) (hc : P.cellsOf e = 1) (he : P.underlying e = some (.int k')) :
    (Op.equalIn (d + 1 + 1) t (.agg (cs k n f)) (.agg (cs k n f))).run P w = .ok true w := by
  obtain ⟨i, hi'⟩ := Option.isSome_iff_exists.1 hi
  rw [run_equalIn_cs w d t e k k' n f f hu hi' hc he]
  simp
#print axioms run_equalIn_same
end Go.Proofs.YtojefckhefanhaaDoor
/- ScanModulos, walked (own text of the verifier). -/
namespace Go.Proofs.YtojefckhefanhaaDoor
open Go.RowKit Go.Shelf
namespace Sc

theorem both_mod (x s : ByteArray) (w : World) (hx : x.size ≤ 1048576) (hK : KT w) (hT : PT w) :
    Calls Tryd.prog 5 #[.string x, .string s] w fun e w' => Below w.heap.size w w' ∧ ∃ F v n L, L.length ≤ 1048576 ∧ RI w' w'.heap.size v L ∧ e = .returned (.tuple #[.agg (cs .u8 32 F), v, .int .i64 n]) ∧
      ∀ W, KT W → PT W → Calls Tryd.prog 6 #[.string x, .string s] W fun e w' => Below W.heap.size W w' ∧ ∃ u, RI w' w'.heap.size u L ∧ e = .returned (.tuple #[.agg (cs .u8 32 F), u, .int .i64 n]) := by
  refine (modulo_any x s w hx hK hT).mono ?_
  rintro e w' ⟨b, ⟨h1, rfl⟩ | ⟨h1, v, ri, rfl⟩⟩
  · refine ⟨b, _, _, _, [], Nat.zero_le _, ⟨none, 0, rfl, fun i t h => by cases h⟩, rfl, fun W k t => ?_⟩
    refine (rmodulo_any x s W hx k t).mono ?_
    rintro e w' ⟨b, ⟨_, rfl⟩ | ⟨h2, -⟩⟩
    · exact ⟨b, _, ⟨none, 0, rfl, fun i t h => by cases h⟩, rfl⟩
    · exact absurd h2 h1
  · refine ⟨b, _, _, _, _, ?_, ri, rfl, fun W k t => ?_⟩
    · have := pl_len s.data.toList 0 x.data.toList
      rw [size_list] at this
      omega
    · refine (rmodulo_any x s W hx k t).mono ?_
      rintro e w' ⟨b, ⟨h2, -⟩ | ⟨_, u, ru, rfl⟩⟩
      · exact absurd h1 h2
      · exact ⟨b, u, ru, rfl⟩

set_option maxRecDepth 100000 in
set_option maxHeartbeats 4000000 in
theorem modulos_walk (x s : ByteArray) (w : World) (hx : x.size ≤ 1048576) (_hs : s.size ≤ 1048576) (hK : KT w) (hT : PT w) :
    Calls Tryd.prog 3 #[.string x, .string s] w fun e w' => e = .returned (.bool true) ∧ Below w.heap.size w w' := by
  have HK : Hid (KT w) := hK
  have HT : Hid (PT w) := hT
  clear hK hT
  go_enter Tryd.func3, Tryd.ntmps3
  go_wp2_with fail
  with_reducible refine (awake_any _).mono ?_
  rintro e w1 ⟨rfl, b1⟩
  have HB1 : Hid (Below w.heap.size w w1) := b1
  have CM := both_mod x s w1 hx (HK.out.below b1) (HT.out.below b1)
  clear b1
  go_wp2_with fail
  with_reducible refine CM.mono ?_
  rintro e w2 ⟨b2, F, v, n, L, hL, ri, rfl, CR⟩
  have HB2 : Hid (Below w.heap.size w w2) := HB1.out.trans (b2.mono HB1.out.size)
  have HRI : Hid (RI w2 w2.heap.size v L) := ri
  have R0 : Row .u8 (w2.alloc (.cells (cs .u8 32 fun _ => 0) 24)) w2.heap.size 32 (fun _ => 0) := Row.box
  clear CM b2 HB1 ri
  go_wp2_with (refine wpList_store_any (by rfl) 24 (.tmp 5) (.tmp 17) (by rfl) w2.heap.size (by rfl) (by rfl) R0 szDIGm (by rfl) ?_; intro W5 R5 U5)
  have B25 : Below w2.heap.size w2 W5 := U5.below ((Below.refl _ _).alloc (Nat.le_refl _) _) (Nat.le_refl _) (by rw [World.size_alloc]; omega)
  have HB5 : Hid (Below w.heap.size w W5) := HB2.out.trans (B25.mono HB2.out.size)
  have HR5 : Hid (Row .u8 W5 w2.heap.size 32 F) := R5
  have HZ5 : Hid (w2.heap.size < W5.heap.size) := by unfold Hid; rw [U5.size, World.size_alloc]; omega
  have RI5 : Hid (RI W5 w2.heap.size v L) := RI.below HRI.out B25 (Nat.le_refl _)
  have CR5 := CR W5 (HK.out.below HB5.out) (HT.out.below HB5.out)
  obtain ⟨D2, hD2⟩ : ∃ D, w2.heap.size = D := ⟨_, rfl⟩
  rw [hD2] at HR5 HZ5 RI5 ⊢
  clear CR U5 R5 R0 B25 HB2 HRI hD2
  with_reducible refine CR5.mono ?_
  rintro e w6 ⟨b6, u, ru, rfl⟩
  have HB6 : Hid (Below w.heap.size w w6) := HB5.out.trans (b6.mono HB5.out.size)
  have HR6 : Hid (Row .u8 w6 D2 32 F) := HR5.out.below b6 HZ5.out
  have HZ6 : Hid (D2 < w6.heap.size) := Nat.lt_of_lt_of_le HZ5.out b6.size
  have RI6 : Hid (RI w6 D2 v L) := RI.below RI5.out b6 (Nat.le_of_lt HZ5.out)
  have RU6 : Hid (RI w6 w6.heap.size u L) := ru
  have R0 : Row .u8 (w6.alloc (.cells (cs .u8 32 fun _ => 0) 23)) w6.heap.size 32 (fun _ => 0) := Row.box
  clear CR5 b6 HB5 HR5 HZ5 RI5 ru
  have heq : ∀ w, (Op.equalIn 10000 24 (.agg (cs .u8 32 F)) (.agg (cs .u8 32 F))).run Tryd.prog w = .ok true w := fun w => run_equalIn_same w 9998 24 5 .u8 .u8 32 _ undDIGm (by kernel_rfl) (by kernel_rfl) (by kernel_rfl)
  go_wp2_with (first | (refine wpList_store_any (by rfl) 23 (.tmp 8) (.tmp 24) (by rfl) w6.heap.size (by rfl) (by rfl) R0 szD32m (by rfl) ?_; intro W7 R7 U7; have RD7 : Row .u8 W7 D2 32 F := HR6.out.below (U7.below ((Below.refl _ _).alloc (Nat.le_refl _) _) (Nat.le_refl _) (by rw [World.size_alloc]; omega)) HZ6.out) | (refine wpList_load_arr (by rfl) 24 (.tmp 5) (by rfl) D2 (by rfl) RD7 undDIGm szDIGm ?_) | (refine wpList_load_arr (by rfl) 23 (.tmp 8) (by rfl) w6.heap.size (by rfl) R7 undD32m szD32m ?_))
  have B67 : Below w6.heap.size w6 W7 := U7.below ((Below.refl _ _).alloc (Nat.le_refl _) _) (Nat.le_refl _) (by rw [World.size_alloc]; omega)
  have HB7 : Hid (Below w.heap.size w W7) := HB6.out.trans (B67.mono HB6.out.size)
  have CI := ints_any _ _ v u L L W7 (RI.below RI6.out B67 (Nat.le_of_lt HZ6.out)) (RI.below RU6.out B67 (Nat.le_refl _)) (by omega) (by omega)
  rw [decide_eq_true rfl] at CI
  clear U7 B67 HB6 HR6 HZ6 RI6 RU6 RD7 R7
  with_reducible refine CI.mono ?_
  rintro e w8 ⟨rfl, q, rfl⟩
  clear CI heq
  go_wp2
  go_ret
  exact ⟨rfl, bel_drewN HB7.out q⟩
theorem modulos_walkF (x s : ByteArray) (w : World) (hx : x.size ≤ 1048576) (hs : s.size ≤ 1048576) (h : KT w ∧ PT w) :
    Calls Tryd.prog 3 #[.string x, .string s] w fun e w' => e = .returned (.bool true) ∧ Below w.heap.size w w' := modulos_walk x s w hx hs h.1 h.2

end Sc
end Go.Proofs.YtojefckhefanhaaDoor
/- The cells of the library's tables, for a witness. -/
namespace Go.Proofs.YtojefckhefanhaaDoor
def tab32Cells : Array Value := ([0, 1, 28, 2, 29, 14, 24, 3, 30, 22, 20, 15, 25, 17, 4, 8, 31, 27, 13, 23, 21, 19, 16, 7, 26, 12, 18, 6, 11, 5, 10, 9].map fun (n : Nat) => Value.int .u8 (n : Int)).toArray
def tab64Cells : Array Value := ([0, 1, 56, 2, 57, 49, 28, 3, 61, 58, 42, 50, 38, 29, 17, 4, 62, 47, 59, 36, 45, 43, 51, 22, 53, 39, 33, 30, 24, 18, 12, 5, 63, 55, 48, 27, 60, 41, 37, 16, 46, 35, 44, 21, 52, 32, 23, 11, 54, 26, 40, 15, 34, 20, 31, 10, 25, 14, 19, 9, 13, 8, 7, 6].map fun (n : Nat) => Value.int .u8 (n : Int)).toArray
def powCells : Array Value := ([1, 10, 100, 1000, 10000, 100000, 1000000, 10000000, 100000000, 1000000000, 10000000000, 100000000000, 1000000000000, 10000000000000, 100000000000000, 1000000000000000, 10000000000000000, 100000000000000000, 1000000000000000000, 10000000000000000000].map fun (n : Nat) => Value.int .u64 (n : Int)).toArray
end Go.Proofs.YtojefckhefanhaaDoor
