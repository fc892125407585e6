/- Gathered: SmA SsP ShaE SsW TbT. -/
import Derived.Lib.AppendIntMem
import Derived.Lib.ItoaLen
import Derived.ChangeKeysEq
import Derived.Test.YtojefckhefanhabDoorQg
import Derived.Test.YtojefckhefanhabDoorQi
import Derived.Test.YtojefckhefanhabDoorQk
import Derived.Test.YtojefckhefanhabDoorQl
/- scan.Modulo, walked (own text of the verifier). -/
namespace Go.Proofs.YtojefckhefanhabDoor
open Go.RowKit Go.Shelf
/-- The library's table of powers lies in memory. -/
def PT (w : World) : Prop := Lib.TabIs Tryd.prog w "internal/strconv.uint64pow10" .u64 Lib.pow10Tab
theorem PT.below {w w' : World} (h : PT w) (b : Below w.heap.size w w') : PT w' := Lib.tabBelow_of_tabIs h w' b
namespace Sc
def itS (p : Nat) : ByteArray := ⟨(Lib.itoa (p : Int)).toArray⟩
theorem itS_le (p : Nat) (h : p ≤ 1048576) : (itS p).size ≤ 21 := Lib.itoa_length_le (p : Int) (by omega) (by omega)
theorem itoa_any (p : Nat) (w : World) (h1 : p ≤ 1048576) (hT : PT w) :
    Calls Tryd.prog 13 #[.int .i64 (p : Int)] w fun e w' => e = .returned (.string (itS p)) ∧ Below w.heap.size w w' :=
  (Tryd.strconv_Itoa (p : Int) (by omega) (by omega) w hT).mono (by rintro e w' ⟨rfl, k, os, rfl⟩; exact ⟨rfl, Lib.below_grow _ w (Nat.le_refl _) k os⟩)
/-- The places behind the text. -/
def ap (S : ByteArray) (L : List Nat) : ByteArray := L.foldl (fun S p => S ++ ((ByteArray.mk #[124]) ++ itS p)) S
theorem ap_succ (S : ByteArray) (L : List Nat) (k : Nat) (h : k < L.length) : ap S (L.take (k + 1)) = ap S (L.take k) ++ ((ByteArray.mk #[124]) ++ itS (L[k]'h)) := by
  unfold ap
  rw [List.take_succ_eq_append_getElem h, List.foldl_append]
  rfl
theorem ap_size (S : ByteArray) (L : List Nat) (hL : ∀ p ∈ L, p ≤ 1048576) : (ap S L).size ≤ S.size + 22 * L.length := by
  induction L generalizing S with
  | nil => exact Nat.le_refl _
  | cons a l ih =>
    have h1 := ih (S ++ ((ByteArray.mk #[124]) ++ itS a)) (fun p hp => hL p (by simp [hp]))
    have h2 := itS_le a (hL a (by simp))
    have h3 : (S ++ ((ByteArray.mk #[124]) ++ itS a)).size = S.size + (1 + (itS a).size) := by rw [ByteArray.size_append, ByteArray.size_append]; rfl
    show (ap (S ++ ((ByteArray.mk #[124]) ++ itS a)) l).size ≤ _
    rw [List.length_cons]
    omega
theorem pl_le (f : List UInt8) (hf : f.length = 32) : ∀ (n : Nat) (l : List UInt8), l.length ≤ n → ∀ o, ∀ p ∈ pl f o l, p ≤ o + l.length := by
  intro n
  induction n with
  | zero =>
    intro l hl o p hp
    rw [pl_short (by omega)] at hp
    cases hp
  | succ n ih =>
    intro l hl o p hp
    by_cases h0 : l.length < 32
    · rw [pl_short h0] at hp; cases hp
    · by_cases hw : l.take 32 = f
      · rw [pl_hit hw (by omega)] at hp
        rcases List.mem_cons.1 hp with rfl | hp
        · omega
        · have := ih (l.drop 32) (by rw [List.length_drop]; omega) _ p hp
          rw [List.length_drop] at this
          omega
      · rw [pl_miss hw hf (by omega)] at hp
        have := ih (l.drop 1) (by rw [List.length_drop]; omega) _ p hp
        rw [List.length_drop] at this
        omega
theorem undDIGm : Tryd.prog.underlying 24 = some (.array 32 5) := by kernel_rfl
theorem szDIGm : (Tryd.prog.info? 24).map (·.size) = some 32 := by kernel_rfl
theorem undD32m : Tryd.prog.underlying 23 = some (.array 32 5) := by kernel_rfl
theorem szD32m : (Tryd.prog.info? 23).map (·.size) = some 32 := by kernel_rfl
theorem results_ctt {P : Program} {k : IntKind} {n e g : Nat} {f : Nat → Int} {fn : Func} {p q r : Tmp} {ty : TypeId} (hr : fn.results = #[.cell p ty, .tmp q, .tmp r]) (tmps : Array Value) (w : World)
    (hp : tmps.getD p undef = .pointer (some ⟨g, 0, none⟩)) (h : Row k w g n f) (hu : P.underlying ty = some (.array n e)) (hi : (P.info? ty).map (·.size) = some n) :
    (results fn tmps).run P w = .ok (.tuple #[.agg (cs k n f), tmps.getD q undef, tmps.getD r undef]) w := by
  have hl := run_loadVar_row' ty h hu hi
  have hp' : tmps[p]?.getD undef = .pointer (some ⟨g, 0, none⟩) := by simpa using hp
  simp [results, hr, hp', asAddr, hl]
theorem cs_zero32m : (#[.int .u8 0, .int .u8 0, .int .u8 0, .int .u8 0, .int .u8 0, .int .u8 0, .int .u8 0, .int .u8 0, .int .u8 0, .int .u8 0, .int .u8 0, .int .u8 0, .int .u8 0, .int .u8 0, .int .u8 0, .int .u8 0, .int .u8 0, .int .u8 0, .int .u8 0, .int .u8 0, .int .u8 0, .int .u8 0, .int .u8 0, .int .u8 0, .int .u8 0, .int .u8 0, .int .u8 0, .int .u8 0, .int .u8 0, .int .u8 0, .int .u8 0, .int .u8 0] : Array Value) = cs .u8 32 (fun _ => 0) := by rfl
def nh : ByteArray := ⟨#[48, 48, 48, 48, 48, 48, 48, 48, 48, 48, 48, 48, 48, 48, 48, 48, 48, 48, 48, 48, 48, 48, 48, 48, 48, 48, 48, 48, 48, 48, 48, 48]⟩
theorem h_nh : hsh nh = 0 := by decide +kernel
/-- What is told of a text by its own hash s. -/
def mo (x s : ByteArray) : ByteArray := ap (ba (rw' s.data.toList nh.data.toList x.data.toList)) (pl s.data.toList 0 x.data.toList)
def dgS (s : ByteArray) : Nat → Int := dg (hw (bt (msg s)) (nb s))
theorem dgs_S (s : ByteArray) : dgs s = cs .u8 32 (dgS s) := rfl

set_option maxRecDepth 100000 in
set_option maxHeartbeats 8000000 in
theorem modulo_any (x s : ByteArray) (w : World) (hx : x.size ≤ 1048576) (hK : KT w) (hT : PT w) :
    Calls Tryd.prog 5 #[.string x, .string s] w fun e w' => Below w.heap.size w w' ∧ ((hsh s ≠ 0 ∧ e = .returned (.tuple #[.agg (cs .u8 32 fun _ => 0), .slice none 0 0, .int .i64 131])) ∨ (hsh s = 0 ∧ ∃ v, RI w' w'.heap.size v (pl s.data.toList 0 x.data.toList) ∧ e = .returned (.tuple #[.agg (cs .u8 32 (dgS (mo x s))), v, .int .i64 0]))) := by
  have HK : Hid (KT w) := hK
  have HT : Hid (PT w) := hT
  clear hK hT
  go_enter Tryd.func5, Tryd.ntmps5
  go_wp2_with fail
  rw [cs_zero32m]
  have R0 : Row .u8 (w.alloc (.cells (cs .u8 32 fun _ => 0) 24)) w.heap.size 32 (fun _ => 0) := Row.box
  have B0 : Below w.heap.size w (w.alloc (.cells (cs .u8 32 fun _ => 0) 24)) := (Below.refl _ _).alloc (Nat.le_refl _) _
  have z0 : w.heap.size < (w.alloc (.cells (cs .u8 32 fun _ => 0) 24)).heap.size := by rw [World.size_alloc]; omega
  show Calls Tryd.prog 6 #[.string x, .string s, .string nh] (w.alloc (.cells (cs .u8 32 fun _ => 0) 24)) _
  obtain ⟨D, hD⟩ : ∃ D, w.heap.size = D := ⟨_, rfl⟩
  have HD : Hid (w.heap.size = D) := hD
  have K1 : Hid (KT (w.alloc (.cells (cs .u8 32 fun _ => 0) 24))) := HK.out.below B0
  have T1 : Hid (PT (w.alloc (.cells (cs .u8 32 fun _ => 0) 24))) := HT.out.below B0
  rw [hD] at R0 B0 z0 ⊢
  clear hD HK HT
  generalize w.alloc (.cells (cs .u8 32 fun _ => 0) 24) = w1 at *
  refine (rewrite_any x s nh w1 (by omega)).mono ?_
  rintro e w2 ⟨b2, hcase⟩
  have R2 : Row .u8 w2 D 32 (fun _ => 0) := R0.below b2 z0
  have HB2 : Hid (Below D w w2) := B0.trans (b2.mono (by omega))
  have HZ2 : Hid (D < w2.heap.size) := Nat.lt_of_lt_of_le z0 b2.size
  have HZ1 : Hid (D < w1.heap.size) := z0
  have K2 : Hid (KT w2) := K1.out.below b2
  have T2 : Hid (PT w2) := T1.out.below b2
  clear b2 R0 B0 z0 K1 T1
  rcases hcase with ⟨h1, rfl⟩ | ⟨_, h2, -⟩ | ⟨h1, -, v, own, rfl⟩
  · have h131 : hsh s = 131 := by
      rcases hsh_cases s with ⟨-, e⟩ | ⟨-, e⟩
      · exact absurd e h1
      · exact e
    have HS : Hid (hsh s ≠ 0) := h1
    rw [h131]
    clear h1 h131
    go_wp2_with (refine wpList_store_any (f := fun _ => 0) (by rfl) 24 (.tmp 4) (.tmp 22) (by rfl) D (by rfl) (by rfl) R2 szDIGm (by rfl) ?_; intro W5 R5 U5)
    exact bodyPost_ret (results_ctt Tryd.results5 _ _ rfl R5 undDIGm szDIGm) rfl ⟨by rw [HD.out]; exact U5.below HB2.out (Nat.le_refl _) (Nat.le_of_lt HZ2.out), .inl ⟨HS.out, rfl⟩⟩
  · exact absurd h_nh h2
  have HS : Hid (hsh s = 0) := h1
  have RI2 := ri_own own
  have hown : ∀ b, v.ownBlock = some b → w1.heap.size ≤ b := fun b hb => (World.ownsRow.lt own b hb).1
  have hpl : ∀ p ∈ pl s.data.toList 0 x.data.toList, p ≤ 1048576 := fun p hp => by
    have := pl_le s.data.toList (isH_of h1).len _ x.data.toList (Nat.le_refl _) 0 p hp
    rw [size_list] at this
    omega
  have hrz : (ba (rw' s.data.toList nh.data.toList x.data.toList)).size = x.size := by rw [ba_size, rw_len (isH_of h_nh).len, size_list]
  have hll : (pl s.data.toList 0 x.data.toList).length ≤ x.size := by rw [← size_list]; exact pl_len _ _ _
  have HMO : Hid (mo x s = ap (ba (rw' s.data.toList nh.data.toList x.data.toList)) (pl s.data.toList 0 x.data.toList)) := rfl
  clear own h1
  generalize hLe : pl s.data.toList 0 x.data.toList = L at *
  have HLE : Hid (pl s.data.toList 0 x.data.toList = L) := hLe
  clear hLe
  generalize ba (rw' s.data.toList nh.data.toList x.data.toList) = S at *
  have HPL : Hid (∀ p ∈ L, p ≤ 1048576) := hpl
  obtain ⟨xv, cv, rfl, hcell⟩ := RI2
  have HOW : Hid (∀ b o, xv = some ⟨b, o, none⟩ → D < b) := fun b o e => by
    subst e
    exact Nat.lt_of_lt_of_le HZ1.out (hown b rfl)
  have HC : Hid (∀ i t, L[i]? = some t → ∃ b o, xv = some ⟨b, o, none⟩ ∧ b < w2.heap.size ∧ w2.cell? ⟨b, o + i, none⟩ = some (.int .i64 ((t : Nat) : Int))) := hcell
  clear hcell hpl hown
  have HR2 : Hid (Row .u8 w2 D 32 (fun _ => 0)) := R2
  clear R2
  go_wp2_with fail
  with_reducible refine (new_wrote w2).mono ?_
  rintro e w3 ⟨g, rfl, hg, hgl, W3, b3⟩
  have HW3 : Hid (Wrote w3 g ByteArray.empty) := W3
  have HB3 : Hid (Below w2.heap.size w2 w3) := b3
  have hg0 : 0 < g := by have := HZ2.out; omega
  have CW := writeText_wrote g ByteArray.empty S w3 W3 (by rw [hrz]; show 0 + x.size ≤ _; omega) (K2.out.below b3) hg0
  rw [ByteArray.empty_append] at CW
  clear W3 b3
  go_wp2_with fail
  with_reducible refine CW.mono ?_
  rintro e w4 ⟨rfl, W4, G4⟩
  have HW4 : Hid (Wrote w4 g S) := W4
  have HB4 : Hid (Below w2.heap.size w2 w4) := HB3.out.grown G4 HB3.out.size (fun k hk => by have := Option.some.inj hk; omega)
  have HG : Hid (w2.heap.size ≤ g) := hg
  clear CW W4 G4 HB3 HW3 hg hgl
  go_wp2_with fail
  go_loopg [30] L.length (fun gk iv wr => ∃ (k : Nat), gk + k = L.length ∧ iv = .int .i64 (k : Int) ∧ Hid (Wrote wr g (ap S (L.take k))) ∧ Hid (Below w2.heap.size w2 wr))
  case atStart => exact ⟨0, rfl, rfl, HW4, HB4⟩
  case round =>
    obtain ⟨k, hgk, rfl, hW, hB⟩ := hrel
    by_cases hk : k < L.length
    · obtain ⟨b1, o1, rfl, hb1, c1⟩ := HC.out k (L[k]'hk) (List.getElem?_eq_getElem hk)
      have d1 : wr.cell? ⟨b1, o1 + k, none⟩ = some (.int .i64 ((L[k]'hk : Nat) : Int)) := (hB.out.cell (p := ⟨b1, o1 + k, none⟩) hb1).trans c1
      have hap := ap_succ S L k hk
      have hpk : L[k]'hk ≤ 1048576 := HPL.out _ (List.getElem_mem hk)
      have hsz := ap_size S (L.take (k + 1)) (fun p hp => HPL.out p (List.mem_of_mem_take hp))
      rw [List.length_take, hap] at hsz
      generalize L[k]'hk = p at *
      rw [ByteArray.size_append, ByteArray.size_append] at hsz
      have hi := itS_le p hpk
      have CI := itoa_any p wr hpk (T2.out.below hB.out)
      clear c1
      go_wp2_with fail
      with_reducible refine CI.mono ?_
      rintro e w5 ⟨rfl, b5⟩
      have HB5 : Hid (Below w2.heap.size w2 w5) := hB.out.trans (b5.mono hB.out.size)
      have CW := writeText_wrote g (ap S (L.take k)) ((ByteArray.mk #[124]) ++ itS p) w5 (hW.out.below b5 hW.out.lt) (by rw [ByteArray.size_append]; omega) (K2.out.below HB5.out) hg0
      have h124 : (ByteArray.mk #[124]).size = 1 := rfl
      clear CI b5
      go_wp2_with fail
      with_reducible refine CW.mono ?_
      rintro e w6 ⟨rfl, W6, G6⟩
      rw [← hap] at W6
      have HW6 : Hid (Wrote w6 g (ap S (L.take (k + 1)))) := W6
      have HB6 : Hid (Below w2.heap.size w2 w6) := HB5.out.grown G6 HB5.out.size (fun k hk => by have := Option.some.inj hk; have := HG.out; omega)
      clear CW W6 G6 HB5 hap hsz
      go_wp2
      go_roundg (gk - 1)
      case measure => omega
      case rel => exact ⟨k + 1, by omega, by go_num, HW6, HB6⟩
    · have hLk : L.take k = L := List.take_of_length_le (by omega)
      rw [hLk] at hW
      have hsz := ap_size S L HPL.out
      have CS := sum_wrote g (ap S L) wr hW.out (by omega) (K2.out.below hB.out) hg0
      rw [dgs_S] at CS
      clear hLk
      go_wp2_with fail
      with_reducible refine CS.mono ?_
      rintro e w5 ⟨rfl, b5⟩
      have HB5 : Hid (Below w2.heap.size w2 w5) := hB.out.trans (b5.mono hB.out.size)
      have R5 : Row .u8 w5 D 32 (fun _ => 0) := HR2.out.below HB5.out HZ2.out
      have HZ5 : Hid (D < w5.heap.size) := Nat.lt_of_lt_of_le HZ2.out HB5.out.size
      have HRI : Hid (∀ W, Upd w5 W D → RI W W.heap.size (.slice xv L.length cv) L) := fun W U => ⟨xv, cv, rfl, fun i t ht => by
        obtain ⟨b, o, e1, e2, e3⟩ := HC.out i t ht
        have h4 := HOW.out b o e1
        have h5 : b < w5.heap.size := Nat.lt_of_lt_of_le e2 HB5.out.size
        refine ⟨b, o, e1, by rw [U.size]; exact h5, ?_⟩
        rw [World.cell?_of_block (w := w5) (w' := W) (a := ⟨b, o + i, none⟩) (U.block b h5 (by omega))]
        exact (HB5.out.cell (p := ⟨b, o + i, none⟩) e2).trans e3⟩
      clear CS b5 hsz
      go_wp2_with (refine wpList_store_any (by rfl) 24 (.tmp 4) (.tmp 41) (by rfl) D (by rfl) (by rfl) R5 szDIGm (by rfl) ?_; intro W6 R6 U6)
      exact bodyPost_ret (results_ctt Tryd.results5 _ _ rfl R6 undDIGm szDIGm) rfl ⟨by rw [HD.out]; exact U6.below (HB2.out.trans (HB5.out.mono (by have := HZ2.out; omega))) (Nat.le_refl _) (Nat.le_of_lt HZ5.out), .inr ⟨HS.out, .slice xv L.length cv, by rw [HLE.out]; exact HRI.out W6 U6, by rw [HMO.out]; rfl⟩⟩

end Sc
end Go.Proofs.YtojefckhefanhabDoor
/- Rewriting twice, plain (own text of the verifier). -/
namespace Go.Proofs.YtojefckhefanhabDoor
namespace Sc

theorem rw_again {f t : List UInt8} (nn : List UInt8) (hf : f.length = 32) (ht : t.length = 32) : ∀ (n : Nat) (l : List UInt8), l.length ≤ n → ∀ o, pl t o (rw' f t l) = pl f o l → rw' t nn (rw' f t l) = rw' f nn l := by
  intro n
  induction n with
  | zero =>
    intro l hl o h
    obtain rfl : l = [] := List.eq_nil_of_length_eq_zero (by omega)
    rw [rw_short (f := f) (t := t) (by simp), rw_short (by simp), rw_short (by simp)]
  | succ n ih =>
    intro l hl o h
    match hp : pl f o l with
    | [] =>
      rw [hp] at h
      rw [(pl_nil_rw nn ht _ _ (Nat.le_refl _) o h).1, (pl_nil_rw t hf _ _ (Nat.le_refl _) o hp).1, (pl_nil_rw nn hf _ _ (Nat.le_refl _) o hp).1]
    | p :: rest =>
      rw [hp] at h
      obtain ⟨q, e1, e2, e3, e4, e5⟩ := pl_cons_rw t hf _ l (Nat.le_refl _) o p rest hp
      obtain ⟨q', a1, a2, a3, a4, a5⟩ := pl_cons_rw nn hf _ l (Nat.le_refl _) o p rest hp
      obtain ⟨q'', b1, b2, b3, b4, b5⟩ := pl_cons_rw nn ht _ (rw' f t l) (Nat.le_refl _) o p rest h
      obtain rfl : q' = q := by omega
      obtain rfl : q'' = q' := by omega
      have hb := between (l := l) (g := rw' f t l) (t := t) (f := f) (A := 0) (q := q'') (Nat.zero_le _) (by omega) ht (by rw [List.drop_zero, List.drop_zero, Nat.zero_add]; exact e4)
      rw [Nat.zero_add, List.drop_zero, List.drop_zero] at hb
      rw [hb.2.2] at b4 b5
      rw [b4, a4, hb.1, ih (l.drop (q'' + 32)) (by rw [List.length_drop]; omega) (p + 32) (b5.trans e5.symm)]
theorem mo_same (x f t : ByteArray) (hf : hsh f = 0) (ht : hsh t = 0) (h : pl t.data.toList 0 (rw' f.data.toList t.data.toList x.data.toList) = pl f.data.toList 0 x.data.toList) :
    mo (ba (rw' f.data.toList t.data.toList x.data.toList)) t = mo x f := by
  have e : (ba (rw' f.data.toList t.data.toList x.data.toList)).data.toList = rw' f.data.toList t.data.toList x.data.toList := by simp [ba]
  unfold mo
  rw [e, h, rw_again nh.data.toList (isH_of hf).len (isH_of ht).len _ x.data.toList (Nat.le_refl _) 0 h]

end Sc
end Go.Proofs.YtojefckhefanhabDoor
/- Comparing two arrays of numbers. -/
namespace Go.Proofs.YtojefckhefanhabDoor
open Go.RowKit
theorem run_part_cs {P : Program} (w : World) (e : TypeId) (k k' : IntKind) (n : Nat) (f : Nat → Int) (he : P.underlying e = some (.int k')) (j : Nat) (hj : j < n) : (part e (cs k n f) j).run P w = .ok (.int k (f j)) w := by
  simp [part, isAgg, run_underlying he, cs_get k n f j hj]

theorem eqItems_cs {P : Program} (w : World) (d : Nat) (e : TypeId) (k k' : IntKind) (n : Nat) (f g : Nat → Int) (he : P.underlying e = some (.int k')) :
    ∀ (L : List Nat), (∀ i ∈ L, i < n) → (Op.eqItems (d + 1) e 1 (cs k n f) (cs k n g) L).run P w = .ok (L.all fun i => f i == g i) w
  | [], _ => by simp [Op.eqItems]
  | i :: L, h => by
    have hi := h i (by simp)
    have ih := eqItems_cs w d e k k' n f g he L (fun j hj => h j (by simp [hj]))
    rw [Op.eqItems]
    simp only [Nat.mul_one, Sem.run_bind, run_part_cs w e k k' n f he i hi, run_part_cs w e k k' n g he i hi, Result.andThen_ok, run_equalIn_int w d e k k' (f i) (g i) he]
    by_cases hfg : f i = g i
    · simp [hfg, ih]
    · simp [hfg]

theorem run_equalIn_cs {P : Program} (w : World) (d : Nat) (t e : TypeId) (k k' : IntKind) (n : Nat) (f g : Nat → Int) {i : TypeInfo} (hu : P.underlying t = some (.array n e)) (hi : P.info? e = some i) (hc : P.cellsOf e = 1) (he : P.underlying e = some (.int k')) :
    (Op.equalIn (d + 1 + 1) t (.agg (cs k n f)) (.agg (cs k n g))).run P w = .ok ((List.range n).all fun i => f i == g i) w := by
  rw [run_equalIn_array w (d + 1) _ _ hu hi, hc]
  exact eqItems_cs w d e k k' n f g he _ (fun i hi => List.mem_range.1 hi)

theorem run_equalIn_same {P : Program} (w : World) (d : Nat) (t e : TypeId) (k k' : IntKind) (n : Nat) (f : Nat → Int) (hu : P.underlying t = some (.array n e)) (hi : (P.info? e).isSome = true) (hc : P.cellsOf e = 1) (he : P.underlying e = some (.int k')) :
    (Op.equalIn (d + 1 + 1) t (.agg (cs k n f)) (.agg (cs k n f))).run P w = .ok true w := by
  obtain ⟨i, hi'⟩ := Option.isSome_iff_exists.1 hi
  rw [run_equalIn_cs w d t e k k' n f f hu hi' hc he]
  simp
#print axioms run_equalIn_same
end Go.Proofs.YtojefckhefanhabDoor
/- ScanSelf, walked (own text of the verifier). -/
namespace Go.Proofs.YtojefckhefanhabDoor
open Go.RowKit Go.Shelf
namespace Sc

theorem wpList_load_arrG {P : Program} {ops : Array Oper} {rest : List Oper} {o : Oper} {a : Act} {w : World} {Q : Exit → Act → World → Prop} {k : IntKind} {n e : Nat} {f : Nat → Int} (hgd : Region.wanted o (yielded ops a.tmps) = true) (ty : TypeId) (x : Operand) (ho : o.op = .load ty x)
    (g : Nat) (hx : a.eval x = .pointer (some ⟨g, 0, none⟩)) (h : Row k w g n f) (hu : P.underlying ty = some (.array n e)) (hi : (P.info? ty).map (·.size) = some n)
    (hK : wpList P ops Q rest (a.put o.dst (.agg (cs k n f))) w) : wpList P ops Q (o :: rest) a w :=
  wpList_step fun K hK' => by
    rw [if_pos hgd]
    exact wp_load_mid ty x ho g 0 hx (cs k n f).toList (.array n e) h.range hu rfl (by rw [hi]; simp [cs_size]) (hK' _ _ (by simpa using hK))

set_option maxRecDepth 100000 in
set_option maxHeartbeats 8000000 in
theorem self_walk (x f t : ByteArray) (w : World) (hx : x.size ≤ 1048576) (_hf : f.size ≤ 1048576) (_ht : t.size ≤ 1048576) (hK : KT w) (hT : PT w) :
    Calls Tryd.prog 3 #[.string x, .string f, .string t] w fun e w' => e = .returned (.bool true) ∧ Below w.heap.size w w' := by
  have HK : Hid (KT w) := hK
  have HT : Hid (PT w) := hT
  have n131 : ∀ s, hsh s ≠ 0 → hsh s = 131 := fun s h => by
    rcases hsh_cases s with ⟨-, e⟩ | ⟨-, e⟩
    · exact absurd e h
    · exact e
  clear hK hT
  go_enter Tryd.func3, Tryd.ntmps3
  go_wp2_with fail
  with_reducible refine (awake_any _).mono ?_
  rintro e w1 ⟨rfl, b1⟩
  have HB1 : Hid (Below w.heap.size w w1) := b1
  have CM := modulo_any x f w1 hx (HK.out.below b1) (HT.out.below b1)
  clear b1
  go_wp2_with fail
  with_reducible refine CM.mono ?_
  rintro e w2 ⟨b2, ⟨h1, rfl⟩ | ⟨h1, v, ri, rfl⟩⟩
  · have HB2 : Hid (Below w.heap.size w w2) := HB1.out.trans (b2.mono HB1.out.size)
    have R0 : Row .u8 (w2.alloc (.cells (cs .u8 32 fun _ => 0) 24)) w2.heap.size 32 (fun _ => 0) := Row.box
    have HF1 : Hid (hsh f ≠ 0) := h1
    clear CM b2 HB1 h1
    go_wp2_with (refine wpList_store_any (by rfl) 24 (.tmp 7) (.tmp 22) (by rfl) w2.heap.size (by rfl) (by rfl) R0 szDIGm (by rfl) ?_; intro W5 R5 U5)
    have B25 : Below w2.heap.size w2 W5 := U5.below ((Below.refl _ _).alloc (Nat.le_refl _) _) (Nat.le_refl _) (by rw [World.size_alloc]; omega)
    have HB5 : Hid (Below w.heap.size w W5) := HB2.out.trans (B25.mono HB2.out.size)
    have HR5 : Hid (Row .u8 W5 w2.heap.size 32 (fun _ => 0)) := R5
    have HZ5 : Hid (w2.heap.size < W5.heap.size) := by unfold Hid; rw [U5.size, World.size_alloc]; omega
    obtain ⟨D2, hD2⟩ : ∃ D, w2.heap.size = D := ⟨_, rfl⟩
    rw [hD2] at HR5 HZ5 ⊢
    clear U5 R5 R0 B25 HB2 hD2
    with_reducible refine (rewrite_any x f t W5 (by omega)).mono ?_
    rintro e w6 ⟨b6, ⟨h1, rfl⟩ | ⟨h1, -⟩ | ⟨h1, -⟩⟩
    · have HB6 : Hid (Below w.heap.size w w6) := HB5.out.trans (b6.mono HB5.out.size)
      have R6 : Row .u8 w6 D2 32 (fun _ => 0) := HR5.out.below b6 HZ5.out
      have e131 := n131 f h1
      have heq : ∀ w, (Op.equalIn 10000 24 (.agg (cs .u8 32 fun _ => 0)) (.agg (cs .u8 32 fun _ => 0))).run Tryd.prog w = .ok true w := fun w => run_equalIn_same w 9998 24 5 .u8 .u8 32 _ undDIGm (by kernel_rfl) (by kernel_rfl) (by kernel_rfl)
      have heq2 : ∀ w, (Op.equalIn 10000 24 (.agg (cs .u8 32 fun _ => 0)) (.agg #[.int .u8 0, .int .u8 0, .int .u8 0, .int .u8 0, .int .u8 0, .int .u8 0, .int .u8 0, .int .u8 0, .int .u8 0, .int .u8 0, .int .u8 0, .int .u8 0, .int .u8 0, .int .u8 0, .int .u8 0, .int .u8 0, .int .u8 0, .int .u8 0, .int .u8 0, .int .u8 0, .int .u8 0, .int .u8 0, .int .u8 0, .int .u8 0, .int .u8 0, .int .u8 0, .int .u8 0, .int .u8 0, .int .u8 0, .int .u8 0, .int .u8 0, .int .u8 0])).run Tryd.prog w = .ok true w := fun w => by
        rw [cs_zero32m]
        exact heq w
      clear heq
      rw [e131]
      clear h1 b6 HB5 HR5 HZ5 n131
      go_wp2_with (refine wpList_load_arrG (by rfl) 24 (.tmp 7) (by rfl) D2 (by rfl) R6 undDIGm szDIGm ?_)
      go_ret
      exact ⟨rfl, HB6.out⟩
    · exact absurd h1 HF1.out
    · exact absurd h1 HF1.out
  · have HB2 : Hid (Below w.heap.size w w2) := HB1.out.trans (b2.mono HB1.out.size)
    have HRI : Hid (RI w2 w2.heap.size v (pl f.data.toList 0 x.data.toList)) := ri
    have R0 : Row .u8 (w2.alloc (.cells (cs .u8 32 fun _ => 0) 24)) w2.heap.size 32 (fun _ => 0) := Row.box
    have HF1 : Hid (hsh f = 0) := h1
    have hll : (pl f.data.toList 0 x.data.toList).length ≤ 1048576 := by
      have := pl_len f.data.toList 0 x.data.toList
      rw [size_list] at this
      omega
    clear CM b2 HB1 h1 ri
    go_wp2_with (refine wpList_store_any (by rfl) 24 (.tmp 7) (.tmp 22) (by rfl) w2.heap.size (by rfl) (by rfl) R0 szDIGm (by rfl) ?_; intro W5 R5 U5)
    have B25 : Below w2.heap.size w2 W5 := U5.below ((Below.refl _ _).alloc (Nat.le_refl _) _) (Nat.le_refl _) (by rw [World.size_alloc]; omega)
    have HB5 : Hid (Below w.heap.size w W5) := HB2.out.trans (B25.mono HB2.out.size)
    have HR5 : Hid (Row .u8 W5 w2.heap.size 32 (dgS (mo x f))) := R5
    have HZ5 : Hid (w2.heap.size < W5.heap.size) := by unfold Hid; rw [U5.size, World.size_alloc]; omega
    have RI5 : Hid (RI W5 w2.heap.size v (pl f.data.toList 0 x.data.toList)) := RI.below HRI.out B25 (Nat.le_refl _)
    obtain ⟨D2, hD2⟩ : ∃ D, w2.heap.size = D := ⟨_, rfl⟩
    rw [hD2] at HR5 HZ5 RI5 ⊢
    clear U5 R5 R0 B25 HB2 HRI hD2
    with_reducible refine (rewrite_any x f t W5 (by omega)).mono ?_
    rintro e w6 ⟨b6, ⟨h1, -⟩ | ⟨-, h2, rfl⟩ | ⟨-, h2, u, own, rfl⟩⟩
    · exact absurd HF1.out h1
    · have HB6 : Hid (Below w.heap.size w w6) := HB5.out.trans (b6.mono HB5.out.size)
      have e131 := n131 t h2
      rw [e131]
      clear h2 b6 HB5 HR5 HZ5 n131 RI5
      go_wp2
      go_ret
      exact ⟨rfl, HB6.out⟩
    have HB6 : Hid (Below w.heap.size w w6) := HB5.out.trans (b6.mono HB5.out.size)
    have HR6 : Hid (Row .u8 w6 D2 32 (dgS (mo x f))) := HR5.out.below b6 HZ5.out
    have HZ6 : Hid (D2 < w6.heap.size) := Nat.lt_of_lt_of_le HZ5.out b6.size
    have RI6 : Hid (RI w6 D2 v (pl f.data.toList 0 x.data.toList)) := RI.below RI5.out b6 (Nat.le_of_lt HZ5.out)
    have HT1 : Hid (hsh t = 0) := h2
    have CI := ints_any _ _ v u _ _ w6 RI6.out (ri_own own) (by omega) (by omega)
    rw [decide_eq_true rfl] at CI
    clear b6 HB5 HR5 HZ5 RI5 own h2 n131
    go_wp2_with fail
    with_reducible refine CI.mono ?_
    rintro e w7 ⟨rfl, q, hq⟩
    have b67 : Below w6.heap.size w6 w7 := by rw [hq]; exact bel_drewN (Below.refl _ _) q
    have HB7 : Hid (Below w.heap.size w w7) := HB6.out.trans (b67.mono HB6.out.size)
    have HR7 : Hid (Row .u8 w7 D2 32 (dgS (mo x f))) := HR6.out.below b67 HZ6.out
    have HZ7 : Hid (D2 < w7.heap.size) := Nat.lt_of_lt_of_le HZ6.out b67.size
    have RI7 : Hid (RI w7 D2 v (pl f.data.toList 0 x.data.toList)) := RI.below RI6.out b67 (Nat.le_of_lt HZ6.out)
    have hgz : (ba (rw' f.data.toList t.data.toList x.data.toList)).size = x.size := by rw [ba_size, rw_len (isH_of HT1.out).len, size_list]
    have CM := modulo_any (ba (rw' f.data.toList t.data.toList x.data.toList)) t w7 (by omega) (HK.out.below HB7.out) (HT.out.below HB7.out)
    have hgl : (ba (rw' f.data.toList t.data.toList x.data.toList)).data.toList = rw' f.data.toList t.data.toList x.data.toList := by simp [ba]
    clear CI hq b67 HB6 HR6 HZ6 RI6
    go_wp2_with fail
    with_reducible refine CM.mono ?_
    rintro e w8 ⟨b8, ⟨h3, -⟩ | ⟨-, v2, ri2, rfl⟩⟩
    · exact absurd HT1.out h3
    rw [hgl] at ri2
    have hll2 : (pl t.data.toList 0 (rw' f.data.toList t.data.toList x.data.toList)).length ≤ 1048576 := by
      have := pl_len t.data.toList 0 (rw' f.data.toList t.data.toList x.data.toList)
      rw [rw_len (isH_of HT1.out).len, size_list] at this
      omega
    have HB8 : Hid (Below w.heap.size w w8) := HB7.out.trans (b8.mono HB7.out.size)
    have HR8 : Hid (Row .u8 w8 D2 32 (dgS (mo x f))) := HR7.out.below b8 HZ7.out
    have HZ8 : Hid (D2 < w8.heap.size) := Nat.lt_of_lt_of_le HZ7.out b8.size
    have RI8 : Hid (RI w8 D2 v (pl f.data.toList 0 x.data.toList)) := RI.below RI7.out b8 (Nat.le_of_lt HZ7.out)
    have RV8 : Hid (RI w8 w8.heap.size v2 (pl t.data.toList 0 (rw' f.data.toList t.data.toList x.data.toList))) := ri2
    have R0 : Row .u8 (w8.alloc (.cells (cs .u8 32 fun _ => 0) 24)) w8.heap.size 32 (fun _ => 0) := Row.box
    clear CM b8 HB7 HR7 HZ7 RI7 ri2 hgl
    go_wp2_with (refine wpList_store_any (by rfl) 24 (.tmp 13) (.tmp 66) (by rfl) w8.heap.size (by rfl) (by rfl) R0 szDIGm (by rfl) ?_; intro W9 R9 U9)
    have B89 : Below w8.heap.size w8 W9 := U9.below ((Below.refl _ _).alloc (Nat.le_refl _) _) (Nat.le_refl _) (by rw [World.size_alloc]; omega)
    have HB9 : Hid (Below w.heap.size w W9) := HB8.out.trans (B89.mono HB8.out.size)
    have HR9 : Hid (Row .u8 W9 D2 32 (dgS (mo x f))) := HR8.out.below B89 HZ8.out
    have HS9 : Hid (Row .u8 W9 w8.heap.size 32 (dgS (mo (ba (rw' f.data.toList t.data.toList x.data.toList)) t))) := R9
    have CI := ints_any _ _ v2 v _ _ W9 (RI.below RV8.out B89 (Nat.le_refl _)) (RI.below RI8.out B89 (Nat.le_of_lt HZ8.out)) (by omega) (by omega)
    have HZ9 : Hid (D2 < W9.heap.size ∧ w8.heap.size < W9.heap.size) := ⟨Nat.lt_of_lt_of_le HZ8.out B89.size, by rw [U9.size, World.size_alloc]; omega⟩
    clear U9 R9 R0 B89 HB8 HR8 HZ8 RI8 RV8
    by_cases hsame : pl t.data.toList 0 (rw' f.data.toList t.data.toList x.data.toList) = pl f.data.toList 0 x.data.toList
    · have hmo := mo_same x f t HF1.out HT1.out hsame
      rw [hmo] at HS9
      rw [decide_eq_true hsame] at CI
      clear hmo
      generalize hE : dgS (mo x f) = E at *
      have heq : ∀ w, (Op.equalIn 10000 24 (.agg (cs .u8 32 E)) (.agg (cs .u8 32 E))).run Tryd.prog w = .ok true w := fun w => run_equalIn_same w 9998 24 5 .u8 .u8 32 _ undDIGm (by kernel_rfl) (by kernel_rfl) (by kernel_rfl)
      clear hsame hE
      with_reducible refine CI.mono ?_
      rintro e w10 ⟨rfl, q, hq⟩
      have b910 : Below W9.heap.size W9 w10 := by rw [hq]; exact bel_drewN (Below.refl _ _) q
      have HB10 : Hid (Below w.heap.size w w10) := HB9.out.trans (b910.mono HB9.out.size)
      have R10 : Row .u8 w10 D2 32 E := HR9.out.below b910 HZ9.out.1
      have S10 : Row .u8 w10 w8.heap.size 32 E := HS9.out.below b910 HZ9.out.2
      clear CI hq b910 HB9 HR9 HS9
      go_wp2_with (first | (refine wpList_load_arrG (by rfl) 24 (.tmp 7) (by rfl) D2 (by rfl) R10 undDIGm szDIGm ?_) | (refine wpList_load_arrG (by rfl) 24 (.tmp 13) (by rfl) w8.heap.size (by rfl) S10 undDIGm szDIGm ?_))
      go_ret
      exact ⟨rfl, HB10.out⟩
    · rw [decide_eq_false hsame] at CI
      clear hsame
      with_reducible refine CI.mono ?_
      rintro e w10 ⟨rfl, q, hq⟩
      have HB10 : Hid (Below w.heap.size w w10) := by rw [hq]; exact bel_drewN HB9.out q
      clear CI hq HB9 HR9 HS9
      go_wp2
      go_ret
      exact ⟨rfl, HB10.out⟩

theorem self_walkF (x f t : ByteArray) (w : World) (hx : x.size ≤ 1048576) (hf : f.size ≤ 1048576) (ht : t.size ≤ 1048576) (h : KT w ∧ PT w) :
    Calls Tryd.prog 3 #[.string x, .string f, .string t] w fun e w' => e = .returned (.bool true) ∧ Below w.heap.size w w' := self_walk x f t w hx hf ht h.1 h.2

end Sc
end Go.Proofs.YtojefckhefanhabDoor
/- The cells of the library's tables, for a witness. -/
namespace Go.Proofs.YtojefckhefanhabDoor
def tab32Cells : Array Value := ([0, 1, 28, 2, 29, 14, 24, 3, 30, 22, 20, 15, 25, 17, 4, 8, 31, 27, 13, 23, 21, 19, 16, 7, 26, 12, 18, 6, 11, 5, 10, 9].map fun (n : Nat) => Value.int .u8 (n : Int)).toArray
def tab64Cells : Array Value := ([0, 1, 56, 2, 57, 49, 28, 3, 61, 58, 42, 50, 38, 29, 17, 4, 62, 47, 59, 36, 45, 43, 51, 22, 53, 39, 33, 30, 24, 18, 12, 5, 63, 55, 48, 27, 60, 41, 37, 16, 46, 35, 44, 21, 52, 32, 23, 11, 54, 26, 40, 15, 34, 20, 31, 10, 25, 14, 19, 9, 13, 8, 7, 6].map fun (n : Nat) => Value.int .u8 (n : Int)).toArray
def powCells : Array Value := ([1, 10, 100, 1000, 10000, 100000, 1000000, 10000000, 100000000, 1000000000, 10000000000, 100000000000, 1000000000000, 10000000000000, 100000000000000, 1000000000000000, 10000000000000000, 100000000000000000, 1000000000000000000, 10000000000000000000].map fun (n : Nat) => Value.int .u64 (n : Int)).toArray
end Go.Proofs.YtojefckhefanhabDoor
