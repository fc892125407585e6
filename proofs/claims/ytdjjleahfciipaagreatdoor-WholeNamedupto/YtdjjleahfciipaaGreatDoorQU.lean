/- Gathered: SmA SaF SvB SsP ShaE. -/
import Derived.Lib.AppendIntMem
import Derived.Lib.ItoaLen
import Derived.ChangeKeysEq
import Derived.Test.YtdjjleahfciipaaGreatDoorQB
import Derived.Test.YtdjjleahfciipaaGreatDoorQG
import Derived.Test.YtdjjleahfciipaaGreatDoorQS
import Derived.Test.YtdjjleahfciipaaGreatDoorQT
/- scan.Modulo, walked (own text of the verifier). -/
namespace Go.Proofs.YtdjjleahfciipaaGreatDoor
open Go.RowKit Go.Shelf
/-- The library's table of powers lies in memory. -/
def PT (w : World) : Prop := Lib.TabIs Tryz.prog w "internal/strconv.uint64pow10" .u64 Lib.pow10Tab
theorem PT.below {w w' : World} (h : PT w) (b : Below w.heap.size w w') : PT w' := Lib.tabBelow_of_tabIs h w' b
namespace Sc
def itS (p : Nat) : ByteArray := ⟨(Lib.itoa (p : Int)).toArray⟩
theorem itS_le (p : Nat) (h : p ≤ 2097152) : (itS p).size ≤ 21 := Lib.itoa_length_le (p : Int) (by omega) (by omega)
theorem itoa_any (p : Nat) (w : World) (h1 : p ≤ 2097152) (hT : PT w) :
    Calls Tryz.prog 20 #[.int .i64 (p : Int)] w fun e w' => e = .returned (.string (itS p)) ∧ Below w.heap.size w w' :=
  (Tryz.strconv_Itoa (p : Int) (by omega) (by omega) w hT).mono (by rintro e w' ⟨rfl, k, os, rfl⟩; exact ⟨rfl, Lib.below_grow _ w (Nat.le_refl _) k os⟩)
/-- The places behind the text. -/
def ap (S : ByteArray) (L : List Nat) : ByteArray := L.foldl (fun S p => S ++ ((ByteArray.mk #[124]) ++ itS p)) S
theorem ap_succ (S : ByteArray) (L : List Nat) (k : Nat) (h : k < L.length) : ap S (L.take (k + 1)) = ap S (L.take k) ++ ((ByteArray.mk #[124]) ++ itS (L[k]'h)) := by
  unfold ap
  rw [List.take_succ_eq_append_getElem h, List.foldl_append]
  rfl
theorem ap_size (S : ByteArray) (L : List Nat) (hL : ∀ p ∈ L, p ≤ 2097152) : (ap S L).size ≤ S.size + 22 * L.length := by
  induction L generalizing S with
  | nil => exact Nat.le_refl _
  | cons a l ih =>
    have h1 := ih (S ++ ((ByteArray.mk #[124]) ++ itS a)) (fun p hp => hL p (by simp [hp]))
    have h2 := itS_le a (hL a (by simp))
    have h3 : (S ++ ((ByteArray.mk #[124]) ++ itS a)).size = S.size + (1 + (itS a).size) := by rw [ByteArray.size_append, ByteArray.size_append]; rfl
    show (ap (S ++ ((ByteArray.mk #[124]) ++ itS a)) l).size ≤ _
    rw [List.length_cons]
    omega
theorem pl_le (f : List UInt8) (hf : f.length = 32) : ∀ (n : Nat) (l : List UInt8), l.length ≤ n → ∀ o, ∀ p ∈ pl f o l, p ≤ o + l.length := by
  intro n
  induction n with
  | zero =>
    intro l hl o p hp
    rw [pl_short (by omega)] at hp
    cases hp
  | succ n ih =>
    intro l hl o p hp
    by_cases h0 : l.length < 32
    · rw [pl_short h0] at hp; cases hp
    · by_cases hw : l.take 32 = f
      · rw [pl_hit hw (by omega)] at hp
        rcases List.mem_cons.1 hp with rfl | hp
        · omega
        · have := ih (l.drop 32) (by rw [List.length_drop]; omega) _ p hp
          rw [List.length_drop] at this
          omega
      · rw [pl_miss hw hf (by omega)] at hp
        have := ih (l.drop 1) (by rw [List.length_drop]; omega) _ p hp
        rw [List.length_drop] at this
        omega
theorem undDIGm : Tryz.prog.underlying 31 = some (.array 32 5) := by kernel_rfl
theorem szDIGm : (Tryz.prog.info? 31).map (·.size) = some 32 := by kernel_rfl
theorem undD32m : Tryz.prog.underlying 30 = some (.array 32 5) := by kernel_rfl
theorem szD32m : (Tryz.prog.info? 30).map (·.size) = some 32 := by kernel_rfl
theorem results_ctt {P : Program} {k : IntKind} {n e g : Nat} {f : Nat → Int} {fn : Func} {p q r : Tmp} {ty : TypeId} (hr : fn.results = #[.cell p ty, .tmp q, .tmp r]) (tmps : Array Value) (w : World)
    (hp : tmps.getD p undef = .pointer (some ⟨g, 0, none⟩)) (h : Row k w g n f) (hu : P.underlying ty = some (.array n e)) (hi : (P.info? ty).map (·.size) = some n) :
    (results fn tmps).run P w = .ok (.tuple #[.agg (cs k n f), tmps.getD q undef, tmps.getD r undef]) w := by
  have hl := run_loadVar_row' ty h hu hi
  have hp' : tmps[p]?.getD undef = .pointer (some ⟨g, 0, none⟩) := by simpa using hp
  simp [results, hr, hp', asAddr, hl]
theorem cs_zero32m : (#[.int .u8 0, .int .u8 0, .int .u8 0, .int .u8 0, .int .u8 0, .int .u8 0, .int .u8 0, .int .u8 0, .int .u8 0, .int .u8 0, .int .u8 0, .int .u8 0, .int .u8 0, .int .u8 0, .int .u8 0, .int .u8 0, .int .u8 0, .int .u8 0, .int .u8 0, .int .u8 0, .int .u8 0, .int .u8 0, .int .u8 0, .int .u8 0, .int .u8 0, .int .u8 0, .int .u8 0, .int .u8 0, .int .u8 0, .int .u8 0, .int .u8 0, .int .u8 0] : Array Value) = cs .u8 32 (fun _ => 0) := by rfl
def nh : ByteArray := ⟨#[48, 48, 48, 48, 48, 48, 48, 48, 48, 48, 48, 48, 48, 48, 48, 48, 48, 48, 48, 48, 48, 48, 48, 48, 48, 48, 48, 48, 48, 48, 48, 48]⟩
theorem h_nh : hsh nh = 0 := by decide +kernel
/-- What is told of a text by its own hash s. -/
def mo (x s : ByteArray) : ByteArray := ap (ba (rw' s.data.toList nh.data.toList x.data.toList)) (pl s.data.toList 0 x.data.toList)
def dgS (s : ByteArray) : Nat → Int := dg (hw (bt (msg s)) (nb s))
theorem dgs_S (s : ByteArray) : dgs s = cs .u8 32 (dgS s) := rfl

set_option maxRecDepth 100000 in
set_option maxHeartbeats 8000000 in
theorem modulo_any (x s : ByteArray) (w : World) (hx : x.size ≤ 2097152) (hK : KT w) (hT : PT w) :
    Calls Tryz.prog 6 #[.string x, .string s] w fun e w' => Below w.heap.size w w' ∧ ((hsh s ≠ 0 ∧ e = .returned (.tuple #[.agg (cs .u8 32 fun _ => 0), .slice none 0 0, .int .i64 131])) ∨ (hsh s = 0 ∧ ∃ v, RI w' w'.heap.size v (pl s.data.toList 0 x.data.toList) ∧ e = .returned (.tuple #[.agg (cs .u8 32 (dgS (mo x s))), v, .int .i64 0]))) := by
  have HK : Hid (KT w) := hK
  have HT : Hid (PT w) := hT
  clear hK hT
  go_enter Tryz.func6, Tryz.ntmps6
  go_wp2_with fail
  rw [cs_zero32m]
  have R0 : Row .u8 (w.alloc (.cells (cs .u8 32 fun _ => 0) 31)) w.heap.size 32 (fun _ => 0) := Row.box
  have B0 : Below w.heap.size w (w.alloc (.cells (cs .u8 32 fun _ => 0) 31)) := (Below.refl _ _).alloc (Nat.le_refl _) _
  have z0 : w.heap.size < (w.alloc (.cells (cs .u8 32 fun _ => 0) 31)).heap.size := by rw [World.size_alloc]; omega
  show Calls Tryz.prog 9 #[.string x, .string s, .string nh] (w.alloc (.cells (cs .u8 32 fun _ => 0) 31)) _
  obtain ⟨D, hD⟩ : ∃ D, w.heap.size = D := ⟨_, rfl⟩
  have HD : Hid (w.heap.size = D) := hD
  have K1 : Hid (KT (w.alloc (.cells (cs .u8 32 fun _ => 0) 31))) := HK.out.below B0
  have T1 : Hid (PT (w.alloc (.cells (cs .u8 32 fun _ => 0) 31))) := HT.out.below B0
  rw [hD] at R0 B0 z0 ⊢
  clear hD HK HT
  generalize w.alloc (.cells (cs .u8 32 fun _ => 0) 31) = w1 at *
  refine (rewrite_any x s nh w1 (by omega)).mono ?_
  rintro e w2 ⟨b2, hcase⟩
  have R2 : Row .u8 w2 D 32 (fun _ => 0) := R0.below b2 z0
  have HB2 : Hid (Below D w w2) := B0.trans (b2.mono (by omega))
  have HZ2 : Hid (D < w2.heap.size) := Nat.lt_of_lt_of_le z0 b2.size
  have HZ1 : Hid (D < w1.heap.size) := z0
  have K2 : Hid (KT w2) := K1.out.below b2
  have T2 : Hid (PT w2) := T1.out.below b2
  clear b2 R0 B0 z0 K1 T1
  rcases hcase with ⟨h1, rfl⟩ | ⟨_, h2, -⟩ | ⟨h1, -, v, own, rfl⟩
  · have h131 : hsh s = 131 := by
      rcases hsh_cases s with ⟨-, e⟩ | ⟨-, e⟩
      · exact absurd e h1
      · exact e
    have HS : Hid (hsh s ≠ 0) := h1
    rw [h131]
    clear h1 h131
    go_wp2_with (refine wpList_store_any (f := fun _ => 0) (by rfl) 31 (.tmp 4) (.tmp 22) (by rfl) D (by rfl) (by rfl) R2 szDIGm (by rfl) ?_; intro W5 R5 U5)
    exact bodyPost_ret (results_ctt Tryz.results6 _ _ rfl R5 undDIGm szDIGm) rfl ⟨by rw [HD.out]; exact U5.below HB2.out (Nat.le_refl _) (Nat.le_of_lt HZ2.out), .inl ⟨HS.out, rfl⟩⟩
  · exact absurd h_nh h2
  have HS : Hid (hsh s = 0) := h1
  have RI2 := ri_own own
  have hown : ∀ b, v.ownBlock = some b → w1.heap.size ≤ b := fun b hb => (World.ownsRow.lt own b hb).1
  have hpl : ∀ p ∈ pl s.data.toList 0 x.data.toList, p ≤ 2097152 := fun p hp => by
    have := pl_le s.data.toList (isH_of h1).len _ x.data.toList (Nat.le_refl _) 0 p hp
    rw [size_list] at this
    omega
  have hrz : (ba (rw' s.data.toList nh.data.toList x.data.toList)).size = x.size := by rw [ba_size, rw_len (isH_of h_nh).len, size_list]
  have hll : (pl s.data.toList 0 x.data.toList).length ≤ x.size := by rw [← size_list]; exact pl_len _ _ _
  have HMO : Hid (mo x s = ap (ba (rw' s.data.toList nh.data.toList x.data.toList)) (pl s.data.toList 0 x.data.toList)) := rfl
  clear own h1
  generalize hLe : pl s.data.toList 0 x.data.toList = L at *
  have HLE : Hid (pl s.data.toList 0 x.data.toList = L) := hLe
  clear hLe
  generalize ba (rw' s.data.toList nh.data.toList x.data.toList) = S at *
  have HPL : Hid (∀ p ∈ L, p ≤ 2097152) := hpl
  obtain ⟨xv, cv, rfl, hcell⟩ := RI2
  have HOW : Hid (∀ b o, xv = some ⟨b, o, none⟩ → D < b) := fun b o e => by
    subst e
    exact Nat.lt_of_lt_of_le HZ1.out (hown b rfl)
  have HC : Hid (∀ i t, L[i]? = some t → ∃ b o, xv = some ⟨b, o, none⟩ ∧ b < w2.heap.size ∧ w2.cell? ⟨b, o + i, none⟩ = some (.int .i64 ((t : Nat) : Int))) := hcell
  clear hcell hpl hown
  have HR2 : Hid (Row .u8 w2 D 32 (fun _ => 0)) := R2
  clear R2
  go_wp2_with fail
  with_reducible refine (new_wrote w2).mono ?_
  rintro e w3 ⟨g, rfl, hg, hgl, W3, b3⟩
  have HW3 : Hid (Wrote w3 g ByteArray.empty) := W3
  have HB3 : Hid (Below w2.heap.size w2 w3) := b3
  have hg0 : 0 < g := by have := HZ2.out; omega
  have CW := writeText_wrote g ByteArray.empty S w3 W3 (by rw [hrz]; show 0 + x.size ≤ _; omega) (K2.out.below b3) hg0
  rw [ByteArray.empty_append] at CW
  clear W3 b3
  go_wp2_with fail
  with_reducible refine CW.mono ?_
  rintro e w4 ⟨rfl, W4, G4⟩
  have HW4 : Hid (Wrote w4 g S) := W4
  have HB4 : Hid (Below w2.heap.size w2 w4) := HB3.out.grown G4 HB3.out.size (fun k hk => by have := Option.some.inj hk; omega)
  have HG : Hid (w2.heap.size ≤ g) := hg
  clear CW W4 G4 HB3 HW3 hg hgl
  go_wp2_with fail
  go_loopg [30] L.length (fun gk iv wr => ∃ (k : Nat), gk + k = L.length ∧ iv = .int .i64 (k : Int) ∧ Hid (Wrote wr g (ap S (L.take k))) ∧ Hid (Below w2.heap.size w2 wr))
  case atStart => exact ⟨0, rfl, rfl, HW4, HB4⟩
  case round =>
    obtain ⟨k, hgk, rfl, hW, hB⟩ := hrel
    by_cases hk : k < L.length
    · obtain ⟨b1, o1, rfl, hb1, c1⟩ := HC.out k (L[k]'hk) (List.getElem?_eq_getElem hk)
      have d1 : wr.cell? ⟨b1, o1 + k, none⟩ = some (.int .i64 ((L[k]'hk : Nat) : Int)) := (hB.out.cell (p := ⟨b1, o1 + k, none⟩) hb1).trans c1
      have hap := ap_succ S L k hk
      have hpk : L[k]'hk ≤ 2097152 := HPL.out _ (List.getElem_mem hk)
      have hsz := ap_size S (L.take (k + 1)) (fun p hp => HPL.out p (List.mem_of_mem_take hp))
      rw [List.length_take, hap] at hsz
      generalize L[k]'hk = p at *
      rw [ByteArray.size_append, ByteArray.size_append] at hsz
      have hi := itS_le p hpk
      have CI := itoa_any p wr hpk (T2.out.below hB.out)
      clear c1
      go_wp2_with fail
      with_reducible refine CI.mono ?_
      rintro e w5 ⟨rfl, b5⟩
      have HB5 : Hid (Below w2.heap.size w2 w5) := hB.out.trans (b5.mono hB.out.size)
      have CW := writeText_wrote g (ap S (L.take k)) ((ByteArray.mk #[124]) ++ itS p) w5 (hW.out.below b5 hW.out.lt) (by rw [ByteArray.size_append]; omega) (K2.out.below HB5.out) hg0
      have h124 : (ByteArray.mk #[124]).size = 1 := rfl
      clear CI b5
      go_wp2_with fail
      with_reducible refine CW.mono ?_
      rintro e w6 ⟨rfl, W6, G6⟩
      rw [← hap] at W6
      have HW6 : Hid (Wrote w6 g (ap S (L.take (k + 1)))) := W6
      have HB6 : Hid (Below w2.heap.size w2 w6) := HB5.out.grown G6 HB5.out.size (fun k hk => by have := Option.some.inj hk; have := HG.out; omega)
      clear CW W6 G6 HB5 hap hsz
      go_wp2
      go_roundg (gk - 1)
      case measure => omega
      case rel => exact ⟨k + 1, by omega, by go_num, HW6, HB6⟩
    · have hLk : L.take k = L := List.take_of_length_le (by omega)
      rw [hLk] at hW
      have hsz := ap_size S L HPL.out
      have CS := sum_wrote g (ap S L) wr hW.out (by omega) (K2.out.below hB.out) hg0
      rw [dgs_S] at CS
      clear hLk
      go_wp2_with fail
      with_reducible refine CS.mono ?_
      rintro e w5 ⟨rfl, b5⟩
      have HB5 : Hid (Below w2.heap.size w2 w5) := hB.out.trans (b5.mono hB.out.size)
      have R5 : Row .u8 w5 D 32 (fun _ => 0) := HR2.out.below HB5.out HZ2.out
      have HZ5 : Hid (D < w5.heap.size) := Nat.lt_of_lt_of_le HZ2.out HB5.out.size
      have HRI : Hid (∀ W, Upd w5 W D → RI W W.heap.size (.slice xv L.length cv) L) := fun W U => ⟨xv, cv, rfl, fun i t ht => by
        obtain ⟨b, o, e1, e2, e3⟩ := HC.out i t ht
        have h4 := HOW.out b o e1
        have h5 : b < w5.heap.size := Nat.lt_of_lt_of_le e2 HB5.out.size
        refine ⟨b, o, e1, by rw [U.size]; exact h5, ?_⟩
        rw [World.cell?_of_block (w := w5) (w' := W) (a := ⟨b, o + i, none⟩) (U.block b h5 (by omega))]
        exact (HB5.out.cell (p := ⟨b, o + i, none⟩) e2).trans e3⟩
      clear CS b5 hsz
      go_wp2_with (refine wpList_store_any (by rfl) 31 (.tmp 4) (.tmp 41) (by rfl) D (by rfl) (by rfl) R5 szDIGm (by rfl) ?_; intro W6 R6 U6)
      exact bodyPost_ret (results_ctt Tryz.results6 _ _ rfl R6 undDIGm szDIGm) rfl ⟨by rw [HD.out]; exact U6.below (HB2.out.trans (HB5.out.mono (by have := HZ2.out; omega))) (Nat.le_refl _) (Nat.le_of_lt HZ5.out), .inr ⟨HS.out, .slice xv L.length cv, by rw [HLE.out]; exact HRI.out W6 U6, by rw [HMO.out]; rfl⟩⟩

end Sc
end Go.Proofs.YtdjjleahfciipaaGreatDoor
/- A scanner as the laws use it (own text of the verifier). -/
namespace Go.Proofs.YtdjjleahfciipaaGreatDoor
open Go.RowKit Go.Sort
/-- A slice of numbers. -/
def ISl (w : World) (x : Option Addr) (n : Nat) (f : Nat → Int) : Prop := ∀ i, i < n → ∃ a, x = some a ∧ w.cell? (a.add i) = some (.int .i64 (f i))
theorem ISl.below {w w' : World} {x : Option Addr} {n B : Nat} {f : Nat → Int} (h : ISl w x n f) (b : Below B w w') (hB : w.heap.size ≤ B) : ISl w' x n f := fun i hi => by
  obtain ⟨a, ha, hc⟩ := h i hi
  refine ⟨a, ha, ?_⟩
  have hl := World.block_lt_of_cell? _ _ hc
  rw [b.cell (p := a.add i) (by omega)]
  exact hc
namespace Sc

theorem ext_tk (x : ByteArray) (a b : Nat) : (x.extract a b).toList = (x.data.toList.take b).drop a := by
  rw [ByteArray.toList_eq, ByteArray.data_extract, Array.toList_extract]
  simp [List.extract, List.drop_take]
theorem ba_dat (l : List UInt8) : (ba l).data.toList = l := by simp [ba]

/-- A text as bytes. -/
theorem conv_str (w : World) (s : ByteArray) : ∃ y w', (convert 9 45 (.string s)).run Tryz.prog w = .ok y w' ∧ Txt w' y s.data.toList ∧ Below w.heap.size w w' ∧ ∀ x l c, y = .slice (some x) l c → w.heap.size ≤ x.block := by
  have CV := run_bytes_of_string (P := Tryz.prog) w 9 45 5 s Tryz.underlying9 und30 Tryz.underlying5
  exact ⟨_, _, CV, (txt_str w s (grownCap w s.size 0 5) 5 _ (grownCap_ge w s.size 0 5)).below (Below.refl _ _).drew, ((Below.refl _ _).alloc (Nat.le_refl _) _).drew, fun x l c e => by injection e with e _ _; injection e with e; subst e; exact Nat.le_refl _⟩

/-- Block g is a scanner for H that has taken A in; all that it holds lies at B or above. -/
def Sn (B : Nat) (w : World) (g : Nat) (H : List (List UInt8)) (A : List UInt8) : Prop :=
  ∃ m N kept S F fv, SM w g A.length kept m N S F fv ∧ GF H A kept S F ∧ (∀ h ∈ H, isH Lt h) ∧ B ≤ g ∧ B ≤ m ∧ ∀ k, fv.ownBlock = some k → B ≤ k
theorem Sn.lt {B : Nat} {w : World} {g : Nat} {H : List (List UInt8)} {A : List UInt8} (h : Sn B w g H A) : g < w.heap.size := by
  obtain ⟨m, N, kept, S, F, fv, h1, _⟩ := h
  exact h1.lt
theorem Sn.below {B : Nat} {w w' : World} {g : Nat} {H : List (List UInt8)} {A : List UInt8} (h : Sn B w g H A) (b : Below w.heap.size w w') : Sn B w' g H A := by
  obtain ⟨m, N, kept, S, F, fv, h1, h2⟩ := h
  exact ⟨m, N, kept, S, F, fv, h1.below b, h2⟩
theorem Sn.cell {B : Nat} {w : World} {g : Nat} {H : List (List UInt8)} {A : List UInt8} (h : Sn B w g H A) : w.cell? ⟨g, 0, none⟩ = some (.int .i64 (A.length : Int)) := by
  obtain ⟨m, N, kept, S, F, fv, h1, _⟩ := h
  exact h1.win.c0
theorem Sn.new (hs : List ByteArray) (x : Option Addr) (c : Nat) (w : World) (hn : hs.length ≤ 268435456) (hc : ∀ (j : Nat) (s : ByteArray), hs[j]? = some s → ∃ a : Addr, x = some a ∧ a.block < w.heap.size ∧ w.cell? (a.add j) = some (.string s)) :
    Calls Tryz.prog 10 #[.slice x hs.length c] w fun e w' => Below w.heap.size w w' ∧ (((∃ s ∈ hs, hsh s ≠ 0) ∧ e = .returned (.tuple #[.pointer none, .int .i64 131])) ∨ ((∀ s ∈ hs, hsh s = 0) ∧ ∃ g, e = .returned (.tuple #[.pointer (some ⟨g, 0, none⟩), .int .i64 0]) ∧ Sn w.heap.size w' g (hs.map fun s => s.data.toList) [])) := by
  refine (snew_any hs x c w hn hc).mono ?_
  rintro e w' ⟨b, h | ⟨h1, g, m, S, hg, hm, rfl, SM1, hS⟩⟩
  · exact ⟨b, .inl h⟩
  · refine ⟨b, .inr ⟨h1, g, rfl, m, _, _, S, [], _, SM1, GF.start (fun h => by rw [hS, List.mem_map]), fun h hh => ?_, hg, hm, fun k hk => by cases hk⟩⟩
    obtain ⟨s, hs', rfl⟩ := List.mem_map.1 hh
    exact isH_of (h1 s hs')
theorem Sn.feed {B : Nat} {w : World} {g : Nat} {H : List (List UInt8)} {A : List UInt8} (h : Sn B w g H A) (hB : B ≤ w.heap.size) (y : Value) (p : List UInt8) (hp : Txt w y p) (hy : ∀ x l c, y = .slice (some x) l c → x.block ≠ g) (hl : A.length + p.length ≤ 268435456) :
    Calls Tryz.prog 11 #[.pointer (some ⟨g, 0, none⟩), y] w fun e w' => e = .returned (.tuple #[]) ∧ Sn B w' g H (A ++ p) ∧ Below B w w' := by
  obtain ⟨m, N, kept, S, F, fv, h1, h2, h3, h4, h5, h6⟩ := h
  refine (sfeed_any g m N H A kept p S F fv y w h1 h2 h3 hp hy hl).mono ?_
  rintro e w' ⟨kept', S', F', fv', rfl, S3, G3, K3, p3⟩
  refine ⟨rfl, ⟨m, N, kept', S', F', fv', S3, G3, h3, h4, h5, fun k hk => ?_⟩, ⟨K3.os, K3.tape, K3.output, K3.size, fun k hk => K3.block k (by omega) (by omega) (by omega) (fun e => by have := h6 k e.symm; omega)⟩⟩
  rcases p3 with p3 | p3
  · exact h6 k (p3 ▸ hk)
  · exact Nat.le_trans hB (p3 k hk)
theorem Sn.found {B : Nat} {w : World} {g : Nat} {H : List (List UInt8)} {A : List UInt8} (h : Sn B w g H A) (hl : A.length ≤ 268435456) :
    Calls Tryz.prog 12 #[.pointer (some ⟨g, 0, none⟩)] w fun e w' => ∃ v F, e = .returned v ∧ Tx w' w.heap.size v (srt F) ∧ F.Nodup ∧ (∀ h, h ∈ F ↔ h ∈ H ∧ occ h A) ∧ F.length ≤ A.length ∧ Sn B w' g H A ∧ Below w.heap.size w w' := by
  have h0 := h
  obtain ⟨m, N, kept, S, F, fv, h1, h2, h3, h4, h5, h6⟩ := h
  have hF := h2.fl
  refine (sfound_any g _ kept m N S F fv w h1 (by omega)).mono ?_
  rintro e w' ⟨v, rfl, tx, b⟩
  exact ⟨v, F, rfl, tx, h2.fb.nd, fun h => (h2.fb.mem h).trans (and_congr_right fun hh => (h2.base.occ (h3 h hh)).symm), by omega, h0.below b, b⟩

/-- The list of what was found, in order. -/
theorem srt_mem (F : List (List UInt8)) (h : List UInt8) : h ∈ srt F ↔ h ∈ F := by
  unfold srt
  exact List.mem_mergeSort
theorem srt_rising (F : List (List UInt8)) (nd : F.Nodup) : (srt F).Pairwise (fun a b => a < b) := by
  have h1 : (srt F).Pairwise (fun a b => decide (a ≤ b) = true) := by
    unfold srt
    refine List.pairwise_mergeSort (fun _ _ _ h1 h2 => ?_) (fun a b => ?_) F
    · simp only [decide_eq_true_eq] at *
      exact List.le_trans h1 h2
    · simp only [Bool.or_eq_true, decide_eq_true_eq]
      exact List.le_total a b
  have h2 : (srt F).Nodup := by
    unfold srt
    exact (List.mergeSort_perm F _).nodup_iff.2 nd
  refine (h1.and h2).imp (fun {a b} ⟨p, q⟩ => ?_)
  rw [decide_eq_true_eq] at p
  rcases List.le_iff_lt_or_eq.1 p with r | r
  · exact r
  · exact absurd r q
theorem srt_is {F L : List (List UInt8)} (nd : F.Nodup) (hL : L.Pairwise (fun a b => a < b)) (mem : ∀ h, h ∈ F ↔ h ∈ L) : srt F = L :=
  rising_one (lt := fun a b => a < b) (fun a => List.lt_irrefl a) (fun _ _ _ => List.lt_trans) _ _ (srt_rising F nd) hL (fun h => (srt_mem F h).trans (mem h))

end Sc
end Go.Proofs.YtdjjleahfciipaaGreatDoor
/- Rewriting, plain: what stands between the places (own text of the verifier). -/
namespace Go.Proofs.YtdjjleahfciipaaGreatDoor
namespace Sc

theorem pl_nil_rw {f : List UInt8} (t : List UInt8) (hf : f.length = 32) : ∀ (n : Nat) (l : List UInt8), l.length ≤ n → ∀ o, pl f o l = [] → rw' f t l = l ∧ ¬ occ f l := by
  intro n
  induction n with
  | zero =>
    intro l hl o _
    obtain rfl : l = [] := List.eq_nil_of_length_eq_zero (by omega)
    refine ⟨rw_short (by simp), fun ⟨p, hp⟩ => ?_⟩
    have := win_full (l := ([] : List UInt8)) (p := p) (by rw [hp]; exact hf)
    simp at this
  | succ n ih =>
    intro l hl o h
    by_cases h0 : l.length < 32
    · refine ⟨rw_short h0, fun ⟨p, hp⟩ => ?_⟩
      have := win_full (l := l) (p := p) (by rw [hp]; exact hf)
      omega
    · by_cases hw : l.take 32 = f
      · rw [pl_hit hw (by omega)] at h
        cases h
      · rw [pl_miss hw hf (by omega)] at h
        obtain ⟨h1, h2⟩ := ih (l.drop 1) (by rw [List.length_drop]; omega) (o + 1) h
        refine ⟨by rw [rw_miss hw hf (by omega), h1, List.take_append_drop], ?_⟩
        rintro ⟨p, hp⟩
        match p, hp with
        | 0, hp => exact hw (by rw [← hp]; unfold win; rw [List.drop_zero])
        | p + 1, hp => exact h2 ⟨p, by rw [win_drop, Nat.add_comm]; exact hp⟩
theorem pl_cons_rw {f : List UInt8} (t : List UInt8) (hf : f.length = 32) : ∀ (n : Nat) (l : List UInt8), l.length ≤ n → ∀ o p rest, pl f o l = p :: rest → ∃ q, p = o + q ∧ q + 32 ≤ l.length ∧ win l q = f ∧ rw' f t l = l.take q ++ (t ++ rw' f t (l.drop (q + 32))) ∧ pl f (p + 32) (l.drop (q + 32)) = rest := by
  intro n
  induction n with
  | zero =>
    intro l hl o p rest h
    rw [pl_short (by omega)] at h
    cases h
  | succ n ih =>
    intro l hl o p rest h
    by_cases h0 : l.length < 32
    · rw [pl_short h0] at h
      cases h
    · by_cases hw : l.take 32 = f
      · rw [pl_hit hw (by omega)] at h
        injection h with e1 e2
        refine ⟨0, e1.symm, by omega, by unfold win; rw [List.drop_zero]; exact hw, ?_, by rw [← e1, Nat.zero_add]; exact e2⟩
        rw [rw_hit hw (by omega), List.take_zero, List.nil_append, Nat.zero_add]
      · rw [pl_miss hw hf (by omega)] at h
        obtain ⟨q, h1, h2, h3, h4, h5⟩ := ih (l.drop 1) (by rw [List.length_drop]; omega) (o + 1) p rest h
        rw [List.length_drop] at h2
        refine ⟨q + 1, by omega, by omega, by rw [win_drop, Nat.add_comm] at h3; exact h3, ?_, ?_⟩
        · rw [rw_miss hw hf (by omega), h4, List.drop_drop, show 1 + (q + 32) = q + 1 + 32 by omega, ← List.append_assoc, Nat.add_comm q 1, List.take_add]
        · rw [List.drop_drop, show 1 + (q + 32) = q + 1 + 32 by omega] at h5
          exact h5
theorem pl_occ {f : List UInt8} (hf : f.length = 32) (l : List UInt8) (o : Nat) : pl f o l ≠ [] ↔ occ f l := by
  constructor
  · intro h
    match hp : pl f o l, h with
    | p :: rest, _ =>
      obtain ⟨q, _, _, h3, _⟩ := pl_cons_rw [] hf _ l (Nat.le_refl _) o p rest hp
      exact ⟨q, h3⟩
  · intro h e
    exact (pl_nil_rw [] hf _ l (Nat.le_refl _) o e).2 h
/-- Between the places: the texts as slices. -/
theorem between {l g t f : List UInt8} {A q : Nat} (_hA : A ≤ l.length) (hq : q + 32 ≤ l.length - A) (ht : t.length = 32) (hg : g.drop A = (l.drop A).take q ++ (t ++ rw' f t (l.drop (A + (q + 32))))) :
    (g.take (A + q)).drop A = (l.take (A + q)).drop A ∧ win g (A + q) = t ∧ g.drop (A + q + 32) = rw' f t (l.drop (A + q + 32)) := by
  have hlq : ((l.drop A).take q).length = q := by rw [List.length_take, List.length_drop]; omega
  refine ⟨?_, ?_, ?_⟩
  · rw [List.drop_take, List.drop_take, hg, Nat.add_sub_cancel_left, List.take_append_of_le_length (by omega), List.take_of_length_le (by omega)]
  · unfold win
    rw [← List.drop_drop, hg, List.drop_append_of_le_length (by omega), List.drop_of_length_le (by omega), List.nil_append, List.take_append_of_le_length (by omega), List.take_of_length_le (by omega)]
  · rw [Nat.add_assoc, ← List.drop_drop, hg, ← List.append_assoc, List.drop_append_of_le_length (by rw [List.length_append]; omega), List.drop_of_length_le (by rw [List.length_append]; omega), List.nil_append]
end Sc
end Go.Proofs.YtdjjleahfciipaaGreatDoor
/- Rewriting twice, plain (own text of the verifier). -/
namespace Go.Proofs.YtdjjleahfciipaaGreatDoor
namespace Sc

theorem rw_again {f t : List UInt8} (nn : List UInt8) (hf : f.length = 32) (ht : t.length = 32) : ∀ (n : Nat) (l : List UInt8), l.length ≤ n → ∀ o, pl t o (rw' f t l) = pl f o l → rw' t nn (rw' f t l) = rw' f nn l := by
  intro n
  induction n with
  | zero =>
    intro l hl o h
    obtain rfl : l = [] := List.eq_nil_of_length_eq_zero (by omega)
    rw [rw_short (f := f) (t := t) (by simp), rw_short (by simp), rw_short (by simp)]
  | succ n ih =>
    intro l hl o h
    match hp : pl f o l with
    | [] =>
      rw [hp] at h
      rw [(pl_nil_rw nn ht _ _ (Nat.le_refl _) o h).1, (pl_nil_rw t hf _ _ (Nat.le_refl _) o hp).1, (pl_nil_rw nn hf _ _ (Nat.le_refl _) o hp).1]
    | p :: rest =>
      rw [hp] at h
      obtain ⟨q, e1, e2, e3, e4, e5⟩ := pl_cons_rw t hf _ l (Nat.le_refl _) o p rest hp
      obtain ⟨q', a1, a2, a3, a4, a5⟩ := pl_cons_rw nn hf _ l (Nat.le_refl _) o p rest hp
      obtain ⟨q'', b1, b2, b3, b4, b5⟩ := pl_cons_rw nn ht _ (rw' f t l) (Nat.le_refl _) o p rest h
      obtain rfl : q' = q := by omega
      obtain rfl : q'' = q' := by omega
      have hb := between (l := l) (g := rw' f t l) (t := t) (f := f) (A := 0) (q := q'') (Nat.zero_le _) (by omega) ht (by rw [List.drop_zero, List.drop_zero, Nat.zero_add]; exact e4)
      rw [Nat.zero_add, List.drop_zero, List.drop_zero] at hb
      rw [hb.2.2] at b4 b5
      rw [b4, a4, hb.1, ih (l.drop (q'' + 32)) (by rw [List.length_drop]; omega) (p + 32) (b5.trans e5.symm)]
theorem mo_same (x f t : ByteArray) (hf : hsh f = 0) (ht : hsh t = 0) (h : pl t.data.toList 0 (rw' f.data.toList t.data.toList x.data.toList) = pl f.data.toList 0 x.data.toList) :
    mo (ba (rw' f.data.toList t.data.toList x.data.toList)) t = mo x f := by
  have e : (ba (rw' f.data.toList t.data.toList x.data.toList)).data.toList = rw' f.data.toList t.data.toList x.data.toList := by simp [ba]
  unfold mo
  rw [e, h, rw_again nh.data.toList (isH_of hf).len (isH_of ht).len _ x.data.toList (Nat.le_refl _) 0 h]

end Sc
end Go.Proofs.YtdjjleahfciipaaGreatDoor
/- Comparing two arrays of numbers. -/
namespace Go.Proofs.YtdjjleahfciipaaGreatDoor
open Go.RowKit
theorem run_part_cs {P : Program} (w : World) (e : TypeId) (k k' : IntKind) (n : Nat) (f : Nat → Int) (he : P.underlying e = some (.int k')) (j : Nat) (hj : j < n) : (part e (cs k n f) j).run P w = .ok (.int k (f j)) w := by
  simp [part, isAgg, run_underlying he, cs_get k n f j hj]

theorem eqItems_cs {P : Program} (w : World) (d : Nat) (e : TypeId) (k k' : IntKind) (n : Nat) (f g : Nat → Int) (he : P.underlying e = some (.int k')) :
    ∀ (L : List Nat), (∀ i ∈ L, i < n) → (Op.eqItems (d + 1) e 1 (cs k n f) (cs k n g) L).run P w = .ok (L.all fun i => f i == g i) w
  | [], _ => by simp [Op.eqItems]
  | i :: L, h => by
    have hi := h i (by simp)
    have ih := eqItems_cs w d e k k' n f g he L (fun j hj => h j (by simp [hj]))
    rw [Op.eqItems]
    simp only [Nat.mul_one, Sem.run_bind, run_part_cs w e k k' n f he i hi, run_part_cs w e k k' n g he i hi, Result.andThen_ok, run_equalIn_int w d e k k' (f i) (g i) he]
    by_cases hfg : f i = g i
    · simp [hfg, ih]
    · simp [hfg]

theorem run_equalIn_cs {P : Program} (w : World) (d : Nat) (t e : TypeId) (k k' : IntKind) (n : Nat) (f g : Nat → Int) {i : TypeInfo} (hu : P.underlying t = some (.array n e)) (hi : P.info? e = some i) (hc : P.cellsOf e = 1) (he : P.underlying e = some (.int k')) :
    (Op.equalIn (d + 1 + 1) t (.agg (cs k n f)) (.agg (cs k n g))).run P w = .ok ((List.range n).all fun i => f i == g i) w := by
  rw [run_equalIn_array w (d + 1) _ _ hu hi, hc]
  exact eqItems_cs w d e k k' n f g he _ (fun i hi => List.mem_range.1 hi)

theorem run_equalIn_same {P : Program} (w : World) (d : Nat) (t e : TypeId) (k k' : IntKind) (n : Nat) (f : Nat → Int) (hu : P.underlying t = some (.array n e)) (hi : (P.info? e).isSome = true) (hc : P.cellsOf e = 1) (he : P.underlying e = some (.int k')) :
    (Op.equalIn (d + 1 + 1) t (.agg (cs k n f)) (.agg (cs k n f))).run P w = .ok true w := by
  obtain ⟨i, hi'⟩ := Option.isSome_iff_exists.1 hi
  rw [run_equalIn_cs w d t e k k' n f f hu hi' hc he]
  simp
#print axioms run_equalIn_same
end Go.Proofs.YtdjjleahfciipaaGreatDoor
