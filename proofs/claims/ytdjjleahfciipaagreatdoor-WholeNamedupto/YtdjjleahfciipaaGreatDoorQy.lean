/- Gathered: Na7 PtA PtV PtB PtC. -/
import Derived.Test.YtdjjleahfciipaaGreatDoorRows
import Derived.Below
import Derived.Lib.Strings
import Derived.Lib.Bytealg
import Derived.WalkMore
import Derived.Deep.RegionWith
import Derived.Laws.RangeString
import Derived.Laws.RangeAny
import Derived.Laws.Runes
import Derived.Test.YtdjjleahfciipaaGreatDoorQa
import Derived.Test.YtdjjleahfciipaaGreatDoorQn
import Derived.Test.YtdjjleahfciipaaGreatDoorQx
/- NaO NqA, joined (own text of the verifier). -/
namespace Go.Proofs.YtdjjleahfciipaaGreatDoor
open Go.RowKit

/-- awake answers true. -/
def AwN : Prop := ∀ w, Calls Tryz.prog 4 #[] w fun e w' => e = .returned (.bool true) ∧ Below w.heap.size w w'

def T0 : Tr := .mk 3 false ⟨#[]⟩ [] []
theorem ck0 : (ckT T0).2 = 0 := by
  unfold ckT T0
  rw [vT]
  decide +kernel
theorem fw0 : fwS (wMagic :: wdT T0) = 96 := by
  unfold T0
  rw [wdT, wdL]
  · decide +kernel
  · simp
theorem ser0 : serT T0 = (NB.ba (arcT T0), 0) := by unfold serT; rw [if_neg (by rw [ck0]; decide)]
theorem arc0 : (NB.ba (arcT T0)).size = 96 := by unfold arcT; rw [NB.ba_size, frm_len, fw0]
/-- Parse reads the empty directory's archive. -/
def PaE : Prop := ∀ w, Calls Tryz.prog 13 #[.string (NB.ba (arcT T0))] w fun e w' => (∃ x n c, e = .returned (.tuple #[.agg #[Value.int IntKind.i64 3, Value.bool false, Value.string ⟨#[]⟩, Value.slice x n c], .agg #[Value.int IntKind.i64 0, Value.int IntKind.i64 0]])) ∧ Below w.heap.size w w'

set_option maxHeartbeats 8000000 in
set_option maxRecDepth 10000 in
theorem nawake_any (PA : PaE) : AwN := by
  intro w
  have HP : Hid PaE := PA
  clear PA
  have hA : At w 1 (.agg #[Value.int IntKind.i64 3, Value.bool false, Value.string ⟨#[]⟩, Value.slice none 0 0]) T0 := ⟨none, 0, 0, rfl, rfl, rfl, by decide, by decide, Or.inl rfl⟩
  have C1 := nserial_any 1 3 false ⟨#[]⟩ none 0 0 T0 w hA (by unfold T0; simp only [smT, smL]; decide) (by unfold T0; simp [wfT, wfL])
  rw [ser0] at C1
  obtain ⟨X, hX⟩ : ∃ X, NB.ba (arcT T0) = X := ⟨_, rfl⟩
  have hz : X.size = 96 := by rw [← hX]; exact arc0
  have C2 := HP.out
  unfold PaE at C2
  rw [hX] at C1 C2
  clear hX hA HP
  have HC2 : Hid (∀ w, Calls Tryz.prog 13 #[.string X] w fun e w' => (∃ x n c, e = .returned (.tuple #[.agg #[Value.int IntKind.i64 3, Value.bool false, Value.string ⟨#[]⟩, Value.slice x n c], .agg #[Value.int IntKind.i64 0, Value.int IntKind.i64 0]])) ∧ Below w.heap.size w w') := C2
  clear C2
  go_enter Tryz.func4, Tryz.ntmps4
  go_wp2_with fail
  refine C1.mono ?_
  rintro e1 w1 ⟨rfl, b1⟩
  have HB : Hid (Below w.heap.size w w1) := b1
  clear b1 C1
  go_wp2_with fail
  refine (HC2.out w1).mono ?_
  rintro e2 w2 ⟨⟨xr, nr, cr, rfl⟩, b2⟩
  have HB2 : Hid (Below w.heap.size w w2) := HB.out.trans (b2.mono HB.out.size)
  clear b2 HB
  have b3 : Below w2.heap.size w2 ((w2.alloc (Obj.cells #[Value.int IntKind.i64 3, Value.bool false, Value.string ⟨#[]⟩, Value.slice xr nr cr] 25)).alloc (Obj.cells #[Value.int IntKind.i64 0, Value.int IntKind.i64 0] 49)) := ((Below.refl _ _).alloc (Nat.le_refl _) _).alloc (by rw [World.size_alloc]; omega) _
  have HB3 : Hid (Below w.heap.size w ((w2.alloc (Obj.cells #[Value.int IntKind.i64 3, Value.bool false, Value.string ⟨#[]⟩, Value.slice xr nr cr] 25)).alloc (Obj.cells #[Value.int IntKind.i64 0, Value.int IntKind.i64 0] 49))) := HB2.out.trans (b3.mono HB2.out.size)
  clear b3
  go_wp2
  go_ret
  exact ⟨rfl, HB3.out⟩

end Go.Proofs.YtdjjleahfciipaaGreatDoor

namespace Go.Proofs.YtdjjleahfciipaaGreatDoor
open Go.RowKit

def A0 : List UInt8 := frm [wMagic, wOpen, wType, wDirectory, wClose]
theorem arc_A0 : arcT T0 = A0 := by
  unfold arcT T0 A0
  rw [wdT, wdL]
  · rfl
  · simp
theorem prs_A0 : (((prs A0).code == 0) && ((prs A0).c.next == 17) && ((prs A0).c.root.k == 3) && ((prs A0).c.root.e == false) && decide ((prs A0).c.root.t = ⟨#[]⟩) && (prs A0).c.root.nms.isEmpty && (prs A0).c.root.ks.isEmpty) = true := by decide +kernel
theorem root_A0 : (prs A0).c.root = T0 ∧ (prs A0).code = 0 ∧ (prs A0).c.next = 17 := by
  have h := prs_A0
  simp only [Bool.and_eq_true, beq_iff_eq, decide_eq_true_eq, List.isEmpty_iff] at h
  obtain ⟨⟨⟨⟨⟨⟨h1, h2⟩, h3⟩, h4⟩, h5⟩, h6⟩, h7⟩ := h
  refine ⟨?_, h1, h2⟩
  generalize (prs A0).c.root = R at *
  obtain ⟨k, e, t, nms, ks⟩ := R
  unfold T0
  simp only [Tr.k, Tr.e, Tr.t, Tr.nms, Tr.ks] at h3 h4 h5 h6 h7
  rw [h3, h4, h5, h6, h7]
theorem fin_whole {p : PS} (h1 : p.code = 0) (h2 : p.c.next = 17) : p.ansT = p.c.root ∧ p.ansF = (0, 0) := by
  have e : p.fin = p.shut := by unfold PS.fin; rw [if_neg (fun h => h.2 h2)]
  have hc : ¬ p.fin.code ≠ 0 := by rw [e]; show ¬ p.code ≠ 0; omega
  exact ⟨if_neg hc, if_neg hc⟩
theorem paE : PaE := by
  intro w
  rw [arc_A0]
  refine (parse_any A0 w (by decide +kernel)).mono ?_
  rintro e w' ⟨⟨v, fr, rfl, hT, _⟩, b⟩
  obtain ⟨r1, r2, r3⟩ := root_A0
  obtain ⟨a1, a2⟩ := fin_whole r2 r3
  rw [a1, r1] at hT ⊢
  rw [a2]
  obtain ⟨x, c, hv⟩ := hT.shape
  subst hv
  exact ⟨⟨x, _, c, rfl⟩, b⟩

theorem awN : AwN := nawake_any paE -- at 4


theorem wfL_of (P : Tr → Prop) (hP : ∀ T, P T → wfT T) : ∀ (nms : List ByteArray) (ks : List Tr), nms.length = ks.length → (∀ (j : Nat) (T : Tr), ks[j]? = some T → P T) → wfL nms ks
  | [], [], _, _ => by simp [wfL]
  | s :: nms, T :: ks, hl, h => by
    rw [wfL]
    exact ⟨hP T (h 0 T rfl), wfL_of P hP nms ks (by simpa using hl) (fun j T hj => h (j + 1) T hj)⟩
  | [], _ :: _, hl, _ => by simp at hl
  | _ :: _, [], hl, _ => by simp at hl
theorem At.wf {w : World} : ∀ (m : Nat) (v : Value) (T : Tr), At w m v T → wfT T
  | 0, _, _, h => h.elim
  | m + 1, v, .mk k e t ns ks, h => by
    obtain ⟨x, n, c, _, h1, h2, _, _, h5⟩ := h
    rw [wfT]
    refine wfL_of (fun T => ∃ v, At w m v T) (fun T hT => by obtain ⟨v, hv⟩ := hT; exact At.wf m v T hv) ns ks (by omega) (fun j T hj => ?_)
    have hjn : j < ns.length := by have := (List.getElem?_eq_some_iff.1 hj).1; omega
    rcases h5 with h5 | ⟨g, o, _, _, h6⟩
    · omega
    · obtain ⟨a, b, d, f, p, q, _, _, _, _, _, hA⟩ := h6 j ns[j] T (List.getElem?_eq_getElem hjn) hj
      exact ⟨_, hA⟩
end Go.Proofs.YtdjjleahfciipaaGreatDoor
/- strings.IndexRune and strings.ContainsRune over a text of ASCII bytes; spath.inLabel. -/
namespace Go.Proofs.YtdjjleahfciipaaGreatDoor
open Go.RowKit

set_option maxHeartbeats 400000 in
theorem ib_any (s : ByteArray) (c : Int) (w : World) :
    Calls Tryz.prog 81 #[.string s, .int .u8 c] w fun e w' => e = .returned (.int .i64 (Lib.indexByte s.data.toList c.toNat.toUInt8)) ∧ w' = w := by
  have h : ∀ w, (callFunc 131 #[.string s, .int .u8 c]).run Tryz.prog w = .ok (.value (.int .i64 (Lib.indexByte s.data.toList c.toNat.toUInt8))) w := fun w => by
    rw [run_callFunc_extern Tryz.func131 (by kernel_rfl) (by kernel_rfl) (by kernel_rfl) (e := Extern.BytealgIndexByte.indexByte) (by kernel_rfl), Lib.run_indexByteString]
    rfl
  go_enter Tryz.func81, Tryz.ntmps81
  go_wp2
  go_ret
  exact ⟨rfl, rfl⟩

set_option maxHeartbeats 400000 in
set_option maxRecDepth 100000 in
theorem idxR_ascii (s : ByteArray) (r : Int) (w : World) (h0 : 0 ≤ r) (h1 : r < 128) :
    Calls Tryz.prog 109 #[.string s, .int .i32 r] w fun e w' => e = .returned (.int .i64 (Lib.indexByte s.data.toList r.toNat.toUInt8)) ∧ w' = w := by
  have hw : IntKind.u8.wrap r = r := by rw [IntKind.wrap_u8]; omega
  go_enter Tryz.func109, Tryz.ntmps109
  go_wp2_with fail
  refine (ib_any _ _ _).mono ?_
  rintro e w1 ⟨rfl, rfl⟩
  go_wp2
  try rw [Exit.noGoto_ret]
  go_ret
  exact ⟨rfl, rfl⟩

set_option maxHeartbeats 400000 in
theorem validR (r : Int) (w : World) (h : 128 ≤ r) :
    Calls Tryz.prog 128 #[.int .i32 r] w fun e w' => e = .returned (.bool (validRune r)) ∧ w' = w := by
  by_cases h1 : r < 55296
  · have hh : Hid (validRune r = true) := by unfold Hid validRune; exact decide_eq_true (Or.inl ⟨by omega, h1⟩)
    go_enter Tryz.func128, Tryz.ntmps128
    go_wp2
    go_ret
    exact ⟨by rw [hh.out]; rfl, rfl⟩
  · by_cases h2 : 57343 < r
    · by_cases h3 : r ≤ 1114111
      · have hh : Hid (validRune r = true) := by unfold Hid validRune; exact decide_eq_true (Or.inr ⟨h2, h3⟩)
        go_enter Tryz.func128, Tryz.ntmps128
        go_wp2
        go_ret
        exact ⟨by rw [hh.out]; rfl, rfl⟩
      · have hh : Hid (validRune r = false) := by unfold Hid validRune; exact decide_eq_false (by omega)
        go_enter Tryz.func128, Tryz.ntmps128
        go_wp2
        go_ret
        exact ⟨by rw [hh.out]; rfl, rfl⟩
    · have hh : Hid (validRune r = false) := by unfold Hid validRune; exact decide_eq_false (by omega)
      go_enter Tryz.func128, Tryz.ntmps128
      go_wp2
      go_ret
      exact ⟨by rw [hh.out]; rfl, rfl⟩

theorem iter_bel (w : World) (s : ByteArray) (pos : Nat) : Below w.heap.size w (w.iter s pos) := (Below.refl _ _).alloc (Nat.le_refl _) _

set_option maxHeartbeats 1000000 in
set_option maxRecDepth 100000 in
theorem idxR_err (s : ByteArray) (w : World) (ha : ∀ k, bt s k < 128) :
    Calls Tryz.prog 109 #[.string s, .int .i32 65533] w fun e w' => e = .returned (.int .i64 (-1)) ∧ Below w.heap.size w w' := by
  have HA : Hid (∀ k, bt s k < 128) := ha
  clear ha
  have hb := get_bt s
  go_enter Tryz.func109, Tryz.ntmps109
  go_wp2
  go_loopw [4] (fun v w' => v = .int .i64 0 ∧ ∃ pos, pos ≤ s.size ∧ w' = w.iter s pos) (fun _ w' => s.size - w'.iterPos w.heap.size)
  case atStart => exact ⟨rfl, 0, Nat.zero_le _, rfl⟩
  case round =>
    obtain ⟨rfl, pos, hle, rfl⟩ := hrel
    by_cases hp : pos < s.size
    · have hlt := HA.out pos
      have hlt' : (s[pos]'hp).toNat < 128 := by have := hb pos hp; omega
      have hnx : ∀ ty, (Instr.next (.pointer (some ⟨w.heap.size, 0, none⟩)) true ty).run Tryz.prog (w.iter s pos) = _ := fun ty => run_next_ascii w s pos ty hp hlt'
      rw [hb pos hp] at hnx
      have hne : (bt s pos == 65533) = false := by rw [beq_eq_false_iff_ne]; omega
      go_wp2
      go_roundw
      case rel => exact ⟨rfl, pos + 1, by omega, rfl⟩
      case measure => simp; omega
    · have hnx : ∀ ty, (Instr.next (.pointer (some ⟨w.heap.size, 0, none⟩)) true ty).run Tryz.prog (w.iter s pos) = _ := fun ty => run_next_end w s pos ty hp
      go_wp2
      try rw [Exit.noGoto_ret]
      go_ret
      exact ⟨rfl, iter_bel _ _ _⟩

set_option maxHeartbeats 1000000 in
set_option maxRecDepth 100000 in
theorem idxR_inv (s : ByteArray) (r : Int) (w : World) (h : 128 ≤ r) (hne : r ≠ 65533) (hv : validRune r = false) :
    Calls Tryz.prog 109 #[.string s, .int .i32 r] w fun e w' => e = .returned (.int .i64 (-1)) ∧ Below w.heap.size w w' := by
  have hn : (r == 65533) = false := by rw [beq_eq_false_iff_ne]; exact hne
  clear hne
  go_enter Tryz.func109, Tryz.ntmps109
  go_wp2_with fail
  refine (validR _ _ h).mono ?_
  rintro e w1 ⟨rfl, rfl⟩
  rw [hv]
  go_wp2
  try rw [Exit.noGoto_ret]
  go_ret
  exact ⟨rfl, Below.refl _ _⟩

theorem indexByte_none (l : List UInt8) (c : UInt8) (h : ∀ b ∈ l, b ≠ c) : Lib.indexByte l c = -1 := by
  induction l with
  | nil => rfl
  | cons b l ih =>
    have h1 := ih (fun x hx => h x (List.mem_cons_of_mem _ hx))
    have h2 := h b (List.mem_cons_self ..)
    unfold Lib.indexByte
    rw [if_neg (by simpa using h2), h1]
    rfl

theorem mem_bt (s : ByteArray) (ha : ∀ k, bt s k < 128) : ∀ b ∈ s.data.toList, b.toNat < 128 := by
  intro b hb
  obtain ⟨k, hk, e⟩ := List.mem_iff_getElem.1 hb
  have h1 := ha k
  rw [← Lib.size_eq] at hk
  rw [← get_bt s k hk] at h1
  have : (s[k]'hk) = b := e
  rw [this] at h1
  omega

set_option maxHeartbeats 1000000 in
set_option maxRecDepth 100000 in
theorem idxR_val (s : ByteArray) (r : Int) (w : World) (ha : ∀ k, bt s k < 128) (h : 128 ≤ r) (hne : r ≠ 65533) (hv : validRune r = true) :
    Calls Tryz.prog 109 #[.string s, .int .i32 r] w fun e w' => e = .returned (.int .i64 (-1)) ∧ Below w.heap.size w w' := by
  have hn : (r == 65533) = false := by rw [beq_eq_false_iff_ne]; exact hne
  clear hne
  obtain ⟨f1, f2, f3⟩ := encode_facts r (by rw [validRune_eq]; exact hv) h
  generalize hE : Utf8.encode r = E at f1 f2 f3
  obtain ⟨n, hn1⟩ : ∃ n, E.size = n + 1 := ⟨E.size - 1, by omega⟩
  have f4 : 128 ≤ bt E n := by
    have := f3 (by omega)
    rw [← get_bt E n (by omega)]
    simp only [hn1, Nat.add_sub_cancel] at this
    omega
  have f5 := bt_bd E n
  clear f3
  have IB : ∀ (a : Nat) (w : World), Calls Tryz.prog 81 #[.string (s.extract a s.size), .int .u8 (bt E n)] w fun e w' => e = .returned (.int .i64 (-1)) ∧ w' = w := fun a w => by
    refine (ib_any _ _ w).mono ?_
    rintro e w1 ⟨rfl, rfl⟩
    refine ⟨?_, rfl⟩
    rw [indexByte_none]
    intro b hb hc
    have := mem_bt s ha b (mem_extract hb)
    rw [hc] at this
    have : ((bt E n).toNat.toUInt8).toNat = (bt E n).toNat := by
      show (UInt8.ofNat (bt E n).toNat).toNat = _
      rw [UInt8.toNat_ofNat']; omega
    omega
  have HA : Hid (∀ k, bt s k < 128) := ha
  clear ha
  have hn2 : n < E.size := by omega
  have hszE : (E.size : Int) = (n : Int) + 1 := by omega
  have HNN : Hid (E.size = n + 1) := hn1
  clear hn1
  have hb := get_bt s
  have hbE := get_bt E
  go_enter Tryz.func109, Tryz.ntmps109
  go_wp2_with fail
  refine (validR _ _ h).mono ?_
  rintro e w1 ⟨rfl, rfl⟩
  rw [hv]
  go_wp2
  go_step3
  go_wp2
  go_loopw [9] (fun i w' => i = .int .i64 n ∧ w' = w1) (fun _ _ => 0)
  case atStart => exact ⟨rfl, rfl⟩
  case round =>
    obtain ⟨rfl, rfl⟩ := hrel
    by_cases hlt : n < s.size
    · have hne : (bt s n == bt E n) = false := by have := HA.out n; rw [beq_eq_false_iff_ne]; omega
      go_wp2
      go_step3
      go_wp2
      go_region
      go_wp2
      have B2 : Hid (Below wr.heap.size wr wr.drew) := (Below.refl _ _).drew
      generalize wr.drew = W2 at B2 ⊢
      have hn3 : ((n : Int) + 1).toNat = n + 1 := by omega
      have hn4 : n + 1 ≤ s.size := by omega
      have hn5 : (n : Int) + 1 ≤ (s.size : Int) := by omega
      have hn6 : (0 : Int) ≤ (n : Int) + 1 := by omega
      have hn7 : IntKind.i64.wrap ((n : Int) + 1) = (n : Int) + 1 := by rw [IntKind.wrap_i64]; omega
      have hn8 : ¬ ((n : Int) + 1 < 0) := by omega
      have hn9 : n < s.size := by omega
      go_region_with (go_at_call 81; refine (IB _ _).mono ?_; rintro e w2 ⟨rfl, rfl⟩)
      all_goals go_wp2
      simp (config := { zetaDelta := true }) only [Exit.inBlock, Exit.noGoto_ret, Exit.then]
      go_ret
      exact ⟨rfl, B2.out.drew⟩
    · go_wp2
      try rw [Exit.noGoto_ret]
      go_ret
      exact ⟨rfl, Below.refl _ _⟩

theorem idxR_high (s : ByteArray) (r : Int) (w : World) (ha : ∀ k, bt s k < 128) (h : 128 ≤ r) :
    Calls Tryz.prog 109 #[.string s, .int .i32 r] w fun e w' => e = .returned (.int .i64 (-1)) ∧ Below w.heap.size w w' := by
  by_cases h1 : r = 65533
  · subst h1; exact idxR_err s w ha
  · cases h2 : validRune r
    · exact idxR_inv s r w h h1 h2
    · exact idxR_val s r w ha h h1 h2

/-- The signs that a label may have. -/
def sg : ByteArray := ⟨#[43, 45, 46, 95, 63, 61]⟩
theorem sg_nat : ∀ k : Nat, k < 6 → bt sg k < 128 := by decide +kernel
theorem sg_ascii (k : Nat) : bt sg k < 128 := by
  by_cases h : k < 6
  · exact sg_nat k h
  · unfold bt; rw [dif_neg (show ¬ k < sg.size from h)]; decide

/-- Is it one of the signs? -/
def sgHas (r : Int) : Bool := decide (0 ≤ Lib.indexByte sg.data.toList r.toNat.toUInt8)

set_option maxHeartbeats 400000 in
theorem conR_ascii (r : Int) (w : World) (h0 : 0 ≤ r) (h1 : r < 128) :
    Calls Tryz.prog 77 #[.string sg, .int .i32 r] w fun e w' => e = .returned (.bool (sgHas r)) ∧ w' = w := by
  have hh : Hid (sgHas r = decide (0 ≤ Lib.indexByte sg.data.toList r.toNat.toUInt8)) := rfl
  go_enter Tryz.func77, Tryz.ntmps77
  go_wp2_with fail
  refine (idxR_ascii _ _ _ h0 h1).mono ?_
  rintro e w1 ⟨rfl, rfl⟩
  go_wp2
  go_ret
  exact ⟨by rw [hh.out]; rfl, rfl⟩

set_option maxHeartbeats 400000 in
theorem conR_high (r : Int) (w : World) (h : 128 ≤ r) :
    Calls Tryz.prog 77 #[.string sg, .int .i32 r] w fun e w' => e = .returned (.bool false) ∧ Below w.heap.size w w' := by
  go_enter Tryz.func77, Tryz.ntmps77
  go_wp2_with fail
  refine (idxR_high sg _ _ sg_ascii h).mono ?_
  rintro e w1 ⟨rfl, B⟩
  go_wp2
  go_ret
  exact ⟨rfl, B⟩

/-- May a label have this byte? -/
def labC (r : Int) : Bool := decide ((65 ≤ r ∧ r ≤ 90) ∨ (97 ≤ r ∧ r ≤ 122) ∨ (48 ≤ r ∧ r ≤ 57)) || sgHas r

set_option maxHeartbeats 400000 in
theorem inL_ascii (r : Int) (w : World) (h0 : 0 ≤ r) (h1 : r < 128) :
    Calls Tryz.prog 51 #[.int .i32 r] w fun e w' => e = .returned (.bool (labC r)) ∧ w' = w := by
  by_cases a1 : (65 ≤ r ∧ r ≤ 90) ∨ (97 ≤ r ∧ r ≤ 122) ∨ (48 ≤ r ∧ r ≤ 57)
  · have hh : Hid (labC r = true) := by unfold Hid labC; rw [decide_eq_true a1]; rfl
    by_cases b1 : 65 ≤ r ∧ r ≤ 90
    · obtain ⟨c1, c2⟩ := b1
      clear a1
      go_enter Tryz.func51, Tryz.ntmps51
      go_wp2
      go_ret
      exact ⟨by rw [hh.out]; rfl, rfl⟩
    · by_cases b2 : 97 ≤ r ∧ r ≤ 122
      · obtain ⟨c1, c2⟩ := b2
        have c3 : ¬ r ≤ 90 := by omega
        have c4 : 65 ≤ r := by omega
        clear a1 b1
        go_enter Tryz.func51, Tryz.ntmps51
        go_wp2
        go_ret
        exact ⟨by rw [hh.out]; rfl, rfl⟩
      · obtain ⟨c1, c2⟩ : 48 ≤ r ∧ r ≤ 57 := by omega
        have c3 : ¬ 65 ≤ r := by omega
        have c4 : ¬ 97 ≤ r := by omega
        clear a1 b1 b2
        go_enter Tryz.func51, Tryz.ntmps51
        go_wp2
        go_ret
        exact ⟨by rw [hh.out]; rfl, rfl⟩
  · have hh : Hid (labC r = sgHas r) := by unfold Hid labC; rw [decide_eq_false a1]; rfl
    have c1 : (decide (65 ≤ r) && decide (r ≤ 90)) = false := by
      by_cases q : 65 ≤ r
      · have : ¬ r ≤ 90 := by omega
        simp [q, this]
      · simp [q]
    have k1 : ¬ 65 ≤ r ∨ ¬ r ≤ 90 := by omega
    have k2 : ¬ 97 ≤ r ∨ ¬ r ≤ 122 := by omega
    have k3 : ¬ 48 ≤ r ∨ ¬ r ≤ 57 := by omega
    clear a1 c1
    rcases k1 with k1 | k1
    all_goals rcases k2 with k2 | k2
    all_goals rcases k3 with k3 | k3
    all_goals first
      | (exfalso; omega)
      | (go_enter Tryz.func51, Tryz.ntmps51
         go_wp2_with fail
         all_goals (refine (conR_ascii _ _ h0 h1).mono ?_
                    rintro e w1 ⟨rfl, rfl⟩
                    go_wp2
                    go_ret
                    exact ⟨by rw [hh.out]; rfl, rfl⟩))

set_option maxHeartbeats 400000 in
theorem inL_high (r : Int) (w : World) (h : 128 ≤ r) :
    Calls Tryz.prog 51 #[.int .i32 r] w fun e w' => e = .returned (.bool false) ∧ Below w.heap.size w w' := by
  have k1 : ¬ r ≤ 90 := by omega
  have k2 : ¬ r ≤ 122 := by omega
  have k3 : ¬ r ≤ 57 := by omega
  have k4 : 65 ≤ r := by omega
  have k5 : 97 ≤ r := by omega
  have k6 : 48 ≤ r := by omega
  go_enter Tryz.func51, Tryz.ntmps51
  go_wp2_with fail
  refine (conR_high _ _ h).mono ?_
  rintro e w1 ⟨rfl, B⟩
  go_wp2
  go_ret
  exact ⟨rfl, B⟩

end Go.Proofs.YtdjjleahfciipaaGreatDoor
/- The thirty-two letters: radix.Value and the document's. -/
namespace Go.Proofs.YtdjjleahfciipaaGreatDoor
open Go.RowKit

/-- The thirty-two letters. -/
def lts : ByteArray := ⟨#[48, 49, 50, 51, 52, 53, 54, 55, 56, 57, 97, 98, 99, 100, 102, 103, 104, 105, 106, 107, 108, 109, 110, 112, 113, 114, 115, 118, 119, 120, 121, 122]⟩
def lt32 (v : Int) : Int := bt lts v.toNat
/-- A letter's value, or -1. -/
def vl (c : Int) : Int := Lib.indexByte lts.data.toList c.toNat.toUInt8
theorem vl_nat : ∀ c : Nat, c < 256 → (0 ≤ vl c ∧ vl c < 32 ∧ lt32 (vl c) = c) ∨ vl c = -1 := by decide +kernel
theorem vl_spec (c : Int) (h : 0 ≤ c ∧ c < 256) : (0 ≤ vl c ∧ vl c < 32 ∧ lt32 (vl c) = c) ∨ vl c = -1 := by
  obtain ⟨n, rfl⟩ : ∃ n : Nat, c = n := ⟨c.toNat, by omega⟩
  exact vl_nat n (by omega)
theorem vl_lt : ∀ d : Nat, d < 32 → vl (lt32 d) = d := by decide +kernel
theorem vl_first : ∀ c : Nat, c < 256 → ∀ d : Nat, d < 32 → (bt lts d = c ↔ vl c = d) := by decide +kernel

set_option maxHeartbeats 400000 in
theorem value_any (c : Int) (w : World) :
    Calls Tryz.prog 56 #[.int .u8 c] w fun e w' => e = .returned (.int .i64 (vl c)) ∧ w' = w := by
  go_enter Tryz.func56, Tryz.ntmps56
  go_wp2_with fail
  refine (ib_any lts c w).mono ?_
  rintro e w1 ⟨rfl, rfl⟩
  go_wp2
  go_ret
  exact ⟨rfl, rfl⟩

/-- May it be a label? -/
def labOk (s : ByteArray) : Prop := 1 ≤ s.size ∧ s.size ≤ 211 ∧ bt s 0 ≠ 46 ∧ ∀ k, k < s.size → labC (bt s k) = true
instance (s : ByteArray) : Decidable (labOk s) := inferInstanceAs (Decidable (_ ∧ _ ∧ _ ∧ _))
def lab (s : ByteArray) : Int := if labOk s then 0 else 130
/-- May it be a hash? -/
def hshOk (s : ByteArray) : Prop := s.size = 32 ∧ ∀ k, k < 32 → 0 ≤ vl (bt s k)
instance (s : ByteArray) : Decidable (hshOk s) := inferInstanceAs (Decidable (_ ∧ _))
def hsh (s : ByteArray) : Int := if hshOk s then 0 else 131
theorem lab_cases (s : ByteArray) : (labOk s ∧ lab s = 0) ∨ (¬ labOk s ∧ lab s = 130) := by
  unfold lab
  by_cases h : labOk s
  · left; exact ⟨h, if_pos h⟩
  · right; exact ⟨h, if_neg h⟩
theorem hsh_cases (s : ByteArray) : (hshOk s ∧ hsh s = 0) ∨ (¬ hshOk s ∧ hsh s = 131) := by
  unfold hsh
  by_cases h : hshOk s
  · left; exact ⟨h, if_pos h⟩
  · right; exact ⟨h, if_neg h⟩
theorem lab_no {s : ByteArray} (h : ¬ labOk s) : lab s = 130 := if_neg h
theorem lab_yes {s : ByteArray} (h : labOk s) : lab s = 0 := if_pos h
theorem hsh_no {s : ByteArray} (h : ¬ hshOk s) : hsh s = 131 := if_neg h
theorem hsh_yes {s : ByteArray} (h : hshOk s) : hsh s = 0 := if_pos h

set_option maxHeartbeats 400000 in
theorem ckH_any (s : ByteArray) (w : World) :
    Calls Tryz.prog 26 #[.string s] w fun e w' => e = .returned (.int .i64 (hsh s)) ∧ w' = w := by
  by_cases hz : s.size = 32
  · have Z : ((s.size : Int) == 32) = true := by simp [hz]
    have Z2 : (s.size : Int) = 32 := by omega
    have HZ : Hid (s.size = 32) := hz
    have hb := get_bt s
    clear hz Z2
    go_enter Tryz.func26, Tryz.ntmps26
    go_wp2
    clear Z
    generalize ((s.size : Int) != 32) = zb
    go_loop [9] (fun i => ∃ k : Nat, k ≤ s.size ∧ i = .int .i64 k ∧ Hid (∀ j, j < k → 0 ≤ vl (bt s j))) (fun i => s.size - (intOf i).toNat)
    case atStart => exact ⟨0, Nat.zero_le _, rfl, fun j hj => absurd hj (by omega)⟩
    case round =>
      obtain ⟨k, hk, rfl, hok⟩ := hrel
      by_cases hlt : k < s.size
      · have hk32 : k < 32 := by have := HZ.out; omega
        by_cases hv : vl (bt s k) < 0
        · have hh : Hid (hsh s = 131) := hsh_no (fun h => by have := h.2 k (by have := HZ.out; omega); omega)
          go_wp2_with fail
          refine (value_any _ _).mono ?_
          rintro e w1 ⟨rfl, rfl⟩
          go_wp2
          go_ret
          exact ⟨by rw [hh.out]; rfl, rfl⟩
        · go_wp2_with fail
          refine (value_any _ _).mono ?_
          rintro e w1 ⟨rfl, rfl⟩
          go_wp2
          go_round
          case rel => exact ⟨k + 1, by omega, by go_num, fun j hj => by
            by_cases e : j = k
            · rw [e]; omega
            · exact hok.out j (by omega)⟩
          case measure => simp [intOf]; omega
      · have hh : Hid (hsh s = 0) := hsh_yes ⟨HZ.out, fun j hj => hok.out j (by have := HZ.out; omega)⟩
        go_wp2
        go_ret
        exact ⟨by rw [hh.out]; rfl, rfl⟩
  · have Z : ((s.size : Int) == 32) = false := by rw [beq_eq_false_iff_ne]; omega
    have hh : Hid (hsh s = 131) := hsh_no (fun h => hz h.1)
    clear hz
    go_enter Tryz.func26, Tryz.ntmps26
    go_wp2
    go_ret
    exact ⟨by rw [hh.out]; rfl, rfl⟩

end Go.Proofs.YtdjjleahfciipaaGreatDoor
/- spath.CheckLabel and the document's, walked. -/
namespace Go.Proofs.YtdjjleahfciipaaGreatDoor
open Go.RowKit

theorem dec_width (s : ByteArray) (pos : Nat) (h : pos < s.size) : 1 ≤ (Utf8.decode s pos).2 := by
  by_cases ha : (s[pos]'h).toNat < 128
  · rw [decode_ascii s pos h ha]
    exact Nat.le_refl _
  · exact (decode_high s pos h (by omega)).2

theorem labC_high (b : Int) (h : 128 ≤ b) (h2 : b < 256) : labC b = false := by
  have h : ∀ n : Nat, n < 128 → labC ((n + 128 : Nat) : Int) = false := by decide +kernel
  have := h (b.toNat - 128) (by omega)
  rw [show ((b.toNat - 128 + 128 : Nat) : Int) = b from by omega] at this
  exact this

theorem empty_iffP (s : ByteArray) : s.toList.isEmpty = true ↔ s.size = 0 := by
  rw [Lib.toList_data, List.isEmpty_iff, Lib.size_eq, List.length_eq_zero_iff]

set_option maxHeartbeats 1000000 in
theorem ckL_any (s : ByteArray) (w : World) :
    Calls Tryz.prog 22 #[.string s] w fun e w' => e = .returned (.int .i64 (lab s)) ∧ Below w.heap.size w w' := by
  cases h1 : s.toList.isEmpty
  · have h0 : s.size ≠ 0 := fun e => by rw [(empty_iffP s).2 e] at h1; exact Bool.noConfusion h1
    have hp0 : 0 < s.size := by omega
    have hb := get_bt s
    by_cases h2 : 211 < s.size
    · have hh : Hid (lab s = 130) := lab_no (fun h => by have := h.2.1; omega)
      clear h0
      go_enter Tryz.func22, Tryz.ntmps22
      go_wp2
      go_ret
      exact ⟨by rw [hh.out]; rfl, Below.refl _ _⟩
    · by_cases h3 : bt s 0 = 46
      · have hh : Hid (lab s = 130) := lab_no (fun h => h.2.2.1 h3)
        have H3 : (bt s 0 == 46) = true := by simp [h3]
        clear h0 h3
        go_enter Tryz.func22, Tryz.ntmps22
        go_wp2
        go_ret
        exact ⟨by rw [hh.out]; rfl, Below.refl _ _⟩
      · have H3 : (bt s 0 == 46) = false := by simp [h3]
        have N3 : Hid (bt s 0 ≠ 46) := h3
        have N2 : Hid (¬ 211 < s.size) := h2
        clear h0 h3
        go_enter Tryz.func22, Tryz.ntmps22
        go_wp2
        clear h2
        go_loopw [4] (fun _ wr => ∃ pos : Nat, pos ≤ s.size ∧ wr = w.iter s pos ∧ Hid (∀ j, j < pos → labC (bt s j) = true)) (fun _ w' => s.size - w'.iterPos w.heap.size)
        case atStart => exact ⟨0, Nat.zero_le _, rfl, fun j hj => absurd hj (by omega)⟩
        case round =>
          obtain ⟨pos, hle, rfl, hok⟩ := hrel
          by_cases hp : pos < s.size
          · have bd := bt_bd s pos
            by_cases ha : bt s pos < 128
            · have hlt' : (s[pos]'hp).toNat < 128 := by have := hb pos hp; omega
              have hnx : ∀ ty, (Instr.next (.pointer (some ⟨w.heap.size, 0, none⟩)) true ty).run Tryz.prog (w.iter s pos) = _ := fun ty => run_next_ascii w s pos ty hp hlt'
              rw [hb pos hp] at hnx
              cases hc : labC (bt s pos)
              · have hh : Hid (lab s = 130) := lab_no (fun h => by have := h.2.2.2 pos hp; rw [hc] at this; exact Bool.noConfusion this)
                have HC : Hid (labC (bt s pos) = false) := hc
                clear hc
                go_wp2_with fail
                refine (inL_ascii _ _ bd.1 ha).mono ?_
                rintro e w1 ⟨rfl, rfl⟩
                rw [HC.out]
                go_wp2
                go_ret
                exact ⟨by rw [hh.out]; rfl, iter_bel _ _ _⟩
              · have HC : Hid (labC (bt s pos) = true) := hc
                clear hc
                go_wp2_with fail
                refine (inL_ascii _ _ bd.1 ha).mono ?_
                rintro e w1 ⟨rfl, rfl⟩
                rw [HC.out]
                go_wp2
                go_roundw
                case rel => exact ⟨pos + 1, by omega, rfl, fun j hj => by
                  by_cases e : j = pos
                  · rw [e]; exact HC.out
                  · exact hok.out j (by omega)⟩
                case measure => simp; omega
            · have hge : 128 ≤ (s[pos]'hp).toNat := by have := hb pos hp; omega
              have hd := (decode_high s pos hp hge).1
              have hnx : ∀ ty, (Instr.next (.pointer (some ⟨w.heap.size, 0, none⟩)) true ty).run Tryz.prog (w.iter s pos) = _ := fun ty => run_next_any w s pos ty hp
              have hh : Hid (lab s = 130) := lab_no (fun h => by
                have := h.2.2.2 pos hp
                rw [labC_high _ (by omega) bd.2] at this
                exact Bool.noConfusion this)
              have B1 : Hid (Below w.heap.size w (w.iter s (pos + (Utf8.decode s pos).2))) := iter_bel _ _ _
              have hd2 : (128 : Int) ≤ ((Utf8.decode s pos).1 : Int) := by omega
              generalize ((Utf8.decode s pos).1 : Int) = R at hnx hd2
              generalize w.iter s (pos + (Utf8.decode s pos).2) = W1 at hnx B1
              go_wp2_with fail
              refine (inL_high _ _ hd2).mono ?_
              rintro e w2 ⟨rfl, B2⟩
              go_wp2
              go_ret
              exact ⟨by rw [hh.out]; rfl, B1.out.trans (B2.mono B1.out.size)⟩
          · have hnx : ∀ ty, (Instr.next (.pointer (some ⟨w.heap.size, 0, none⟩)) true ty).run Tryz.prog (w.iter s pos) = _ := fun ty => run_next_end w s pos ty hp
            have hh : Hid (lab s = 0) := lab_yes ⟨by omega, by have := N2.out; omega, N3.out, fun k hk => hok.out k (by omega)⟩
            go_wp2
            go_ret
            exact ⟨by rw [hh.out]; rfl, iter_bel _ _ _⟩
  · have hh : Hid (lab s = 130) := lab_no (fun h => by have := (empty_iffP s).1 h1; have := h.1; omega)
    go_enter Tryz.func22, Tryz.ntmps22
    go_wp2
    go_ret
    exact ⟨by rw [hh.out]; rfl, Below.refl _ _⟩

end Go.Proofs.YtdjjleahfciipaaGreatDoor
/- The document's CheckLabel, walked; spath.Parse and the document's. -/
namespace Go.Proofs.YtdjjleahfciipaaGreatDoor
open Go.RowKit

/-- Is c one of t's bytes? -/
def amB (t : ByteArray) (c : Int) : Bool := (List.range t.size).any (fun k => bt t k == c)
theorem amB_iff (t : ByteArray) (c : Int) : amB t c = true ↔ ∃ k, k < t.size ∧ bt t k = c := by
  unfold amB
  rw [List.any_eq_true]
  constructor
  · rintro ⟨k, hk, e⟩; exact ⟨k, List.mem_range.1 hk, by simpa using e⟩
  · rintro ⟨k, hk, e⟩; exact ⟨k, List.mem_range.2 hk, by simpa using e⟩

/-- The document's alphabet of labels. -/
def alp : ByteArray := ⟨#[48, 49, 50, 51, 52, 53, 54, 55, 56, 57, 65, 66, 67, 68, 69, 70, 71, 72, 73, 74, 75, 76, 77, 78, 79, 80, 81, 82, 83, 84, 85, 86, 87, 88, 89, 90, 97, 98, 99, 100, 101, 102, 103, 104, 105, 106, 107, 108, 109, 110, 111, 112, 113, 114, 115, 116, 117, 118, 119, 120, 121, 122, 43, 45, 95, 63, 61, 46]⟩
theorem alp_lab : ∀ n : Nat, n < 256 → amB alp (n : Int) = labC (n : Int) := by decide +kernel
theorem alp_is (c : Int) (h : 0 ≤ c ∧ c < 256) : amB alp c = labC c := by
  obtain ⟨n, rfl⟩ : ∃ n : Nat, c = n := ⟨c.toNat, by omega⟩
  exact alp_lab n (by omega)
theorem alp_size : alp.size = 68 := rfl

end Go.Proofs.YtdjjleahfciipaaGreatDoor
