/- Gathered: ScH ScI ScJ ScL ScM. -/
import Derived.Maps.OwnSet
import Derived.Maps.Keyed
import Derived.StringKeys
import Derived.Test.YtdjjleahfciipaaGreatDoorQM
/- scan.Rewriter's Close and Places, walked (own text of the verifier). -/
namespace Go.Proofs.YtdjjleahfciipaaGreatDoor
open Go.RowKit
namespace Sc

theorem gbt {a b c : World} {r : Option Nat} (h : a.grownBy b r) (k : b.grownBy c r) : a.grownBy c r := ⟨k.os.trans h.os, k.tape.trans h.tape, k.output.trans h.output, Nat.le_trans h.size k.size, fun i h1 h2 => (k.block i (Nat.lt_of_lt_of_le h1 h.size) h2).trans (h.block i h1 h2)⟩
theorem RM.shut {W : World} {g n : Nat} {kept f t : List UInt8} {Ps : List Nat} {cl : Bool} {pv : Value} (h : RM W g n kept f t Ps cl pv) (v : Bool) : RM (W.setCell ⟨g, 36, none⟩ (.bool v)) g n kept f t Ps v pv := by
  have co : ∀ i, i ≠ 36 → (W.setCell ⟨g, 36, none⟩ (.bool v)).cell? ⟨g, i, none⟩ = W.cell? ⟨g, i, none⟩ := fun i hi => World.cell?_setCell_other _ _ _ _ (by intro q; injection q with _ q; exact hi q.symm)
  have fo : ∀ i, (W.setCell ⟨g, 36, none⟩ (.bool v)).frozen? ⟨g, i, none⟩ = W.frozen? ⟨g, i, none⟩ := fun i => World.frozen?_setCell _ _ _ _
  have hw := h.win
  have hsh := hw.sh
  refine ⟨⟨(co 0 (by omega)).trans hw.c0, (fo 0).trans hw.f0, (co 1 (by omega)).trans hw.c1, (fo 1).trans hw.f1, fun i b hb => (co _ (by have := (List.getElem?_eq_some_iff.1 hb).1; omega)).trans (hw.kp i b hb), fun i hi => by rw [co _ (by omega)]; exact hw.rm i hi, fun i hi => (fo _).trans (hw.fr i hi), hsh⟩, (co 33 (by omega)).trans h.cf, (co 34 (by omega)).trans h.ct, (co 35 (by omega)).trans h.cp, (fo 35).trans h.fp, World.cell?_setCell_same _ _ _ h.cc, (fo 36).trans h.fc, row_same h.pr (fun k hk => Below.heap_setCell W ⟨g, 36, none⟩ _ k (fun q => h.pg (by rw [hk, q]))), h.pg⟩

set_option maxRecDepth 100000 in
set_option maxHeartbeats 8000000 in
theorem rclose_any (g n : Nat) (f t kept : List UInt8) (Ps : List Nat) (pv : Value) (w : World) {cl : Bool} (hR : RM w g n kept f t Ps cl pv) :
    Calls Tryz.prog 29 #[.pointer (some ⟨g, 0, none⟩)] w fun e w' => e = .returned (.string (ba kept)) ∧ RM w' g n [] f t Ps true pv ∧ w.grownBy w' (some g) := by
  have HR : Hid (RM w g n kept f t Ps cl pv) := hR
  clear hR
  have CK := kept_any g n kept w HR.out.win
  go_enter Tryz.func29, Tryz.ntmps29
  go_wp2_with fail
  with_reducible refine CK.mono ?_
  rintro e w1 ⟨rfl, q, rfl⟩
  clear CK
  have R1 : Hid (RM (w.drewN q) g n kept f t Ps cl pv) := HR.out.below ⟨rfl, rfl, rfl, Nat.le_refl _, fun _ _ => rfl⟩
  have K1 : Hid (w.grownBy (w.drewN q) none) := ⟨rfl, rfl, rfl, Nat.le_refl _, fun _ _ _ => rfl⟩
  generalize w.drewN q = w1 at *
  have T1 : Txt w1 (.slice (some ⟨g, 2, none⟩) kept.length kept.length) kept := Txt.mk (Nat.le_refl _) fun i b hb => R1.out.win.kp i b hb
  have CV := conv_win T1 (p := 0) (q := kept.length) (Nat.zero_le _) (Nat.le_refl _) kept.length
  rw [List.take_length, List.drop_zero, Nat.add_zero, Nat.sub_zero] at CV
  clear T1
  go_wp2_with fail
  have CP := keep_any g n kept (.slice none 0 0) [] w1 R1.out.win (Txt.nil rfl rfl) (by simp)
  with_reducible refine CP.mono ?_
  rintro e w2 ⟨rfl, W2, G2, h2⟩
  clear CP CV
  have R2 : Hid (RM w2 g n [] f t Ps cl pv) := R1.out.taken W2 G2 h2
  have G : Hid (w.grownBy w2 (some g)) := gbt ⟨K1.out.os, K1.out.tape, K1.out.output, K1.out.size, fun k h1 _ => K1.out.block k h1 (by simp)⟩ G2
  clear W2 G2 h2 R1 K1
  have c36 := R2.out.cc
  have f36 := R2.out.fc
  go_wp2_with fail
  go_ret
  exact ⟨rfl, R2.out.shut true, gbt G.out (gb_setC w2 g 36 _)⟩

end Sc
end Go.Proofs.YtdjjleahfciipaaGreatDoor
/- slices.Clone at []int, walked (own text of the verifier). -/
namespace Go.Proofs.YtdjjleahfciipaaGreatDoor
open Go.RowKit
namespace Sc

set_option maxRecDepth 100000 in
set_option maxHeartbeats 8000000 in
theorem cloneI_any (a : Addr) (n c : Nat) (l : List Nat) (w : World) (hl : l.length = n) (hb : n ≤ 536870912) (hc : ∀ j x : Nat, l[j]? = some x → w.cell? (a.add j) = some (.int .i64 (x : Int))) :
    Calls Tryz.prog 60 #[.slice (some a) n c] w fun e w' => ∃ v', e = .returned v' ∧ w'.ownsRow w.heap.size 3 1 v' n (pv_ l) ∧ Below w.heap.size w w' := by
  have HC : Hid (∀ j x : Nat, l[j]? = some x → w.cell? (a.add j) = some (.int .i64 (x : Int))) := hc
  clear hc
  have hq : ∀ (w : World) (a : Option Addr) (n c n' c' : Nat), (binOp .eql 32 (.slice a n c) (.slice none n' c')).run Tryz.prog w = .ok (.bool a.isNone) w := fun w a n c n' c' => Lib.run_eql_slice_nil w _ _ a n c n' c' und41
  obtain ⟨i0, hi, hz0, hz1, hz2⟩ := info_parts info3
  go_enter Tryz.func60, Tryz.ntmps60
  go_wp2_with (at_builtin; refine wpList_append_own _ rfl _ _ 32 rfl w.heap.size 3 i0 (.int .i64 0) 1 8 und41 hi hz0 hz1 hz2 rfl (by decide) _ _ _ rfl (World.ownsRow_made w #[] 0 (Nat.le_refl _) (Nat.zero_le _) rfl) a n c (pv_ l) rfl ?q1 ?q2 ?q3 ?q4 ?q5 ?q6 ?_)
  case q1 => rw [Nat.mul_one]; unfold pv_; rw [List.length_map]; exact hl
  case q2 =>
    intro j u hj
    unfold pv_ at hj
    rw [List.getElem?_map] at hj
    obtain ⟨x, hx, rfl⟩ := Option.map_eq_some_iff.1 hj
    exact Lib.cell?_alloc_some _ (HC.out j x hx)
  case q3 => intro u hu; unfold pv_ at hu; obtain ⟨x, _, rfl⟩ := List.mem_map.1 hu; rfl
  case q4 => unfold maxLen; omega
  case q5 => omega
  case q6 => simp
  intro v' w1 hown hgrow hnil
  go_wp2
  go_ret
  exact ⟨v', rfl, by simpa using hown, ((Below.refl _ w).alloc (Nat.le_refl _) _).grown hgrow (by simp) (by intro k hk; simp [Value.ownBlock] at hk; omega)⟩
theorem cloneI_nil (n c : Nat) (w : World) : Calls Tryz.prog 60 #[.slice none n c] w fun e w' => e = .returned (.slice none 0 0) ∧ w' = w := by
  have hq : ∀ (w : World) (a : Option Addr) (n c n' c' : Nat), (binOp .eql 32 (.slice a n c) (.slice none n' c')).run Tryz.prog w = .ok (.bool a.isNone) w := fun w a n c n' c' => Lib.run_eql_slice_nil w _ _ a n c n' c' und41
  go_enter Tryz.func60, Tryz.ntmps60
  go_wp2
  go_ret
  exact ⟨rfl, rfl⟩

set_option maxRecDepth 100000 in
set_option maxHeartbeats 8000000 in
theorem rplaces_any (g n : Nat) (f t kept : List UInt8) (Ps : List Nat) (cl : Bool) (pv : Value) (w : World) (hR : RM w g n kept f t Ps cl pv) (hps : Ps.length ≤ 536870912) :
    Calls Tryz.prog 30 #[.pointer (some ⟨g, 0, none⟩)] w fun e w' => ∃ v', e = .returned v' ∧ w'.ownsRow w.heap.size 3 1 v' Ps.length (pv_ Ps) ∧ Below w.heap.size w w' := by
  have c35 := hR.cp
  rcases hR.pr with ⟨hl, ⟨hv, h0⟩ | ⟨b, cap, cur, hv, _, hb, h1, _, h3, h4⟩⟩
  · have CC := cloneI_nil 0 0 w
    rw [hv] at c35
    clear hR
    go_enter Tryz.func30, Tryz.ntmps30
    go_wp2_with fail
    with_reducible refine CC.mono ?_
    rintro e w' ⟨rfl, rfl⟩
    go_wp2
    go_ret
    exact ⟨_, rfl, ⟨hl, .inl ⟨rfl, h0⟩⟩, Below.refl _ _⟩
  · have CC := cloneI_any ⟨b, 0, none⟩ Ps.length cap Ps w rfl hps (fun j x hj => by
      have hk : cur.toList[j]? = some (.int .i64 (x : Int)) := by
        have hlt : j < Ps.length := (List.getElem?_eq_some_iff.1 hj).1
        have : (cur.toList.take (Ps.length * 1))[j]? = (pv_ Ps)[j]? := by rw [h4]
        rw [List.getElem?_take, if_pos (by omega)] at this
        rw [this]; unfold pv_; rw [List.getElem?_map, hj]; rfl
      rw [Addr.add_lit, Nat.zero_add, Lib.cell_of_heap hb]
      simpa using hk)
    rw [hv] at c35
    clear hR h4
    go_enter Tryz.func30, Tryz.ntmps30
    go_wp2_with fail
    with_reducible refine CC.mono ?_
    rintro e w' ⟨v', rfl, ho, hB⟩
    go_wp2
    go_ret
    exact ⟨v', rfl, ho, hB⟩

end Sc
end Go.Proofs.YtdjjleahfciipaaGreatDoor
/- scan.NewRewriter, walked (own text of the verifier). -/
namespace Go.Proofs.YtdjjleahfciipaaGreatDoor
open Go.RowKit
namespace Sc

/-- A new rewriter. -/
theorem RM.new {W : World} {g : Nat} {f t : ByteArray} {T : TypeId} (h : W.heap[g]? = some (.cells #[.int .i64 0, .int .i64 0, .int .u8 0, .int .u8 0, .int .u8 0, .int .u8 0, .int .u8 0, .int .u8 0, .int .u8 0, .int .u8 0, .int .u8 0, .int .u8 0, .int .u8 0, .int .u8 0, .int .u8 0, .int .u8 0, .int .u8 0, .int .u8 0, .int .u8 0, .int .u8 0, .int .u8 0, .int .u8 0, .int .u8 0, .int .u8 0, .int .u8 0, .int .u8 0, .int .u8 0, .int .u8 0, .int .u8 0, .int .u8 0, .int .u8 0, .int .u8 0, .int .u8 0, .string f, .string t, .slice none 0 0, .bool false] T (0, 0))) : RM W g 0 [] f.data.toList t.data.toList [] false (.slice none 0 0) := by
  have fz : ∀ i, W.frozen? ⟨g, i, none⟩ = false := fun i => Lib.frozen_of_heap h i
  refine ⟨⟨by rw [Lib.cell_of_heap h]; rfl, fz _, by rw [Lib.cell_of_heap h]; rfl, fz _, fun i b hb => by simp at hb, fun i hi => ?_, fun i _ => fz _, by simp⟩, by rw [Lib.cell_of_heap h]; rfl, by rw [Lib.cell_of_heap h]; rfl, by rw [Lib.cell_of_heap h]; rfl, fz _, by rw [Lib.cell_of_heap h]; rfl, fz _, ⟨rfl, .inl ⟨rfl, rfl⟩⟩, by simp [Value.ownBlock]⟩
  rw [Lib.cell_of_heap h]
  simp
  omega

set_option maxRecDepth 100000 in
set_option maxHeartbeats 8000000 in
theorem newrw_any (f t : ByteArray) (w : World) :
    Calls Tryz.prog 27 #[.string f, .string t] w fun e w' => Below w.heap.size w w' ∧ ((hsh f ≠ 0 ∧ e = .returned (.tuple #[.pointer none, .int .i64 (hsh f)])) ∨ (hsh f = 0 ∧ hsh t ≠ 0 ∧ e = .returned (.tuple #[.pointer none, .int .i64 (hsh t)])) ∨ (hsh f = 0 ∧ hsh t = 0 ∧ ∃ g, w.heap.size ≤ g ∧ e = .returned (.tuple #[.pointer (some ⟨g, 0, none⟩), .int .i64 0]) ∧ RM w' g 0 [] f.data.toList t.data.toList [] false (.slice none 0 0))) := by
  go_enter Tryz.func27, Tryz.ntmps27
  go_wp2_with fail
  have B1 : Hid (Below w.heap.size w (w.alloc (.cells #[.string f, .string t] 9))) := (Below.refl _ _).alloc (Nat.le_refl _) _
  obtain ⟨S, hS⟩ : ∃ S, w.heap.size = S := ⟨_, rfl⟩
  have hb : (w.alloc (.cells #[.string f, .string t] 9)).heap[w.heap.size]? = some (.cells #[.string f, .string t] 9) := heap_alloc_new _ _
  have d0 : (w.alloc (.cells #[.string f, .string t] 9)).cell? ⟨w.heap.size, 0, none⟩ = some (.string f) := by rw [Lib.cell_of_heap hb]; rfl
  have d1 : (w.alloc (.cells #[.string f, .string t] 9)).cell? ⟨w.heap.size, 1, none⟩ = some (.string t) := by rw [Lib.cell_of_heap hb]; rfl
  clear hb
  have HS : Hid (w.heap.size = S) := hS
  rw [hS] at d0 d1 ⊢
  clear hS
  generalize w.alloc (.cells #[.string f, .string t] 9) = w1 at *
  go_loop [13] (fun v => v = .int .i64 0 ∨ (v = .int .i64 1 ∧ hsh f = 0) ∨ (v = .int .i64 2 ∧ hsh f = 0 ∧ hsh t = 0)) (fun v => 2 - (intOf v).toNat)
  case atStart => exact .inl rfl
  case round =>
    rcases hrel with rfl | ⟨rfl, hf⟩ | ⟨rfl, hf, ht⟩
    · go_wp2_with fail
      refine (ckH_any f w1).mono ?_
      rintro e w2 ⟨rfl, rfl⟩
      by_cases hf : hsh f = 0
      · rw [hf]
        go_wp2
        go_round
        case rel => exact .inr (.inl ⟨rfl, hf⟩)
        case measure => simp [intOf]
      · go_wp2
        go_ret2
        exact ⟨B1.out, .inl ⟨hf, rfl⟩⟩
    · go_wp2_with fail
      refine (ckH_any t w1).mono ?_
      rintro e w2 ⟨rfl, rfl⟩
      by_cases ht : hsh t = 0
      · rw [ht]
        go_wp2
        go_round
        case rel => exact .inr (.inr ⟨rfl, hf, ht⟩)
        case measure => simp [intOf]
      · go_wp2
        go_ret2
        exact ⟨B1.out, .inr (.inl ⟨hf, ht, rfl⟩)⟩
    · go_wp2
      go_ret2
      exact ⟨B1.out.alloc (by have := B1.out.size; exact this) _, w1.heap.size, B1.out.size, rfl, RM.new (heap_alloc_new _ _)⟩

end Sc
end Go.Proofs.YtdjjleahfciipaaGreatDoor
/- scan.Rewrite, walked (own text of the verifier). -/
namespace Go.Proofs.YtdjjleahfciipaaGreatDoor
open Go.RowKit
namespace Sc

theorem pl_len (f : List UInt8) (o : Nat) (l : List UInt8) : (pl f o l).length ≤ l.length := by
  have : ∀ (n o : Nat) (l : List UInt8), (plN f n o l).length ≤ n := by
    intro n
    induction n with
    | zero => intro o l; exact Nat.le_refl _
    | succ n ih =>
      intro o l
      unfold plN
      by_cases h1 : l.length < 32
      · rw [if_pos h1]; simp
      · rw [if_neg h1]
        by_cases h2 : l.take 32 = f
        · rw [if_pos h2, List.length_cons]; have := ih (o + 32) (l.drop 32); omega
        · rw [if_neg h2]; have := ih (o + 1) (l.drop 1); omega
  exact this _ o l
theorem rw_len {f t : List UInt8} (ht : t.length = 32) (l : List UInt8) : (rw' f t l).length = l.length := by
  have : ∀ (n : Nat) (l : List UInt8), (rwN f t n l).length = l.length := by
    intro n
    induction n with
    | zero => intro l; rfl
    | succ n ih =>
      intro l
      unfold rwN
      by_cases h1 : l.length < 32
      · rw [if_pos h1]
      · rw [if_neg h1]
        by_cases h2 : l.take 32 = f
        · rw [if_pos h2, List.length_append, ih, List.length_drop, ht]; omega
        · rw [if_neg h2, List.length_append, ih, List.length_drop, List.length_take]; omega
  exact this _ l
theorem hshOk_of {f : ByteArray} (h : hsh f = 0) : hshOk f := by
  unfold hsh at h
  by_cases q : hshOk f
  · exact q
  · rw [if_neg q] at h; cases h
theorem isH_of {f : ByteArray} (h : hsh f = 0) : isH Lt f.data.toList := by
  obtain ⟨h1, h2⟩ := hshOk_of h
  have hl : f.data.toList.length = 32 := by rw [Array.length_toList]; exact h1
  refine ⟨hl, fun b hb => ?_⟩
  obtain ⟨k, hk, rfl⟩ := List.mem_iff_getElem.1 hb
  have h3 := h2 k (by omega)
  have hk2 : k < f.size := by rw [h1]; omega
  rw [← get_bt f k hk2] at h3
  exact h3
theorem txt_str (W : World) (s : ByteArray) (c : Nat) (e : TypeId) (z : Nat × Nat) (hc : s.size ≤ c) : Txt (W.alloc (.cells (bytesRow s c) e z)) (.slice (some ⟨W.heap.size, 0, none⟩) s.size c) s.data.toList := by
  have hl : s.data.toList.length = s.size := by rw [Array.length_toList]; rfl
  have hb := heap_alloc_new W (.cells (bytesRow s c) e z)
  rw [← hl]
  refine Txt.mk (by rw [hl]; exact hc) fun i b hi => ?_
  rw [Nat.zero_add, Lib.cell_of_heap hb]
  have hlt : i < s.data.size := by have := (List.getElem?_eq_some_iff.1 hi).1; rw [Array.length_toList] at this; exact this
  rw [bytesRow_at s c i hlt]
  obtain ⟨_, rfl⟩ := List.getElem?_eq_some_iff.1 hi
  rfl

set_option maxRecDepth 100000 in
set_option maxHeartbeats 8000000 in
theorem rewrite_any (x f t : ByteArray) (w : World) (hx : x.size ≤ 268435456) :
    Calls Tryz.prog 9 #[.string x, .string f, .string t] w fun e w' => Below w.heap.size w w' ∧ ((hsh f ≠ 0 ∧ e = .returned (.tuple #[.string ⟨#[]⟩, .slice none 0 0, .int .i64 (hsh f)])) ∨ (hsh f = 0 ∧ hsh t ≠ 0 ∧ e = .returned (.tuple #[.string ⟨#[]⟩, .slice none 0 0, .int .i64 (hsh t)])) ∨ (hsh f = 0 ∧ hsh t = 0 ∧ ∃ v, w'.ownsRow w.heap.size 3 1 v (pl f.data.toList 0 x.data.toList).length (pv_ (pl f.data.toList 0 x.data.toList)) ∧ e = .returned (.tuple #[.string (ba (rw' f.data.toList t.data.toList x.data.toList)), v, .int .i64 0]))) := by
  have CN := newrw_any f t w
  go_enter Tryz.func9, Tryz.ntmps9
  go_wp2_with fail
  with_reducible refine CN.mono ?_
  rintro e w1 ⟨B1, ⟨h1, rfl⟩ | ⟨h1, h2, rfl⟩ | ⟨h1, h2, g, hg, rfl, RM1⟩⟩
  · clear CN
    go_wp2
    go_ret3
    exact ⟨B1, .inl ⟨h1, rfl⟩⟩
  · clear CN
    go_wp2
    go_ret3
    exact ⟨B1, .inr (.inl ⟨h1, h2, rfl⟩)⟩
  · clear CN
    have R1 : Hid _ := RM1
    have HB1 : Hid _ := B1
    have H1 : Hid (hsh f = 0) := h1
    have H2 : Hid (hsh t = 0) := h2
    clear RM1 B1 h1 h2
    have CV := run_bytes_of_string (P := Tryz.prog) w1 9 45 5 x Tryz.underlying9 und30 Tryz.underlying5
    have hcx := grownCap_ge w1 x.size 0 5
    generalize grownCap w1 x.size 0 5 = cx at *
    replace CV : (convert 9 45 (.string x)).run Tryz.prog w1 = .ok (.slice (some ⟨w1.heap.size, 0, none⟩) x.size cx) (w1.alloc (.cells (bytesRow x cx) 5 ((bytesRow x cx).size, (bytesRow x cx).size + 1))).drew := CV
    have TX : Hid (Txt (w1.alloc (.cells (bytesRow x cx) 5 ((bytesRow x cx).size, (bytesRow x cx).size + 1))).drew _ _) := (txt_str w1 x cx 5 ((bytesRow x cx).size, (bytesRow x cx).size + 1) hcx).below (Below.refl _ _).drew
    have b2 : Below w1.heap.size w1 (w1.alloc (.cells (bytesRow x cx) 5 ((bytesRow x cx).size, (bytesRow x cx).size + 1))).drew := ((Below.refl _ _).alloc (Nat.le_refl _) _).drew
    have R2 : Hid _ := R1.out.below b2
    have B2 : Hid (Below w.heap.size w (w1.alloc (.cells (bytesRow x cx) 5 ((bytesRow x cx).size, (bytesRow x cx).size + 1))).drew) := HB1.out.trans (b2.mono HB1.out.size)
    have hxl : x.data.toList.length = x.size := by rw [Array.length_toList]; rfl
    have lg := R1.out.lt
    clear b2 R1 HB1
    have CF := rfeed_any g [] f.data.toList t.data.toList [] [] x.data.toList [] (.slice none 0 0) (.slice (some ⟨w1.heap.size, 0, none⟩) x.size cx) _ R2.out (GS.start _ _) TX.out (fun a l c e => by injection e with e _ _; injection e with e; subst e; show w1.heap.size ≠ g; omega) (by omega) (by simp) (isH_of H1.out) (isH_of H2.out).len (by simp)
    generalize (w1.alloc (.cells (bytesRow x cx) 5 ((bytesRow x cx).size, (bytesRow x cx).size + 1))).drew = w2 at *
    clear hcx lg
    go_wp2_with fail
    with_reducible refine CF.mono ?_
    rintro e w3 ⟨ans, kept, Ps, pv', rfl, R3, G3, K3, p3⟩
    have RX : Hid (RM w3 g x.data.toList.length kept f.data.toList t.data.toList Ps false pv') := R3
    have GX : Hid (GS f.data.toList t.data.toList x.data.toList ans kept Ps) := G3
    have B3 : Hid (Below w.heap.size w w3) := ⟨K3.os.trans B2.out.os, K3.tape.trans B2.out.tape, K3.output.trans B2.out.output, Nat.le_trans B2.out.size K3.size, fun k hk => (K3.block k (Nat.lt_of_lt_of_le hk B2.out.size) (by omega) (by simp [Value.ownBlock])).trans (B2.out.block k hk)⟩
    clear CF CV R2 TX B2 R3 G3 K3 p3
    have CL := rclose_any g _ _ _ _ _ _ w3 RX.out
    go_wp2_with fail
    with_reducible refine CL.mono ?_
    rintro e w4 ⟨rfl, R4, G4⟩
    have RY : Hid _ := R4
    have B4 : Hid (Below w.heap.size w w4) := B3.out.grown G4 B3.out.size (fun k hk => by have := Option.some.inj hk; omega)
    clear CL RX B3 R4 G4
    have CP := rplaces_any g _ _ _ _ _ _ _ w4 RY.out (by rw [← GX.out.all.2]; have := pl_len f.data.toList 0 x.data.toList; omega)
    have hsum : ans.length + kept.length = x.data.toList.length := by
      have h1 := rw_len (f := f.data.toList) (isH_of H2.out).len x.data.toList
      rw [GX.out.all.1, List.length_append] at h1
      exact h1
    have hz1 := ba_size ans
    have hz2 := ba_size kept
    have hno : ¬ 9223372036854775807 < (ba ans).size + (ba kept).size := by omega
    have hcat : ba ans ++ ba kept = ba (ans ++ kept) := by
      apply ByteArray.ext
      simp [ba]
    clear hz1 hz2 hsum
    go_wp2_with fail
    with_reducible refine CP.mono ?_
    rintro e w5 ⟨v', rfl, o5, b5⟩
    clear CP hno
    go_wp2
    go_ret3
    have hz := B4.out.size
    refine ⟨B4.out.trans (b5.mono hz), .inr (.inr ⟨H1.out, H2.out, v', ?_, ?_⟩)⟩
    · rw [GX.out.all.2]
      exact ⟨o5.1, o5.2.imp id fun ⟨b, cap, cur, e1, e2, e3⟩ => ⟨b, cap, cur, e1, Nat.le_trans hz e2, e3⟩⟩
    · rw [GX.out.all.1]
      rfl

end Sc
end Go.Proofs.YtdjjleahfciipaaGreatDoor
/- scan.Scanner: a set of texts in memory (own text of the verifier). -/
namespace Go.Proofs.YtdjjleahfciipaaGreatDoor
open Go.RowKit Go.Maps Go.WideMaps
namespace Sc

theorem undM : Tryz.prog.underlying 75 = some (.map 9 81) := by kernel_rfl
theorem lawS : Keyed Tryz.prog 9 := string_keyed Tryz.underlying9
theorem zeroU (w : World) : (zeroValue 81).run Tryz.prog w = .ok (.agg #[]) w := by kernel_rfl
/-- What stands at a text in a set: nothing to tell. -/
def rS : Value → Option (DataW Unit × List MemPlace)
  | .agg a => if a.size = 0 then some (.lit (.bool true), []) else none
  | _ => none
theorem rS_one {v : Value} {d : DataW Unit} {ps : List MemPlace} (h : rS v = some (d, ps)) : v = .agg #[] := by
  unfold rS at h
  split at h
  · rename_i a
    by_cases e : a.size = 0
    · rw [Array.eq_empty_of_size_eq_zero e]
    · rw [if_neg e] at h; cases h
  · cases h
/-- Block m is a set of at most N texts, those in S. -/
def SetM (W : World) (m N : Nat) (S : List (List UInt8)) : Prop := ∃ n D, n ≤ N ∧ W.ownsMap Tryz.prog 9 rS m n D ∧ ∀ h : List UInt8, Maps.has D (.string h) = true ↔ h ∈ S
theorem SetM.lt {W : World} {m N : Nat} {S : List (List UInt8)} (h : SetM W m N S) : m < W.heap.size := by obtain ⟨n, D, _, h, _⟩ := h; exact h.lt
theorem SetM.same {W W' : World} {m N : Nat} {S : List (List UInt8)} (h : SetM W m N S) (e : W'.heap[m]? = W.heap[m]?) : SetM W' m N S := by
  obtain ⟨n, D, hn, ⟨es, cl, h1, h2⟩, hs⟩ := h
  exact ⟨n, D, hn, ⟨es, cl, e.trans h1, h2⟩, hs⟩
theorem SetM.isMap {W : World} {m N : Nat} {S : List (List UInt8)} (h : SetM W m N S) : ∃ es cl, W.heap[m]? = some (.map es cl) := by
  obtain ⟨n, D, hn, ⟨es, cl, h1, h2⟩, hs⟩ := h
  exact ⟨es, cl, h1⟩
theorem SetM.made (w : World) : SetM (w.alloc (.map #[] 0)) w.heap.size 0 [] :=
  ⟨0, _, Nat.le_refl _, World.ownsMap_made w Tryz.prog 9 rS, fun h => by simp [has_eq]⟩
theorem SetM.look {W : World} {m N : Nat} {S : List (List UInt8)} (h : SetM W m N S) (s : ByteArray) (hs : s.size ≤ maxLen) : ∃ b, (Instr.lookup 75 (.map (some m)) (.string s) true).run Tryz.prog W = .ok (.tuple #[.agg #[], .bool b]) W ∧ (b = true ↔ s.data.toList ∈ S) := by
  obtain ⟨n, D, hn, ho, hm⟩ := h
  obtain ⟨v, ps, hr, hv⟩ := ho.look_ok lawS undM (zeroU W) (zd := .lit (.bool true)) (zp := []) rfl (keyOf_string_mk Tryz.underlying9 hs)
  obtain rfl := rS_one hv
  exact ⟨_, hr, hm _⟩
theorem SetM.del {W : World} {m N : Nat} {S : List (List UInt8)} (h : SetM W m N S) (s : ByteArray) (hs : s.size ≤ maxLen) (ty : TypeId) : ∃ W' S', (Builtin.delete_ #[75, 9] ty #[.map (some m), .string s]).run Tryz.prog W = .ok (.tuple #[]) W' ∧ SetM W' m N S' ∧ (∀ g, g ∈ S' ↔ g ∈ S ∧ g ≠ s.data.toList) ∧ W.mapTurned W' m := by
  obtain ⟨n, D, hn, ho, hm⟩ := h
  obtain ⟨W', hr, ho', ht⟩ := ho.drop lawS undM (keyOf_string_mk Tryz.underlying9 hs) ty
  refine ⟨W', S.filter (fun g => g ≠ s.data.toList), hr, ⟨n, _, hn, ho', fun g => ?_⟩, fun g => by simp, ht⟩
  by_cases e : g = s.data.toList
  · subst e
    rw [has_del_same]
    simp
  · rw [has_del_other (fun q => e (by injection q)), hm g]
    simp [e]
theorem SetM.put {W : World} {m N : Nat} {S : List (List UInt8)} (h : SetM W m N S) (hN : N < maxLen) (s : ByteArray) (hs : s.size ≤ maxLen) : ∃ W', (Instr.mapUpdate 75 (.map (some m)) (.string s) (.agg #[])).run Tryz.prog W = .ok () W' ∧ SetM W' m (N + 1) (s.data.toList :: S) ∧ W.mapTurned W' m := by
  obtain ⟨n, D, hn, ho, hm⟩ := h
  have hk := keyOf_string_mk Tryz.underlying9 hs
  obtain ⟨W', hr, ho', ht⟩ := ho.store (val := .agg #[]) lawS undM (by omega) hk (d := .lit (.bool true)) (ps := []) rfl
  refine ⟨W', hr, ⟨n + 1, _, by omega, ho', fun g => ?_⟩, ht⟩
  by_cases e : g = s.data.toList
  · subst e
    rw [has_put_same ho.isMap (lawS.key hk)]
    simp
  · rw [has_put_other (fun q => e (by injection q)), hm g]
    simp [e]

end Sc
end Go.Proofs.YtdjjleahfciipaaGreatDoor
