/- NaD NaE NaF, joined (own text of the verifier). -/
import Derived.Test.YtpbgmknebhnonaaNa3
import Derived.Test.YtpbgmknebhnonaaTqA
import Derived.Deep.RegionHeld3
import Derived.Test.YtpbgmknebhnonaaTvH
import Derived.Test.YtpbgmknebhnonaaTvK
namespace Go.Proofs.Ytpbgmknebhnonaa
open Go.RowKit

theorem ba_app (a b : List UInt8) : NB.ba a ++ NB.ba b = NB.ba (a ++ b) := by
  apply ByteArray.ext
  simp [NB.ba]
theorem frm_one (s : ByteArray) : txt s = NB.ba (frm [s]) := by
  rw [txt_ba s]
  show _ = NB.ba ((txt s).data.toList ++ [])
  rw [List.append_nil]
theorem fb_size (l : List ByteArray) : (NB.ba (frm l)).size = fwS l := by rw [NB.ba_size, frm_len]
set_option maxHeartbeats 1000000 in
theorem rfrm_any (s : ByteArray) (w : World) (hs : s.size ≤ 1048576) :
    Calls Try.prog 47 #[.string s] w fun e w' => ∃ X, e = .returned (.string X) ∧ X = NB.ba (frm [s]) ∧ X.size ≤ s.size + 15 ∧ Below w.heap.size w w' := by
  have C := rtext_any s w hs
  rw [frm_one s] at C
  have hz : (NB.ba (frm [s])).size ≤ s.size + 15 := by
    rw [fb_size]
    show 8 + s.size + padN s.size + 0 ≤ _
    have := padN_lt s.size
    omega
  have HZ : Hid ((NB.ba (frm [s])).size ≤ s.size + 15) := hz
  clear hz
  go_enter Try.func47, Try.ntmps47
  go_wp2_with fail
  refine C.mono ?_
  rintro e1 w1 ⟨rfl, b1⟩
  have HB : Hid (Below w.heap.size w w1) := b1
  clear b1 C
  go_wp2
  go_ret
  exact ⟨_, rfl, rfl, HZ.out, HB.out⟩
end Go.Proofs.Ytpbgmknebhnonaa

namespace Go.Proofs.Ytpbgmknebhnonaa
open Go.RowKit

set_option maxHeartbeats 8000000 in
set_option maxRecDepth 10000 in
theorem raw_any (m : Nat) : ∀ (v : Value) (T : Tr) (w0 w : World), At w0 m v T → Below w0.heap.size w0 w → okT T → fwS (wdT T) ≤ 1073741824 →
    Calls Try.prog 32 #[v] w fun e w' => e = .returned (.string (NB.ba (frm (wdT T)))) ∧ Below w.heap.size w w' := by
  induction m with
  | zero => intro v T w0 w h; exact h.elim
  | succ m IH =>
    rintro v ⟨k, e, t, ns, ks⟩ w0 w ⟨x, n, c, rfl, l1, l2, l3, l4, hx⟩ hb hok hlen
    have EX : Hid (Ents w0 m x n ns ks) := At.ents hx
    have hok' := hok
    rw [okT] at hok'
    obtain ⟨hk, hkn, hts, hoL⟩ := hok'
    have HLL : Hid (ns.length = n ∧ ks.length = n ∧ okL ns ks ∧ (k ≠ 3 → ns = [] ∧ ks = [])) := ⟨l1, l2, hoL, hkn⟩
    have HLN : Hid (fwS (wdT (.mk k e t ns ks)) ≤ 1073741824 ∧ Below w0.heap.size w0 w) := ⟨hlen, hb⟩
    clear hx l1 l2 hoL hkn hlen hok hb
    have HBW : Hid (Below w.heap.size w (w.alloc (Obj.cells #[Value.int IntKind.i64 k, Value.bool e, Value.string t, Value.slice x n c] 25))) := (Below.refl _ _).alloc (Nat.le_refl _) _
    have HG0 : (w.alloc (Obj.cells #[Value.int IntKind.i64 k, Value.bool e, Value.string t, Value.slice x n c] 25)).heap[w.heap.size]? = some (.cells #[Value.int IntKind.i64 k, Value.bool e, Value.string t, Value.slice x n c] 25 (0, 0)) := heap_alloc_new _ _
    have hzq : w.heap.size < (w.alloc (Obj.cells #[Value.int IntKind.i64 k, Value.bool e, Value.string t, Value.slice x n c] 25)).heap.size := by rw [World.size_alloc]; omega
    obtain ⟨v0, v1, v2, v3, _⟩ := cell4n HG0
    clear HG0
    have H0 : Hid (Below (w.alloc (Obj.cells #[Value.int IntKind.i64 k, Value.bool e, Value.string t, Value.slice x n c] 25)).heap.size (w.alloc (Obj.cells #[Value.int IntKind.i64 k, Value.bool e, Value.string t, Value.slice x n c] 25)) (w.alloc (Obj.cells #[Value.int IntKind.i64 k, Value.bool e, Value.string t, Value.slice x n c] 25))) := Below.refl _ _
    go_enter Try.func32, Try.ntmps32
    go_upto_region 1 with fail
    generalize w.alloc (Obj.cells #[Value.int IntKind.i64 k, Value.bool e, Value.string t, Value.slice x n c] 25) = wq at *
    rcases hk with rfl | rfl | rfl
    · obtain ⟨rfl, rfl⟩ := HLL.out.2.2.2 (by decide)
      cases e with
      | false =>
        go_wp2_with fail
        refine (rfrm_any wRegular wq (by decide)).mono ?_
        rintro ee1 wk1 ⟨X1, rfl, hx1, hz1, bb1⟩
        have HX1 : Hid (X1 = NB.ba (frm [wRegular])) := hx1
        have hy1 : X1.size ≤ 1048591 := Nat.le_trans hz1 (Nat.add_le_add_right (by decide) 15)
        clear hz1
        have HK1 : Hid (Below wq.heap.size wq wk1) := H0.out.trans (bb1.mono H0.out.size)
        clear hx1 bb1 H0
        have u0 := (HK1.out.cell (p := ⟨w.heap.size, 0, none⟩) hzq).trans v0
        have u1 := (HK1.out.cell (p := ⟨w.heap.size, 1, none⟩) hzq).trans v1
        have u2 := (HK1.out.cell (p := ⟨w.heap.size, 2, none⟩) hzq).trans v2
        have u3 := (HK1.out.cell (p := ⟨w.heap.size, 3, none⟩) hzq).trans v3
        go_upto_region 6 with fail
        have HD : Hid (Below wq.heap.size wq wk1.drew) := HK1.out.trans ⟨rfl, rfl, rfl, Nat.le_refl _, fun _ _ => rfl⟩
        have ud := (HD.out.cell (p := ⟨w.heap.size, 2, none⟩) hzq).trans v2
        clear HK1
        go_region_held3 (fun W => W.cell? ⟨w.heap.size, 2, none⟩ = some (.string t)) (first | exact ud | exact u2 | exact q2 | exact q3) (first | (have hhk := HD.out; go_at_call 47; refine (rfrm_any wContents _ (by decide)).mono ?_; rintro ee2 wk2 ⟨X2, rfl, hx2, hz2, bb2⟩; have HX2 : Hid (X2 = NB.ba (frm [wContents])) := hx2; have hy2 : X2.size ≤ 1048591 := Nat.le_trans hz2 (Nat.add_le_add_right (by decide) 15); clear hz2; have HK2 : Hid (Below wq.heap.size wq wk2) := HD.out.trans (bb2.mono HD.out.size); clear hx2 bb2; have q2 := (HK2.out.cell (p := ⟨w.heap.size, 2, none⟩) hzq).trans v2) | (have hhk := HK2.out; go_at_call 47; refine (rfrm_any t _ hts).mono ?_; rintro ee3 wk3 ⟨X3, rfl, hx3, hz3, bb3⟩; have HX3 : Hid (X3 = NB.ba (frm [t])) := hx3; have hy3 : X3.size ≤ 1048591 := Nat.le_trans hz3 (Nat.add_le_add_right hts 15); clear hz3; have : ¬ 9223372036854775807 < (X2.size) + (X3.size) := (by omega); have : ¬ 9223372036854775807 < (X2).size + (X3).size := (by (try simp only [ByteArray.size_append]); omega); have : ¬ 9223372036854775807 < (X1.size) + ((X2.size + X3.size)) := (by omega); have : ¬ 9223372036854775807 < (X1).size + ((X2 ++ X3)).size := (by (try simp only [ByteArray.size_append]); omega); have HK3 : Hid (Below wq.heap.size wq wk3) := HK2.out.trans (bb3.mono HK2.out.size); clear hx3 bb3; have q3 := (HK3.out.cell (p := ⟨w.heap.size, 2, none⟩) hzq).trans v2))
        all_goals skip
        go_wp2_with fail
        refine (rfrm_any wOpen wk3 (by decide)).mono ?_
        rintro ee4 wk4 ⟨X4, rfl, hx4, hz4, bb4⟩
        have HX4 : Hid (X4 = NB.ba (frm [wOpen])) := hx4
        have hy4 : X4.size ≤ 1048591 := Nat.le_trans hz4 (Nat.add_le_add_right (by decide) 15)
        clear hz4
        have HK4 : Hid (Below wq.heap.size wq wk4) := HK3.out.trans (bb4.mono HK3.out.size)
        clear hx4 bb4 HK3
        go_wp2_with fail
        refine (rfrm_any wType wk4 (by decide)).mono ?_
        rintro ee5 wk5 ⟨X5, rfl, hx5, hz5, bb5⟩
        have HX5 : Hid (X5 = NB.ba (frm [wType])) := hx5
        have hy5 : X5.size ≤ 1048591 := Nat.le_trans hz5 (Nat.add_le_add_right (by decide) 15)
        clear hz5
        have HK5 : Hid (Below wq.heap.size wq wk5) := HK4.out.trans (bb5.mono HK4.out.size)
        clear hx5 bb5 HK4
        go_wp2_with fail
        refine (rfrm_any wClose wk5 (by decide)).mono ?_
        rintro ee6 wk6 ⟨X6, rfl, hx6, hz6, bb6⟩
        have HX6 : Hid (X6 = NB.ba (frm [wClose])) := hx6
        have hy6 : X6.size ≤ 1048591 := Nat.le_trans hz6 (Nat.add_le_add_right (by decide) 15)
        clear hz6
        have HK6 : Hid (Below wq.heap.size wq wk6) := HK5.out.trans (bb6.mono HK5.out.size)
        clear hx6 bb6 HK5
        have EZ : Hid (X4 ++ X5 ++ (X1 ++ (X2 ++ X3)) ++ X6 = NB.ba (frm (wdT (.mk 1 false t [] [])))) := by
          rw [Hid, HX4.out, HX5.out, HX1.out, HX2.out, HX3.out, HX6.out]
          simp only [ba_app, ← frm_app]
          rw [wdT]
          simp
        go_wp2
        go_ret
        exact ⟨congrArg (fun z => Ending.returned (Value.string z)) EZ.out, HBW.out.trans (HK6.out.mono HBW.out.size)⟩
      | true =>
        go_wp2_with fail
        refine (rfrm_any wRegular wq (by decide)).mono ?_
        rintro ee7 wk7 ⟨X7, rfl, hx7, hz7, bb7⟩
        have HX7 : Hid (X7 = NB.ba (frm [wRegular])) := hx7
        have hy7 : X7.size ≤ 1048591 := Nat.le_trans hz7 (Nat.add_le_add_right (by decide) 15)
        clear hz7
        have HK7 : Hid (Below wq.heap.size wq wk7) := H0.out.trans (bb7.mono H0.out.size)
        clear hx7 bb7 H0
        have u0 := (HK7.out.cell (p := ⟨w.heap.size, 0, none⟩) hzq).trans v0
        have u1 := (HK7.out.cell (p := ⟨w.heap.size, 1, none⟩) hzq).trans v1
        have u2 := (HK7.out.cell (p := ⟨w.heap.size, 2, none⟩) hzq).trans v2
        have u3 := (HK7.out.cell (p := ⟨w.heap.size, 3, none⟩) hzq).trans v3
        go_wp2_with fail
        refine (rfrm_any wExec wk7 (by decide)).mono ?_
        rintro ee8 wk8 ⟨X8, rfl, hx8, hz8, bb8⟩
        have HX8 : Hid (X8 = NB.ba (frm [wExec])) := hx8
        have hy8 : X8.size ≤ 1048591 := Nat.le_trans hz8 (Nat.add_le_add_right (by decide) 15)
        clear hz8
        have HK8 : Hid (Below wq.heap.size wq wk8) := HK7.out.trans (bb8.mono HK7.out.size)
        clear hx8 bb8 HK7
        go_wp2_with fail
        refine (rfrm_any wNone wk8 (by decide)).mono ?_
        rintro ee9 wk9 ⟨X9, rfl, hx9, hz9, bb9⟩
        have HX9 : Hid (X9 = NB.ba (frm [wNone])) := hx9
        have hy9 : X9.size ≤ 1048591 := Nat.le_trans hz9 (Nat.add_le_add_right (by decide) 15)
        clear hz9
        have HK9 : Hid (Below wq.heap.size wq wk9) := HK8.out.trans (bb9.mono HK8.out.size)
        clear hx9 bb9 HK8
        clear u0 u1 u2 u3
        have u0 := (HK9.out.cell (p := ⟨w.heap.size, 0, none⟩) hzq).trans v0
        have u1 := (HK9.out.cell (p := ⟨w.heap.size, 1, none⟩) hzq).trans v1
        have u2 := (HK9.out.cell (p := ⟨w.heap.size, 2, none⟩) hzq).trans v2
        have u3 := (HK9.out.cell (p := ⟨w.heap.size, 3, none⟩) hzq).trans v3
        go_upto_region 6 with fail
        have HD : Hid (Below wq.heap.size wq wk9.drew) := HK9.out.trans ⟨rfl, rfl, rfl, Nat.le_refl _, fun _ _ => rfl⟩
        have ud := (HD.out.cell (p := ⟨w.heap.size, 2, none⟩) hzq).trans v2
        clear HK9
        go_region_held3 (fun W => W.cell? ⟨w.heap.size, 2, none⟩ = some (.string t)) (first | exact ud | exact u2 | exact q10 | exact q11) (first | (have hhk := HD.out; go_at_call 47; refine (rfrm_any wContents _ (by decide)).mono ?_; rintro ee10 wk10 ⟨X10, rfl, hx10, hz10, bb10⟩; have HX10 : Hid (X10 = NB.ba (frm [wContents])) := hx10; have hy10 : X10.size ≤ 1048591 := Nat.le_trans hz10 (Nat.add_le_add_right (by decide) 15); clear hz10; have HK10 : Hid (Below wq.heap.size wq wk10) := HD.out.trans (bb10.mono HD.out.size); clear hx10 bb10; have q10 := (HK10.out.cell (p := ⟨w.heap.size, 2, none⟩) hzq).trans v2) | (have hhk := HK10.out; go_at_call 47; refine (rfrm_any t _ hts).mono ?_; rintro ee11 wk11 ⟨X11, rfl, hx11, hz11, bb11⟩; have HX11 : Hid (X11 = NB.ba (frm [t])) := hx11; have hy11 : X11.size ≤ 1048591 := Nat.le_trans hz11 (Nat.add_le_add_right hts 15); clear hz11; have : ¬ 9223372036854775807 < (X10.size) + (X11.size) := (by omega); have : ¬ 9223372036854775807 < (X10).size + (X11).size := (by (try simp only [ByteArray.size_append]); omega); have : ¬ 9223372036854775807 < ((X7.size + (X8.size + X9.size))) + ((X10.size + X11.size)) := (by omega); have : ¬ 9223372036854775807 < ((X7 ++ (X8 ++ X9))).size + ((X10 ++ X11)).size := (by (try simp only [ByteArray.size_append]); omega); have HK11 : Hid (Below wq.heap.size wq wk11) := HK10.out.trans (bb11.mono HK10.out.size); clear hx11 bb11; have q11 := (HK11.out.cell (p := ⟨w.heap.size, 2, none⟩) hzq).trans v2))
        all_goals skip
        go_wp2_with fail
        refine (rfrm_any wOpen wk11 (by decide)).mono ?_
        rintro ee12 wk12 ⟨X12, rfl, hx12, hz12, bb12⟩
        have HX12 : Hid (X12 = NB.ba (frm [wOpen])) := hx12
        have hy12 : X12.size ≤ 1048591 := Nat.le_trans hz12 (Nat.add_le_add_right (by decide) 15)
        clear hz12
        have HK12 : Hid (Below wq.heap.size wq wk12) := HK11.out.trans (bb12.mono HK11.out.size)
        clear hx12 bb12 HK11
        go_wp2_with fail
        refine (rfrm_any wType wk12 (by decide)).mono ?_
        rintro ee13 wk13 ⟨X13, rfl, hx13, hz13, bb13⟩
        have HX13 : Hid (X13 = NB.ba (frm [wType])) := hx13
        have hy13 : X13.size ≤ 1048591 := Nat.le_trans hz13 (Nat.add_le_add_right (by decide) 15)
        clear hz13
        have HK13 : Hid (Below wq.heap.size wq wk13) := HK12.out.trans (bb13.mono HK12.out.size)
        clear hx13 bb13 HK12
        go_wp2_with fail
        refine (rfrm_any wClose wk13 (by decide)).mono ?_
        rintro ee14 wk14 ⟨X14, rfl, hx14, hz14, bb14⟩
        have HX14 : Hid (X14 = NB.ba (frm [wClose])) := hx14
        have hy14 : X14.size ≤ 1048591 := Nat.le_trans hz14 (Nat.add_le_add_right (by decide) 15)
        clear hz14
        have HK14 : Hid (Below wq.heap.size wq wk14) := HK13.out.trans (bb14.mono HK13.out.size)
        clear hx14 bb14 HK13
        have EZ : Hid (X12 ++ X13 ++ ((X7 ++ (X8 ++ X9)) ++ (X10 ++ X11)) ++ X14 = NB.ba (frm (wdT (.mk 1 true t [] [])))) := by
          rw [Hid, HX12.out, HX13.out, HX7.out, HX8.out, HX9.out, HX10.out, HX11.out, HX14.out]
          simp only [ba_app, ← frm_app]
          rw [wdT]
          simp
        go_wp2
        go_ret
        exact ⟨congrArg (fun z => Ending.returned (Value.string z)) EZ.out, HBW.out.trans (HK14.out.mono HBW.out.size)⟩
    · obtain ⟨rfl, rfl⟩ := HLL.out.2.2.2 (by decide)
      have HD : Hid (Below wq.heap.size wq wq.drew) := ⟨rfl, rfl, rfl, Nat.le_refl _, fun _ _ => rfl⟩
      have ud := (HD.out.cell (p := ⟨w.heap.size, 2, none⟩) hzq).trans v2
      clear H0
      go_upto_region 8 with fail
      go_region_held3 (fun W => W.cell? ⟨w.heap.size, 2, none⟩ = some (.string t)) (first | exact ud | exact v2 | exact q15 | exact q16 | exact q17) (first | (have hhk := HD.out; go_at_call 47; refine (rfrm_any wSymlink _ (by decide)).mono ?_; rintro ee15 wk15 ⟨X15, rfl, hx15, hz15, bb15⟩; have HX15 : Hid (X15 = NB.ba (frm [wSymlink])) := hx15; have hy15 : X15.size ≤ 1048591 := Nat.le_trans hz15 (Nat.add_le_add_right (by decide) 15); clear hz15; have HK15 : Hid (Below wq.heap.size wq wk15) := HD.out.trans (bb15.mono HD.out.size); clear hx15 bb15; have q15 := (HK15.out.cell (p := ⟨w.heap.size, 2, none⟩) hzq).trans v2) | (have hhk := HK15.out; go_at_call 47; refine (rfrm_any wTarget _ (by decide)).mono ?_; rintro ee16 wk16 ⟨X16, rfl, hx16, hz16, bb16⟩; have HX16 : Hid (X16 = NB.ba (frm [wTarget])) := hx16; have hy16 : X16.size ≤ 1048591 := Nat.le_trans hz16 (Nat.add_le_add_right (by decide) 15); clear hz16; have : ¬ 9223372036854775807 < (X15.size) + (X16.size) := (by omega); have : ¬ 9223372036854775807 < (X15).size + (X16).size := (by (try simp only [ByteArray.size_append]); omega); have HK16 : Hid (Below wq.heap.size wq wk16) := HK15.out.trans (bb16.mono HK15.out.size); clear hx16 bb16; have q16 := (HK16.out.cell (p := ⟨w.heap.size, 2, none⟩) hzq).trans v2) | (have hhk := HK16.out; go_at_call 47; refine (rfrm_any t _ hts).mono ?_; rintro ee17 wk17 ⟨X17, rfl, hx17, hz17, bb17⟩; have HX17 : Hid (X17 = NB.ba (frm [t])) := hx17; have hy17 : X17.size ≤ 1048591 := Nat.le_trans hz17 (Nat.add_le_add_right hts 15); clear hz17; have : ¬ 9223372036854775807 < ((X15.size + X16.size)) + (X17.size) := (by omega); have : ¬ 9223372036854775807 < ((X15 ++ X16)).size + (X17).size := (by (try simp only [ByteArray.size_append]); omega); have HK17 : Hid (Below wq.heap.size wq wk17) := HK16.out.trans (bb17.mono HK16.out.size); clear hx17 bb17; have q17 := (HK17.out.cell (p := ⟨w.heap.size, 2, none⟩) hzq).trans v2))
      go_wp2_with fail
      refine (rfrm_any wOpen wk17 (by decide)).mono ?_
      rintro ee18 wk18 ⟨X18, rfl, hx18, hz18, bb18⟩
      have HX18 : Hid (X18 = NB.ba (frm [wOpen])) := hx18
      have hy18 : X18.size ≤ 1048591 := Nat.le_trans hz18 (Nat.add_le_add_right (by decide) 15)
      clear hz18
      have HK18 : Hid (Below wq.heap.size wq wk18) := HK17.out.trans (bb18.mono HK17.out.size)
      clear hx18 bb18 HK17
      go_wp2_with fail
      refine (rfrm_any wType wk18 (by decide)).mono ?_
      rintro ee19 wk19 ⟨X19, rfl, hx19, hz19, bb19⟩
      have HX19 : Hid (X19 = NB.ba (frm [wType])) := hx19
      have hy19 : X19.size ≤ 1048591 := Nat.le_trans hz19 (Nat.add_le_add_right (by decide) 15)
      clear hz19
      have HK19 : Hid (Below wq.heap.size wq wk19) := HK18.out.trans (bb19.mono HK18.out.size)
      clear hx19 bb19 HK18
      go_wp2_with fail
      refine (rfrm_any wClose wk19 (by decide)).mono ?_
      rintro ee20 wk20 ⟨X20, rfl, hx20, hz20, bb20⟩
      have HX20 : Hid (X20 = NB.ba (frm [wClose])) := hx20
      have hy20 : X20.size ≤ 1048591 := Nat.le_trans hz20 (Nat.add_le_add_right (by decide) 15)
      clear hz20
      have HK20 : Hid (Below wq.heap.size wq wk20) := HK19.out.trans (bb20.mono HK19.out.size)
      clear hx20 bb20 HK19
      have EZ : Hid (X18 ++ X19 ++ (X15 ++ X16 ++ X17) ++ X20 = NB.ba (frm (wdT (.mk 2 e t [] [])))) := by
        rw [Hid, HX18.out, HX19.out, HX15.out, HX16.out, HX17.out, HX20.out]
        simp only [ba_app, ← frm_app]
        rw [wdT]
        simp
      go_wp2
      go_ret
      exact ⟨congrArg (fun z => Ending.returned (Value.string z)) EZ.out, HBW.out.trans (HK20.out.mono HBW.out.size)⟩
    · skip
      go_wp2_with fail
      refine (rfrm_any wDirectory wq (by decide)).mono ?_
      rintro ee21 wk21 ⟨X21, rfl, hx21, hz21, bb21⟩
      have HX21 : Hid (X21 = NB.ba (frm [wDirectory])) := hx21
      have hy21 : X21.size ≤ 1048591 := Nat.le_trans hz21 (Nat.add_le_add_right (by decide) 15)
      clear hz21
      have HK21 : Hid (Below wq.heap.size wq wk21) := H0.out.trans (bb21.mono H0.out.size)
      clear hx21 bb21 H0
      have HL0 : Hid (X21 = NB.ba (frm ([wDirectory] ++ wdL (ns.take 0) (ks.take 0)))) := by
        rw [Hid, List.take_zero, List.take_zero, show wdL [] [] = [] by rw [wdL]; simp, List.append_nil]
        exact HX21.out
      have HWL : Hid (∀ i, fwS ([wDirectory] ++ wdL (ns.take i) (ks.take i)) ≤ 1073741824) := fun i => by
        have h1 := HLN.out.1
        rw [wdT, if_neg (by decide), if_neg (by decide), fwS_app, fwS_app, fwS_app] at h1
        have h2 := wdL_le ns ks i (by rw [HLL.out.1, HLL.out.2.1])
        rw [fwS_app]
        omega
      go_wp2
      go_loopw [3, 4] (fun xy xi wr => ∃ (i : Nat) (Y : ByteArray), i ≤ n ∧ xi = .int .i64 i ∧ xy = .string Y ∧ Y.size ≤ 1073741824 ∧ Hid (Y = NB.ba (frm ([wDirectory] ++ wdL (ns.take i) (ks.take i)))) ∧ Hid (Below wq.heap.size wq wr)) (fun _ i _ => n - (intOf i).toNat)
      case atStart => exact ⟨0, X21, Nat.zero_le _, rfl, rfl, by omega, HL0, HK21⟩
      case round =>
        obtain ⟨i, Y, hi, rfl, rfl, hY, HY, HO⟩ := hrel
        have u3 := (HO.out.cell (p := ⟨w.heap.size, 3, none⟩) hzq).trans v3
        by_cases hlt : i < n
        · obtain ⟨s, hs⟩ : ∃ s, ns[i]? = some s := ⟨_, List.getElem?_eq_getElem (by rw [HLL.out.1]; omega)⟩
          obtain ⟨K, hK⟩ : ∃ s, ks[i]? = some s := ⟨_, List.getElem?_eq_getElem (by rw [HLL.out.2.1]; omega)⟩
          obtain ⟨hss, hoK⟩ := okL_at ns ks i s K HLL.out.2.2.1 hs hK
          obtain ⟨gk, ok, a, b, d, f, p, q, rfl, hg, c0, c1, c2, c3, c4, hA⟩ := EX.out i s K hlt hs hK
          have HBQ : Hid (Below w0.heap.size w0 wq) := HLN.out.2.trans (HBW.out.mono HLN.out.2.size)
          have HBR : Hid (Below w0.heap.size w0 wr) := HBQ.out.trans (HO.out.mono HBQ.out.size)
          have hgq : gk < wq.heap.size := Nat.lt_of_lt_of_le hg HBQ.out.size
          have z0 := (HBQ.out.cell (p := ⟨gk, ok + i * 5, none⟩) hg).trans c0
          have d1 := (HBR.out.cell (p := ⟨gk, ok + i * 5 + 1, none⟩) hg).trans c1
          have d2 := (HBR.out.cell (p := ⟨gk, ok + i * 5 + 2, none⟩) hg).trans c2
          have d3 := (HBR.out.cell (p := ⟨gk, ok + i * 5 + 3, none⟩) hg).trans c3
          have d4 := (HBR.out.cell (p := ⟨gk, ok + i * 5 + 4, none⟩) hg).trans c4
          have HT : Hid (wdL (ns.take (i + 1)) (ks.take (i + 1)) = wdL (ns.take i) (ks.take i) ++ ([wEntry, wOpen, wName, s, wNode] ++ wdT K ++ [wClose])) := wdL_take ns ks i s K hs hK
          have hKs : fwS (wdT K) ≤ 1073741824 := by
            have := HWL.out (i + 1)
            rw [HT.out, fwS_app, fwS_app, fwS_app, fwS_app] at this
            omega
          have CI := IH _ K w0 wr hA HBR.out hoK hKs
          have hZ : (NB.ba (frm (wdT K))).size ≤ 1073741824 := by rw [fb_size]; exact hKs
          obtain ⟨Z, hZe⟩ : ∃ Z, NB.ba (frm (wdT K)) = Z := ⟨_, rfl⟩
          rw [hZe] at CI hZ
          have HZ : Hid (Z = NB.ba (frm (wdT K))) := hZe.symm
          clear hs hK hoK hA c0 c1 c2 c3 c4 hKs hZe
          go_wp2_with fail
          refine CI.mono ?_
          rintro ei wi ⟨rfl, bi⟩
          have HD : Hid (Below wq.heap.size wq wi.drew) := (HO.out.trans (bi.mono HO.out.size)).trans ⟨rfl, rfl, rfl, Nat.le_refl _, fun _ _ => rfl⟩
          have HDn : Hid (Below wq.heap.size wq wi) := HO.out.trans (bi.mono HO.out.size)
          clear CI bi d1 d2 d3 d4 HO u3
          have e3 := (HD.out.cell (p := ⟨w.heap.size, 3, none⟩) hzq).trans v3
          have e0 := (HD.out.cell (p := ⟨gk, ok + i * 5, none⟩) hgq).trans z0
          have f3 := (HDn.out.cell (p := ⟨w.heap.size, 3, none⟩) hzq).trans v3
          have f0 := (HDn.out.cell (p := ⟨gk, ok + i * 5, none⟩) hgq).trans z0
          go_upto_region 14 with fail
          go_region_held3 (fun W => W.cell? ⟨w.heap.size, 3, none⟩ = some (.slice (some ⟨gk, ok, none⟩) n c) ∧ W.cell? ⟨gk, ok + i * 5, none⟩ = some (.string s)) (first | exact ⟨e3, e0⟩ | exact ⟨f3, f0⟩ | exact ⟨q22, r22⟩ | exact ⟨q23, r23⟩ | exact ⟨q24, r24⟩ | exact ⟨q25, r25⟩ | exact ⟨q26, r26⟩ | exact ⟨q27, r27⟩) (first | (have hhk := HD.out; go_at_call 47; refine (rfrm_any wEntry _ (by decide)).mono ?_; rintro ee22 wk22 ⟨X22, rfl, hx22, hz22, bb22⟩; have HX22 : Hid (X22 = NB.ba (frm [wEntry])) := hx22; have hy22 : X22.size ≤ 1048591 := Nat.le_trans hz22 (Nat.add_le_add_right (by decide) 15); clear hz22; have HK22 : Hid (Below wq.heap.size wq wk22) := HD.out.trans (bb22.mono HD.out.size); clear hx22 bb22; have q22 := (HK22.out.cell (p := ⟨w.heap.size, 3, none⟩) hzq).trans v3; have r22 := (HK22.out.cell (p := ⟨gk, ok + i * 5, none⟩) hgq).trans z0) | (have hhk := HK22.out; go_at_call 47; refine (rfrm_any wOpen _ (by decide)).mono ?_; rintro ee23 wk23 ⟨X23, rfl, hx23, hz23, bb23⟩; have HX23 : Hid (X23 = NB.ba (frm [wOpen])) := hx23; have hy23 : X23.size ≤ 1048591 := Nat.le_trans hz23 (Nat.add_le_add_right (by decide) 15); clear hz23; have : ¬ 9223372036854775807 < (X22.size) + (X23.size) := (by omega); have : ¬ 9223372036854775807 < (X22).size + (X23).size := (by (try simp only [ByteArray.size_append]); omega); have HK23 : Hid (Below wq.heap.size wq wk23) := HK22.out.trans (bb23.mono HK22.out.size); clear hx23 bb23; have q23 := (HK23.out.cell (p := ⟨w.heap.size, 3, none⟩) hzq).trans v3; have r23 := (HK23.out.cell (p := ⟨gk, ok + i * 5, none⟩) hgq).trans z0) | (have hhk := HK23.out; go_at_call 47; refine (rfrm_any wName _ (by decide)).mono ?_; rintro ee24 wk24 ⟨X24, rfl, hx24, hz24, bb24⟩; have HX24 : Hid (X24 = NB.ba (frm [wName])) := hx24; have hy24 : X24.size ≤ 1048591 := Nat.le_trans hz24 (Nat.add_le_add_right (by decide) 15); clear hz24; have : ¬ 9223372036854775807 < ((X22.size + X23.size)) + (X24.size) := (by omega); have : ¬ 9223372036854775807 < ((X22 ++ X23)).size + (X24).size := (by (try simp only [ByteArray.size_append]); omega); have HK24 : Hid (Below wq.heap.size wq wk24) := HK23.out.trans (bb24.mono HK23.out.size); clear hx24 bb24; have q24 := (HK24.out.cell (p := ⟨w.heap.size, 3, none⟩) hzq).trans v3; have r24 := (HK24.out.cell (p := ⟨gk, ok + i * 5, none⟩) hgq).trans z0) | (have hhk := HK24.out; go_at_call 47; refine (rfrm_any s _ hss).mono ?_; rintro ee25 wk25 ⟨X25, rfl, hx25, hz25, bb25⟩; have HX25 : Hid (X25 = NB.ba (frm [s])) := hx25; have hy25 : X25.size ≤ 1048591 := Nat.le_trans hz25 (Nat.add_le_add_right hss 15); clear hz25; have : ¬ 9223372036854775807 < (((X22.size + X23.size) + X24.size)) + (X25.size) := (by omega); have : ¬ 9223372036854775807 < (((X22 ++ X23) ++ X24)).size + (X25).size := (by (try simp only [ByteArray.size_append]); omega); have HK25 : Hid (Below wq.heap.size wq wk25) := HK24.out.trans (bb25.mono HK24.out.size); clear hx25 bb25; have q25 := (HK25.out.cell (p := ⟨w.heap.size, 3, none⟩) hzq).trans v3; have r25 := (HK25.out.cell (p := ⟨gk, ok + i * 5, none⟩) hgq).trans z0) | (have hhk := HK25.out; go_at_call 47; refine (rfrm_any wNode _ (by decide)).mono ?_; rintro ee26 wk26 ⟨X26, rfl, hx26, hz26, bb26⟩; have HX26 : Hid (X26 = NB.ba (frm [wNode])) := hx26; have hy26 : X26.size ≤ 1048591 := Nat.le_trans hz26 (Nat.add_le_add_right (by decide) 15); clear hz26; have : ¬ 9223372036854775807 < ((((X22.size + X23.size) + X24.size) + X25.size)) + (X26.size) := (by omega); have : ¬ 9223372036854775807 < ((((X22 ++ X23) ++ X24) ++ X25)).size + (X26).size := (by (try simp only [ByteArray.size_append]); omega); have : ¬ 9223372036854775807 < (((((X22.size + X23.size) + X24.size) + X25.size) + X26.size)) + (Z.size) := (by omega); have : ¬ 9223372036854775807 < (((((X22 ++ X23) ++ X24) ++ X25) ++ X26)).size + (Z).size := (by (try simp only [ByteArray.size_append]); omega); have HK26 : Hid (Below wq.heap.size wq wk26) := HK25.out.trans (bb26.mono HK25.out.size); clear hx26 bb26; have q26 := (HK26.out.cell (p := ⟨w.heap.size, 3, none⟩) hzq).trans v3; have r26 := (HK26.out.cell (p := ⟨gk, ok + i * 5, none⟩) hgq).trans z0) | (have hhk := HK26.out; go_at_call 47; refine (rfrm_any wClose _ (by decide)).mono ?_; rintro ee27 wk27 ⟨X27, rfl, hx27, hz27, bb27⟩; have HX27 : Hid (X27 = NB.ba (frm [wClose])) := hx27; have hy27 : X27.size ≤ 1048591 := Nat.le_trans hz27 (Nat.add_le_add_right (by decide) 15); clear hz27; have : ¬ 9223372036854775807 < ((((((X22.size + X23.size) + X24.size) + X25.size) + X26.size) + Z.size)) + (X27.size) := (by omega); have : ¬ 9223372036854775807 < ((((((X22 ++ X23) ++ X24) ++ X25) ++ X26) ++ Z)).size + (X27).size := (by (try simp only [ByteArray.size_append]); omega); have : ¬ 9223372036854775807 < (Y.size) + (((((((X22.size + X23.size) + X24.size) + X25.size) + X26.size) + Z.size) + X27.size)) := (by omega); have : ¬ 9223372036854775807 < (Y).size + (((((((X22 ++ X23) ++ X24) ++ X25) ++ X26) ++ Z) ++ X27)).size := (by (try simp only [ByteArray.size_append]); omega); have HK27 : Hid (Below wq.heap.size wq wk27) := HK26.out.trans (bb27.mono HK26.out.size); clear hx27 bb27; have q27 := (HK27.out.cell (p := ⟨w.heap.size, 3, none⟩) hzq).trans v3; have r27 := (HK27.out.cell (p := ⟨gk, ok + i * 5, none⟩) hgq).trans z0))
          have EY : Hid (Y ++ ((((((X22 ++ X23) ++ X24) ++ X25) ++ X26) ++ Z) ++ X27) = NB.ba (frm ([wDirectory] ++ wdL (ns.take (i + 1)) (ks.take (i + 1))))) := by
            rw [Hid, HY.out, HX22.out, HX23.out, HX24.out, HX25.out, HX26.out, HX27.out, HZ.out, HT.out]
            simp only [ba_app, ← frm_app]
            simp only [List.cons_append, List.nil_append]
          have hEY : (Y ++ ((((((X22 ++ X23) ++ X24) ++ X25) ++ X26) ++ Z) ++ X27)).size ≤ 1073741824 := by rw [EY.out, fb_size]; exact HWL.out _
          go_wp2
          go_roundw
          case rel => exact ⟨i + 1, _, by omega, by go_num, rfl, hEY, EY, HK27⟩
          case measure => simp [intOf]; omega
        · obtain rfl : i = n := by omega
          have HE : Hid (Y = NB.ba (frm ([wDirectory] ++ wdL ns ks))) := by
            have := HY.out
            rw [List.take_of_length_le (by rw [HLL.out.1]; exact Nat.le_refl _), List.take_of_length_le (by rw [HLL.out.2.1]; exact Nat.le_refl _)] at this
            exact this
          clear HY
          go_wp2_with fail
          refine (rfrm_any wOpen wr (by decide)).mono ?_
          rintro ee28 wk28 ⟨X28, rfl, hx28, hz28, bb28⟩
          have HX28 : Hid (X28 = NB.ba (frm [wOpen])) := hx28
          have hy28 : X28.size ≤ 1048591 := Nat.le_trans hz28 (Nat.add_le_add_right (by decide) 15)
          clear hz28
          have HK28 : Hid (Below wq.heap.size wq wk28) := HO.out.trans (bb28.mono HO.out.size)
          clear hx28 bb28 HO
          go_wp2_with fail
          refine (rfrm_any wType wk28 (by decide)).mono ?_
          rintro ee29 wk29 ⟨X29, rfl, hx29, hz29, bb29⟩
          have HX29 : Hid (X29 = NB.ba (frm [wType])) := hx29
          have hy29 : X29.size ≤ 1048591 := Nat.le_trans hz29 (Nat.add_le_add_right (by decide) 15)
          clear hz29
          have HK29 : Hid (Below wq.heap.size wq wk29) := HK28.out.trans (bb29.mono HK28.out.size)
          clear hx29 bb29 HK28
          go_wp2_with fail
          refine (rfrm_any wClose wk29 (by decide)).mono ?_
          rintro ee30 wk30 ⟨X30, rfl, hx30, hz30, bb30⟩
          have HX30 : Hid (X30 = NB.ba (frm [wClose])) := hx30
          have hy30 : X30.size ≤ 1048591 := Nat.le_trans hz30 (Nat.add_le_add_right (by decide) 15)
          clear hz30
          have HK30 : Hid (Below wq.heap.size wq wk30) := HK29.out.trans (bb30.mono HK29.out.size)
          clear hx30 bb30 HK29
          have EZ : Hid (X28 ++ X29 ++ Y ++ X30 = NB.ba (frm (wdT (.mk 3 e t ns ks)))) := by
            rw [Hid, HE.out, HX28.out, HX29.out, HX30.out]
            simp only [ba_app, ← frm_app]
            rw [wdT]
            simp
          go_wp2
          go_ret
          exact ⟨congrArg (fun z => Ending.returned (Value.string z)) EZ.out, HBW.out.trans (HK30.out.mono HBW.out.size)⟩
end Go.Proofs.Ytpbgmknebhnonaa

namespace Go.Proofs.Ytpbgmknebhnonaa
open Go.RowKit

set_option maxHeartbeats 8000000 in
set_option maxRecDepth 10000 in
theorem rserial_any (m : Nat) (k : Int) (e : Bool) (t : ByteArray) (x : Option Addr) (n c : Nat) (T : Tr) (w : World) (hA : At w m (.agg #[Value.int IntKind.i64 k, Value.bool e, Value.string t, Value.slice x n c]) T) (hS : smT T) (hW : wfT T) :
    Calls Try.prog 11 #[.agg #[Value.int IntKind.i64 k, Value.bool e, Value.string t, Value.slice x n c]] w fun en w' => en = .returned (.tuple #[.string (serT T).1, .int .i64 (serT T).2]) ∧ Below w.heap.size w w' := by
  have HH : Hid (At w m (.agg #[Value.int IntKind.i64 k, Value.bool e, Value.string t, Value.slice x n c]) T ∧ smT T ∧ wfT T) := ⟨hA, hS, hW⟩
  clear hA hS hW
  obtain ⟨R, hR⟩ : ∃ R, serT T = R := ⟨_, rfl⟩
  have HR : Hid (serT T = R) := hR
  rw [hR]
  clear hR
  have HG : Hid ((w.alloc (Obj.cells #[Value.int IntKind.i64 k, Value.bool e, Value.string t, Value.slice x n c] 25)).heap[w.heap.size]? = some (.cells #[Value.int IntKind.i64 k, Value.bool e, Value.string t, Value.slice x n c] 25 (0, 0)) ∧ Below w.heap.size w (w.alloc (Obj.cells #[Value.int IntKind.i64 k, Value.bool e, Value.string t, Value.slice x n c] 25))) := ⟨heap_alloc_new _ _, (Below.refl _ _).alloc (Nat.le_refl _) _⟩
  go_enter Try.func11, Try.ntmps11
  go_upto_region 1 with fail
  obtain ⟨G, hG⟩ : ∃ G, w.heap.size = G := ⟨_, rfl⟩
  have HGe : Hid (w.heap.size = G) := hG
  generalize w.alloc (Obj.cells #[Value.int IntKind.i64 k, Value.bool e, Value.string t, Value.slice x n c] 25) = w1 at *
  have LC := look_any visit_any m _ T w1 (HH.out.1.below HG.out.2) HH.out.2.1
  rw [hG] at HG ⊢
  clear hG
  obtain ⟨u0, u1, u2, u3, _⟩ := cell4n HG.out.1
  go_wp2_with fail
  refine LC.mono ?_
  intro e2 w7 h7
  have key : ∃ (C2 : Int) (x7 : Option Addr) (n7 c7 : Nat) (Z1 : Int) (C1 : ByteArray), e2 = .returned (.agg #[Value.slice x7 n7 c7, Value.int IntKind.i64 Z1, Value.int IntKind.i64 C2, Value.string C1]) ∧ (ckT T).2 = C2 ∧ Below w1.heap.size w1 w7 := by
    obtain ⟨h1, h2⟩ := h7
    by_cases hc : (ckT T).2 ≠ 0
    · rw [if_pos hc] at h1
      exact ⟨_, none, 0, 0, 0, (ckT T).1, h1, rfl, h2⟩
    · rw [if_neg hc] at h1
      obtain ⟨x7, c7, rfl, R7⟩ := h1
      exact ⟨0, x7, _, c7, _, _, rfl, by omega, h2⟩
  obtain ⟨C2, x7, n7, c7, Z1, C1, rfl, hC, b7⟩ := key
  have HC : Hid ((ckT T).2 = C2) := hC
  have HG1 : Hid (Below w.heap.size w w7 ∧ w7.heap[G]? = some (.cells #[Value.int IntKind.i64 k, Value.bool e, Value.string t, Value.slice x n c] 25 (0, 0))) := ⟨by rw [HGe.out]; exact HG.out.2.trans (b7.mono (by have := HG.out.2.size; rw [HGe.out] at this; exact this)), (b7.block _ (heap_lt HG.out.1)).trans HG.out.1⟩
  have b8 : Below w7.heap.size w7 (w7.alloc (Obj.cells #[Value.slice x7 n7 c7, Value.int IntKind.i64 Z1, Value.int IntKind.i64 C2, Value.string C1] 77)) := (Below.refl _ _).alloc (Nat.le_refl _) _
  have HS8 : Hid ((w7.alloc (Obj.cells #[Value.slice x7 n7 c7, Value.int IntKind.i64 Z1, Value.int IntKind.i64 C2, Value.string C1] 77)).heap[w7.heap.size]? = some (.cells #[Value.slice x7 n7 c7, Value.int IntKind.i64 Z1, Value.int IntKind.i64 C2, Value.string C1] 77 (0, 0))) := heap_alloc_new _ _
  have HG8 : Hid (Below w.heap.size w (w7.alloc (Obj.cells #[Value.slice x7 n7 c7, Value.int IntKind.i64 Z1, Value.int IntKind.i64 C2, Value.string C1] 77)) ∧ (w7.alloc (Obj.cells #[Value.slice x7 n7 c7, Value.int IntKind.i64 Z1, Value.int IntKind.i64 C2, Value.string C1] 77)).heap[G]? = some (.cells #[Value.int IntKind.i64 k, Value.bool e, Value.string t, Value.slice x n c] 25 (0, 0))) := ⟨HG1.out.1.trans (b8.mono HG1.out.1.size), (b8.block _ (heap_lt HG1.out.2)).trans HG1.out.2⟩
  clear LC h7 hC b7 b8 HG1 HG u0 u1 u2 u3
  go_upto_region 2 with fail
  generalize w7.alloc (Obj.cells #[Value.slice x7 n7 c7, Value.int IntKind.i64 Z1, Value.int IntKind.i64 C2, Value.string C1] 77) = w8 at *
  generalize w7.heap.size = S at *
  obtain ⟨g0, g1, g2, g3, _⟩ := cell4n HS8.out
  by_cases hz : C2 = 0
  · subst hz
    obtain ⟨hok, hfw⟩ := arc_le HH.out.2.1 HH.out.2.2 HC.out
    have HSR : Hid (R = (NB.ba (arcT T), 0)) := by rw [Hid, ← HR.out]; unfold serT; rw [if_neg (by rw [HC.out]; decide)]
    have hwd : fwS (wdT T) ≤ 1048600 := by
      change _ + fwS (wdT T) ≤ _ at hfw
      omega
    have HOK : Hid (okT T ∧ fwS (wdT T) ≤ 1048600) := ⟨hok, hwd⟩
    have hXs : (NB.ba (frm [wMagic])).size ≤ 1048600 := by rw [fb_size]; decide +kernel
    have hZs : (NB.ba (frm (wdT T))).size ≤ 1048600 := by rw [fb_size]; exact hwd
    have EZ : Hid (NB.ba (frm [wMagic]) ++ NB.ba (frm (wdT T)) = NB.ba (arcT T)) := by rw [Hid, ba_app, ← frm_app]; rfl
    obtain ⟨X, hX⟩ : ∃ X, NB.ba (frm [wMagic]) = X := ⟨_, rfl⟩
    obtain ⟨Z, hZ⟩ : ∃ X, NB.ba (frm (wdT T)) = X := ⟨_, rfl⟩
    have HX : Hid (txt wMagic = X) := (frm_one wMagic).trans hX
    have HZ : Hid (NB.ba (frm (wdT T)) = Z) := hZ
    rw [hX, hZ] at EZ
    rw [hX] at hXs
    rw [hZ] at hZs
    clear hX hZ hok hfw hwd
    have hcc : ¬ 9223372036854775807 < X.size + Z.size := by omega
    have HD : Hid (Below w.heap.size w w8.drew ∧ w8.drew.heap[G]? = some (.cells #[Value.int IntKind.i64 k, Value.bool e, Value.string t, Value.slice x n c] 25 (0, 0))) := ⟨HG8.out.1.trans ⟨rfl, rfl, rfl, Nat.le_refl _, fun _ _ => rfl⟩, HG8.out.2⟩
    obtain ⟨a0, a1, a2, a3, _⟩ := cell4n HG8.out.2
    obtain ⟨d0, d1, d2, d3, _⟩ := cell4n HD.out.2
    go_upto_region 4 with fail
    go_region_held3 (fun W => W.cell? ⟨G, 0, none⟩ = some (.int .i64 k) ∧ W.cell? ⟨G, 1, none⟩ = some (.bool e) ∧ W.cell? ⟨G, 2, none⟩ = some (.string t) ∧ W.cell? ⟨G, 3, none⟩ = some (.slice x n c))
      (first | exact ⟨d0, d1, d2, d3⟩ | exact ⟨a0, a1, a2, a3⟩ | exact ⟨i0, i1, i2, i3⟩ | exact ⟨j0, j1, j2, j3⟩)
      (first
        | (have hhk := HD; go_at_call 31; refine (rtext_any wMagic _ (by decide)).mono ?_; rw [HX.out]; rintro e9 w9 ⟨rfl, b9⟩; have HG9 : Hid (Below w.heap.size w w9 ∧ w9.heap[G]? = some (.cells #[Value.int IntKind.i64 k, Value.bool e, Value.string t, Value.slice x n c] 25 (0, 0))) := ⟨HD.out.1.trans (b9.mono HD.out.1.size), (b9.block _ (heap_lt HD.out.2)).trans HD.out.2⟩; obtain ⟨i0, i1, i2, i3, _⟩ := cell4n HG9.out.2; clear b9)
        | (have hhk := HG9; go_at_call 32; refine (raw_any m _ T w _ HH.out.1 HG9.out.1 HOK.out.1 (Nat.le_trans HOK.out.2 (by decide))).mono ?_; rw [HZ.out]; rintro e9 w10 ⟨rfl, b10⟩; have HG10 : Hid (Below w.heap.size w w10 ∧ w10.heap[G]? = some (.cells #[Value.int IntKind.i64 k, Value.bool e, Value.string t, Value.slice x n c] 25 (0, 0))) := ⟨HG9.out.1.trans (b10.mono HG9.out.1.size), (b10.block _ (heap_lt HG9.out.2)).trans HG9.out.2⟩; obtain ⟨j0, j1, j2, j3, _⟩ := cell4n HG10.out.2; clear b10))
    go_wp2
    go_ret2
    exact ⟨by rw [HSR.out, ← EZ.out]; rfl, HG10.out.1⟩
  · have HSR : Hid (R = (⟨#[]⟩, C2)) := by rw [Hid, ← HR.out]; unfold serT; rw [if_pos (by rw [HC.out]; exact hz), HC.out]
    have hne : (C2 == 0) = false := by simp [hz]
    have HD : Hid (Below w.heap.size w w8.drew) := HG8.out.1.trans ⟨rfl, rfl, rfl, Nat.le_refl _, fun _ _ => rfl⟩
    go_upto_region 3 with fail
    go_region_held3 (fun W => W.cell? ⟨S, 2, none⟩ = some (.int .i64 C2)) (first | exact g2) (fail)
    go_wp2
    go_ret2
    exact ⟨by rw [HSR.out]; rfl, HD.out⟩
end Go.Proofs.Ytpbgmknebhnonaa
