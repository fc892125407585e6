/- ScanSwaps, walked (own text of the verifier). -/
import Derived.Test.YtojefckhefanhaaSvB
import Derived.Test.YtojefckhefanhaaSvA
namespace Go.Proofs.Ytojefckhefanhaa
open Go.RowKit
namespace Sc

theorem ext_td (x : ByteArray) (a b : Nat) : (x.extract a b).toList = (x.data.toList.take b).drop a := by
  rw [ByteArray.toList_eq, ByteArray.data_extract, Array.toList_extract]
  simp [List.extract, List.drop_take]
theorem ba_data (l : List UInt8) : (ba l).data.toList = l := by simp [ba]
theorem len_one {f : List UInt8} {F : List (List UInt8)} {P : Prop} (nd : F.Nodup) (mem : ∀ h, h ∈ F ↔ h = f ∧ P) : (P → F = [f]) ∧ (¬ P → F = []) := by
  constructor
  · intro hP
    match F, nd, mem with
    | [], _, mem => exact absurd ((mem f).2 ⟨rfl, hP⟩) (by simp)
    | [a], _, mem => rw [((mem a).1 (by simp)).1]
    | a :: b :: l, nd, mem =>
      have ha := ((mem a).1 (by simp)).1
      have hb := ((mem b).1 (by simp)).1
      rw [ha, hb] at nd
      simp at nd
  · intro hP
    match F, mem with
    | [], _ => rfl
    | a :: l, mem => exact absurd ((mem a).1 (by simp)).2 hP

set_option maxRecDepth 100000 in
set_option maxHeartbeats 8000000 in
theorem swaps_walk (x f t : ByteArray) (w : World) (hx : x.size ≤ 1048576) (_hf : f.size ≤ 1048576) (_ht : t.size ≤ 1048576) :
    Calls Try.prog 7 #[.string x, .string f, .string t] w fun e w' => e = .returned (.bool true) ∧ Below w.heap.size w w' := by
  have n131 : ∀ s, hsh s ≠ 0 → hsh s = 131 := fun s h => by
    rcases hsh_cases s with ⟨-, e⟩ | ⟨-, e⟩
    · exact absurd e h
    · exact e
  go_enter Try.func7, Try.ntmps7
  go_wp2_with fail
  with_reducible refine (awake_any _).mono ?_
  rintro e w1 ⟨rfl, b1⟩
  have HB1 : Hid _ := b1
  clear b1
  go_wp2_with fail
  with_reducible refine (rewrite_any x f t w1 (by omega)).mono ?_
  rintro e w2 ⟨b2, ⟨h1, rfl⟩ | ⟨h1, h2, rfl⟩ | ⟨h1, h2, v, own, rfl⟩⟩
  · have e1 := n131 f h1
    have HB2 : Hid (Below w.heap.size w w2) := HB1.out.trans (b2.mono HB1.out.size)
    clear b2 HB1 n131 h1
    go_wp2
    go_ret
    exact ⟨rfl, HB2.out⟩
  · have e1 := n131 t h2
    have HB2 : Hid (Below w.heap.size w w2) := HB1.out.trans (b2.mono HB1.out.size)
    clear b2 HB1 n131 h1 h2
    go_wp2
    go_ret
    exact ⟨rfl, HB2.out⟩
  have HB2 : Hid (Below w.heap.size w w2) := HB1.out.trans (b2.mono HB1.out.size)
  have H1 : Hid (hsh f = 0) := h1
  have HF : Hid (f.data.toList.length = 32) := (isH_of h1).len
  have HT : Hid (t.data.toList.length = 32) := (isH_of h2).len
  have RI2 := ri_own own
  clear b2 HB1 h1 h2 own n131
  generalize hps : pl f.data.toList 0 x.data.toList = ps at *
  have HPS : Hid (pl f.data.toList 0 x.data.toList = ps) := hps
  have hpl : ps.length ≤ x.size := by rw [← hps, ← size_list]; exact pl_len _ _ _
  clear hps
  generalize hg : rw' f.data.toList t.data.toList x.data.toList = g at *
  have HG : Hid (rw' f.data.toList t.data.toList x.data.toList = g) := hg
  have hgz : (ba g).size = x.size := by rw [ba_size, ← hg, rw_len HT.out, size_list]
  clear hg
  obtain ⟨xv, cv, rfl, hcell⟩ := RI2
  have HC : Hid (∀ i t, ps[i]? = some t → ∃ b o, xv = some ⟨b, o, none⟩ ∧ b < w2.heap.size ∧ w2.cell? ⟨b, o + i, none⟩ = some (.int .i64 ((t : Nat) : Int))) := hcell
  clear hcell
  go_wp2_with fail
  go_loopg [10, 45] ps.length (fun gk av iv wr => ∃ (k A : Nat), gk + k = ps.length ∧ iv = .int .i64 (k : Int) ∧ av = .int .i64 (A : Int) ∧ A ≤ x.size ∧ Hid (g.drop A = rw' f.data.toList t.data.toList (x.data.toList.drop A)) ∧ Hid (pl f.data.toList A (x.data.toList.drop A) = ps.drop k) ∧ Hid (∃ q, wr = w2.drewN q))
  case atStart => exact ⟨0, 0, rfl, rfl, rfl, Nat.zero_le _, by unfold Hid; rw [List.drop_zero, List.drop_zero]; exact HG.out.symm, by unfold Hid; rw [List.drop_zero, List.drop_zero]; exact HPS.out, 0, rfl⟩
  case round =>
    obtain ⟨k, A, hgk, rfl, rfl, hA, hD, hP, hq⟩ := hrel
    obtain ⟨q, hqq⟩ := hq.out
    subst hqq
    clear hq
    by_cases hk : k < ps.length
    · obtain ⟨p, hp⟩ : ∃ p, ps[k]? = some p := ⟨_, List.getElem?_eq_getElem hk⟩
      obtain ⟨b1, o1, rfl, -, c1⟩ := HC.out k p hp
      have hdk : ps.drop k = p :: ps.drop (k + 1) := by
        rw [List.drop_eq_getElem_cons hk]
        rw [List.getElem?_eq_getElem hk] at hp
        injection hp with hp
        rw [hp]
      obtain ⟨d, e1, e2, e3, e4, e5⟩ := pl_cons_rw t.data.toList HF.out _ (x.data.toList.drop A) (Nat.le_refl _) A p (ps.drop (k + 1)) (hP.out.trans hdk)
      rw [List.length_drop, size_list] at e2
      subst e1
      have h3 := between (l := x.data.toList) (g := g) (t := t.data.toList) (f := f.data.toList) (A := A) (q := d) (by rw [size_list]; exact hA) (by rw [size_list]; exact e2) HT.out (by rw [hD.out, e4, List.drop_drop])
      have s1 : (x.extract A (A + d)).toList = ((ba g).extract A (A + d)).toList := by rw [ext_td, ext_td, ba_data]; exact h3.1.symm
      have s2 : (x.extract (A + d) (A + d + 32)).toList = f.toList := by rw [ext_win, ByteArray.toList_eq, ← e3, win_drop]
      have s3 : ((ba g).extract (A + d) (A + d + 32)).toList = t.toList := by rw [ext_win, ByteArray.toList_eq, ba_data]; exact h3.2.1
      have HD2 : Hid (g.drop (A + d + 32) = rw' f.data.toList t.data.toList (x.data.toList.drop (A + d + 32))) := h3.2.2
      have HP2 : Hid (pl f.data.toList (A + d + 32) (x.data.toList.drop (A + d + 32)) = ps.drop (k + 1)) := by unfold Hid; rw [← e5, List.drop_drop]; rfl
      clear h3 e3 e4 e5 hdk hD hP
      obtain ⟨p, hpd⟩ : ∃ p, A + d = p := ⟨_, rfl⟩
      rw [hpd] at s1 s2 s3 HD2 HP2 hp c1
      have d1 : (w2.drewN q).cell? ⟨b1, o1 + k, none⟩ = some (.int .i64 ((p : Nat) : Int)) := c1
      have n3 : p + 32 ≤ x.size := by omega
      have n4 : A ≤ p := by omega
      have n1 : ¬ ((p : Int) < (A : Int)) := by omega
      have n2 : ¬ ((x.size : Int) - 32 < (p : Int)) := by omega
      have m1 : decide ((p : Int) < (A : Int)) = false := decide_eq_false n1
      have m2 : decide ((x.size : Int) - 32 < (p : Int)) = false := decide_eq_false n2
      have m3 : decide (p < A) = false := decide_eq_false (by omega)
      clear c1 hp hpd e2
      go_wp2_with fail
      go_quiet (fail)
      generalize hw9 : (w2.drewN q).drewN nq = w9
      have HW : Hid (∃ q, w9 = w2.drewN q) := ⟨q + nq, by rw [← hw9, World.drewN_drewN]⟩
      clear hw9 d1 m1 m2 m3 n1 n2 s1 s2 s3
      go_wp2
      go_roundg (gk - 1)
      case measure => omega
      case rel => exact ⟨k + 1, p + 32, by omega, by go_num, by go_num, n3, HD2, HP2, HW⟩
    · have hend : ps.drop k = [] := List.drop_eq_nil_of_le (by omega)
      obtain ⟨hn1, hn2⟩ := pl_nil_rw t.data.toList HF.out _ (x.data.toList.drop A) (Nat.le_refl _) A (hP.out.trans hend)
      have s1 : (x.extract A x.size).toList = ((ba g).extract A (ba g).size).toList := by
        rw [ext_td, ext_td, ba_data, List.take_of_length_le (by rw [size_list]; exact Nat.le_refl _), List.take_of_length_le (by rw [ba_size]; exact Nat.le_refl _), hD.out, hn1]
      have n4 : A ≤ (ba g).size := by omega
      rw [hgz] at s1 n4
      clear hn1 hn2 hend hD hP
      go_wp2_with fail
      go_quiet (fail)
      generalize hw9 : (w2.drewN q).drewN nq = w9
      have HB9 : Hid (Below w.heap.size w w9) := by rw [← hw9]; exact bel_drewN (bel_drewN HB2.out q) nq
      clear hw9 s1 HC
      have hk0 : ps.length = k := by omega
      go_wp2_with fail
      have hb := heap_alloc_new w9 (.cells #[.string f] 9)
      have B1 : Hid (RowKit.Below w9.heap.size w9 (w9.alloc (.cells #[.string f] 9))) := (RowKit.Below.refl _ _).alloc (Nat.le_refl _) _
      have hz : (w9.alloc (.cells #[.string f] 9)).heap.size = w9.heap.size + 1 := World.size_alloc _ _
      have CN : Calls Try.prog 9 #[.slice (some ⟨w9.heap.size, 0, none⟩) 1 1] (w9.alloc (.cells #[.string f] 9)) _ := snew_any [f] (some ⟨w9.heap.size, 0, none⟩) 1 _ (by simp) (fun j s hj => ⟨_, rfl, by rw [hz]; exact Nat.lt_succ_self _, by
        rw [Addr.add_lit, Nat.zero_add, Lib.cell_of_heap hb]
        match j, hj with
        | 0, hj => simp at hj; subst hj; rfl⟩)
      clear hb hz
      refine (show Calls Try.prog 9 #[.slice (some ⟨w9.heap.size, 0, none⟩) 1 1] (w9.alloc (.cells #[.string f] 9)) _ from CN.mono ?_)
      rintro e w10 ⟨b1, ⟨⟨s, hs, hbad⟩, rfl⟩ | ⟨_, gb, m, S, hg, hm, rfl, SM1, hS⟩⟩
      · exfalso
        rw [List.mem_singleton] at hs
        subst hs
        exact hbad H1.out
      have HS1 : Hid _ := SM1
      have HM1 : Hid (∀ h, h ∈ S ↔ _) := hS
      have HB10 : Hid (RowKit.Below w.heap.size w w10) := HB9.out.trans ((B1.out.trans (b1.mono B1.out.size)).mono HB9.out.size)
      have HG1 : Hid (w.heap.size ≤ gb) := Nat.le_trans HB9.out.size (Nat.le_trans B1.out.size hg)
      have HM2 : Hid (w.heap.size ≤ m) := Nat.le_trans HB9.out.size (Nat.le_trans B1.out.size hm)
      clear SM1 hS b1 hg hm B1 CN HB9
      have CV := run_bytes_of_string (P := Try.prog) w10 9 30 5 x Try.underlying9 und30 Try.underlying5
      have hcx := grownCap_ge w10 x.size 0 5
      generalize grownCap w10 x.size 0 5 = cx at *
      replace CV : (convert 9 30 (.string x)).run Try.prog w10 = .ok (.slice (some ⟨w10.heap.size, 0, none⟩) x.size cx) (w10.alloc (.cells (bytesRow x cx) 5 ((bytesRow x cx).size, (bytesRow x cx).size + 1))).drew := CV
      have TX : Hid (Txt (w10.alloc (.cells (bytesRow x cx) 5 ((bytesRow x cx).size, (bytesRow x cx).size + 1))).drew _ _) := (txt_str w10 x cx 5 ((bytesRow x cx).size, (bytesRow x cx).size + 1) hcx).below (Below.refl _ _).drew
      have b2 : Below w10.heap.size w10 (w10.alloc (.cells (bytesRow x cx) 5 ((bytesRow x cx).size, (bytesRow x cx).size + 1))).drew := ((Below.refl _ _).alloc (Nat.le_refl _) _).drew
      have S2 : Hid _ := HS1.out.below b2
      have HB11 : Hid (Below w.heap.size w (w10.alloc (.cells (bytesRow x cx) 5 ((bytesRow x cx).size, (bytesRow x cx).size + 1))).drew) := HB10.out.trans (b2.mono HB10.out.size)
      have lg := HS1.out.lt
      clear b2 HS1 HB10
      have CF := sfeed_any gb m 1 [f.data.toList] [] [] x.data.toList S [] (.slice none 0 0) (.slice (some ⟨w10.heap.size, 0, none⟩) x.size cx) _ S2.out (GF.start (fun h => by rw [HM1.out h]; simp [eq_comm])) (fun h hh => by
        rw [List.mem_singleton] at hh; subst hh; exact isH_of H1.out) TX.out (fun a l c e => by injection e with e _ _; injection e with e; subst e; show w10.heap.size ≠ gb; omega) (by rw [size_list]; simp; omega)
      generalize (w10.alloc (.cells (bytesRow x cx) 5 ((bytesRow x cx).size, (bytesRow x cx).size + 1))).drew = w11 at *
      clear hcx lg
      go_wp2_with fail
      refine (show Calls Try.prog 11 #[.pointer (some ⟨gb, 0, none⟩), .slice (some ⟨w10.heap.size, 0, none⟩) x.size cx] w11 _ from CF.mono ?_)
      rintro e w12 ⟨kept', S', F', fv', rfl, S3, G3, K3, p3⟩
      have hL := len_one (F := F') (f := f.data.toList) (P := occ f.data.toList x.data.toList) G3.fb.nd (fun h => (G3.fb.mem h).trans (by
        rw [List.mem_singleton]
        constructor
        · rintro ⟨rfl, h⟩; exact ⟨rfl, (G3.base.occ (isH_of H1.out)).2 h⟩
        · rintro ⟨rfl, h⟩; exact ⟨rfl, (G3.base.occ (isH_of H1.out)).1 h⟩))
      have hO := pl_occ HF.out x.data.toList 0
      rw [HPS.out] at hO
      have HLL : Hid ((F'.length = 1 ∧ 0 < ps.length) ∨ (F'.length = 0 ∧ ps.length = 0)) := by
        by_cases h : occ f.data.toList x.data.toList
        · exact .inl ⟨by rw [hL.1 h]; rfl, List.length_pos_iff.2 (hO.2 h)⟩
        · exact .inr ⟨by rw [hL.2 h]; rfl, by
            rcases Nat.eq_zero_or_pos ps.length with e | e
            · exact e
            · exact absurd (hO.1 (List.length_pos_iff.1 e)) h⟩
      have HS3 : Hid _ := S3
      have HB12 : Hid (RowKit.Below w.heap.size w w12) := ⟨K3.os.trans HB11.out.os, K3.tape.trans HB11.out.tape, K3.output.trans HB11.out.output, Nat.le_trans HB11.out.size K3.size, fun k hk => (K3.block k (Nat.lt_of_lt_of_le hk HB11.out.size) (by have := HG1.out; omega) (by have := HM2.out; omega) (by simp [Value.ownBlock])).trans (HB11.out.block k hk)⟩
      clear S3 G3 K3 p3 CF CV TX S2 HB11 hL hO
      have CN := sfound_any gb _ kept' m 1 S' F' fv' w12 HS3.out (by rcases HLL.out with h | h <;> omega)
      clear HS3
      go_wp2_with fail
      with_reducible refine CN.mono ?_
      rintro e w13 ⟨vf, rfl, tx, b4⟩
      clear CN
      obtain ⟨xf, cf, rfl, -⟩ := tx
      have hsl : (srt F').length = F'.length := List.length_mergeSort _
      have HB13 : Hid (Below w.heap.size w w13) := HB12.out.trans (b4.mono HB12.out.size)
      clear b4 HB12
      rcases HLL.out with ⟨l1, l2⟩ | ⟨l1, l2⟩
      · rw [hsl, l1]
        have l3 : (0 : Int) < (ps.length : Int) := by omega
        go_wp2_with fail
        go_ret
        have l4 : 0 < k := by omega
        exact ⟨by simp [l4], HB13.out⟩
      · rw [hsl, l1]
        have l3 : ¬ (0 : Int) < (ps.length : Int) := by omega
        go_wp2_with fail
        go_ret
        have l4 : ¬ 0 < k := by omega
        exact ⟨by simp [l4], HB13.out⟩
end Sc
end Go.Proofs.Ytojefckhefanhaa
