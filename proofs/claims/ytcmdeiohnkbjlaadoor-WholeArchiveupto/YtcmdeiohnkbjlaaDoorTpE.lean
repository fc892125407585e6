/- depottop's equal of trees, walked (own text of the verifier). -/
import Derived.Test.YtcmdeiohnkbjlaaDoorTqR
import Derived.Deep.Cut
namespace Go.Proofs.YtcmdeiohnkbjlaaDoor
open Go.RowKit

set_option maxHeartbeats 8000000 in
theorem topeq_any (m : Nat) : EqAt 15 m := by
  induction m with
  | zero => intro u v S T w h; exact h.elim
  | succ m IH =>
    rintro u v ⟨k, e, t, ns, ks⟩ ⟨k', e', t', ns', ks'⟩ w ⟨x, n, c, rfl, l1, l2, l3, l4, hx⟩ ⟨y, n', c', rfl, l1', l2', l3', l4', hy⟩
    have BW : ∀ o1 o2, Below w.heap.size w ((w.alloc o1).alloc o2) := fun o1 o2 => ((Below.refl _ _).alloc (Nat.le_refl _) o1).alloc (by rw [World.size_alloc]; omega) o2
    have EX : Hid (Ents w m x n ns ks) := At.ents hx
    have EY : Hid (Ents w m y n' ns' ks') := At.ents hy
    have LL : Hid (ns.length = n ∧ ks.length = n ∧ ns'.length = n' ∧ ks'.length = n') := ⟨l1, l2, l1', l2'⟩
    have HQ : Hid (Tr.mk k e t ns ks = Tr.mk k' e' t' ns' ks' ↔ k = k' ∧ e = e' ∧ t = t' ∧ ns = ns' ∧ ks = ks') := by unfold Hid; simp
    clear hx hy l1 l2 l1' l2'
    by_cases h1 : k = k' ∧ e = e' ∧ t = t' ∧ n = n'
    · obtain ⟨rfl, rfl, rfl, rfl⟩ := h1
      have HQ1 : Hid (Tr.mk k e t ns ks = Tr.mk k e t ns' ks' ↔ ns = ns' ∧ ks = ks') := HQ.out.trans ⟨fun h => h.2.2.2, fun h => ⟨rfl, rfl, rfl, h⟩⟩
      clear HQ
      have q1 : (k != k) = false := by simp
      have q2 : (e != e) = false := by simp
      have q3 : (t.toList == t.toList) = true := by simp
      have q4 : ((n : Int) != (n : Int)) = false := by simp
      go_enter Tryd.func15, Tryd.ntmps15
      go_wp2
      have B0 := BW (Obj.cells #[.int .i64 k, .bool e, .string t, .slice x n c] 25) (Obj.cells #[.int .i64 k, .bool e, .string t, .slice y n c'] 25)
      have hs0 : (w.alloc (Obj.cells #[.int .i64 k, .bool e, .string t, .slice x n c] 25)).heap.size = w.heap.size + 1 := World.size_alloc _ _
      have hs1 : ((w.alloc (Obj.cells #[.int .i64 k, .bool e, .string t, .slice x n c] 25)).alloc (Obj.cells #[.int .i64 k, .bool e, .string t, .slice y n c'] 25)).heap.size = w.heap.size + 1 + 1 := by rw [World.size_alloc, hs0]
      have C1 : ((w.alloc (Obj.cells #[.int .i64 k, .bool e, .string t, .slice x n c] 25)).alloc (Obj.cells #[.int .i64 k, .bool e, .string t, .slice y n c'] 25)).cell? ⟨w.heap.size, 3, none⟩ = some (.slice x n c) := by
        rw [World.cell?_alloc_old _ _ _ (by rw [hs0]; show w.heap.size ≠ _; omega), World.cell?_alloc_new]; rfl
      have C2 : ((w.alloc (Obj.cells #[.int .i64 k, .bool e, .string t, .slice x n c] 25)).alloc (Obj.cells #[.int .i64 k, .bool e, .string t, .slice y n c'] 25)).cell? ⟨w.heap.size + 1, 3, none⟩ = some (.slice y n c') := by
        rw [← hs0, World.cell?_alloc_new]; rfl
      obtain ⟨G, hG⟩ : ∃ G, w.heap.size = G := ⟨_, rfl⟩
      have HG : Hid (w.heap.size = G) := hG
      clear hs0
      generalize (w.alloc (Obj.cells #[.int .i64 k, .bool e, .string t, .slice x n c] 25)).alloc (Obj.cells #[.int .i64 k, .bool e, .string t, .slice y n c'] 25) = w0 at *
      rw [hG] at C1 C2 hs1 ⊢
      have B0' : Hid (Below w.heap.size w w0) := B0
      clear hG BW B0
      go_loopw [37] (fun xi wr => ∃ i : Nat, i ≤ n ∧ xi = .int .i64 i ∧ Hid (∀ j, j < i → ns[j]? = ns'[j]? ∧ ks[j]? = ks'[j]?) ∧ Hid (Below w0.heap.size w0 wr)) (fun i _ => n - (intOf i).toNat)
      case atStart => exact ⟨0, Nat.zero_le _, rfl, fun j hj => absurd hj (by omega), Below.refl _ _⟩
      case round =>
        obtain ⟨i, hi, rfl, hl, hB⟩ := hrel
        have D1 : wr.cell? ⟨G, 3, none⟩ = some (.slice x n c) := by rw [hB.out.cell (p := ⟨G, 3, none⟩) (by show G < _; omega)]; exact C1
        have D2 : wr.cell? ⟨G + 1, 3, none⟩ = some (.slice y n c') := by rw [hB.out.cell (p := ⟨G + 1, 3, none⟩) (by show G + 1 < _; omega)]; exact C2
        by_cases hlt : i < n
        · obtain ⟨l1, l2, l3, l4⟩ := LL.out
          obtain ⟨s, hs⟩ : ∃ s, ns[i]? = some s := ⟨_, List.getElem?_eq_getElem (by omega)⟩
          obtain ⟨s', hs'⟩ : ∃ s, ns'[i]? = some s := ⟨_, List.getElem?_eq_getElem (by omega)⟩
          obtain ⟨S, hS⟩ : ∃ s, ks[i]? = some s := ⟨_, List.getElem?_eq_getElem (by omega)⟩
          obtain ⟨T, hT⟩ : ∃ s, ks'[i]? = some s := ⟨_, List.getElem?_eq_getElem (by omega)⟩
          have BR : Below w.heap.size w wr := B0'.out.trans (hB.out.mono B0'.out.size)
          obtain ⟨g, o, a, b, d, f, p, q, rfl, hg, c0, c1, c2, c3, c4, hA⟩ := EX.out.below BR i s S hlt hs hS
          obtain ⟨g', o', a', b', d', f', p', q', rfl, hg', c0', c1', c2', c3', c4', hA'⟩ := EY.out.below BR i s' T hlt hs' hT
          have HA : Hid (At wr m (.agg #[.int .i64 a, .bool b, .string d, .slice f p q]) S) := hA
          have HA' : Hid (At wr m (.agg #[.int .i64 a', .bool b', .string d', .slice f' p' q']) T) := hA'
          have HE : Hid (ns[i]? = some s ∧ ns'[i]? = some s' ∧ ks[i]? = some S ∧ ks'[i]? = some T) := ⟨hs, hs', hS, hT⟩
          clear hA hA' hs hs' hS hT l1 l2 l3 l4 BR
          cases hst : (s.toList == s'.toList)
          · have hne : Hid (¬ s = s') := fun h => by rw [h] at hst; simp at hst
            have hsn : (s.toList != s'.toList) = true := by simp [bne, hst]
            have hsp : s.toList ≠ s'.toList := by intro h; rw [h] at hst; simp at hst
            go_upto_region 6 with fail
            go_quiet (fail)
            go_wp2
            go_ret
            refine ⟨⟨_, rfl, (fun h => by cases h), fun h => ?_⟩, ?_⟩
            · obtain ⟨e1, e2, _, _⟩ := HE.out
              rw [(HQ1.out.1 h).1, e2] at e1
              exact absurd (Option.some.inj e1).symm hne.out
            · exact belR_drewN (B0'.out.trans (hB.out.mono B0'.out.size)) _
          · have heq : Hid (s = s') := by
              rw [beq_iff_eq, Lib.toList_data, Lib.toList_data] at hst
              apply ByteArray.ext; exact Array.toList_inj.1 hst
            have hsn : (s.toList != s'.toList) = false := by simp [bne, hst]
            go_upto_region 6 with fail
            have B3 : Below wr.heap.size wr wr := Below.refl _ _
            have HA3 : Hid (At wr m (.agg #[.int .i64 a, .bool b, .string d, .slice f p q]) S) := HA
            have HA3' : Hid (At wr m (.agg #[.int .i64 a', .bool b', .string d', .slice f' p' q']) T) := HA'
            have hB3 : Hid (Below w0.heap.size w0 wr) := hB
            have d1 : wr.cell? ⟨G, 3, none⟩ = some (.slice (some ⟨g, o, none⟩) n c) := D1
            have d2 : wr.cell? ⟨G + 1, 3, none⟩ = some (.slice (some ⟨g', o', none⟩) n c') := D2
            have x0 : wr.cell? ⟨g, o + i * 5, none⟩ = some (.string s) := c0
            have x0' : wr.cell? ⟨g', o' + i * 5, none⟩ = some (.string s') := c0'
            have x1 : wr.cell? ⟨g, o + i * 5 + 1, none⟩ = some (.int .i64 a) := c1
            have x2 : wr.cell? ⟨g, o + i * 5 + 2, none⟩ = some (.bool b) := c2
            have x3 : wr.cell? ⟨g, o + i * 5 + 3, none⟩ = some (.string d) := c3
            have x4 : wr.cell? ⟨g, o + i * 5 + 4, none⟩ = some (.slice f p q) := c4
            have x1' : wr.cell? ⟨g', o' + i * 5 + 1, none⟩ = some (.int .i64 a') := c1'
            have x2' : wr.cell? ⟨g', o' + i * 5 + 2, none⟩ = some (.bool b') := c2'
            have x3' : wr.cell? ⟨g', o' + i * 5 + 3, none⟩ = some (.string d') := c3'
            have x4' : wr.cell? ⟨g', o' + i * 5 + 4, none⟩ = some (.slice f' p' q') := c4'
            have z1 : g < wr.heap.size := hg
            have z2 : g' < wr.heap.size := hg'
            have z3 : G + 1 < wr.heap.size := by have := hB3.out.size; omega
            clear B3 HA HA' D1 D2 c0 c1 c2 c3 c4 c0' c1' c2' c3' c4' hg hg' C1 C2 hs1 q1 q2 q3 q4
            have z4 : G < wr.heap.size := by omega
            have b3 : Below wr.heap.size wr wr := Below.refl _ _
            have hD : Below wr.heap.size wr wr.drew := b3.drew
            go_region_held3 (fun W => W.cell? ⟨G, 3, none⟩ = some (.slice (some ⟨g, o, none⟩) n c) ∧ W.cell? ⟨G + 1, 3, none⟩ = some (.slice (some ⟨g', o', none⟩) n c') ∧ W.cell? ⟨g, o + i * 5, none⟩ = some (.string s) ∧ W.cell? ⟨g', o' + i * 5, none⟩ = some (.string s') ∧ W.cell? ⟨g, o + i * 5 + 1, none⟩ = some (.int .i64 a) ∧ W.cell? ⟨g, o + i * 5 + 2, none⟩ = some (.bool b) ∧ W.cell? ⟨g, o + i * 5 + 3, none⟩ = some (.string d) ∧ W.cell? ⟨g, o + i * 5 + 4, none⟩ = some (.slice f p q) ∧ W.cell? ⟨g', o' + i * 5 + 1, none⟩ = some (.int .i64 a') ∧ W.cell? ⟨g', o' + i * 5 + 2, none⟩ = some (.bool b') ∧ W.cell? ⟨g', o' + i * 5 + 3, none⟩ = some (.string d') ∧ W.cell? ⟨g', o' + i * 5 + 4, none⟩ = some (.slice f' p' q') ∧ Below wr.heap.size wr W)
              (first
                | (go_split_ands
                   refine ⟨?_, ?_, ?_, ?_, ?_, ?_, ?_, ?_, ?_, ?_, ?_, ?_, ?_⟩
                   all_goals first
                     | assumption
                     | (rw [World.cell?_drew]; assumption)
                     | (exact Below.drew (by assumption))
                     | (refine (b5.cell ?_).trans ?_ <;> first | assumption | (rw [World.cell?_drew]; assumption) | (show _ < wr.heap.size; omega))
                     | (exact hD.trans (b5.mono hD.size))))
              (first
                | (go_at_call 15
                   refine (IH _ _ S T wr.drew (HA3.out.below hD) (HA3'.out.below hD)).mono ?_
                   rintro e5 w5 ⟨⟨r, rfl, hr⟩, b5⟩))
            have B5 : Hid (Below w0.heap.size w0 w5) := hB3.out.trans ((hD.trans (b5.mono hD.size)).mono hB3.out.size)
            cases r
            · have HR1 : Hid (¬ S = T) := fun h => by have := hr.2 h; cases this
              clear hr
              go_wp2
              go_ret
              refine ⟨⟨_, rfl, (fun h => by cases h), fun h => ?_⟩, B0'.out.trans (B5.out.mono B0'.out.size)⟩
              obtain ⟨_, _, e3, e4⟩ := HE.out
              rw [(HQ1.out.1 h).2, e4] at e3
              exact absurd (Option.some.inj e3).symm HR1.out
            · have HR1 : Hid (S = T) := hr.1 rfl
              clear hr
              go_wp2
              go_roundw
              case rel => exact ⟨i + 1, by omega, by go_num, fun j hj => by
                by_cases e : j = i
                · obtain ⟨e1, e2, e3, e4⟩ := HE.out
                  rw [e, e1, e2, e3, e4, heq.out, HR1.out]; exact ⟨rfl, rfl⟩
                · exact hl.out j (by omega), B5⟩
              case measure => simp [intOf]; omega
        · go_wp2
          go_ret
          obtain rfl : i = n := by omega
          refine ⟨⟨_, rfl, (fun _ => HQ1.out.2 ?_), fun _ => rfl⟩, B0'.out.trans (hB.out.mono B0'.out.size)⟩
          obtain ⟨l1, l2, l3, l4⟩ := LL.out
          refine ⟨List.ext_getElem? (fun j => ?_), List.ext_getElem? (fun j => ?_)⟩
          · by_cases e : j < i
            · exact (hl.out j e).1
            · rw [List.getElem?_eq_none (by omega), List.getElem?_eq_none (by omega)]
          · by_cases e : j < i
            · exact (hl.out j e).2
            · rw [List.getElem?_eq_none (by omega), List.getElem?_eq_none (by omega)]
    · have hne : Hid (¬ Tr.mk k e t ns ks = Tr.mk k' e' t' ns' ks') := fun h => h1 (by
        obtain ⟨a, b, c, d, _⟩ := HQ.out.1 h
        obtain ⟨l1, _, l3, _⟩ := LL.out
        exact ⟨a, b, c, by rw [← l1, ← l3, d]⟩)
      have H1 : Hid (¬ (k = k' ∧ e = e' ∧ t = t' ∧ n = n')) := h1
      clear h1 HQ EX EY LL
      by_cases hk : k = k'
      · subst hk
        have q1 : (k != k) = false := by simp
        by_cases he : e = e'
        · subst he
          have q2 : (e != e) = false := by simp
          by_cases ht : t = t'
          · subst ht
            have q3 : (t.toList == t.toList) = true := by simp
            have q4 : ((n : Int) != (n' : Int)) = true := by rw [bne_iff_ne]; exact fun h => H1.out ⟨rfl, rfl, rfl, by omega⟩
            clear H1
            go_enter Tryd.func15, Tryd.ntmps15
            go_wp2
            go_ret
            exact ⟨⟨_, rfl, (fun h => by cases h), fun h => absurd h hne.out⟩, BW _ _⟩
          · have h4 : (t.toList == t'.toList) = false := by
              rw [beq_eq_false_iff_ne]; intro h
              rw [Lib.toList_data, Lib.toList_data] at h
              exact ht (by apply ByteArray.ext; exact Array.toList_inj.1 h)
            clear H1 ht
            go_enter Tryd.func15, Tryd.ntmps15
            go_wp2
            go_ret
            exact ⟨⟨_, rfl, (fun h => by cases h), fun h => absurd h hne.out⟩, BW _ _⟩
        · clear H1
          cases e <;> cases e'
          · exact absurd rfl he
          · clear he
            go_enter Tryd.func15, Tryd.ntmps15
            go_wp2
            go_ret
            exact ⟨⟨_, rfl, (fun h => by cases h), fun h => absurd h hne.out⟩, BW _ _⟩
          · clear he
            go_enter Tryd.func15, Tryd.ntmps15
            go_wp2
            go_ret
            exact ⟨⟨_, rfl, (fun h => by cases h), fun h => absurd h hne.out⟩, BW _ _⟩
          · exact absurd rfl he
      · have h2 : (k != k') = true := by rw [bne_iff_ne]; exact hk
        clear H1 hk
        go_enter Tryd.func15, Tryd.ntmps15
        go_wp2
        go_ret
        exact ⟨⟨_, rfl, (fun h => by cases h), fun h => absurd h hne.out⟩, BW _ _⟩

end Go.Proofs.YtcmdeiohnkbjlaaDoor
