/- The document's plain, walked (for PackWrites). -/
import Derived.Test.YthjpmiidbgaiaaaPwC
namespace Go.Proofs.Ythjpmiidbgaiaaa
open Go.RowKit Go.Maps

/-- What is true ahead of each piece. -/
structure PlL (w0 wr : World) (l r out : List UInt8) (v : Value) : Prop where
  own : wr.ownsRow w0.heap.size 5 1 v out.length (Lib.byteCells out)
  be : Below w0.heap.size w0 wr
  eq : out ++ plT (l.length + 1) r = plT (l.length + 1) l
  le : r.length ≤ l.length
  ln : out.length + 2 * r.length ≤ 2 * l.length
theorem PlL.grow {w0 wr w' : World} {l r out : List UInt8} {v : Value} (h : PlL w0 wr l r out v) (g : wr.grownBy w' v.ownBlock) : Below w0.heap.size w0 w' :=
  h.be.grown g h.be.size (fun k hk => (h.own.lt k hk).1)

set_option maxHeartbeats 4000000 in
set_option maxRecDepth 10000 in
theorem rplain_any (l : List UInt8) (w : World) (hl : l.length ≤ 1048576) :
    Calls Try.prog 31 #[.string (ba l)] w fun e w' => (∃ p c, e = .returned (.slice p (plT (l.length + 1) l).length c) ∧ w'.ownsRow w.heap.size 5 1 (.slice p (plT (l.length + 1) l).length c) (plT (l.length + 1) l).length (Lib.byteCells (plT (l.length + 1) l))) ∧ Below w.heap.size w w' := by
  have HI : Hid (PlL w w l l [] (.slice none 0 0)) := ⟨World.ownsRow_nil _ _ _ _, Below.refl _ _, rfl, Nat.le_refl _, by simp⟩
  go_enter Try.func31, Try.ntmps31
  go_wp2
  go_loopg [0, 3] l.length (fun gk sv ov wr => ∃ (r out : List UInt8) (p : Option Addr) (c : Nat), Hid (gk = r.length) ∧ sv = .string (ba r) ∧ ov = .slice p out.length c ∧ Hid (PlL w wr l r out (.slice p out.length c)))
  case atStart => exact ⟨l, [], none, 0, rfl, rfl, rfl, HI⟩
  case round =>
    obtain ⟨r, out, p, c, hgk, rfl, rfl, hP⟩ := hrel
    clear HI
    have hrs := ba_size r
    have hrl := hP.out.le
    have hln := hP.out.ln
    by_cases hb : 128 < r.length
    · obtain ⟨p1, c1, w2, hr1, ho1, g1⟩ := row_byte hP.out.own hP.out.be.size 127 (by omega)
      have B1 := hP.out.grow g1
      obtain ⟨p2, c2, w3, hr2, ho2, g2⟩ := row_text_app ho1 B1.size (r.take 128) (by rw [List.length_append, List.length_take]; show out.length + 1 + _ ≤ _; omega)
      have B2 : Below w.heap.size w w3 := B1.grown g2 B1.size (fun k hk => (ho1.lt k hk).1)
      have hr1' : (Builtin.append_ #[45, 45] 45 #[.slice p out.length c, .slice (some ⟨wr.heap.size, 0, none⟩) 1 1]).run Try.prog (wr.alloc (.cells #[.int .u8 127] 5)) = .ok (.slice p1 (out ++ [127]).length c1) w2 := hr1
      have e1 : (ba r).extract 0 128 = ba (r.take 128) := by rw [ba_cut r 0 128 (by omega) (by omega)]; rfl
      have e2 : (ba r).extract 128 r.length = ba (r.drop 128) := by
        rw [ba_cut r 128 r.length (by omega) (Nat.le_refl _)]
        unfold cutL
        rw [List.take_of_length_le (by rw [List.length_drop]; omega)]
      have hst := plT_big r (l.length + 1) (by omega) hb
      have HF : Hid (PlL w w3 l (r.drop 128) (out ++ [127] ++ r.take 128) (.slice p2 (out ++ [127] ++ r.take 128).length c2)) := ⟨ho2, B2, by
        have := hP.out.eq
        rw [hst] at this
        rw [← this]
        simp, by rw [List.length_drop]; omega, by rw [List.length_append, List.length_append, List.length_take, List.length_drop]; show out.length + 1 + _ + _ ≤ _; omega⟩
      have hb' : (128 : Int) < (r.length : Int) := by omega
      have h128 : (128 : Int) ≤ (r.length : Int) := by omega
      clear hr1 ho1 ho2 g1 g2 B1 B2 hst hP
      generalize (out ++ [(127 : UInt8)]).length = L1 at hr1' hr2
      go_wp2_with (first | (refine wpList_appB_is' (by rfl) (.tmp 7) (.tmp 8) (by rfl) _ _ _ _ (by rfl) (by rfl) hr1' ?_) | (refine wpList_appT_is (by rfl) (.tmp 10) (.tmp 12) (by rfl) _ _ _ _ (by rfl) (by rw [← e1]; rfl) hr2 ?_))
      go_roundg (r.drop 128).length
      case measure => have := hgk.out; rw [List.length_drop]; omega
      case rel => exact ⟨r.drop 128, out ++ [127] ++ r.take 128, p2, c2, rfl, by first | rw [← e2] | (rw [← e2]; rfl) | simp [e2], by first | rfl | simp, HF⟩
    · have hb' : ¬ (128 : Int) < (r.length : Int) := by omega
      by_cases hz : r.length = 0
      · have HE : Hid (out = plT (l.length + 1) l) := by
          have := hP.out.eq
          obtain rfl : r = [] := List.eq_nil_of_length_eq_zero hz
          rw [show plT (l.length + 1) ([] : List UInt8) = [] from rfl, List.append_nil] at this
          exact this
        have hz' : ¬ (0 : Int) < (r.length : Int) := by omega
        go_wp2
        go_ret
        exact ⟨⟨p, c, by rw [← HE.out]; rfl, by rw [← HE.out]; exact hP.out.own⟩, hP.out.be⟩
      · have hwr : IntKind.u8.wrap ((r.length : Int) - 1) = ((UInt8.ofNat (r.length - 1)).toNat : Int) := u8wrap _ _ (by omega)
        have hst := plT_small r (l.length + 1) (by omega) (by omega) (by omega)
        generalize UInt8.ofNat (r.length - 1) = X at hwr hst
        obtain ⟨p1, c1, w2, hr1, ho1, g1⟩ := row_byte hP.out.own hP.out.be.size X (by omega)
        have B1 := hP.out.grow g1
        obtain ⟨p2, c2, w3, hr2, ho2, g2⟩ := row_text_app ho1 B1.size r (by rw [List.length_append]; show out.length + 1 + _ ≤ _; omega)
        have B2 : Below w.heap.size w w3 := B1.grown g2 B1.size (fun k hk => (ho1.lt k hk).1)
        have HE : Hid (out ++ [X] ++ r = plT (l.length + 1) l) := by
          have := hP.out.eq
          rw [hst] at this
          unfold Hid
          rw [← this]
          simp
        have HO : Hid (w3.ownsRow w.heap.size 5 1 (.slice p2 (out ++ [X] ++ r).length c2) (out ++ [X] ++ r).length (Lib.byteCells (out ++ [X] ++ r))) := ho2
        have HB : Hid (Below w.heap.size w w3) := B2
        have hz' : (0 : Int) < (r.length : Int) := by omega
        clear ho1 ho2 g1 g2 B1 B2 hst hP
        generalize (out ++ [X]).length = L1 at hr1 hr2
        go_wp2_with (first | (refine wpList_appB_is' (by rfl) (.tmp 19) (.tmp 24) (by rfl) _ _ _ _ (by rfl) (by rfl) hr1 ?_) | (refine wpList_appT_is (by rfl) (.tmp 26) (.tmp 27) (by rfl) _ _ _ _ (by rfl) (by rfl) hr2 ?_))
        go_ret
        exact ⟨⟨p2, c2, by rw [← HE.out]; first | rfl | simp, by rw [← HE.out]; exact HO.out⟩, HB.out⟩

end Go.Proofs.Ythjpmiidbgaiaaa
