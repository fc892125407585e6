/- A whole that came in, opened. -/
import Derived.Test.YtjlbbnjcdickgaaWcW
import Derived.Test.YtjlbbnjcdickgaaRows
import Derived.ProofKit
import Derived.OpenShut
import Derived.ChangeOld
import Derived.ChangeSlices
import Derived.SizedLaws
import Derived.ChangeArms
namespace Go.Proofs.Ytjlbbnjcdickgaa
open Go.ChangeShapes Go.WideShapes Go.ChangeAt Go.RowKit
theorem nc3 : Try.prog.cellsOf 3 = 1 := by kernel_rfl
theorem nc9 : Try.prog.cellsOf 9 = 1 := by kernel_rfl
theorem ncLC : Try.prog.cellsOf 57 = 1 := by kernel_rfl
theorem ncWT : Try.prog.cellsOf 59 = 4 := by kernel_rfl
theorem bulk_lits {H : Type} (k : IntKind) (zs : List Int) : zs.length ≤ Rows.uptoBulkAll (H := H) (lits k zs) := by
  induction zs with
  | nil => exact Nat.zero_le _
  | cons a l ih =>
    show l.length + 1 ≤ Rows.uptoBulk (H := H) (.lit (.int k a)) + Rows.uptoBulkAll (H := H) (lits k l)
    have : Rows.uptoBulk (H := H) (.lit (.int k a)) = 1 := by simp [Rows.uptoBulk]
    omega
theorem spotN {w : World} {a : Addr} {v : Value} (h : w.cell? a = some v) : a.spot = none := by
  unfold World.cell? at h
  split at h
  · split at h
    · cases h
    · rename_i hs; simpa using hs
  · cases h
set_option maxHeartbeats 2000000 in
theorem open_wholeL {H : Type} {enc : TypeId × Value → H} {w : World} {sp : Nat → Bool} {held : Bool} (fuel : Nat) (cs : List Value) (x : DataW H × List MemPlace) (h : DataW.trod enc Try.prog w 0 sp held fuel 59 cs = some x) (hb : Rows.uptoBulk x.1 ≤ 1048576) :
    ∃ (a b : ByteArray) (m : Int) (z : Option Addr) (n c : Nat) (f : Nat → Int), cs = [.string a, .string b, .int .i64 m, .slice z n c] ∧ a.size ≤ 1048576 ∧ b.size ≤ 1048576 ∧ m ≤ 9223372036854775807 ∧ n ≤ 1048576 ∧ CRow w z n f := by
  obtain ⟨xs, n1, rfl, rfl, hl, hlen, hfs⟩ := DataW.trod_struct Try.underlying59 h
  rw [ncWT] at hl
  have g0 : DataW.trod enc Try.prog w 0 sp held n1 9 ((cs.drop 0).take 1) = xs[0]? := by have := hfs 0 _ rfl; rw [← nc9]; exact this
  have g1 : DataW.trod enc Try.prog w 0 sp held n1 9 ((cs.drop 1).take 1) = xs[1]? := by have := hfs 1 _ rfl; rw [← nc9]; exact this
  have g2 : DataW.trod enc Try.prog w 0 sp held n1 3 ((cs.drop 2).take 1) = xs[2]? := by have := hfs 2 _ rfl; rw [← nc3]; exact this
  have g3 : DataW.trod enc Try.prog w 0 sp held n1 57 ((cs.drop 3).take 1) = xs[3]? := by have := hfs 3 _ rfl; rw [← ncLC]; exact this
  have hlen : xs.length = 4 := hlen
  clear hfs h
  match cs, hl, xs, hlen with
  | [u0, u1, u2, u3], _, [y0, y1, y2, y3], _ =>
    obtain ⟨a, ha, ya, _⟩ := DataW.trod_string Try.underlying9 (x := y0) g0
    obtain ⟨b, hbb, yb, _⟩ := DataW.trod_string Try.underlying9 (x := y1) g1
    obtain ⟨m, hm, ym, hmf⟩ := DataW.trod_int Try.underlying3 (x := y2) g2
    simp at ha hbb hm
    subst ha hbb hm
    simp only [Rows.uptoBulk, Rows.uptoBulkAll, List.map_cons, List.map_nil, ya, yb] at hb
    have ea : a.data.toList.length = a.size := by rw [Array.length_toList]; rfl
    have eb : b.data.toList.length = b.size := by rw [Array.length_toList]; rfl
    have hmb := bounds_i64 hmf
    rcases open_ints Try.underlying57 Try.underlying3 (by kernel_rfl) (x := y3) g3 with ⟨hcs, _⟩ | ⟨z, l, c, zs, hcs, _, hl2, hm2, hz, hx, hcell, hwz⟩
    · simp at hcs
      subst hcs
      exact ⟨a, b, m, none, 0, 0, fun _ => 0, rfl, by omega, by omega, hmb.2, by omega, ⟨fun k hk => absurd hk (by omega)⟩⟩
    · simp at hcs
      subst hcs
      have hlz : l ≤ zs.length := by rw [hz]; split <;> omega
      have hbl : l ≤ 1048576 := by
        have h1 : Rows.uptoBulk y3.1 = Rows.uptoBulkAll (H := H) (lits .i64 (zs.take l)) + Rows.uptoBulkAll (H := H) (lits .i64 (zs.drop l)) + 1 := by rw [hx]; simp [Rows.uptoBulk]
        have h2 := bulk_lits (H := H) .i64 (zs.take l)
        rw [List.length_take] at h2
        omega
      refine ⟨a, b, m, some z, l, c, fun k => zs.getD k 0, rfl, by omega, by omega, hmb.2, hbl, ⟨fun k hk => ?_⟩⟩
      have hsp : z.spot = none := by
        have h0 := hcell 0 (by omega)
        have e : z.add 0 = z := by simp [Addr.add]
        rw [e] at h0
        exact spotN h0
      have hk2 := hcell k (by omega)
      have hb2 := World.block_lt_of_cell? _ _ hk2
      obtain ⟨g, o, s⟩ := z
      simp only at hsp
      subst hsp
      rw [Addr.add_lit] at hk2 hb2
      have hw := bounds_i64 (hwz (zs.getD k 0) (by rw [List.getD_eq_getElem?_getD, List.getElem?_eq_getElem (show k < zs.length by omega)]; exact List.getElem_mem _))
      exact ⟨g, o, rfl, hb2, hk2, hw.1, hw.2⟩
theorem open_whole {H : Type} {enc : TypeId × Value → H} {w : World} {sp : Nat → Bool} {held : Bool} (fuel : Nat) (cs : Array Value) (x : DataW H × List MemPlace) (h : DataW.trod enc Try.prog w 0 sp held fuel 59 cs.toList = some x) (hb : Rows.uptoBulk x.1 ≤ 1048576) :
    ∃ _ : Unit, ∃ (a b : ByteArray) (m : Int) (z : Option Addr) (n c : Nat) (f : Nat → Int), cs.toList = [.string a, .string b, .int .i64 m, .slice z n c] ∧ a.size ≤ 1048576 ∧ b.size ≤ 1048576 ∧ m ≤ 9223372036854775807 ∧ n ≤ 1048576 ∧ CRow w z n f := ⟨(), open_wholeL fuel cs.toList x h hb⟩
theorem chunks_walkF (cs : Array Value) (_ : Unit) (w : World) (h : ∃ (a b : ByteArray) (m : Int) (z : Option Addr) (n c : Nat) (f : Nat → Int), cs.toList = [.string a, .string b, .int .i64 m, .slice z n c] ∧ a.size ≤ 1048576 ∧ b.size ≤ 1048576 ∧ m ≤ 9223372036854775807 ∧ n ≤ 1048576 ∧ CRow w z n f) :
    Calls Try.prog 6 #[.agg cs] w fun e w' => e = .returned (.bool true) ∧ Below w.heap.size w w' := by
  obtain ⟨a, b, m, z, n, c, f, hcs, h1, h2, h3, h4, h5⟩ := h
  obtain rfl : cs = #[.string a, .string b, .int .i64 m, .slice z n c] := by rw [← Array.toArray_toList (xs := cs), hcs]
  have h := chunks_walk a.data.toList b.data.toList m z n c f w h5 (by rw [← ba_size, ba_list]; exact h1) (by rw [← ba_size, ba_list]; exact h2) h3 h4
  rw [ba_list, ba_list] at h
  exact h
end Go.Proofs.Ytjlbbnjcdickgaa
