/- The document's Read. -/
import Derived.Test.YthjpmiidbgaiaaaPkR
import Derived.Test.YthjpmiidbgaiaaaRdN
namespace Go.Proofs.Ythjpmiidbgaiaaa
open Go.RowKit

/-- What the document's Read leaves. -/
def GotP (S : US) (e : Ending) : Prop := ∃ T Wh, e = .returned (.agg #[.string (ba T), .bool Wh, .int .i64 (S.code : Int), .int .i64 (S.fat : Int), .int .i64 (S.tk : Int)]) ∧ (S.code = 0 → Wh = S.wh ∧ (S.wh = true → T = S.tx))

theorem ret_got {tmps : Array Value} {W : World} {G : Nat} {a b c d e : Value} {R : Ending → World → Prop} (ht : tmps[2]?.getD undef = .pointer (some ⟨G, 0, none⟩))
    (q : St W G [a, b, c, d, e]) (hR : R (.returned (.agg #[a, b, c, d, e])) W) :
    bodyPost Try.prog Try.f15 R .ret { tmps := tmps, defers := [] } W := by
  have q0 := q.get 0 _ rfl
  have q1 := q.get 1 _ rfl
  have q2 := q.get 2 _ rfl
  have q3 := q.get 3 _ rfl
  have q4 := q.get 4 _ rfl
  exact bodyPost_ret (v := .agg #[a, b, c, d, e]) (by simp [results, Try.results15, go_sem, ht, q0, q1, q2, q3, q4]) rfl hR

/-- The bytes of an owned row, as a string. -/
theorem row_text {w : World} {B : Nat} {v : Value} {out : List UInt8} (h : w.ownsRow B 5 1 v out.length (Lib.byteCells out)) : (convert 45 9 v).run Try.prog w = .ok (.string (ba out)) w := by
  rcases h.2 with ⟨rfl, h0⟩ | ⟨k, cap, cur, rfl, hb, hg, hn, hm, hz, ht⟩
  · have e : out = [] := List.eq_nil_of_length_eq_zero h0
    rw [e]
    exact run_convert_bytes_nil w 45 5 Try.underlying45 Try.underlying5 0 0 9 Try.underlying9
  · have r := run_string_row (P := Try.prog) (w := w) (src := 45) (dst := 9) (c := cap) Try.underlying45 Try.underlying5 Try.underlying9 (f := bt (ba out)) (g := k) (n := out.length) ⟨fun j hj => by
      have := h.cells (g := k) rfl j (.int .u8 ((out[j]'hj).toNat : Int)) (by simp [Lib.byteCells, hj])
      rw [bt_ba _ _ hj]
      have e : (⟨k, 0, none⟩ : Addr).add j = ⟨k, j, none⟩ := by simp [Addr.add]; exact fun h => h.symm
      rw [e] at this
      exact this, fun j hj => Lib.frozen_of_heap hg j⟩
    rw [r, ← ba_size, strFn_bt]

set_option maxHeartbeats 1000000 in
set_option maxRecDepth 10000 in
theorem rread_short (tl : List UInt8) (w : World) (h : tl.length < 8) :
    Calls Try.prog 15 #[.string (ba tl)] w fun e w' => GotP (u0.run tl) e ∧ Below w.heap.size w w' := by
  have hsz := ba_size tl
  have HS : Hid (u0.run tl = ⟨tl.length, 0, 0, false, 0, leN tl, [], 0, 0⟩) := head_short tl (by omega)
  go_enter Try.func15, Try.ntmps15
  go_wp2
  exact ret_got rfl (St.new w _ _) ⟨⟨[], false, by rw [HS.out]; rfl, fun _ => by rw [HS.out]; exact ⟨rfl, fun h => by cases h⟩⟩, (Below.refl _ _).alloc (Nat.le_refl _) _⟩

set_option maxHeartbeats 1000000 in
set_option maxRecDepth 10000 in
theorem rread_big (tl : List UInt8) (w : World) (h : 8 ≤ tl.length) (ht : tl.length ≤ 1073741824) (hb : 1048576 < leN (tl.take 8)) :
    Calls Try.prog 15 #[.string (ba tl)] w fun e w' => GotP (u0.run tl) e ∧ Below w.heap.size w w' := by
  have hsz := ba_size tl
  have NC := fun w => num_any tl 0 w ht (by omega)
  rw [List.drop_zero, le_leN] at NC
  have HS : Hid (u0.run tl = ⟨7, 2, 0, false, 0, leN (tl.take 8), [], 0, 0⟩) := by
    unfold Hid
    have e := head_eight (tl.take 8) (by rw [List.length_take]; omega)
    rw [if_pos hb] at e
    rw [← List.take_append_drop 8 tl, US.run_append, e]
    rw [US.run_off _ rfl]
    rw [List.take_append_drop]
  have h8 : ¬ (tl.length : Int) < 8 := by omega
  generalize leN (tl.take 8) = n at NC HS hb
  have hb' : (1048576 : Int) < (n : Int) := by omega
  go_enter Try.func15, Try.ntmps15
  go_wp2_with fail
  refine (NC _).mono ?_
  rintro e w1 ⟨rfl, rfl⟩
  clear NC
  go_wp2
  exact ret_got rfl (St.new w _ _) ⟨⟨[], false, by rw [HS.out]; rfl, fun h => by rw [HS.out] at h; cases h⟩, (Below.refl _ _).alloc (Nat.le_refl _) _⟩

end Go.Proofs.Ythjpmiidbgaiaaa
