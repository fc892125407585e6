/- TablePlays: what Put, Cut and Find answer, pure (own text of the verifier). -/
import Derived.Test.YtbdnniaajiiimaaPpC
namespace Go.Proofs.Ytbdnniaajiiimaa
namespace BT
variable {lt : ByteArray → ByteArray → Bool}
theorem look_cons {k a : ByteArray} {b : Int} {r : List (ByteArray × Int)} : look k ((a, b) :: r) = if a = k then some b else look k r := rfl
theorem ins_len (O : Ord lt) (k : ByteArray) (v : Int) : ∀ L : List (ByteArray × Int), Srt lt L → (insL lt k v L).length = if (look k L).isSome = true then L.length else L.length + 1
  | [], _ => rfl
  | (a, b) :: r, h => by
    obtain ⟨hr, ha⟩ := srt_cons h
    unfold insL
    by_cases h1 : lt k a = true
    · have hn : look k ((a, b) :: r) = none := look_none _ fun y hy => by
        rcases List.mem_cons.1 hy with rfl | hy
        · exact fun e => (ne_of_lt O h1) e.symm
        · exact fun e => (ne_of_lt O (O.tra _ _ _ h1 (ha y hy))) e.symm
      rw [if_pos h1, hn]
      simp
    · rw [if_neg h1]
      by_cases h2 : lt a k = true
      · rw [if_pos h2, List.length_cons, ins_len O k v r hr, look_cons, if_neg (ne_of_lt O h2), List.length_cons]
        split <;> rfl
      · have e : a = k := O.tri a k (by simpa using h2) (by simpa using h1)
        rw [if_neg h2, look_cons, if_pos e]
        simp
theorem del_len (O : Ord lt) (k : ByteArray) : ∀ L : List (ByteArray × Int), Srt lt L → L.length = if (look k L).isSome = true then (delL lt k L).length + 1 else (delL lt k L).length
  | [], _ => rfl
  | (a, b) :: r, h => by
    obtain ⟨hr, ha⟩ := srt_cons h
    unfold delL
    by_cases h1 : lt k a = true
    · have hn : look k ((a, b) :: r) = none := look_none _ fun y hy => by
        rcases List.mem_cons.1 hy with rfl | hy
        · exact fun e => (ne_of_lt O h1) e.symm
        · exact fun e => (ne_of_lt O (O.tra _ _ _ h1 (ha y hy))) e.symm
      rw [if_pos h1, hn]
      simp
    · rw [if_neg h1]
      by_cases h2 : lt a k = true
      · rw [if_pos h2, List.length_cons, List.length_cons, look_cons, if_neg (ne_of_lt O h2), del_len O k r hr]
        split <;> rfl
      · have e : a = k := O.tri a k (by simpa using h2) (by simpa using h1)
        rw [if_neg h2, look_cons, if_pos e]
        simp
end BT
namespace TS
open Go.RowKit
theorem gb_look {u : BT ByteArray} (k : ByteArray) (h : BT.Srt ltK u.toL) : gb (BT.fnd ltK k u) = (BT.look k u.toL).isSome := by
  have := BT.fnd_look ordS k u h
  rw [← this]
  cases BT.fnd ltK k u <;> rfl
theorem put_ans {L : PL} {u : BT ByteArray} {j : Nat} (h : LU L u j) (ho : u.Ok) (k : ByteArray) (v : Int) : decide ((u.cnt : Int) < ((BT.wth ltK k v u).cnt : Int)) = !gb (BT.fnd ltK k u) := by
  obtain ⟨o1, _, _⟩ := BT.wth_ok ltK k v u ho
  rw [gb_look k h.br.srt, BT.cnt_toL u ho, BT.cnt_toL _ o1, BT.wth_toL ltK ordS k v u h.br.srt, BT.ins_len ordS k v _ h.br.srt]
  cases BT.look k u.toL with
  | none => simp; omega
  | some x => simp
theorem cut_ans {L : PL} {u : BT ByteArray} {j : Nat} (h : LU L u j) (ho : u.Ok) (k : ByteArray) : decide (((BT.wtout ltK u k).cnt : Int) < (u.cnt : Int)) = gb (BT.fnd ltK k u) := by
  obtain ⟨o1, _⟩ := BT.wtout_ok ltK u ho k
  rw [gb_look k h.br.srt, BT.cnt_toL u ho, BT.cnt_toL _ o1, BT.wtout_toL ltK ordS u ho h.br.srt k]
  have := BT.del_len ordS k _ h.br.srt
  cases e : BT.look k u.toL with
  | none => rw [e] at this; simp at this ⊢; omega
  | some x => rw [e] at this; simp at this ⊢; omega
theorem fnd_ans {L : PL} {u : BT ByteArray} {j : Nat} (h : LU L u j) (k : ByteArray) : decide ((0 : Int) ≤ fndF (fL L) k L.length) = gb (BT.fnd ltK k u) := by
  rcases find_get h k with ⟨g1, i, _, g2, _⟩ | ⟨g1, _, g3⟩
  · rw [g1, g2]; simp
  · rw [g1, g3]; rfl
end TS
end Go.Proofs.Ytbdnniaajiiimaa
