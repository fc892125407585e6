/- The packer's four. -/
import Derived.Test.YthjpmiidbgaiaaaPkM
namespace Go.Proofs.Ythjpmiidbgaiaaa
open Go.RowKit Go.Maps Go.WideMaps

theorem bt_get (s : List UInt8) (i : Nat) (h : i < s.length) : bt (ba s) i = ((s.getD i 0).toNat : Int) := by
  rw [bt_ba _ _ h, List.getD_eq_getElem?_getD, List.getElem?_eq_getElem h]
  rfl

/-- Four bytes and a word whether there are any, handed back. -/
theorem ret_four {f : Func} {tmps : Array Value} {W : World} {G : Nat} {i j : Nat} {a b c d : Value} {x : Bool} {R : Ending → World → Prop} (hf : f.results = #[.cell i 84, .tmp j]) (hj : tmps[j]?.getD undef = .bool x) (ht : tmps[i]?.getD undef = .pointer (some ⟨G, 0, none⟩))
    (q : St W G [a, b, c, d]) (hR : R (.returned (.tuple #[.agg #[a, b, c, d], .bool x])) W) :
    bodyPost Try.prog f R .ret { tmps := tmps, defers := [] } W := by
  have q0 := q.get 0 _ rfl
  have q1 := q.get 1 _ rfl
  have q2 := q.get 2 _ rfl
  have q3 := q.get 3 _ rfl
  exact bodyPost_ret (v := .tuple #[.agg #[a, b, c, d], .bool x]) (by simp [results, hf, go_sem, hj, ht, q0, q1, q2, q3]) rfl hR

set_option maxHeartbeats 1000000 in
set_option maxRecDepth 10000 in
theorem four_none (g : Nat) (s : List UInt8) (i : Nat) (w : World) (c2 : w.cell? ⟨g, 2, none⟩ = some (.string (ba s))) (hg : g < w.heap.size) (_ : s.length ≤ 1048576) (hi : i ≤ s.length) (h4 : ¬ i + 4 ≤ s.length) :
    Calls Try.prog 37 #[.pointer (some ⟨g, 0, none⟩), .int .i64 (i : Int)] w fun e w' => e = .returned (.tuple #[.agg #[.int .u8 0, .int .u8 0, .int .u8 0, .int .u8 0], .bool false]) ∧ Below w.heap.size w w' := by
  have hsz := ba_size s
  have hn : w.heap.size ≠ g := by omega
  have h4' : (s.length : Int) - (i : Int) < 4 := by omega
  go_enter Try.func37, Try.ntmps37
  go_wp2
  exact ret_four rfl rfl rfl (St.new w _ _) ⟨rfl, (Below.refl _ _).alloc (Nat.le_refl _) _⟩

set_option maxHeartbeats 4000000 in
set_option maxRecDepth 10000 in
theorem four_some (g : Nat) (s : List UInt8) (i : Nat) (w : World) (c2 : w.cell? ⟨g, 2, none⟩ = some (.string (ba s))) (hg : g < w.heap.size) (hs : s.length ≤ 1048576) (h4 : i + 4 ≤ s.length) :
    Calls Try.prog 37 #[.pointer (some ⟨g, 0, none⟩), .int .i64 (i : Int)] w fun e w' => e = .returned (.tuple #[kv (s.getD i 0) (s.getD (i + 1) 0) (s.getD (i + 2) 0) (s.getD (i + 3) 0), .bool true]) ∧ Below w.heap.size w w' := by
  have hsz := ba_size s
  have hn : w.heap.size ≠ g := by omega
  have h4' : ¬ (s.length : Int) - (i : Int) < 4 := by omega
  have b0 := bt_get s i (by omega)
  have b1 := bt_get s (i + 1) (by omega)
  have b2 := bt_get s (i + 2) (by omega)
  have b3 := bt_get s (i + 3) (by omega)
  have hgt : ∀ (n : Nat) (h : n < (ba s).size), (((ba s)[n]'h).toNat : Int) = bt (ba s) n := get_bt (ba s)
  generalize s.getD i 0 = k0 at *
  generalize s.getD (i + 1) 0 = k1 at *
  generalize s.getD (i + 2) 0 = k2 at *
  generalize s.getD (i + 3) 0 = k3 at *
  go_enter Try.func37, Try.ntmps37
  go_wp2_with fail
  go_region
  all_goals (
    try rw [b2]
    try rw [b3]
    go_wp2
    exact ret_four rfl rfl rfl ((St.new w #[.int .u8 (k0.toNat : Int), .int .u8 (k1.toNat : Int), .int .u8 (k2.toNat : Int), .int .u8 (k3.toNat : Int)] 84).drewN 1) ⟨rfl, ((Below.refl _ _).alloc (Nat.le_refl _) _).drew⟩)

end Go.Proofs.Ythjpmiidbgaiaaa
