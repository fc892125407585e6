/- name.Join, walked. -/
import Derived.Test.YtdmkkkfdigeinabDoorSpB
import Derived.Test.YtdmkkkfdigeinabDoorJnA
namespace Go.Proofs.YtdmkkkfdigeinabDoor
open Go.RowKit

/-- What is wrong with a list of names, and where. -/
def jscan : List ByteArray → Nat → Int × Int
  | [], _ => (0, 0)
  | x :: r, i => if 31 ≤ i then (61, (i : Int)) else if chk x = 0 then jscan r (i + 1) else (chk x, (i : Int))
theorem jscan_deep (x : ByteArray) (r : List ByteArray) (i : Nat) (h : 31 ≤ i) : jscan (x :: r) i = (61, (i : Int)) := by rw [jscan, if_pos h]
theorem jscan_bad (x : ByteArray) (r : List ByteArray) (i : Nat) (h : i < 31) (hc : chk x ≠ 0) : jscan (x :: r) i = (chk x, (i : Int)) := by rw [jscan, if_neg (by omega), if_neg hc]
theorem jscan_good (x : ByteArray) (r : List ByteArray) (i : Nat) (h : i < 31) (hc : chk x = 0) : jscan (x :: r) i = jscan r (i + 1) := by rw [jscan, if_neg (by omega), if_pos hc]
def jF (L : List ByteArray) : Int × Int := jscan L 0
def jS (L : List ByteArray) : ByteArray := if (jF L).1 = 0 then joinB L else ⟨#[]⟩
theorem chk_short (x : ByteArray) (h : chk x = 0) : x.size ≤ 255 := by
  unfold chk at h
  split at h
  · cases h
  · split at h
    · cases h
    · omega

/-- A slice of these texts, wherever it lies. -/
def SLx (w : World) (x : Option Addr) (n c : Nat) (L : List ByteArray) : Prop := L.length = n ∧ n ≤ c ∧ (n = 0 ∨ ∃ g o, x = some ⟨g, o, none⟩ ∧ g < w.heap.size ∧ ∀ j, j < n → w.cell? ⟨g, o + j, none⟩ = some (.string (nth L j)))
theorem SLx.below {w w' : World} {x : Option Addr} {n c : Nat} {L : List ByteArray} (h : SLx w x n c L) (b : Below w.heap.size w w') : SLx w' x n c L := by
  refine ⟨h.1, h.2.1, ?_⟩
  rcases h.2.2 with e | ⟨g, o, h1, h2, h3⟩
  · exact Or.inl e
  · exact Or.inr ⟨g, o, h1, Nat.lt_of_lt_of_le h2 b.size, fun j hj => by rw [b.cell (p := ⟨g, o + j, none⟩) h2]; exact h3 j hj⟩
theorem join_len (xs : List (List UInt8)) (B : Nat) (h : ∀ x ∈ xs, x.length ≤ B) : (Lib.join xs [47]).length ≤ xs.length * (B + 1) := by
  cases xs with
  | nil => simp [Lib.join_nil]
  | cons x r =>
    rw [Lib.join_cons, List.length_append]
    have h2 : (Lib.joinTail [47] r).length ≤ r.length * (B + 1) := by
      have hr : ∀ y ∈ r, y.length ≤ B := fun y hy => h y (by simp [hy])
      clear h
      induction r with
      | nil => simp [Lib.joinTail]
      | cons y r ih =>
        have e : Lib.joinTail [47] (y :: r) = [47] ++ y ++ Lib.joinTail [47] r := by simp [Lib.joinTail]
        rw [e, List.length_append, List.length_append]
        have := ih (fun z hz => hr z (by simp [hz]))
        have := hr y (by simp)
        simp only [List.length_cons, List.length_nil]
        rw [Nat.add_mul]
        omega
    have h1 := h x (by simp)
    rw [List.length_cons, Nat.add_mul]
    omega

set_option maxHeartbeats 1000000 in
theorem join_any (x : Option Addr) (n c : Nat) (L : List ByteArray) (w : World) (hn : n ≤ 140737488351232) (h : SLx w x n c L) :
    Calls Tryd.prog 12 #[.slice x n c] w fun e w' => e = .returned (.tuple #[.string (jS L), .agg #[.int .i64 (jF L).1, .int .i64 (jF L).2]]) ∧ Below w.heap.size w w' := by
  obtain ⟨hL, hcap, hcells⟩ := h
  have c0 : (w.alloc (Obj.cells #[Value.int IntKind.i64 0, Value.int IntKind.i64 0] 26)).cell? ⟨w.heap.size, 0, none⟩ = some (.int .i64 0) := by rw [World.cell?_alloc_new]; rfl
  have c1 : (w.alloc (Obj.cells #[Value.int IntKind.i64 0, Value.int IntKind.i64 0] 26)).cell? ⟨w.heap.size, 1, none⟩ = some (.int .i64 0) := by rw [World.cell?_alloc_new]; rfl
  have f0 : (w.alloc (Obj.cells #[Value.int IntKind.i64 0, Value.int IntKind.i64 0] 26)).frozen? ⟨w.heap.size, 0, none⟩ = false := World.frozen?_alloc_new w _ _ _
  have f1 : (w.alloc (Obj.cells #[Value.int IntKind.i64 0, Value.int IntKind.i64 0] 26)).frozen? ⟨w.heap.size, 1, none⟩ = false := World.frozen?_alloc_new w _ _ _
  have B1 : Below w.heap.size w (w.alloc (Obj.cells #[Value.int IntKind.i64 0, Value.int IntKind.i64 0] 26)) := (Below.refl _ _).alloc (Nat.le_refl _) _
  have HC : Hid (n = 0 ∨ ∃ g o, x = some ⟨g, o, none⟩ ∧ g < w.heap.size ∧ ∀ j, j < n → (w.alloc (Obj.cells #[Value.int IntKind.i64 0, Value.int IntKind.i64 0] 26)).cell? ⟨g, o + j, none⟩ = some (.string (nth L j))) := by
    rcases hcells with e | ⟨g, o, h1, h2, h3⟩
    · exact Or.inl e
    · exact Or.inr ⟨g, o, h1, h2, fun j hj => by rw [B1.cell (p := ⟨g, o + j, none⟩) h2]; exact h3 j hj⟩
  have hz1 : w.heap.size < (w.alloc (Obj.cells #[Value.int IntKind.i64 0, Value.int IntKind.i64 0] 26)).heap.size := by rw [World.size_alloc]; omega
  have HL : Hid (L.length = n) := hL
  clear hcells hL
  go_enter Tryd.func12, Tryd.ntmps12
  go_wp2_with fail
  generalize w.alloc (Obj.cells #[Value.int IntKind.i64 0, Value.int IntKind.i64 0] 26) = w1 at *
  go_wp2
  go_loop [9] (fun xi => ∃ k : Nat, k ≤ n ∧ xi = .int .i64 k ∧ Hid (jF L = jscan (L.drop k) k) ∧ Hid (k ≤ 31 ∧ ∀ j, j < k → chk (nth L j) = 0)) (fun i => n - (intOf i).toNat)
  case atStart => exact ⟨0, Nat.zero_le _, rfl, rfl, by decide, fun j hj => absurd hj (by omega)⟩
  case round =>
    obtain ⟨k, hk, rfl, hsc, hgd⟩ := hrel
    by_cases hlt : k < n
    · obtain ⟨g, o, rfl, hg, hcl⟩ := HC.out.resolve_left (by omega)
      have d0 := hcl k hlt
      have hlt' : k < L.length := by rw [HL.out]; exact hlt
      have hdr : L.drop k = nth L k :: L.drop (k + 1) := by
        rw [List.drop_eq_getElem_cons hlt']; congr 1; simp [nth, hlt']
      have hsc2 := hsc.out
      rw [hdr] at hsc2
      have cv := chk_vals (nth L k)
      clear hlt' hcl hdr
      by_cases h31 : 31 ≤ k
      · have PL := fun w => place_any k (nth L k) w
        rw [if_pos h31] at PL
        rw [jscan_deep _ _ _ h31] at hsc2
        have HR : Hid (jF L = (61, (k : Int))) := hsc2
        have HE : Hid (jS L = ⟨#[]⟩) := by unfold Hid jS; rw [HR.out, if_neg (show ¬ (61 : Int) = 0 by decide)]
        clear hsc2 hsc cv
        go_wp2_with (first | (go_at_call 15; refine (PL _).mono ?_; rintro e w' ⟨rfl, rfl⟩))
        obtain ⟨e0, e1, BB⟩ := two_end B1 c0 c1 (.int .i64 61) (.int .i64 k) _ rfl
        generalize (World.setCell _ _ _).setCell _ _ = W at e0 e1 BB ⊢
        exact bodyPost_ret (v := .tuple #[.string ⟨#[]⟩, .agg #[.int .i64 61, .int .i64 k]]) (by simp [results, Tryd.results12, go_sem, e0, e1]) rfl ⟨by rw [HR.out, HE.out], BB⟩
      · have PL := fun w => place_any k (nth L k) w
        rw [if_neg h31] at PL
        by_cases hc0 : chk (nth L k) = 0
        · rw [hc0] at PL
          rw [jscan_good _ _ _ (by omega) hc0] at hsc2
          have HS2 : Hid (jF L = jscan (L.drop (k + 1)) (k + 1)) := hsc2
          have HG2 : Hid (k + 1 ≤ 31 ∧ ∀ j, j < k + 1 → chk (nth L j) = 0) := ⟨by omega, fun j hj => by
            by_cases e : j = k
            · rw [e]; exact hc0
            · exact hgd.out.2 j (by omega)⟩
          clear hsc2 hsc hc0 cv hgd
          go_wp2_with (first | (go_at_call 15; refine (PL _).mono ?_; rintro e w' ⟨rfl, rfl⟩))
          go_round
          case rel => exact ⟨k + 1, by omega, by go_num, HS2, HG2⟩
          case measure => simp [intOf]; omega
        · rw [jscan_bad _ _ _ (by omega) hc0] at hsc2
          have HR : Hid (jF L = (chk (nth L k), (k : Int))) := hsc2
          have HE : Hid (jS L = ⟨#[]⟩) := by unfold Hid jS; rw [HR.out, if_neg hc0]
          have hb : (chk (nth L k) != 0) = true := by rw [bne_iff_ne]; exact hc0
          clear hsc2 hsc hc0
          generalize chk (nth L k) = C at *
          go_wp2_with (first | (go_at_call 15; refine (PL _).mono ?_; rintro e w' ⟨rfl, rfl⟩))
          obtain ⟨e0, e1, BB⟩ := two_end B1 c0 c1 (.int .i64 C) (.int .i64 k) _ rfl
          generalize (World.setCell _ _ _).setCell _ _ = W at e0 e1 BB ⊢
          exact bodyPost_ret (v := .tuple #[.string ⟨#[]⟩, .agg #[.int .i64 C, .int .i64 k]]) (by simp [results, Tryd.results12, go_sem, e0, e1]) rfl ⟨by rw [HR.out, HE.out], BB⟩
    · obtain rfl : k = n := by omega
      have hsc2 := hsc.out
      rw [← HL.out, List.drop_length] at hsc2
      have HR : Hid (jF L = (0, 0)) := hsc2
      have HE : Hid (jS L = joinB L) := by unfold Hid jS; rw [HR.out, if_pos rfl]
      have HZ : Hid ((joinB L).size ≤ 140737488355328) := by
        unfold Hid joinB
        rw [Lib.size_mk]
        have := join_len (L.map (·.data.toList)) 255 (fun y hy => by
          obtain ⟨z, hz, rfl⟩ := List.mem_map.1 hy
          obtain ⟨i, hi, rfl⟩ := List.mem_iff_getElem.1 hz
          rw [← Lib.size_eq]
          have := chk_short (nth L i) (hgd.out.2 i (by rw [← HL.out]; exact hi))
          simpa [nth, hi] using this)
        rw [List.length_map, HL.out] at this
        have h31 := hgd.out.1
        have : k * (255 + 1) ≤ 31 * 256 := Nat.mul_le_mul_right 256 h31
        omega
      have SJ : Hid (∀ w', w' = w1 → Calls Tryd.prog 19 #[.slice x k c, .string ⟨#[47]⟩] w' fun e w2 => e = .returned (.string (joinB L)) ∧ Below w'.heap.size w' w2) := by
        intro w' hw
        subst hw
        rcases HC.out with e | ⟨g, o, rfl, hg, hcl⟩
        · subst e
          have : L = [] := List.eq_nil_of_length_eq_zero HL.out
          rw [this, show joinB [] = ⟨#[]⟩ from rfl]
          exact (sjoin_none x c w').mono fun _ _ ⟨h1, h2⟩ => ⟨h1, h2 ▸ Below.refl _ _⟩
        · have := sjoin_any g o c L w' (fun j y hy => by
            have hj : j < L.length := (List.getElem?_eq_some_iff.1 hy).1
            rw [hcl j (by rw [← HL.out]; exact hj)]
            rw [List.getElem?_eq_getElem hj] at hy
            simp [nth, hj, Option.some.inj hy]) (by omega) (by rw [HL.out]; omega) (by rw [HL.out]; exact hcap) HZ.out
          rw [HL.out] at this
          exact this
      clear hsc2 hsc HZ hgd
      go_wp2_with fail
      refine (SJ.out _ rfl).mono ?_
      rintro e w2 ⟨rfl, b2⟩
      have d0 : w2.cell? ⟨w.heap.size, 0, none⟩ = some (.int .i64 0) := by rw [b2.cell (p := ⟨w.heap.size, 0, none⟩) hz1]; exact c0
      have d1 : w2.cell? ⟨w.heap.size, 1, none⟩ = some (.int .i64 0) := by rw [b2.cell (p := ⟨w.heap.size, 1, none⟩) hz1]; exact c1
      have g0 : w2.frozen? ⟨w.heap.size, 0, none⟩ = false := by rw [b2.frozen (p := ⟨w.heap.size, 0, none⟩) hz1]; exact f0
      have g1 : w2.frozen? ⟨w.heap.size, 1, none⟩ = false := by rw [b2.frozen (p := ⟨w.heap.size, 1, none⟩) hz1]; exact f1
      have B2 : Below w.heap.size w w2 := B1.trans (b2.mono (by omega))
      clear c0 c1 f0 f1 B1 b2 SJ
      go_wp2
      obtain ⟨e0, e1, BB⟩ := two_end B2 d0 d1 (.int .i64 0) (.int .i64 0) _ rfl
      generalize (World.setCell _ _ _).setCell _ _ = W at e0 e1 BB ⊢
      exact bodyPost_ret (v := .tuple #[.string (joinB L), .agg #[.int .i64 0, .int .i64 0]]) (by simp [results, Tryd.results12, go_sem, e0, e1]) rfl ⟨by rw [HR.out, HE.out], BB⟩

end Go.Proofs.YtdmkkkfdigeinabDoor
