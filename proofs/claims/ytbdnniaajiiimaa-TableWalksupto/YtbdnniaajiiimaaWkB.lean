/- A table's walk from a key on, walked (own text of the verifier). -/
import Derived.Test.YtbdnniaajiiimaaWkA
namespace Go.Proofs.Ytbdnniaajiiimaa
namespace TS
open Go.RowKit Go.Shelf
attribute [local go_sem] Oper.semAt_some

/-- The pairs whose keys don't stand ahead of k, as the walk finds them. -/
def frT (k : ByteArray) : BT ByteArray → List (ByteArray × Int)
  | .E => []
  | .N x v _ l r => if ltK x k = true then frT k r else frT k l ++ (x, v) :: r.toL
theorem frT_lt {k x : ByteArray} {v : Int} {s : Nat} {l r : BT ByteArray} (h : ltK x k = true) : frT k (.N x v s l r) = frT k r := if_pos h
theorem frT_ge {k x : ByteArray} {v : Int} {s : Nat} {l r : BT ByteArray} (h : ltK x k = false) : frT k (.N x v s l r) = frT k l ++ (x, v) :: r.toL := if_neg (by rw [h]; decide)

set_option maxRecDepth 100000 in
set_option maxHeartbeats 4000000 in
theorem walkFrom_in (F : Fence) (hd : F.depth = none) (h6 : F.fn 32) (h7 : F.fn 27) (hro : F.round = none) (l n₀ X M : Nat) (J Jx : List (ByteArray × Int) → World → Prop) (hJd : ∀ pre W, J pre W → J pre W.drew)
    (hY : ∀ m pre x W, J pre W → pre.length < M → YieldAt F m Try.prog l #[Value.string x.1, .int .i64 x.2] W fun e W' =>
      (e = .returned (.bool true) ∧ J (pre ++ [x]) W' ∧ BX n₀ X W W') ∨ (e = .returned (.bool false) ∧ Jx (pre ++ [x]) W')) (ky : ByteArray) (T : BT ByteArray) :
    ∀ (n : Nat) (p : Option Addr) (pre : List (ByteArray × Int)) (W : World), TrX n₀ X W T p → J pre W → pre.length + (frT ky T).length ≤ M →
      CallsIn F n Try.prog 27 #[.pointer p, .string ky, .func (.yield l) #[] #[]] W fun e W' =>
        (e = .returned (.bool true) ∧ J (pre ++ frT ky T) W' ∧ BX n₀ X W W') ∨ (e = .returned (.bool false) ∧ ∃ q, q <+: frT ky T ∧ Jx (pre ++ q) W') := by
  induction T with
  | E =>
    intro n p pre W ht hJ _
    obtain rfl : p = none := ht
    refine callsIn_of_wp Try.func27 rfl h7 ?_ hro
    simp only [Try.ntmps27, List.size_toArray, List.length_cons, List.length_nil, Nat.reduceAdd, Nat.reduceSub, Array.replicate_succ, Array.replicate_zero, List.push_toArray, List.append_toArray, List.nil_append, List.cons_append]
    gi_wp2
    go_ret
    exact .inl ⟨rfl, by simpa [frT] using hJ, BX.refl _ _ _⟩
  | N k v s tl tr ihl ihr =>
    intro n p pre W ht hJ hN
    obtain ⟨b, pl, pr, rfl, hb, c0, c1, c3, c4, hl, hr⟩ := ht
    have hdd : ∀ k : Nat, (F.depth.isSome = true → 1 ≤ k) := fun k h => by rw [hd] at h; cases h
    cases hlt : ltK k ky with
    | true =>
      have hs : Op.bytesLess k.toList ky.toList = true := hlt
      rw [frT_lt hlt] at hN ⊢
      have ih1 := ihr (n - 1) pr pre W hr hJ hN
      clear ihl ihr hY hlt
      refine callsIn_of_wp Try.func27 rfl h7 ?_ hro
      simp only [Try.ntmps27, List.size_toArray, List.length_cons, List.length_nil, Nat.reduceAdd, Nat.reduceSub, Array.replicate_succ, Array.replicate_zero, List.push_toArray, List.append_toArray, List.nil_append, List.cons_append]
      gi_wp2_with ((try refine ⟨hdd _, ?_⟩); gi_at_call 27; refine ih1.mono ?_; clear ih1; rintro e W1 (⟨rfl, hJ1, hb1⟩ | ⟨rfl, hx1⟩))
      · go_ret
        exact .inl ⟨rfl, hJ1, hb1⟩
      · go_ret
        exact .inr ⟨rfl, hx1⟩
    | false =>
      have hs : Op.bytesLess k.toList ky.toList = false := hlt
      rw [frT_ge hlt] at hN ⊢
      simp only [List.length_append, List.length_cons] at hN
      refine callsIn_of_wp Try.func27 rfl h7 ?_ hro
      simp only [Try.ntmps27, List.size_toArray, List.length_cons, List.length_nil, Nat.reduceAdd, Nat.reduceSub, Array.replicate_succ, Array.replicate_zero, List.push_toArray, List.append_toArray, List.nil_append, List.cons_append]
      gi_wp2
      -- @R
      have bdw : BX n₀ X W W.drew := (BX.refl _ _ _).drew
      have hy2 : ∀ W1, J (pre ++ frT ky tl) W1 → BX n₀ X W W1 → YieldAt F (n - 1) Try.prog l #[Value.string k, .int .i64 v] W1 fun e W2 => (e = .returned (.bool true) ∧ J (pre ++ frT ky tl ++ [(k, v)]) W2 ∧ BX n₀ X W W2 ∧ W2.cell? ⟨b, 4, none⟩ = some (.pointer pr) ∧ TrX n₀ X W2 tr pr) ∨ (e = .returned (.bool false) ∧ Jx (pre ++ frT ky tl ++ [(k, v)]) W2) := fun W1 hJ1 hb1 =>
        YieldAt.mono (hY (n - 1) _ (k, v) W1 hJ1 (by simp; omega)) fun e W2 h => h.elim
          (fun ⟨he, hj, hb2⟩ => .inl ⟨he, hj, hb1.trans hb2, ((hb1.trans hb2).cell (p := ⟨b, 4, none⟩) hb).trans c4, hr.below (hb1.trans hb2)⟩) .inr
      have ih1 := (ihl (n - 1) pl pre W.drew (hl.below bdw) (hJd _ _ hJ) (by omega)).mono (R' := fun e W1 => (e = .returned (.bool true) ∧ W1.cell? ⟨b, 0, none⟩ = some (Value.string k) ∧ W1.cell? ⟨b, 1, none⟩ = some (.int .i64 v) ∧ YieldAt F (n - 1) Try.prog l #[Value.string k, .int .i64 v] W1 fun e W2 => (e = .returned (.bool true) ∧ J (pre ++ frT ky tl ++ [(k, v)]) W2 ∧ BX n₀ X W W2 ∧ W2.cell? ⟨b, 4, none⟩ = some (.pointer pr) ∧ TrX n₀ X W2 tr pr) ∨ (e = .returned (.bool false) ∧ Jx (pre ++ frT ky tl ++ [(k, v)]) W2)) ∨ (e = .returned (.bool false) ∧ ∃ q, q <+: frT ky tl ∧ Jx (pre ++ q) W1))
        (fun e W1 h => h.elim (fun ⟨he, hj, hb1⟩ => .inl ⟨he, ((bdw.trans hb1).cell (p := ⟨b, 0, none⟩) hb).trans c0, ((bdw.trans hb1).cell (p := ⟨b, 1, none⟩) hb).trans c1, hy2 W1 hj (bdw.trans hb1)⟩) .inr)
      clear hy2 ihl ihr
      have d3 : W.drew.cell? ⟨b, 3, none⟩ = some (.pointer pl) := c3
      refine wpIn_region_any (by kernel_rfl) ?_
      show wpAnyIn _ _ _ _ _ _ _ _ _ W.drew
      refine wpAnyIn_take (i := 0) (oi := { dst := some 22, op := Op.move (Operand.tmp 0), type := 48, pos := "node.go:132", after := #[], guard := none }) (v := .pointer (some ⟨b, 0, none⟩)) hro rfl (by kernel_rfl) (by kernel_rfl) (by kernel_rfl) (fun _ _ _ h => h) ⟨Or.inl ⟨by rfl, by intro w; go_simp⟩, fun _ => rfl⟩ ?_
      simp only [Act.put, List.setIfInBounds_toArray, List.set_cons_zero, List.set_cons_succ]
      refine wpAnyIn_take (i := 1) (oi := { dst := some 23, op := Op.nilCheck (Operand.tmp 22), type := 0, pos := "node.go:132", after := #[{ on := 0, ground := Ground.data }], guard := none }) (v := .pointer (some ⟨b, 0, none⟩)) hro rfl (by kernel_rfl) (by kernel_rfl) (by kernel_rfl) (fun _ _ _ h => h) ⟨Or.inl ⟨by rfl, by intro w; go_simp⟩, fun _ => rfl⟩ ?_
      simp only [Act.put, List.setIfInBounds_toArray, List.set_cons_zero, List.set_cons_succ]
      refine wpAnyIn_take (i := 2) (oi := { dst := some 24, op := Op.fieldAddr 60 (Operand.tmp 23) 3, type := 0, pos := "node.go:132", after := #[{ on := 1, ground := Ground.data }], guard := none }) (v := .pointer (some ⟨b, 3, none⟩)) hro rfl (by kernel_rfl) (by kernel_rfl) (by kernel_rfl) (fun _ _ _ h => h) ⟨Or.inl ⟨by rfl, by intro w; go_simp⟩, fun _ => rfl⟩ ?_
      simp only [Act.put, List.setIfInBounds_toArray, List.set_cons_zero, List.set_cons_succ]
      refine wpAnyIn_take (i := 4) (oi := { dst := some 26, op := Op.move (Operand.tmp 1), type := 9, pos := "node.go:132", after := #[], guard := none }) (v := .string ky) hro rfl (by kernel_rfl) (by kernel_rfl) (by kernel_rfl) (fun _ _ _ h => h) ⟨Or.inl ⟨by rfl, by intro w; go_simp⟩, fun _ => rfl⟩ ?_
      simp only [Act.put, List.setIfInBounds_toArray, List.set_cons_zero, List.set_cons_succ]
      refine wpAnyIn_take (i := 5) (oi := { dst := some 27, op := Op.move (Operand.tmp 2), type := 28, pos := "node.go:132", after := #[], guard := none }) (v := .func (.yield l) #[] #[]) hro rfl (by kernel_rfl) (by kernel_rfl) (by kernel_rfl) (fun _ _ _ h => h) ⟨Or.inl ⟨by rfl, by intro w; go_simp⟩, fun _ => rfl⟩ ?_
      simp only [Act.put, List.setIfInBounds_toArray, List.set_cons_zero, List.set_cons_succ]
      refine wpAnyIn_ready (rs := [3]) (by kernel_rfl) (by decide) (AllReadyIn.cons (o := { dst := some 25, op := Op.load 48 (Operand.tmp 24), type := 48, pos := "node.go:132", after := #[{ on := 2, ground := Ground.data }], guard := none }) rfl (fun K hK => ?_) AllReadyIn.nil)
      rw [if_pos (by rfl)]
      go_simp
      refine hK _ _ ?_
      clear hK K
      try simp only [Act.put, List.setIfInBounds_toArray, List.set_cons_zero, List.set_cons_succ]
      refine wpAnyIn_ready (rs := [6]) (by kernel_rfl) (by decide) (AllReadyIn.cons (o := { dst := some 28, op := Op.call { callee := Callee.value (Operand.func 27), args := #[Operand.tmp 25, Operand.tmp 26, Operand.tmp 27], argTypes := #[48, 9, 28] }, type := 4, pos := "node.go:132", after := #[{ on := 3, ground := Ground.data }, { on := 4, ground := Ground.data }, { on := 5, ground := Ground.data }], guard := none }) rfl (fun K hK => ?_) AllReadyIn.nil)
      rw [if_pos (by rfl)]
      go_simp
      try refine ⟨hdd _, ?_⟩
      try gi_at_call 27
      refine ih1.mono ?_
      clear ih1
      rintro e W1 (⟨rfl, c0', c1', fn, tmps, assign, body, hy, hR⟩ | ⟨rfl, q, hq, hx1⟩)
      · first | (refine hK _ _ ?_; clear hK K) | gi_wp2
        try (refine hK _ _ ?_; clear hK K)
        try simp only [Act.put, List.setIfInBounds_toArray, List.set_cons_zero, List.set_cons_succ]
        refine wpAnyIn_take (i := 7) (oi := { dst := some 29, op := Op.move (Operand.tmp 28), type := 4, pos := "node.go:132", after := #[{ on := 6, ground := Ground.data }, { on := 6, ground := Ground.chain }], guard := none }) (v := .bool true) hro rfl (by kernel_rfl) (by kernel_rfl) (by kernel_rfl) (fun _ _ _ h => h) ⟨Or.inl ⟨by rfl, by intro w; go_simp⟩, fun _ => rfl⟩ ?_
        simp only [Act.put, List.setIfInBounds_toArray, List.set_cons_zero, List.set_cons_succ]
        refine wpAnyIn_take (i := 8) (oi := { dst := some 30, op := Op.move (Operand.tmp 2), type := 28, pos := "node.go:132", after := #[{ on := 7, ground := Ground.guard }], guard := some (7, true) }) (v := .func (.yield l) #[] #[]) hro rfl (by kernel_rfl) (by kernel_rfl) (by kernel_rfl) (fun _ _ _ h => h) ⟨Or.inl ⟨by rfl, by intro w; go_simp⟩, fun _ => rfl⟩ ?_
        simp only [Act.put, List.setIfInBounds_toArray, List.set_cons_zero, List.set_cons_succ]
        refine wpAnyIn_take (i := 9) (oi := { dst := some 31, op := Op.move (Operand.tmp 0), type := 48, pos := "node.go:132", after := #[{ on := 7, ground := Ground.guard }], guard := some (7, true) }) (v := .pointer (some ⟨b, 0, none⟩)) hro rfl (by kernel_rfl) (by kernel_rfl) (by kernel_rfl) (fun _ _ _ h => h) ⟨Or.inl ⟨by rfl, by intro w; go_simp⟩, fun _ => rfl⟩ ?_
        simp only [Act.put, List.setIfInBounds_toArray, List.set_cons_zero, List.set_cons_succ]
        refine wpAnyIn_take (i := 10) (oi := { dst := some 32, op := Op.nilCheck (Operand.tmp 31), type := 0, pos := "node.go:132", after := #[{ on := 9, ground := Ground.data }, { on := 7, ground := Ground.guard }], guard := some (7, true) }) (v := .pointer (some ⟨b, 0, none⟩)) hro rfl (by kernel_rfl) (by kernel_rfl) (by kernel_rfl) (fun _ _ _ h => h) ⟨Or.inl ⟨by rfl, by intro w; go_simp⟩, fun _ => rfl⟩ ?_
        simp only [Act.put, List.setIfInBounds_toArray, List.set_cons_zero, List.set_cons_succ]
        refine wpAnyIn_take (i := 11) (oi := { dst := some 33, op := Op.fieldAddr 60 (Operand.tmp 32) 0, type := 0, pos := "node.go:132", after := #[{ on := 10, ground := Ground.data }, { on := 7, ground := Ground.guard }], guard := some (7, true) }) (v := .pointer (some ⟨b, 0, none⟩)) hro rfl (by kernel_rfl) (by kernel_rfl) (by kernel_rfl) (fun _ _ _ h => h) ⟨Or.inl ⟨by rfl, by intro w; go_simp⟩, fun _ => rfl⟩ ?_
        simp only [Act.put, List.setIfInBounds_toArray, List.set_cons_zero, List.set_cons_succ]
        refine wpAnyIn_take (i := 13) (oi := { dst := some 35, op := Op.move (Operand.tmp 0), type := 48, pos := "node.go:132", after := #[{ on := 7, ground := Ground.guard }], guard := some (7, true) }) (v := .pointer (some ⟨b, 0, none⟩)) hro rfl (by kernel_rfl) (by kernel_rfl) (by kernel_rfl) (fun _ _ _ h => h) ⟨Or.inl ⟨by rfl, by intro w; go_simp⟩, fun _ => rfl⟩ ?_
        simp only [Act.put, List.setIfInBounds_toArray, List.set_cons_zero, List.set_cons_succ]
        refine wpAnyIn_take (i := 14) (oi := { dst := some 36, op := Op.nilCheck (Operand.tmp 35), type := 0, pos := "node.go:132", after := #[{ on := 13, ground := Ground.data }, { on := 7, ground := Ground.guard }], guard := some (7, true) }) (v := .pointer (some ⟨b, 0, none⟩)) hro rfl (by kernel_rfl) (by kernel_rfl) (by kernel_rfl) (fun _ _ _ h => h) ⟨Or.inl ⟨by rfl, by intro w; go_simp⟩, fun _ => rfl⟩ ?_
        simp only [Act.put, List.setIfInBounds_toArray, List.set_cons_zero, List.set_cons_succ]
        refine wpAnyIn_take (i := 15) (oi := { dst := some 37, op := Op.fieldAddr 60 (Operand.tmp 36) 1, type := 0, pos := "node.go:132", after := #[{ on := 14, ground := Ground.data }, { on := 7, ground := Ground.guard }], guard := some (7, true) }) (v := .pointer (some ⟨b, 1, none⟩)) hro rfl (by kernel_rfl) (by kernel_rfl) (by kernel_rfl) (fun _ _ _ h => h) ⟨Or.inl ⟨by rfl, by intro w; go_simp⟩, fun _ => rfl⟩ ?_
        simp only [Act.put, List.setIfInBounds_toArray, List.set_cons_zero, List.set_cons_succ]
        refine wpAnyIn_ready (rs := [12, 16]) (by kernel_rfl) (by decide) (AllReadyIn.cons (o := { dst := some 34, op := Op.load 9 (Operand.tmp 33), type := 9, pos := "node.go:132", after := #[{ on := 11, ground := Ground.data }, { on := 7, ground := Ground.guard }], guard := some (7, true) }) rfl (fun K hK => ?_) (AllReadyIn.cons (o := { dst := some 38, op := Op.load 3 (Operand.tmp 37), type := 3, pos := "node.go:132", after := #[{ on := 15, ground := Ground.data }, { on := 7, ground := Ground.guard }], guard := some (7, true) }) rfl (fun K hK => ?_) AllReadyIn.nil))
        · rw [if_pos (by rfl)]
          go_simp
          refine hK _ _ ?_
          clear hK K
          try simp only [Act.put, List.setIfInBounds_toArray, List.set_cons_zero, List.set_cons_succ]
          refine wpAnyIn_ready (rs := [16]) (by kernel_rfl) (by decide) (AllReadyIn.cons (o := { dst := some 38, op := Op.load 3 (Operand.tmp 37), type := 3, pos := "node.go:132", after := #[{ on := 15, ground := Ground.data }, { on := 7, ground := Ground.guard }], guard := some (7, true) }) rfl (fun K hK => ?_) AllReadyIn.nil)
          rw [if_pos (by rfl)]
          go_simp
          refine hK _ _ ?_
          clear hK K
          try simp only [Act.put, List.setIfInBounds_toArray, List.set_cons_zero, List.set_cons_succ]
          refine wpAnyIn_ready (rs := [17]) (by kernel_rfl) (by decide) (AllReadyIn.cons (o := { dst := some 39, op := Op.call { callee := Callee.value (Operand.tmp 30), args := #[Operand.tmp 34, Operand.tmp 38], argTypes := #[9, 3] }, type := 4, pos := "node.go:132", after := #[{ on := 8, ground := Ground.data }, { on := 12, ground := Ground.data }, { on := 16, ground := Ground.data }, { on := 7, ground := Ground.chain }, { on := 7, ground := Ground.guard }], guard := some (7, true) }) rfl (fun K hK => ?_) AllReadyIn.nil)
          rw [if_pos (by rfl)]
          go_simp
          try refine ⟨hdd _, ?_⟩
          refine hR.mono ?_
          clear hR
          rintro e W2 (⟨rfl, hJ2, hb2, c4', hr2⟩ | ⟨rfl, hx2⟩)
          · first | (refine hK _ _ ?_; clear hK K) | gi_wp2
            try (refine hK _ _ ?_; clear hK K)
            try simp only [Act.put, List.setIfInBounds_toArray, List.set_cons_zero, List.set_cons_succ]
            refine wpAnyIn_take (i := 18) (oi := { dst := some 40, op := Op.pick (Operand.tmp 29) (Operand.tmp 39) (Operand.const (Value.bool false)), type := 4, pos := "node.go:132", after := #[{ on := 7, ground := Ground.data }, { on := 17, ground := Ground.data }], guard := none }) (v := .bool true) hro rfl (by kernel_rfl) (by kernel_rfl) (by kernel_rfl) (fun _ _ _ h => h) ⟨Or.inl ⟨by rfl, by intro w; go_simp⟩, fun _ => rfl⟩ ?_
            simp only [Act.put, List.setIfInBounds_toArray, List.set_cons_zero, List.set_cons_succ]
            refine wpAnyIn_take (i := 19) (oi := { dst := some 41, op := Op.move (Operand.tmp 40), type := 4, pos := "node.go:132", after := #[{ on := 18, ground := Ground.data }, { on := 17, ground := Ground.chain }], guard := none }) (v := .bool true) hro rfl (by kernel_rfl) (by kernel_rfl) (by kernel_rfl) (fun _ _ _ h => h) ⟨Or.inl ⟨by rfl, by intro w; go_simp⟩, fun _ => rfl⟩ ?_
            simp only [Act.put, List.setIfInBounds_toArray, List.set_cons_zero, List.set_cons_succ]
            refine wpAnyIn_take (i := 20) (oi := { dst := some 42, op := Op.move (Operand.tmp 0), type := 48, pos := "node.go:132", after := #[{ on := 19, ground := Ground.guard }], guard := some (19, true) }) (v := .pointer (some ⟨b, 0, none⟩)) hro rfl (by kernel_rfl) (by kernel_rfl) (by kernel_rfl) (fun _ _ _ h => h) ⟨Or.inl ⟨by rfl, by intro w; go_simp⟩, fun _ => rfl⟩ ?_
            simp only [Act.put, List.setIfInBounds_toArray, List.set_cons_zero, List.set_cons_succ]
            refine wpAnyIn_take (i := 21) (oi := { dst := some 43, op := Op.nilCheck (Operand.tmp 42), type := 0, pos := "node.go:132", after := #[{ on := 20, ground := Ground.data }, { on := 19, ground := Ground.guard }], guard := some (19, true) }) (v := .pointer (some ⟨b, 0, none⟩)) hro rfl (by kernel_rfl) (by kernel_rfl) (by kernel_rfl) (fun _ _ _ h => h) ⟨Or.inl ⟨by rfl, by intro w; go_simp⟩, fun _ => rfl⟩ ?_
            simp only [Act.put, List.setIfInBounds_toArray, List.set_cons_zero, List.set_cons_succ]
            refine wpAnyIn_take (i := 22) (oi := { dst := some 44, op := Op.fieldAddr 60 (Operand.tmp 43) 4, type := 0, pos := "node.go:132", after := #[{ on := 21, ground := Ground.data }, { on := 19, ground := Ground.guard }], guard := some (19, true) }) (v := .pointer (some ⟨b, 4, none⟩)) hro rfl (by kernel_rfl) (by kernel_rfl) (by kernel_rfl) (fun _ _ _ h => h) ⟨Or.inl ⟨by rfl, by intro w; go_simp⟩, fun _ => rfl⟩ ?_
            simp only [Act.put, List.setIfInBounds_toArray, List.set_cons_zero, List.set_cons_succ]
            refine wpAnyIn_take (i := 24) (oi := { dst := some 46, op := Op.move (Operand.tmp 2), type := 28, pos := "node.go:132", after := #[{ on := 19, ground := Ground.guard }], guard := some (19, true) }) (v := .func (.yield l) #[] #[]) hro rfl (by kernel_rfl) (by kernel_rfl) (by kernel_rfl) (fun _ _ _ h => h) ⟨Or.inl ⟨by rfl, by intro w; go_simp⟩, fun _ => rfl⟩ ?_
            simp only [Act.put, List.setIfInBounds_toArray, List.set_cons_zero, List.set_cons_succ]
            refine wpAnyIn_ready (rs := [23]) (by kernel_rfl) (by decide) (AllReadyIn.cons (o := { dst := some 45, op := Op.load 48 (Operand.tmp 44), type := 48, pos := "node.go:132", after := #[{ on := 22, ground := Ground.data }, { on := 19, ground := Ground.guard }], guard := some (19, true) }) rfl (fun K hK => ?_) AllReadyIn.nil)
            rw [if_pos (by rfl)]
            go_simp
            refine hK _ _ ?_
            clear hK K
            try simp only [Act.put, List.setIfInBounds_toArray, List.set_cons_zero, List.set_cons_succ]
            refine wpAnyIn_ready (rs := [25]) (by kernel_rfl) (by decide) (AllReadyIn.cons (o := { dst := some 47, op := Op.call { callee := Callee.value (Operand.func 32), args := #[Operand.tmp 45, Operand.tmp 46], argTypes := #[48, 28] }, type := 4, pos := "node.go:132", after := #[{ on := 23, ground := Ground.data }, { on := 24, ground := Ground.data }, { on := 19, ground := Ground.chain }, { on := 19, ground := Ground.guard }], guard := some (19, true) }) rfl (fun K hK => ?_) AllReadyIn.nil)
            rw [if_pos (by rfl)]
            go_simp
            try refine ⟨hdd _, ?_⟩
            try gi_at_call 32
            refine (walkX_in F hd h6 hro l n₀ X M J Jx hJd hY tr (n - 1) pr _ _ hr2 hJ2 (by simp; omega)).mono ?_
            rintro e W3 (⟨rfl, hJ3, hb3⟩ | ⟨rfl, q, hq, hx3⟩)
            · first | (refine hK _ _ ?_; clear hK K) | gi_wp2
              try (refine hK _ _ ?_; clear hK K)
              try simp only [Act.put, List.setIfInBounds_toArray, List.set_cons_zero, List.set_cons_succ]
              refine wpAnyIn_take (i := 26) (oi := { dst := some 48, op := Op.pick (Operand.tmp 41) (Operand.tmp 47) (Operand.const (Value.bool false)), type := 4, pos := "node.go:132", after := #[{ on := 19, ground := Ground.data }, { on := 25, ground := Ground.data }], guard := none }) (v := .bool true) hro rfl (by kernel_rfl) (by kernel_rfl) (by kernel_rfl) (fun _ _ _ h => h) ⟨Or.inl ⟨by rfl, by intro w; go_simp⟩, fun _ => rfl⟩ ?_
              simp only [Act.put, List.setIfInBounds_toArray, List.set_cons_zero, List.set_cons_succ]
              refine wpAnyIn_ready (rs := [27]) (by kernel_rfl) (by decide) (AllReadyIn.cons rfl (fun K hK => ?_) AllReadyIn.nil)
              rw [if_pos (by rfl)]
              go_simp
              refine hK _ _ ?_
              clear hK K
              try simp only [Act.put, List.setIfInBounds_toArray, List.set_cons_zero, List.set_cons_succ]
              refine wpAnyIn_done (by kernel_rfl) ?_ _
              gi_wp2
              go_ret
              exact .inl ⟨rfl, by simpa [List.append_assoc] using hJ3, hb2.trans hb3⟩
            · first | (refine hK _ _ ?_; clear hK K) | gi_wp2
              try (refine hK _ _ ?_; clear hK K)
              try simp only [Act.put, List.setIfInBounds_toArray, List.set_cons_zero, List.set_cons_succ]
              refine wpAnyIn_take (i := 26) (oi := { dst := some 48, op := Op.pick (Operand.tmp 41) (Operand.tmp 47) (Operand.const (Value.bool false)), type := 4, pos := "node.go:132", after := #[{ on := 19, ground := Ground.data }, { on := 25, ground := Ground.data }], guard := none }) (v := .bool false) hro rfl (by kernel_rfl) (by kernel_rfl) (by kernel_rfl) (fun _ _ _ h => h) ⟨Or.inl ⟨by rfl, by intro w; go_simp⟩, fun _ => rfl⟩ ?_
              simp only [Act.put, List.setIfInBounds_toArray, List.set_cons_zero, List.set_cons_succ]
              refine wpAnyIn_ready (rs := [27]) (by kernel_rfl) (by decide) (AllReadyIn.cons rfl (fun K hK => ?_) AllReadyIn.nil)
              rw [if_pos (by rfl)]
              go_simp
              refine hK _ _ ?_
              clear hK K
              try simp only [Act.put, List.setIfInBounds_toArray, List.set_cons_zero, List.set_cons_succ]
              refine wpAnyIn_done (by kernel_rfl) ?_ _
              gi_wp2
              go_ret
              obtain ⟨r, hr'⟩ := hq
              exact .inr ⟨rfl, frT ky tl ++ (k, v) :: q, ⟨r, by simp [← hr']⟩, by simpa [List.append_assoc] using hx3⟩
          · first | (refine hK _ _ ?_; clear hK K) | gi_wp2
            try (refine hK _ _ ?_; clear hK K)
            try simp only [Act.put, List.setIfInBounds_toArray, List.set_cons_zero, List.set_cons_succ]
            refine wpAnyIn_take (i := 18) (oi := { dst := some 40, op := Op.pick (Operand.tmp 29) (Operand.tmp 39) (Operand.const (Value.bool false)), type := 4, pos := "node.go:132", after := #[{ on := 7, ground := Ground.data }, { on := 17, ground := Ground.data }], guard := none }) (v := .bool false) hro rfl (by kernel_rfl) (by kernel_rfl) (by kernel_rfl) (fun _ _ _ h => h) ⟨Or.inl ⟨by rfl, by intro w; go_simp⟩, fun _ => rfl⟩ ?_
            simp only [Act.put, List.setIfInBounds_toArray, List.set_cons_zero, List.set_cons_succ]
            refine wpAnyIn_take (i := 19) (oi := { dst := some 41, op := Op.move (Operand.tmp 40), type := 4, pos := "node.go:132", after := #[{ on := 18, ground := Ground.data }, { on := 17, ground := Ground.chain }], guard := none }) (v := .bool false) hro rfl (by kernel_rfl) (by kernel_rfl) (by kernel_rfl) (fun _ _ _ h => h) ⟨Or.inl ⟨by rfl, by intro w; go_simp⟩, fun _ => rfl⟩ ?_
            simp only [Act.put, List.setIfInBounds_toArray, List.set_cons_zero, List.set_cons_succ]
            refine wpAnyIn_take (i := 20) (oi := { dst := some 42, op := Op.move (Operand.tmp 0), type := 48, pos := "node.go:132", after := #[{ on := 19, ground := Ground.guard }], guard := some (19, true) }) (v := undef) hro rfl (by kernel_rfl) (by kernel_rfl) (by kernel_rfl) (fun _ _ _ h => h) ⟨Or.inr ⟨by rfl, rfl⟩, fun _ => rfl⟩ ?_
            simp only [Act.put, List.setIfInBounds_toArray, List.set_cons_zero, List.set_cons_succ]
            refine wpAnyIn_take (i := 21) (oi := { dst := some 43, op := Op.nilCheck (Operand.tmp 42), type := 0, pos := "node.go:132", after := #[{ on := 20, ground := Ground.data }, { on := 19, ground := Ground.guard }], guard := some (19, true) }) (v := undef) hro rfl (by kernel_rfl) (by kernel_rfl) (by kernel_rfl) (fun _ _ _ h => h) ⟨Or.inr ⟨by rfl, rfl⟩, fun _ => rfl⟩ ?_
            simp only [Act.put, List.setIfInBounds_toArray, List.set_cons_zero, List.set_cons_succ]
            refine wpAnyIn_take (i := 22) (oi := { dst := some 44, op := Op.fieldAddr 60 (Operand.tmp 43) 4, type := 0, pos := "node.go:132", after := #[{ on := 21, ground := Ground.data }, { on := 19, ground := Ground.guard }], guard := some (19, true) }) (v := undef) hro rfl (by kernel_rfl) (by kernel_rfl) (by kernel_rfl) (fun _ _ _ h => h) ⟨Or.inr ⟨by rfl, rfl⟩, fun _ => rfl⟩ ?_
            simp only [Act.put, List.setIfInBounds_toArray, List.set_cons_zero, List.set_cons_succ]
            refine wpAnyIn_take (i := 23) (oi := { dst := some 45, op := Op.load 48 (Operand.tmp 44), type := 48, pos := "node.go:132", after := #[{ on := 22, ground := Ground.data }, { on := 19, ground := Ground.guard }], guard := some (19, true) }) (v := undef) hro rfl (by kernel_rfl) (by kernel_rfl) (by kernel_rfl) (fun _ _ _ h => h) ⟨Or.inr ⟨by rfl, rfl⟩, fun _ => rfl⟩ ?_
            simp only [Act.put, List.setIfInBounds_toArray, List.set_cons_zero, List.set_cons_succ]
            refine wpAnyIn_take (i := 24) (oi := { dst := some 46, op := Op.move (Operand.tmp 2), type := 28, pos := "node.go:132", after := #[{ on := 19, ground := Ground.guard }], guard := some (19, true) }) (v := undef) hro rfl (by kernel_rfl) (by kernel_rfl) (by kernel_rfl) (fun _ _ _ h => h) ⟨Or.inr ⟨by rfl, rfl⟩, fun _ => rfl⟩ ?_
            simp only [Act.put, List.setIfInBounds_toArray, List.set_cons_zero, List.set_cons_succ]
            refine wpAnyIn_ready (rs := [25]) (by kernel_rfl) (by decide) (AllReadyIn.cons (o := { dst := some 47, op := Op.call { callee := Callee.value (Operand.func 32), args := #[Operand.tmp 45, Operand.tmp 46], argTypes := #[48, 28] }, type := 4, pos := "node.go:132", after := #[{ on := 23, ground := Ground.data }, { on := 24, ground := Ground.data }, { on := 19, ground := Ground.chain }, { on := 19, ground := Ground.guard }], guard := some (19, true) }) rfl (fun K hK => ?_) AllReadyIn.nil)
            rw [if_neg (by rw [show Region.wanted _ _ = false from rfl]; decide)]
            refine ⟨fun f hf => by cases hf; exact h6, hK _ _ ?_⟩
            clear hK K
            try simp only [Act.put, List.setIfInBounds_toArray, List.set_cons_zero, List.set_cons_succ]
            refine wpAnyIn_take (i := 26) (oi := { dst := some 48, op := Op.pick (Operand.tmp 41) (Operand.tmp 47) (Operand.const (Value.bool false)), type := 4, pos := "node.go:132", after := #[{ on := 19, ground := Ground.data }, { on := 25, ground := Ground.data }], guard := none }) (v := .bool false) hro rfl (by kernel_rfl) (by kernel_rfl) (by kernel_rfl) (fun _ _ _ h => h) ⟨Or.inl ⟨by rfl, by intro w; go_simp⟩, fun _ => rfl⟩ ?_
            simp only [Act.put, List.setIfInBounds_toArray, List.set_cons_zero, List.set_cons_succ]
            refine wpAnyIn_ready (rs := [27]) (by kernel_rfl) (by decide) (AllReadyIn.cons rfl (fun K hK => ?_) AllReadyIn.nil)
            rw [if_pos (by rfl)]
            go_simp
            refine hK _ _ ?_
            clear hK K
            try simp only [Act.put, List.setIfInBounds_toArray, List.set_cons_zero, List.set_cons_succ]
            refine wpAnyIn_done (by kernel_rfl) ?_ _
            gi_wp2
            go_ret
            exact .inr ⟨rfl, frT ky tl ++ [(k, v)], ⟨tr.toL, by simp⟩, by simpa [List.append_assoc] using hx2⟩
        · rw [if_pos (by rfl)]
          go_simp
          refine hK _ _ ?_
          clear hK K
          try simp only [Act.put, List.setIfInBounds_toArray, List.set_cons_zero, List.set_cons_succ]
          refine wpAnyIn_ready (rs := [12]) (by kernel_rfl) (by decide) (AllReadyIn.cons (o := { dst := some 34, op := Op.load 9 (Operand.tmp 33), type := 9, pos := "node.go:132", after := #[{ on := 11, ground := Ground.data }, { on := 7, ground := Ground.guard }], guard := some (7, true) }) rfl (fun K hK => ?_) AllReadyIn.nil)
          rw [if_pos (by rfl)]
          go_simp
          refine hK _ _ ?_
          clear hK K
          try simp only [Act.put, List.setIfInBounds_toArray, List.set_cons_zero, List.set_cons_succ]
          refine wpAnyIn_ready (rs := [17]) (by kernel_rfl) (by decide) (AllReadyIn.cons (o := { dst := some 39, op := Op.call { callee := Callee.value (Operand.tmp 30), args := #[Operand.tmp 34, Operand.tmp 38], argTypes := #[9, 3] }, type := 4, pos := "node.go:132", after := #[{ on := 8, ground := Ground.data }, { on := 12, ground := Ground.data }, { on := 16, ground := Ground.data }, { on := 7, ground := Ground.chain }, { on := 7, ground := Ground.guard }], guard := some (7, true) }) rfl (fun K hK => ?_) AllReadyIn.nil)
          rw [if_pos (by rfl)]
          go_simp
          try refine ⟨hdd _, ?_⟩
          refine hR.mono ?_
          clear hR
          rintro e W2 (⟨rfl, hJ2, hb2, c4', hr2⟩ | ⟨rfl, hx2⟩)
          · first | (refine hK _ _ ?_; clear hK K) | gi_wp2
            try (refine hK _ _ ?_; clear hK K)
            try simp only [Act.put, List.setIfInBounds_toArray, List.set_cons_zero, List.set_cons_succ]
            refine wpAnyIn_take (i := 18) (oi := { dst := some 40, op := Op.pick (Operand.tmp 29) (Operand.tmp 39) (Operand.const (Value.bool false)), type := 4, pos := "node.go:132", after := #[{ on := 7, ground := Ground.data }, { on := 17, ground := Ground.data }], guard := none }) (v := .bool true) hro rfl (by kernel_rfl) (by kernel_rfl) (by kernel_rfl) (fun _ _ _ h => h) ⟨Or.inl ⟨by rfl, by intro w; go_simp⟩, fun _ => rfl⟩ ?_
            simp only [Act.put, List.setIfInBounds_toArray, List.set_cons_zero, List.set_cons_succ]
            refine wpAnyIn_take (i := 19) (oi := { dst := some 41, op := Op.move (Operand.tmp 40), type := 4, pos := "node.go:132", after := #[{ on := 18, ground := Ground.data }, { on := 17, ground := Ground.chain }], guard := none }) (v := .bool true) hro rfl (by kernel_rfl) (by kernel_rfl) (by kernel_rfl) (fun _ _ _ h => h) ⟨Or.inl ⟨by rfl, by intro w; go_simp⟩, fun _ => rfl⟩ ?_
            simp only [Act.put, List.setIfInBounds_toArray, List.set_cons_zero, List.set_cons_succ]
            refine wpAnyIn_take (i := 20) (oi := { dst := some 42, op := Op.move (Operand.tmp 0), type := 48, pos := "node.go:132", after := #[{ on := 19, ground := Ground.guard }], guard := some (19, true) }) (v := .pointer (some ⟨b, 0, none⟩)) hro rfl (by kernel_rfl) (by kernel_rfl) (by kernel_rfl) (fun _ _ _ h => h) ⟨Or.inl ⟨by rfl, by intro w; go_simp⟩, fun _ => rfl⟩ ?_
            simp only [Act.put, List.setIfInBounds_toArray, List.set_cons_zero, List.set_cons_succ]
            refine wpAnyIn_take (i := 21) (oi := { dst := some 43, op := Op.nilCheck (Operand.tmp 42), type := 0, pos := "node.go:132", after := #[{ on := 20, ground := Ground.data }, { on := 19, ground := Ground.guard }], guard := some (19, true) }) (v := .pointer (some ⟨b, 0, none⟩)) hro rfl (by kernel_rfl) (by kernel_rfl) (by kernel_rfl) (fun _ _ _ h => h) ⟨Or.inl ⟨by rfl, by intro w; go_simp⟩, fun _ => rfl⟩ ?_
            simp only [Act.put, List.setIfInBounds_toArray, List.set_cons_zero, List.set_cons_succ]
            refine wpAnyIn_take (i := 22) (oi := { dst := some 44, op := Op.fieldAddr 60 (Operand.tmp 43) 4, type := 0, pos := "node.go:132", after := #[{ on := 21, ground := Ground.data }, { on := 19, ground := Ground.guard }], guard := some (19, true) }) (v := .pointer (some ⟨b, 4, none⟩)) hro rfl (by kernel_rfl) (by kernel_rfl) (by kernel_rfl) (fun _ _ _ h => h) ⟨Or.inl ⟨by rfl, by intro w; go_simp⟩, fun _ => rfl⟩ ?_
            simp only [Act.put, List.setIfInBounds_toArray, List.set_cons_zero, List.set_cons_succ]
            refine wpAnyIn_take (i := 24) (oi := { dst := some 46, op := Op.move (Operand.tmp 2), type := 28, pos := "node.go:132", after := #[{ on := 19, ground := Ground.guard }], guard := some (19, true) }) (v := .func (.yield l) #[] #[]) hro rfl (by kernel_rfl) (by kernel_rfl) (by kernel_rfl) (fun _ _ _ h => h) ⟨Or.inl ⟨by rfl, by intro w; go_simp⟩, fun _ => rfl⟩ ?_
            simp only [Act.put, List.setIfInBounds_toArray, List.set_cons_zero, List.set_cons_succ]
            refine wpAnyIn_ready (rs := [23]) (by kernel_rfl) (by decide) (AllReadyIn.cons (o := { dst := some 45, op := Op.load 48 (Operand.tmp 44), type := 48, pos := "node.go:132", after := #[{ on := 22, ground := Ground.data }, { on := 19, ground := Ground.guard }], guard := some (19, true) }) rfl (fun K hK => ?_) AllReadyIn.nil)
            rw [if_pos (by rfl)]
            go_simp
            refine hK _ _ ?_
            clear hK K
            try simp only [Act.put, List.setIfInBounds_toArray, List.set_cons_zero, List.set_cons_succ]
            refine wpAnyIn_ready (rs := [25]) (by kernel_rfl) (by decide) (AllReadyIn.cons (o := { dst := some 47, op := Op.call { callee := Callee.value (Operand.func 32), args := #[Operand.tmp 45, Operand.tmp 46], argTypes := #[48, 28] }, type := 4, pos := "node.go:132", after := #[{ on := 23, ground := Ground.data }, { on := 24, ground := Ground.data }, { on := 19, ground := Ground.chain }, { on := 19, ground := Ground.guard }], guard := some (19, true) }) rfl (fun K hK => ?_) AllReadyIn.nil)
            rw [if_pos (by rfl)]
            go_simp
            try refine ⟨hdd _, ?_⟩
            try gi_at_call 32
            refine (walkX_in F hd h6 hro l n₀ X M J Jx hJd hY tr (n - 1) pr _ _ hr2 hJ2 (by simp; omega)).mono ?_
            rintro e W3 (⟨rfl, hJ3, hb3⟩ | ⟨rfl, q, hq, hx3⟩)
            · first | (refine hK _ _ ?_; clear hK K) | gi_wp2
              try (refine hK _ _ ?_; clear hK K)
              try simp only [Act.put, List.setIfInBounds_toArray, List.set_cons_zero, List.set_cons_succ]
              refine wpAnyIn_take (i := 26) (oi := { dst := some 48, op := Op.pick (Operand.tmp 41) (Operand.tmp 47) (Operand.const (Value.bool false)), type := 4, pos := "node.go:132", after := #[{ on := 19, ground := Ground.data }, { on := 25, ground := Ground.data }], guard := none }) (v := .bool true) hro rfl (by kernel_rfl) (by kernel_rfl) (by kernel_rfl) (fun _ _ _ h => h) ⟨Or.inl ⟨by rfl, by intro w; go_simp⟩, fun _ => rfl⟩ ?_
              simp only [Act.put, List.setIfInBounds_toArray, List.set_cons_zero, List.set_cons_succ]
              refine wpAnyIn_ready (rs := [27]) (by kernel_rfl) (by decide) (AllReadyIn.cons rfl (fun K hK => ?_) AllReadyIn.nil)
              rw [if_pos (by rfl)]
              go_simp
              refine hK _ _ ?_
              clear hK K
              try simp only [Act.put, List.setIfInBounds_toArray, List.set_cons_zero, List.set_cons_succ]
              refine wpAnyIn_done (by kernel_rfl) ?_ _
              gi_wp2
              go_ret
              exact .inl ⟨rfl, by simpa [List.append_assoc] using hJ3, hb2.trans hb3⟩
            · first | (refine hK _ _ ?_; clear hK K) | gi_wp2
              try (refine hK _ _ ?_; clear hK K)
              try simp only [Act.put, List.setIfInBounds_toArray, List.set_cons_zero, List.set_cons_succ]
              refine wpAnyIn_take (i := 26) (oi := { dst := some 48, op := Op.pick (Operand.tmp 41) (Operand.tmp 47) (Operand.const (Value.bool false)), type := 4, pos := "node.go:132", after := #[{ on := 19, ground := Ground.data }, { on := 25, ground := Ground.data }], guard := none }) (v := .bool false) hro rfl (by kernel_rfl) (by kernel_rfl) (by kernel_rfl) (fun _ _ _ h => h) ⟨Or.inl ⟨by rfl, by intro w; go_simp⟩, fun _ => rfl⟩ ?_
              simp only [Act.put, List.setIfInBounds_toArray, List.set_cons_zero, List.set_cons_succ]
              refine wpAnyIn_ready (rs := [27]) (by kernel_rfl) (by decide) (AllReadyIn.cons rfl (fun K hK => ?_) AllReadyIn.nil)
              rw [if_pos (by rfl)]
              go_simp
              refine hK _ _ ?_
              clear hK K
              try simp only [Act.put, List.setIfInBounds_toArray, List.set_cons_zero, List.set_cons_succ]
              refine wpAnyIn_done (by kernel_rfl) ?_ _
              gi_wp2
              go_ret
              obtain ⟨r, hr'⟩ := hq
              exact .inr ⟨rfl, frT ky tl ++ (k, v) :: q, ⟨r, by simp [← hr']⟩, by simpa [List.append_assoc] using hx3⟩
          · first | (refine hK _ _ ?_; clear hK K) | gi_wp2
            try (refine hK _ _ ?_; clear hK K)
            try simp only [Act.put, List.setIfInBounds_toArray, List.set_cons_zero, List.set_cons_succ]
            refine wpAnyIn_take (i := 18) (oi := { dst := some 40, op := Op.pick (Operand.tmp 29) (Operand.tmp 39) (Operand.const (Value.bool false)), type := 4, pos := "node.go:132", after := #[{ on := 7, ground := Ground.data }, { on := 17, ground := Ground.data }], guard := none }) (v := .bool false) hro rfl (by kernel_rfl) (by kernel_rfl) (by kernel_rfl) (fun _ _ _ h => h) ⟨Or.inl ⟨by rfl, by intro w; go_simp⟩, fun _ => rfl⟩ ?_
            simp only [Act.put, List.setIfInBounds_toArray, List.set_cons_zero, List.set_cons_succ]
            refine wpAnyIn_take (i := 19) (oi := { dst := some 41, op := Op.move (Operand.tmp 40), type := 4, pos := "node.go:132", after := #[{ on := 18, ground := Ground.data }, { on := 17, ground := Ground.chain }], guard := none }) (v := .bool false) hro rfl (by kernel_rfl) (by kernel_rfl) (by kernel_rfl) (fun _ _ _ h => h) ⟨Or.inl ⟨by rfl, by intro w; go_simp⟩, fun _ => rfl⟩ ?_
            simp only [Act.put, List.setIfInBounds_toArray, List.set_cons_zero, List.set_cons_succ]
            refine wpAnyIn_take (i := 20) (oi := { dst := some 42, op := Op.move (Operand.tmp 0), type := 48, pos := "node.go:132", after := #[{ on := 19, ground := Ground.guard }], guard := some (19, true) }) (v := undef) hro rfl (by kernel_rfl) (by kernel_rfl) (by kernel_rfl) (fun _ _ _ h => h) ⟨Or.inr ⟨by rfl, rfl⟩, fun _ => rfl⟩ ?_
            simp only [Act.put, List.setIfInBounds_toArray, List.set_cons_zero, List.set_cons_succ]
            refine wpAnyIn_take (i := 21) (oi := { dst := some 43, op := Op.nilCheck (Operand.tmp 42), type := 0, pos := "node.go:132", after := #[{ on := 20, ground := Ground.data }, { on := 19, ground := Ground.guard }], guard := some (19, true) }) (v := undef) hro rfl (by kernel_rfl) (by kernel_rfl) (by kernel_rfl) (fun _ _ _ h => h) ⟨Or.inr ⟨by rfl, rfl⟩, fun _ => rfl⟩ ?_
            simp only [Act.put, List.setIfInBounds_toArray, List.set_cons_zero, List.set_cons_succ]
            refine wpAnyIn_take (i := 22) (oi := { dst := some 44, op := Op.fieldAddr 60 (Operand.tmp 43) 4, type := 0, pos := "node.go:132", after := #[{ on := 21, ground := Ground.data }, { on := 19, ground := Ground.guard }], guard := some (19, true) }) (v := undef) hro rfl (by kernel_rfl) (by kernel_rfl) (by kernel_rfl) (fun _ _ _ h => h) ⟨Or.inr ⟨by rfl, rfl⟩, fun _ => rfl⟩ ?_
            simp only [Act.put, List.setIfInBounds_toArray, List.set_cons_zero, List.set_cons_succ]
            refine wpAnyIn_take (i := 23) (oi := { dst := some 45, op := Op.load 48 (Operand.tmp 44), type := 48, pos := "node.go:132", after := #[{ on := 22, ground := Ground.data }, { on := 19, ground := Ground.guard }], guard := some (19, true) }) (v := undef) hro rfl (by kernel_rfl) (by kernel_rfl) (by kernel_rfl) (fun _ _ _ h => h) ⟨Or.inr ⟨by rfl, rfl⟩, fun _ => rfl⟩ ?_
            simp only [Act.put, List.setIfInBounds_toArray, List.set_cons_zero, List.set_cons_succ]
            refine wpAnyIn_take (i := 24) (oi := { dst := some 46, op := Op.move (Operand.tmp 2), type := 28, pos := "node.go:132", after := #[{ on := 19, ground := Ground.guard }], guard := some (19, true) }) (v := undef) hro rfl (by kernel_rfl) (by kernel_rfl) (by kernel_rfl) (fun _ _ _ h => h) ⟨Or.inr ⟨by rfl, rfl⟩, fun _ => rfl⟩ ?_
            simp only [Act.put, List.setIfInBounds_toArray, List.set_cons_zero, List.set_cons_succ]
            refine wpAnyIn_ready (rs := [25]) (by kernel_rfl) (by decide) (AllReadyIn.cons (o := { dst := some 47, op := Op.call { callee := Callee.value (Operand.func 32), args := #[Operand.tmp 45, Operand.tmp 46], argTypes := #[48, 28] }, type := 4, pos := "node.go:132", after := #[{ on := 23, ground := Ground.data }, { on := 24, ground := Ground.data }, { on := 19, ground := Ground.chain }, { on := 19, ground := Ground.guard }], guard := some (19, true) }) rfl (fun K hK => ?_) AllReadyIn.nil)
            rw [if_neg (by rw [show Region.wanted _ _ = false from rfl]; decide)]
            refine ⟨fun f hf => by cases hf; exact h6, hK _ _ ?_⟩
            clear hK K
            try simp only [Act.put, List.setIfInBounds_toArray, List.set_cons_zero, List.set_cons_succ]
            refine wpAnyIn_take (i := 26) (oi := { dst := some 48, op := Op.pick (Operand.tmp 41) (Operand.tmp 47) (Operand.const (Value.bool false)), type := 4, pos := "node.go:132", after := #[{ on := 19, ground := Ground.data }, { on := 25, ground := Ground.data }], guard := none }) (v := .bool false) hro rfl (by kernel_rfl) (by kernel_rfl) (by kernel_rfl) (fun _ _ _ h => h) ⟨Or.inl ⟨by rfl, by intro w; go_simp⟩, fun _ => rfl⟩ ?_
            simp only [Act.put, List.setIfInBounds_toArray, List.set_cons_zero, List.set_cons_succ]
            refine wpAnyIn_ready (rs := [27]) (by kernel_rfl) (by decide) (AllReadyIn.cons rfl (fun K hK => ?_) AllReadyIn.nil)
            rw [if_pos (by rfl)]
            go_simp
            refine hK _ _ ?_
            clear hK K
            try simp only [Act.put, List.setIfInBounds_toArray, List.set_cons_zero, List.set_cons_succ]
            refine wpAnyIn_done (by kernel_rfl) ?_ _
            gi_wp2
            go_ret
            exact .inr ⟨rfl, frT ky tl ++ [(k, v)], ⟨tr.toL, by simp⟩, by simpa [List.append_assoc] using hx2⟩
      · first | (refine hK _ _ ?_; clear hK K) | gi_wp2
        try (refine hK _ _ ?_; clear hK K)
        try simp only [Act.put, List.setIfInBounds_toArray, List.set_cons_zero, List.set_cons_succ]
        refine wpAnyIn_take (i := 7) (oi := { dst := some 29, op := Op.move (Operand.tmp 28), type := 4, pos := "node.go:132", after := #[{ on := 6, ground := Ground.data }, { on := 6, ground := Ground.chain }], guard := none }) (v := .bool false) hro rfl (by kernel_rfl) (by kernel_rfl) (by kernel_rfl) (fun _ _ _ h => h) ⟨Or.inl ⟨by rfl, by intro w; go_simp⟩, fun _ => rfl⟩ ?_
        simp only [Act.put, List.setIfInBounds_toArray, List.set_cons_zero, List.set_cons_succ]
        refine wpAnyIn_take (i := 8) (oi := { dst := some 30, op := Op.move (Operand.tmp 2), type := 28, pos := "node.go:132", after := #[{ on := 7, ground := Ground.guard }], guard := some (7, true) }) (v := undef) hro rfl (by kernel_rfl) (by kernel_rfl) (by kernel_rfl) (fun _ _ _ h => h) ⟨Or.inr ⟨by rfl, rfl⟩, fun _ => rfl⟩ ?_
        simp only [Act.put, List.setIfInBounds_toArray, List.set_cons_zero, List.set_cons_succ]
        refine wpAnyIn_take (i := 9) (oi := { dst := some 31, op := Op.move (Operand.tmp 0), type := 48, pos := "node.go:132", after := #[{ on := 7, ground := Ground.guard }], guard := some (7, true) }) (v := undef) hro rfl (by kernel_rfl) (by kernel_rfl) (by kernel_rfl) (fun _ _ _ h => h) ⟨Or.inr ⟨by rfl, rfl⟩, fun _ => rfl⟩ ?_
        simp only [Act.put, List.setIfInBounds_toArray, List.set_cons_zero, List.set_cons_succ]
        refine wpAnyIn_take (i := 10) (oi := { dst := some 32, op := Op.nilCheck (Operand.tmp 31), type := 0, pos := "node.go:132", after := #[{ on := 9, ground := Ground.data }, { on := 7, ground := Ground.guard }], guard := some (7, true) }) (v := undef) hro rfl (by kernel_rfl) (by kernel_rfl) (by kernel_rfl) (fun _ _ _ h => h) ⟨Or.inr ⟨by rfl, rfl⟩, fun _ => rfl⟩ ?_
        simp only [Act.put, List.setIfInBounds_toArray, List.set_cons_zero, List.set_cons_succ]
        refine wpAnyIn_take (i := 11) (oi := { dst := some 33, op := Op.fieldAddr 60 (Operand.tmp 32) 0, type := 0, pos := "node.go:132", after := #[{ on := 10, ground := Ground.data }, { on := 7, ground := Ground.guard }], guard := some (7, true) }) (v := undef) hro rfl (by kernel_rfl) (by kernel_rfl) (by kernel_rfl) (fun _ _ _ h => h) ⟨Or.inr ⟨by rfl, rfl⟩, fun _ => rfl⟩ ?_
        simp only [Act.put, List.setIfInBounds_toArray, List.set_cons_zero, List.set_cons_succ]
        refine wpAnyIn_take (i := 12) (oi := { dst := some 34, op := Op.load 9 (Operand.tmp 33), type := 9, pos := "node.go:132", after := #[{ on := 11, ground := Ground.data }, { on := 7, ground := Ground.guard }], guard := some (7, true) }) (v := undef) hro rfl (by kernel_rfl) (by kernel_rfl) (by kernel_rfl) (fun _ _ _ h => h) ⟨Or.inr ⟨by rfl, rfl⟩, fun _ => rfl⟩ ?_
        simp only [Act.put, List.setIfInBounds_toArray, List.set_cons_zero, List.set_cons_succ]
        refine wpAnyIn_take (i := 13) (oi := { dst := some 35, op := Op.move (Operand.tmp 0), type := 48, pos := "node.go:132", after := #[{ on := 7, ground := Ground.guard }], guard := some (7, true) }) (v := undef) hro rfl (by kernel_rfl) (by kernel_rfl) (by kernel_rfl) (fun _ _ _ h => h) ⟨Or.inr ⟨by rfl, rfl⟩, fun _ => rfl⟩ ?_
        simp only [Act.put, List.setIfInBounds_toArray, List.set_cons_zero, List.set_cons_succ]
        refine wpAnyIn_take (i := 14) (oi := { dst := some 36, op := Op.nilCheck (Operand.tmp 35), type := 0, pos := "node.go:132", after := #[{ on := 13, ground := Ground.data }, { on := 7, ground := Ground.guard }], guard := some (7, true) }) (v := undef) hro rfl (by kernel_rfl) (by kernel_rfl) (by kernel_rfl) (fun _ _ _ h => h) ⟨Or.inr ⟨by rfl, rfl⟩, fun _ => rfl⟩ ?_
        simp only [Act.put, List.setIfInBounds_toArray, List.set_cons_zero, List.set_cons_succ]
        refine wpAnyIn_take (i := 15) (oi := { dst := some 37, op := Op.fieldAddr 60 (Operand.tmp 36) 1, type := 0, pos := "node.go:132", after := #[{ on := 14, ground := Ground.data }, { on := 7, ground := Ground.guard }], guard := some (7, true) }) (v := undef) hro rfl (by kernel_rfl) (by kernel_rfl) (by kernel_rfl) (fun _ _ _ h => h) ⟨Or.inr ⟨by rfl, rfl⟩, fun _ => rfl⟩ ?_
        simp only [Act.put, List.setIfInBounds_toArray, List.set_cons_zero, List.set_cons_succ]
        refine wpAnyIn_take (i := 16) (oi := { dst := some 38, op := Op.load 3 (Operand.tmp 37), type := 3, pos := "node.go:132", after := #[{ on := 15, ground := Ground.data }, { on := 7, ground := Ground.guard }], guard := some (7, true) }) (v := undef) hro rfl (by kernel_rfl) (by kernel_rfl) (by kernel_rfl) (fun _ _ _ h => h) ⟨Or.inr ⟨by rfl, rfl⟩, fun _ => rfl⟩ ?_
        simp only [Act.put, List.setIfInBounds_toArray, List.set_cons_zero, List.set_cons_succ]
        refine wpAnyIn_take (i := 17) (oi := { dst := some 39, op := Op.call { callee := Callee.value (Operand.tmp 30), args := #[Operand.tmp 34, Operand.tmp 38], argTypes := #[9, 3] }, type := 4, pos := "node.go:132", after := #[{ on := 8, ground := Ground.data }, { on := 12, ground := Ground.data }, { on := 16, ground := Ground.data }, { on := 7, ground := Ground.chain }, { on := 7, ground := Ground.guard }], guard := some (7, true) }) (v := undef) hro rfl (by kernel_rfl) (by kernel_rfl) (by kernel_rfl) (fun _ _ _ h => h) ⟨Or.inr ⟨by rfl, rfl⟩, fun _ => rfl⟩ ?_
        simp only [Act.put, List.setIfInBounds_toArray, List.set_cons_zero, List.set_cons_succ]
        refine wpAnyIn_take (i := 18) (oi := { dst := some 40, op := Op.pick (Operand.tmp 29) (Operand.tmp 39) (Operand.const (Value.bool false)), type := 4, pos := "node.go:132", after := #[{ on := 7, ground := Ground.data }, { on := 17, ground := Ground.data }], guard := none }) (v := .bool false) hro rfl (by kernel_rfl) (by kernel_rfl) (by kernel_rfl) (fun _ _ _ h => h) ⟨Or.inl ⟨by rfl, by intro w; go_simp⟩, fun _ => rfl⟩ ?_
        simp only [Act.put, List.setIfInBounds_toArray, List.set_cons_zero, List.set_cons_succ]
        refine wpAnyIn_take (i := 19) (oi := { dst := some 41, op := Op.move (Operand.tmp 40), type := 4, pos := "node.go:132", after := #[{ on := 18, ground := Ground.data }, { on := 17, ground := Ground.chain }], guard := none }) (v := .bool false) hro rfl (by kernel_rfl) (by kernel_rfl) (by kernel_rfl) (fun _ _ _ h => h) ⟨Or.inl ⟨by rfl, by intro w; go_simp⟩, fun _ => rfl⟩ ?_
        simp only [Act.put, List.setIfInBounds_toArray, List.set_cons_zero, List.set_cons_succ]
        refine wpAnyIn_take (i := 20) (oi := { dst := some 42, op := Op.move (Operand.tmp 0), type := 48, pos := "node.go:132", after := #[{ on := 19, ground := Ground.guard }], guard := some (19, true) }) (v := undef) hro rfl (by kernel_rfl) (by kernel_rfl) (by kernel_rfl) (fun _ _ _ h => h) ⟨Or.inr ⟨by rfl, rfl⟩, fun _ => rfl⟩ ?_
        simp only [Act.put, List.setIfInBounds_toArray, List.set_cons_zero, List.set_cons_succ]
        refine wpAnyIn_take (i := 21) (oi := { dst := some 43, op := Op.nilCheck (Operand.tmp 42), type := 0, pos := "node.go:132", after := #[{ on := 20, ground := Ground.data }, { on := 19, ground := Ground.guard }], guard := some (19, true) }) (v := undef) hro rfl (by kernel_rfl) (by kernel_rfl) (by kernel_rfl) (fun _ _ _ h => h) ⟨Or.inr ⟨by rfl, rfl⟩, fun _ => rfl⟩ ?_
        simp only [Act.put, List.setIfInBounds_toArray, List.set_cons_zero, List.set_cons_succ]
        refine wpAnyIn_take (i := 22) (oi := { dst := some 44, op := Op.fieldAddr 60 (Operand.tmp 43) 4, type := 0, pos := "node.go:132", after := #[{ on := 21, ground := Ground.data }, { on := 19, ground := Ground.guard }], guard := some (19, true) }) (v := undef) hro rfl (by kernel_rfl) (by kernel_rfl) (by kernel_rfl) (fun _ _ _ h => h) ⟨Or.inr ⟨by rfl, rfl⟩, fun _ => rfl⟩ ?_
        simp only [Act.put, List.setIfInBounds_toArray, List.set_cons_zero, List.set_cons_succ]
        refine wpAnyIn_take (i := 23) (oi := { dst := some 45, op := Op.load 48 (Operand.tmp 44), type := 48, pos := "node.go:132", after := #[{ on := 22, ground := Ground.data }, { on := 19, ground := Ground.guard }], guard := some (19, true) }) (v := undef) hro rfl (by kernel_rfl) (by kernel_rfl) (by kernel_rfl) (fun _ _ _ h => h) ⟨Or.inr ⟨by rfl, rfl⟩, fun _ => rfl⟩ ?_
        simp only [Act.put, List.setIfInBounds_toArray, List.set_cons_zero, List.set_cons_succ]
        refine wpAnyIn_take (i := 24) (oi := { dst := some 46, op := Op.move (Operand.tmp 2), type := 28, pos := "node.go:132", after := #[{ on := 19, ground := Ground.guard }], guard := some (19, true) }) (v := undef) hro rfl (by kernel_rfl) (by kernel_rfl) (by kernel_rfl) (fun _ _ _ h => h) ⟨Or.inr ⟨by rfl, rfl⟩, fun _ => rfl⟩ ?_
        simp only [Act.put, List.setIfInBounds_toArray, List.set_cons_zero, List.set_cons_succ]
        refine wpAnyIn_ready (rs := [25]) (by kernel_rfl) (by decide) (AllReadyIn.cons (o := { dst := some 47, op := Op.call { callee := Callee.value (Operand.func 32), args := #[Operand.tmp 45, Operand.tmp 46], argTypes := #[48, 28] }, type := 4, pos := "node.go:132", after := #[{ on := 23, ground := Ground.data }, { on := 24, ground := Ground.data }, { on := 19, ground := Ground.chain }, { on := 19, ground := Ground.guard }], guard := some (19, true) }) rfl (fun K hK => ?_) AllReadyIn.nil)
        rw [if_neg (by rw [show Region.wanted _ _ = false from rfl]; decide)]
        refine ⟨fun f hf => by cases hf; exact h6, hK _ _ ?_⟩
        clear hK K
        try simp only [Act.put, List.setIfInBounds_toArray, List.set_cons_zero, List.set_cons_succ]
        refine wpAnyIn_take (i := 26) (oi := { dst := some 48, op := Op.pick (Operand.tmp 41) (Operand.tmp 47) (Operand.const (Value.bool false)), type := 4, pos := "node.go:132", after := #[{ on := 19, ground := Ground.data }, { on := 25, ground := Ground.data }], guard := none }) (v := .bool false) hro rfl (by kernel_rfl) (by kernel_rfl) (by kernel_rfl) (fun _ _ _ h => h) ⟨Or.inl ⟨by rfl, by intro w; go_simp⟩, fun _ => rfl⟩ ?_
        simp only [Act.put, List.setIfInBounds_toArray, List.set_cons_zero, List.set_cons_succ]
        refine wpAnyIn_ready (rs := [27]) (by kernel_rfl) (by decide) (AllReadyIn.cons rfl (fun K hK => ?_) AllReadyIn.nil)
        rw [if_pos (by rfl)]
        go_simp
        refine hK _ _ ?_
        clear hK K
        try simp only [Act.put, List.setIfInBounds_toArray, List.set_cons_zero, List.set_cons_succ]
        refine wpAnyIn_done (by kernel_rfl) ?_ _
        gi_wp2
        go_ret
        exact .inr ⟨rfl, q, hq.trans (by simp), hx1⟩
      -- @E
end TS
end Go.Proofs.Ytbdnniaajiiimaa
