/- A table's From: what a range over it gives (own text of the verifier). -/
import Derived.Test.YtbdnniaajiiimaaWkB
namespace Go.Proofs.Ytbdnniaajiiimaa
namespace TS
open Go.RowKit Go.Shelf
attribute [local go_sem] Oper.semAt_some

set_option maxHeartbeats 1000000 in
theorem from1_in (F : Fence) (hd : F.depth = none) (n : Nat) (h5 : F.fn 26) (h6 : F.fn 32) (h7 : F.fn 27) (hro : F.round = none) (l Bt Bk Tb n₀ X : Nat) (ky : ByteArray) (p0 : Option Addr) (T : BT ByteArray) (J Jx : List (ByteArray × Int) → World → Prop) (hJd : ∀ pre W, J pre W → J pre W.drew)
    (hY : ∀ pre x W, J pre W → pre.length < (frT ky T).length → YieldAt F (n - 1) Try.prog l #[Value.string x.1, .int .i64 x.2] W fun e W' =>
      (e = .returned (.bool true) ∧ J (pre ++ [x]) W' ∧ BX n₀ X W W') ∨ (e = .returned (.bool false) ∧ Jx (pre ++ [x]) W'))
    (W : World) (hBt : W.cell? ⟨Bt, 0, none⟩ = some (.pointer (some ⟨Tb, 0, none⟩))) (hBk : W.cell? ⟨Bk, 0, none⟩ = some (.string ky)) (hTb : W.cell? ⟨Tb, 0, none⟩ = some (.pointer p0)) (hT : TrX n₀ X W T p0) (h0 : J [] W) :
    CallsIn F n Try.prog 26 #[.func (.yield l) #[] #[], .pointer (some ⟨Bt, 0, none⟩), .pointer (some ⟨Bk, 0, none⟩)] W fun e W' => (∃ v, e = .returned v) ∧
      ((∃ ys, ys = frT ky T ∧ J ys W') ∨ (∃ pre, pre <+: frT ky T ∧ Jx pre W')) := by
  have hdd : ∀ k : Nat, (F.depth.isSome = true → 1 ≤ k) := fun k h => by rw [hd] at h; cases h
  have hnf : ∀ W : World, (binOp .neq 28 (Value.func (Fn.yield l) #[] #[]) Value.nilFunc).run Try.prog W = .ok (.bool true) W := fun _ => rfl
  have hp := walkFrom_in F hd h6 h7 hro l n₀ X (frT ky T).length J Jx hJd (fun m pre x W hj hl => yield_any hd m (hY pre x W hj hl)) ky T (n - 1) p0 [] W.drew (TrX.below (BX.refl _ _ _).drew hT) (hJd _ _ h0) (by simp)
  refine callsIn_of_wp Try.func26 rfl h5 ?_ hro
  simp only [Try.ntmps26, List.size_toArray, List.length_cons, List.length_nil, Nat.reduceAdd, Nat.reduceSub, Array.replicate_succ, Array.replicate_zero, List.push_toArray, List.append_toArray, List.nil_append, List.cons_append]
  have d0 : W.drew.cell? ⟨Bt, 0, none⟩ = some (.pointer (some ⟨Tb, 0, none⟩)) := hBt
  have d1 : W.drew.cell? ⟨Bk, 0, none⟩ = some (.string ky) := hBk
  have d2 : W.drew.cell? ⟨Tb, 0, none⟩ = some (.pointer p0) := hTb
  gi_wp2
  -- @R
  refine wpIn_region_any (by kernel_rfl) ?_
  show wpAnyIn _ _ _ _ _ _ _ _ _ W.drew
  refine wpAnyIn_take (i := 5) (oi := { dst := some 11, op := Op.move (Operand.tmp 0), type := 28, pos := "table.go:80", after := #[], guard := none }) (v := .func (.yield l) #[] #[]) hro rfl (by kernel_rfl) (by kernel_rfl) (by kernel_rfl) (fun _ _ _ h => h) ⟨Or.inl ⟨by rfl, by intro w; go_simp⟩, fun _ => rfl⟩ ?_
  simp only [Act.put, List.setIfInBounds_toArray, List.set_cons_zero, List.set_cons_succ]
  refine wpAnyIn_ready (rs := [0, 4]) (by kernel_rfl) (by decide) (AllReadyIn.cons (o := { dst := some 6, op := Op.load 23 (Operand.tmp 1), type := 23, pos := "table.go:80", after := #[], guard := none }) rfl (fun K hK => ?_) (AllReadyIn.cons (o := { dst := some 10, op := Op.load 9 (Operand.tmp 2), type := 9, pos := "table.go:80", after := #[], guard := none }) rfl (fun K hK => ?_) AllReadyIn.nil))
  · rw [if_pos (by rfl)]
    go_simp
    refine hK _ _ ?_
    clear hK K
    try simp only [Act.put, List.setIfInBounds_toArray, List.set_cons_zero, List.set_cons_succ]
    refine wpAnyIn_take (i := 1) (oi := { dst := some 7, op := Op.nilCheck (Operand.tmp 6), type := 0, pos := "table.go:80", after := #[{ on := 0, ground := Ground.data }], guard := none }) (v := .pointer (some ⟨Tb, 0, none⟩)) hro rfl (by kernel_rfl) (by kernel_rfl) (by kernel_rfl) (fun _ _ _ h => h) ⟨Or.inl ⟨by rfl, by intro w; go_simp⟩, fun _ => rfl⟩ ?_
    simp only [Act.put, List.setIfInBounds_toArray, List.set_cons_zero, List.set_cons_succ]
    refine wpAnyIn_take (i := 2) (oi := { dst := some 8, op := Op.fieldAddr 50 (Operand.tmp 7) 0, type := 0, pos := "table.go:80", after := #[{ on := 1, ground := Ground.data }], guard := none }) (v := .pointer (some ⟨Tb, 0, none⟩)) hro rfl (by kernel_rfl) (by kernel_rfl) (by kernel_rfl) (fun _ _ _ h => h) ⟨Or.inl ⟨by rfl, by intro w; go_simp⟩, fun _ => rfl⟩ ?_
    simp only [Act.put, List.setIfInBounds_toArray, List.set_cons_zero, List.set_cons_succ]
    refine wpAnyIn_ready (rs := [3, 4]) (by kernel_rfl) (by decide) (AllReadyIn.cons (o := { dst := some 9, op := Op.load 48 (Operand.tmp 8), type := 48, pos := "table.go:80", after := #[{ on := 2, ground := Ground.data }], guard := none }) rfl (fun K hK => ?_) (AllReadyIn.cons (o := { dst := some 10, op := Op.load 9 (Operand.tmp 2), type := 9, pos := "table.go:80", after := #[], guard := none }) rfl (fun K hK => ?_) AllReadyIn.nil))
    · rw [if_pos (by rfl)]
      go_simp
      refine hK _ _ ?_
      clear hK K
      try simp only [Act.put, List.setIfInBounds_toArray, List.set_cons_zero, List.set_cons_succ]
      refine wpAnyIn_ready (rs := [4]) (by kernel_rfl) (by decide) (AllReadyIn.cons (o := { dst := some 10, op := Op.load 9 (Operand.tmp 2), type := 9, pos := "table.go:80", after := #[], guard := none }) rfl (fun K hK => ?_) AllReadyIn.nil)
      rw [if_pos (by rfl)]
      go_simp
      refine hK _ _ ?_
      clear hK K
      try simp only [Act.put, List.setIfInBounds_toArray, List.set_cons_zero, List.set_cons_succ]
      refine wpAnyIn_ready (rs := [6]) (by kernel_rfl) (by decide) (AllReadyIn.cons (o := { dst := some 12, op := Op.call { callee := Callee.value (Operand.func 27), args := #[Operand.tmp 9, Operand.tmp 10, Operand.tmp 11], argTypes := #[48, 9, 28] }, type := 4, pos := "table.go:80", after := #[{ on := 3, ground := Ground.data }, { on := 4, ground := Ground.data }, { on := 5, ground := Ground.data }], guard := none }) rfl (fun K hK => ?_) AllReadyIn.nil)
      rw [if_pos (by rfl)]
      go_simp
      try refine ⟨hdd _, ?_⟩
      try gi_at_call 27
      refine hp.mono ?_
      clear hp
      rintro e W1 (⟨rfl, hJ1, _⟩ | ⟨rfl, q, hq, hx⟩)
      · first | (refine hK _ _ ?_; clear hK K) | gi_wp2
        try (refine hK _ _ ?_; clear hK K)
        try simp only [Act.put, List.setIfInBounds_toArray, List.set_cons_zero, List.set_cons_succ]
        refine wpAnyIn_done (by kernel_rfl) ?_ _
        gi_wp2
        go_end0
        exact ⟨⟨_, rfl⟩, .inl ⟨_, rfl, by simpa using hJ1⟩⟩
      · first | (refine hK _ _ ?_; clear hK K) | gi_wp2
        try (refine hK _ _ ?_; clear hK K)
        try simp only [Act.put, List.setIfInBounds_toArray, List.set_cons_zero, List.set_cons_succ]
        refine wpAnyIn_done (by kernel_rfl) ?_ _
        gi_wp2
        go_end0
        exact ⟨⟨_, rfl⟩, .inr ⟨q, hq, by simpa using hx⟩⟩
    · rw [if_pos (by rfl)]
      go_simp
      refine hK _ _ ?_
      clear hK K
      try simp only [Act.put, List.setIfInBounds_toArray, List.set_cons_zero, List.set_cons_succ]
      refine wpAnyIn_ready (rs := [3]) (by kernel_rfl) (by decide) (AllReadyIn.cons (o := { dst := some 9, op := Op.load 48 (Operand.tmp 8), type := 48, pos := "table.go:80", after := #[{ on := 2, ground := Ground.data }], guard := none }) rfl (fun K hK => ?_) AllReadyIn.nil)
      rw [if_pos (by rfl)]
      go_simp
      refine hK _ _ ?_
      clear hK K
      try simp only [Act.put, List.setIfInBounds_toArray, List.set_cons_zero, List.set_cons_succ]
      refine wpAnyIn_ready (rs := [6]) (by kernel_rfl) (by decide) (AllReadyIn.cons (o := { dst := some 12, op := Op.call { callee := Callee.value (Operand.func 27), args := #[Operand.tmp 9, Operand.tmp 10, Operand.tmp 11], argTypes := #[48, 9, 28] }, type := 4, pos := "table.go:80", after := #[{ on := 3, ground := Ground.data }, { on := 4, ground := Ground.data }, { on := 5, ground := Ground.data }], guard := none }) rfl (fun K hK => ?_) AllReadyIn.nil)
      rw [if_pos (by rfl)]
      go_simp
      try refine ⟨hdd _, ?_⟩
      try gi_at_call 27
      refine hp.mono ?_
      clear hp
      rintro e W1 (⟨rfl, hJ1, _⟩ | ⟨rfl, q, hq, hx⟩)
      · first | (refine hK _ _ ?_; clear hK K) | gi_wp2
        try (refine hK _ _ ?_; clear hK K)
        try simp only [Act.put, List.setIfInBounds_toArray, List.set_cons_zero, List.set_cons_succ]
        refine wpAnyIn_done (by kernel_rfl) ?_ _
        gi_wp2
        go_end0
        exact ⟨⟨_, rfl⟩, .inl ⟨_, rfl, by simpa using hJ1⟩⟩
      · first | (refine hK _ _ ?_; clear hK K) | gi_wp2
        try (refine hK _ _ ?_; clear hK K)
        try simp only [Act.put, List.setIfInBounds_toArray, List.set_cons_zero, List.set_cons_succ]
        refine wpAnyIn_done (by kernel_rfl) ?_ _
        gi_wp2
        go_end0
        exact ⟨⟨_, rfl⟩, .inr ⟨q, hq, by simpa using hx⟩⟩
  · rw [if_pos (by rfl)]
    go_simp
    refine hK _ _ ?_
    clear hK K
    try simp only [Act.put, List.setIfInBounds_toArray, List.set_cons_zero, List.set_cons_succ]
    refine wpAnyIn_ready (rs := [0]) (by kernel_rfl) (by decide) (AllReadyIn.cons (o := { dst := some 6, op := Op.load 23 (Operand.tmp 1), type := 23, pos := "table.go:80", after := #[], guard := none }) rfl (fun K hK => ?_) AllReadyIn.nil)
    rw [if_pos (by rfl)]
    go_simp
    refine hK _ _ ?_
    clear hK K
    try simp only [Act.put, List.setIfInBounds_toArray, List.set_cons_zero, List.set_cons_succ]
    refine wpAnyIn_take (i := 1) (oi := { dst := some 7, op := Op.nilCheck (Operand.tmp 6), type := 0, pos := "table.go:80", after := #[{ on := 0, ground := Ground.data }], guard := none }) (v := .pointer (some ⟨Tb, 0, none⟩)) hro rfl (by kernel_rfl) (by kernel_rfl) (by kernel_rfl) (fun _ _ _ h => h) ⟨Or.inl ⟨by rfl, by intro w; go_simp⟩, fun _ => rfl⟩ ?_
    simp only [Act.put, List.setIfInBounds_toArray, List.set_cons_zero, List.set_cons_succ]
    refine wpAnyIn_take (i := 2) (oi := { dst := some 8, op := Op.fieldAddr 50 (Operand.tmp 7) 0, type := 0, pos := "table.go:80", after := #[{ on := 1, ground := Ground.data }], guard := none }) (v := .pointer (some ⟨Tb, 0, none⟩)) hro rfl (by kernel_rfl) (by kernel_rfl) (by kernel_rfl) (fun _ _ _ h => h) ⟨Or.inl ⟨by rfl, by intro w; go_simp⟩, fun _ => rfl⟩ ?_
    simp only [Act.put, List.setIfInBounds_toArray, List.set_cons_zero, List.set_cons_succ]
    refine wpAnyIn_ready (rs := [3]) (by kernel_rfl) (by decide) (AllReadyIn.cons (o := { dst := some 9, op := Op.load 48 (Operand.tmp 8), type := 48, pos := "table.go:80", after := #[{ on := 2, ground := Ground.data }], guard := none }) rfl (fun K hK => ?_) AllReadyIn.nil)
    rw [if_pos (by rfl)]
    go_simp
    refine hK _ _ ?_
    clear hK K
    try simp only [Act.put, List.setIfInBounds_toArray, List.set_cons_zero, List.set_cons_succ]
    refine wpAnyIn_ready (rs := [6]) (by kernel_rfl) (by decide) (AllReadyIn.cons (o := { dst := some 12, op := Op.call { callee := Callee.value (Operand.func 27), args := #[Operand.tmp 9, Operand.tmp 10, Operand.tmp 11], argTypes := #[48, 9, 28] }, type := 4, pos := "table.go:80", after := #[{ on := 3, ground := Ground.data }, { on := 4, ground := Ground.data }, { on := 5, ground := Ground.data }], guard := none }) rfl (fun K hK => ?_) AllReadyIn.nil)
    rw [if_pos (by rfl)]
    go_simp
    try refine ⟨hdd _, ?_⟩
    try gi_at_call 27
    refine hp.mono ?_
    clear hp
    rintro e W1 (⟨rfl, hJ1, _⟩ | ⟨rfl, q, hq, hx⟩)
    · first | (refine hK _ _ ?_; clear hK K) | gi_wp2
      try (refine hK _ _ ?_; clear hK K)
      try simp only [Act.put, List.setIfInBounds_toArray, List.set_cons_zero, List.set_cons_succ]
      refine wpAnyIn_done (by kernel_rfl) ?_ _
      gi_wp2
      go_end0
      exact ⟨⟨_, rfl⟩, .inl ⟨_, rfl, by simpa using hJ1⟩⟩
    · first | (refine hK _ _ ?_; clear hK K) | gi_wp2
      try (refine hK _ _ ?_; clear hK K)
      try simp only [Act.put, List.setIfInBounds_toArray, List.set_cons_zero, List.set_cons_succ]
      refine wpAnyIn_done (by kernel_rfl) ?_ _
      gi_wp2
      go_end0
      exact ⟨⟨_, rfl⟩, .inr ⟨q, hq, by simpa using hx⟩⟩
  -- @E

set_option maxHeartbeats 1000000 in
theorem from_in (F : Fence) (n : Nat) (h4 : F.fn 17) (hro : F.round = none) (q : Option Addr) (ky : ByteArray) (w : World) :
    CallsIn F n Try.prog 17 #[.pointer q, .string ky] w fun e w' => e = .returned (.func (.func 26) #[] #[.pointer (some ⟨w.heap.size, 0, none⟩), .pointer (some ⟨w.heap.size + 1, 0, none⟩)]) ∧ w' = (w.alloc (.cells #[.pointer q] 23)).alloc (.cells #[.string ky] 9) := by
  refine callsIn_of_wp Try.func17 rfl h4 ?_ hro
  simp only [Try.ntmps17, List.size_toArray, List.length_cons, List.length_nil, Nat.reduceAdd, Nat.reduceSub, Array.replicate_succ, Array.replicate_zero, List.push_toArray, List.append_toArray, List.nil_append, List.cons_append]
  gi_wp2
  go_ret
  exact ⟨by simp, rfl⟩

theorem from_stops (F : Fence) (hd : F.depth = none) (n : Nat) (h5 : F.fn 26) (h6 : F.fn 32) (h7 : F.fn 27) (hro : F.round = none) (Bt Bk Tb n₀ X : Nat) (ky : ByteArray) (p0 : Option Addr) (T : BT ByteArray) (w : World) (hBt : Bt < w.heap.size) (hBk : Bk < w.heap.size) (hTb : Tb < w.heap.size) (hn₀ : n₀ ≤ w.heap.size)
    (hc : w.cell? ⟨Bt, 0, none⟩ = some (.pointer (some ⟨Tb, 0, none⟩))) (hk : w.cell? ⟨Bk, 0, none⟩ = some (.string ky)) (hc2 : w.cell? ⟨Tb, 0, none⟩ = some (.pointer p0)) (hT : TrX n₀ X w T p0) :
    SeqStopsK F n Try.prog 26 #[.pointer (some ⟨Bt, 0, none⟩), .pointer (some ⟨Bk, 0, none⟩)] (fun x : ByteArray × Int => #[Value.string x.1, .int .i64 x.2]) (BX n₀ X) (fun ys => ys = frT ky T) (fun pre => pre <+: frT ky T) (frT ky T).length w := fun l J Jx W hW hJ _ hY h0 =>
  from1_in F hd n h5 h6 h7 hro l Bt Bk Tb n₀ X ky p0 T J Jx (fun pre W h => hJ pre W W.drew none h (gb_drew W) (fun r e => by cases e)) hY W ((hW.cell (p := ⟨Bt, 0, none⟩) hBt).trans hc) ((hW.cell (p := ⟨Bk, 0, none⟩) hBk).trans hk) ((hW.cell (p := ⟨Tb, 0, none⟩) hTb).trans hc2) (TrX.below (BX.of (hW.mono hn₀)) hT) h0
end TS
end Go.Proofs.Ytbdnniaajiiimaa
