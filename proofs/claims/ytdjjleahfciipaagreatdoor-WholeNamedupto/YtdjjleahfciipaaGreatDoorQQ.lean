/- Gathered: ScX ScY. -/
import Derived.Carry
import Derived.Test.YtdjjleahfciipaaGreatDoorQP
/- scan.New, walked (own text of the verifier). -/
namespace Go.Proofs.YtdjjleahfciipaaGreatDoor
open Go.RowKit Go.Maps Go.WideMaps
namespace Sc

/-- A new scanner. -/
theorem SM.new {W : World} {g m : Nat} {T : TypeId} (h : W.heap[g]? = some (.cells #[.int .i64 0, .int .i64 0, .int .u8 0, .int .u8 0, .int .u8 0, .int .u8 0, .int .u8 0, .int .u8 0, .int .u8 0, .int .u8 0, .int .u8 0, .int .u8 0, .int .u8 0, .int .u8 0, .int .u8 0, .int .u8 0, .int .u8 0, .int .u8 0, .int .u8 0, .int .u8 0, .int .u8 0, .int .u8 0, .int .u8 0, .int .u8 0, .int .u8 0, .int .u8 0, .int .u8 0, .int .u8 0, .int .u8 0, .int .u8 0, .int .u8 0, .int .u8 0, .int .u8 0, .map (some m), .slice none 0 0] T (0, 0))) (hm : SetM W m 0 []) : SM W g 0 [] m 0 [] [] (.slice none 0 0) := by
  have fz : ∀ i, W.frozen? ⟨g, i, none⟩ = false := fun i => Lib.frozen_of_heap h i
  refine ⟨⟨by rw [Lib.cell_of_heap h]; rfl, fz _, by rw [Lib.cell_of_heap h]; rfl, fz _, fun i b hb => by simp at hb, fun i hi => ?_, fun i _ => fz _, by simp⟩, by rw [Lib.cell_of_heap h]; rfl, by rw [Lib.cell_of_heap h]; rfl, fz _, hm, ⟨rfl, .inl ⟨rfl, rfl⟩⟩, by simp [Value.ownBlock]⟩
  rw [Lib.cell_of_heap h]
  simp
  omega
/-- One text more is sought. -/
theorem SM.seek {W W' : World} {g n : Nat} {kept : List UInt8} {m N N' : Nat} {S S' F : List (List UInt8)} {fv : Value} (h : SM W g n kept m N S F fv) (hm : SetM W' m N' S') (G : W.grownBy W' (some m)) : SM W' g n kept m N' S' F fv := by
  have e : W'.heap[g]? = W.heap[g]? := G.block g h.lt (fun e => h.apart.1 (Option.some.inj e).symm)
  have c : ∀ i, W'.cell? ⟨g, i, none⟩ = W.cell? ⟨g, i, none⟩ := fun i => World.cell?_of_block (w := W) (w' := W') (a := ⟨g, i, none⟩) e
  exact ⟨h.win.same e, (c _).trans h.cm, (c _).trans h.cf, (World.frozen?_of_block (w := W) (w' := W') (a := ⟨g, 34, none⟩) e).trans h.ff, hm, row_same' h.fr (fun k hk => by
    obtain ⟨cur, hc⟩ := row_cells h.fr k hk
    exact G.block k (Array.getElem?_eq_some_iff.1 hc).1 (fun e => h.apart.2 (by rw [hk, Option.some.inj e]))), h.fg⟩
theorem hsh_two (s : ByteArray) (h : hsh s ≠ 0) : hsh s = 131 := by
  unfold hsh at h ⊢
  by_cases q : hshOk s
  · rw [if_pos q] at h; exact absurd rfl h
  · rw [if_neg q]

set_option maxRecDepth 100000 in
set_option maxHeartbeats 8000000 in
theorem snew_any (hs : List ByteArray) (x : Option Addr) (c : Nat) (w : World) (hn : hs.length ≤ 268435456) (hc : ∀ (j : Nat) (s : ByteArray), hs[j]? = some s → ∃ a : Addr, x = some a ∧ a.block < w.heap.size ∧ w.cell? (a.add j) = some (.string s)) :
    Calls Tryz.prog 10 #[.slice x hs.length c] w fun e w' => Below w.heap.size w w' ∧ (((∃ s ∈ hs, hsh s ≠ 0) ∧ e = .returned (.tuple #[.pointer none, .int .i64 131])) ∨ ((∀ s ∈ hs, hsh s = 0) ∧ ∃ g m S, w.heap.size ≤ g ∧ w.heap.size ≤ m ∧ e = .returned (.tuple #[.pointer (some ⟨g, 0, none⟩), .int .i64 0]) ∧ SM w' g 0 [] m hs.length S [] (.slice none 0 0) ∧ ∀ h, h ∈ S ↔ ∃ s ∈ hs, s.data.toList = h)) := by
  have HC : Hid (∀ (j : Nat) (s : ByteArray), hs[j]? = some s → ∃ a : Addr, x = some a ∧ a.block < w.heap.size ∧ w.cell? (a.add j) = some (.string s)) := hc
  clear hc
  have hmm := @run_makeMap Tryz.prog
  go_enter Tryz.func10, Tryz.ntmps10
  go_wp2_with fail
  have zs : (w.alloc (.map #[] 0)).heap.size = w.heap.size + 1 := World.size_alloc _ _
  have B0 : Hid (Below w.heap.size w ((w.alloc (.map #[] 0)).alloc (.cells #[.int .i64 0, .int .i64 0, .int .u8 0, .int .u8 0, .int .u8 0, .int .u8 0, .int .u8 0, .int .u8 0, .int .u8 0, .int .u8 0, .int .u8 0, .int .u8 0, .int .u8 0, .int .u8 0, .int .u8 0, .int .u8 0, .int .u8 0, .int .u8 0, .int .u8 0, .int .u8 0, .int .u8 0, .int .u8 0, .int .u8 0, .int .u8 0, .int .u8 0, .int .u8 0, .int .u8 0, .int .u8 0, .int .u8 0, .int .u8 0, .int .u8 0, .int .u8 0, .int .u8 0, .map (some w.heap.size), .slice none 0 0] 80))) := ((Below.refl _ _).alloc (Nat.le_refl _) _).alloc (by rw [zs]; omega) _
  have S0 : Hid (SM ((w.alloc (.map #[] 0)).alloc (.cells #[.int .i64 0, .int .i64 0, .int .u8 0, .int .u8 0, .int .u8 0, .int .u8 0, .int .u8 0, .int .u8 0, .int .u8 0, .int .u8 0, .int .u8 0, .int .u8 0, .int .u8 0, .int .u8 0, .int .u8 0, .int .u8 0, .int .u8 0, .int .u8 0, .int .u8 0, .int .u8 0, .int .u8 0, .int .u8 0, .int .u8 0, .int .u8 0, .int .u8 0, .int .u8 0, .int .u8 0, .int .u8 0, .int .u8 0, .int .u8 0, .int .u8 0, .int .u8 0, .int .u8 0, .map (some w.heap.size), .slice none 0 0] 80)) (w.heap.size + 1) 0 [] w.heap.size 0 [] [] (.slice none 0 0)) := by
    refine SM.new (by have := heap_alloc_new (w.alloc (.map #[] 0)) (.cells #[.int .i64 0, .int .i64 0, .int .u8 0, .int .u8 0, .int .u8 0, .int .u8 0, .int .u8 0, .int .u8 0, .int .u8 0, .int .u8 0, .int .u8 0, .int .u8 0, .int .u8 0, .int .u8 0, .int .u8 0, .int .u8 0, .int .u8 0, .int .u8 0, .int .u8 0, .int .u8 0, .int .u8 0, .int .u8 0, .int .u8 0, .int .u8 0, .int .u8 0, .int .u8 0, .int .u8 0, .int .u8 0, .int .u8 0, .int .u8 0, .int .u8 0, .int .u8 0, .int .u8 0, .map (some w.heap.size), .slice none 0 0] 80); rw [zs] at this; exact this) ((SetM.made w).same ?_)
    exact heap_alloc_old _ _ (by rw [zs]; omega)
  clear hmm
  obtain ⟨M, hM⟩ : ∃ M, w.heap.size = M := ⟨_, rfl⟩
  have HM : Hid (w.heap.size = M) := hM
  rw [hM] at S0 B0 ⊢
  clear hM zs
  generalize ((w.alloc (.map #[] 0)).alloc _) = w0 at *
  go_loopw [13] (fun v W => ∃ (j : Nat) (S : List (List UInt8)), j ≤ hs.length ∧ v = .int .i64 (j : Int) ∧ (∀ s ∈ hs.take j, hsh s = 0) ∧ SM W (M + 1) 0 [] M j S [] (.slice none 0 0) ∧ (∀ h, h ∈ S ↔ ∃ s ∈ hs.take j, s.data.toList = h) ∧ Below M w W) (fun v _ => hs.length - (intOf v).toNat)
  case atStart => exact ⟨0, [], Nat.zero_le _, rfl, by simp, S0.out, by simp, B0.out⟩
  case round =>
    obtain ⟨j, S, hj, rfl, hok, hS, hm, hB⟩ := hrel
    have HSJ : Hid _ := hS
    have HBJ : Hid _ := hB
    have HOK : Hid _ := hok
    have HMJ : Hid _ := hm
    clear hS hB hok hm S0 B0
    by_cases hlt : j < hs.length
    · obtain ⟨s, hs0⟩ : ∃ s, hs[j]? = some s := ⟨_, List.getElem?_eq_getElem hlt⟩
      obtain ⟨a, rfl, ha, hc⟩ := HC.out j s hs0
      have hcw : wr.cell? (a.add j) = some (.string s) := by
        refine (HBJ.out.cell (p := a.add j) ?_).trans hc
        have : (a.add j).block = a.block := by unfold Addr.add; split <;> rfl
        rw [this, ← HM.out]; exact ha
      go_wp2_with fail
      refine (ckH_any s wr).mono ?_
      rintro e w2 ⟨rfl, rfl⟩
      have hmem : s ∈ hs := List.mem_of_getElem? hs0
      by_cases h0 : hsh s = 0
      · rw [h0]
        have hsz : s.size ≤ maxLen := by rw [(hshOk_of h0).1]; unfold maxLen; omega
        obtain ⟨w3, hup, st3, ht⟩ := HSJ.out.st.put (by unfold maxLen; omega) s hsz
        have c33 := HSJ.out.cm
        have S3 : Hid _ := HSJ.out.seek st3 ht.grown
        have B3 : Hid (Below M w w3) := HBJ.out.grown ht.grown (by have := HBJ.out.size; have := HM.out; omega) (fun k hk => by have := Option.some.inj hk; omega)
        clear st3 ht
        have htk : hs.take (j + 1) = hs.take j ++ [s] := by rw [List.take_add_one, hs0]; rfl
        have HTK : Hid _ := htk
        clear htk
        go_wp2
        go_roundw
        case rel =>
          refine ⟨j + 1, s.data.toList :: S, by omega, by go_num, fun q hq => ?_, S3.out, fun h => ?_, B3.out⟩
          · rw [HTK.out, List.mem_append, List.mem_singleton] at hq
            rcases hq with hq | rfl
            · exact HOK.out q hq
            · exact h0
          · rw [List.mem_cons, HMJ.out h, HTK.out]
            constructor
            · rintro (rfl | ⟨q, h1, h2⟩)
              · exact ⟨s, by simp, rfl⟩
              · exact ⟨q, by rw [List.mem_append]; exact .inl h1, h2⟩
            · rintro ⟨q, h1, h2⟩
              rw [List.mem_append, List.mem_singleton] at h1
              rcases h1 with h1 | rfl
              · exact .inr ⟨q, h1, h2⟩
              · exact .inl h2.symm
        case measure => simp [intOf]; omega
      · have h1 := hsh_two s h0
        rw [h1]
        go_wp2
        go_ret2
        exact ⟨by rw [HM.out]; exact HBJ.out, .inl ⟨⟨s, hmem, h0⟩, rfl⟩⟩
    · obtain rfl : j = hs.length := by omega
      go_wp2
      go_ret2
      have hall := HOK.out
      have hmm := HMJ.out
      rw [List.take_length] at hall hmm
      exact ⟨by rw [HM.out]; exact HBJ.out, .inr ⟨hall, M + 1, M, S, by rw [HM.out]; omega, Nat.le_of_eq HM.out, rfl, HSJ.out, hmm⟩⟩

end Sc
end Go.Proofs.YtdjjleahfciipaaGreatDoor
/- slices.Sort of no texts, walked (own text of the verifier). -/
namespace Go.Proofs.YtdjjleahfciipaaGreatDoor
open Go.RowKit
namespace Sc

set_option maxRecDepth 100000 in
set_option maxHeartbeats 4000000 in
theorem len64_0 (w : World) : Calls Tryz.prog 92 #[.int .u64 0] w fun e w' => e = .returned (.int .i64 0) ∧ w' = w := by
  go_enter Tryz.func92, Tryz.ntmps92
  go_wp2
  go_ret
  refine ⟨?_, rfl⟩
  kernel_rfl
set_option maxRecDepth 100000 in
set_option maxHeartbeats 4000000 in
theorem len_0 (w : World) : Calls Tryz.prog 62 #[.int .u64 0] w fun e w' => e = .returned (.int .i64 0) ∧ w' = w := by
  go_enter Tryz.func62, Tryz.ntmps62
  go_wp2_with fail
  with_reducible refine (len64_0 _).mono ?_
  rintro e w' ⟨rfl, rfl⟩
  go_wp2
  go_ret
  exact ⟨rfl, rfl⟩
set_option maxRecDepth 100000 in
set_option maxHeartbeats 4000000 in
theorem ins_0 (w : World) : Calls Tryz.prog 82 #[.slice none 0 0, .int .i64 0, .int .i64 0] w fun e w' => e = .returned (.tuple #[]) ∧ w' = w := by
  go_enter Tryz.func82, Tryz.ntmps82
  go_wp2_with fail
  refine wp_loop_once ?_
  go_wp2
  go_end0
  exact ⟨rfl, rfl⟩
set_option maxRecDepth 100000 in
set_option maxHeartbeats 4000000 in
theorem pdq_0 (w : World) (L : Value) : Calls Tryz.prog 61 #[.slice none 0 0, .int .i64 0, .int .i64 0, L] w fun e w' => e = .returned (.tuple #[]) ∧ w' = w := by
  go_enter Tryz.func61, Tryz.ntmps61
  go_wp2_with fail
  refine wp_loop_once ?_
  go_wp2_with fail
  with_reducible refine (ins_0 _).mono ?_
  rintro e w' ⟨rfl, rfl⟩
  go_wp2
  exact bodyPost_ret (v := .tuple #[]) (by simp [results, Tryz.results61]) rfl ⟨rfl, rfl⟩
set_option maxRecDepth 100000 in
set_option maxHeartbeats 4000000 in
theorem sort_nil (w : World) : Calls Tryz.prog 37 #[.slice none 0 0] w fun e w' => e = .returned (.tuple #[]) ∧ w' = w := by
  go_enter Tryz.func37, Tryz.ntmps37
  go_wp2_with fail
  with_reducible refine (len_0 _).mono ?_
  rintro e w' ⟨rfl, rfl⟩
  go_wp2_with fail
  with_reducible refine (pdq_0 _ _).mono ?_
  rintro e w' ⟨rfl, rfl⟩
  go_wp2
  go_end0
  exact ⟨rfl, rfl⟩

end Sc
end Go.Proofs.YtdjjleahfciipaaGreatDoor
