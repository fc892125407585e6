/- The printer's step; Print, walked. -/
import Derived.Test.YtbfhfejdmhjccaaRpB
namespace Go.Proofs.Ytbfhfejdmhjccaa
open Go.RowKit

theorem cms_take {α : Type} (f : α → List UInt8) (L : List α) (i : Nat) (x : α) (h : L[i]? = some x) : cms f (L.take (i + 1)) = cms f (L.take i) ++ 44 :: f x := by
  unfold cms
  rw [List.take_add_one, List.flatMap_append, h]
  simp
theorem cms_part {α : Type} (f : α → List UInt8) (L : List α) (i : Nat) : (cms f (L.take i)).length ≤ (cms f L).length := by
  have : cms f L = cms f (L.take i) ++ cms f (L.drop i) := by unfold cms; rw [← List.flatMap_append, List.take_append_drop]
  rw [this, List.length_append]
  omega
theorem seq_take {α : Type} (f : α → List UInt8) (L : List α) (i : Nat) (x : α) (h : L[i]? = some x) : seq f (L.take (i + 1)) = seq f (L.take i) ++ ((if i = 0 then [] else [44]) ++ f x) := by
  cases i with
  | zero =>
    cases L with
    | nil => simp at h
    | cons a L => simp at h; subst h; simp [seq, cms]
  | succ i =>
    cases L with
    | nil => simp at h
    | cons a L =>
      rw [if_neg (by omega)]
      have := cms_take f L i x (by simpa using h)
      rw [List.take_succ_cons, List.take_succ_cons]
      show f a ++ cms f (L.take (i + 1)) = (f a ++ cms f (L.take i)) ++ ([44] ++ f x)
      rw [this]
      simp
theorem seq_part {α : Type} (f : α → List UInt8) (L : List α) (i : Nat) : (seq f (L.take i)).length ≤ (seq f L).length := by
  cases i with
  | zero => rw [List.take_zero]; exact Nat.zero_le _
  | succ i =>
    cases L with
    | nil => simp
    | cons a L =>
      rw [List.take_succ_cons]
      show (f a ++ cms f (L.take i)).length ≤ (f a ++ cms f L).length
      rw [List.length_append, List.length_append]
      have := cms_part f L i
      omega
theorem seq_mem {α : Type} (f : α → List UInt8) (L : List α) (i : Nat) (x : α) (h : L[i]? = some x) : (seq f (L.take i)).length + (f x).length + (if i = 0 then 0 else 1) ≤ (seq f L).length := by
  have h1 := seq_part f L (i + 1)
  rw [seq_take f L i x h, List.length_append, List.length_append] at h1
  by_cases e : i = 0
  · rw [if_pos e] at h1 ⊢; simp at h1; omega
  · rw [if_neg e] at h1 ⊢; simp at h1; omega
theorem cms_mem {α : Type} (f : α → List UInt8) (L : List α) (i : Nat) (x : α) (h : L[i]? = some x) : (cms f (L.take i)).length + (f x).length + 1 ≤ (cms f L).length := by
  have h1 := cms_part f L (i + 1)
  rw [cms_take f L i x h, List.length_append, List.length_cons] at h1
  omega
theorem qT_len (t : List UInt8) : t.length + 2 ≤ (qT t).length := by
  have : ∀ t : List UInt8, t.length ≤ (t.flatMap esc).length := by
    intro t
    induction t with
    | nil => simp
    | cons x t ih =>
      rw [List.flatMap_cons, List.length_append, List.length_cons]
      have : 1 ≤ (esc x).length := by rcases esc_cases x with ⟨k, y, -, -, e, -⟩ | ⟨-, e⟩ <;> rw [e] <;> simp
      omega
  have := this t
  unfold qT
  rw [List.length_cons, List.length_append, List.length_singleton]
  omega
theorem cms_len {α : Type} (f : α → List UInt8) (L : List α) : L.length ≤ (cms f L).length := by
  unfold cms
  induction L with
  | nil => simp
  | cons t L ih =>
    rw [List.flatMap_cons, List.length_append, List.length_cons, List.length_cons]
    omega

theorem St2.bk {w w' : World} {g h : Nat} {a b : Value} (s : St2 w h a b) (k : Bk g w w') (hne : h ≠ g) : St2 w' h a b :=
  s.same (k.keep h s.lt hne (fun cur fz hc => by rw [s] at hc; injection hc with hc; injection hc with _ hc; exact absurd hc (by decide)))

set_option maxHeartbeats 8000000 in
theorem pstep_any (g : Nat) (l : List UInt8) (a : Stp) (v : Value) (w : World) (h : Bd 70 w g l) (hv : RT w g v a.2) (hl : l.length + 2 * (sT a).length ≤ 1073740000) :
    Calls Try.prog 27 #[.pointer (some ⟨g, 0, none⟩), .agg #[.string (ba a.1), v]] w fun e w' => e = .returned (.tuple #[]) ∧ Bd 70 w' g (l ++ sT a) ∧ Below g w w' ∧ Bk g w w' := by
  have h40 : ((40 : UInt8).toNat : Int) = 40 := rfl
  have h41 : ((41 : UInt8).toNat : Int) = 41 := rfl
  have h44 : ((44 : UInt8).toNat : Int) = 44 := rfl
  obtain ⟨op, L⟩ := a
  dsimp only at hv ⊢
  have hsl : Hid ((sT (op, L)).length = (qT op).length + (cms qT L).length + 2) := by
    show (40 :: (qT op ++ (cms qT L ++ [41]))).length = _
    rw [List.length_cons, List.length_append, List.length_append, List.length_singleton]
    omega
  have hsl' := hsl.out
  have hq0 := qT_len op
  have hgl := h.lt
  have b0 : Below w.heap.size w (w.alloc (.cells #[.string (ba op), v] 47)) := (Below.refl _ _).alloc (Nat.le_refl _) _
  have S0 := St2.new w (.string (ba op)) v
  have B0 := h.below b0
  have L0 : Below g w (w.alloc (.cells #[.string (ba op), v] 47)) ∧ Bk g w (w.alloc (.cells #[.string (ba op), v] 47)) := ⟨(Below.refl g w).alloc (by omega) _, Bk.below b0⟩
  have HV : Hid (RT w g v L) := hv
  obtain ⟨x, c, rfl, hx⟩ := hv
  have hLl := cms_len qT L
  clear h b0 hx
  go_enter Try.func27, Try.ntmps27
  go_wp2_with fail
  generalize w.alloc (.cells #[.string (ba op), .slice x L.length c] 47) = w0 at S0 B0 L0 ⊢
  have HS0 : Hid (St2 w0 w.heap.size (.string (ba op)) (.slice x L.length c)) := S0
  have HL0 : Hid (Below g w w0 ∧ Bk g w w0) := L0
  generalize w.heap.size = k at HS0 hgl S0 ⊢
  have W1 := wbyteK_any 70 (.inr rfl) g l 40 w0 B0 (by omega)
  rw [h40] at W1
  clear S0 L0 B0
  refine W1.mono ?_
  rintro e w1 ⟨rfl, B1, L1, K1⟩
  have HB1 : Hid (Bd 70 w1 g (l ++ [40])) := B1
  have HL1 : Hid (Below g w w1 ∧ Bk g w w1) := ⟨HL0.out.1.trans L1, HL0.out.2.trans K1⟩
  have HS1 : Hid (St2 w1 k (.string (ba op)) (.slice x L.length c)) := HS0.out.bk K1 (by omega)
  clear B1 L1 K1 HS0 HL0 W1
  have c0 := HS1.out.c0
  go_wp2_with fail
  refine (pquoted_any g (l ++ [40]) op w1 HB1.out (by rw [List.length_append]; show l.length + 1 + _ ≤ _; omega)).mono ?_
  rintro e w2 ⟨rfl, B2, L2, K2⟩
  have HB2 : Hid (Bd 70 w2 g (l ++ [40] ++ qT op ++ cms qT (L.take 0))) := by
    unfold Hid
    rw [List.take_zero]
    show Bd 70 w2 g (l ++ [40] ++ qT op ++ [])
    rw [List.append_nil]
    exact B2
  have HL2 : Hid (Below g w w2 ∧ Bk g w w2) := ⟨HL1.out.1.trans L2, HL1.out.2.trans K2⟩
  have HS2 : Hid (St2 w2 k (.string (ba op)) (.slice x L.length c)) := HS1.out.bk K2 (by omega)
  clear B2 L2 K2 HS1 HL1 HB1 c0
  have c1 := HS2.out.c1
  go_wp2_with fail
  go_loopg [5, 17] L.length (fun gk u5 iv wr => ∃ i : Nat, gk + i = L.length ∧ iv = .int .i64 (i : Int) ∧ Hid (Bd 70 wr g (l ++ [40] ++ qT op ++ cms qT (L.take i))) ∧ Hid (Below g w wr ∧ Bk g w wr))
  case atStart => exact ⟨0, rfl, rfl, HB2, HL2⟩
  case round =>
    obtain ⟨i, hgk, rfl, hB, hL⟩ := hrel
    clear HB2 HL2 HS2 c1
    by_cases hi : i < L.length
    · obtain ⟨t, ht⟩ : ∃ t, L[i]? = some t := ⟨_, List.getElem?_eq_getElem hi⟩
      have hm := cms_mem qT L i t ht
      have hqt := qT_len t
      have HN : Hid (l ++ [40] ++ qT op ++ cms qT (L.take (i + 1)) = l ++ [40] ++ qT op ++ cms qT (L.take i) ++ [44] ++ qT t) := by
        unfold Hid
        rw [cms_take qT L i t ht]
        simp
      have hcs : (l ++ [40] ++ qT op ++ cms qT (L.take i)).length = l.length + 1 + (qT op).length + (cms qT (L.take i)).length := by rw [List.length_append, List.length_append, List.length_append, List.length_singleton]
      obtain ⟨x', c', e', hx⟩ := HV.out
      injection e' with e1 e2 e3
      subst e1
      obtain ⟨b, o, rfl, hb, hcl⟩ := hx i t ht
      have hc2 : wr.cell? ⟨b, o + i, none⟩ = some (.string (ba t)) := cell_keep hL.out.1 (by show b < g; omega) hcl
      generalize l ++ [40] ++ qT op ++ cms qT (L.take i) = O at hB HN hcs
      have W4 := wbyteK_any 70 (.inr rfl) g O 44 wr hB.out (by omega)
      rw [h44] at W4
      have hi' : (i : Int) < (L.length : Int) := by omega
      clear hcl hx e3 e2 hb
      go_wp2_with fail
      refine W4.mono ?_
      rintro e w4 ⟨rfl, B4, L4, K4⟩
      have HB4 : Hid (Bd 70 w4 g (O ++ [44])) := B4
      have HL4 : Hid (Below g w w4 ∧ Bk g w w4) := ⟨hL.out.1.trans L4, hL.out.2.trans K4⟩
      clear B4 L4 K4 W4 hB hL hc2
      go_wp2_with fail
      refine (pquoted_any g (O ++ [44]) t w4 HB4.out (by rw [List.length_append]; show O.length + 1 + _ ≤ _; omega)).mono ?_
      rintro e w5 ⟨rfl, B5, L5, K5⟩
      have HB5 : Hid (Bd 70 w5 g (l ++ [40] ++ qT op ++ cms qT (L.take (i + 1)))) := by unfold Hid; rw [HN.out]; exact B5
      have HL5 : Hid (Below g w w5 ∧ Bk g w w5) := ⟨HL4.out.1.trans L5, HL4.out.2.trans K5⟩
      clear B5 L5 K5 HB4 HL4
      go_wp2
      go_roundg (gk - 1)
      case measure => omega
      case rel => exact ⟨i + 1, by omega, by go_num, HB5, HL5⟩
    · have hi' : ¬ (i : Int) < (L.length : Int) := by omega
      have hb := hB.out
      rw [List.take_of_length_le (by omega)] at hb
      have W3 := wbyteK_any 70 (.inr rfl) g _ 41 wr hb (by rw [List.length_append, List.length_append, List.length_append, List.length_singleton]; omega)
      rw [h41] at W3
      go_wp2_with fail
      refine W3.mono ?_
      rintro e w3 ⟨rfl, B3, L3, K3⟩
      have HB3 : Hid (Bd 70 w3 g (l ++ sT (op, L))) := by
        unfold Hid sT
        simpa using B3
      have HL3 : Hid (Below g w w3 ∧ Bk g w w3) := ⟨hL.out.1.trans L3, hL.out.2.trans K3⟩
      clear B3 L3 K3 W3 hb
      go_wp2
      go_end0
      exact ⟨rfl, HB3.out, HL3.out⟩

end Go.Proofs.Ytbfhfejdmhjccaa
