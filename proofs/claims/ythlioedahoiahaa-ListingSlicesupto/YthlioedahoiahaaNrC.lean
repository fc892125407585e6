/- The parser's machine over archives (plain; own text of the verifier). -/
import Derived.Test.YthlioedahoiahaaNrB
namespace Go.Proofs.Ythlioedahoiahaa
open Go.RowKit

theorem lek_range (n : Nat) : lek n 8 = (List.range 8).map (fun j => UInt8.ofNat (w8 (n : Int) j).toNat) := by
  have e : List.range 8 = [0, 1, 2, 3, 4, 5, 6, 7] := rfl
  rw [e]
  have h : ∀ j, (w8 (n : Int) j).toNat = n / 2 ^ (8 * j) % 256 := fun j => by
    unfold w8
    have h1 : ((n : Int) / 2 ^ (8 * j)) = ((n / 2 ^ (8 * j) : Nat) : Int) := by push_cast; rfl
    rw [h1]
    omega
  simp only [List.map_cons, List.map_nil, h, lek]
  simp only [Nat.div_div_eq_div_mul]
  simp
theorem txt_list (s : ByteArray) : (txt s).data.toList = fr8 s.data.toList := by
  have hz : s.data.toList.length = s.size := by rw [Array.length_toList]; rfl
  rw [← txt_eq]
  have h1 : (strFn 8 (w8 (s.size : Int))).data.toList = lek s.size 8 := by
    rw [lek_range]
    unfold strFn strOfNums
    simp
  have hp := padN_lt s.size
  have h2 : (n7.extract 0 (padN s.size)).data.toList = List.replicate (padN s.size) 0 := by
    have : padN s.size = 0 ∨ padN s.size = 1 ∨ padN s.size = 2 ∨ padN s.size = 3 ∨ padN s.size = 4 ∨ padN s.size = 5 ∨ padN s.size = 6 ∨ padN s.size = 7 := by omega
    rcases this with h | h | h | h | h | h | h | h <;> rw [h] <;> decide +kernel
  unfold fr8
  rw [ByteArray.data_append, ByteArray.data_append, Array.toList_append, Array.toList_append, h1, h2, hz, List.append_assoc]

/-- At the head of a word. -/
def PS.head (p : PS) : Prop := p = p.nxt 0 p.c
theorem head_mid {p : PS} (h : p.head) : p = p.mid [] := by
  unfold PS.head at h
  conv => lhs; rw [h]
  rfl
theorem nxt_head (p : PS) (n : Nat) (c : PC) : (p.nxt n c).head := rfl
theorem new_head (b : Bool) : (PS.new b).head := rfl
theorem nxt_nxt (p : PS) (n m : Nat) (c d : PC) : (p.nxt n c).nxt m d = p.nxt (n + m) d := by unfold PS.nxt; rw [Nat.add_assoc]

theorem run_words : ∀ (ws : List ByteArray) (p : PS) (d : PC) (rest : List UInt8), p.head → Ac p.c ws d → (∀ s ∈ ws, s.size ≤ 1048576) → p.taken + fwS ws ≤ 1048576 → p.run (frm ws ++ rest) = (p.nxt (fwS ws) d).run rest
  | [], p, d, rest, hp, ha, _, _ => by
    have ha : d = p.c := ha
    subst ha
    show p.run rest = (p.nxt 0 p.c).run rest
    rw [← hp]
  | s :: ws, p, d, rest, hp, ha, hs, ht => by
    have hz : s.data.toList.length = s.size := by rw [Array.length_toList]; rfl
    have hs1 := hs s (by simp)
    have hf : (fr8 s.data.toList).length = 8 + s.size + padN s.size := by rw [fr8_len, hz]
    have ht' : p.taken + (8 + s.size + padN s.size + fwS ws) ≤ 1048576 := ht
    have hba : NB.ba s.data.toList = s := NB.ba_list s
    show p.run ((txt s).data.toList ++ frm ws ++ rest) = _
    rw [txt_list, List.append_assoc]
    conv => lhs; rw [head_mid hp]
    rw [run_frame p s.data.toList (by omega) ha.1 (by omega) (by rw [hba]; exact ha.2.1) (frm ws ++ rest) (fr8 s.data.toList) [] (by intro e; rw [e] at hf; simp at hf; omega) rfl, hba, hf]
    have := run_words ws (p.nxt (8 + s.size + padN s.size) (p.c.accept s).2) d rest (nxt_head _ _ _) ha.2.2 (fun x hx => hs x (by simp [hx])) (by show p.taken + (8 + s.size + padN s.size) + fwS ws ≤ _; omega)
    rw [this, nxt_nxt]
    rfl
/-- A beginning of accepted words. -/
theorem run_begin : ∀ (ws : List ByteArray) (p : PS) (d : PC) (k : Nat), p.head → Ac p.c ws d → (∀ s ∈ ws, s.size ≤ 1048576) → p.taken + fwS ws ≤ 1048576 → k < fwS ws → (p.run ((frm ws).take k)).code = 0 ∧ (p.run ((frm ws).take k)).c.next ≠ 17 ∧ (p.run ((frm ws).take k)).taken = p.taken + k
  | [], p, d, k, hp, ha, _, _, hk => by
    change k < 0 at hk
    omega
  | s :: ws, p, d, k, hp, ha, hs, ht, hk => by
    have hz : s.data.toList.length = s.size := by rw [Array.length_toList]; rfl
    have hs1 := hs s (by simp)
    have hf : (fr8 s.data.toList).length = 8 + s.size + padN s.size := by rw [fr8_len, hz]
    have ht' : p.taken + (8 + s.size + padN s.size + fwS ws) ≤ 1048576 := ht
    have hk' : k < 8 + s.size + padN s.size + fwS ws := hk
    have hba : NB.ba s.data.toList = s := NB.ba_list s
    show (p.run (((txt s).data.toList ++ frm ws).take k)).code = 0 ∧ _
    rw [show frm (s :: ws) = (txt s).data.toList ++ frm ws from rfl, txt_list]
    by_cases hlt : k < (fr8 s.data.toList).length
    · rw [List.take_append_of_le_length (by omega)]
      have h1 := run_pre p s.data.toList (by omega) ha.1 (by omega) ((fr8 s.data.toList).take k) [] ((fr8 s.data.toList).drop k) (by intro e; have := congrArg List.length e; rw [List.length_drop] at this; simp at this; omega) (by simp)
      rw [← head_mid hp, List.nil_append] at h1
      rw [h1]
      refine ⟨rfl, ha.1, ?_⟩
      show p.taken + ((fr8 s.data.toList).take k).length = _
      rw [List.length_take]
      omega
    · have e : (fr8 s.data.toList ++ frm ws).take k = fr8 s.data.toList ++ (frm ws).take (k - (fr8 s.data.toList).length) := by
        rw [List.take_append, List.take_of_length_le (by omega)]
      rw [e]
      have h1 := run_frame p s.data.toList (by omega) ha.1 (by omega) (by rw [hba]; exact ha.2.1) ((frm ws).take (k - (fr8 s.data.toList).length)) (fr8 s.data.toList) [] (by intro e; rw [e] at hf; simp at hf; omega) rfl
      rw [← head_mid hp, hba] at h1
      rw [h1]
      have := run_begin ws (p.nxt (fr8 s.data.toList).length (p.c.accept s).2) d (k - (fr8 s.data.toList).length) (nxt_head _ _ _) ha.2.2 (fun x hx => hs x (by simp [hx])) (by show p.taken + (fr8 s.data.toList).length + fwS ws ≤ _; omega) (by omega)
      refine ⟨this.1, this.2.1, ?_⟩
      rw [this.2.2]
      show p.taken + (fr8 s.data.toList).length + _ = _
      omega

mutual
theorem wd_size : ∀ (T : Tr), okT T → ∀ s ∈ wdT T, s.size ≤ 1048576
  | .mk k e t nms ks, h => by
    rw [okT] at h
    obtain ⟨hk, _, ht, hL⟩ := h
    have c1 : wOpen.size ≤ 1048576 := by decide
    have c2 : wType.size ≤ 1048576 := by decide
    have c3 : wRegular.size ≤ 1048576 := by decide
    have c4 : wExec.size ≤ 1048576 := by decide
    have c5 : wNone.size ≤ 1048576 := by decide
    have c6 : wContents.size ≤ 1048576 := by decide
    have c7 : wSymlink.size ≤ 1048576 := by decide
    have c8 : wTarget.size ≤ 1048576 := by decide
    have c9 : wDirectory.size ≤ 1048576 := by decide
    have c10 : wClose.size ≤ 1048576 := by decide
    intro s hs
    rw [wdT] at hs
    simp only [List.mem_append, List.mem_cons, List.not_mem_nil, or_false] at hs
    rcases hs with ((rfl | rfl) | hs) | rfl
    · exact c1
    · exact c2
    · rcases hk with rfl | rfl | rfl
      · rw [if_pos rfl] at hs
        cases e
        · simp at hs
          rcases hs with rfl | rfl | rfl
          · exact c3
          · exact c6
          · exact ht
        · simp at hs
          rcases hs with rfl | rfl | rfl | rfl | rfl
          · exact c3
          · exact c4
          · exact c5
          · exact c6
          · exact ht
      · rw [if_neg (by decide), if_pos rfl] at hs
        simp at hs
        rcases hs with rfl | rfl | rfl
        · exact c7
        · exact c8
        · exact ht
      · rw [if_neg (by decide), if_neg (by decide)] at hs
        simp only [List.mem_append, List.mem_cons, List.not_mem_nil, or_false] at hs
        rcases hs with rfl | hs
        · exact c9
        · exact wd_sizeL nms ks hL s hs
    · exact c10
theorem wd_sizeL : ∀ (nms : List ByteArray) (ks : List Tr), okL nms ks → ∀ s ∈ wdL nms ks, s.size ≤ 1048576
  | n :: nms, T :: ks, h => by
    rw [okL] at h
    have c1 : wEntry.size ≤ 1048576 := by decide
    have c2 : wOpen.size ≤ 1048576 := by decide
    have c3 : wName.size ≤ 1048576 := by decide
    have c4 : wNode.size ≤ 1048576 := by decide
    have c5 : wClose.size ≤ 1048576 := by decide
    intro s hs
    rw [wdL] at hs
    simp only [List.mem_append, List.mem_cons, List.not_mem_nil, or_false] at hs
    rcases hs with (((rfl | rfl | rfl | rfl | rfl) | hs) | rfl) | hs
    · exact c1
    · exact c2
    · exact c3
    · exact h.1
    · exact c4
    · exact wd_size T h.2.1 s hs
    · exact c5
    · exact wd_sizeL nms ks h.2.2 s hs
  | [], [], _ => by rw [wdL]; simp; simp
  | [], _ :: _, _ => by rw [wdL]; simp; simp
  | _ :: _, [], _ => by rw [wdL]; simp; simp
end

/-- A well-formed tree's archive: what holds of its words. -/
theorem arc_facts {T : Tr} (hs : smT T) (hw : wfT T) (h : (ckT T).2 = 0) : Ac PC.new (wMagic :: wdT T) ⟨17, [], T⟩ ∧ (∀ s ∈ wMagic :: wdT T, s.size ≤ 1048576) ∧ fwS (wMagic :: wdT T) ≤ 1048576 ∧ (fwS (wMagic :: wdT T) : Int) = 24 + tbT T := by
  have hoff := ckT_off h
  have ho := NS.ok_tree T [] 24 hoff hs hw
  have h1 := fw_tree T ho
  have h3 : 8 + wMagic.size + padN wMagic.size = 24 := by decide +kernel
  have h4 : fwS (wMagic :: wdT T) = 24 + fwS (wdT T) := by show 8 + wMagic.size + padN wMagic.size + fwS (wdT T) = _; omega
  have h5 := vT_bytes [] 24 T hoff
  have h6 := (vT_bd [] 24 T hoff (by decide) (by decide)).2
  refine ⟨ac_arc hoff hw, fun s hs' => ?_, by omega, by omega⟩
  rcases List.mem_cons.1 hs' with rfl | hs'
  · decide
  · exact wd_size T ho s hs'
theorem arc_len (T : Tr) : (arcT T).length = fwS (wMagic :: wdT T) := frm_len _
/-- Behind a whole archive. -/
def arcS (b : Bool) (T : Tr) : PS := ⟨(arcT T).length, 0, 0, 0, b, false, 0, [], ⟨17, [], T⟩⟩
theorem run_arc {T : Tr} (hs : smT T) (hw : wfT T) (h : (ckT T).2 = 0) (b : Bool) (rest : List UInt8) : (PS.new b).run (arcT T ++ rest) = (arcS b T).run rest := by
  obtain ⟨a1, a2, a3, _⟩ := arc_facts hs hw h
  have := run_words (wMagic :: wdT T) (PS.new b) ⟨17, [], T⟩ rest (new_head b) a1 a2 (by show 0 + fwS (wMagic :: wdT T) ≤ _; omega)
  unfold arcT
  rw [this]
  congr 1
  unfold arcS
  rw [arc_len]
  unfold PS.nxt
  show (⟨0 + _, 0, 0, 0, b, false, 0, [], _⟩ : PS) = _
  rw [Nat.zero_add]
theorem arcS_part (T : Tr) (rest : List UInt8) : (arcS true T).run rest = arcS true T := by
  cases rest with
  | nil => rfl
  | cons b l => rw [PS.run]; exact if_pos ⟨rfl, rfl⟩
theorem arcS_trail (T : Tr) (b : UInt8) (rest : List UInt8) : (arcS false T).run (b :: rest) = (arcS false T).sf 5 (arcT T).length := by
  have e : (arcS false T).take b = ((5, ((arcT T).length : Int)), arcS false T) := if_pos rfl
  have hst : (arcS false T).step b = (arcS false T).sf 5 (arcT T).length := by rw [PS.step_bad (by rw [e]; show (5 : Int) ≠ 0; decide), e]
  rw [PS.run, if_neg (fun hh => by cases hh.1), hst, if_pos (by show (5 : Int) ≠ 0; decide)]
theorem run_short {T : Tr} (hs : smT T) (hw : wfT T) (h : (ckT T).2 = 0) (b : Bool) (k : Nat) (hk : k < (arcT T).length) : ((PS.new b).run ((arcT T).take k)).code = 0 ∧ ((PS.new b).run ((arcT T).take k)).c.next ≠ 17 ∧ ((PS.new b).run ((arcT T).take k)).taken = k := by
  obtain ⟨a1, a2, a3, _⟩ := arc_facts hs hw h
  have := run_begin (wMagic :: wdT T) (PS.new b) ⟨17, [], T⟩ k (new_head b) a1 a2 (by show 0 + fwS (wMagic :: wdT T) ≤ _; omega) (by rw [← arc_len]; exact hk)
  refine ⟨this.1, this.2.1, ?_⟩
  have h3 := this.2.2
  have : (PS.new b).taken = 0 := rfl
  unfold arcT
  omega

/-- Feeding piece by piece is feeding the whole. -/
theorem run_app : ∀ (a b : List UInt8) (p : PS), p.code = 0 → p.closed = false → p.run (a ++ b) = (p.run a).feed b
  | [], b, p, hc, hl => by
    show p.run b = p.feed b
    unfold PS.feed
    rw [if_neg (by rw [hl, hc]; simp)]
  | x :: a, b, p, hc, hl => by
    show p.run (x :: (a ++ b)) = (p.run (x :: a)).feed b
    rw [PS.run, PS.run]
    by_cases h1 : p.part = true ∧ p.c.next = 17
    · rw [if_pos h1, if_pos h1]
      unfold PS.feed
      rw [if_neg (by rw [hl, hc]; simp)]
      cases b with
      | nil => rfl
      | cons y b => rw [PS.run, if_pos h1]
    · rw [if_neg h1, if_neg h1]
      by_cases h2 : (p.step x).code ≠ 0
      · rw [if_pos h2, if_pos h2]
        unfold PS.feed
        rw [if_pos (Or.inr h2)]
      · rw [if_neg h2, if_neg h2]
        have hcl : (p.step x).closed = false := by
          by_cases h0 : (p.take x).1.1 = 0
          · rw [PS.step_ok h0]; exact (p.take_keep x).2.2.1.trans hl
          · rw [PS.step_bad h0]; exact (p.take_keep x).2.2.1.trans hl
        exact run_app a b (p.step x) (by omega) hcl
end Go.Proofs.Ythlioedahoiahaa
