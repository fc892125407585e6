/- The law NarShort, walked (own text of the verifier). -/
import Derived.Test.YtpbgmknebhnonabNa7
import Derived.Test.YtpbgmknebhnonabNrC
namespace Go.Proofs.Ytpbgmknebhnonab
open Go.RowKit

theorem prs_trail {T : Tr} (hs : smT T) (hw : wfT T) (h : (ckT T).2 = 0) (b : UInt8) : (prs (arcT T ++ [b])).ansF = (5, ((arcT T).length : Int)) := by
  have e : prs (arcT T ++ [b]) = (arcS false T).sf 5 (arcT T).length := by rw [prs_run, run_arc hs hw h, arcS_trail]
  rw [e]
  rfl
theorem prs_short {T : Tr} (hs : smT T) (hw : wfT T) (h : (ckT T).2 = 0) (k : Nat) (hk : k < (arcT T).length) : (prs ((arcT T).take k)).ansF = (4, (k : Int)) := by
  obtain ⟨a1, a2, a3⟩ := run_short hs hw h false k hk
  rw [← prs_run] at a1 a2 a3
  have e : (prs ((arcT T).take k)).fin = ((prs ((arcT T).take k)).sf 4 (prs ((arcT T).take k)).taken).shut := by unfold PS.fin; rw [if_pos ⟨a1, a2⟩]
  unfold PS.ansF
  rw [e, if_pos (by show (4 : Int) ≠ 0; decide)]
  show ((4 : Int), ((prs ((arcT T).take k)).taken : Int)) = _
  rw [a3]
theorem arc_le' {T : Tr} (hs : smT T) (hw : wfT T) (h : (ckT T).2 = 0) : (arcT T).length ≤ 1048576 := by
  rw [arc_len]; exact (arc_facts hs hw h).2.2.1
theorem ba_app2 (a b : List UInt8) : NB.ba a ++ NB.ba b = NB.ba (a ++ b) := by
  apply ByteArray.ext
  rw [ByteArray.data_append]
  simp [NB.ba]
theorem ba_take (a : List UInt8) (k : Nat) (_ : k ≤ a.length) : (NB.ba a).extract 0 k = NB.ba (a.take k) := by
  apply ByteArray.ext
  rw [ByteArray.data_extract]
  simp [NB.ba]
theorem str_one (b : UInt8) (w : World) (T : TypeId) : (convert 37 9 (.slice (some ⟨w.heap.size, 0, none⟩) 1 1)).run Try.prog (w.alloc (.cells #[.int .u8 (b.toNat : Int)] T)) = .ok (.string (NB.ba [b])) (w.alloc (.cells #[.int .u8 (b.toNat : Int)] T)) := by
  have r := run_string_row (P := Try.prog) (w := w.alloc (.cells #[.int .u8 (b.toNat : Int)] T)) (src := 37) (dst := 9) (c := 1) undTB Try.underlying5 Try.underlying9 (Row.lit1 (k := .u8) (w := w) (e := T) (b.toNat : Int))
  have e : strFn 1 (fun _ => (b.toNat : Int)) = NB.ba [b] := by
    unfold strFn strOfNums NB.ba
    simp
  rw [r, e]

set_option maxHeartbeats 16000000 in
set_option maxRecDepth 10000 in
theorem nshort_walk (m : Nat) (k : Int) (e : Bool) (t : ByteArray) (x : Option Addr) (n c : Nat) (T : Tr) (cut : Int) (b : UInt8) (w : World) (hA : At w m (.agg #[Value.int IntKind.i64 k, Value.bool e, Value.string t, Value.slice x n c]) T) (hS : smT T) :
    Calls Try.prog 4 #[.agg #[Value.int IntKind.i64 k, Value.bool e, Value.string t, Value.slice x n c], .int .i64 cut, .int .u8 (b.toNat : Int)] w fun en w' => en = .returned (.bool true) ∧ Below w.heap.size w w' := by
  have hW := At.wf _ _ _ hA
  have HH : Hid (At w m (.agg #[Value.int IntKind.i64 k, Value.bool e, Value.string t, Value.slice x n c]) T ∧ smT T ∧ wfT T) := ⟨hA, hS, hW⟩
  clear hA hS hW
  have bA : Below w.heap.size w (w.alloc (Obj.cells #[Value.int IntKind.i64 k, Value.bool e, Value.string t, Value.slice x n c] 25)) := (Below.refl _ _).alloc (Nat.le_refl _) _
  have HG : Hid ((w.alloc (Obj.cells #[Value.int IntKind.i64 k, Value.bool e, Value.string t, Value.slice x n c] 25)).heap[w.heap.size]? = some (.cells #[Value.int IntKind.i64 k, Value.bool e, Value.string t, Value.slice x n c] 25 (0, 0)) ∧ Below w.heap.size w (w.alloc (Obj.cells #[Value.int IntKind.i64 k, Value.bool e, Value.string t, Value.slice x n c] 25))) := ⟨heap_alloc_new _ _, bA⟩
  clear bA
  go_enter Try.func4, Try.ntmps4
  go_upto_region 1 with fail
  obtain ⟨G, hG⟩ : ∃ G, w.heap.size = G := ⟨_, rfl⟩
  have HGe : Hid (w.heap.size = G) := hG
  generalize w.alloc (Obj.cells #[Value.int IntKind.i64 k, Value.bool e, Value.string t, Value.slice x n c] 25) = w1 at *
  rw [hG] at HG ⊢
  clear hG
  have CW := awN w1
  go_wp2_with fail
  refine CW.mono ?_
  rintro e2 w2 ⟨rfl, b2⟩
  have HG2 : Hid (w2.heap[G]? = some (.cells #[Value.int IntKind.i64 k, Value.bool e, Value.string t, Value.slice x n c] 25 (0, 0)) ∧ Below G w w2) := ⟨(b2.block _ (heap_lt HG.out.1)).trans HG.out.1, HG.out.2.trans (b2.mono (Nat.le_of_lt (heap_lt HG.out.1)))⟩
  clear CW b2 HG
  obtain ⟨u0, u1, u2, u3, _⟩ := cell4n HG2.out.1
  have CS := nserial_any m k e t x n c T w2 (HH.out.1.below (by rw [HGe.out]; exact HG2.out.2)) HH.out.2.1 HH.out.2.2
  obtain ⟨R, hR⟩ : ∃ R, serT T = R := ⟨_, rfl⟩
  have HR : Hid (serT T = R) := hR
  rw [hR] at CS
  clear hR
  obtain ⟨X, C⟩ := R
  dsimp only at CS
  go_wp2_with fail
  refine CS.mono ?_
  rintro e3 w3 ⟨rfl, b3⟩
  have HB3 : Hid (Below G w w3) := HG2.out.2.trans (b3.mono (Nat.le_of_lt (heap_lt HG2.out.1)))
  clear CS b3 HG2 u0 u1 u2 u3
  by_cases hc : (ckT T).2 = 0
  · have hser : serT T = (NB.ba (arcT T), 0) := by unfold serT; rw [if_neg (by omega)]
    have e1 : X = NB.ba (arcT T) ∧ C = 0 := by
      have := HR.out.symm.trans hser
      injection this with h1 h2
      exact ⟨h1, h2⟩
    obtain ⟨rfl, rfl⟩ := e1
    have hal := arc_le' HH.out.2.1 HH.out.2.2 hc
    have htr := prs_trail HH.out.2.1 HH.out.2.2 hc b
    have hsh : Hid (∀ k, k < (arcT T).length → (prs ((arcT T).take k)).ansF = (4, (k : Int))) := fun k hk => prs_short HH.out.2.1 HH.out.2.2 hc k hk
    have CP := parse_any (arcT T ++ [b]) (w3.alloc (.cells #[.int .u8 (b.toNat : Int)] 5)) (by rw [List.length_append]; show (arcT T).length + 1 ≤ _; omega)
    have HPP : Hid (∀ w' k, k ≤ (arcT T).length → Calls Try.prog 12 #[.string (NB.ba ((arcT T).take k))] w' (PaP ((arcT T).take k) w')) := fun w' k hk => parse_any _ w' (by rw [List.length_take]; omega)
    have hcv := str_one b w3 5
    have hap : NB.ba (arcT T) ++ NB.ba [b] = NB.ba (arcT T ++ [b]) := ba_app2 _ _
    have hz1 : (NB.ba (arcT T)).size = (arcT T).length := NB.ba_size _
    have hz2 : (NB.ba [b]).size = 1 := NB.ba_size _
    have hsum : ¬ 9223372036854775807 < (NB.ba (arcT T)).size + (NB.ba [b]).size := by rw [hz1, hz2]; omega
    have bA : Hid (Below G w (w3.alloc (.cells #[.int .u8 (b.toNat : Int)] 5))) := HB3.out.trans (((Below.refl _ _).alloc (Nat.le_refl _) _).mono (Nat.le_trans (Nat.le_of_eq HGe.out.symm) HB3.out.size))
    have HTK : Hid (∀ k, k ≤ (arcT T).length → (NB.ba (arcT T)).extract 0 k = NB.ba ((arcT T).take k)) := fun k hk => ba_take _ k hk
    clear HR hser hc
    generalize arcT T = A at *
    go_wp2_with fail
    refine CP.mono ?_
    rintro e4 w4 ⟨⟨v, fr, rfl, _, _⟩, b4⟩
    have HB4 : Hid (Below G w w4) := bA.out.trans (b4.mono (Nat.le_trans (Nat.le_of_eq HGe.out.symm) bA.out.size))
    clear CP b4 hcv hap bA
    rw [htr]
    obtain ⟨x4, n4, c4, rfl⟩ : ∃ x n c, v = .slice x n c := by rename_i hT _; obtain ⟨x, c, h⟩ := hT.shape; exact ⟨x, _, c, h⟩
    generalize (prs (A ++ [b])).ansT = T4 at *
    have HB5 : Hid (Below G w ((w4.alloc (.cells #[.int .i64 T4.k, .bool T4.e, .string T4.t, .slice x4 n4 c4] 25)).alloc (.cells #[.int .i64 5, .int .i64 (A.length : Int)] 34))) := HB4.out.trans ((((Below.refl _ _).alloc (Nat.le_refl _) _).alloc (by rw [World.size_alloc]; omega) _).mono (Nat.le_trans (Nat.le_of_eq HGe.out.symm) HB4.out.size))
    by_cases hcut : cut < 0 ∨ (A.length : Int) ≤ cut
    · have hcb : ((decide (cut < 0)) || decide ((A.length : Int) ≤ cut)) = true := by simp; exact hcut
      by_cases hn : cut < 0
      · go_wp2
        go_ret
        exact ⟨rfl, by rw [HGe.out]; exact HB5.out⟩
      · have hg : (A.length : Int) ≤ cut := hcut.resolve_left hn
        go_wp2
        go_ret
        exact ⟨rfl, by rw [HGe.out]; exact HB5.out⟩
    · obtain ⟨K, hK⟩ : ∃ K : Nat, cut = (K : Int) := ⟨cut.toNat, by omega⟩
      subst hK
      have hKl : K < A.length := by omega
      have hn1 : ¬ (K : Int) < 0 := by omega
      have hn2 : ¬ (A.length : Int) ≤ (K : Int) := by omega
      have hex := HTK.out K (by omega)
      have hKI : (K : Int) ≤ (A.length : Int) := by omega
      have hsk := hsh.out K hKl
      clear hcut HTK hsh
      go_wp2_with fail
      refine (HPP.out _ K (by omega)).mono ?_
      rintro e6 w6 ⟨⟨v6, fr6, rfl, hT6, _⟩, b6⟩
      rw [hsk]
      obtain ⟨x6, n6, c6, rfl⟩ : ∃ x n c, v6 = .slice x n c := by obtain ⟨x, c, h⟩ := hT6.shape; exact ⟨x, _, c, h⟩
      have HB6 : Hid (Below G w w6) := HB5.out.trans (b6.mono (Nat.le_trans (Nat.le_of_eq HGe.out.symm) HB5.out.size))
      clear b6 hT6 HB5 HPP hex
      generalize (prs (A.take K)).ansT = T6 at *
      have HB7 : Hid (Below G w ((w6.alloc (.cells #[.int .i64 T6.k, .bool T6.e, .string T6.t, .slice x6 n6 c6] 25)).alloc (.cells #[.int .i64 4, .int .i64 (K : Int)] 34))) := HB6.out.trans ((((Below.refl _ _).alloc (Nat.le_refl _) _).alloc (by rw [World.size_alloc]; omega) _).mono (Nat.le_trans (Nat.le_of_eq HGe.out.symm) HB6.out.size))
      go_wp2
      go_ret
      exact ⟨rfl, by rw [HGe.out]; exact HB7.out⟩
  · have hser : serT T = (⟨#[]⟩, (ckT T).2) := by unfold serT; rw [if_pos hc]
    have e1 : X = ⟨#[]⟩ ∧ C = (ckT T).2 := by
      have := HR.out.symm.trans hser
      injection this with h1 h2
      exact ⟨h1, h2⟩
    obtain ⟨rfl, rfl⟩ := e1
    clear HR hser
    generalize (ckT T).2 = D at *
    have hb : (D != 0) = true := by simp [hc]
    go_wp2
    go_ret
    exact ⟨rfl, by rw [HGe.out]; exact HB3.out⟩

theorem nshort_final (m : Nat) (k : Int) (e : Bool) (t : ByteArray) (x : Option Addr) (n c : Nat) (T : Tr) (cut bb : Int) (w : World) (hA : At w m (.agg #[Value.int IntKind.i64 k, Value.bool e, Value.string t, Value.slice x n c]) T) (hS : smT T) (_ : -9223372036854775808 ≤ cut) (_ : cut ≤ 9223372036854775807) (h0 : 0 ≤ bb) (h1 : bb ≤ 255) :
    Calls Try.prog 4 #[.agg #[Value.int IntKind.i64 k, Value.bool e, Value.string t, Value.slice x n c], .int .i64 cut, .int .u8 bb] w fun en w' => en = .returned (.bool true) ∧ Below w.heap.size w w' := by
  have := nshort_walk m k e t x n c T cut (UInt8.ofNat bb.toNat) w hA hS
  have e1 : ((UInt8.ofNat bb.toNat).toNat : Int) = bb := by
    rw [UInt8.toNat_ofNat']
    omega
  rw [e1] at this
  exact this
end Go.Proofs.Ytpbgmknebhnonab
