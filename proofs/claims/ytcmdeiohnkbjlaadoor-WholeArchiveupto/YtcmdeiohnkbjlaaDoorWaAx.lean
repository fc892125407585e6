/- Towards WholeArchive: an archive cut anywhere, and listing.Sum, walked (own text of the verifier). -/
import Derived.Test.YtcmdeiohnkbjlaaDoorXC
import Derived.Test.YtcmdeiohnkbjlaaDoorXH
import Derived.Test.YtcmdeiohnkbjlaaDoorNa7x
import Derived.Test.YtcmdeiohnkbjlaaDoorTvDx
import Derived.Test.YtcmdeiohnkbjlaaDoorTpE
import Derived.Test.YtcmdeiohnkbjlaaDoorPcAx
import Derived.Test.YtcmdeiohnkbjlaaDoorShaEx
namespace Go.Proofs.YtcmdeiohnkbjlaaDoor
open Go.RowKit

theorem prs_app (a b : List UInt8) : prs (a ++ b) = (prs a).feed b := by
  rw [prs_run, prs_run]
  exact run_app a b (PS.new false) rfl rfl

/-- Two blocks with a node and a fault. -/
theorem two_blkW (w : World) (T : Tr) (v : Value) (F1 F2 : Int) : St ((w.alloc (.cells #[.int .i64 T.k, .bool T.e, .string T.t, v] 25)).alloc (.cells #[.int .i64 F1, .int .i64 F2] 42)) w.heap.size [.int .i64 T.k, .bool T.e, .string T.t, v] ∧ St ((w.alloc (.cells #[.int .i64 T.k, .bool T.e, .string T.t, v] 25)).alloc (.cells #[.int .i64 F1, .int .i64 F2] 42)) (w.heap.size + 1) [.int .i64 F1, .int .i64 F2] ∧ Below w.heap.size w ((w.alloc (.cells #[.int .i64 T.k, .bool T.e, .string T.t, v] 25)).alloc (.cells #[.int .i64 F1, .int .i64 F2] 42)) := by
  refine ⟨(St.new w _ _).same (by simp only [World.size_alloc]; omega) (Below.heap_alloc _ _ _ (by rw [World.size_alloc]; omega)), ?_, ((Below.refl _ _).alloc (Nat.le_refl _) _).alloc (by rw [World.size_alloc]; omega) _⟩
  have := St.new (w.alloc (.cells #[.int .i64 T.k, .bool T.e, .string T.t, v] 25)) #[.int .i64 F1, .int .i64 F2] 42
  rw [World.size_alloc] at this
  exact this

theorem len_flat : ∀ (L : List (List UInt8)) (i : Nat) (s : List UInt8), L[i]? = some s → s.length ≤ L.flatten.length
  | [], _, _, h => by simp at h
  | a :: L, 0, s, h => by
    have h : a = s := by simpa using h
    subst h
    rw [List.flatten_cons, List.length_append]
    omega
  | a :: L, i + 1, s, h => by
    have := len_flat L i s (by simpa using h)
    rw [List.flatten_cons, List.length_append]
    omega

theorem flat_take : ∀ (L : List (List UInt8)) (i : Nat), ∃ k, k ≤ L.flatten.length ∧ (L.take i).flatten.length = k ∧ (L.take i).flatten = L.flatten.take k
  | [], i => ⟨0, by simp⟩
  | a :: L, 0 => ⟨0, by simp⟩
  | a :: L, i + 1 => by
    obtain ⟨k, h1, h2, h3⟩ := flat_take L i
    refine ⟨a.length + k, ?_, ?_, ?_⟩
    · rw [List.flatten_cons, List.length_append]; omega
    · rw [List.take_succ_cons, List.flatten_cons, List.length_append, h2]
    · rw [List.take_succ_cons, List.flatten_cons, List.flatten_cons, h3, List.take_append, List.take_of_length_le (Nat.le_add_right _ _)]
      congr 2
      omega

theorem arc_le3 {T : Tr} (hs : smT T) (hw : wfT T) (h : (ckT T).2 = 0) : (arcT T).length ≤ 1048576 := by
  rw [arc_len]; exact (arc_facts hs hw h).2.2.1
theorem prs_arcT {T : Tr} (hs : smT T) (hw : wfT T) (h : (ckT T).2 = 0) : prs (arcT T) = arcS false T := by
  have e := run_arc hs hw h false []
  rw [List.append_nil] at e
  rw [prs_run]
  exact e
theorem ans_arcT {T : Tr} (hs : smT T) (hw : wfT T) (h : (ckT T).2 = 0) : (prs (arcT T)).ansT = T ∧ (prs (arcT T)).ansF = (0, 0) ∧ lnT T := by
  have hl := (prs_inv (arcT T)).2.1.rt
  rw [prs_arcT hs hw h] at hl ⊢
  obtain ⟨a1, a2⟩ := fin_whole (p := arcS false T) rfl rfl
  exact ⟨a1, a2, hl⟩

/-- A beginning of an archive: all its bytes are taken, and no more than the most nodes are open. -/
theorem prs_part {T : Tr} (hs : smT T) (hw : wfT T) (h : (ckT T).2 = 0) (k : Nat) (hk : k ≤ (arcT T).length) : (prs ((arcT T).take k)).taken = k ∧ (prs ((arcT T).take k)).c.op.length ≤ 32 := by
  by_cases hlt : k < (arcT T).length
  · obtain ⟨h1, h2, h3⟩ := run_short hs hw h false k hlt
    rw [← prs_run] at h1 h2 h3
    exact ⟨h3, ((prs_inv _).1 h1).ci.dp⟩
  · obtain rfl : k = (arcT T).length := by omega
    rw [List.take_length, prs_arcT hs hw h]
    exact ⟨rfl, Nat.zero_le _⟩

theorem undDIGw : Tryd.prog.underlying 46 = some (.array 32 5) := by kernel_rfl
theorem szDIGw : (Tryd.prog.info? 46).map (·.size) = some 32 := by kernel_rfl
theorem results_ctt {P : Program} {k : IntKind} {n e g : Nat} {f : Nat → Int} {fn : Func} {p q r : Tmp} {ty : TypeId} (hr : fn.results = #[.cell p ty, .tmp q, .tmp r]) (tmps : Array Value) (w : World)
    (hp : tmps.getD p undef = .pointer (some ⟨g, 0, none⟩)) (h : Row k w g n f) (hu : P.underlying ty = some (.array n e)) (hi : (P.info? ty).map (·.size) = some n) :
    (results fn tmps).run P w = .ok (.tuple #[.agg (cs k n f), tmps.getD q undef, tmps.getD r undef]) w := by
  have hl := run_loadVar_row' ty h hu hi
  have hp' : tmps[p]?.getD undef = .pointer (some ⟨g, 0, none⟩) := by simpa using hp
  simp [results, hr, hp', asAddr, hl]
/-- The digest of a tree's archive. -/
def dgW (T : Tr) : Nat → Int := dg (hw (bt (msg (NB.ba (arcT T)))) (nb (NB.ba (arcT T))))
theorem dgs_isw (T : Tr) : dgs (NB.ba (arcT T)) = cs .u8 32 (dgW T) := rfl

set_option maxRecDepth 100000 in
set_option maxHeartbeats 4000000 in
theorem lsum_any (m : Nat) (k : Int) (e : Bool) (t : ByteArray) (x : Option Addr) (n c : Nat) (T : Tr) (w : World) (hA : At w m (.agg #[Value.int IntKind.i64 k, Value.bool e, Value.string t, Value.slice x n c]) T) (hS : smT T) (hW : wfT T) (hc : (ckT T).2 = 0) (hK : KT w) :
    Calls Tryd.prog 14 #[.agg #[Value.int IntKind.i64 k, Value.bool e, Value.string t, Value.slice x n c]] w fun en w' => en = .returned (.tuple #[.agg (cs .u8 32 (dgW T)), .int .i64 ((NB.ba (arcT T)).size : Int), .int .i64 0]) ∧ Below w.heap.size w w' := by
  have hl := arc_le3 hS hW hc
  have hz : (NB.ba (arcT T)).size = (arcT T).length := NB.ba_size _
  have hser : serT T = (NB.ba (arcT T), 0) := by unfold serT; rw [if_neg (by omega)]
  have bA : Below w.heap.size w (w.alloc (Obj.cells #[Value.int IntKind.i64 k, Value.bool e, Value.string t, Value.slice x n c] 25)) := (Below.refl _ _).alloc (Nat.le_refl _) _
  have R0 : Row .u8 ((w.alloc (Obj.cells #[Value.int IntKind.i64 k, Value.bool e, Value.string t, Value.slice x n c] 25)).alloc (.cells (Array.replicate 32 (.int .u8 0)) 46)) (w.heap.size + 1) 32 (fun _ => 0) := by
    have := Row.rep (k := .u8) (w := w.alloc (Obj.cells #[Value.int IntKind.i64 k, Value.bool e, Value.string t, Value.slice x n c] 25)) (e := 46) (n := 32) (z := 0) rfl
    rw [World.size_alloc] at this
    exact this
  have bB : Below w.heap.size w ((w.alloc (Obj.cells #[Value.int IntKind.i64 k, Value.bool e, Value.string t, Value.slice x n c] 25)).alloc (.cells (Array.replicate 32 (.int .u8 0)) 46)) := bA.alloc (by rw [World.size_alloc]; omega) _
  have HG : Hid (((w.alloc (Obj.cells #[Value.int IntKind.i64 k, Value.bool e, Value.string t, Value.slice x n c] 25)).alloc (.cells (Array.replicate 32 (.int .u8 0)) 46)).heap[w.heap.size]? = some (.cells #[Value.int IntKind.i64 k, Value.bool e, Value.string t, Value.slice x n c] 25 (0, 0))) := (Below.heap_alloc _ _ _ (by rw [World.size_alloc]; omega)).trans (heap_alloc_new _ _)
  go_enter Tryd.func14, Tryd.ntmps14
  go_upto_region 1 with fail
  have z1 : w.heap.size + 1 < ((w.alloc (Obj.cells #[Value.int IntKind.i64 k, Value.bool e, Value.string t, Value.slice x n c] 25)).alloc (.cells (Array.replicate 32 (.int .u8 0)) 46)).heap.size := by simp only [World.size_alloc]; omega
  show Code.wp Tryd.prog _ _ _ ((w.alloc (Obj.cells #[Value.int IntKind.i64 k, Value.bool e, Value.string t, Value.slice x n c] 25)).alloc (.cells (Array.replicate 32 (.int .u8 0)) 46))
  generalize (w.alloc (Obj.cells #[Value.int IntKind.i64 k, Value.bool e, Value.string t, Value.slice x n c] 25)).alloc (.cells (Array.replicate 32 (.int .u8 0)) 46) = w1 at *
  obtain ⟨G, hG⟩ : ∃ G, w.heap.size = G := ⟨_, rfl⟩
  have HGe : Hid (w.heap.size = G) := hG
  have K1 : Hid (KT w1) := hK.below bB
  have A1 := hA.below bB
  rw [hG] at HG R0 z1 bB ⊢
  clear hG bA
  obtain ⟨u0, u1, u2, u3, _⟩ := cell4n HG.out
  have CS := nserial_any m k e t x n c T w1 A1 hS hW
  rw [hser] at CS
  have H1 : Hid (Row .u8 w1 (G + 1) 32 (fun _ => 0) ∧ Below G w w1 ∧ G + 1 < w1.heap.size) := ⟨R0, bB, z1⟩
  have HZ : Hid ((NB.ba (arcT T)).size = (arcT T).length ∧ (arcT T).length ≤ 1048576) := ⟨hz, hl⟩
  clear R0 bB z1 hA hK hser hz hl hc
  go_wp2_with fail
  refine CS.mono ?_
  rintro e2 w2 ⟨rfl, b2⟩
  have H2 : Hid (Row .u8 w2 (G + 1) 32 (fun _ => 0) ∧ Below G w w2 ∧ G + 1 < w2.heap.size ∧ KT w2) := ⟨H1.out.1.below b2 H1.out.2.2, H1.out.2.1.trans (b2.mono (by have := H1.out.2.2; omega)), by have := H1.out.2.2; have := b2.size; omega, K1.out.below b2⟩
  clear CS u0 u1 u2 u3 H1 K1 b2 HG
  go_wp2_with fail
  refine (of_wrote (NB.ba (arcT T)) w2 (by have := HZ.out; omega) H2.out.2.2.2).mono ?_
  rintro e3 w3 ⟨rfl, b3⟩
  have R3 : Row .u8 w3 (G + 1) 32 (fun _ => 0) := H2.out.1.below b3 H2.out.2.2.1
  have B3 : Below G w w3 := H2.out.2.1.trans (b3.mono (by have := H2.out.2.2.1; omega))
  have z3 : G + 1 < w3.heap.size := by have := H2.out.2.2.1; have := b3.size; omega
  clear b3 H2
  go_wp2_with (refine wpList_store_any (by rfl) 46 (.tmp 2) (.tmp 17) (by rfl) (G + 1) (by rfl) (by rfl) R3 szDIGw (by rfl) ?_; intro W5 R5 U5)
  exact bodyPost_ret (results_ctt Tryd.results14 _ _ rfl R5 undDIGw szDIGw) rfl ⟨rfl, by rw [HGe.out]; exact U5.below B3 (Nat.le_succ _) (by omega)⟩
end Go.Proofs.YtcmdeiohnkbjlaaDoor
