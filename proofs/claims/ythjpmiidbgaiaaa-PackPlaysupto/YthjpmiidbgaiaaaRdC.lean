/- The document's Unpack; the law PackReads. -/
import Derived.Test.YthjpmiidbgaiaaaRdB
import Derived.Test.YthjpmiidbgaiaaaPkW
namespace Go.Proofs.Ythjpmiidbgaiaaa
open Go.RowKit

theorem rread_any (tl : List UInt8) (w : World) (ht : tl.length ≤ 1073741824) :
    Calls Try.prog 15 #[.string (ba tl)] w fun e w' => GotP (u0.run tl) e ∧ Below w.heap.size w w' := by
  by_cases h : tl.length < 8
  · exact rread_short tl w h
  · by_cases hb : 1048576 < leN (tl.take 8)
    · exact rread_big tl w (by omega) ht hb
    · exact rread_main tl w (by omega) ht hb

theorem step_tx (s : US) (h : s.code ≠ 0 → s.tx = []) (b : UInt8) : (s.step b).code ≠ 0 → (s.step b).tx = [] := by
  unfold US.step
  by_cases ho : s.off = true
  · rw [if_pos ho]; exact h
  · rw [if_neg ho]
    unfold US.take
    split
    · intro hc
      exfalso
      apply hc
      show (s.look b).1.code = 0
      rw [s.look_code]
      unfold US.off at ho
      simp at ho
      exact ho.2
    · intro _; rfl
theorem run_tx (l : List UInt8) : ∀ s : US, (s.code ≠ 0 → s.tx = []) → (s.run l).code ≠ 0 → (s.run l).tx = [] := by
  induction l with
  | nil => intro s h; exact h
  | cons b l ih => intro s h; rw [US.run_cons]; exact ih _ (step_tx s h b)

set_option maxHeartbeats 2000000 in
set_option maxRecDepth 10000 in
theorem runpack_any (tl : List UInt8) (w : World) (ht : tl.length ≤ 1073741824) :
    Calls Try.prog 13 #[.string (ba tl)] w fun e w' => e = .returned (.tuple #[.string (ba (unp tl).tx), .int .i64 ((unp tl).code : Int), .int .i64 ((unp tl).fat : Int)]) ∧ Below w.heap.size w w' := by
  have RC := rread_any tl w ht
  have HT := run_tx tl u0 (fun h => absurd rfl h)
  have HI := (UI.u0.run tl).cd
  have hU : unp tl = (u0.run tl).shut := rfl
  rw [hU]
  generalize u0.run tl = S at *
  by_cases hc : S.code = 0
  · by_cases hw : S.wh = true
    · have HS : Hid (S.shut = { S with cl := true }) := by unfold Hid US.shut; rw [if_neg (fun h => by rw [hw] at h; exact absurd h.2 (by decide))]
      have hf : S.fat = 0 := HI hc
      go_enter Try.func13, Try.ntmps13
      go_wp2_with fail
      refine RC.mono ?_
      rintro e w1 ⟨⟨T, Wh, rfl, hT⟩, B1⟩
      obtain ⟨rfl, hT2⟩ := hT hc
      obtain rfl := hT2 hw
      rw [hc, hw, hf]
      have HB : Hid (Below w.heap.size w w1) := B1
      have HB2 : Hid (w.heap.size ≤ w1.heap.size) := B1.size
      have HC : Hid (S.code = 0 ∧ S.fat = 0) := ⟨hc, hf⟩
      clear RC B1 hT hc hf hT2
      go_wp2
      go_ret3
      exact ⟨by rw [HS.out]; show _ = Ending.returned (.tuple #[.string (ba S.tx), .int .i64 (S.code : Int), .int .i64 (S.fat : Int)]); rw [HC.out.1, HC.out.2]; rfl, HB.out.alloc HB2.out _⟩
    · have hwf : S.wh = false := by simpa using hw
      have HS : Hid (S.shut = { S.fl 4 S.tk with cl := true }) := by unfold Hid US.shut; rw [if_pos ⟨hc, hwf⟩]
      go_enter Try.func13, Try.ntmps13
      go_wp2_with fail
      refine RC.mono ?_
      rintro e w1 ⟨⟨T, Wh, rfl, hT⟩, B1⟩
      obtain ⟨rfl, -⟩ := hT hc
      rw [hc, hwf]
      have HB : Hid (Below w.heap.size w w1) := B1
      have HB2 : Hid (w.heap.size ≤ w1.heap.size) := B1.size
      clear RC B1 hT hc
      go_wp2_with fail
      go_quiet (fail)
      have HB3 : Hid (Below w.heap.size w ((w1.alloc (.cells #[.string (ba T), .bool false, .int .i64 0, .int .i64 (S.fat : Int), .int .i64 (S.tk : Int)] 39)).drewN nq)) := bel_drewN (HB.out.alloc HB2.out _) nq
      generalize (w1.alloc (.cells #[.string (ba T), .bool false, .int .i64 0, .int .i64 (S.fat : Int), .int .i64 (S.tk : Int)] 39)).drewN nq = w9 at HB3 ⊢
      go_wp2
      go_ret3
      exact ⟨by rw [HS.out]; rfl, HB3.out⟩
  · have hcz : ((S.code : Int) == 0) = false := by simp; omega
    have hcn : ((S.code : Int) != 0) = true := by simp; omega
    have HS : Hid (S.shut = { S with cl := true }) := by unfold Hid US.shut; rw [if_neg (fun h => hc h.1)]
    have hx : Hid (S.tx = []) := HT hc
    go_enter Try.func13, Try.ntmps13
    go_wp2_with fail
    refine RC.mono ?_
    rintro e w1 ⟨⟨T, Wh, rfl, hT⟩, B1⟩
    have HB : Hid (Below w.heap.size w w1) := B1
    have HB2 : Hid (w.heap.size ≤ w1.heap.size) := B1.size
    clear RC B1 hT hc
    go_wp2_with fail
    go_quiet (fail)
    have HB3 : Hid (Below w.heap.size w ((w1.alloc (.cells #[.string (ba T), .bool Wh, .int .i64 (S.code : Int), .int .i64 (S.fat : Int), .int .i64 (S.tk : Int)] 39)).drewN nq)) := bel_drewN (HB.out.alloc HB2.out _) nq
    generalize (w1.alloc (.cells #[.string (ba T), .bool Wh, .int .i64 (S.code : Int), .int .i64 (S.fat : Int), .int .i64 (S.tk : Int)] 39)).drewN nq = w9 at HB3 ⊢
    go_wp2
    go_ret3
    exact ⟨by rw [HS.out]; show _ = Ending.returned (.tuple #[.string (ba S.tx), .int .i64 (S.code : Int), .int .i64 (S.fat : Int)]); rw [hx.out]; rfl, HB3.out⟩

set_option maxHeartbeats 2000000 in
set_option maxRecDepth 10000 in
theorem reads_walk (b : ByteArray) (w : World) (hb : b.size ≤ 1048576) : Calls Try.prog 4 #[.string b] w fun e w' => e = .returned (.bool true) ∧ Below w.heap.size w w' := by
  obtain ⟨l, rfl⟩ : ∃ l, b = ba l := ⟨b.data.toList, (ba_list b).symm⟩
  rw [ba_size] at hb
  have UC := fun w => unpack_any l w (by omega)
  have RC := fun w => runpack_any l w (by omega)
  generalize unp l = S at UC RC
  go_enter Try.func4, Try.ntmps4
  go_wp2_with fail
  refine (awake_any _).mono ?_
  rintro e w1 ⟨rfl, B1⟩
  go_wp2_with fail
  refine (UC _).mono ?_
  rintro e w2 ⟨rfl, B2⟩
  have q2 : Hid (St (w2.alloc (.cells #[.int .i64 (S.code : Int), .int .i64 (S.fat : Int)] 30)) w2.heap.size [.int .i64 (S.code : Int), .int .i64 (S.fat : Int)]) := St.new w2 _ _
  have HB2 : Hid (Below w.heap.size w (w2.alloc (.cells #[.int .i64 (S.code : Int), .int .i64 (S.fat : Int)] 30))) := (bel_trans B1 B2).alloc (bel_trans B1 B2).size _
  clear UC B1 B2
  go_wp2_with fail
  generalize w2.alloc (.cells #[.int .i64 (S.code : Int), .int .i64 (S.fat : Int)] 30) = w3 at q2 HB2 ⊢
  refine (RC _).mono ?_
  rintro e w4 ⟨rfl, B4⟩
  have q4 : Hid (St w4 w2.heap.size [.int .i64 (S.code : Int), .int .i64 (S.fat : Int)]) := q2.out.same B4.size (B4.block _ q2.out.lt)
  have HB4 : Hid (Below w.heap.size w w4) := bel_trans HB2.out B4
  have z0 := q4.out.get 0 _ rfl
  have z1 := q4.out.get 1 _ rfl
  clear RC B4
  go_wp2
  go_ret
  exact ⟨rfl, HB4.out⟩

end Go.Proofs.Ythjpmiidbgaiaaa
