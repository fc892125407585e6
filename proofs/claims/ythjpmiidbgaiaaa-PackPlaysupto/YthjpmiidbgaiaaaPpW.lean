/- The law PackPlays, walked. -/
import Derived.Test.YthjpmiidbgaiaaaRdC
import Derived.Deep.LoopGhost
namespace Go.Proofs.Ythjpmiidbgaiaaa
open Go.RowKit

def preB (t : Nat → List UInt8) : Nat → Nat
  | 0 => 0
  | k + 1 => preB t k + (t k).length
theorem preB_mono (t : Nat → List UInt8) (k n : Nat) (h : k ≤ n) : preB t k ≤ preB t n := by
  induction n with
  | zero => rw [show k = 0 by omega]; exact Nat.le_refl _
  | succ n ih =>
    by_cases e : k = n + 1
    · rw [e]; exact Nat.le_refl _
    · have := ih (by omega)
      show preB t k ≤ preB t n + (t n).length
      omega
/-- Calls that came in: Close, or Feed of a text. -/
structure OpRow (w : World) (x : Option Addr) (n : Nat) (cl : Nat → Bool) (t : Nat → List UInt8) : Prop where
  cell : ∀ k, k < n → ∃ b o : Nat, x = some ⟨b, o, none⟩ ∧ b < w.heap.size ∧ w.cell? ⟨b, o + k * 2, none⟩ = some (.bool (cl k)) ∧ w.cell? ⟨b, o + k * 2 + 1, none⟩ = some (.string (ba (t k)))

/-- The unpacker behind its calls: what was fed in, and whether it is closed. -/
def stU (A : List UInt8) (sh : Bool) : US := if sh then (u0.run A).shut else u0.run A
theorem shut_a (s : US) (h : s.code = 0 ∧ s.wh = false) : s.shut = { s.fl 4 s.tk with cl := true } := by unfold US.shut; rw [if_pos h]
theorem shut_b (s : US) (h : ¬ (s.code = 0 ∧ s.wh = false)) : s.shut = { s with cl := true } := by unfold US.shut; rw [if_neg h]
theorem shut_shut (s : US) : s.shut.shut = s.shut := by
  by_cases h : s.code = 0 ∧ s.wh = false
  · rw [shut_a s h]
    exact shut_b { s.fl 4 s.tk with cl := true } (fun c => by cases c.1)
  · rw [shut_b s h]
    exact shut_b { s with cl := true } (fun c => h c)
theorem shut_tx (A : List UInt8) (h : (u0.run A).shut.code ≠ 0) : (u0.run A).shut.tx = [] := by
  by_cases hc : (u0.run A).code = 0 ∧ (u0.run A).wh = false
  · rw [shut_a _ hc]; rfl
  · rw [shut_b _ hc] at h ⊢
    exact run_tx A u0 (fun h => absurd rfl h) h
theorem shut_run (s : US) (l : List UInt8) : s.shut.run l = s.shut := US.run_off _ (by unfold US.shut US.off; simp) l
theorem stU_shut (A : List UInt8) (sh : Bool) : (stU A sh).shut = stU A true := by
  cases sh
  · rfl
  · exact shut_shut _
theorem shut_wh (s : US) (h : s.shut.code = 0) : s.shut.wh = true := by
  unfold US.shut at h ⊢
  by_cases hc : s.code = 0 ∧ s.wh = false
  · rw [if_pos hc] at h; cases h
  · rw [if_neg hc] at h ⊢
    have h0 : s.code = 0 := h
    show s.wh = true
    cases hw : s.wh
    · exact absurd ⟨h0, hw⟩ hc
    · rfl
theorem stU_UI (A : List UInt8) (sh : Bool) : UI (stU A sh) := by
  cases sh
  · exact UI.u0.run A
  · exact (UI.u0.run A).shut
theorem stU_tk (A : List UInt8) (sh : Bool) : (stU A sh).tk ≤ A.length := by
  have h := (US.run_tk A u0).1
  have e : (stU A sh).tk = (u0.run A).tk := by
    cases sh
    · rfl
    · show (u0.run A).shut.tk = _
      unfold US.shut
      split <;> rfl
  rw [e]
  have : u0.tk = 0 := rfl
  omega

/-- The document's Got in block D tells the unpacker's state. -/
structure PL (w0 wr : World) (g D : Nat) (A : List UInt8) (sh : Bool) : Prop where
  up : ∃ v, Up wr g v (stU A sh) ∧ ∀ q, v.ownBlock = some q → w0.heap.size ≤ q ∧ q ≠ D
  got : ∃ T Wh, St wr D [.string (ba T), .bool Wh, .int .i64 ((stU A sh).code : Int), .int .i64 ((stU A sh).fat : Int), .int .i64 ((stU A sh).tk : Int)] ∧ ((stU A sh).code = 0 → (sh = false → Wh = (stU A sh).wh) ∧ ((stU A sh).wh = true → T = (stU A sh).tx))
  be : Below w0.heap.size w0 wr
  gb : w0.heap.size ≤ g
  db : w0.heap.size ≤ D
  gd : g ≠ D
theorem PL.below {w0 wr w' : World} {g D : Nat} {A : List UInt8} {sh : Bool} (h : PL w0 wr g D A sh) (b : Below wr.heap.size wr w') : PL w0 w' g D A sh := by
  obtain ⟨v, U, hv⟩ := h.up
  obtain ⟨T, Wh, Q, hq⟩ := h.got
  exact ⟨⟨v, U.below b, hv⟩, ⟨T, Wh, Q.same b.size (b.block _ Q.lt), hq⟩, h.be.trans ⟨b.os, b.tape, b.output, b.size, fun k hk => b.block k (Nat.lt_of_lt_of_le hk h.be.size)⟩, h.gb, h.db, h.gd⟩
theorem PL.drewN {w0 wr : World} {g D : Nat} {A : List UInt8} {sh : Bool} (h : PL w0 wr g D A sh) (q : Nat) : PL w0 (wr.drewN q) g D A sh :=
  h.below ⟨rfl, rfl, rfl, Nat.le_refl _, fun _ _ => rfl⟩

set_option maxHeartbeats 8000000 in
set_option maxRecDepth 100000 in
theorem plays_walk (x : Option Addr) (n c : Nat) (cl : Nat → Bool) (t : Nat → List UInt8) (w : World) (hX : OpRow w x n cl t) (hn : n ≤ 1048576) (hS : preB t n ≤ 1048576) :
    Calls Try.prog 5 #[.slice x n c] w fun e w' => e = .returned (.bool true) ∧ Below w.heap.size w w' := by
  have HX : Hid (OpRow w x n cl t) := hX
  have HPB : Hid (∀ k, k < n → preB t k + (t k).length ≤ 1048576) := fun k hk => by
    have := preB_mono t (k + 1) n (by omega)
    have e : preB t (k + 1) = preB t k + (t k).length := rfl
    omega
  have RC0 : ∀ w : World, Calls Try.prog 15 #[.string ⟨#[]⟩] w fun e w' => GotP (u0.run []) e ∧ Below w.heap.size w w' := fun w => rread_any [] w (by decide)
  clear hX hS
  go_enter Try.func5, Try.ntmps5
  go_wp2_with fail
  refine (newU_any _).mono ?_
  rintro e w1 ⟨rfl, U1, B1⟩
  have HU1 : Hid (Up w1 w.heap.size (.slice none 0 0) u0) := U1
  have HB1 : Hid (Below w.heap.size w w1) := B1
  clear U1 B1
  go_wp2_with fail
  refine (awake_any _).mono ?_
  rintro e w2 ⟨rfl, B2⟩
  have HU2 : Hid (Up w2 w.heap.size (.slice none 0 0) u0) := HU1.out.below B2
  have HB2 : Hid (Below w.heap.size w w2) := bel_trans HB1.out B2
  clear B2 HU1 HB1
  go_wp2_with fail
  refine (RC0 _).mono ?_
  rintro e w3 ⟨⟨T, Wh, rfl, hT⟩, B3⟩
  have hT' := hT rfl
  have HI : Hid (PL w (w3.alloc (.cells #[.string (ba T), .bool Wh, .int .i64 0, .int .i64 0, .int .i64 0] 39)) w.heap.size w3.heap.size [] false) := by
    have B3' := bel_trans HB2.out B3
    have hs3 : w.heap.size < w3.heap.size := (HU2.out.below B3).lt
    exact ⟨⟨_, (HU2.out.below B3).alloc _, fun q h => by cases h⟩, ⟨T, Wh, St.new w3 _ _, fun _ => ⟨fun _ => hT'.1, hT'.2⟩⟩, B3'.alloc B3'.size _, Nat.le_refl _, B3'.size, by omega⟩
  clear RC0 B3 hT hT' HU2 HB2
  have hc0 : ((u0.run []).code : Int) = 0 := rfl
  have hf0 : ((u0.run []).fat : Int) = 0 := rfl
  have ht0 : ((u0.run []).tk : Int) = 0 := rfl
  rw [hc0, hf0, ht0]
  clear hc0 hf0 ht0
  go_wp2_with fail
  generalize w3.alloc (.cells #[.string (ba T), .bool Wh, .int .i64 0, .int .i64 0, .int .i64 0] 39) = w4 at HI ⊢
  generalize w3.heap.size = D at HI ⊢
  generalize hgg : w.heap.size = g at HI ⊢
  have HGG : Hid (w.heap.size = g) := hgg
  clear hgg
  go_loopg [4, 5, 24] n (fun gk a b ix wr => ∃ (k : Nat) (A : List UInt8) (sh : Bool), Hid (gk + k = n) ∧ ix = .int .i64 k ∧ a = .string (ba A) ∧ b = .bool sh ∧ Hid (A.length ≤ preB t k) ∧ Hid (PL w wr g D A sh))
  case atStart => exact ⟨0, [], false, rfl, rfl, rfl, rfl, Nat.zero_le _, HI⟩
  case round =>
    obtain ⟨k, A, sh, hgk, rfl, rfl, rfl, hLen, hP⟩ := hrel
    clear HI
    by_cases hk : k < n
    · obtain ⟨b, o, rfl, hbl, hc0, hc1⟩ := HX.out.cell k hk
      have hbe := hP.out.be
      have x0 : wr.cell? ⟨b, o + k * 2, none⟩ = some (.bool (cl k)) := (World.cell?_of_block (w := w) (a := ⟨b, o + k * 2, none⟩) (hbe.block b hbl)).trans hc0
      have x1 : wr.cell? ⟨b, o + k * 2 + 1, none⟩ = some (.string (ba (t k))) := (World.cell?_of_block (w := w) (a := ⟨b, o + k * 2 + 1, none⟩) (hbe.block b hbl)).trans hc1
      have htk := HPB.out k hk
      have hlA := hLen.out
      have HLEN : Hid (A.length ≤ preB t (k + 1)) := by unfold Hid; have := preB_mono t k (k + 1) (by omega); omega
      have HLEN2 : Hid ((A ++ t k).length ≤ preB t (k + 1)) := by unfold Hid; rw [List.length_append]; show _ ≤ preB t k + (t k).length; omega
      have hA1 : A.length ≤ 1048576 := by omega
      have hAt : A.length + (t k).length ≤ 1048576 := by omega
      clear hc0 hc1 hbe hLen hlA
      have HP5 : Hid (PL w (wr.alloc (.cells #[.bool (cl k), .string (ba (t k))] 42)) g D A sh) := hP.out.below ((Below.refl _ _).alloc (Nat.le_refl _) _)
      have q5 : Hid (St (wr.alloc (.cells #[.bool (cl k), .string (ba (t k))] 42)) wr.heap.size [.bool (cl k), .string (ba (t k))]) := St.new wr _ _
      cases hck : cl k with
      | true =>
        rw [hck] at x0 HP5 q5
        obtain ⟨v5, U5, hv5⟩ := HP5.out.up
        have CC := uclose_any g v5 _ _ U5 (stU_UI A sh)
        rw [stU_shut] at CC
        have HV5 : Hid (∀ q, v5.ownBlock = some q → w.heap.size ≤ q ∧ q ≠ D) := hv5
        clear U5 hv5
        go_wp2_with fail
        refine CC.mono ?_
        rintro e w6 ⟨rfl, v6, U6, M6⟩
        clear CC
        obtain ⟨T5, Wh5, Q5, hq5⟩ := HP5.out.got
        have hD5 : v5.ownBlock ≠ some D := fun e => (HV5.out D e).2 rfl
        have Q6 : St w6 D [.string (ba T5), .bool Wh5, .int .i64 ((stU A sh).code : Int), .int .i64 ((stU A sh).fat : Int), .int .i64 ((stU A sh).tk : Int)] := Q5.same M6.size (M6.block D Q5.lt (fun e => HP5.out.gd e.symm) hD5)
        have B6 : Below w.heap.size w w6 := HP5.out.be.trans (M6.keeps w.heap.size HP5.out.be.size HP5.out.gb (fun q h => (HV5.out q h).1))
        have N6 : ∀ q, v6.ownBlock = some q → w.heap.size ≤ q ∧ q ≠ D := fun q h => (M6.new q h).elim (HV5.out q) (fun e => ⟨Nat.le_trans HP5.out.be.size e, by have := Q5.lt; omega⟩)
        have d0 := Q6.get 0 _ rfl
        have d1 := Q6.get 1 _ rfl
        have d2 := Q6.get 2 _ rfl
        have d3 := Q6.get 3 _ rfl
        have d4 := Q6.get 4 _ rfl
        have y2 := Q6.fr 2 (by show 2 < 5; decide)
        have y3 := Q6.fr 3 (by show 3 < 5; decide)
        have ltD := Q6.lt
        have nD : w6.heap.size ≠ D := by omega
        have HGB : Hid (w.heap.size ≤ g ∧ w.heap.size ≤ D ∧ g ≠ D) := ⟨HP5.out.gb, HP5.out.db, HP5.out.gd⟩
        clear Q5 M6 HP5 hP hD5 HV5 x0 x1 q5
        -- the facts on both states
        have E5 : Hid ((stU A true).code ≠ 0 → (stU A true).tx = []) := fun h => shut_tx A h
        cases sh with
        | true =>
          have E1 : Hid ((stU A true).code = (stU A true).code) := rfl
          have E2 : Hid ((stU A true).fat = (stU A true).fat) := rfl
          have E3 : Hid ((stU A true).tk = (stU A true).tk) := rfl
          have E4 : Hid ((stU A true).code = 0 → T5 = (stU A true).tx) := fun h => (hq5 h).2 (shut_wh _ h)
          by_cases hcd : (stU A true).code = 0
          · have hT5 := E4.out hcd
            have HPN : Hid (PL w (w6.alloc (.cells #[.int .i64 ((stU A true).code : Int), .int .i64 ((stU A true).fat : Int)] 30)) g D A true) := ⟨⟨v6, U6.alloc _, N6⟩, ⟨T5, Wh5, (Q6.alloc _).cast (by rw [E1.out, E2.out, E3.out]), fun h => ⟨fun h => (by cases h), fun _ => E4.out h⟩⟩, B6.alloc B6.size _, HGB.out.1, HGB.out.2.1, HGB.out.2.2⟩
            clear U6 Q6 B6 N6 hq5
            subst hT5
            have hcz : ((stU A true).code : Int) = 0 := by rw [hcd]; rfl
            have hcq : (((stU A true).code : Int) == 0) = true := by rw [hcz]; rfl
            have hcn : (((stU A true).code : Int) != 0) = false := by rw [hcz]; rfl
            clear hcd hcz E1 E2 E3 E4 E5
            obtain ⟨vT, UT, hvT⟩ := HPN.out.up
            have FC := ufault_any g vT (stU A true) (w6.alloc (.cells #[.int .i64 ((stU A true).code : Int), .int .i64 ((stU A true).fat : Int)] 30)) UT
            clear UT hvT
            go_wp2_with fail
            refine FC.mono ?_
            rintro e wF ⟨rfl, BF⟩
            have HPF : Hid (PL w (wF.alloc (.cells #[.int .i64 ((stU A true).code : Int), .int .i64 ((stU A true).fat : Int)] 30)) g D A true) := (HPN.out.below BF).below ((Below.refl _ _).alloc (Nat.le_refl _) _)
            have q13 : Hid (St (wF.alloc (.cells #[.int .i64 ((stU A true).code : Int), .int .i64 ((stU A true).fat : Int)] 30)) wF.heap.size [.int .i64 ((stU A true).code : Int), .int .i64 ((stU A true).fat : Int)]) := St.new wF _ _
            clear FC BF HPN
            go_wp2_with fail
            generalize wF.alloc (.cells #[.int .i64 ((stU A true).code : Int), .int .i64 ((stU A true).fat : Int)] 30) = wH at HPF q13 ⊢
            obtain ⟨vH, UH, hvH⟩ := HPF.out.up
            obtain ⟨TH, WhH, QH, hqH⟩ := HPF.out.got
            have TC := fun n => utaken_any g vH (stU A true) (wH.drewN n) (UH.drewN n)
            have d2 := QH.get 2 _ rfl
            have d3 := QH.get 3 _ rfl
            have d4 := QH.get 4 _ rfl
            have b0 := q13.out.get 0 _ rfl
            have b1 := q13.out.get 1 _ rfl
            clear UH hvH QH hqH
            generalize (stU A true).code = cd at d2 b0
            generalize (stU A true).fat = ca at d3 b1
            generalize (stU A true).tk = ct at d4 TC
            have e1 : ((cd : Int) != (cd : Int)) = false := by simp
            have e2 : ((ca : Int) != (ca : Int)) = false := by simp
            have e3 : ((ct : Int) != (ct : Int)) = false := by simp
            clear q13
            go_quiet ((go_at_call 19; exact Calls.quiet_of_same (TC _)))
            have HPE : Hid (PL w (wH.drewN nq) g D A true) := HPF.out.drewN nq
            generalize wH.drewN nq = wE at HPE ⊢
            clear HPF TC d2 d3 d4 b0 b1
            go_wp2
            go_roundg (gk - 1)
            case measure => have := hgk.out; omega
            case rel => exact ⟨k + 1, A, true, by have := hgk.out; unfold Hid; omega, by go_num, rfl, rfl, HLEN, HPE⟩
          · have hx := E5.out hcd
            have HPN : Hid (PL w (w6.alloc (.cells #[.int .i64 ((stU A true).code : Int), .int .i64 ((stU A true).fat : Int)] 30)) g D A true) := ⟨⟨v6, U6.alloc _, N6⟩, ⟨T5, Wh5, (Q6.alloc _).cast (by rw [E1.out, E2.out, E3.out]), fun h => ⟨fun h => (by cases h), fun _ => E4.out h⟩⟩, B6.alloc B6.size _, HGB.out.1, HGB.out.2.1, HGB.out.2.2⟩
            clear U6 Q6 B6 N6 hq5
            have hcq : (((stU A true).code : Int) == 0) = false := by simp; omega
            have hcn : (((stU A true).code : Int) != 0) = true := by simp; omega
            have hxe : (ba (stU A true).tx) = ⟨#[]⟩ := by rw [hx]; rfl
            rw [hxe]
            clear hcd hx hxe E1 E2 E3 E4 E5
            obtain ⟨vT, UT, hvT⟩ := HPN.out.up
            have FC := ufault_any g vT (stU A true) (w6.alloc (.cells #[.int .i64 ((stU A true).code : Int), .int .i64 ((stU A true).fat : Int)] 30)) UT
            clear UT hvT
            go_wp2_with fail
            refine FC.mono ?_
            rintro e wF ⟨rfl, BF⟩
            have HPF : Hid (PL w (wF.alloc (.cells #[.int .i64 ((stU A true).code : Int), .int .i64 ((stU A true).fat : Int)] 30)) g D A true) := (HPN.out.below BF).below ((Below.refl _ _).alloc (Nat.le_refl _) _)
            have q13 : Hid (St (wF.alloc (.cells #[.int .i64 ((stU A true).code : Int), .int .i64 ((stU A true).fat : Int)] 30)) wF.heap.size [.int .i64 ((stU A true).code : Int), .int .i64 ((stU A true).fat : Int)]) := St.new wF _ _
            clear FC BF HPN
            go_wp2_with fail
            generalize wF.alloc (.cells #[.int .i64 ((stU A true).code : Int), .int .i64 ((stU A true).fat : Int)] 30) = wH at HPF q13 ⊢
            obtain ⟨vH, UH, hvH⟩ := HPF.out.up
            obtain ⟨TH, WhH, QH, hqH⟩ := HPF.out.got
            have TC := fun n => utaken_any g vH (stU A true) (wH.drewN n) (UH.drewN n)
            have d2 := QH.get 2 _ rfl
            have d3 := QH.get 3 _ rfl
            have d4 := QH.get 4 _ rfl
            have b0 := q13.out.get 0 _ rfl
            have b1 := q13.out.get 1 _ rfl
            clear UH hvH QH hqH
            generalize (stU A true).code = cd at d2 b0
            generalize (stU A true).fat = ca at d3 b1
            generalize (stU A true).tk = ct at d4 TC
            have e1 : ((cd : Int) != (cd : Int)) = false := by simp
            have e2 : ((ca : Int) != (ca : Int)) = false := by simp
            have e3 : ((ct : Int) != (ct : Int)) = false := by simp
            clear q13
            go_quiet ((go_at_call 19; exact Calls.quiet_of_same (TC _)))
            have HPE : Hid (PL w (wH.drewN nq) g D A true) := HPF.out.drewN nq
            generalize wH.drewN nq = wE at HPE ⊢
            clear HPF TC d2 d3 d4 b0 b1
            go_wp2
            go_roundg (gk - 1)
            case measure => have := hgk.out; omega
            case rel => exact ⟨k + 1, A, true, by have := hgk.out; unfold Hid; omega, by go_num, rfl, rfl, HLEN, HPE⟩
        | false =>
          by_cases hc0 : (stU A false).code = 0
          · by_cases hwh : (stU A false).wh = true
            · skip
              have hw5 : Wh5 = true := ((hq5 hc0).1 rfl).trans hwh
              subst hw5
              have hSB := shut_b (u0.run A) (fun h => by rw [show (u0.run A).wh = true from hwh] at h; cases h.2)
              have E1 : Hid ((stU A true).code = (stU A false).code) := by unfold Hid; show (u0.run A).shut.code = _; rw [hSB]; rfl
              have E2 : Hid ((stU A true).fat = (stU A false).fat) := by unfold Hid; show (u0.run A).shut.fat = _; rw [hSB]; rfl
              have E3 : Hid ((stU A true).tk = (stU A false).tk) := by unfold Hid; show (u0.run A).shut.tk = _; rw [hSB]; rfl
              have E4 : Hid ((stU A true).code = 0 → T5 = (stU A true).tx) := fun h => by rw [(hq5 hc0).2 hwh]; show (u0.run A).tx = (u0.run A).shut.tx; rw [hSB]
              have hcd : (stU A true).code = 0 := by rw [E1.out]; exact hc0
              have hT5 := E4.out hcd
              rw [← E1.out] at d2
              rw [← E2.out] at d3
              rw [← E3.out] at d4
              have HPN : Hid (PL w (w6.alloc (.cells #[.int .i64 ((stU A true).code : Int), .int .i64 ((stU A true).fat : Int)] 30)) g D A true) := ⟨⟨v6, U6.alloc _, N6⟩, ⟨T5, true, (Q6.alloc _).cast (by rw [E1.out, E2.out, E3.out]), fun h => ⟨fun h => (by cases h), fun _ => E4.out h⟩⟩, B6.alloc B6.size _, HGB.out.1, HGB.out.2.1, HGB.out.2.2⟩
              clear U6 Q6 B6 N6 hq5 hSB
              subst hT5
              have hcz : ((stU A true).code : Int) = 0 := by rw [hcd]; rfl
              have hcq : (((stU A true).code : Int) == 0) = true := by rw [hcz]; rfl
              have hcn : (((stU A true).code : Int) != 0) = false := by rw [hcz]; rfl
              clear hcd hcz E1 E2 E3 E4 E5 hc0 hwh
              obtain ⟨vT, UT, hvT⟩ := HPN.out.up
              have FC := ufault_any g vT (stU A true) (w6.alloc (.cells #[.int .i64 ((stU A true).code : Int), .int .i64 ((stU A true).fat : Int)] 30)) UT
              clear UT hvT
              go_wp2_with fail
              refine FC.mono ?_
              rintro e wF ⟨rfl, BF⟩
              have HPF : Hid (PL w (wF.alloc (.cells #[.int .i64 ((stU A true).code : Int), .int .i64 ((stU A true).fat : Int)] 30)) g D A true) := (HPN.out.below BF).below ((Below.refl _ _).alloc (Nat.le_refl _) _)
              have q13 : Hid (St (wF.alloc (.cells #[.int .i64 ((stU A true).code : Int), .int .i64 ((stU A true).fat : Int)] 30)) wF.heap.size [.int .i64 ((stU A true).code : Int), .int .i64 ((stU A true).fat : Int)]) := St.new wF _ _
              clear FC BF HPN
              go_wp2_with fail
              generalize wF.alloc (.cells #[.int .i64 ((stU A true).code : Int), .int .i64 ((stU A true).fat : Int)] 30) = wH at HPF q13 ⊢
              obtain ⟨vH, UH, hvH⟩ := HPF.out.up
              obtain ⟨TH, WhH, QH, hqH⟩ := HPF.out.got
              have TC := fun n => utaken_any g vH (stU A true) (wH.drewN n) (UH.drewN n)
              have d2 := QH.get 2 _ rfl
              have d3 := QH.get 3 _ rfl
              have d4 := QH.get 4 _ rfl
              have b0 := q13.out.get 0 _ rfl
              have b1 := q13.out.get 1 _ rfl
              clear UH hvH QH hqH
              generalize (stU A true).code = cd at d2 b0
              generalize (stU A true).fat = ca at d3 b1
              generalize (stU A true).tk = ct at d4 TC
              have e1 : ((cd : Int) != (cd : Int)) = false := by simp
              have e2 : ((ca : Int) != (ca : Int)) = false := by simp
              have e3 : ((ct : Int) != (ct : Int)) = false := by simp
              clear q13
              go_quiet ((go_at_call 19; exact Calls.quiet_of_same (TC _)))
              have HPE : Hid (PL w (wH.drewN nq) g D A true) := HPF.out.drewN nq
              generalize wH.drewN nq = wE at HPE ⊢
              clear HPF TC d2 d3 d4 b0 b1
              go_wp2
              go_roundg (gk - 1)
              case measure => have := hgk.out; omega
              case rel => exact ⟨k + 1, A, true, by have := hgk.out; unfold Hid; omega, by go_num, rfl, rfl, HLEN, HPE⟩
            · have hwf : (stU A false).wh = false := by simpa using hwh
              clear hwh
              have hw5 : Wh5 = false := ((hq5 hc0).1 rfl).trans hwf
              subst hw5
              have hSA := shut_a (u0.run A) ⟨hc0, hwf⟩
              have F1 : Hid ((stU A true).code = 4) := by unfold Hid; show (u0.run A).shut.code = _; rw [hSA]; rfl
              have F2 : Hid ((stU A true).fat = (stU A true).tk) := by unfold Hid; show (u0.run A).shut.fat = (u0.run A).shut.tk; rw [hSA]; rfl
              have E3 : Hid ((stU A true).tk = (stU A false).tk) := by unfold Hid; show (u0.run A).shut.tk = _; rw [hSA]; rfl
              have hx : (stU A true).tx = [] := E5.out (by rw [F1.out]; decide)
              rw [show (((stU A false).code : Nat) : Int) = 0 by rw [hc0]; rfl] at d2
              rw [← E3.out] at d4
              have h4 : ((stU A true).code : Int) = 4 := by rw [F1.out]; rfl
              have hfa : ((stU A true).fat : Int) = ((stU A true).tk : Int) := by rw [F2.out]
              have HPN : Hid (PL w (((w6.setCell ⟨D, 2, none⟩ (.int .i64 4)).setCell ⟨D, 3, none⟩ (.int .i64 ((stU A true).tk : Int))).alloc (.cells #[.int .i64 4, .int .i64 ((stU A true).tk : Int)] 30)) g D A true) := ⟨⟨v6, ((U6.put D 2 _ HGB.out.2.2 (fun e => (N6 D e).2 rfl)).put D 3 _ HGB.out.2.2 (fun e => (N6 D e).2 rfl)).alloc _, N6⟩, ⟨T5, false, (((Q6.set 2 (.int .i64 4) (by show 2 < 5; decide)).set 3 (.int .i64 ((stU A true).tk : Int)) (by show 3 < 5; decide)).alloc _).cast (by rw [h4, hfa, E3.out]; rfl), fun h => absurd h (by rw [F1.out]; decide)⟩, ((B6.setCell HGB.out.2.1 _).setCell HGB.out.2.1 _).alloc (by simpa using B6.size) _, HGB.out.1, HGB.out.2.1, HGB.out.2.2⟩
              clear U6 Q6 B6 N6 hq5 hSA
              have hxe : (ba (stU A true).tx) = ⟨#[]⟩ := by rw [hx]; rfl
              rw [hxe, h4, hfa]
              clear hx hxe E3 E5 hc0 hwf F1 F2
              obtain ⟨vT, UT, hvT⟩ := HPN.out.up
              have FC := ufault_any g vT (stU A true) (((w6.setCell ⟨D, 2, none⟩ (.int .i64 4)).setCell ⟨D, 3, none⟩ (.int .i64 ((stU A true).tk : Int))).alloc (.cells #[.int .i64 4, .int .i64 ((stU A true).tk : Int)] 30)) UT
              clear UT hvT
              go_wp2_with fail
              clear h4 hfa
              refine FC.mono ?_
              rintro e wF ⟨rfl, BF⟩
              have HPF : Hid (PL w (wF.alloc (.cells #[.int .i64 ((stU A true).code : Int), .int .i64 ((stU A true).fat : Int)] 30)) g D A true) := (HPN.out.below BF).below ((Below.refl _ _).alloc (Nat.le_refl _) _)
              have q13 : Hid (St (wF.alloc (.cells #[.int .i64 ((stU A true).code : Int), .int .i64 ((stU A true).fat : Int)] 30)) wF.heap.size [.int .i64 ((stU A true).code : Int), .int .i64 ((stU A true).fat : Int)]) := St.new wF _ _
              clear FC BF HPN
              go_wp2_with fail
              generalize wF.alloc (.cells #[.int .i64 ((stU A true).code : Int), .int .i64 ((stU A true).fat : Int)] 30) = wH at HPF q13 ⊢
              obtain ⟨vH, UH, hvH⟩ := HPF.out.up
              obtain ⟨TH, WhH, QH, hqH⟩ := HPF.out.got
              have TC := fun n => utaken_any g vH (stU A true) (wH.drewN n) (UH.drewN n)
              have d2 := QH.get 2 _ rfl
              have d3 := QH.get 3 _ rfl
              have d4 := QH.get 4 _ rfl
              have b0 := q13.out.get 0 _ rfl
              have b1 := q13.out.get 1 _ rfl
              clear UH hvH QH hqH
              generalize (stU A true).code = cd at d2 b0
              generalize (stU A true).fat = ca at d3 b1
              generalize (stU A true).tk = ct at d4 TC
              have e1 : ((cd : Int) != (cd : Int)) = false := by simp
              have e2 : ((ca : Int) != (ca : Int)) = false := by simp
              have e3 : ((ct : Int) != (ct : Int)) = false := by simp
              clear q13
              go_quiet ((go_at_call 19; exact Calls.quiet_of_same (TC _)))
              have HPE : Hid (PL w (wH.drewN nq) g D A true) := HPF.out.drewN nq
              generalize wH.drewN nq = wE at HPE ⊢
              clear HPF TC d2 d3 d4 b0 b1
              go_wp2
              go_roundg (gk - 1)
              case measure => have := hgk.out; omega
              case rel => exact ⟨k + 1, A, true, by have := hgk.out; unfold Hid; omega, by go_num, rfl, rfl, HLEN, HPE⟩
          · cases Wh5 with
            | true =>
              have hSB := shut_b (u0.run A) (fun h => hc0 h.1)
              have E1 : Hid ((stU A true).code = (stU A false).code) := by unfold Hid; show (u0.run A).shut.code = _; rw [hSB]; rfl
              have E2 : Hid ((stU A true).fat = (stU A false).fat) := by unfold Hid; show (u0.run A).shut.fat = _; rw [hSB]; rfl
              have E3 : Hid ((stU A true).tk = (stU A false).tk) := by unfold Hid; show (u0.run A).shut.tk = _; rw [hSB]; rfl
              have hcd : (stU A true).code ≠ 0 := by rw [E1.out]; exact hc0
              have E4 : Hid ((stU A true).code = 0 → T5 = (stU A true).tx) := fun h => absurd h hcd
              have hx := E5.out hcd
              rw [← E1.out] at d2
              rw [← E2.out] at d3
              rw [← E3.out] at d4
              have HPN : Hid (PL w (w6.alloc (.cells #[.int .i64 ((stU A true).code : Int), .int .i64 ((stU A true).fat : Int)] 30)) g D A true) := ⟨⟨v6, U6.alloc _, N6⟩, ⟨T5, true, (Q6.alloc _).cast (by rw [E1.out, E2.out, E3.out]), fun h => ⟨fun h => (by cases h), fun _ => E4.out h⟩⟩, B6.alloc B6.size _, HGB.out.1, HGB.out.2.1, HGB.out.2.2⟩
              clear U6 Q6 B6 N6 hq5 hSB
              have hcq : (((stU A true).code : Int) == 0) = false := by simp; omega
              have hcn : (((stU A true).code : Int) != 0) = true := by simp; omega
              have hxe : (ba (stU A true).tx) = ⟨#[]⟩ := by rw [hx]; rfl
              rw [hxe]
              clear hcd hx hxe E1 E2 E3 E4 E5 hc0
              obtain ⟨vT, UT, hvT⟩ := HPN.out.up
              have FC := ufault_any g vT (stU A true) (w6.alloc (.cells #[.int .i64 ((stU A true).code : Int), .int .i64 ((stU A true).fat : Int)] 30)) UT
              clear UT hvT
              go_wp2_with fail
              refine FC.mono ?_
              rintro e wF ⟨rfl, BF⟩
              have HPF : Hid (PL w (wF.alloc (.cells #[.int .i64 ((stU A true).code : Int), .int .i64 ((stU A true).fat : Int)] 30)) g D A true) := (HPN.out.below BF).below ((Below.refl _ _).alloc (Nat.le_refl _) _)
              have q13 : Hid (St (wF.alloc (.cells #[.int .i64 ((stU A true).code : Int), .int .i64 ((stU A true).fat : Int)] 30)) wF.heap.size [.int .i64 ((stU A true).code : Int), .int .i64 ((stU A true).fat : Int)]) := St.new wF _ _
              clear FC BF HPN
              go_wp2_with fail
              generalize wF.alloc (.cells #[.int .i64 ((stU A true).code : Int), .int .i64 ((stU A true).fat : Int)] 30) = wH at HPF q13 ⊢
              obtain ⟨vH, UH, hvH⟩ := HPF.out.up
              obtain ⟨TH, WhH, QH, hqH⟩ := HPF.out.got
              have TC := fun n => utaken_any g vH (stU A true) (wH.drewN n) (UH.drewN n)
              have d2 := QH.get 2 _ rfl
              have d3 := QH.get 3 _ rfl
              have d4 := QH.get 4 _ rfl
              have b0 := q13.out.get 0 _ rfl
              have b1 := q13.out.get 1 _ rfl
              clear UH hvH QH hqH
              generalize (stU A true).code = cd at d2 b0
              generalize (stU A true).fat = ca at d3 b1
              generalize (stU A true).tk = ct at d4 TC
              have e1 : ((cd : Int) != (cd : Int)) = false := by simp
              have e2 : ((ca : Int) != (ca : Int)) = false := by simp
              have e3 : ((ct : Int) != (ct : Int)) = false := by simp
              clear q13
              go_quiet ((go_at_call 19; exact Calls.quiet_of_same (TC _)))
              have HPE : Hid (PL w (wH.drewN nq) g D A true) := HPF.out.drewN nq
              generalize wH.drewN nq = wE at HPE ⊢
              clear HPF TC d2 d3 d4 b0 b1
              go_wp2
              go_roundg (gk - 1)
              case measure => have := hgk.out; omega
              case rel => exact ⟨k + 1, A, true, by have := hgk.out; unfold Hid; omega, by go_num, rfl, rfl, HLEN, HPE⟩
            | false =>
              have hSB := shut_b (u0.run A) (fun h => hc0 h.1)
              have E1 : Hid ((stU A true).code = (stU A false).code) := by unfold Hid; show (u0.run A).shut.code = _; rw [hSB]; rfl
              have E2 : Hid ((stU A true).fat = (stU A false).fat) := by unfold Hid; show (u0.run A).shut.fat = _; rw [hSB]; rfl
              have E3 : Hid ((stU A true).tk = (stU A false).tk) := by unfold Hid; show (u0.run A).shut.tk = _; rw [hSB]; rfl
              have hcd : (stU A true).code ≠ 0 := by rw [E1.out]; exact hc0
              have E4 : Hid ((stU A true).code = 0 → T5 = (stU A true).tx) := fun h => absurd h hcd
              have hx := E5.out hcd
              rw [← E1.out] at d2
              rw [← E2.out] at d3
              rw [← E3.out] at d4
              have HPN : Hid (PL w (w6.alloc (.cells #[.int .i64 ((stU A true).code : Int), .int .i64 ((stU A true).fat : Int)] 30)) g D A true) := ⟨⟨v6, U6.alloc _, N6⟩, ⟨T5, false, (Q6.alloc _).cast (by rw [E1.out, E2.out, E3.out]), fun h => ⟨fun h => (by cases h), fun _ => E4.out h⟩⟩, B6.alloc B6.size _, HGB.out.1, HGB.out.2.1, HGB.out.2.2⟩
              clear U6 Q6 B6 N6 hq5 hSB
              have hcq : (((stU A true).code : Int) == 0) = false := by simp; omega
              have hcn : (((stU A true).code : Int) != 0) = true := by simp; omega
              have hxe : (ba (stU A true).tx) = ⟨#[]⟩ := by rw [hx]; rfl
              rw [hxe]
              clear hcd hx hxe E1 E2 E3 E4 E5 hc0
              obtain ⟨vT, UT, hvT⟩ := HPN.out.up
              have FC := ufault_any g vT (stU A true) (w6.alloc (.cells #[.int .i64 ((stU A true).code : Int), .int .i64 ((stU A true).fat : Int)] 30)) UT
              clear UT hvT
              go_wp2_with fail
              refine FC.mono ?_
              rintro e wF ⟨rfl, BF⟩
              have HPF : Hid (PL w (wF.alloc (.cells #[.int .i64 ((stU A true).code : Int), .int .i64 ((stU A true).fat : Int)] 30)) g D A true) := (HPN.out.below BF).below ((Below.refl _ _).alloc (Nat.le_refl _) _)
              have q13 : Hid (St (wF.alloc (.cells #[.int .i64 ((stU A true).code : Int), .int .i64 ((stU A true).fat : Int)] 30)) wF.heap.size [.int .i64 ((stU A true).code : Int), .int .i64 ((stU A true).fat : Int)]) := St.new wF _ _
              clear FC BF HPN
              go_wp2_with fail
              generalize wF.alloc (.cells #[.int .i64 ((stU A true).code : Int), .int .i64 ((stU A true).fat : Int)] 30) = wH at HPF q13 ⊢
              obtain ⟨vH, UH, hvH⟩ := HPF.out.up
              obtain ⟨TH, WhH, QH, hqH⟩ := HPF.out.got
              have TC := fun n => utaken_any g vH (stU A true) (wH.drewN n) (UH.drewN n)
              have d2 := QH.get 2 _ rfl
              have d3 := QH.get 3 _ rfl
              have d4 := QH.get 4 _ rfl
              have b0 := q13.out.get 0 _ rfl
              have b1 := q13.out.get 1 _ rfl
              clear UH hvH QH hqH
              generalize (stU A true).code = cd at d2 b0
              generalize (stU A true).fat = ca at d3 b1
              generalize (stU A true).tk = ct at d4 TC
              have e1 : ((cd : Int) != (cd : Int)) = false := by simp
              have e2 : ((ca : Int) != (ca : Int)) = false := by simp
              have e3 : ((ct : Int) != (ct : Int)) = false := by simp
              clear q13
              go_quiet ((go_at_call 19; exact Calls.quiet_of_same (TC _)))
              have HPE : Hid (PL w (wH.drewN nq) g D A true) := HPF.out.drewN nq
              generalize wH.drewN nq = wE at HPE ⊢
              clear HPF TC d2 d3 d4 b0 b1
              go_wp2
              go_roundg (gk - 1)
              case measure => have := hgk.out; omega
              case rel => exact ⟨k + 1, A, true, by have := hgk.out; unfold Hid; omega, by go_num, rfl, rfl, HLEN, HPE⟩
      | false =>
        rw [hck] at x0 HP5 q5
        obtain ⟨v5, U0, hv5⟩ := hP.out.up
        obtain ⟨T5, Wh5, Q5, hq5⟩ := hP.out.got
        have U5 : Up (wr.alloc (.cells #[.bool false, .string (ba (t k))] 42)) g v5 (stU A sh) := U0.alloc _
        obtain ⟨cc, w6, hcv, hBS, b6⟩ := BSl.conv (wr.alloc (.cells #[.bool false, .string (ba (t k))] 42)) (t k) g v5 U5.lt (fun q h => (U5.buf.lt q h).2)
        have hsA : (wr.alloc (.cells #[.bool false, .string (ba (t k))] 42)).heap.size = wr.heap.size + 1 := World.size_alloc _ _
        rw [hsA] at hcv hBS
        have htkA := stU_tk A sh
        have FD := feed_any g v5 (stU A sh) (some ⟨wr.heap.size + 1, 0, none⟩) cc (t k) w6 (U5.below b6) (stU_UI A sh) hBS (by omega)
        have d4 : wr.cell? ⟨D, 4, none⟩ = some (.int .i64 ((stU A sh).tk : Int)) := Q5.get 4 _ rfl
        have ltD : D < wr.heap.size := Q5.lt
        have nDw : wr.heap.size ≠ D := by omega
        have nb := U0.newBlock wr.heap.size (Nat.le_refl _)
        have q6 : St w6 wr.heap.size [.bool false, .string (ba (t k))] := q5.out.same b6.size (b6.block _ q5.out.lt)
        have Q6 : St w6 D [.string (ba T5), .bool Wh5, .int .i64 ((stU A sh).code : Int), .int .i64 ((stU A sh).fat : Int), .int .i64 ((stU A sh).tk : Int)] := (Q5.alloc _).same b6.size (b6.block _ (Q5.alloc _).lt)
        have B6 : Below w.heap.size w w6 := bel_trans HP5.out.be b6
        have HGB : Hid (w.heap.size ≤ g ∧ w.heap.size ≤ D ∧ g ≠ D) := ⟨hP.out.gb, hP.out.db, hP.out.gd⟩
        have hszT := ba_size (t k)
        have hszA := ba_size A
        clear U0 U5 hBS b6 q5 HP5 hP Q5
        go_wp2_with fail
        refine FD.mono ?_
        rintro e w7 ⟨rfl, v7, U7, M7⟩
        clear FD hcv x0 x1
        have Q7 : St w7 D [.string (ba T5), .bool Wh5, .int .i64 ((stU A sh).code : Int), .int .i64 ((stU A sh).fat : Int), .int .i64 ((stU A sh).tk : Int)] := Q6.same M7.size (M7.block D Q6.lt (fun e => HGB.out.2.2 e.symm) (fun e => (hv5 D e).2 rfl))
        have q7 : St w7 wr.heap.size [.bool false, .string (ba (t k))] := q6.same M7.size (M7.block _ q6.lt nb.1 nb.2)
        have B7 : Below w.heap.size w w7 := B6.trans (M7.keeps w.heap.size B6.size HGB.out.1 (fun q h => (hv5 q h).1))
        have N7 : ∀ q, v7.ownBlock = some q → w.heap.size ≤ q ∧ q ≠ D := fun q h => (M7.new q h).elim (hv5 q) (fun e => ⟨Nat.le_trans B6.size e, by have := Q6.lt; omega⟩)
        have y1 := q7.get 1 _ rfl
        have f4 := Q7.get 4 _ rfl
        clear Q6 B6 q6 M7 hv5 d4
        cases sh with
        | true =>
          have hrs : (stU A true).run (t k) = stU A true := shut_run _ _
          rw [hrs] at U7
          rw [hrs]
          have HPN : Hid (PL w w7 g D A true) := ⟨⟨v7, U7, N7⟩, ⟨T5, Wh5, Q7, hq5⟩, B7, HGB.out.1, HGB.out.2.1, HGB.out.2.2⟩
          have hz0 : (((stU A true).tk - (stU A true).tk : Nat) : Int) = 0 := by rw [Nat.sub_self]; rfl
          rw [hz0]
          clear U7 N7 Q7 hq5 B7 hrs hz0 q7 y1
          obtain ⟨vT, UT, hvT⟩ := HPN.out.up
          have FC := ufault_any g vT (stU A true) (w7) UT
          clear UT hvT
          go_wp2_with fail
          refine FC.mono ?_
          rintro e wF ⟨rfl, BF⟩
          have HPF : Hid (PL w (wF.alloc (.cells #[.int .i64 ((stU A true).code : Int), .int .i64 ((stU A true).fat : Int)] 30)) g D A true) := (HPN.out.below BF).below ((Below.refl _ _).alloc (Nat.le_refl _) _)
          have q13 : Hid (St (wF.alloc (.cells #[.int .i64 ((stU A true).code : Int), .int .i64 ((stU A true).fat : Int)] 30)) wF.heap.size [.int .i64 ((stU A true).code : Int), .int .i64 ((stU A true).fat : Int)]) := St.new wF _ _
          clear FC BF HPN
          go_wp2_with fail
          generalize wF.alloc (.cells #[.int .i64 ((stU A true).code : Int), .int .i64 ((stU A true).fat : Int)] 30) = wH at HPF q13 ⊢
          obtain ⟨vH, UH, hvH⟩ := HPF.out.up
          obtain ⟨TH, WhH, QH, hqH⟩ := HPF.out.got
          have TC := fun n => utaken_any g vH (stU A true) (wH.drewN n) (UH.drewN n)
          have d2 := QH.get 2 _ rfl
          have d3 := QH.get 3 _ rfl
          have d4 := QH.get 4 _ rfl
          have b0 := q13.out.get 0 _ rfl
          have b1 := q13.out.get 1 _ rfl
          clear UH hvH QH hqH
          generalize (stU A true).code = cd at d2 b0
          generalize (stU A true).fat = ca at d3 b1
          generalize (stU A true).tk = ct at d4 TC
          have e1 : ((cd : Int) != (cd : Int)) = false := by simp
          have e2 : ((ca : Int) != (ca : Int)) = false := by simp
          have e3 : ((ct : Int) != (ct : Int)) = false := by simp
          clear q13
          go_quiet ((go_at_call 19; exact Calls.quiet_of_same (TC _)))
          have HPE : Hid (PL w (wH.drewN nq) g D A true) := HPF.out.drewN nq
          generalize wH.drewN nq = wE at HPE ⊢
          clear HPF TC d2 d3 d4 b0 b1
          go_wp2
          go_roundg (gk - 1)
          case measure => have := hgk.out; omega
          case rel => exact ⟨k + 1, A, true, by have := hgk.out; unfold Hid; omega, by go_num, rfl, rfl, HLEN, HPE⟩
        | false =>
          have hrs : (stU A false).run (t k) = u0.run (A ++ t k) := (US.run_append u0 A (t k)).symm
          rw [hrs] at U7
          rw [hrs]
          have hcat : ba A ++ ba (t k) = ba (A ++ t k) := (ba_append A (t k)).symm
          have RC := fun w => rread_any (A ++ t k) w (by rw [List.length_append]; omega)
          have hmono : (u0.run A).tk ≤ (u0.run (A ++ t k)).tk := by
            have := (US.run_tk (t k) (u0.run A)).2
            rw [← US.run_append] at this
            exact this
          have htk2 := (US.run_tk (A ++ t k) u0).1
          rw [List.length_append] at htk2
          have htk3 : (u0.run (A ++ t k)).tk ≤ 1048576 := by have : u0.tk = 0 := rfl; omega
          have hsub : ((u0.run (A ++ t k)).tk : Int) - ((stU A false).tk : Int) = (((u0.run (A ++ t k)).tk - (stU A false).tk : Nat) : Int) := by have : (stU A false).tk = (u0.run A).tk := rfl; omega
          generalize ((u0.run (A ++ t k)).tk - (stU A false).tk : Nat) = DF at hsub ⊢
          have HU7 : Hid (Up w7 g v7 (u0.run (A ++ t k))) := U7
          have HN7 : Hid (∀ q, v7.ownBlock = some q → w.heap.size ≤ q ∧ q ≠ D) := N7
          have HQ7 : Hid (St w7 D [.string (ba T5), .bool Wh5, .int .i64 ((stU A false).code : Int), .int .i64 ((stU A false).fat : Int), .int .i64 ((stU A false).tk : Int)]) := Q7
          have HB7 : Hid (Below w.heap.size w w7) := B7
          clear U7 N7 Q7 B7 hq5 hrs htk2 hmono q7 f4
          rw [← hcat] at RC
          clear hcat
          go_wp2_with fail
          refine (RC _).mono ?_
          rintro e w8 ⟨⟨T8, Wh8, rfl, hT8⟩, B8'⟩
          clear RC y1
          have U8 := HU7.out.below B8'
          have Q8 := HQ7.out.same B8'.size (B8'.block _ HQ7.out.lt)
          have B8 := bel_trans HB7.out B8'
          have G3 := HGB.out.2.2
          have ND : v7.ownBlock ≠ some D := fun e => (HN7.out D e).2 rfl
          have z0 := Q8.get 0 _ rfl
          have z1 := Q8.get 1 _ rfl
          have z2 := Q8.get 2 _ rfl
          have z3 := Q8.get 3 _ rfl
          have z4 := Q8.get 4 _ rfl
          have y0 := Q8.fr 0 (by show 0 < 5; decide)
          have y1 := Q8.fr 1 (by show 1 < 5; decide)
          have y2 := Q8.fr 2 (by show 2 < 5; decide)
          have y3 := Q8.fr 3 (by show 3 < 5; decide)
          have y4 := Q8.fr 4 (by show 4 < 5; decide)
          have HPN : Hid (PL w (((((w8.setCell ⟨D, 0, none⟩ (.string (ba T8))).setCell ⟨D, 1, none⟩ (.bool Wh8)).setCell ⟨D, 2, none⟩ (.int .i64 ((u0.run (A ++ t k)).code : Int))).setCell ⟨D, 3, none⟩ (.int .i64 ((u0.run (A ++ t k)).fat : Int))).setCell ⟨D, 4, none⟩ (.int .i64 ((u0.run (A ++ t k)).tk : Int))) g D (A ++ t k) false) := ⟨⟨v7, (((((U8.put D 0 _ G3 ND).put D 1 _ G3 ND).put D 2 _ G3 ND).put D 3 _ G3 ND).put D 4 _ G3 ND), HN7.out⟩, ⟨T8, Wh8, (((((Q8.set 0 (.string (ba T8)) (by show 0 < 5; decide)).set 1 (.bool Wh8) (by show 1 < 5; decide)).set 2 (.int .i64 ((u0.run (A ++ t k)).code : Int)) (by show 2 < 5; decide)).set 3 (.int .i64 ((u0.run (A ++ t k)).fat : Int)) (by show 3 < 5; decide)).set 4 (.int .i64 ((u0.run (A ++ t k)).tk : Int)) (by show 4 < 5; decide)).cast rfl, fun h => ⟨fun _ => (hT8 h).1, (hT8 h).2⟩⟩, (((((B8.setCell HGB.out.2.1 _).setCell HGB.out.2.1 _).setCell HGB.out.2.1 _).setCell HGB.out.2.1 _).setCell HGB.out.2.1 _), HGB.out.1, HGB.out.2.1, HGB.out.2.2⟩
          clear U8 Q8 B8 B8' HU7 HN7 HQ7 HB7 hT8 G3 ND
          obtain ⟨vT, UT, hvT⟩ := HPN.out.up
          have FC := ufault_any g vT (stU (A ++ t k) false) ((((((w8.setCell ⟨D, 0, none⟩ (.string (ba T8))).setCell ⟨D, 1, none⟩ (.bool Wh8)).setCell ⟨D, 2, none⟩ (.int .i64 ((u0.run (A ++ t k)).code : Int))).setCell ⟨D, 3, none⟩ (.int .i64 ((u0.run (A ++ t k)).fat : Int))).setCell ⟨D, 4, none⟩ (.int .i64 ((u0.run (A ++ t k)).tk : Int)))) UT
          clear UT hvT
          go_wp2_with fail
          refine FC.mono ?_
          rintro e wF ⟨rfl, BF⟩
          have HPF : Hid (PL w (wF.alloc (.cells #[.int .i64 ((stU (A ++ t k) false).code : Int), .int .i64 ((stU (A ++ t k) false).fat : Int)] 30)) g D (A ++ t k) false) := (HPN.out.below BF).below ((Below.refl _ _).alloc (Nat.le_refl _) _)
          have q13 : Hid (St (wF.alloc (.cells #[.int .i64 ((stU (A ++ t k) false).code : Int), .int .i64 ((stU (A ++ t k) false).fat : Int)] 30)) wF.heap.size [.int .i64 ((stU (A ++ t k) false).code : Int), .int .i64 ((stU (A ++ t k) false).fat : Int)]) := St.new wF _ _
          clear FC BF HPN
          go_wp2_with fail
          generalize wF.alloc (.cells #[.int .i64 ((stU (A ++ t k) false).code : Int), .int .i64 ((stU (A ++ t k) false).fat : Int)] 30) = wH at HPF q13 ⊢
          obtain ⟨vH, UH, hvH⟩ := HPF.out.up
          obtain ⟨TH, WhH, QH, hqH⟩ := HPF.out.got
          have TC := fun n => utaken_any g vH (stU (A ++ t k) false) (wH.drewN n) (UH.drewN n)
          have d2 := QH.get 2 _ rfl
          have d3 := QH.get 3 _ rfl
          have d4 := QH.get 4 _ rfl
          have b0 := q13.out.get 0 _ rfl
          have b1 := q13.out.get 1 _ rfl
          clear UH hvH QH hqH
          generalize (stU (A ++ t k) false).code = cd at d2 b0
          generalize (stU (A ++ t k) false).fat = ca at d3 b1
          generalize (stU (A ++ t k) false).tk = ct at d4 TC
          have e1 : ((cd : Int) != (cd : Int)) = false := by simp
          have e2 : ((ca : Int) != (ca : Int)) = false := by simp
          have e3 : ((ct : Int) != (ct : Int)) = false := by simp
          clear q13
          go_quiet ((go_at_call 19; exact Calls.quiet_of_same (TC _)))
          have HPE : Hid (PL w (wH.drewN nq) g D (A ++ t k) false) := HPF.out.drewN nq
          generalize wH.drewN nq = wE at HPE ⊢
          clear HPF TC d2 d3 d4 b0 b1
          go_wp2
          go_roundg (gk - 1)
          case measure => have := hgk.out; omega
          case rel => exact ⟨k + 1, (A ++ t k), false, by have := hgk.out; unfold Hid; omega, by go_num, by rw [ba_append], rfl, HLEN2, HPE⟩
    · obtain rfl : k = n := by have := hgk.out; omega
      go_wp2
      go_ret
      exact ⟨rfl, hP.out.be⟩

end Go.Proofs.Ythjpmiidbgaiaaa
