/- The law's own struct, opened and shut. -/
import Derived.Test.YtdmkkkfdigeinabDoorRows
import Derived.WalkKit
import Derived.ProofKit
import Derived.OpenShut
import Derived.ShutString
import Derived.ChangeOld
import Derived.Below
import Derived.SizedLaws
import Derived.Deep.Strs
namespace Go.Proofs.YtdmkkkfdigeinabDoor
open Go.ChangeShapes Go.WideShapes Go.ChangeAt Go.RowKit

theorem cells9 : Tryd.prog.cellsOf 9 = 1 := by kernel_rfl
theorem cellsP : Tryd.prog.cellsOf 33 = 4 := by kernel_rfl

theorem open_pieces {H : Type} {enc : TypeId × Value → H} {w : World} {r : Reach} {b0 base : Nat} {sp : Nat → Bool} {held : Bool} {v : Value} {d : DataW H} {ps : List MemPlace}
    (hval : Value.okWide Tryd.prog w r b0 33 v) (hd : DataW.Trod enc Tryd.prog w base sp held 33 v d ps) :
    ∃ a b c e : ByteArray, v = .agg #[.string a, .string b, .string c, .string e] ∧ d = .agg [.lit (.string a.data.toList), .lit (.string b.data.toList), .lit (.string c.data.toList), .lit (.string e.data.toList)] ∧ ps = [] ∧ a.size ≤ maxLen ∧ b.size ≤ maxLen ∧ c.size ≤ maxLen ∧ e.size ≤ maxLen := by
  obtain ⟨cs, rfl, hcs⟩ := okWide_struct Tryd.underlying33 hval
  rw [cellsP] at hcs
  obtain ⟨fuel, hf⟩ := hd
  obtain ⟨xs, n, _, hx, hl, hlen, hfs⟩ := DataW.trod_struct Tryd.underlying33 hf
  have g0 : DataW.trod enc Tryd.prog w base sp held n 9 ((cs.toList.drop 0).take 1) = xs[0]? := by have := hfs 0 _ rfl; rw [← cells9]; exact this
  have g1 : DataW.trod enc Tryd.prog w base sp held n 9 ((cs.toList.drop 1).take 1) = xs[1]? := by have := hfs 1 _ rfl; rw [← cells9]; exact this
  have g2 : DataW.trod enc Tryd.prog w base sp held n 9 ((cs.toList.drop 2).take 1) = xs[2]? := by have := hfs 2 _ rfl; rw [← cells9]; exact this
  have g3 : DataW.trod enc Tryd.prog w base sp held n 9 ((cs.toList.drop 3).take 1) = xs[3]? := by have := hfs 3 _ rfl; rw [← cells9]; exact this
  have hlen : xs.length = 4 := hlen
  clear hfs hval hf hl
  obtain ⟨l⟩ := cs
  have hcl : l.length = 4 := hcs
  match l, hcl, xs, hlen with
  | [u0, u1, u2, u3], _, [y0, y1, y2, y3], _ =>
    obtain ⟨a, ha, ya, sa⟩ := DataW.trod_string Tryd.underlying9 (x := y0) g0
    obtain ⟨b, hb, yb, sb⟩ := DataW.trod_string Tryd.underlying9 (x := y1) g1
    obtain ⟨c, hc, yc, sc⟩ := DataW.trod_string Tryd.underlying9 (x := y2) g2
    obtain ⟨e, he, ye, se⟩ := DataW.trod_string Tryd.underlying9 (x := y3) g3
    simp at ha hb hc he
    subst ha hb hc he ya yb yc ye
    simp at hx
    exact ⟨a, b, c, e, rfl, hx.1, hx.2, sa, sb, sc, se⟩

theorem shut_pieces {H : Type} {enc : TypeId × Value → H} {w : World} {base : Nat} {sp : Nat → Bool} {held : Bool} {a b c e : ByteArray} (ha : a.size ≤ maxLen) (hb : b.size ≤ maxLen) (hc : c.size ≤ maxLen) (he : e.size ≤ maxLen) :
    DataW.Trod enc Tryd.prog w base sp held 33 (.agg #[.string a, .string b, .string c, .string e]) (.agg [.lit (.string a.data.toList), .lit (.string b.data.toList), .lit (.string c.data.toList), .lit (.string e.data.toList)]) [] := by
  have one : ∀ s : ByteArray, s.size ≤ maxLen → DataW.trod enc Tryd.prog w base sp held 1 9 [.string s] = some (.lit (.string s.data.toList), []) := fun s hs => by simp [DataW.trod, Tryd.underlying9, hs]
  refine ⟨2, ?_⟩
  have := trod_struct_mk (enc := enc) (w := w) (base := base) (spare := sp) (held := held) (n := 1) (cs := [.string a, .string b, .string c, .string e]) (xs := [(.lit (.string a.data.toList), []), (.lit (.string b.data.toList), []), (.lit (.string c.data.toList), []), (.lit (.string e.data.toList), [])]) Tryd.underlying33 (by rw [cellsP]; rfl)
    (by simp [cells9, one a ha, one b hb, one c hc, one e he])
  exact this

theorem sized_pieces {H : Type} {P : Program} {ts : List TypeId} {ds : List (DataW H)} {a b c e : List UInt8} (h : (DataW.weightsEach P ts ds).all (· ≤ reachBytes) = true) {j t : Nat} {f0 f1 f2 f3 : Field} (ht : ts[j]? = some t) (hu : P.underlying t = some (.struct #[f0, f1, f2, f3])) (hd : ds[j]? = some (.agg [.lit (.string a), .lit (.string b), .lit (.string c), .lit (.string e)])) :
    a.length ≤ reachBytes ∧ b.length ≤ reachBytes ∧ c.length ≤ reachBytes ∧ e.length ≤ reachBytes := by
  have key : ∀ x ∈ [a.length, b.length, c.length, e.length], x ≤ reachBytes := fun x hx => by
    have := List.all_eq_true.1 h _ (DataW.weights_mem_each ht hd x (by simp [DataW.weights, hu, DataW.weightsEach]; simpa using hx))
    simpa using this
  exact ⟨key _ (by simp), key _ (by simp), key _ (by simp), key _ (by simp)⟩

end Go.Proofs.YtdmkkkfdigeinabDoor
