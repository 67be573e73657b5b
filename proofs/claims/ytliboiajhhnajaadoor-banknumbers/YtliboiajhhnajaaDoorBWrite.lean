/- Write by its contract. -/
import Derived.Test.YtliboiajhhnajaaDoorBFind
import Derived.Test.YtliboiajhhnajaaDoorWrite
namespace Go.Proofs.YtliboiajhhnajaaDoor
open Go.RowKit Go.Extern

/-- What a call that may fail leaves of a bank: the fault, or none; the devices and the power. -/
def BTurned (F : Nat → Prop) (b : Nat) (D' : List Dev) (q' : Pw) (c : Int) (op : ByteArray) (d p : Int) (w : World) (e : Ending) (w' : World) : Prop :=
  ∃ u, e = .returned u ∧ FErr w' u c op d p ∧ Bk w' (ext F w w') b D' q' ∧ Turn F w w'
theorem ext_below {F : Nat → Prop} {w w1 w2 : World} (h : w1.heap.size ≤ w2.heap.size) (k : Nat) (hk : ext F w w1 k) : ext F w w2 k := by
  rcases hk with hk | hk
  · exact .inl hk
  · exact .inr ⟨hk.1, by omega⟩
theorem BTurned.wrapped {F : Nat → Prop} {b : Nat} {D' : List Dev} {q' : Pw} {c : Int} {op : ByteArray} {d p : Int} {w w1 w2 : World} {u : Value} (hb : Bk w1 (ext F w w1) b D' q') (ht : Turn F w w1) (hu : FErr w2 u c op d p) (h2 : Below w1.heap.size w1 w2) : BTurned F b D' q' c op d p w (.returned u) w2 :=
  ⟨u, rfl, hu, (hb.below h2).mono (fun k hk => ext_below h2.size k hk), ht.trans (Turn.of_below (F := F) h2) (fun _ _ h => h)⟩
theorem Bk.ext_self {w : World} {F : Nat → Prop} {b : Nat} {D : List Dev} {q : Pw} (h : Bk w F b D q) : Bk w (ext F w w) b D q := h.mono (fun _ hk => .inl hk)

/-- The sectors of a device; a device laid anew. -/
def secsOf (D : List Dev) (i : Int) : List Sec := match D[i.toNat]? with | some (some (_, S)) => S | _ => []
def putDev (D : List Dev) (i : Int) (S' : List Sec) : List Dev := match D[i.toNat]? with | some (some (p, _)) => D.set i.toNat (some (p, S')) | _ => D
theorem secsOf_at {D : List Dev} {k p : Nat} {S : List Sec} (h : D[k]? = some (some (p, S))) : secsOf D (k : Int) = S := by unfold secsOf; rw [Int.toNat_natCast, h]
theorem putDev_at {D : List Dev} {k p : Nat} {S : List Sec} (h : D[k]? = some (some (p, S))) (S' : List Sec) : putDev D (k : Int) S' = D.set k (some (p, S')) := by unfold putDev; rw [Int.toNat_natCast, h]
/-- No device has more than so many writes that wait for one sector. -/
def WlB (D : List Dev) (j : Nat) : Prop := ∀ (i p : Nat) (S : List Sec), D[i]? = some (some (p, S)) → ∀ s ∈ S, s.wait.length ≤ j

/-- What Write does. -/
def bwC (D : List Dev) (q : Pw) (i s : Int) (d : List Nat) : Int := if lookP D q i = 0 then (if wErr (secsOf D i) s d = 0 then spendC q else wErr (secsOf D i) s d) else lookP D q i
def bwD (D : List Dev) (q : Pw) (i s : Int) (d : List Nat) : List Dev := if bwC D q i s d = 0 then putDev D i (wSet (secsOf D i) s d) else D
def bwQ (D : List Dev) (q : Pw) (i s : Int) (d : List Nat) : Pw := if lookP D q i = 0 ∧ wErr (secsOf D i) s d = 0 then spent q else q
theorem wErr_take (S : List Sec) (s : Int) (d : List Nat) : takeB S s d = decide (wErr S s d = 0) := by
  unfold takeB wErr
  cases hasB S s with
  | false => simp
  | true =>
    by_cases h : d.length = 128
    · simp [h]
    · simp [h]
theorem Dk.turnB {w w' : World} {F : Nat → Prop} {b p : Nat} {S : List Sec} (h : Dk w F p S) (ht : Turn (fun k => k = b) w w') (hb : ¬ F b) : Dk w' F p S := h.turn ht (fun k hk e => hb (by rw [← e]; exact hk))

end Go.Proofs.YtliboiajhhnajaaDoor
