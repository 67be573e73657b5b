/- A reverse map in memory. -/
import Derived.Test.YtjopdejgijojmaaSp
namespace Go.Proofs.Ytjopdejgijojmaa
open Go.RowKit Go.Extern

def encM (b : Nat) : Value := .map (some b)
def encE (_ : Unit) : Value := .agg #[]
/-- The keys of a set. -/
def setL (l : List Own) : List (Own × Unit) := l.map (fun o => (o, ()))
theorem mem_setL {l : List Own} {p : Own × Unit} : p ∈ setL l ↔ p.1 ∈ l := by
  obtain ⟨o, u⟩ := p
  simp [setL]
theorem setL_filter {l : List Own} {o : Own} : (setL l).filter (fun p => decide (p.1 ≠ o)) = setL (l.filter (fun q => decide (q ≠ o))) := by
  unfold setL; rw [List.filter_map]; rfl
theorem setL_length (l : List Own) : (setL l).length = l.length := by simp [setL]

/-- In the world 'w' the block 'b' is a reverse map of the pairs 'l': 'bn' has what is named, 'bo' the sets 'A' of those who name an address; all its blocks are among 'E', but for what is saved. -/
structure CrAt (w : World) (E : Nat → Prop) (b : Nat) (l : List Ref) (bn bo : Nat) (A : List (Int × Nat)) (sv : Option Nat) : Prop where
  blk : w.heap[b]? = some (.cells #[.map (some bn), .map (some bo), .map sv] 65 (0, 0))
  nm : MapIs encO OkO encI w bn l
  ow : MapIs encI I64 encM w bo A
  st : ∀ p ∈ A, MapIs encO OkO encE w p.2 (setL (byS l p.1))
  all : ∀ a, byS l a ≠ [] ↔ ∃ p ∈ A, p.1 = a
  ok : Okl l
  ne : bn ≠ bo
  neS : ∀ p ∈ A, p.2 ≠ bn ∧ p.2 ≠ bo
  inj : ∀ p ∈ A, ∀ q ∈ A, p.2 = q.2 → p = q
  inB : E b
  inN : E bn
  inO : E bo
  inS : ∀ p ∈ A, E p.2
  bd : ∀ k, E k → k < w.heap.size

theorem cell_of {w : World} {b : Nat} {cs : Array Value} {T : TypeId} {i : Nat} {v : Value} (h : w.heap[b]? = some (.cells cs T (0, 0))) (hi : cs[i]? = some v) : w.cell? ⟨b, i, none⟩ = some v := by simp [World.cell?, h, hi]
theorem froz_of {w : World} {b : Nat} {cs : Array Value} {T : TypeId} (h : w.heap[b]? = some (.cells cs T (0, 0))) (i : Nat) : w.frozen? ⟨b, i, none⟩ = false := by simp [World.frozen?, h]
section
variable {w w' : World} {E : Nat → Prop} {b bn bo : Nat} {l : List Ref} {A : List (Int × Nat)} {sv : Option Nat}
theorem CrAt.c0 (h : CrAt w E b l bn bo A sv) : w.cell? ⟨b, 0, none⟩ = some (.map (some bn)) := cell_of h.blk rfl
theorem CrAt.c1 (h : CrAt w E b l bn bo A sv) : w.cell? ⟨b, 1, none⟩ = some (.map (some bo)) := cell_of h.blk rfl
theorem CrAt.c2 (h : CrAt w E b l bn bo A sv) : w.cell? ⟨b, 2, none⟩ = some (.map sv) := cell_of h.blk rfl
theorem CrAt.neB (h : CrAt w E b l bn bo A sv) : b ≠ bn ∧ b ≠ bo ∧ ∀ p ∈ A, b ≠ p.2 := by
  refine ⟨fun e => ?_, fun e => ?_, fun p hp e => ?_⟩
  · obtain ⟨es, c, hm⟩ := h.nm.isMap; rw [← e, h.blk] at hm; cases hm
  · obtain ⟨es, c, hm⟩ := h.ow.isMap; rw [← e, h.blk] at hm; cases hm
  · obtain ⟨es, c, hm⟩ := (h.st p hp).isMap; rw [← e, h.blk] at hm; cases hm
theorem CrAt.of_blocks (h : CrAt w E b l bn bo A sv) (hs : w.heap.size ≤ w'.heap.size) (hk : ∀ k, E k → w'.heap[k]? = w.heap[k]?) : CrAt w' E b l bn bo A sv :=
  ⟨(hk b h.inB).trans h.blk, h.nm.of_block (fun _ ho => (hk bn h.inN).trans ho), h.ow.of_block (fun _ ho => (hk bo h.inO).trans ho), fun p hp => (h.st p hp).of_block (fun _ ho => (hk _ (h.inS p hp)).trans ho), h.all, h.ok, h.ne, h.neS, h.inj, h.inB, h.inN, h.inO, h.inS, fun k hE => Nat.lt_of_lt_of_le (h.bd k hE) hs⟩
theorem CrAt.below (h : CrAt w E b l bn bo A sv) (hb : Below w.heap.size w w') : CrAt w' E b l bn bo A sv := h.of_blocks hb.size (fun k hE => hb.block k (h.bd k hE))
theorem CrAt.mono {E' : Nat → Prop} (h : CrAt w E b l bn bo A sv) (hE : ∀ k, E k → E' k) (hE' : ∀ k, E' k → k < w.heap.size) : CrAt w E' b l bn bo A sv :=
  ⟨h.blk, h.nm, h.ow, h.st, h.all, h.ok, h.ne, h.neS, h.inj, hE _ h.inB, hE _ h.inN, hE _ h.inO, fun p hp => hE _ (h.inS p hp), hE'⟩
end

/-- What is saved: of each owner that names something else than at Begin, what it named then. -/
def SvIs (w : World) (sv : Option Nat) (l : List Ref) : Option (List Ref) → Prop
  | none => sv = none
  | some W => ∃ s S, sv = some s ∧ MapIs encO OkO encI w s S ∧ Okl W ∧ ∀ o c, (o, c) ∈ S ↔ (c = ofS W o ∧ c ≠ ofS l o)
/-- A reverse map of the pairs 'l'; 'was': the pairs at Begin, if something is begun. -/
def Rf (w : World) (F : Nat → Prop) (b : Nat) (l : List Ref) (was : Option (List Ref)) : Prop :=
  ∃ E bn bo A sv, CrAt w E b l bn bo A sv ∧ SvIs w sv l was ∧ (∀ s, sv = some s → ¬ E s ∧ F s) ∧ (∀ k, E k → F k) ∧ (∀ k, F k → k < w.heap.size)
theorem SvIs.of_block {w w' : World} {sv : Option Nat} {l : List Ref} {was : Option (List Ref)} (h : SvIs w sv l was) (hk : ∀ s, sv = some s → w'.heap[s]? = w.heap[s]?) : SvIs w' sv l was := by
  cases was with
  | none => exact h
  | some W =>
    obtain ⟨s, S, rfl, hm, hr⟩ := h
    exact ⟨s, S, rfl, hm.of_block (fun _ ho => (hk s rfl).trans ho), hr⟩
theorem Rf.bd {w : World} {F : Nat → Prop} {b : Nat} {l : List Ref} {was : Option (List Ref)} (h : Rf w F b l was) : ∀ k, F k → k < w.heap.size := by
  obtain ⟨E, bn, bo, A, sv, -, -, -, -, h⟩ := h; exact h
theorem Rf.ok {w : World} {F : Nat → Prop} {b : Nat} {l : List Ref} {was : Option (List Ref)} (h : Rf w F b l was) : Okl l := by
  obtain ⟨E, bn, bo, A, sv, h, -⟩ := h; exact h.ok
theorem Rf.of_blocks {w w' : World} {F : Nat → Prop} {b : Nat} {l : List Ref} {was : Option (List Ref)} (h : Rf w F b l was) (hs : w.heap.size ≤ w'.heap.size) (hk : ∀ k, F k → w'.heap[k]? = w.heap[k]?) : Rf w' F b l was := by
  obtain ⟨E, bn, bo, A, sv, h1, h2, h3, h4, h5⟩ := h
  exact ⟨E, bn, bo, A, sv, h1.of_blocks hs (fun k hE => hk k (h4 k hE)), h2.of_block (fun s e => hk s (h3 s e).2), h3, h4, fun k hF => Nat.lt_of_lt_of_le (h5 k hF) hs⟩
theorem Rf.below {w w' : World} {F : Nat → Prop} {b : Nat} {l : List Ref} {was : Option (List Ref)} (h : Rf w F b l was) (hb : Below w.heap.size w w') : Rf w' F b l was := h.of_blocks hb.size (fun k hF => hb.block k (h.bd k hF))

theorem zeroI (w : World) : (zeroValue 3).run Try.prog w = .ok (.int .i64 0) w := by kernel_rfl
theorem zeroS (w : World) : (zeroValue 83).run Try.prog w = .ok (.map none) w := by kernel_rfl
theorem uN : Try.prog.underlying 62 = some (.map 35 3) := Try.underlying62
theorem uA : Try.prog.underlying 63 = some (.map 3 83) := Try.underlying63
theorem uS : Try.prog.underlying 83 = some (.map 35 85) := Try.underlying83

end Go.Proofs.Ytjopdejgijojmaa
