/- The calls of package fault that read a chain, errors.Is and errors.Unwrap, by their contracts. -/
import Derived.Test.YtijphfgefnpepaaDoorFirst
import Derived.Deep.QuietTactic
import Derived.BigQuiet
import Derived.WalkSmall
namespace Go.Proofs.YtijphfgefnpepaaDoor
open Go.RowKit Go.Extern.Stop Go.Stop Go.Extern

/-- The error 'e' is, in the world 'w', the faults of the list 'l' around 'z'. -/
def Ch (w : World) (z : Value) : List Lk → Value → Prop
  | [], e => e = z
  | k :: r, e => ∃ b e', e = .iface 48 (.pointer (some ⟨b, 0, none⟩)) ∧ w.cell? ⟨b, 0, none⟩ = some (.string k.op) ∧ w.cell? ⟨b, 1, none⟩ = some (.int .i64 k.dev) ∧ w.cell? ⟨b, 2, none⟩ = some (.int .i64 k.pl) ∧ w.cell? ⟨b, 3, none⟩ = some e' ∧ Ch w z r e'

/-- What 'first' tells of such an error. -/
def Fst (w : World) (z : Value) : List Lk → Value → Prop
  | [], p => p = .pointer none
  | k :: r, p => ∃ b e', p = .pointer (some ⟨b, 0, none⟩) ∧ w.cell? ⟨b, 0, none⟩ = some (.string k.op) ∧ w.cell? ⟨b, 1, none⟩ = some (.int .i64 k.dev) ∧ w.cell? ⟨b, 2, none⟩ = some (.int .i64 k.pl) ∧ w.cell? ⟨b, 3, none⟩ = some e' ∧ Ch w z r e'

/-- What may stand at a chain's end: nothing, or a code. -/
def EndOk (z : Value) : Prop := z = .nilIface ∨ ∃ c, z = .iface 27 (.int .i64 c)

theorem Chain.ch {w : World} {c : Int} : ∀ (l : List Lk) (e : Value), Chain w l c e → Ch w (.iface 27 (.int .i64 c)) l e
  | [], _, h => h
  | _ :: r, _, ⟨b, e', h1, h2, h3, h4, h5, h6⟩ => ⟨b, e', h1, h2, h3, h4, h5, Chain.ch r e' h6⟩

theorem Ch.below {w w' : World} {z : Value} (hb : Below w.heap.size w w') : ∀ (l : List Lk) (e : Value), Ch w z l e → Ch w' z l e
  | [], _, h => h
  | k :: r, e, ⟨b, e', h1, h2, h3, h4, h5, h6⟩ =>
    ⟨b, e', h1, by rw [hb.cell (cell_lt h2)]; exact h2, by rw [hb.cell (cell_lt h3)]; exact h3, by rw [hb.cell (cell_lt h4)]; exact h4, by rw [hb.cell (cell_lt h5)]; exact h5, Ch.below hb r e' h6⟩

theorem Fst.below {w w' : World} {z : Value} (hb : Below w.heap.size w w') : ∀ (l : List Lk) (p : Value), Fst w z l p → Fst w' z l p
  | [], _, h => h
  | k :: r, e, ⟨b, e', h1, h2, h3, h4, h5, h6⟩ =>
    ⟨b, e', h1, by rw [hb.cell (cell_lt h2)]; exact h2, by rw [hb.cell (cell_lt h3)]; exact h3, by rw [hb.cell (cell_lt h4)]; exact h4, by rw [hb.cell (cell_lt h5)]; exact h5, Ch.below hb r e' h6⟩

theorem first_any (z : Value) (hz : EndOk z) (l : List Lk) (e : Value) (w : World) (hc : Ch w z l e) (hL : Laid w) :
    Calls Tryd.prog 24 #[e] w fun ev w' => ∃ p, ev = .returned p ∧ Fst w z l p ∧ Below w.heap.size w w' := by
  cases l with
  | nil =>
    have he : e = z := hc
    subst he
    rcases hz with rfl | ⟨c, rfl⟩
    · refine (first_nil w).mono ?_
      rintro ev w' ⟨rfl, hb⟩
      exact ⟨_, rfl, rfl, hb⟩
    · refine (first_code c w hL).mono ?_
      rintro ev w' ⟨rfl, hb⟩
      exact ⟨_, rfl, rfl, hb⟩
  | cons k r =>
    obtain ⟨b, e', rfl, h2, h3, h4, h5, h6⟩ := hc
    refine (first_fault ⟨b, 0, none⟩ w hL).mono ?_
    rintro ev w' ⟨rfl, hb⟩
    exact ⟨_, rfl, ⟨b, e', rfl, h2, h3, h4, h5, h6⟩, hb⟩

theorem where_nil (w : World) : Calls Tryd.prog 25 #[.pointer none] w fun e w' => e = .returned (.tuple #[.int .i64 0, .int .i64 0, .bool false]) ∧ w' = w := by
  go_enter Tryd.func25, Tryd.ntmps25
  go_wp2
  go_ret3
  exact ⟨rfl, rfl⟩

theorem where_some (b : Nat) (d p : Int) (w : World) (h1 : w.cell? ⟨b, 1, none⟩ = some (.int .i64 d)) (h2 : w.cell? ⟨b, 2, none⟩ = some (.int .i64 p)) :
    Calls Tryd.prog 25 #[.pointer (some ⟨b, 0, none⟩)] w fun e w' => e = .returned (.tuple #[.int .i64 d, .int .i64 p, .bool true]) ∧ Below w.heap.size w w' := by
  go_enter Tryd.func25, Tryd.ntmps25
  go_wp2
  go_quiet (fail)
  go_wp2
  go_ret3
  exact ⟨rfl, below_drewN (Below.refl _ _) _⟩
end Go.Proofs.YtijphfgefnpepaaDoor
