/- Pieces read as data. -/
import Derived.Test.YtlgmfiboekmhkabDoorArgs4
import Derived.Test.YtlgmfiboekmhkabDoorOwn0
namespace Go.Proofs.YtlgmfiboekmhkabDoor
open Go.ChangeShapes Go.WideShapes Go.ChangeAt Go.RowKit Go.Deep Go.Joins

theorem two_piece : ∃ f0 f1, Tryd.prog.underlying 34 = some (.struct #[f0, f1]) ∧ f0.type = 3 ∧ f0.offset = 0 ∧ f1.type = 3 ∧ f1.offset = 1 :=
  ⟨_, _, Tryd.underlying34, rfl, rfl, rfl, rfl⟩
theorem cells_piece : Tryd.prog.cellsOf 34 = 2 := by kernel_rfl
theorem list2 {α : Type} {cs : List α} (h : cs.length = 2) : ∃ c0 c1, cs = [c0, c1] := by
  match cs, h with
  | [c0, c1], _ => exact ⟨c0, c1, rfl⟩

section
variable {H : Type} {enc : TypeId × Value → H} {W : World}
theorem piece_read {spare : Nat → Bool} {held : Bool} {n : Nat} {cs : List Value} {x : DataW H × List MemPlace} (h : DataW.trod enc Tryd.prog W 0 spare held n 34 cs = some x) :
    ∃ p : Pc, cs = [.int .i64 p.size, .int .i64 p.n] ∧ -9223372036854775808 ≤ p.n ∧ p.n < 9223372036854775808 := by
  obtain ⟨f0, f1, hs, t0, o0, t1, o1⟩ := two_piece
  obtain ⟨y0, y1, m, -, hl, h0, h1⟩ := trod_struct2 hs h
  rw [cells_piece] at hl
  obtain ⟨c0, c1, rfl⟩ := list2 hl
  rw [t0, o0, cellsInt] at h0
  rw [t1, o1, cellsInt] at h1
  have h0' : DataW.trod enc Tryd.prog W 0 spare held m 3 [c0] = some y0 := h0
  have h1' : DataW.trod enc Tryd.prog W 0 spare held m 3 [c1] = some y1 := h1
  obtain ⟨a, e0, -, -⟩ := DataW.trod_int Tryd.underlying3 h0'
  obtain ⟨b, e1, -, hb⟩ := DataW.trod_int Tryd.underlying3 h1'
  simp only [List.cons.injEq, and_true] at e0 e1
  subst e0 e1
  exact ⟨⟨a, b⟩, rfl, i64_of hb⟩

theorem pieces_read {v : Value} {d : DataW H} {ps : List MemPlace} (h : DataW.Trod enc Tryd.prog W 0 (fun _ => true) true 23 v d ps) (hs : ∃ a l c, v = .slice a l c) : ∃ l, Pieces W v l := by
  obtain ⟨a0, l0, c0, rfl⟩ := hs
  obtain ⟨fuel, hf⟩ := h
  rcases open_slice Tryd.underlying23 hf with ⟨hcs, -⟩ | ⟨a, len, cap, m, n, D, Pl, hcs, -, hl, -, hm, -, hx⟩
  · simp [Value.cells] at hcs
    obtain ⟨rfl, rfl, rfl⟩ := hcs
    exact ⟨[], none, 0, 0, 0, rfl, by simp, by simp, by simp⟩
  · simp [Value.cells] at hcs
    obtain ⟨rfl, rfl, rfl⟩ := hcs
    simp only [if_true] at hm
    subst hm
    rw [cells_piece] at hx
    have each : ∀ i, i < l0 → ∃ p : Pc, W.cells? 0 (a.add (i * 2)) 2 = some [.int .i64 p.size, .int .i64 p.n] ∧ -9223372036854775808 ≤ p.n ∧ p.n < 9223372036854775808 := fun i hi => by
      obtain ⟨cs', h1, h2⟩ := hx i (by omega)
      obtain ⟨p, rfl, hp⟩ := piece_read h2
      exact ⟨p, h1, hp⟩
    have inst : Inhabited Pc := ⟨⟨0, 0⟩⟩
    obtain ⟨K, hK⟩ := choose_lt each
    refine ⟨(List.range l0).map K, ?_⟩
    have hall : ∀ p ∈ (List.range l0).map K, -9223372036854775808 ≤ p.n ∧ p.n < 9223372036854775808 := by
      intro p hp
      obtain ⟨i, hi, rfl⟩ := List.mem_map.1 hp
      exact (hK i (List.mem_range.1 hi)).2
    by_cases h0 : l0 = 0
    · subst h0
      exact ⟨some a, _, 0, 0, rfl, by simp, by simp, hall⟩
    · obtain ⟨b, off, spot⟩ := a
      have hsp : spot = none := by
        have := (World.cells?_some (hK 0 (by omega)).1).2.2 0 (by omega)
        have e0 : ((⟨b, off, spot⟩ : Addr).add (0 * 2)).add 0 = ⟨b, off, spot⟩ := by simp [Addr.add]
        rw [e0] at this
        exact World.cell?_spot (by simpa using this)
      subst hsp
      refine ⟨some ⟨b, off, none⟩, _, b, off, by simp; rfl, fun _ => rfl, fun i p hp => ?_, hall⟩
      obtain ⟨hi, rfl⟩ := List.getElem?_eq_some_iff.1 hp
      have hi' : i < l0 := by simpa using hi
      have hc := (World.cells?_some (hK i hi').1).2.2
      have c0 := hc 0 (by omega)
      have c1 := hc 1 (by omega)
      rw [add_plain', add_plain'] at c0 c1
      simp at c0 c1
      simp only [List.getElem_map, List.getElem_range]
      exact ⟨c0, c1⟩
end
end Go.Proofs.YtlgmfiboekmhkabDoor
