/- Slices of pairs and of owners, read while a reverse map turns. -/
import Derived.Test.YtjopdejgijojmaaAw
namespace Go.Proofs.Ytjopdejgijojmaa
open Go.RowKit Go.Extern

/-- 'v' is a slice of the pairs 'rs'; none of 'F' is its block. -/
structure RefsAt (F : Nat → Prop) (w : World) (ao : Option Addr) (g off : Nat) (rs : List Ref) : Prop where
  ad : 0 < rs.length → ao = some ⟨g, off, none⟩
  out : 0 < rs.length → ¬ F g
  cells : ∀ (i : Nat) (r : Ref), rs[i]? = some r → w.cell? ⟨g, off + i * 3, none⟩ = some (.int .i64 r.1.1) ∧ w.cell? ⟨g, off + i * 3 + 1, none⟩ = some (.int .i64 r.1.2) ∧ w.cell? ⟨g, off + i * 3 + 2, none⟩ = some (.int .i64 r.2)
structure OwnsAt (F : Nat → Prop) (w : World) (ao : Option Addr) (g : Nat) (os : List Own) : Prop where
  ad : 0 < os.length → ao = some ⟨g, 0, none⟩
  out : 0 < os.length → ¬ F g
  cells : ∀ (i : Nat) (o : Own), os[i]? = some o → w.cell? ⟨g, i * 2, none⟩ = some (.int .i64 o.1) ∧ w.cell? ⟨g, i * 2 + 1, none⟩ = some (.int .i64 o.2)
theorem pos_of_get {α : Type} {l : List α} {i : Nat} {x : α} (h : l[i]? = some x) : 0 < l.length := by have := (List.getElem?_eq_some_iff.1 h).1; omega
theorem cell_same {w w' : World} {a : Addr} {v : Value} (hb : w'.heap[a.block]? = w.heap[a.block]?) (h : w.cell? a = some v) : w'.cell? a = some v := by
  unfold World.cell? at h ⊢; rw [hb]; exact h
section
variable {F : Nat → Prop} {w w' : World} {ao : Option Addr} {g off : Nat} {rs : List Ref} {os : List Own}
theorem RefsAt.turn (h : RefsAt F w ao g off rs) (ht : Turn F w w') : RefsAt (ext F w w') w' ao g off rs := by
  have key : ∀ {i : Nat} {r : Ref}, rs[i]? = some r → w'.heap[g]? = w.heap[g]? ∧ g < w.heap.size := fun hr => ⟨ht.block g (cell_lt (h.cells _ _ hr).1) (h.out (pos_of_get hr)), cell_lt (h.cells _ _ hr).1⟩
  refine ⟨h.ad, fun hp hx => ?_, fun i r hr => ?_⟩
  · have hr : rs[0]? = some rs[0] := by simp [hp]
    have := (key hr).2
    rcases hx with hx | ⟨h1, -⟩
    · exact h.out hp hx
    · omega
  · obtain ⟨h1, h2, h3⟩ := h.cells i r hr
    have hk := (key hr).1
    exact ⟨cell_same hk h1, cell_same hk h2, cell_same hk h3⟩
theorem RefsAt.below (h : RefsAt F w ao g off rs) (hb : Below w.heap.size w w') : RefsAt F w' ao g off rs :=
  ⟨h.ad, h.out, fun i r hr => by
    obtain ⟨h1, h2, h3⟩ := h.cells i r hr
    have hk := hb.block g (cell_lt h1)
    exact ⟨cell_same hk h1, cell_same hk h2, cell_same hk h3⟩⟩
theorem OwnsAt.turn (h : OwnsAt F w ao g os) (ht : Turn F w w') : OwnsAt (ext F w w') w' ao g os := by
  have key : ∀ {i : Nat} {r : Own}, os[i]? = some r → w'.heap[g]? = w.heap[g]? ∧ g < w.heap.size := fun hr => ⟨ht.block g (cell_lt (h.cells _ _ hr).1) (h.out (pos_of_get hr)), cell_lt (h.cells _ _ hr).1⟩
  refine ⟨h.ad, fun hp hx => ?_, fun i r hr => ?_⟩
  · have hr : os[0]? = some os[0] := by simp [hp]
    have := (key hr).2
    rcases hx with hx | ⟨h1, -⟩
    · exact h.out hp hx
    · omega
  · obtain ⟨h1, h2⟩ := h.cells i r hr
    have hk := (key hr).1
    exact ⟨cell_same hk h1, cell_same hk h2⟩
theorem OwnsAt.below (h : OwnsAt F w ao g os) (hb : Below w.heap.size w w') : OwnsAt F w' ao g os :=
  ⟨h.ad, h.out, fun i r hr => by
    obtain ⟨h1, h2⟩ := h.cells i r hr
    have hk := hb.block g (cell_lt h1)
    exact ⟨cell_same hk h1, cell_same hk h2⟩⟩
end
theorem ownsC_at {l : List Own} {i : Nat} {o : Own} (h : l[i]? = some o) : (ownsC l)[i * 2]? = some (.int .i64 o.1) ∧ (ownsC l)[i * 2 + 1]? = some (.int .i64 o.2) := by
  induction l generalizing i with
  | nil => simp at h
  | cons q r ih =>
    have e3 : ownsC (q :: r) = (Value.int .i64 q.1) :: (Value.int .i64 q.2) :: ownsC r := rfl
    rw [e3]
    cases i with
    | zero => simp at h; subst h; simp
    | succ i =>
      have := ih (i := i) (by simpa using h)
      have e1 : (i + 1) * 2 = i * 2 + 1 + 1 := by omega
      rw [e1]
      simp only [List.getElem?_cons_succ]
      exact this
/-- Owners in new memory, by their place. -/
theorem owns_at {F : Nat → Prop} {w : World} {base : Nat} {v : Value} {l : List Own} (h : w.ownsRow base 35 2 v l.length (ownsC l)) (hF : ∀ k, F k → k < base) : ∃ ao cap g, v = .slice ao l.length cap ∧ OwnsAt F w ao g l := by
  rcases h.2 with ⟨rfl, h0⟩ | ⟨g, cap, cur, rfl, hg, hh, hc, hm, hs, ht⟩
  · exact ⟨none, 0, 0, by rw [h0], by omega, by omega, fun i o ho => by rw [List.length_eq_zero_iff.1 h0] at ho; simp at ho⟩
  · refine ⟨_, cap, g, rfl, fun _ => rfl, fun _ hx => by have := hF g hx; omega, fun i o ho => ?_⟩
    obtain ⟨h1, h2⟩ := ownsC_at ho
    have hc : ∀ j u, (ownsC l)[j]? = some u → w.cell? ⟨g, j, none⟩ = some u := fun j u hu => by
      have := World.ownsRow.cells h (g := g) rfl j u hu
      rw [add_plain, Nat.zero_add] at this; exact this
    exact ⟨hc _ _ h1, hc _ _ h2⟩

/-- What Put leaves of the pairs. -/
def putA (l : List Ref) (r : Ref) : List Ref := if r.2 < 0 then l else putS l r.1 r.2
def OkR (r : Ref) : Prop := OkO r.1 ∧ I64 r.2
theorem putS_length (l : List Ref) (o : Own) (a : Int) (h : Srt l) : (putS l o a).length ≤ l.length + 1 := by
  have hsub : ∀ r ∈ putS l o a, r ∈ (o, a) :: l := fun r hr => by
    rcases mem_putS.1 hr with ⟨h1, _⟩ | ⟨h1, _⟩
    · exact List.mem_cons_of_mem _ h1
    · rw [h1]; simp
  have := List.Nodup.length_le_of_subset (srt_putS h o a).nodup hsub
  simpa using this
theorem putA_length (l : List Ref) (r : Ref) (h : Srt l) : (putA l r).length ≤ l.length + 1 := by
  unfold putA; split
  · omega
  · exact putS_length l _ _ h
theorem Okl.putA {l : List Ref} (h : Okl l) {r : Ref} (hr : OkR r) : Okl (putA l r) := by
  unfold Go.Proofs.Ytjopdejgijojmaa.putA; split
  · exact h
  · rename_i hn; exact h.put hr.1 (by omega) hr.2
/-- Put, whatever the address. -/
theorem put_any {w : World} {F : Nat → Prop} {b : Nat} {l : List Ref} {was : Option (List Ref)} (h : Rf w F b l was) {r : Ref} (hr : OkR r) :
    Calls Try.prog 10 #[.pointer (some ⟨b, 0, none⟩), encO r.1, .int .i64 r.2] w fun e w' => e = .returned (if r.2 < 0 then errV 60 else .nilIface) ∧ Rfd F b (putA l r) was w w' := by
  unfold putA
  by_cases ha : r.2 < 0
  · rw [if_pos ha, if_pos ha]
    refine (put_bad w b r.1 ha).mono ?_
    rintro e w' ⟨rfl, hb⟩
    refine ⟨rfl, ?_, Turn.of_below hb⟩
    obtain ⟨E, bn, bo, A, sv, h1, h2, h3, h4, h5⟩ := h.below hb
    exact ⟨E, bn, bo, A, sv, h1, h2, fun s e => ⟨(h3 s e).1, .inl (h3 s e).2⟩, fun k hk => .inl (h4 k hk), ext_bd h.bd hb.size⟩
  · rw [if_neg ha, if_neg ha]
    exact put_ok h hr.1 hr.2 (by omega)
/-- The pairs behind so many Puts. -/
def putL (l : List Ref) (rs : List Ref) : List Ref := rs.foldl putA l
theorem putL_snoc {l rs : List Ref} {j : Nat} {r : Ref} (h : rs[j]? = some r) : putL l (rs.take (j + 1)) = putA (putL l (rs.take j)) r := by
  unfold putL; rw [take_snoc h, List.foldl_append]; rfl
theorem putL_ok {l : List Ref} (h : Okl l) : ∀ {rs : List Ref}, (∀ r ∈ rs, OkR r) → Okl (putL l rs)
  | [], _ => h
  | r :: t, hr => by
    have := putL_ok (h.putA (hr r (by simp))) (rs := t) (fun q hq => hr q (by simp [hq]))
    exact this
theorem putL_length {l : List Ref} (h : Okl l) : ∀ {rs : List Ref}, (∀ r ∈ rs, OkR r) → (putL l rs).length ≤ l.length + rs.length
  | [], _ => by simp [putL]
  | r :: t, hr => by
    have h1 := putL_length (h.putA (hr r (by simp))) (rs := t) (fun q hq => hr q (by simp [hq]))
    have h2 := putA_length l r h.srt
    have e : putL l (r :: t) = putL (putA l r) t := rfl
    rw [e]; simp; omega
end Go.Proofs.Ytjopdejgijojmaa
