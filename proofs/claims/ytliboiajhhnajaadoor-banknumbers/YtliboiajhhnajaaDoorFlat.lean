/- Lists of pieces of one length, one behind the other. -/
import Derived.Test.YtliboiajhhnajaaDoorMem2
import Derived.Deep.MidRow
import Derived.Deep.WholeRow
import Derived.Maps.RangeWalk
namespace Go.Proofs.YtliboiajhhnajaaDoor
open Go.RowKit Go.Extern

theorem flat_length {α β : Type} (f : α → List β) (m : Nat) : ∀ l : List α, (∀ x ∈ l, (f x).length = m) → (l.flatMap f).length = l.length * m
  | [], _ => by simp
  | x :: l, h => by
    rw [List.flatMap_cons, List.length_append, h x (by simp), flat_length f m l (fun y hy => h y (by simp [hy])), List.length_cons, Nat.add_mul]
    omega
theorem flat_get {α β : Type} (f : α → List β) (m : Nat) : ∀ (l : List α), (∀ x ∈ l, (f x).length = m) → ∀ (i : Nat) (x : α), l[i]? = some x → ∀ j, j < m → (l.flatMap f)[i * m + j]? = (f x)[j]?
  | [], _, i, x, h, _, _ => by simp at h
  | a :: l, hl, 0, x, h, j, hj => by
    obtain rfl : a = x := by simpa using h
    rw [List.flatMap_cons, Nat.zero_mul, Nat.zero_add, List.getElem?_append_left (by rw [hl a (by simp)]; exact hj)]
  | a :: l, hl, i + 1, x, h, j, hj => by
    have ha := hl a (by simp)
    rw [List.flatMap_cons, List.getElem?_append_right (by rw [ha, Nat.add_mul]; omega), ha]
    rw [show (i + 1) * m + j - m = i * m + j by rw [Nat.add_mul]; omega]
    exact flat_get f m l (fun y hy => hl y (by simp [hy])) i x (by simpa using h) j hj
theorem flat_splice {α β : Type} (f : α → List β) (m : Nat) : ∀ (l : List α), (∀ x ∈ l, (f x).length = m) → ∀ (i : Nat) (x y : α), l[i]? = some x → ∀ (o : Nat) (cs : List β), o + cs.length ≤ m → f y = (f x).take o ++ cs ++ (f x).drop (o + cs.length) → ∀ rest : List β,
    (l.flatMap f ++ rest).take (i * m + o) ++ cs ++ (l.flatMap f ++ rest).drop (i * m + o + cs.length) = (l.set i y).flatMap f ++ rest
  | [], _, i, x, y, h, _, _, _, _, _ => by simp at h
  | a :: l, hl, 0, x, y, h, o, cs, ho, hy, rest => by
    obtain rfl : a = x := by simpa using h
    have ha := hl a (by simp)
    rw [List.set_cons_zero, List.flatMap_cons, List.flatMap_cons, Nat.zero_mul, Nat.zero_add, List.append_assoc (f a), List.take_append_of_le_length (by omega), List.drop_append_of_le_length (by omega), hy]
    simp [List.append_assoc]
  | a :: l, hl, i + 1, x, y, h, o, cs, ho, hy, rest => by
    have ha := hl a (by simp)
    have ih := flat_splice f m l (fun z hz => hl z (by simp [hz])) i x y (by simpa using h) o cs ho hy rest
    rw [List.set_cons_succ, List.flatMap_cons, List.flatMap_cons, List.append_assoc (f a), List.append_assoc (f a), ← ih]
    have e1 : (i + 1) * m + o = (f a).length + (i * m + o) := by rw [ha, Nat.add_mul]; omega
    have e2 : (i + 1) * m + o + cs.length = (f a).length + (i * m + o + cs.length) := by rw [ha, Nat.add_mul]; omega
    rw [e2, e1, List.take_length_add_append, List.drop_length_add_append]
    simp [List.append_assoc]

/-- What is owned stays so where its block is as it was. -/
theorem ownsRow_of_block {w w' : World} {base : Nat} {e : TypeId} {size : Nat} {v : Value} {n : Nat} {xs : List Value} (h : w.ownsRow base e size v n xs) (hk : ∀ k o, v.ownBlock = some k → w.heap[k]? = some o → w'.heap[k]? = some o) : w'.ownsRow base e size v n xs := by
  obtain ⟨h1, h2⟩ := h
  refine ⟨h1, ?_⟩
  rcases h2 with h2 | ⟨g, cap, cur, rfl, hg, hh, r⟩
  · exact Or.inl h2
  · exact Or.inr ⟨g, cap, cur, rfl, hg, hk g _ rfl hh, r⟩
theorem ownsMap_of_block {H : Type} {w w' : World} {P : Program} {k : TypeId} {R : Value → Option (DataW H × List MemPlace)} {b n : Nat} {D : DataW H} (h : w.ownsMap P k R b n D) (hk : ∀ o, w.heap[b]? = some o → w'.heap[b]? = some o) : w'.ownsMap P k R b n D := by
  obtain ⟨es, clock, hb, r⟩ := h
  exact ⟨es, clock, hk _ hb, r⟩
theorem ownsMap_size {H : Type} {w : World} {P : Program} {k : TypeId} {R : Value → Option (DataW H × List MemPlace)} {b n : Nat} {D : DataW H} (h : w.ownsMap P k R b n D) : w.ownsMap P k R b (Maps.size D) D := by
  obtain ⟨es, clock, hb, F, hs, rfl⟩ := h
  exact ⟨es, clock, hb, F, by simp [Maps.size, length_sorted], rfl⟩
theorem ownsRow_form {w : World} {base : Nat} {e : TypeId} {size : Nat} {v : Value} {n : Nat} {xs : List Value} (h : w.ownsRow base e size v n xs) : ∃ ao cap, v = .slice ao n cap := by
  rcases h.2 with ⟨rfl, rfl⟩ | ⟨g, cap, cur, rfl, -⟩
  · exact ⟨_, _, rfl⟩
  · exact ⟨_, _, rfl⟩
theorem ownsRow_pos {w : World} {base : Nat} {e : TypeId} {size : Nat} {v : Value} {n : Nat} {xs : List Value} (h : w.ownsRow base e size v n xs) (hn : 0 < n) :
    ∃ g cap cur, v = .slice (some ⟨g, 0, none⟩) n cap ∧ w.heap[g]? = some (.cells cur e (0, 0)) ∧ n ≤ cap ∧ cap ≤ maxLen ∧ cur.size = cap * size ∧ cur.toList.take (n * size) = xs ∧ base ≤ g := by
  rcases h.2 with ⟨rfl, rfl⟩ | ⟨g, cap, cur, rfl, h1, h2, h3, h4, h5, h6⟩
  · omega
  · exact ⟨g, cap, cur, rfl, h2, h3, h4, h5, h6, h1⟩
end Go.Proofs.YtliboiajhhnajaaDoor
