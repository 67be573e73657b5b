/- Bad by its contract; a sector laid anew. -/
import Derived.Test.YtliboiajhhnajaaDoorRead
namespace Go.Proofs.YtliboiajhhnajaaDoor
open Go.RowKit Go.Extern

theorem secsC_length {S : List Sec} (h : Good S) : (secsC S).length = S.length * 129 := flat_length secC 129 S fun x hx => secC_length (h.2 x hx).1
theorem good_set {S : List Sec} (h : Good S) {i : Nat} {s : Sec} (hs : GoodSec s) : Good (S.set i s) :=
  ⟨by rw [List.length_set]; exact h.1, fun x hx => by
    rcases List.mem_or_eq_of_mem_set hx with h1 | h1
    · exact h.2 x h1
    · rw [h1]; exact hs⟩
theorem wt_set {S : List Sec} {i : Nat} {s s' : Sec} (hs : S[i]? = some s) (hw : s'.wait = s.wait) (k : Int) : wt (S.set i s') k = wt S k := by
  unfold wt
  split
  · by_cases e : k.toNat = i
    · rw [e, hs, List.getElem?_set_self (List.getElem?_eq_some_iff.1 hs).1]; exact hw
    · rw [List.getElem?_set_ne (fun h => e h.symm)]
  · rfl
theorem keys_set {S : List Sec} {i : Nat} {s s' : Sec} (hs : S[i]? = some s) (hw : s'.wait = s.wait) (kl : Lit) :
    (∃ (j : Nat) (t : Sec), kl = .int .i64 (j : Int) ∧ (S.set i s')[j]? = some t ∧ t.wait ≠ []) ↔ ∃ (j : Nat) (t : Sec), kl = .int .i64 (j : Int) ∧ S[j]? = some t ∧ t.wait ≠ [] := by
  have hi := (List.getElem?_eq_some_iff.1 hs).1
  constructor
  · rintro ⟨j, t, h1, h2, h3⟩
    by_cases e : j = i
    · subst e
      rw [List.getElem?_set_self hi] at h2
      cases h2
      exact ⟨j, s, h1, hs, by rw [← hw]; exact h3⟩
    · rw [List.getElem?_set_ne (fun h => e h.symm)] at h2
      exact ⟨j, t, h1, h2, h3⟩
  · rintro ⟨j, t, h1, h2, h3⟩
    by_cases e : j = i
    · subst e
      rw [hs] at h2
      cases h2
      exact ⟨j, s', h1, List.getElem?_set_self hi, by rw [hw]; exact h3⟩
    · exact ⟨j, t, h1, by rw [List.getElem?_set_ne (fun h => e h.symm)]; exact h2, h3⟩

/-- A row of sectors, some cells of one sector laid anew. -/
theorem secs_put {w' : World} {g cap : Nat} {S : List Sec} {cur : Array Value} (hgood : Good S) (hcap : S.length ≤ cap) (hm : cap ≤ maxLen) (hsz : cur.size = cap * 129) (ht : cur.toList.take (S.length * 129) = secsC S) {i : Nat} {s s' : Sec} (hs : S[i]? = some s) (o : Nat) (cs : List Value) (ho : o + cs.length ≤ 129)
    (hy : secC s' = (secC s).take o ++ cs ++ (secC s).drop (o + cs.length)) (hw : w'.heap[g]? = some (.cells (cur.toList.take (i * 129 + o) ++ cs ++ cur.toList.drop (i * 129 + o + cs.length)).toArray 77 (0, 0))) :
    w'.ownsRow 0 77 129 (.slice (some ⟨g, 0, none⟩) S.length cap) S.length (secsC (S.set i s')) := by
  have hS : ∀ x ∈ S, (secC x).length = 129 := fun x hx => secC_length (hgood.2 x hx).1
  have hi := (List.getElem?_eq_some_iff.1 hs).1
  have hcur : cur.toList = secsC S ++ cur.toList.drop (S.length * 129) := by rw [← ht, List.take_append_drop]
  have hfl := flat_splice secC 129 S hS i s s' hs o cs ho hy (cur.toList.drop (S.length * 129))
  have hS' : ∀ x ∈ S.set i s', (secC x).length = 129 := fun x hx => by
    rcases List.mem_or_eq_of_mem_set hx with h1 | h1
    · exact hS x h1
    · rw [h1, hy]
      have := hS s (List.mem_of_getElem? hs)
      simp only [List.length_append, List.length_take, List.length_drop]; omega
  have hl : (secsC (S.set i s')).length = S.length * 129 := by unfold secsC; rw [flat_length secC 129 _ hS', List.length_set]
  have hnew : cur.toList.take (i * 129 + o) ++ cs ++ cur.toList.drop (i * 129 + o + cs.length) = secsC (S.set i s') ++ cur.toList.drop (S.length * 129) := by
    rw [hcur]
    have e : (secsC S ++ cur.toList.drop (S.length * 129)).drop (S.length * 129) = cur.toList.drop (S.length * 129) := by
      rw [List.drop_append_of_le_length (by rw [secsC_length hgood]; exact Nat.le_refl _), List.drop_of_length_le (by rw [secsC_length hgood]; exact Nat.le_refl _)]; rfl
    rw [e]; exact hfl
  rw [hnew] at hw
  refine ⟨hl, .inr ⟨g, cap, _, rfl, Nat.zero_le _, hw, hcap, hm, ?_, ?_⟩⟩
  · simp only [List.size_toArray, List.length_append, hl, List.length_drop, Array.length_toList, hsz]
    have := Nat.mul_le_mul_right 129 hcap
    omega
  · rw [List.take_append_of_le_length (by rw [hl]; exact Nat.le_refl _), List.take_of_length_le (by rw [hl]; exact Nat.le_refl _)]

/-- A disk whose row of sectors is laid anew in place, all else as it was. -/
theorem DkAt.put {w w' : World} {F : Nat → Prop} {b mb g cap : Nat} {S : List Sec} {D : DataW Value} (h : DkAt w F b S (.slice (some ⟨g, 0, none⟩) S.length cap) mb D) {i : Nat} {s s' : Sec} (hs : S[i]? = some s) (hwait : s'.wait = s.wait) (hg' : GoodSec s')
    (hrow : w'.ownsRow 0 77 129 (.slice (some ⟨g, 0, none⟩) S.length cap) S.length (secsC (S.set i s'))) (hbl : ∀ k, k ≠ g → w'.heap[k]? = w.heap[k]?) : DkAt w' F b (S.set i s') (.slice (some ⟨g, 0, none⟩) S.length cap) mb D := by
  have hgS : ∃ cur, w.heap[g]? = some (.cells cur 77 (0, 0)) := by
    obtain ⟨g', cap', cur, e, hh, -⟩ := ownsRow_pos h.secs (len_pos hs)
    cases e
    exact ⟨cur, hh⟩
  obtain ⟨cur, hcur⟩ := hgS
  have hbg : b ≠ g := fun e => by have hk := h.blk; rw [e, hcur] at hk; simp at hk
  have hmg : mb ≠ g := fun e => by
    subst e
    obtain ⟨es, clock, hb, -⟩ := h.map
    rw [hcur] at hb; cases hb
  have hvg : ∀ k, I64 k → (valAt D k).ownBlock ≠ some g := fun k hk e => by
    rcases (h.rows k hk).2 with ⟨hv, -⟩ | ⟨g', cap', cur', hv, -, hh, -⟩
    · rw [hv] at e; simp [Value.ownBlock] at e
    · rw [hv] at e
      simp only [Value.ownBlock, Option.some.injEq] at e
      subst e
      rw [hcur] at hh
      cases hh
  refine ⟨by rw [hbl b hbg]; exact h.blk, by rw [List.length_set]; exact hrow, ownsMap_of_block h.map (fun o ho => by rw [hbl mb hmg]; exact ho), fun k hk => ?_, fun kl => by rw [keys_set hs hwait]; exact h.keys kl, h.apart, h.inB, h.inM, h.inS, h.inV, good_set h.good hg'⟩
  rw [wt_set hs hwait]
  exact ownsRow_of_block (h.rows k hk) fun j o hv ho => by rw [hbl j (fun e => hvg k hk (by rw [← e]; exact hv))]; exact ho

/-- What a call that may be refused leaves of a disk. -/
def Turned (F : Nat → Prop) (b : Nat) (S' : List Sec) (c : Int) (w : World) (e : Ending) (w' : World) : Prop := e = .returned (errV c) ∧ Dk w' (ext F w w') b S' ∧ Turn F w w'
theorem Turned.same {F : Nat → Prop} {b : Nat} {S : List Sec} {c : Int} {w : World} (h : Dk w F b S) : Turned F b S c w (.returned (errV c)) w := ⟨rfl, h.mono fun _ hk => .inl hk, Turn.refl _ _⟩

theorem set_cell_row {w : World} {g j : Nat} {cur : Array Value} {T : TypeId} (h : w.heap[g]? = some (.cells cur T (0, 0))) (hj : j < cur.size) (u : Value) :
    (w.setCell ⟨g, j, none⟩ u).heap[g]? = some (.cells (cur.toList.take j ++ [u] ++ cur.toList.drop (j + 1)).toArray T (0, 0)) := by
  have e1 := setCell_eq_setRow w g j _ _ _ u h
  have h1 := setRow_heap w g _ (cur.setIfInBounds j u) _ _ h
  rw [← e1] at h1
  rw [h1]
  congr 2
  apply Array.toList_inj.1
  rw [Array.toList_setIfInBounds, List.set_eq_take_append_cons_drop, if_pos (by simpa using hj)]
  simp

def bErr (S : List Sec) (i : Int) : Int := if hasB S i then 0 else 20
def bSet (S : List Sec) (i : Int) (on : Bool) : List Sec := match S[i.toNat]? with | some s => if hasB S i then S.set i.toNat { s with bad := on } else S | none => S

end Go.Proofs.YtliboiajhhnajaaDoor
