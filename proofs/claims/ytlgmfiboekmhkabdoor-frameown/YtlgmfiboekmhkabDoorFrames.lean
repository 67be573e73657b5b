/- Frames: they are read back, of their kind alone, and no byte can be changed unseen. -/
import Derived.Test.YtlgmfiboekmhkabDoorGet
namespace Go.Proofs.YtlgmfiboekmhkabDoor

theorem frame_take {kind : Nat} {bs : List Nat} (h : bs.length ≤ 122) : (frameOf kind bs).take 124 = body kind bs := by
  unfold frameOf; rw [List.take_append_of_le_length (by rw [body_length h]; decide), List.take_of_length_le (by rw [body_length h]; decide)]
theorem frame_drop {kind : Nat} {bs : List Nat} (h : bs.length ≤ 122) : (frameOf kind bs).drop 124 = be 4 (crc (body kind bs)) := by
  unfold frameOf; rw [List.drop_append_of_le_length (by rw [body_length h]; decide), List.drop_of_length_le (by rw [body_length h]; decide)]; rfl
theorem frame_sum {kind : Nat} {bs : List Nat} (h : bs.length ≤ 122) : val ((frameOf kind bs).drop 124) = crc ((frameOf kind bs).take 124) := by
  rw [frame_take h, frame_drop h, val_be]; exact crc_lt _
theorem frame_kind (kind : Nat) (bs : List Nat) : (frameOf kind bs).getD 0 0 = kind := rfl
theorem frame_len (kind : Nat) (bs : List Nat) : (frameOf kind bs).getD 1 0 = bs.length := rfl
theorem frame_lt {kind : Nat} {bs : List Nat} (hk : kind < 256) (h : bs.length ≤ 122) (hb : ∀ b ∈ bs, b < 256) : ∀ b ∈ frameOf kind bs, b < 256 := by
  intro b hm
  rcases List.mem_append.1 hm with h1 | h1
  · exact body_lt hk h hb b h1
  · exact be_lt _ _ b h1
theorem body_tail (kind : Nat) (bs : List Nat) : ((body kind bs).drop (2 + bs.length)).all (· == 0) = true := by
  have e : (body kind bs).drop (2 + bs.length) = List.replicate (122 - bs.length) 0 := by
    rw [Nat.add_comm]
    show (bs ++ List.replicate (122 - bs.length) 0).drop bs.length = _
    simp
  rw [e, List.all_eq_true]
  intro b hb
  simp [List.mem_replicate] at hb
  simp [hb.2]
theorem gErr_frame {kind : Nat} {bs : List Nat} (h : bs.length ≤ 122) : gErr kind (frameOf kind bs) = 0 := by
  unfold gErr
  rw [if_neg (by rw [frameOf_length h]; decide), if_neg (by rw [frame_sum h]; simp), frame_kind, frame_len, frame_take h, body_tail, if_neg (by simp), if_neg (by simp; omega)]
theorem gPay_frame {kind : Nat} {bs : List Nat} (h : bs.length ≤ 122) : gPay kind (frameOf kind bs) = bs := by
  unfold gPay
  rw [gErr_frame h, if_pos rfl, frame_len]
  show ((bs ++ List.replicate (122 - bs.length) 0) ++ be 4 (crc (body kind bs))).take bs.length = bs
  rw [List.append_assoc, List.take_append_of_le_length (Nat.le_refl _), List.take_of_length_le (Nat.le_refl _)]
theorem gErr_other {kind other : Nat} {bs : List Nat} (h : bs.length ≤ 122) (hne : other ≠ kind) : gErr other (frameOf kind bs) = 13 := by
  unfold gErr
  rw [if_neg (by rw [frameOf_length h]; decide), if_neg (by rw [frame_sum h]; simp), frame_kind, if_pos (fun e => hne e.symm)]

theorem set_split {l : List Nat} {i : Nat} (hi : i < l.length) (b : Nat) : l.set i b = l.take i ++ b :: l.drop (i + 1) := by
  rw [List.set_eq_take_append_cons_drop, if_pos hi]
theorem self_split {l : List Nat} {i a : Nat} (h : l[i]? = some a) : l = l.take i ++ a :: l.drop (i + 1) := by
  obtain ⟨hi, rfl⟩ := List.getElem?_eq_some_iff.1 h
  rw [← List.drop_eq_getElem_cons hi, List.take_append_drop]
theorem crc_set {l : List Nat} {i a b : Nat} (h : l[i]? = some a) (hl : ∀ x ∈ l, x < 256) (hb : b < 256) (hne : a ≠ b) : crc (l.set i b) ≠ crc l := by
  have hi := (List.getElem?_eq_some_iff.1 h).1
  rw [set_split hi]
  conv => rhs; rw [self_split h]
  exact (crc_change _ _ a b (fun x hx => hl x (List.mem_of_mem_take hx)) (fun x hx => hl x (List.mem_of_mem_drop hx)) (hl a (List.mem_of_getElem? h)) hb hne).symm
theorem val_set {l : List Nat} {i a b : Nat} (h : l[i]? = some a) (hl : ∀ x ∈ l, x < 256) (hb : b < 256) (hne : a ≠ b) : val (l.set i b) ≠ val l := by
  intro e
  have hl2 : ∀ x ∈ l.set i b, x < 256 := fun x hx => by
    rcases List.mem_or_eq_of_mem_set hx with h1 | h1
    · exact hl x h1
    · omega
  have e1 := be_of_val (l.set i b) hl2
  have e2 := be_of_val l hl
  rw [List.length_set, e, e2] at e1
  have e3 := congrArg (fun z : List Nat => z[i]?) e1
  have hi := (List.getElem?_eq_some_iff.1 h).1
  rw [h, List.getElem?_set_self hi] at e3
  exact hne (Option.some.inj e3)
theorem gErr_set {kind : Nat} {s : List Nat} {i a b : Nat} (hs : s.length = 128) (hl : ∀ x ∈ s, x < 256) (hsum : val (s.drop 124) = crc (s.take 124)) (h : s[i]? = some a) (hb : b < 256) (hne : a ≠ b) : gErr kind (s.set i b) = 12 := by
  have hi := (List.getElem?_eq_some_iff.1 h).1
  have key : val ((s.set i b).drop 124) ≠ crc ((s.set i b).take 124) := by
    by_cases h124 : i < 124
    · have e1 : (s.set i b).drop 124 = s.drop 124 := List.drop_set_of_lt h124
      have e2 : (s.set i b).take 124 = (s.take 124).set i b := List.take_set
      rw [e1, e2, hsum]
      exact (crc_set (by rw [List.getElem?_take_of_lt h124]; exact h) (fun x hx => hl x (List.mem_of_mem_take hx)) hb hne).symm
    · have e2 : (s.set i b).take 124 = s.take 124 := List.take_set_of_le (by omega)
      have e1 : (s.set i b).drop 124 = (s.drop 124).set (i - 124) b := by
        rw [List.drop_set]; rw [if_neg h124]
      rw [e1, e2, ← hsum]
      exact val_set (by rw [List.getElem?_drop, show 124 + (i - 124) = i by omega]; exact h) (fun x hx => hl x (List.mem_of_mem_drop hx)) hb hne
  unfold gErr
  rw [if_neg (by rw [List.length_set, hs]; decide), if_pos key]
end Go.Proofs.YtlgmfiboekmhkabDoor
