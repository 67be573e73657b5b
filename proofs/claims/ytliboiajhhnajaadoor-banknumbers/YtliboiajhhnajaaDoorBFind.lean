/- find, powered, spend, takes, Arm, Down, Done by their contracts. -/
import Derived.Test.YtliboiajhhnajaaDoorBk
import Derived.Test.YtliboiajhhnajaaDoorFErr
namespace Go.Proofs.YtliboiajhhnajaaDoor
open Go.RowKit Go.Extern

/-- Bytes of no length have no block that matters. -/
theorem Bytes.turnB {w w' : World} {F : Nat → Prop} {v : Value} {bs : List Nat} (h : Bytes w v bs) (ht : Turn F w w') (hv : 0 < bs.length → ∀ k, v.ownBlock = some k → ¬ F k) : Bytes w' v bs := by
  obtain ⟨ao, cap, g, off, rfl, h2, h3, h4⟩ := h
  refine ⟨ao, cap, g, off, rfl, h2, fun i q hq => ?_, h4⟩
  have hp : 0 < bs.length := by
    rcases Nat.eq_zero_or_pos bs.length with e | e
    · rw [List.length_eq_zero_iff.1 e] at hq; cases hq
    · exact e
  obtain rfl := h2 hp
  have hc := h3 i q hq
  rw [World.cell?_of_block (w := w) (ht.block g (cell_lt hc) (hv hp g rfl))]; exact hc
/-- The error's number of a device, whatever the power; 0: it is there. -/
def lookC (D : List Dev) (i : Int) : Int := if 0 ≤ i ∧ i < (D.length : Int) then (match D[i.toNat]? with | some (some _) => 0 | _ => 25) else 23
def findV (D : List Dev) (i : Int) : Value := if lookC D i = 0 then (match D[i.toNat]? with | some d => ptrV d | none => .pointer none) else .pointer none
theorem lookC_at {D : List Dev} {k p : Nat} {S : List Sec} (h : D[k]? = some (some (p, S))) : lookC D (k : Int) = 0 ∧ findV D (k : Int) = .pointer (some ⟨p, 0, none⟩) := by
  have hl := (List.getElem?_eq_some_iff.1 h).1
  have h1 : lookC D (k : Int) = 0 := by
    unfold lookC
    rw [if_pos ⟨by omega, by omega⟩, Int.toNat_natCast, h]
  refine ⟨h1, ?_⟩
  unfold findV
  rw [if_pos h1, Int.toNat_natCast, h]; rfl
theorem lookC_zero {D : List Dev} {i : Int} (h : lookC D i = 0) : ∃ k p S, i = ((k : Nat) : Int) ∧ D[k]? = some (some (p, S)) := by
  unfold lookC at h
  split at h
  · rename_i hi
    split at h
    · rename_i d hd
      exact ⟨i.toNat, d.1, d.2, by omega, hd⟩
    · omega
  · omega
theorem lookC_pos (D : List Dev) (i : Int) : lookC D i = 0 ∨ lookC D i = 23 ∨ lookC D i = 25 := by
  unfold lookC
  split
  · split <;> simp
  · simp
theorem findV_form (D : List Dev) (i : Int) : ∃ a, findV D i = .pointer a := by
  unfold findV
  split
  · split
    · exact ⟨_, rfl⟩
    · exact ⟨_, rfl⟩
  · exact ⟨_, rfl⟩
theorem errV_20' : errV 20 = .iface 46 (.int .i64 20) := rfl
theorem errV_23 : errV 23 = .iface 46 (.int .i64 23) := rfl
theorem errV_25 : errV 25 = .iface 46 (.int .i64 25) := rfl
theorem errV_22 : errV 22 = .iface 46 (.int .i64 22) := rfl

set_option maxRecDepth 100000 in
set_option maxHeartbeats 1000000 in
theorem find_any {w : World} {F : Nat → Prop} {b : Nat} {D : List Dev} {q : Pw} (h : Bk w F b D q) (i : Int) :
    Calls Tryd.prog 22 #[.pointer (some ⟨b, 0, none⟩), .int .i64 i] w fun e w' => e = .returned (.tuple #[findV D i, errV (lookC D i)]) ∧ w' = w := by
  obtain ⟨v, G, h⟩ := h
  have c0 := h.c0
  by_cases h0 : i < 0
  · have hd : decide (i < 0) = true := by simpa using h0
    have HE : Hid (lookC D i = 23 ∧ findV D i = .pointer none) := by
      have : lookC D i = 23 := by unfold lookC; rw [if_neg (by omega)]
      exact ⟨this, by unfold findV; rw [if_neg (by omega)]⟩
    obtain ⟨ao, cap, rfl⟩ := h.form
    clear h h0
    go_enter Tryd.func22, Tryd.ntmps22
    go_wp2
    go_ret2
    exact ⟨by rw [HE.out.1, HE.out.2]; rfl, rfl⟩
  · have hd : decide (i < 0) = false := by simpa using h0
    by_cases h1 : (D.length : Int) ≤ i
    · have hd2 : decide ((D.length : Int) ≤ i) = true := by simpa using h1
      have HE : Hid (lookC D i = 23 ∧ findV D i = .pointer none) := by
        have : lookC D i = 23 := by unfold lookC; rw [if_neg (by omega)]
        exact ⟨this, by unfold findV; rw [if_neg (by omega)]⟩
      obtain ⟨ao, cap, rfl⟩ := h.form
      clear h h0 h1
      go_enter Tryd.func22, Tryd.ntmps22
      go_wp2
      go_ret2
      exact ⟨by rw [HE.out.1, HE.out.2]; rfl, rfl⟩
    · have hd2 : decide ((D.length : Int) ≤ i) = false := by simpa using h1
      obtain ⟨k, rfl⟩ : ∃ k : Nat, i = (k : Int) := ⟨i.toNat, by omega⟩
      obtain ⟨d, hk⟩ : ∃ d, D[k]? = some d := ⟨D[k]'(by omega), by simp⟩
      obtain ⟨ao, cap, rfl⟩ := h.form
      obtain ⟨g, rfl, -, ck, -⟩ := h.at_ hk
      have hlt : (k : Int) < (D.length : Int) := by omega
      have hge : (0 : Int) ≤ (k : Int) := by omega
      cases d with
      | none =>
        rw [ptrV_none] at ck
        have HE : Hid (lookC D (k : Int) = 25 ∧ findV D (k : Int) = .pointer none) := by
          have : lookC D (k : Int) = 25 := by unfold lookC; rw [if_pos ⟨hge, hlt⟩, Int.toNat_natCast, hk]
          exact ⟨this, by unfold findV; rw [if_neg (by omega)]⟩
        clear h h0 h1 hk
        go_enter Tryd.func22, Tryd.ntmps22
        go_wp2
        go_ret2
        exact ⟨by rw [HE.out.1, HE.out.2]; rfl, rfl⟩
      | some d =>
        obtain ⟨p, S⟩ := d
        rw [ptrV_some] at ck
        have HE := hide (lookC_at hk)
        clear h h0 h1 hk
        go_enter Tryd.func22, Tryd.ntmps22
        go_wp2
        go_ret2
        exact ⟨by rw [HE.out.1, HE.out.2]; rfl, rfl⟩

/-- The same for a call that needs the power. -/
def lookP (D : List Dev) (q : Pw) (i : Int) : Int := if q.down then 22 else lookC D i
def poweredV (D : List Dev) (q : Pw) (i : Int) : Value := if q.down then .pointer none else findV D i
theorem lookP_zero {D : List Dev} {q : Pw} {i : Int} (h : lookP D q i = 0) : q.down = false ∧ ∃ k p S, i = ((k : Nat) : Int) ∧ D[k]? = some (some (p, S)) ∧ poweredV D q i = .pointer (some ⟨p, 0, none⟩) := by
  unfold lookP at h
  cases hd : q.down with
  | true => rw [hd] at h; simp at h
  | false =>
    rw [hd] at h
    simp only [Bool.false_eq_true, if_false] at h
    obtain ⟨k, p, S, rfl, hk⟩ := lookC_zero h
    exact ⟨rfl, k, p, S, rfl, hk, by unfold poweredV; rw [hd]; simp only [Bool.false_eq_true, if_false]; exact (lookC_at hk).2⟩
theorem lookP_at {D : List Dev} {q : Pw} {k p : Nat} {S : List Sec} (hd : q.down = false) (h : D[k]? = some (some (p, S))) : lookP D q (k : Int) = 0 := by unfold lookP; rw [hd]; exact (lookC_at h).1
theorem poweredV_form (D : List Dev) (q : Pw) (i : Int) : ∃ a, poweredV D q i = .pointer a := by
  unfold poweredV
  split
  · exact ⟨_, rfl⟩
  · exact findV_form D i
set_option maxRecDepth 100000 in
theorem powered_any {w : World} {F : Nat → Prop} {b : Nat} {D : List Dev} {q : Pw} (h : Bk w F b D q) (i : Int) :
    Calls Tryd.prog 15 #[.pointer (some ⟨b, 0, none⟩), .int .i64 i] w fun e w' => e = .returned (.tuple #[poweredV D q i, errV (lookP D q i)]) ∧ w' = w := by
  have HF := hide (find_any h i)
  obtain ⟨v, G, h⟩ := h
  have c2 := h.c2
  cases hd : q.down with
  | true =>
    rw [hd] at c2
    have HE : Hid (lookP D q i = 22 ∧ poweredV D q i = .pointer none) := ⟨by unfold lookP; rw [hd]; rfl, by unfold poweredV; rw [hd]; rfl⟩
    clear h HF
    go_enter Tryd.func15, Tryd.ntmps15
    go_wp2
    go_ret2
    exact ⟨by rw [HE.out.1, HE.out.2]; rfl, rfl⟩
  | false =>
    rw [hd] at c2
    have HE : Hid (lookP D q i = lookC D i ∧ poweredV D q i = findV D i) := ⟨by unfold lookP; rw [hd]; rfl, by unfold poweredV; rw [hd]; rfl⟩
    obtain ⟨a, ha⟩ := findV_form D i
    rw [ha] at HE HF
    obtain ⟨ev, hev⟩ : ∃ ev, ev = errV (lookC D i) := ⟨_, rfl⟩
    have HEV := hide hev
    rw [← hev] at HF
    clear h ha hev
    go_enter Tryd.func15, Tryd.ntmps15
    go_wp2_with (go_at_call 22; refine HF.out.mono ?_; rintro e w' ⟨rfl, rfl⟩)
    go_ret2
    exact ⟨by rw [HE.out.1, HE.out.2, ← HEV.out]; rfl, rfl⟩

/-- What a write or flush leaves of the power. -/
def spendC (q : Pw) : Int := if q.left = 0 then 22 else 0
def spent (q : Pw) : Pw := if q.left = 0 then { q with down := true } else ⟨if 0 < q.left then q.left - 1 else q.left, q.down, q.done + 1⟩
def Small (q : Pw) : Prop := I64 q.left ∧ 0 ≤ q.done ∧ q.done ≤ 1000000
def Spent (F : Nat → Prop) (b : Nat) (D : List Dev) (q : Pw) (v : Value) (G : Nat → Nat → Prop) (w : World) (e : Ending) (w' : World) : Prop := e = .returned (errV (spendC q)) ∧ BkAt w' F b D (spent q) v G ∧ Turn (fun k => k = b) w w' ∧ w'.heap.size = w.heap.size
def takeB (S : List Sec) (i : Int) (d : List Nat) : Bool := hasB S i && decide (d.length = 128)
end Go.Proofs.YtliboiajhhnajaaDoor
