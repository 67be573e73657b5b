/- BankApart: what the bank has. -/
import Derived.Test.YtliboiajhhnajaaReg
import Derived.Test.YtliboiajhhnajaaCt
import Derived.Test.YtliboiajhhnajaaBRead
import Derived.Test.YtliboiajhhnajaaBCrash
import Derived.Test.YtliboiajhhnajaaBBad
import Derived.Test.YtliboiajhhnajaaBFill
namespace Go.Proofs.Ytliboiajhhnajaa
open Go.RowKit Go.Extern

theorem same_same (a : List Nat) (v u : Value) (w : World) (hv : Bytes w v a) (hu : Bytes w u a) : Calls Try.prog 17 #[v, u] w fun e w' => e = .returned (.bool true) ∧ w' = w := by
  have h := same_any a a v u w hv hu
  rw [show decide (a = a) = true by simp] at h
  exact h
/-- Noughts, but for a seven at the eighth place. -/
def sev7 : List Nat := zeros.set 7 7
theorem sev7_con : Con sev7 := ⟨by simp [sev7, zeros], fun b hb => by
  rcases List.mem_or_eq_of_mem_set hb with h | h
  · exact zeros_con.2 b h
  · omega⟩
theorem row_sev7 {w1 : World} {g : Nat} (h : w1.heap[g]? = some (.cells (cellsB (List.replicate 128 0)).toArray 5 (0, 0))) : (w1.setCell ⟨g, 7, none⟩ (.int .u8 7)).heap[g]? = some (.cells (cellsB sev7).toArray 5 (0, 0)) := by
  rw [set_cell_row h (by simp [cellsB]) _]
  rfl
def sevSec : Sec := ⟨zeros, false, [sev7]⟩
/-- The second sector of a device. -/
def sec1 (D : List Dev) (i : Nat) (s : Sec) : Prop := ∃ p S, D[i]? = some (some (p, S)) ∧ S[1]? = some s
theorem sec1.set_none {D : List Dev} {i : Nat} {s : Sec} (h : sec1 D i s) {k : Nat} (hk : i ≠ k) (d : Dev) : sec1 (D.set k d) i s := by
  obtain ⟨p, S, h1, h2⟩ := h
  exact ⟨p, S, by rw [List.getElem?_set_ne (Ne.symm hk)]; exact h1, h2⟩
theorem sec1.put {D : List Dev} {i : Nat} {s : Sec} (h : sec1 D i s) {k : Nat} (hk : i ≠ k) (S' : List Sec) : sec1 (putDev D (k : Int) S') i s := by
  unfold putDev
  rw [Int.toNat_natCast]
  split
  · exact h.set_none hk _
  · exact h
theorem sec1.hi {D : List Dev} {i : Nat} {s : Sec} (h : sec1 D i s) : lookC D (i : Int) = 0 ∧ ∃ S, secsOf D (i : Int) = S ∧ S[1]? = some s := by
  obtain ⟨p, S, h1, h2⟩ := h
  exact ⟨(lookC_at h1).1, S, secsOf_at h1, h2⟩
theorem sec1.read {D : List Dev} {i : Nat} {s : Sec} (h : sec1 D i s) {q : Pw} (hd : q.down = false) (hb : s.bad = false) : brC D q (i : Int) 1 = 0 ∧ brD D q (i : Int) 1 = s.top := by
  obtain ⟨h1, S, h2, h3⟩ := h.hi
  have hl := (List.getElem?_eq_some_iff.1 h3).1
  have hp : lookP D q (i : Int) = 0 := by unfold lookP; rw [hd]; exact h1
  have hh : hasB S 1 = true := by simp [hasB]; omega
  unfold brC brD
  rw [if_pos hp, if_pos hp, h2]
  unfold rErr rDat
  rw [hh]
  simp only [if_true]
  rw [show Int.toNat 1 = 1 from rfl, h3]
  simp [hb]
theorem sec1.write {D : List Dev} {i : Nat} {s : Sec} (h : sec1 D i s) (N : Nat) {d : List Nat} (hd : d.length = 128) : bwC D (ctA N) (i : Int) 1 d = 0 ∧ sec1 (bwD D (ctA N) (i : Int) 1 d) i { s with wait := s.wait ++ [d] } := by
  obtain ⟨p, S, h1, h2⟩ := h
  have hl := (List.getElem?_eq_some_iff.1 h2).1
  have hh : hasB S 1 = true := by simp [hasB]; omega
  have hp : lookP D (ctA N) (i : Int) = 0 := lookP_at rfl h1
  have hc : bwC D (ctA N) (i : Int) 1 d = 0 := by
    unfold bwC
    rw [if_pos hp, secsOf_at h1, if_pos (by simp [wErr, hh, hd])]
    simp [spendC, ctA]
  refine ⟨hc, ?_⟩
  unfold bwD
  rw [if_pos hc, secsOf_at h1, putDev_at h1]
  refine ⟨p, _, List.getElem?_set_self (List.getElem?_eq_some_iff.1 h1).1, ?_⟩
  exact wSet_eq (k := 1) h2 hd
theorem sec1.bw {D : List Dev} {i : Nat} {s : Sec} (h : sec1 D i s) {k : Nat} (hk : i ≠ k) (q : Pw) (s' : Int) (d : List Nat) : sec1 (bwD D q (k : Int) s' d) i s := by
  unfold bwD
  split
  · exact h.put hk _
  · exact h
theorem sec1.fl {D : List Dev} {i : Nat} {s : Sec} (h : sec1 D i s) {k : Nat} (hk : i ≠ k) (q : Pw) : sec1 (fl1D D q (k : Int)) i s := by
  unfold fl1D
  split
  · exact h.put hk _
  · exact h
theorem sec1.bd {D : List Dev} {i : Nat} {s : Sec} (h : sec1 D i s) {k : Nat} (hk : i ≠ k) (q : Pw) : sec1 (bdD D q (k : Int)) i s := by
  unfold bdD
  split
  · rw [Int.toNat_natCast]; exact h.set_none hk _
  · exact h
theorem sec1.bb {D : List Dev} {i : Nat} {s : Sec} (h : sec1 D i s) {k : Nat} (hk : i ≠ k) (q : Pw) (s' : Int) (on : Bool) : sec1 (bbD D q (k : Int) s' on) i s := by
  unfold bbD
  split
  · exact h.put hk _
  · exact h
theorem sec1.bf {D : List Dev} {i : Nat} {s : Sec} (h : sec1 D i s) {k : Nat} (hk : i ≠ k) (q : Pw) (d : List Nat) : sec1 (bfD D q (k : Int) d) i s := by
  unfold bfD
  split
  · exact h.put hk _
  · exact h
theorem crS_get (S : List Sec) (ps : List Int) (k : Nat) : (crS S ps)[k]? = S[k]?.map fun s => (crF (pend S) ps k s).let := by
  unfold crS
  rw [List.getElem?_map, partS_get, Option.map_map]; rfl
theorem crD_nil : ∀ (D : List Dev) (i : Nat), (crD D [])[i]? = D[i]?.map fun d => d.map fun x => (x.1, crS x.2 [])
  | [], i => by simp [crD]
  | none :: r, 0 => by simp [crD]
  | none :: r, i + 1 => by simp only [crD, List.getElem?_cons_succ]; exact crD_nil r i
  | some (p, S) :: r, 0 => by simp [crD]
  | some (p, S) :: r, i + 1 => by simp only [crD, List.getElem?_cons_succ, List.drop_nil]; exact crD_nil r i
theorem crF_nil_dur (L : List Nat) (k : Nat) (s : Sec) : (crF L [] k s).let = s.let := by
  unfold crF
  split
  · simp [Sec.let, Sec.pick]
  · rfl
theorem sec1.crash {D : List Dev} {i : Nat} {s : Sec} (h : sec1 D i s) : sec1 (crD D []) i s.let := by
  obtain ⟨p, S, h1, h2⟩ := h
  refine ⟨p, crS S [], by rw [crD_nil, h1]; rfl, ?_⟩
  rw [crS_get, h2]
  simp only [Option.map_some, crF_nil_dur]
theorem WlB.set_none {D : List Dev} {j : Nat} (h : WlB D j) (k : Nat) : WlB (D.set k none) j := fun i p S hi s hs => by
  by_cases e : k = i
  · subst e
    by_cases hl : k < D.length
    · rw [List.getElem?_set_self hl] at hi; cases hi
    · rw [List.getElem?_eq_none (by simpa using hl)] at hi; cases hi
  · rw [List.getElem?_set_ne e] at hi; exact h i p S hi s hs
theorem WlB.bd {D : List Dev} {j : Nat} (h : WlB D j) (q : Pw) (i : Int) : WlB (bdD D q i) j := by
  unfold bdD
  split
  · exact h.set_none _
  · exact h
theorem WlB.bb {D : List Dev} {j : Nat} (h : WlB D j) (q : Pw) (i s : Int) (on : Bool) : WlB (bbD D q i s on) j := by
  unfold bbD
  split
  · rename_i hl
    obtain ⟨k, p, S, rfl, hk⟩ := lookC_zero hl
    refine h.put (fun t ht => ?_)
    rw [secsOf_at hk] at ht
    obtain ⟨n, hn⟩ := List.getElem?_of_mem ht
    obtain ⟨t0, h0, e⟩ := bSet_at hn
    have := h k p S hk t0 (List.mem_of_getElem? h0)
    rw [e]
    split <;> exact this
  · exact h
theorem WlB.bf {D : List Dev} {j : Nat} (h : WlB D j) (q : Pw) (i : Int) (d : List Nat) : WlB (bfD D q i d) j := by
  unfold bfD
  split
  · exact h.put (fun t ht => by rw [fillS_wait ht]; exact Nat.zero_le _)
  · exact h
theorem WlB.crash {D : List Dev} {j : Nat} : WlB (crD D []) j := fun i p S hi s hs => by
  rw [crD_nil] at hi
  obtain ⟨d, h1, h2⟩ := Option.map_eq_some_iff.1 hi
  obtain ⟨x, h3, h4⟩ := Option.map_eq_some_iff.1 h2
  cases h4
  unfold crS at hs
  obtain ⟨t, -, rfl⟩ := List.mem_map.1 hs
  exact Nat.zero_le _
theorem bwQ_A (D : List Dev) (N : Nat) (i s : Int) (d : List Nat) : ∃ M, bwQ D (ctA N) i s d = ctA M ∧ M ≤ N + 1 := by
  unfold bwQ
  split
  · exact ⟨N + 1, spent_ctA N, Nat.le_refl _⟩
  · exact ⟨N, rfl, Nat.le_succ _⟩
theorem fl1Q_A (D : List Dev) (N : Nat) (i : Int) : ∃ M, fl1Q D (ctA N) i = ctA M ∧ M ≤ N + 1 := by
  unfold fl1Q
  split
  · exact ⟨N + 1, spent_ctA N, Nat.le_refl _⟩
  · exact ⟨N, rfl, Nat.le_succ _⟩

/-- The bank, and the bytes that are written to each device. -/
structure ApAt (w0 w : World) (F : Nat → Prop) (b gd : Nat) (D : List Dev) (N : Nat) : Prop where
  one : OneAt w0 w F b D (ctA N)
  gb : w.heap[gd]? = some (.cells (cellsB sev7).toArray 5 (0, 0))
  gf : ¬ F gd
section
variable {w0 w w1 : World} {F : Nat → Prop} {b gd : Nat} {D D' : List Dev} {N N' : Nat}
theorem ApAt.below (h : ApAt w0 w F b gd D N) (hb : Below w.heap.size w w1) : ApAt w0 w1 F b gd D N := ⟨h.one.below hb, by rw [hb.block gd (heap_lt h.gb)]; exact h.gb, h.gf⟩
theorem ApAt.turn (h : ApAt w0 w F b gd D N) (hk : Bk w1 (ext F w w1) b D' (ctA N')) (ht : Turn F w w1) : ApAt w0 w1 (ext F w w1) b gd D' N' :=
  ⟨h.one.turn hk ht, by rw [ht.block gd (heap_lt h.gb) h.gf]; exact h.gb, fun hx => by
    rcases hx with x | x
    · exact h.gf x
    · have := heap_lt h.gb; omega⟩
theorem ApAt.bytes (h : ApAt w0 w F b gd D N) : Bytes w (.slice (some ⟨gd, 0, none⟩) 128 128) sev7 := bytes_of_con sev7_con h.gb
end
def Ap (w0 w : World) (b gd : Nat) (P : List Dev → Nat → Prop) : Prop := ∃ F D N, ApAt w0 w F b gd D N ∧ P D N
theorem Ap.below {w0 w w1 : World} {b gd : Nat} {P : List Dev → Nat → Prop} (h : Ap w0 w b gd P) (hb : Below w.heap.size w w1) : Ap w0 w1 b gd P := by
  obtain ⟨F, D, N, h1, h2⟩ := h
  exact ⟨F, D, N, h1.below hb, h2⟩
theorem Ap.bel {w0 w : World} {b gd : Nat} {P : List Dev → Nat → Prop} (h : Ap w0 w b gd P) : Below w0.heap.size w0 w := by
  obtain ⟨F, D, N, h1, h2⟩ := h
  exact h1.one.bel
theorem Ap.mono {w0 w : World} {b gd : Nat} {P P' : List Dev → Nat → Prop} (h : Ap w0 w b gd P) (hp : ∀ D N, P D N → P' D N) : Ap w0 w b gd P' := by
  obtain ⟨F, D, N, h1, h2⟩ := h
  exact ⟨F, D, N, h1, hp _ _ h2⟩
/-- While the devices are written to; while the script goes on; behind the crash. -/
def ApW (j : Nat) (D : List Dev) (N : Nat) : Prop := (∀ i, i < 3 → sec1 D i (if i < j then sevSec else zeroSec)) ∧ WlB D j ∧ N ≤ j
def ApS (k0 j : Nat) (D : List Dev) (N : Nat) : Prop := (∀ i, i < 3 → i ≠ k0 → sec1 D i sevSec) ∧ WlB D (3 + j) ∧ N ≤ 3 + j
def ApC (k0 : Nat) (D : List Dev) (_ : Nat) : Prop := (∀ i, i < 3 → i ≠ k0 → sec1 D i zeroSec) ∧ WlB D 0
end Go.Proofs.Ytliboiajhhnajaa
