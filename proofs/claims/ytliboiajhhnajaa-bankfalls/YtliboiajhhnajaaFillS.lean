/- What Fill makes of sectors. -/
import Derived.Test.YtliboiajhhnajaaCrash
namespace Go.Proofs.Ytliboiajhhnajaa
open Go.RowKit Go.Extern

def fillAt (d : List Nat) (i k : Nat) : Nat := d.getD ((i * 128 + k) % d.length) 0
/-- A sector's bytes, as far as they are laid. -/
def fillUp (d : List Nat) (i n : Nat) : List Nat := (List.range 128).map fun k => if k < n then fillAt d i k else 0
def fillB (d : List Nat) (i : Nat) : List Nat := if d.length = 0 then zeros else fillUp d i 128
def fillSec (d : List Nat) (i : Nat) : Sec := ⟨fillB d i, false, []⟩
def fillS (S : List Sec) (d : List Nat) : List Sec := partS S (fun i _ => fillSec d i)
theorem fillUp_zero (d : List Nat) (i : Nat) : fillUp d i 0 = zeros := by
  unfold fillUp zeros
  rw [show (fun k => if k < 0 then fillAt d i k else 0) = (fun _ : Nat => 0) from by funext k; simp, List.map_const', List.length_range]
theorem fillUp_length (d : List Nat) (i n : Nat) : (fillUp d i n).length = 128 := by simp [fillUp]
theorem fillUp_set {d : List Nat} {i k : Nat} (hk : k < 128) : (fillUp d i k).set k (fillAt d i k) = fillUp d i (k + 1) := by
  apply List.ext_getElem?
  intro j
  by_cases e : k = j
  · subst e
    rw [List.getElem?_set_self (by rw [fillUp_length]; exact hk)]
    simp [fillUp, List.getElem?_map, List.getElem?_range hk]
  · rw [List.getElem?_set_ne e]
    unfold fillUp
    rw [List.getElem?_map, List.getElem?_map]
    by_cases hj : j < 128
    · rw [List.getElem?_range hj, Option.map_some, Option.map_some]
      by_cases h1 : j < k
      · rw [if_pos h1, if_pos (by omega)]
      · rw [if_neg h1, if_neg (by omega)]
    · rw [List.getElem?_eq_none (by simp; omega)]; rfl
theorem fillAt_get {d : List Nat} (h : 0 < d.length) (i k : Nat) : d[(i * 128 + k) % d.length]? = some (fillAt d i k) := by
  have := Nat.mod_lt (i * 128 + k) h
  unfold fillAt
  rw [List.getD_eq_getElem?_getD, List.getElem?_eq_getElem this]; rfl
theorem fillAt_lt {d : List Nat} (hd : ∀ x ∈ d, x < 256) (i k : Nat) : fillAt d i k < 256 := by
  unfold fillAt
  rw [List.getD_eq_getElem?_getD]
  cases h : d[(i * 128 + k) % d.length]? with
  | none => decide
  | some x => exact hd x (List.mem_of_getElem? h)
theorem fillUp_con {d : List Nat} (hd : ∀ x ∈ d, x < 256) (i n : Nat) : Con (fillUp d i n) := by
  refine ⟨fillUp_length d i n, fun x hx => ?_⟩
  simp only [fillUp, List.mem_map] at hx
  obtain ⟨k, -, rfl⟩ := hx
  split
  · exact fillAt_lt hd i k
  · decide
theorem fillB_con {d : List Nat} (hd : ∀ x ∈ d, x < 256) (i : Nat) : Con (fillB d i) := by
  unfold fillB
  split
  · exact zeros_con
  · exact fillUp_con hd i 128
/-- .. as far as the loop has come. -/
def fillF (d : List Nat) (q i : Nat) (s : Sec) : Sec := if i < q then fillSec d i else s
def fillP (d : List Nat) (q i : Nat) (s : Sec) : Sec := if i < q then ⟨fillB d i, false, s.wait⟩ else s
theorem fillF_zero (S : List Sec) (d : List Nat) : partS S (fillF d 0) = S := by
  apply List.ext_getElem?
  intro i
  rw [partS_get]
  cases S[i]? <;> simp [fillF]
theorem fillP_zero (S : List Sec) (d : List Nat) : partS S (fillP d 0) = S := by
  apply List.ext_getElem?
  intro i
  rw [partS_get]
  cases S[i]? <;> simp [fillP]
theorem fillF_end (S : List Sec) (d : List Nat) : partS S (fillF d S.length) = fillS S d := by
  apply List.ext_getElem?
  intro i
  unfold fillS
  rw [partS_get, partS_get]
  cases h : S[i]? with
  | none => rfl
  | some s => simp [fillF, (List.getElem?_eq_some_iff.1 h).1]
theorem fillP_end (S : List Sec) (d : List Nat) : (partS S (fillP d S.length)).map Sec.let = fillS S d := by
  apply List.ext_getElem?
  intro i
  unfold fillS
  rw [List.getElem?_map, partS_get, partS_get]
  cases h : S[i]? with
  | none => rfl
  | some s => simp [fillP, (List.getElem?_eq_some_iff.1 h).1, Sec.let, fillSec]
theorem fillF_at {S : List Sec} {d : List Nat} {q : Nat} {s : Sec} (hs : S[q]? = some s) : (partS S (fillF d q))[q]? = some s := by
  rw [partS_get, hs]; simp [fillF]
theorem fillP_at {S : List Sec} {d : List Nat} {q : Nat} {s : Sec} (hs : S[q]? = some s) : (partS S (fillP d q))[q]? = some s := by
  rw [partS_get, hs]; simp [fillP]
theorem fillF_step {S : List Sec} {d : List Nat} {q : Nat} {s : Sec} (hs : S[q]? = some s) : (partS S (fillF d q)).set q (fillSec d q) = partS S (fillF d (q + 1)) := by
  refine partS_set hs (by simp [fillF]) (fun i t hi => ?_)
  unfold fillF
  by_cases h : i < q
  · rw [if_pos h, if_pos (by omega)]
  · rw [if_neg h, if_neg (by omega)]
theorem fillP_step {S : List Sec} {d : List Nat} {q : Nat} {s : Sec} (hs : S[q]? = some s) : (partS S (fillP d q)).set q ⟨fillB d q, false, s.wait⟩ = partS S (fillP d (q + 1)) := by
  refine partS_set hs (by simp [fillP]) (fun i t hi => ?_)
  unfold fillP
  by_cases h : i < q
  · rw [if_pos h, if_pos (by omega)]
  · rw [if_neg h, if_neg (by omega)]
theorem fillS_length (S : List Sec) (d : List Nat) : (fillS S d).length = S.length := partS_length _ _
theorem fillS_wait {S : List Sec} {d : List Nat} {s : Sec} (h : s ∈ fillS S d) : s.wait = [] := by
  obtain ⟨i, hi⟩ := List.getElem?_of_mem h
  unfold fillS at hi
  rw [partS_get] at hi
  obtain ⟨t, -, rfl⟩ := Option.map_eq_some_iff.1 hi
  rfl
end Go.Proofs.Ytliboiajhhnajaa
