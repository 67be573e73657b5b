/- The document's own flags. -/
import Derived.Test.YtkkklobjfoehnaaDoorRu0
import Derived.Test.YtkkklobjfoehnaaDoorTw0
namespace Go.Proofs.YtkkklobjfoehnaaDoor
open Go.RowKit Go.Extern

def boolsC (l : List Bool) : List Value := l.map Value.bool
theorem boolsC_length (l : List Bool) : (boolsC l).length = l.length := by simp [boolsC]
theorem boolsC_get {l : List Bool} {i : Nat} {q : Bool} (h : l[i]? = some q) : (boolsC l)[i]? = some (.bool q) := by simp [boolsC, h]
theorem boolsC_set (l : List Bool) (i : Nat) (q : Bool) : (boolsC l).set i (.bool q) = boolsC (l.set i q) := by simp [boolsC, List.map_set]
theorem boolsC_one (l : List Bool) : ∀ u ∈ boolsC l, u.oneCell' = true := fun u hu => by
  simp only [boolsC, List.mem_map] at hu; obtain ⟨b, -, rfl⟩ := hu; rfl
theorem boolsC_append (a b : List Bool) : boolsC (a ++ b) = boolsC a ++ boolsC b := by simp [boolsC]
theorem boolsC_false (n : Nat) : boolsC (List.replicate n false) = List.replicate n (.bool false) := by simp [boolsC]
/-- 'v' is a slice of the flags 'l' in a block of its own. -/
def OwnB (w : World) (base : Nat) (v : Value) (l : List Bool) : Prop := w.ownsRow base 4 1 v (boolsC l).length (boolsC l)
theorem OwnB.below {w w' : World} {base : Nat} {v : Value} {l : List Bool} (h : OwnB w base v l) (hb : Below w.heap.size w w') : OwnB w' base v l := ownsRow_below h hb
theorem OwnB.form {w : World} {base : Nat} {v : Value} {l : List Bool} (h : OwnB w base v l) : ∃ ao cap, v = .slice ao l.length cap := by
  obtain ⟨ao, cap, e⟩ := ownsRow_form h; rw [boolsC_length] at e; exact ⟨ao, cap, e⟩
theorem OwnB.at {w : World} {base : Nat} {v : Value} {l : List Bool} (h : OwnB w base v l) {i : Nat} {q : Bool} (hi : l[i]? = some q) : ∃ g cap, v = .slice (some ⟨g, 0, none⟩) l.length cap ∧ w.cell? ⟨g, i, none⟩ = some (.bool q) := by
  have hlt := (List.getElem?_eq_some_iff.1 hi).1
  obtain ⟨g, cap, cur, hv, -⟩ := ownsRow_pos h (by rw [boolsC_length]; omega)
  subst hv
  have := World.ownsRow.cells h (g := g) rfl i _ (boolsC_get hi)
  rw [add_plain, Nat.zero_add] at this
  rw [boolsC_length]
  exact ⟨g, cap, rfl, this⟩
theorem infoBool : (Tryd.prog.info? 4).map (fun i => (i.zero, i.size, i.bytes)) = some (some (.bool false), 1, 1) := by kernel_rfl

set_option maxRecDepth 100000 in
theorem rin_any {w : World} {base : Nat} {v : Value} {l : List Bool} (hl : OwnB w base v l) {u : Value} {ns : List Int} (hu : Ints w u ns) :
    Calls Tryd.prog 9 #[v, u] w fun e w' => e = .returned (.bool (ns.all (inB l))) ∧ w' = w := by
  have HL := hide hu.len
  obtain ⟨ao, cap, g, off, rfl, h2, h3⟩ := hu.at
  have H2 := hide h2
  have H3 := hide h3
  obtain ⟨ao1, cap1, rfl⟩ := hl.form
  clear h2 h3 hu hl
  go_enter Tryd.func9, Tryd.ntmps9
  go_wp2_with fail
  go_loopg [5] ns.length (fun c i wr => ∃ j : Nat, j + c = ns.length ∧ i = .int .i64 (j : Int) ∧ wr = w ∧ Hid (ns.all (inB l) = (ns.drop j).all (inB l)))
  case atStart => exact ⟨0, by omega, rfl, rfl, hide rfl⟩
  case round =>
    obtain ⟨j, hj, rfl, rfl, HI⟩ := hrel
    cases gk with
    | zero =>
      have hnl : ¬ (j : Int) < (ns.length : Int) := by omega
      have hend : j = ns.length := by omega
      have HE : Hid (ns.all (inB l) = true) := hide (by rw [HI.out, hend]; simp)
      clear hend
      go_wp2
      go_ret
      exact ⟨by rw [HE.out]; rfl, rfl⟩
    | succ c =>
      have hlt : j < ns.length := by omega
      have hnl : (j : Int) < (ns.length : Int) := by omega
      obtain ⟨n, hn⟩ : ∃ n, ns[j]? = some n := ⟨ns[j], by simp [hlt]⟩
      obtain rfl := H2.out (by omega)
      have cx := H3.out j n hn
      have e2 : IntKind.i64.wrap ((j : Int) + 1) = (j : Int) + 1 := IntWalk.i64_in _ ⟨by omega, by have := HL.out; omega⟩
      have hge : (0 : Int) ≤ (j : Int) := by omega
      have HD := hide (drop_at hn)
      clear hlt hn
      by_cases h0 : n < 0
      · have d0 : decide (n < 0) = true := by simpa using h0
        have HE : Hid (ns.all (inB l) = false) := hide (by
          rw [HI.out, HD.out, List.all_cons]
          have : inB l n = false := by unfold inB; simp; omega
          rw [this]; rfl)
        clear h0
        go_wp2
        go_ret
        exact ⟨by rw [HE.out]; rfl, rfl⟩
      · have d0 : decide (n < 0) = false := by simpa using h0
        by_cases h1 : (l.length : Int) ≤ n
        · have d1 : decide ((l.length : Int) ≤ n) = true := by simpa using h1
          have HE : Hid (ns.all (inB l) = false) := hide (by
            rw [HI.out, HD.out, List.all_cons]
            have : inB l n = false := by unfold inB; simp; omega
            rw [this]; rfl)
          clear h0 h1
          go_wp2
          go_ret
          exact ⟨by rw [HE.out]; rfl, rfl⟩
        · have d1 : decide ((l.length : Int) ≤ n) = false := by simpa using h1
          have HE : Hid (ns.all (inB l) = (ns.drop (j + 1)).all (inB l)) := hide (by
            rw [HI.out, HD.out, List.all_cons]
            have : inB l n = true := by unfold inB; simp; omega
            rw [this]; rfl)
          clear h0 h1
          go_wp2
          go_roundg c
          case measure => omega
          case rel => exact ⟨j + 1, by omega, by go_num, rfl, HE⟩
/-- How many of the first flags are set. -/
def cntTo (l : List Bool) (j : Nat) : Nat := (l.take j).count true
theorem cntTo_succ {l : List Bool} {j : Nat} {q : Bool} (h : l[j]? = some q) : cntTo l (j + 1) = cntTo l j + (if q then 1 else 0) := by
  unfold cntTo; rw [take_snoc h, List.count_append]; cases q <;> simp
theorem cntTo_le (l : List Bool) (j : Nat) : cntTo l j ≤ j := by
  unfold cntTo; have := List.count_le_length (a := true) (l := l.take j); have := List.length_take_le j l; omega
set_option maxRecDepth 100000 in
theorem rcount_any {w : World} {base : Nat} {v : Value} {l : List Bool} (hl : OwnB w base v l) (hlen : l.length ≤ 4096) :
    Calls Tryd.prog 28 #[v] w fun e w' => e = .returned (.int .i64 (l.count true : Int)) ∧ w' = w := by
  have HO := hide hl
  have HL := hide hlen
  obtain ⟨ao1, cap1, rfl⟩ := hl.form
  clear hl hlen
  go_enter Tryd.func28, Tryd.ntmps28
  go_wp2_with fail
  go_loopg [3, 4] l.length (fun c n i wr => ∃ j : Nat, j + c = l.length ∧ n = .int .i64 (cntTo l j : Int) ∧ i = .int .i64 (j : Int) ∧ wr = w)
  case atStart => exact ⟨0, by omega, rfl, rfl, rfl⟩
  case round =>
    obtain ⟨j, hj, rfl, rfl, rfl⟩ := hrel
    cases gk with
    | zero =>
      have hnl : ¬ (j : Int) < (l.length : Int) := by omega
      have hend : j = l.length := by omega
      have HE : Hid (cntTo l j = l.count true) := hide (by rw [hend]; unfold cntTo; rw [List.take_length])
      clear hend
      go_wp2
      go_ret
      exact ⟨by rw [← HE.out]; rfl, rfl⟩
    | succ c =>
      have hlt : j < l.length := by omega
      have hnl : (j : Int) < (l.length : Int) := by omega
      obtain ⟨q, hq⟩ : ∃ q, l[j]? = some q := ⟨l[j], by simp [hlt]⟩
      obtain ⟨g, cap2, hv, cx⟩ := HO.out.at hq
      obtain ⟨rfl, rfl⟩ : ao1 = some ⟨g, 0, none⟩ ∧ cap1 = cap2 := by simpa using hv
      have hct := cntTo_le l j
      have hs := cntTo_succ hq
      have e2 : IntKind.i64.wrap ((j : Int) + 1) = (j : Int) + 1 := IntWalk.i64_in _ ⟨by omega, by have := HL.out; omega⟩
      have e3 : IntKind.i64.wrap ((cntTo l j : Int) + 1) = (cntTo l j : Int) + 1 := IntWalk.i64_in _ ⟨by omega, by have := HL.out; omega⟩
      have hge : (0 : Int) ≤ (j : Int) := by omega
      have HS := hide hs
      clear hlt hv hct hs
      cases q with
      | true =>
        go_wp2
        go_roundg c
        case measure => omega
        case rel => exact ⟨j + 1, by omega, by rw [HS.out]; rfl, by go_num, rfl⟩
      | false =>
        go_wp2
        go_roundg c
        case measure => omega
        case rel => exact ⟨j + 1, by omega, by rw [HS.out]; rfl, by go_num, rfl⟩
set_option maxRecDepth 100000 in
set_option maxHeartbeats 1000000 in
theorem rfind_any {w : World} {base : Nat} {v : Value} {l : List Bool} (hl : OwnB w base v l) (hlen : l.length ≤ 4096) (fr : Int) (on : Bool) :
    Calls Tryd.prog 18 #[v, .int .i64 fr, .bool on] w fun e w' => e = .returned (foundV (firstS l fr.toNat on)) ∧ w' = w := by
  have HO := hide hl
  have HL := hide hlen
  obtain ⟨ao1, cap1, rfl⟩ := hl.form
  clear hl hlen
  go_enter Tryd.func18, Tryd.ntmps18
  go_wp2_with fail
  go_loopg [8] l.length (fun c i wr => ∃ j : Nat, j + c = l.length ∧ i = .int .i64 (j : Int) ∧ wr = w ∧ Hid (∀ q, fr.toNat ≤ q → q < j → l.getD q false ≠ on))
  case atStart => exact ⟨0, by omega, rfl, rfl, hide fun q _ h => by omega⟩
  case round =>
    obtain ⟨j, hj, rfl, rfl, HN⟩ := hrel
    cases gk with
    | zero =>
      have hnl : ¬ (j : Int) < (l.length : Int) := by omega
      have HE : Hid (firstS l fr.toNat on = none) := hide (firstS_none.2 fun q h1 h2 => HN.out q h1 (by omega))
      go_wp2
      go_ret2
      exact ⟨by rw [HE.out]; rfl, rfl⟩
    | succ c =>
      have hlt : j < l.length := by omega
      have hnl : (j : Int) < (l.length : Int) := by omega
      obtain ⟨q, hq⟩ : ∃ q, l[j]? = some q := ⟨l[j], by simp [hlt]⟩
      have hgd : l.getD j false = q := by simp [List.getD, hq]
      obtain ⟨g, cap2, hv, cx⟩ := HO.out.at hq
      obtain ⟨rfl, rfl⟩ : ao1 = some ⟨g, 0, none⟩ ∧ cap1 = cap2 := by simpa using hv
      have e2 : IntKind.i64.wrap ((j : Int) + 1) = (j : Int) + 1 := IntWalk.i64_in _ ⟨by omega, by have := HL.out; omega⟩
      have hge : (0 : Int) ≤ (j : Int) := by omega
      have HG := hide hgd
      have HLT := hide hlt
      clear hlt hv hq hgd
      by_cases hf : fr ≤ (j : Int)
      · have d0 : decide (fr ≤ (j : Int)) = true := by simpa using hf
        by_cases he : q = on
        · subst he
          have HE : Hid (firstS l fr.toNat q = some j) := hide (firstS_some.2 ⟨by omega, HLT.out, HG.out, fun z h1 h2 => HN.out z h1 h2⟩)
          clear hf
          cases q <;>
          · go_wp2
            go_ret2
            exact ⟨by rw [HE.out]; rfl, rfl⟩
        · have HE : Hid (∀ z, fr.toNat ≤ z → z < j + 1 → l.getD z false ≠ on) := hide fun z h1 h2 => by
            rcases Nat.lt_or_ge z j with h | h
            · exact HN.out z h1 h
            · obtain rfl : z = j := by omega
              rw [HG.out]; exact he
          clear hf
          cases q <;> cases on
          · exact absurd rfl he
          · clear he
            go_wp2
            go_roundg c
            case measure => omega
            case rel => exact ⟨j + 1, by omega, by go_num, rfl, HE⟩
          · clear he
            go_wp2
            go_roundg c
            case measure => omega
            case rel => exact ⟨j + 1, by omega, by go_num, rfl, HE⟩
          · exact absurd rfl he
      · have d0 : decide (fr ≤ (j : Int)) = false := by simpa using hf
        have HE : Hid (∀ z, fr.toNat ≤ z → z < j + 1 → l.getD z false ≠ on) := hide fun z h1 h2 => HN.out z h1 (by omega)
        clear hf
        go_wp2
        go_roundg c
        case measure => omega
        case rel => exact ⟨j + 1, by omega, by go_num, rfl, HE⟩
end Go.Proofs.YtkkklobjfoehnaaDoor
