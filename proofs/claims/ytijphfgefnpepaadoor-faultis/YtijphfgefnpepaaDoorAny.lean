/- IsAny by its contract: it tells whether the code at the chain's end is among the codes. -/
import Derived.Test.YtijphfgefnpepaaDoorPath
namespace Go.Proofs.YtijphfgefnpepaaDoor
open Go.RowKit Go.Extern.Stop Go.Stop Go.Extern

/-- Is the number among the list? -/
def anyB (c : Int) (cs : List Int) : Bool := cs.any (c == ·)
theorem anyB_nil (c : Int) : anyB c [] = false := rfl
theorem anyB_snoc (c : Int) (cs : List Int) (q : Int) : anyB c (cs ++ [q]) = (anyB c cs || (c == q)) := by simp [anyB]

/-- The value 'v' is, in the world 'w', a slice of the codes 'cs'. -/
def Codes (w : World) (v : Value) (cs : List Int) : Prop :=
  ∃ ao cap g off, v = .slice ao cs.length cap ∧ (0 < cs.length → ao = some ⟨g, off, none⟩) ∧ ∀ (i : Nat) q, cs[i]? = some q → w.cell? ⟨g, off + i, none⟩ = some (.int .i64 q)

theorem Codes.below {w w' : World} (hb : Below w.heap.size w w') {v : Value} {cs : List Int} (h : Codes w v cs) : Codes w' v cs := by
  obtain ⟨ao, cap, g, off, h1, h2, h3⟩ := h
  exact ⟨ao, cap, g, off, h1, h2, fun i q hq => by rw [hb.cell (cell_lt (h3 i q hq))]; exact h3 i q hq⟩

theorem bare_chain (w : World) (c : Int) : Chain w [] c (.iface 27 (.int .i64 c)) := rfl

theorem closure_any (q c : Int) (cb : Nat) (w : World) (hc : w.cell? ⟨cb, 0, none⟩ = some (.int .i64 c)) :
    Calls Tryd.prog 29 #[.int .i64 q, .pointer (some ⟨cb, 0, none⟩)] w fun ev w' => ev = .returned (.bool (c == q)) ∧ w' = w := by
  go_enter Tryd.func29, Tryd.ntmps29
  go_wp2_with (go_at_call 16; refine (is_any [] c q _ _ (bare_chain _ c)).mono ?_; rintro e w' ⟨rfl, rfl⟩)
  go_ret
  exact ⟨rfl, rfl⟩

set_option maxHeartbeats 1000000 in
theorem index_any (cs : List Int) (v : Value) (c : Int) (cb : Nat) (w : World) (hv : Codes w v cs) (hc : w.cell? ⟨cb, 0, none⟩ = some (.int .i64 c)) (hl : cs.length ≤ 1000) :
    Calls Tryd.prog 39 #[v, .func (.func 29) #[] #[.pointer (some ⟨cb, 0, none⟩)]] w fun ev w' => ∃ r : Int, ev = .returned (.int .i64 r) ∧ (decide (0 ≤ r)) = anyB c cs ∧ w' = w := by
  obtain ⟨ao, cap, g, off, rfl, h2, h3⟩ := hv
  have H2 := hide h2
  have H3 := hide h3
  clear h2 h3
  go_enter Tryd.func39, Tryd.ntmps39
  go_wp2
  go_loopg [8] cs.length (fun k i wr => wr = w ∧ ∃ j, j + k = cs.length ∧ i = .int .i64 (j : Int) ∧ anyB c (cs.take j) = false)
  case atStart => exact ⟨rfl, 0, by omega, rfl, rfl⟩
  case round =>
    obtain ⟨rfl, j, hj, rfl, hno⟩ := hrel
    have HN := hide hno
    clear hno
    cases gk with
    | zero =>
      have hlt : ¬ (j : Int) < (cs.length : Int) := by omega
      go_wp2
      go_ret
      refine ⟨-1, rfl, ?_, rfl⟩
      have := HN.out
      rw [List.take_of_length_le (by omega)] at this
      rw [this]; rfl
    | succ m =>
      have hlt : (j : Int) < (cs.length : Int) := by omega
      have hjl : j < cs.length := by omega
      have hb0 : (0 : Int) ≤ (j : Int) := by omega
      obtain ⟨q, hq⟩ : ∃ q, cs[j]? = some q := ⟨cs[j], by simp [hjl]⟩
      have k1 := H3.out j q hq
      have hao : ao = some ⟨g, off, none⟩ := H2.out (by omega)
      subst hao
      have HQ := hide hq
      clear hq
      go_wp2_with fail
      refine (closure_any q c cb _ hc).mono ?_
      rintro ev w' ⟨rfl, rfl⟩
      have htk : cs.take (j + 1) = cs.take j ++ [q] := by rw [List.take_add_one, HQ.out]; rfl
      have HT := hide htk
      clear htk
      by_cases hcq : c = q
      · have hb : (c == q) = true := by simp [hcq]
        rw [hb]
        go_wp2
        go_ret
        refine ⟨(j : Int), rfl, ?_, rfl⟩
        have hin : anyB c cs = true := by
          unfold anyB
          rw [List.any_eq_true]
          exact ⟨q, List.mem_of_getElem? HQ.out, hb⟩
        rw [hin]; simp
      · have hb : (c == q) = false := by simp [hcq]
        rw [hb]
        have HBq := hide hb
        clear hb hcq
        go_wp2
        go_roundg m
        case measure => omega
        case rel => exact ⟨rfl, j + 1, by omega, by go_num, by rw [HT.out, anyB_snoc, HN.out, HBq.out]; rfl⟩

theorem contains_any (cs : List Int) (v : Value) (c : Int) (cb : Nat) (w : World) (hv : Codes w v cs) (hc : w.cell? ⟨cb, 0, none⟩ = some (.int .i64 c)) (hl : cs.length ≤ 1000) :
    Calls Tryd.prog 28 #[v, .func (.func 29) #[] #[.pointer (some ⟨cb, 0, none⟩)]] w fun ev w' => ev = .returned (.bool (anyB c cs)) ∧ w' = w := by
  have H1 := hide (index_any cs v c cb w hv hc hl)
  clear hv
  go_enter Tryd.func28, Tryd.ntmps28
  go_wp2_with fail
  refine H1.out.mono ?_
  rintro ev w' ⟨r, rfl, hr, rfl⟩
  have HR := hide hr
  clear hr
  go_wp2
  go_ret
  exact ⟨by rw [← HR.out]; rfl, rfl⟩

theorem isAny_chain (l : List Lk) (c : Int) (e : Value) (cs : List Int) (v : Value) (w : World) (hch : Chain w l c e) (hL : Laid w) (hv : Codes w v cs) (hl : cs.length ≤ 1000) :
    Calls Tryd.prog 17 #[e, v] w fun ev w' => ev = .returned (.bool (anyB c cs)) ∧ Below w.heap.size w w' := by
  have H1 := hide (codeOf_chain l c e w hch hL)
  have HV := hide hv
  have hmf : ∀ (fn : Fn) (first cap : Array Value) (w : World), (Instr.makeFunc fn first cap).run Tryd.prog w = .ok (.func fn first cap) w := fun _ _ _ _ => rfl
  clear hch hL hv
  go_enter Tryd.func17, Tryd.ntmps17
  go_wp2_with fail
  refine H1.out.mono ?_
  rintro ev w1 ⟨rfl, hb1⟩
  have HB1 := hide hb1
  have HV1 := hide ((HV.out.below hb1).below ((Below.refl w1.heap.size w1).alloc (Nat.le_refl _) (.cells #[.int .i64 c] 27)))
  clear hb1 HV H1
  go_wp2_with fail
  refine (contains_any cs v c w1.heap.size _ HV1.out (by simp) hl).mono ?_
  rintro ev w' ⟨rfl, rfl⟩
  go_wp2
  go_ret
  exact ⟨rfl, HB1.out.alloc HB1.out.size _⟩
end Go.Proofs.YtijphfgefnpepaaDoor
