/- The keys of a map, one after the other: what maps.Keys hands back. -/
import Derived.Test.YtjopdejgijojmaaCm
import Derived.Test.YtjopdejgijojmaaShelf9
import Derived.RangeFuncNested
import Derived.RangeFuncBound
import Derived.RangeFuncCalls
import Derived.RangeFuncLeaves
import Derived.Shelf.Abstract
import Derived.Shelf.RegionOpen
import Derived.OwnWalkIn
import Derived.TacticsInMore
import Derived.LoopNIn
import Derived.LoopIn
namespace Go.Proofs.Ytjopdejgijojmaa
open Go.RowKit Go.Extern Go.Sort Go.Shelf

section
variable {α β : Type} {ek : α → Value} {G : α → Prop} {ev : β → Value} {w w' : World} {b r : Nat} {l todo : List (α × β)}
theorem RangeIs.of_walks (h : RangeIs ek G ev w b r l todo) (hk : KeepsWalks w w') : RangeIs ek G ev w' b r l todo := by
  obtain ⟨es, c, hm⟩ := h.map.isMap
  obtain ⟨m, s, se, c2, hi⟩ := h.iter
  refine h.of_blocks (fun o ho => ?_) (fun o ho => ?_)
  · rw [hm] at ho; cases ho; exact hk.same _ _ hm rfl
  · rw [hi] at ho; cases ho; exact hk.same _ _ hi rfl
theorem RangeIs.left_eq (h : RangeIs ek G ev w b r l todo) : w.rangeLeft b r = todo.length := by
  obtain ⟨es, clock, since, seen, c0, h⟩ := h
  simp only [World.rangeLeft, h.map.blk, h.it]
  have := h.left.length_eq
  simpa using this
end

set_option maxRecDepth 100000 in
set_option maxHeartbeats 2000000 in
theorem keysN_stops {β : Type} {ev : β → Value} {w : World} {Bm b : Nat} {l : List (Own × β)} (n : Nat) (hn : 1 ≤ n) (hBm : w.cell? ⟨Bm, 0, none⟩ = some (.map (some b))) (hmap : MapIs encO OkO ev w b l) :
    SeqStops Fence.wide n Try.prog 45 #[.pointer (some ⟨Bm, 0, none⟩)] encO (fun ss => ss.Perm (l.map Prod.fst)) (fun _ => True) l.length w := by
  intro lp J Jx W hW hJ _ hY h0
  have hm : W.cell? ⟨Bm, 0, none⟩ = some (.map (some b)) := (hW.cell (p := ⟨Bm, 0, none⟩) (cell_lt hBm)).trans hBm
  have hown : MapIs encO OkO ev W b l := hmap.of_block (fun _ h => by rw [hW.block b hmap.lt]; exact h)
  obtain ⟨o, hrun, hrg0, hw⟩ := hown.range (P := Try.prog) uN
  have hro : Fence.wide.round = none := rfl
  have HR0 := hide hrg0
  have HJ0 : Hid (J [] (W.alloc o)) := hide (hJ [] W _ none h0 (World.grownBy_alloc W o none) (fun r e => by cases e))
  clear hmap hBm hown hrg0
  refine callsIn_of_wp Try.func45 rfl trivial ?_ rfl
  simp only [Try.ntmps45, List.size_toArray, List.length_cons, List.length_nil, Nat.reduceAdd, Nat.reduceSub, Array.replicate_succ, Array.replicate_zero, List.push_toArray, List.append_toArray, List.nil_append, List.cons_append]
  gi_wp2
  gi_loopw [3] (fun _ wr => ∃ (todo : List (Own × β)) (ss : List Own), Hid (RangeIs encO OkO ev wr b W.heap.size l todo) ∧ Hid ((ss ++ todo.map Prod.fst).Perm (l.map Prod.fst)) ∧ Hid (J ss wr))
    (fun _ wr => wr.rangeLeft b W.heap.size)
  case atStart =>
    exact ⟨l, [], HR0, hide (by simp), HJ0⟩
  case round =>
    obtain ⟨todo, ss, HR, HP, HJ⟩ := hrel
    rcases HR.out.next (P := Try.prog) 0 with ⟨rfl, hnx⟩ | ⟨p, todo', w2, hperm, hnx, hr2, hg2, hs2, hen⟩
    · gi_wp2
      go_end0
      exact ⟨⟨_, rfl⟩, .inl ⟨ss, by have := HP.out; simpa using this, HJ.out⟩⟩
    · have HJ2 : Hid (J ss w2) := hide (hJ ss wr w2 (some W.heap.size) HJ.out hg2 (fun r e => by cases e; obtain ⟨m, s, se, c, hi⟩ := HR.out.iter; exact ⟨Nat.le_refl _, _, hi, rfl⟩))
      have HR2 := hide hr2
      have HQ := hide hperm
      have hlen : ss.length < l.length := by
        have h1 := HP.out.length_eq
        have h2 := HQ.out.length_eq
        simp at h1 h2
        omega
      obtain ⟨x, hx⟩ : ∃ x, w2.heap.size = x := ⟨_, rfl⟩
      obtain ⟨W4, hW4⟩ : ∃ W4, w2.alloc (.cells #[.int .i64 p.1.1, .int .i64 p.1.2] 35) = W4 := ⟨_, rfl⟩
      have hb4 : BoxO W4 x p.1 := by rw [← hW4, ← hx]; exact boxO_new w2 p.1 _
      obtain ⟨hb41, hb42⟩ := hb4
      have hk4 : KeepsWalks w2 W4 := by rw [← hW4]; exact KeepsWalks.alloc _ _
      have HR3 := hide (HR2.out.of_walks hk4)
      have HJ4 : Hid (J ss W4) := hide (by rw [← hW4]; exact hJ ss w2 _ none HJ2.out (World.grownBy_alloc w2 _ none) (fun r e => by cases e))
      obtain ⟨fn, tmps, assign, body, hy, hR⟩ := hY ss p.1 W4 HJ4.out hlen
      unfold encO at hy hnx hen
      clear hk4
      have HL : Hid (wr.rangeLeft b W.heap.size = todo.length) := hide HR.out.left_eq
      clear hr2 hperm hg2 hs2
      gi_wp2
      refine hR.mono ?_
      rintro e W3 (⟨rfl, hJ3, hk3⟩ | ⟨rfl, hJx3⟩)
      · gi_wp2
        have hrg3 := HR3.out.of_walks hk3
        go_roundw
        case rel =>
          refine ⟨todo', ss ++ [p.1], hide hrg3, hide ?_, hide hJ3⟩
          have h1 := HP.out
          have h2 := (HQ.out.map Prod.fst).append_left ss
          rw [List.append_assoc]
          exact h2.symm.trans h1
        case measure =>
          have h1 := HL.out
          rw [hrg3.left_eq, h1]
          have h2 := HQ.out.length_eq
          simp at h2
          omega
      · gi_wp2
        refine bodyPost_ret (results_none rfl _ _ _) rfl ?_
        exact ⟨⟨_, rfl⟩, .inr ⟨ss ++ [p.1], trivial, hJx3⟩⟩

set_option maxRecDepth 100000 in
set_option maxHeartbeats 2000000 in
theorem keysS_stops {β : Type} {ev : β → Value} {w : World} {Bm b : Nat} {l : List (Own × β)} (n : Nat) (hn : 1 ≤ n) (hBm : w.cell? ⟨Bm, 0, none⟩ = some (.map (some b))) (hmap : MapIs encO OkO ev w b l) :
    SeqStops Fence.wide n Try.prog 51 #[.pointer (some ⟨Bm, 0, none⟩)] encO (fun ss => ss.Perm (l.map Prod.fst)) (fun _ => True) l.length w := by
  intro lp J Jx W hW hJ _ hY h0
  have hm : W.cell? ⟨Bm, 0, none⟩ = some (.map (some b)) := (hW.cell (p := ⟨Bm, 0, none⟩) (cell_lt hBm)).trans hBm
  have hown : MapIs encO OkO ev W b l := hmap.of_block (fun _ h => by rw [hW.block b hmap.lt]; exact h)
  obtain ⟨o, hrun, hrg0, hw⟩ := hown.range (P := Try.prog) uS
  have hro : Fence.wide.round = none := rfl
  have HR0 := hide hrg0
  have HJ0 : Hid (J [] (W.alloc o)) := hide (hJ [] W _ none h0 (World.grownBy_alloc W o none) (fun r e => by cases e))
  clear hmap hBm hown hrg0
  refine callsIn_of_wp Try.func51 rfl trivial ?_ rfl
  simp only [Try.ntmps51, List.size_toArray, List.length_cons, List.length_nil, Nat.reduceAdd, Nat.reduceSub, Array.replicate_succ, Array.replicate_zero, List.push_toArray, List.append_toArray, List.nil_append, List.cons_append]
  gi_wp2
  gi_loopw [3] (fun _ wr => ∃ (todo : List (Own × β)) (ss : List Own), Hid (RangeIs encO OkO ev wr b W.heap.size l todo) ∧ Hid ((ss ++ todo.map Prod.fst).Perm (l.map Prod.fst)) ∧ Hid (J ss wr))
    (fun _ wr => wr.rangeLeft b W.heap.size)
  case atStart =>
    exact ⟨l, [], HR0, hide (by simp), HJ0⟩
  case round =>
    obtain ⟨todo, ss, HR, HP, HJ⟩ := hrel
    rcases HR.out.next (P := Try.prog) 0 with ⟨rfl, hnx⟩ | ⟨p, todo', w2, hperm, hnx, hr2, hg2, hs2, hen⟩
    · gi_wp2
      go_end0
      exact ⟨⟨_, rfl⟩, .inl ⟨ss, by have := HP.out; simpa using this, HJ.out⟩⟩
    · have HJ2 : Hid (J ss w2) := hide (hJ ss wr w2 (some W.heap.size) HJ.out hg2 (fun r e => by cases e; obtain ⟨m, s, se, c, hi⟩ := HR.out.iter; exact ⟨Nat.le_refl _, _, hi, rfl⟩))
      have HR2 := hide hr2
      have HQ := hide hperm
      have hlen : ss.length < l.length := by
        have h1 := HP.out.length_eq
        have h2 := HQ.out.length_eq
        simp at h1 h2
        omega
      obtain ⟨x, hx⟩ : ∃ x, w2.heap.size = x := ⟨_, rfl⟩
      obtain ⟨W4, hW4⟩ : ∃ W4, w2.alloc (.cells #[.int .i64 p.1.1, .int .i64 p.1.2] 35) = W4 := ⟨_, rfl⟩
      have hb4 : BoxO W4 x p.1 := by rw [← hW4, ← hx]; exact boxO_new w2 p.1 _
      obtain ⟨hb41, hb42⟩ := hb4
      have hk4 : KeepsWalks w2 W4 := by rw [← hW4]; exact KeepsWalks.alloc _ _
      have HR3 := hide (HR2.out.of_walks hk4)
      have HJ4 : Hid (J ss W4) := hide (by rw [← hW4]; exact hJ ss w2 _ none HJ2.out (World.grownBy_alloc w2 _ none) (fun r e => by cases e))
      obtain ⟨fn, tmps, assign, body, hy, hR⟩ := hY ss p.1 W4 HJ4.out hlen
      unfold encO at hy hnx hen
      clear hk4
      have HL : Hid (wr.rangeLeft b W.heap.size = todo.length) := hide HR.out.left_eq
      clear hr2 hperm hg2 hs2
      gi_wp2
      refine hR.mono ?_
      rintro e W3 (⟨rfl, hJ3, hk3⟩ | ⟨rfl, hJx3⟩)
      · gi_wp2
        have hrg3 := HR3.out.of_walks hk3
        go_roundw
        case rel =>
          refine ⟨todo', ss ++ [p.1], hide hrg3, hide ?_, hide hJ3⟩
          have h1 := HP.out
          have h2 := (HQ.out.map Prod.fst).append_left ss
          rw [List.append_assoc]
          exact h2.symm.trans h1
        case measure =>
          have h1 := HL.out
          rw [hrg3.left_eq, h1]
          have h2 := HQ.out.length_eq
          simp at h2
          omega
      · gi_wp2
        refine bodyPost_ret (results_none rfl _ _ _) rfl ?_
        exact ⟨⟨_, rfl⟩, .inr ⟨ss ++ [p.1], trivial, hJx3⟩⟩

set_option maxRecDepth 100000 in
set_option maxHeartbeats 2000000 in
theorem keysA_stops {β : Type} {ev : β → Value} {w : World} {Bm b : Nat} {l : List (Int × β)} (n : Nat) (hn : 1 ≤ n) (hBm : w.cell? ⟨Bm, 0, none⟩ = some (.map (some b))) (hmap : MapIs encI I64 ev w b l) :
    SeqStops Fence.wide n Try.prog 50 #[.pointer (some ⟨Bm, 0, none⟩)] encZ (fun ss => ss.Perm (l.map Prod.fst)) (fun _ => True) l.length w := by
  intro lp J Jx W hW hJ _ hY h0
  have hm : W.cell? ⟨Bm, 0, none⟩ = some (.map (some b)) := (hW.cell (p := ⟨Bm, 0, none⟩) (cell_lt hBm)).trans hBm
  have hown : MapIs encI I64 ev W b l := hmap.of_block (fun _ h => by rw [hW.block b hmap.lt]; exact h)
  obtain ⟨o, hrun, hrg0, hw⟩ := hown.range (P := Try.prog) uA
  have hro : Fence.wide.round = none := rfl
  have HR0 := hide hrg0
  have HJ0 : Hid (J [] (W.alloc o)) := hide (hJ [] W _ none h0 (World.grownBy_alloc W o none) (fun r e => by cases e))
  clear hmap hBm hown hrg0
  refine callsIn_of_wp Try.func50 rfl trivial ?_ rfl
  simp only [Try.ntmps50, List.size_toArray, List.length_cons, List.length_nil, Nat.reduceAdd, Nat.reduceSub, Array.replicate_succ, Array.replicate_zero, List.push_toArray, List.append_toArray, List.nil_append, List.cons_append]
  gi_wp2
  gi_loopw [3] (fun _ wr => ∃ (todo : List (Int × β)) (ss : List Int), Hid (RangeIs encI I64 ev wr b W.heap.size l todo) ∧ Hid ((ss ++ todo.map Prod.fst).Perm (l.map Prod.fst)) ∧ Hid (J ss wr))
    (fun _ wr => wr.rangeLeft b W.heap.size)
  case atStart =>
    exact ⟨l, [], HR0, hide (by simp), HJ0⟩
  case round =>
    obtain ⟨todo, ss, HR, HP, HJ⟩ := hrel
    rcases HR.out.next (P := Try.prog) 0 with ⟨rfl, hnx⟩ | ⟨p, todo', w2, hperm, hnx, hr2, hg2, hs2, hen⟩
    · gi_wp2
      go_end0
      exact ⟨⟨_, rfl⟩, .inl ⟨ss, by have := HP.out; simpa using this, HJ.out⟩⟩
    · have HJ2 : Hid (J ss w2) := hide (hJ ss wr w2 (some W.heap.size) HJ.out hg2 (fun r e => by cases e; obtain ⟨m, s, se, c, hi⟩ := HR.out.iter; exact ⟨Nat.le_refl _, _, hi, rfl⟩))
      have HR2 := hide hr2
      have HQ := hide hperm
      have hlen : ss.length < l.length := by
        have h1 := HP.out.length_eq
        have h2 := HQ.out.length_eq
        simp at h1 h2
        omega
      have HR3 := HR2
      obtain ⟨fn, tmps, assign, body, hy, hR⟩ := hY ss p.1 w2 HJ2.out hlen
      unfold encI at hnx hen
      unfold encZ at hy
      have HL : Hid (wr.rangeLeft b W.heap.size = todo.length) := hide HR.out.left_eq
      clear hr2 hperm hg2 hs2
      gi_wp2
      refine hR.mono ?_
      rintro e W3 (⟨rfl, hJ3, hk3⟩ | ⟨rfl, hJx3⟩)
      · gi_wp2
        have hrg3 := HR3.out.of_walks hk3
        go_roundw
        case rel =>
          refine ⟨todo', ss ++ [p.1], hide hrg3, hide ?_, hide hJ3⟩
          have h1 := HP.out
          have h2 := (HQ.out.map Prod.fst).append_left ss
          rw [List.append_assoc]
          exact h2.symm.trans h1
        case measure =>
          have h1 := HL.out
          rw [hrg3.left_eq, h1]
          have h2 := HQ.out.length_eq
          simp at h2
          omega
      · gi_wp2
        refine bodyPost_ret (results_none rfl _ _ _) rfl ?_
        exact ⟨⟨_, rfl⟩, .inr ⟨ss ++ [p.1], trivial, hJx3⟩⟩

set_option maxRecDepth 100000 in
set_option maxHeartbeats 2000000 in
theorem keysS_nil {w : World} {Bm : Nat} (n : Nat) (hBm : w.cell? ⟨Bm, 0, none⟩ = some (.map none)) :
    SeqStops Fence.wide n Try.prog 51 #[.pointer (some ⟨Bm, 0, none⟩)] encO (fun ss => ss.Perm ([] : List Own)) (fun _ => True) 0 w := by
  intro lp J Jx W hW hJ _ hY h0
  have hm : W.cell? ⟨Bm, 0, none⟩ = some (.map none) := (hW.cell (p := ⟨Bm, 0, none⟩) (cell_lt hBm)).trans hBm
  have hro : Fence.wide.round = none := rfl
  have hrg := run_range_nilMap (P := Try.prog) W 83 35 85 uS
  have hnx : ∀ ty, (Instr.next (.pointer (some ⟨W.heap.size, 0, none⟩)) false ty).run Try.prog (W.alloc (.mapIter none 0 #[] 0)) = _ := fun ty => run_next_nilMap _ ty 0 0 #[]
  clear hBm hY
  refine callsIn_of_wp Try.func51 rfl trivial ?_ rfl
  simp only [Try.ntmps51, List.size_toArray, List.length_cons, List.length_nil, Nat.reduceAdd, Nat.reduceSub, Array.replicate_succ, Array.replicate_zero, List.push_toArray, List.append_toArray, List.nil_append, List.cons_append]
  gi_wp2
  refine wpIn_loop_rounds 1 ?_
  rw [roundsIn_succ]
  gi_wp2
  go_end0
  exact ⟨⟨_, rfl⟩, .inl ⟨[], List.Perm.refl _, hJ [] W _ none h0 (World.grownBy_alloc W _ none) (fun r e => by cases e)⟩⟩

set_option maxRecDepth 100000 in
theorem keysN_any (mb : Option Nat) (w : World) : Calls Try.prog 32 #[.map mb] w fun e w' => e = .returned (.func (.func 45) #[] #[.pointer (some ⟨w.heap.size, 0, none⟩)]) ∧ w' = w.alloc (.cells #[.map mb] 62) := by
  go_enter Try.func32, Try.ntmps32
  go_wp2
  go_ret
  exact ⟨rfl, rfl⟩

set_option maxRecDepth 100000 in
theorem keysS_any (mb : Option Nat) (w : World) : Calls Try.prog 39 #[.map mb] w fun e w' => e = .returned (.func (.func 51) #[] #[.pointer (some ⟨w.heap.size, 0, none⟩)]) ∧ w' = w.alloc (.cells #[.map mb] 83) := by
  go_enter Try.func39, Try.ntmps39
  go_wp2
  go_ret
  exact ⟨rfl, rfl⟩

set_option maxRecDepth 100000 in
theorem keysA_any (mb : Option Nat) (w : World) : Calls Try.prog 38 #[.map mb] w fun e w' => e = .returned (.func (.func 50) #[] #[.pointer (some ⟨w.heap.size, 0, none⟩)]) ∧ w' = w.alloc (.cells #[.map mb] 63) := by
  go_enter Try.func38, Try.ntmps38
  go_wp2
  go_ret
  exact ⟨rfl, rfl⟩
end Go.Proofs.Ytjopdejgijojmaa
