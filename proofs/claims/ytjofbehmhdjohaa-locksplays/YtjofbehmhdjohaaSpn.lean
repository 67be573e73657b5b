/- Spans: which are right, which meet, which clash. -/
import Derived.Test.YtjofbehmhdjohaaSl
namespace Go.Proofs.Ytjofbehmhdjohaa
open Go.RowKit Go.Extern

/-- A span. -/
structure S where
  vol : Int
  frm : Int
  len : Int
  wr : Bool
def spV (s : S) : Value := .agg #[.int .i64 s.vol, .int .i64 s.frm, .int .i64 s.len, .bool s.wr]
def sOk (s : S) : Prop := I64 s.vol ∧ I64 s.frm ∧ I64 s.len
def rightB (s : S) : Bool := decide (0 ≤ s.vol) && (decide (0 ≤ s.frm) && (decide (0 ≤ s.len) && decide (s.len ≤ 1073741824)))
theorem rightB_iff {s : S} : rightB s = true ↔ 0 ≤ s.vol ∧ 0 ≤ s.frm ∧ 0 ≤ s.len ∧ s.len ≤ 1073741824 := by simp [rightB]
/-- Two spans have a block in common. -/
def meetsB (s o : S) : Bool :=
  if s.vol = 0 ∨ o.vol = 0 then true else if s.vol ≠ o.vol then false else if s.len = 0 ∨ o.len = 0 then true else
    if s.frm ≤ o.frm then decide (o.frm - s.frm < s.len) else decide (s.frm - o.frm < o.len)
def clashB (s o : S) : Bool := rightB s && rightB o && (s.wr || o.wr) && meetsB s o
theorem meetsB_comm {s o : S} (hs : rightB s = true) (ho : rightB o = true) : meetsB s o = meetsB o s := by
  obtain ⟨-, -, s3, -⟩ := rightB_iff.1 hs
  obtain ⟨-, -, o3, -⟩ := rightB_iff.1 ho
  clear hs ho
  unfold meetsB
  by_cases h1 : s.vol = 0 <;> by_cases h2 : o.vol = 0 <;> by_cases h3 : s.vol = o.vol <;> by_cases h4 : s.len = 0 <;> by_cases h5 : o.len = 0 <;> by_cases h6 : s.frm ≤ o.frm <;> by_cases h7 : o.frm ≤ s.frm <;> simp_all <;> omega
theorem clashB_comm (s o : S) : clashB s o = clashB o s := by
  unfold clashB
  cases hs : rightB s
  · simp
  · cases ho : rightB o
    · simp
    · rw [meetsB_comm hs ho, Bool.or_comm s.wr]
set_option maxRecDepth 100000 in
theorem isRight_any (s : S) (w : World) :
    Calls Try.prog 29 #[spV s] w fun e w' => e = .returned (.bool (rightB s)) ∧ Below w.heap.size w w' := by
  obtain ⟨a, b, c, d⟩ := s
  unfold spV rightB
  go_enter Try.func29, Try.ntmps29
  go_wp2
  all_goals go_ret
  all_goals refine ⟨?_, (Below.refl _ _).alloc (Nat.le_refl _) _⟩
  all_goals first | rfl | (simp_all <;> omega)
set_option maxRecDepth 100000 in
theorem rright_any (s : S) (w : World) :
    Calls Try.prog 15 #[spV s] w fun e w' => e = .returned (.bool (rightB s)) ∧ Below w.heap.size w w' := by
  obtain ⟨a, b, c, d⟩ := s
  unfold spV rightB
  go_enter Try.func15, Try.ntmps15
  go_wp2
  all_goals go_ret
  all_goals refine ⟨?_, (Below.refl _ _).alloc (Nat.le_refl _) _⟩
  all_goals first | rfl | (simp_all <;> omega)

set_option maxRecDepth 100000 in
set_option maxHeartbeats 1000000 in
theorem meets_any {s o : S} (hs : rightB s = true) (ho : rightB o = true) (hso : sOk s) (hoo : sOk o) (w : World) :
    Calls Try.prog 30 #[spV s, spV o] w fun e w' => e = .returned (.bool (meetsB s o)) ∧ Below w.heap.size w w' := by
  have HS := hide (rightB_iff.1 hs)
  have HO := hide (rightB_iff.1 ho)
  have KS := hide hso
  have KO := hide hoo
  have HB : Hid (Below w.heap.size w ((w.alloc (.cells #[.int .i64 s.vol, .int .i64 s.frm, .int .i64 s.len, .bool s.wr] 24)).alloc (.cells #[.int .i64 o.vol, .int .i64 o.frm, .int .i64 o.len, .bool o.wr] 24))) := ((Below.refl _ _).alloc (Nat.le_refl _) _).alloc (by simp) _
  clear hs ho hso hoo
  obtain ⟨a, b, c, d⟩ := s
  obtain ⟨a2, b2, c2, d2⟩ := o
  unfold spV meetsB
  simp only at HS HO KS KO HB ⊢
  by_cases h1 : a = 0
  · have e1 : (a == 0) = true := by simp [h1]
    rw [if_pos (.inl h1)]
    clear h1
    go_enter Try.func30, Try.ntmps30
    go_wp2
    go_ret
    exact ⟨rfl, HB.out⟩
  have e1 : (a == 0) = false := by simp [h1]
  by_cases h2 : a2 = 0
  · have e2 : (a2 == 0) = true := by simp [h2]
    rw [if_pos (.inr h2)]
    clear h1 h2
    go_enter Try.func30, Try.ntmps30
    go_wp2
    go_ret
    exact ⟨rfl, HB.out⟩
  have e2 : (a2 == 0) = false := by simp [h2]
  rw [if_neg (by omega)]
  clear h1 h2
  by_cases h3 : a ≠ a2
  · have e3 : (a != a2) = true := by simpa using h3
    rw [if_pos h3]
    clear h3
    go_enter Try.func30, Try.ntmps30
    go_wp2
    go_ret
    exact ⟨rfl, HB.out⟩
  have e3 : (a != a2) = false := by simpa using h3
  rw [if_neg (by omega)]
  clear h3
  by_cases h4 : c = 0
  · have e4 : (c == 0) = true := by simp [h4]
    rw [if_pos (.inl h4)]
    clear h4
    go_enter Try.func30, Try.ntmps30
    go_wp2
    go_ret
    exact ⟨rfl, HB.out⟩
  have e4 : (c == 0) = false := by simp [h4]
  by_cases h5 : c2 = 0
  · have e5 : (c2 == 0) = true := by simp [h5]
    rw [if_pos (.inr h5)]
    clear h4 h5
    go_enter Try.func30, Try.ntmps30
    go_wp2
    go_ret
    exact ⟨rfl, HB.out⟩
  have e5 : (c2 == 0) = false := by simp [h5]
  rw [if_neg (by omega)]
  clear h4 h5
  by_cases h6 : b ≤ b2
  · rw [if_pos h6]
    have e6 : IntKind.i64.wrap (b2 - b) = b2 - b := IntWalk.i64_in _ ⟨by have := HS.out; have := HO.out; omega, by have := HS.out; have := HO.out; have k : I64 b2 := KO.out.2.1; unfold I64 at k; omega⟩
    go_enter Try.func30, Try.ntmps30
    go_wp2
    go_ret
    exact ⟨rfl, HB.out⟩
  · rw [if_neg h6]
    have e6 : IntKind.i64.wrap (b - b2) = b - b2 := IntWalk.i64_in _ ⟨by have := HS.out; have := HO.out; omega, by have := HS.out; have := HO.out; have k : I64 b := KS.out.2.1; unfold I64 at k; omega⟩
    go_enter Try.func30, Try.ntmps30
    go_wp2
    go_ret
    exact ⟨rfl, HB.out⟩

theorem enterIsRight (args : Array Value) (w : World) : (callFunc 29 args).run Try.prog w = .ok (.enter 29 args) w := by kernel_rfl
theorem nextB {w w1 w2 : World} (h : Below w.heap.size w w1) (h2 : Below w1.heap.size w1 w2) : Below w.heap.size w w2 := h.trans (h2.mono h.size)
theorem bel_alloc (w : World) (o : Obj) : Below w.heap.size w (w.alloc o) := (Below.refl _ _).alloc (Nat.le_refl _) _
theorem cell_bel {w w' : World} {a : Addr} {v : Value} (hb : Below w.heap.size w w') (h : w.cell? a = some v) : w'.cell? a = some v := by rw [hb.cell (cell_lt h)]; exact h
theorem row_cell {w : World} {g : Nat} {cs : Array Value} {T : TypeId} (h : w.heap[g]? = some (.cells cs T (0, 0))) (i : Nat) : w.cell? ⟨g, i, none⟩ = cs[i]? := cell_of_row _ _ _ _ _ _ h
theorem blk_below {w w' : World} (hb : Below w.heap.size w w') {k : Nat} {o : Obj} (h : w.heap[k]? = some o) : w'.heap[k]? = some o := by rw [hb.block k (heap_lt h)]; exact h
/-- A span in a block of its own. -/
def BoxS (T : TypeId) (w : World) (b : Nat) (s : S) : Prop := w.heap[b]? = some (.cells #[.int .i64 s.vol, .int .i64 s.frm, .int .i64 s.len, .bool s.wr] T (0, 0))
theorem BoxS.below {T : TypeId} {w w' : World} {b : Nat} {s : S} (h : BoxS T w b s) (hb : Below w.heap.size w w') : BoxS T w' b s := blk_below hb h
theorem BoxS.new (w : World) (s : S) (T : TypeId) : BoxS T (w.alloc (.cells #[.int .i64 s.vol, .int .i64 s.frm, .int .i64 s.len, .bool s.wr] T)) w.heap.size s := heap_alloc_new _ _
theorem BoxS.cells {T : TypeId} {w : World} {b : Nat} {s : S} (h : BoxS T w b s) : w.cell? ⟨b, 0, none⟩ = some (.int .i64 s.vol) ∧ w.cell? ⟨b, 1, none⟩ = some (.int .i64 s.frm) ∧ w.cell? ⟨b, 2, none⟩ = some (.int .i64 s.len) ∧ w.cell? ⟨b, 3, none⟩ = some (.bool s.wr) :=
  ⟨row_cell h 0, row_cell h 1, row_cell h 2, row_cell h 3⟩

set_option maxRecDepth 100000 in
set_option maxHeartbeats 1000000 in
theorem clash_any {s o : S} (hso : sOk s) (hoo : sOk o) (w : World) :
    Calls Try.prog 9 #[spV s, spV o] w fun e w' => e = .returned (.bool (clashB s o)) ∧ Below w.heap.size w w' := by
  have KS := hide hso
  have KO := hide hoo
  have HA := bel_alloc w (.cells #[.int .i64 s.vol, .int .i64 s.frm, .int .i64 s.len, .bool s.wr] 24)
  have HA2 := bel_alloc (w.alloc (.cells #[.int .i64 s.vol, .int .i64 s.frm, .int .i64 s.len, .bool s.wr] 24)) (.cells #[.int .i64 o.vol, .int .i64 o.frm, .int .i64 o.len, .bool o.wr] 24)
  have HX := hide ((BoxS.new w s 24).below HA2)
  have HY := hide (BoxS.new (w.alloc (.cells #[.int .i64 s.vol, .int .i64 s.frm, .int .i64 s.len, .bool s.wr] 24)) o 24)
  have HB := hide (nextB HA HA2)
  simp only [World.size_alloc] at HY
  clear HA HA2 hso hoo
  obtain ⟨a, b, c, d⟩ := s
  obtain ⟨a2, b2, c2, d2⟩ := o
  simp only at KS KO HB HX HY
  unfold spV
  go_enter Try.func9, Try.ntmps9
  go_wp2_with fail
  refine (isRight_any ⟨a, b, c, d⟩ _).mono ?_
  rintro e w1 ⟨rfl, hb1⟩
  have HB1 := hide (nextB HB.out hb1)
  have HX1 := hide (HX.out.below hb1)
  have HY1 := hide (HY.out.below hb1)
  clear hb1 HB HX HY
  cases h1 : rightB ⟨a, b, c, d⟩ with
  | false =>
    have H1 := hide h1
    clear h1
    go_wp2_with fail
    go_ret
    exact ⟨by simp [clashB, H1.out], HB1.out⟩
  | true =>
    have H1 := hide h1
    clear h1
    obtain ⟨y0, y1, y2, y3⟩ := HY1.out.cells
    simp only at y0 y1 y2 y3
    go_wp2_with fail
    clear y0 y1 y2 y3
    refine (isRight_any ⟨a2, b2, c2, d2⟩ _).mono ?_
    rintro e w2 ⟨rfl, hb2⟩
    have HB2 := hide (nextB HB1.out hb2)
    obtain ⟨x0, x1, x2, x3⟩ := (HX1.out.below hb2).cells
    obtain ⟨y0, y1, y2, y3⟩ := (HY1.out.below hb2).cells
    simp only at x0 x1 x2 x3 y0 y1 y2 y3
    clear hb2 HB1 HX1 HY1
    cases h2 : rightB ⟨a2, b2, c2, d2⟩ with
    | false =>
      have H2 := hide h2
      clear h2
      go_wp2_with fail
      go_ret
      exact ⟨by simp [clashB, H2.out], HB2.out⟩
    | true =>
      have H2 := hide h2
      clear h2
      have hM := meets_any H1.out H2.out KS.out KO.out w2
      cases d with
      | true =>
        go_wp2_with fail
        refine hM.mono ?_
        rintro e w3 ⟨rfl, hb3⟩
        have HB3 := hide (nextB HB2.out hb3)
        clear hb3
        go_wp2_with fail
        go_ret
        exact ⟨by simp [clashB, H1.out, H2.out], HB3.out⟩
      | false =>
        cases d2 with
        | true =>
          go_wp2_with fail
          refine hM.mono ?_
          rintro e w3 ⟨rfl, hb3⟩
          have HB3 := hide (nextB HB2.out hb3)
          clear hb3
          go_wp2_with fail
          go_ret
          exact ⟨by simp [clashB, H1.out, H2.out], HB3.out⟩
        | false =>
          clear hM
          go_wp2_with fail
          go_ret
          exact ⟨by simp [clashB], HB2.out⟩
end Go.Proofs.Ytjofbehmhdjohaa
