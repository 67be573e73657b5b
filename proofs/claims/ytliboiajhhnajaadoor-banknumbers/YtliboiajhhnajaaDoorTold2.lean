/- Where, Path and 'told' of one fault around a code, by their contracts. -/
import Derived.Test.YtliboiajhhnajaaDoorTold
namespace Go.Proofs.YtliboiajhhnajaaDoor
open Go.RowKit Go.Extern.Stop Go.Stop Go.Extern

theorem infoStr : (Tryd.prog.info? 9).map (fun i => (i.zero, i.size, i.bytes)) = some (some (.string ⟨#[]⟩), 1, 16) := by kernel_rfl
theorem append_str (w : World) (B : Nat) (hB : B ≤ w.heap.size) (op : ByteArray) :
    ∃ v' w', (Builtin.append_ #[43, 43] 43 #[.slice none 0 0, .slice (some ⟨w.heap.size, 0, none⟩) 1 1]).run Tryd.prog (w.alloc (.cells #[.string op] 9)) = .ok v' w' ∧ w'.ownsRow B 9 1 v' 1 [.string op] ∧ Below B w w' ∧ ∃ ao n c, v' = .slice ao n c := by
  obtain ⟨i0, hi, hz0, hz1, hz2⟩ := info_parts infoStr
  obtain ⟨v', w', hr, ho, hg, -, hat⟩ := run_append_own_at (P := Tryd.prog) (w.alloc (.cells #[.string op] 9)) B 43 43 9 i0 (.string ⟨#[]⟩) 1 16 Tryd.underlying43 hi hz0 hz1 hz2 rfl (by decide) (.slice none 0 0) 0 [] (World.ownsRow_nil _ _ _ _) ⟨w.heap.size, 0, none⟩ 1 1 [.string op] (by simp)
    (fun j u hj => by
      match j, hj with
      | 0, hj =>
        obtain rfl : Value.string op = u := by simpa using hj
        rw [Addr.add_mid, cell_of_row _ _ _ _ _ _ (heap_alloc_new w _)]; rfl) (by simp [Value.oneCell']) (by unfold maxLen; omega) (by omega) (by simp; omega)
  obtain ⟨ao', cap', hf⟩ := ownsRow_form ho
  refine ⟨v', w', hr, ho, ((Below.refl B w).alloc hB _).grown hg (by simp; omega) (fun k hk => by simp [Value.ownBlock] at hk), ⟨_, _, _, hf⟩⟩
theorem wpList_appendT {w w' : World} {ops : Array Oper} {rest : List Oper} {o : Oper} {a : Act} {Q : Exit → Act → World → Prop} {x y : Operand} {v xv yv : Value} (hgd : o.guard = none) (ho : o.op = .call { callee := .builtin .append, args := #[x, y], argTypes := #[43, 43] })
    (hr : (Builtin.append_ #[43, 43] 43 #[xv, yv]).run Tryd.prog w = .ok v w') (hty : o.type = 43) (hx : a.eval x = xv) (hy : a.eval y = yv)
    (h : wpList Tryd.prog ops Q rest (a.put o.dst v) w') : wpList Tryd.prog ops Q (o :: rest) a w :=
  wpList_exec hgd (exec_append ho (by rw [hty]; exact hr) hx hy) h
theorem where1_any (b : Nat) (op : ByteArray) (d p c : Int) (w : World) (h : w.heap[b]? = some (.cells #[.string op, .int .i64 d, .int .i64 p, .iface 46 (.int .i64 c)] 50 (0, 0))) (hL : Laid w) :
    Calls Tryd.prog 12 #[.iface 48 (.pointer (some ⟨b, 0, none⟩))] w fun ev w' => ev = .returned (.tuple #[.int .i64 d, .int .i64 p, .bool true]) ∧ Below w.heap.size w w' := by
  have HA := hide (first_fault ⟨b, 0, none⟩ w hL)
  have HC := hide (four_cell h)
  clear h hL
  go_enter Tryd.func12, Tryd.ntmps12
  go_wp2_with fail
  refine HA.out.mono ?_
  rintro ev w1 ⟨rfl, hb1⟩
  have HW := hide (where_some b d p w1 (by rw [hb1.cell (cell_lt HC.out.2.1)]; exact HC.out.2.1) (by rw [hb1.cell (cell_lt HC.out.2.2.1)]; exact HC.out.2.2.1))
  have HB := hide hb1
  clear hb1
  go_wp2_with fail
  refine HW.out.mono ?_
  rintro ev w2 ⟨rfl, hb2⟩
  have HB2 := hide hb2
  clear hb2
  go_wp2
  go_ret3
  exact ⟨rfl, HB.out.trans (HB2.out.mono HB.out.size)⟩

set_option maxRecDepth 100000 in
set_option maxHeartbeats 1000000 in
theorem path1_any (b : Nat) (op : ByteArray) (d p c : Int) (w : World) (h : w.heap[b]? = some (.cells #[.string op, .int .i64 d, .int .i64 p, .iface 46 (.int .i64 c)] 50 (0, 0))) (hL : Laid w) :
    Calls Tryd.prog 13 #[.iface 48 (.pointer (some ⟨b, 0, none⟩))] w fun ev w' => ∃ v, ev = .returned v ∧ w'.ownsRow w.heap.size 9 1 v 1 [.string op] ∧ Below w.heap.size w w' := by
  have HA := hide (first_fault ⟨b, 0, none⟩ w hL)
  have HC := hide (four_cell h)
  have HL := hide hL
  clear h hL
  go_enter Tryd.func13, Tryd.ntmps13
  go_wp2_with fail
  refine HA.out.mono ?_
  rintro ev w1 ⟨rfl, hb1⟩
  have HB := hide hb1
  clear hb1
  go_wp2
  go_loopg [3, 4] 1 (fun gk n q wr => Below w.heap.size w wr ∧ ((gk = 1 ∧ n = .slice none 0 0 ∧ q = .pointer (some ⟨b, 0, none⟩)) ∨ (gk = 0 ∧ q = .pointer none ∧ wr.ownsRow w.heap.size 9 1 n 1 [.string op])))
  case atStart => exact ⟨HB.out, .inl ⟨rfl, rfl, rfl⟩⟩
  case round =>
    clear HB HA
    obtain ⟨hb, ⟨rfl, rfl, rfl⟩ | ⟨rfl, rfl, hown⟩⟩ := hrel
    · have HBr := hide hb
      have g0 : wr.cell? ⟨b, 0, none⟩ = some (.string op) := by rw [hb.cell (cell_lt HC.out.1)]; exact HC.out.1
      obtain ⟨v2, w2, hr2, hown2, hbb, ⟨ao2, n2, c2, rfl⟩⟩ := append_str wr w.heap.size hb.size op
      have hb2 := hb.trans hbb
      have HB2 := hide hb2
      have HO2 := hide hown2
      clear hb hbb hown2
      have g3 : w2.cell? ⟨b, 3, none⟩ = some (.iface 46 (.int .i64 c)) := by rw [hb2.cell (cell_lt HC.out.2.2.2)]; exact HC.out.2.2.2
      have HF := hide (first_code c w2 (by have := HL.out; unfold Laid at *; rw [hb2.cell (cell_lt this)]; exact this))
      clear hb2
      go_wp2_with (first | ((with_reducible refine wpList_appendT rfl rfl hr2 ?_ ?_ ?_ ?_); rfl; rfl; rfl))
      refine HF.out.mono ?_
      rintro ev w3 ⟨rfl, hb3⟩
      have HB3 := hide hb3
      clear hb3 HF g3
      go_wp2
      go_roundg 0
      case measure => omega
      case rel => exact ⟨HB2.out.trans (HB3.out.mono HB2.out.size), .inr ⟨rfl, rfl, ownsRow_of_block HO2.out (fun k o _ ho => by rw [HB3.out.block k (heap_lt ho)]; exact ho)⟩⟩
    · have HBr := hide hb
      have HO := hide hown
      obtain ⟨ao, cap, rfl⟩ := ownsRow_form hown
      clear hb hown
      go_wp2
      go_ret
      exact ⟨_, rfl, HO.out, HBr.out⟩

theorem eqlStr (s : ByteArray) (w : World) : (binOp .eql 9 (.string s) (.string s)).run Tryd.prog w = .ok (.bool true) w := by
  simp [binOp, Op.stringOp]
set_option maxRecDepth 100000 in
set_option maxHeartbeats 1000000 in
theorem told_any {w : World} {e : Value} {c : Int} {op : ByteArray} {d p : Int} (h : FErr w e c op d p) (hL : Laid w) :
    Calls Tryd.prog 7 #[e, .int .i64 c, .string op, .int .i64 d, .int .i64 p] w fun ev w' => ev = .returned (.bool true) ∧ Below w.heap.size w w' := by
  by_cases hc : c = 0
  · subst hc
    obtain rfl := h.zero
    clear h hL
    go_enter Tryd.func7, Tryd.ntmps7
    go_wp2
    go_ret
    exact ⟨rfl, Below.refl _ _⟩
  · have hcb : (c == 0) = false := by simpa using hc
    have HE := hide h
    obtain ⟨b, rfl, hb⟩ := h.at_ hc
    have HB := hide hb
    have HL := hide hL
    have HC := hide hc
    have HW := hide (where1_any b op d p c w hb hL)
    have k1 : (d == d) = true := by simp
    have k2 : (p == p) = true := by simp
    have k3 := eqlStr op
    clear h hL hb hc
    go_enter Tryd.func7, Tryd.ntmps7
    go_wp2_with fail
    refine HW.out.mono ?_
    rintro ev w1 ⟨rfl, hb1⟩
    have HB1 := hide hb1
    have HP := hide (path1_any b op d p c w1 (by rw [hb1.block b (heap_lt HB.out)]; exact HB.out) (HL.out.below hb1))
    clear hb1 HW
    go_wp2_with fail
    refine HP.out.mono ?_
    rintro ev w2 ⟨v, rfl, hv, hb2⟩
    have HB2 := hide (HB1.out.trans (hb2.mono HB1.out.size))
    have HIS := hide (errorsIsF_any c _ op d p w2 HC.out (HE.out.below HB2.out))
    obtain ⟨g, cap, cur, rfl, -⟩ := ownsRow_pos hv (by omega)
    have c0 : w2.cell? ⟨g, 0, none⟩ = some (.string op) := row_cell hv (j := 0) rfl
    clear hv hb2 HP HE HC
    go_wp2_with fail
    refine HIS.out.mono ?_
    rintro ev w' ⟨rfl, hww⟩
    obtain rfl : w2 = w' := hww.symm
    clear HIS
    go_wp2
    go_ret
    exact ⟨rfl, HB2.out⟩
end Go.Proofs.YtliboiajhhnajaaDoor
