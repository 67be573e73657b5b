import Derived.Test.YtliboiajhhnajaaGreatDoorM05
import Derived.Test.YtliboiajhhnajaaGreatDoorM06
import Derived.Laws.CopyOwn
import Derived.Deep.RegionHeld3
/- Write by its contract. -/
namespace Go.Proofs.YtliboiajhhnajaaGreatDoor
open Go.RowKit Go.Extern

theorem wpList_copy_con {w : World} {ops : Array Oper} {rest : List Oper} {o : Oper} {a : Act} {Q : Exit → Act → World → Prop} (hgd : o.guard = none) (d s : Operand)
    (ho : o.op = .call { callee := .builtin .copy, args := #[d, s], argTypes := #[28, 28] })
    (g : Nat) (dv : Value) (sv : Value) (hd : a.eval d = dv) (hs : a.eval s = sv) (hdv : dv = .slice (some ⟨g, 0, none⟩) 128 128) (c : List Nat) (hb : Bytes w sv c) (hc : Con c)
    (hg : w.heap[g]? = some (.cells (conC zeros) 112 (0, 0))) (B : Nat) (w0 : World) (hbw : Below B w0 w) (hBg : B ≤ g)
    (h : ∀ w', w'.heap[g]? = some (.cells (conC c) 112 (0, 0)) → Below B w0 w' → wpList Tryz.prog ops Q rest (a.put o.dst (goInt 128)) w') :
    wpList Tryz.prog ops Q (o :: rest) a w := by
  obtain ⟨ao, cap, g2, off2, rfl, h2, h3, -⟩ := hb
  subst hdv
  have hl : (cellsB c).length = 128 := by rw [cellsB_length, hc.1]
  refine wpList_copy_splice hgd d s 28 28 ho 5 Tryz.underlying28 (by kernel_rfl) (some ⟨g, 0, none⟩) ao 128 128 c.length cap hd hs g 0 (cellsB zeros) 112 hg (cellsB c) ?_ ?_ ?_ ?_ B w0 hbw hBg ?_
  · rw [hl, hc.1]; rfl
  · intro hp
    refine ⟨rfl, ⟨g2, off2, none⟩, h2 (by rw [hc.1]; decide), fun j u hu => ?_⟩
    obtain ⟨b, hb1, rfl⟩ := cellsB_at hu
    rw [Addr.add_mid]; exact h3 j b hb1
  · rw [hl, cellsB_length, zeros_con.1]; decide
  · exact cellsB_one c
  · intro w' hw' hb'
    rw [hl]
    refine h w' ?_ hb'
    have hw2 := hw'.out
    have e : splice (cellsB zeros) 0 (cellsB c) = cellsB c := by
      unfold splice
      rw [hl, List.take_zero, List.nil_append, List.drop_of_length_le (by rw [cellsB_length, zeros_con.1]; decide), List.append_nil]
    rw [e] at hw2
    exact hw2

def wErr (S : List Sec) (i : Int) (d : List Nat) : Int := if hasB S i then (if d.length = 128 then 0 else 11) else 20
def wSet (S : List Sec) (i : Int) (d : List Nat) : List Sec := if hasB S i ∧ d.length = 128 then (match S[i.toNat]? with | some s => S.set i.toNat { s with wait := s.wait ++ [d] } | none => S) else S

set_option maxRecDepth 100000 in
set_option maxHeartbeats 1000000 in
theorem write_yes {w : World} {F : Nat → Prop} {b : Nat} {S : List Sec} (h : Dk w F b S) (k : Nat) (s : Sec) (hs : S[k]? = some s) (hww : s.wait.length < 1000000) (dv : Value) (d : List Nat) (hd : Bytes w dv d) (hlen : d.length = 128) :
    Calls Tryz.prog 52 #[.pointer (some ⟨b, 0, none⟩), .int .i64 (k : Int), dv] w (Turned F b (S.set k { s with wait := s.wait ++ [d] }) 0 w) := by
  have HH := hide (has_any h (k : Int))
  have hk := (List.getElem?_eq_some_iff.1 hs).1
  rw [show hasB S (k : Int) = true by simp [hasB, hk]] at HH
  have hcon : Con d := ⟨hlen, hd.lt⟩
  have HD := hide hd
  obtain ⟨ao, cap, g0, off0, rfl, -⟩ := hd
  obtain ⟨v, mb, D, h⟩ := h
  have c1 := two_cell1 h.blk
  have hbs := heap_lt h.blk
  have hI : I64 (k : Int) := I64.nat (by have := h.good.1; omega)
  have HDK := hide h
  have HWW := hide hww
  have HI := hide hI
  have hne : ((128 : Int) != 128) = false := by simp
  have HAL : Hid (Below w.heap.size w (w.alloc (.cells Tryz.zeroCells112 112))) := (Below.refl _ _).alloc (Nat.le_refl _) _
  have HNEW : Hid ((w.alloc (.cells Tryz.zeroCells112 112)).heap[w.heap.size]? = some (.cells (conC zeros) 112 (0, 0))) := by rw [← zeroC]; exact heap_alloc_new w _
  have HS := hide hs
  have HC := hide hcon
  rw [hlen] at *
  clear h hs hcon hww hk hI
  go_enter Tryz.func52, Tryz.ntmps52
  go_wp2_with (first | (go_at_call 72; refine HH.out.mono ?_; rintro e w' ⟨rfl, hww⟩; obtain rfl : w = w' := hww.symm) | ((with_reducible refine wpList_copy_con rfl _ _ rfl w.heap.size (.slice (some ⟨w.heap.size, 0, none⟩) 128 128) (.slice ao 128 cap) ?_ ?_ rfl d (HD.out.below HAL.out) HC.out HNEW.out w.heap.size w HAL.out (Nat.le_refl _) ?_); rfl; rfl))
  intro w1 hg1 hb1
  have HG1 := hide hg1
  have HB1 := hide hb1
  clear hg1 hb1
  go_wp2_with fail
  have c1' : w1.cell? ⟨b, 1, none⟩ = some (.map (some mb)) := by rw [HB1.out.cell (p := ⟨b, 1, none⟩) hbs]; exact c1
  have hb2 : Below w.heap.size w (w1.drew.alloc (.cells (conC d) 112)) := HB1.out.drew.alloc HB1.out.size _
  obtain ⟨v', w3, w4, hr3, hr4, hdk, htn, hstay⟩ := write_core HDK.out HS.out HWW.out HC.out hb2 (heap_alloc_new w1.drew _)
  have h2 := HDK.out.below hb2
  have hbm : b ≠ mb := fun e => by
    obtain ⟨es, clock, hb, -⟩ := h2.map
    have := h2.blk
    rw [e, hb] at this; cases this
  have hbV : (valAt D (k : Int)).ownBlock ≠ some b := fun e => by
    rcases (h2.rows _ HI.out).2 with ⟨hv, -⟩ | ⟨g', cap', cur', hv, -, hh, -⟩
    · rw [hv] at e; simp [Value.ownBlock] at e
    · rw [hv] at e
      simp only [Value.ownBlock, Option.some.injEq] at e
      subst e
      have := h2.blk
      rw [hh] at this
      simp at this
  have hcm : w.heap.size ≠ mb := fun e => by have := HDK.out.map.lt; omega
  have hcV : (valAt D (k : Int)).ownBlock ≠ some w.heap.size := fun e => by have := ((HDK.out.rows _ HI.out).lt _ e).2; omega
  have hc2 : (w1.drew.alloc (.cells (conC d) 112)).heap[w.heap.size]? = some (.cells (conC d) 112 (0, 0)) := heap_alloc_keep (w := w1.drew) HG1.out _
  have hl1 := (look_at (HDK.out.below HB1.out.drew).map HI.out).1
  have hl2 := (look_at h2.map HI.out).1
  have hx3 := (hstay b _ hbm hbV h2.blk)
  have hy3 := (hstay w.heap.size _ hcm hcV hc2)
  refine wp_region_held_drew (S := fun wx => wx.cell? ⟨b, 1, none⟩ = some (.map (some mb)) ∧ wx.heap[w.heap.size]? = some (.cells (conC d) 112 (0, 0))) (by kernel_rfl) ⟨c1', HG1.out⟩ (fun hS => ?_)
  refine take_run 0 (some 20) (.pointer (some ⟨b, 0, none⟩)) rfl rfl rfl (by kernel_rfl) (by kernel_rfl) (by kernel_rfl) (fun _ _ _ h => h) (fun wx hx => exec_move rfl rfl) hS ?_
  simp only [Act.put, List.setIfInBounds_toArray, List.set_cons_zero, List.set_cons_succ]
  refine take_run 1 (some 21) (.pointer (some ⟨b, 0, none⟩)) rfl rfl rfl (by kernel_rfl) (by kernel_rfl) (by kernel_rfl) (fun _ _ _ h => h) (fun wx hx => exec_nilCheck rfl rfl) hS ?_
  simp only [Act.put, List.setIfInBounds_toArray, List.set_cons_zero, List.set_cons_succ]
  refine take_run 2 (some 22) (.pointer (some ⟨b, 1, none⟩)) rfl rfl rfl (by kernel_rfl) (by kernel_rfl) (by kernel_rfl) (fun _ _ _ h => h) (fun wx hx => exec_field rfl (field1 b wx) rfl) hS ?_
  simp only [Act.put, List.setIfInBounds_toArray, List.set_cons_zero, List.set_cons_succ]
  refine take_run 3 (some 23) (.map (some mb)) rfl rfl rfl (by kernel_rfl) (by kernel_rfl) (by kernel_rfl) (fun _ _ _ h => h) (fun wx hx => exec_load rfl (load_map hx.1) rfl) hS ?_
  simp only [Act.put, List.setIfInBounds_toArray, List.set_cons_zero, List.set_cons_succ]
  refine take_run 4 (some 24) (.int .i64 (k : Int)) rfl rfl rfl (by kernel_rfl) (by kernel_rfl) (by kernel_rfl) (fun _ _ _ h => h) (fun wx hx => exec_move rfl rfl) hS ?_
  simp only [Act.put, List.setIfInBounds_toArray, List.set_cons_zero, List.set_cons_succ]
  refine take_run 5 (some 25) (.pointer (some ⟨b, 0, none⟩)) rfl rfl rfl (by kernel_rfl) (by kernel_rfl) (by kernel_rfl) (fun _ _ _ h => h) (fun wx hx => exec_move rfl rfl) hS ?_
  simp only [Act.put, List.setIfInBounds_toArray, List.set_cons_zero, List.set_cons_succ]
  refine take_run 6 (some 26) (.pointer (some ⟨b, 0, none⟩)) rfl rfl rfl (by kernel_rfl) (by kernel_rfl) (by kernel_rfl) (fun _ _ _ h => h) (fun wx hx => exec_nilCheck rfl rfl) hS ?_
  simp only [Act.put, List.setIfInBounds_toArray, List.set_cons_zero, List.set_cons_succ]
  refine take_run 7 (some 27) (.pointer (some ⟨b, 1, none⟩)) rfl rfl rfl (by kernel_rfl) (by kernel_rfl) (by kernel_rfl) (fun _ _ _ h => h) (fun wx hx => exec_field rfl (field1 b wx) rfl) hS ?_
  simp only [Act.put, List.setIfInBounds_toArray, List.set_cons_zero, List.set_cons_succ]
  refine take_run 8 (some 28) (.map (some mb)) rfl rfl rfl (by kernel_rfl) (by kernel_rfl) (by kernel_rfl) (fun _ _ _ h => h) (fun wx hx => exec_load rfl (load_map hx.1) rfl) hS ?_
  simp only [Act.put, List.setIfInBounds_toArray, List.set_cons_zero, List.set_cons_succ]
  refine take_run 9 (some 29) (.int .i64 (k : Int)) rfl rfl rfl (by kernel_rfl) (by kernel_rfl) (by kernel_rfl) (fun _ _ _ h => h) (fun wx hx => exec_move rfl rfl) hS ?_
  simp only [Act.put, List.setIfInBounds_toArray, List.set_cons_zero, List.set_cons_succ]
  refine take_run 11 (some 31) (conV d) rfl rfl rfl (by kernel_rfl) (by kernel_rfl) (by kernel_rfl) (fun _ _ _ h => h) (fun wx hx => exec_load rfl (run_loadC HC.out hx.2) rfl) hS ?_
  simp only [Act.put, List.setIfInBounds_toArray, List.set_cons_zero, List.set_cons_succ]
  refine both_value 10 12 (some 30) (some 32) rfl rfl rfl rfl rfl rfl (by kernel_rfl) (by kernel_rfl) (by kernel_rfl) (vi := valAt D (k : Int)) (vj := .slice (some ⟨w1.heap.size, 0, none⟩) 1 1) (w' := w1.drew.alloc (.cells (conC d) 112))
    ?_ ?_ hS ⟨two_cell1 h2.blk, hc2⟩ rfl rfl ?_
  · rintro a' (rfl | rfl) wx (rfl | rfl)
    · exact exec_lookup rfl hl1 rfl rfl
    · exact exec_lookup rfl hl2 rfl rfl
    · exact exec_lookup rfl hl1 rfl rfl
    · exact exec_lookup rfl hl2 rfl rfl
  · rintro a' (rfl | rfl)
    · exact exec_one rfl (run_one w1.drew d HC.out) rfl
    · exact exec_one rfl (run_one w1.drew d HC.out) rfl
  simp only [Act.put, List.setIfInBounds_toArray, List.set_cons_zero, List.set_cons_succ]
  refine only_value 13 (some 33) rfl rfl rfl (by kernel_rfl) (exec_append rfl hr3 rfl rfl) ⟨two_cell1 hx3.1, hy3.1⟩ ?_
  simp only [Act.put, List.setIfInBounds_toArray, List.set_cons_zero, List.set_cons_succ]
  refine only_skip 14 none rfl rfl rfl (by kernel_rfl) (exec_update rfl hr4 rfl rfl rfl) ⟨two_cell1 hx3.2, hy3.2⟩ ?_
  refine wpAnyH_done (by kernel_rfl) ?_ _
  have HFIN : Hid (Turned F b (S.set k { s with wait := s.wait ++ [d] }) 0 w (.returned (errV 0)) w4) := ⟨rfl, hdk, htn⟩
  clear hb2 hr3 hr4 hdk htn hstay h2 hbm hbV hcm hcV hc2 hl1 hl2 hx3 hy3 hS
  go_wp2_with fail
  go_ret
  exact HFIN.out

theorem wSet_no {S : List Sec} {i : Int} {d : List Nat} (h : ¬ (hasB S i = true ∧ d.length = 128)) : wSet S i d = S := by unfold wSet; rw [if_neg h]

set_option maxRecDepth 100000 in
theorem write_any {w : World} {F : Nat → Prop} {b : Nat} {S : List Sec} (h : Dk w F b S) (i : Int) (dv : Value) (d : List Nat) (hd : Bytes w dv d) (hww : ∀ s ∈ S, s.wait.length < 1000000) :
    Calls Tryz.prog 52 #[.pointer (some ⟨b, 0, none⟩), .int .i64 i, dv] w (Turned F b (wSet S i d) (wErr S i d) w) := by
  have HH := hide (has_any h i)
  have HD := hide h
  cases hh : hasB S i with
  | false =>
    rw [hh] at HH
    have HE : Hid (wErr S i d = 20 ∧ wSet S i d = S) := ⟨by simp [wErr, hh], wSet_no (by simp [hh])⟩
    obtain ⟨ao, cap, g0, off0, rfl, -⟩ := hd
    clear h hww
    go_enter Tryz.func52, Tryz.ntmps52
    go_wp2_with (go_at_call 72; refine HH.out.mono ?_; rintro e w' ⟨rfl, rfl⟩)
    go_ret
    rw [HE.out.1, HE.out.2]
    exact Turned.same HD.out
  | true =>
    rw [hh] at HH
    by_cases hl : d.length = 128
    · have hb : 0 ≤ i ∧ i < (S.length : Int) := by simpa [hasB] using hh
      obtain ⟨k, rfl⟩ : ∃ k : Nat, i = (k : Int) := ⟨i.toNat, by omega⟩
      obtain ⟨s, hs⟩ : ∃ s, S[k]? = some s := ⟨S[k]'(by omega), by simp⟩
      have e1 : wErr S (k : Int) d = 0 := by simp [wErr, hh, hl]
      have e2 : wSet S (k : Int) d = S.set k { s with wait := s.wait ++ [d] } := by simp [wSet, hh, hl, hs]
      rw [e1, e2]
      exact write_yes h k s hs (hww s (List.mem_of_getElem? hs)) dv d hd hl
    · have HE : Hid (wErr S i d = 11 ∧ wSet S i d = S) := ⟨by simp [wErr, hh, hl], wSet_no (by simp [hl])⟩
      have hne : ((d.length : Int) != 128) = true := by simp; omega
      obtain ⟨ao, cap, g0, off0, rfl, -⟩ := hd
      clear h hww hl
      go_enter Tryz.func52, Tryz.ntmps52
      go_wp2_with (go_at_call 72; refine HH.out.mono ?_; rintro e w' ⟨rfl, rfl⟩)
      go_ret
      rw [HE.out.1, HE.out.2]
      exact Turned.same HD.out
end Go.Proofs.YtliboiajhhnajaaGreatDoor

/- Facts on new disks and new bytes. -/
namespace Go.Proofs.YtliboiajhhnajaaGreatDoor
open Go.RowKit Go.Extern

theorem errV_20 : errV 20 = .iface 85 (.int .i64 20) := rfl
theorem errV_21 : errV 21 = .iface 85 (.int .i64 21) := rfl
theorem errV_11 : errV 11 = .iface 85 (.int .i64 11) := rfl
theorem fresh_get {n i : Nat} (h : i < n) : (fresh n)[i]? = some zeroSec := by simp [fresh, h]
theorem fresh_wait {n : Nat} : ∀ s ∈ fresh n, s.wait = [] := fun s hs => by simp [fresh] at hs; rw [hs.2]; rfl
theorem run_mk (w : World) : (Instr.makeSlice 28 (.int .i64 128) (.int .i64 128)).run Tryz.prog w = .ok (.slice (some ⟨w.heap.size, 0, none⟩) 128 128) (w.alloc (.cells (cellsB (List.replicate 128 0)).toArray 5)) := by kernel_rfl
theorem made (w : World) : ∃ w1, (Instr.makeSlice 28 (.int .i64 128) (.int .i64 128)).run Tryz.prog w = .ok (.slice (some ⟨w.heap.size, 0, none⟩) 128 128) w1 ∧
    w1.heap[w.heap.size]? = some (.cells (cellsB (List.replicate 128 0)).toArray 5 (0, 0)) ∧ Below w.heap.size w w1 ∧ w1.heap.size = w.heap.size + 1 :=
  ⟨_, run_mk w, heap_alloc_new w _, (Below.refl _ _).alloc (Nat.le_refl _) _, by simp⟩
theorem cell_made (w1 : World) (g : Nat) (h : w1.heap[g]? = some (.cells (cellsB (List.replicate 128 0)).toArray 5 (0, 0))) (i : Nat) (hi : i < 128) : w1.cell? ⟨g, i, none⟩ = some (.int .u8 0) := by
  rw [cell_of_row w1 g i _ _ _ h]
  rw [List.getElem?_toArray, cellsB, List.getElem?_map, List.getElem?_replicate, if_pos hi]; rfl
theorem bytes_of_row {w : World} {g : Nat} {bs : List Nat} {t : TypeId} {fr : Nat × Nat} (h : w.heap[g]? = some (.cells (cellsB bs).toArray t fr)) (hl : bs.length = 128) (hb : ∀ b ∈ bs, b < 256) : Bytes w (.slice (some ⟨g, 0, none⟩) 128 128) bs :=
  bytes_of_con ⟨hl, hb⟩ h
/-- Noughts, but for a seven at the sixth place. -/
def sevens : List Nat := zeros.set 5 7
theorem sevens_con : Con sevens := ⟨by simp [sevens, zeros], fun b hb => by
  rcases List.mem_or_eq_of_mem_set hb with h | h
  · exact zeros_con.2 b h
  · omega⟩
theorem row_sevens {w1 : World} {g : Nat} (h : w1.heap[g]? = some (.cells (cellsB (List.replicate 128 0)).toArray 5 (0, 0))) : (w1.setCell ⟨g, 5, none⟩ (.int .u8 7)).heap[g]? = some (.cells (cellsB sevens).toArray 5 (0, 0)) := by
  rw [set_cell_row h (by simp [cellsB]) _]
  rfl

end Go.Proofs.YtliboiajhhnajaaGreatDoor

/- Scripts in memory; facts on sectors that the statements share. -/
namespace Go.Proofs.YtliboiajhhnajaaGreatDoor
open Go.RowKit Go.Extern

/-- The value 'v' is, in the world 'w', a slice of the numbers 'ns'. -/
def Ints (w : World) (v : Value) (ns : List Int) : Prop :=
  ∃ ao cap g off, v = .slice ao ns.length cap ∧ (0 < ns.length → ao = some ⟨g, off, none⟩) ∧ (∀ (i : Nat) n, ns[i]? = some n → w.cell? ⟨g, off + i, none⟩ = some (.int .i64 n)) ∧ (∀ n ∈ ns, I64 n) ∧ ns.length ≤ 140737488355328 ∧ (ao = none → cap = 0) ∧ ns.length ≤ cap ∧ cap ≤ maxLen
theorem Ints.below {w w' : World} (hb : Below w.heap.size w w') {v : Value} {ns : List Int} (h : Ints w v ns) : Ints w' v ns := by
  obtain ⟨ao, cap, g, off, h1, h2, h3, h4⟩ := h
  exact ⟨ao, cap, g, off, h1, h2, fun i q hq => by rw [hb.cell (cell_lt (h3 i q hq))]; exact h3 i q hq, h4⟩

/-- One call of a script. -/
structure OpR where
  kind : Int
  dev : Int
  sec : Int
  n : Int
  dv : Value
  d : List Nat
  pv : Value
  ps : List Int
/-- One call as it lies in memory. -/
structure OpAt (w : World) (g off : Nat) (o : OpR) : Prop where
  c0 : w.cell? ⟨g, off, none⟩ = some (.int .i64 o.kind)
  c1 : w.cell? ⟨g, off + 1, none⟩ = some (.int .i64 o.dev)
  c2 : w.cell? ⟨g, off + 2, none⟩ = some (.int .i64 o.sec)
  c3 : w.cell? ⟨g, off + 3, none⟩ = some (.int .i64 o.n)
  c4 : w.cell? ⟨g, off + 4, none⟩ = some o.dv
  c5 : w.cell? ⟨g, off + 5, none⟩ = some o.pv
  hi : I64 o.dev
  hs : I64 o.sec
  hn : I64 o.n
  hd : Bytes w o.dv o.d
  hp : Ints w o.pv o.ps
theorem OpAt.below {w w' : World} (hb : Below w.heap.size w w') {g off : Nat} {o : OpR} (h : OpAt w g off o) : OpAt w' g off o :=
  ⟨by rw [hb.cell (cell_lt h.c0)]; exact h.c0, by rw [hb.cell (cell_lt h.c1)]; exact h.c1, by rw [hb.cell (cell_lt h.c2)]; exact h.c2, by rw [hb.cell (cell_lt h.c3)]; exact h.c3, by rw [hb.cell (cell_lt h.c4)]; exact h.c4, by rw [hb.cell (cell_lt h.c5)]; exact h.c5, h.hi, h.hs, h.hn, h.hd.below hb, h.hp.below hb⟩
/-- A script in memory. -/
def Script (w : World) (v : Value) (l : List OpR) : Prop :=
  ∃ ao cap g off, v = .slice ao l.length cap ∧ (0 < l.length → ao = some ⟨g, off, none⟩) ∧ ∀ (j : Nat) o, l[j]? = some o → OpAt w g (off + j * 6) o
theorem Script.below {w w' : World} (hb : Below w.heap.size w w') {v : Value} {l : List OpR} (h : Script w v l) : Script w' v l := by
  obtain ⟨ao, cap, g, off, h1, h2, h3⟩ := h
  exact ⟨ao, cap, g, off, h1, h2, fun j o ho => (h3 j o ho).below hb⟩
/-- Bytes below 'B' lie in no block from 'B' on. -/
theorem Bytes.block {w : World} {v : Value} {bs : List Nat} (h : Bytes w v bs) (hp : 0 < bs.length) : ∀ k, v.ownBlock = some k → k < w.heap.size := by
  obtain ⟨ao, cap, g, off, rfl, h2, h3, -⟩ := h
  intro k hk
  obtain rfl := h2 hp
  simp only [Value.ownBlock, Option.some.injEq] at hk
  subst hk
  exact cell_lt (h3 0 bs[0] (by simp [hp]))

theorem Sec.top_snoc (s : Sec) (d : List Nat) : ({ s with wait := s.wait ++ [d] } : Sec).top = d := by
  unfold Sec.top Sec.pick
  simp
  omega
theorem Sec.top_nil {s : Sec} (h : s.wait = []) : s.top = s.dur := by unfold Sec.top Sec.pick; simp [h]
theorem Sec.top_bad (s : Sec) (on : Bool) : ({ s with bad := on } : Sec).top = s.top := rfl
theorem hasB_nat {S : List Sec} {i : Nat} (h : i < S.length) : hasB S (i : Int) = true := by simp [hasB, h]
theorem hasB_at {S : List Sec} {i : Int} (h : hasB S i = true) : ∃ k s, i = ((k : Nat) : Int) ∧ S[k]? = some s := by
  have hb : 0 ≤ i ∧ i < (S.length : Int) := by simpa [hasB] using h
  exact ⟨i.toNat, S[i.toNat]'(by omega), by omega, by simp⟩
/-- What a write makes of the sectors. -/
theorem wSet_at {S : List Sec} {i : Int} {d : List Nat} (hd : d.length = 128) {k : Nat} {s' : Sec} (h : (wSet S i d)[k]? = some s') : ∃ s, S[k]? = some s ∧ s' = if i = (k : Int) then { s with wait := s.wait ++ [d] } else s := by
  unfold wSet at h
  by_cases hh : hasB S i = true
  · rw [if_pos ⟨hh, hd⟩] at h
    obtain ⟨j, s, rfl, hs⟩ := hasB_at hh
    rw [Int.toNat_natCast, hs] at h
    simp only at h
    by_cases e : j = k
    · subst e
      rw [List.getElem?_set_self (List.getElem?_eq_some_iff.1 hs).1] at h
      exact ⟨s, hs, by rw [if_pos rfl]; exact (Option.some.inj h).symm⟩
    · rw [List.getElem?_set_ne e] at h
      exact ⟨s', h, by rw [if_neg (by omega)]⟩
  · rw [if_neg (fun hx => hh hx.1)] at h
    refine ⟨s', h, ?_⟩
    rw [if_neg]
    intro e
    exact hh (by rw [e]; exact hasB_nat (List.getElem?_eq_some_iff.1 h).1)
theorem wSet_length (S : List Sec) (i : Int) (d : List Nat) : (wSet S i d).length = S.length := by
  unfold wSet
  split
  · split
    · rw [List.length_set]
    · rfl
  · rfl
theorem bSet_no {S : List Sec} {i : Int} {on : Bool} (h : ¬ hasB S i = true) : bSet S i on = S := by unfold bSet; split <;> simp [h]
theorem bSet_at {S : List Sec} {i : Int} {on : Bool} {k : Nat} {s' : Sec} (h : (bSet S i on)[k]? = some s') : ∃ s, S[k]? = some s ∧ s' = if i = (k : Int) then { s with bad := on } else s := by
  by_cases hh : hasB S i = true
  · unfold bSet at h
    obtain ⟨j, s, rfl, hs⟩ := hasB_at hh
    rw [Int.toNat_natCast, hs] at h
    simp only [hh, if_true] at h
    by_cases e : j = k
    · subst e
      rw [List.getElem?_set_self (List.getElem?_eq_some_iff.1 hs).1] at h
      exact ⟨s, hs, by rw [if_pos rfl]; exact (Option.some.inj h).symm⟩
    · rw [List.getElem?_set_ne e] at h
      exact ⟨s', h, by rw [if_neg (by omega)]⟩
  · rw [bSet_no hh] at h
    refine ⟨s', h, ?_⟩
    rw [if_neg]
    intro e
    exact hh (by rw [e]; exact hasB_nat (List.getElem?_eq_some_iff.1 h).1)
theorem bSet_length (S : List Sec) (i : Int) (on : Bool) : (bSet S i on).length = S.length := by
  unfold bSet
  split
  · split
    · rw [List.length_set]
    · rfl
  · rfl
theorem load_int {w : World} {p : Addr} {v : Value} (h : w.cell? p = some v) : (Instr.loadAt 3 (.pointer (some p))).run Tryz.prog w = .ok v w := by go_simp
theorem load_bytes {w : World} {p : Addr} {v : Value} (h : w.cell? p = some v) : (Instr.loadAt 28 (.pointer (some p))).run Tryz.prog w = .ok v w := by go_simp
theorem get_of_lt {S : List Sec} {i : Nat} (h : i < S.length) : ∃ s, S[i]? = some s := ⟨S[i], by simp [h]⟩
end Go.Proofs.YtliboiajhhnajaaGreatDoor
