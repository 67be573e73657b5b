/- The document's own disk is flushed. -/
import Derived.Test.YtphmhepbilhkjaaRWrite
namespace Go.Proofs.Ytphmhepbilhkjaa
open Go.RowKit Go.Extern

def flP (q i : Nat) (s : Sec) : Sec := if i < q then s.flushed else s
theorem flP_zero (S : List Sec) : partS S (flP 0) = S := by
  apply List.ext_getElem?
  intro i
  rw [partS_get]
  cases S[i]? <;> simp [flP]
theorem flP_end (S : List Sec) : partS S (flP S.length) = S.map Sec.flushed := by
  apply List.ext_getElem?
  intro i
  rw [partS_get, List.getElem?_map]
  cases h : S[i]? with
  | none => rfl
  | some s => simp [flP, (List.getElem?_eq_some_iff.1 h).1]
theorem flP_at {S : List Sec} {q : Nat} {s : Sec} (hs : S[q]? = some s) : (partS S (flP q))[q]? = some s := by
  rw [partS_get, hs]; simp [flP]
theorem flP_step {S : List Sec} {q : Nat} {s : Sec} (hs : S[q]? = some s) : (partS S (flP q)).set q s.flushed = partS S (flP (q + 1)) := by
  refine partS_set hs (by simp [flP]) (fun i t hi => ?_)
  unfold flP
  by_cases h : i < q
  · rw [if_pos h, if_pos (by omega)]
  · rw [if_neg h, if_neg (by omega)]
theorem len_bytess (w : World) (a : Option Addr) (n c : Nat) : (Builtin.len_ #[49] 3 #[.slice a n c]).run Try.prog w = .ok (.int .i64 (n : Int)) w := by kernel_rfl
theorem exec_sub1 {ρ : Operand → Value} {o : Oper} {w : World} {x : Operand} {n : Nat} (ho : o.op = .binOp .sub 3 x (.const (.int .i64 1)) 3) (hx : ρ x = .int .i64 ((n + 1 : Nat) : Int)) (hc : ρ (.const (.int .i64 1)) = .int .i64 1) (hn : (n : Int) ≤ 1000000) : (execOp ρ o).run Try.prog w = .ok (.value (.int .i64 (n : Int))) w := by
  unfold execOp; simp only [ho, hx, hc]
  have h0 : (0 : Int) ≤ (n : Int) := by omega
  go_simp
  rw [IntKind.wrap_i64]; omega

set_option maxRecDepth 100000 in
set_option maxHeartbeats 2000000 in
theorem rflush_any {w : World} {G : Nat → Prop} {b : Nat} {S : List Sec} (h : Rk w G b S) (hl : S.length ≤ 4096) (hww : ∀ s ∈ S, s.wait.length ≤ 1000000) :
    Calls Try.prog 33 #[.pointer (some ⟨b, 0, none⟩)] w (RTurned G b (S.map Sec.flushed) (.int .i64 ((pend S).length : Int)) w) := by
  have HP := hide (rpending_any h hl hww)
  have HR := hide h
  have HL := hide hl
  have HWW := hide hww
  clear h hl hww
  go_enter Try.func33, Try.ntmps33
  go_wp2_with (go_at_call 20; refine HP.out.mono ?_; rintro e w0 ⟨lv, rfl, hrow, hb0⟩; obtain ⟨aol, capl, rfl⟩ := ownsRow_form hrow; rw [pendI_length])
  have HB0 := hide hb0
  clear hrow hb0 HP
  go_loopg [4] S.length (fun gk i wr => ∃ j, j + gk = S.length ∧ i = .int .i64 (j : Int) ∧ Rk wr (ext G w wr) b (partS S (flP j)) ∧ Turn G w wr)
  case atStart => exact ⟨0, by omega, rfl, by rw [flP_zero]; exact (HR.out.below HB0.out).mono (fun _ hk => .inl hk), Turn.of_below HB0.out⟩
  case round =>
    obtain ⟨j, hj, rfl, hrk, htn⟩ := hrel
    have HRK := hide hrk
    have HTN := hide htn
    obtain ⟨v, T, hat, hTS⟩ := hrk
    have hTl := RkAt.len hTS
    rw [partS_length] at hTl
    obtain ⟨tn, htnn⟩ : ∃ tn, T.length = tn := ⟨_, rfl⟩
    obtain ⟨ao, cap, hvf⟩ := hat.form
    rw [htnn] at hvf
    subst hvf
    have c0 := hat.cell
    cases gk with
    | zero =>
      have hend : ¬ (j : Int) < (tn : Int) := by omega
      have HE : Hid (partS S (flP j) = S.map Sec.flushed) := by show _ = _; rw [← flP_end, show j = S.length by omega]
      clear hj htn hat hTS hTl htnn
      go_wp2_with fail
      go_ret
      exact ⟨rfl, by rw [← HE.out]; exact HRK.out, HTN.out⟩
    | succ m =>
      have hjt : j < tn := by omega
      have hlt : (j : Int) < (tn : Int) := by omega
      have hb0 : (0 : Int) ≤ (j : Int) := by omega
      obtain ⟨s, hs⟩ := get_of_lt (S := S) (i := j) (by omega)
      obtain ⟨u, hu⟩ := RkAt.get hTS (flP_at hs)
      obtain ⟨g, rfl, -, c1, -, cur, hgc⟩ := hat.at_ hu
      have hval := hat.val j _ hu
      have hwl := HWW.out s (List.mem_of_getElem? hs)
      obtain ⟨aou, capu, huf⟩ := hval.form
      simp only at huf
      subst huf
      obtain ⟨gu, x, rfl, c3, hx, hxG⟩ := hval.at_ (top_last s)
      obtain ⟨n, hn⟩ : ∃ n, s.wait.length = n := ⟨_, rfl⟩
      simp only [List.length_cons, hn] at c1 c3 hwl
      have hnb : (n : Int) ≤ 1000000 := by omega
      have hn0 : (0 : Int) ≤ (n : Int) := by omega
      have HX := hide hx
      have HXG := hide hxG
      obtain ⟨aox, capx, hxf⟩ := hx.form
      obtain ⟨xn, hxn⟩ : ∃ xn, s.top.length = xn := ⟨_, rfl⟩
      rw [hxn] at hxf
      subst hxf
      have HAT := hide hat
      have HTS := hide hTS
      have HU := hide hu
      have HS := hide hs
      have HC0 := hide c0
      have HC3 := hide c3
      have HGC := hide hgc
      have HSZ := hide htn.size
      have hjj : (j : Int) + 1 < 4098 := by have := HL.out; omega
      have HGU : Hid (gu ≠ g) := by
        intro e
        obtain ⟨us, h1, -⟩ := hval
        obtain ⟨cur1, hh1⟩ := row_block h1 (g := gu) rfl
        rw [e, hgc] at hh1
        simp at hh1
      have HGB : Hid (b ≠ g) := by
        intro e
        have h1 := hat.blk
        rw [e, hgc] at h1
        simp at h1
      clear htn hat hTS hTl htnn hs hu hval hwl hn hx hxG hxn c3 hgc
      go_wp2_with fail
      refine wp_region_held_drew (S := fun wx => wx.cell? ⟨b, 0, none⟩ = some (.slice (some ⟨g, 0, none⟩) tn cap) ∧ wx.cell? ⟨gu, n, none⟩ = some (.slice aox xn capx)) (by kernel_rfl) ⟨HC0.out, HC3.out⟩ (fun hS => ?_)
      refine take_run 0 (some 26) (.pointer (some ⟨b, 0, none⟩)) rfl rfl rfl (by kernel_rfl) (by kernel_rfl) (by kernel_rfl) (fun _ _ _ h => h) (fun wx hx => exec_move rfl rfl) hS ?_
      simp only [Act.put, List.setIfInBounds_toArray, List.set_cons_zero, List.set_cons_succ]
      refine take_run 1 (some 27) (.pointer (some ⟨b, 0, none⟩)) rfl rfl rfl (by kernel_rfl) (by kernel_rfl) (by kernel_rfl) (fun _ _ _ h => h) (fun wx hx => exec_nilCheck rfl rfl) hS ?_
      simp only [Act.put, List.setIfInBounds_toArray, List.set_cons_zero, List.set_cons_succ]
      refine take_run 2 (some 28) (.pointer (some ⟨b, 0, none⟩)) rfl rfl rfl (by kernel_rfl) (by kernel_rfl) (by kernel_rfl) (fun _ _ _ h => h) (fun wx hx => exec_field rfl (rfield0 b wx) rfl) hS ?_
      simp only [Act.put, List.setIfInBounds_toArray, List.set_cons_zero, List.set_cons_succ]
      refine take_run 3 (some 29) (.slice (some ⟨g, 0, none⟩) tn cap) rfl rfl rfl (by kernel_rfl) (by kernel_rfl) (by kernel_rfl) (fun _ _ _ h => h) (fun wx hx => exec_load rfl (load_rsectors hx.1) rfl) hS ?_
      simp only [Act.put, List.setIfInBounds_toArray, List.set_cons_zero, List.set_cons_succ]
      refine take_run 4 (some 30) (.int .i64 (j : Int)) rfl rfl rfl (by kernel_rfl) (by kernel_rfl) (by kernel_rfl) (fun _ _ _ h => h) (fun wx hx => exec_move rfl rfl) hS ?_
      simp only [Act.put, List.setIfInBounds_toArray, List.set_cons_zero, List.set_cons_succ]
      refine take_run 5 (some 31) (.slice (some ⟨gu, 0, none⟩) (n + 1) capu) rfl rfl rfl (by kernel_rfl) (by kernel_rfl) (by kernel_rfl) (fun _ _ _ h => h) (fun wx hx => exec_move rfl rfl) hS ?_
      simp only [Act.put, List.setIfInBounds_toArray, List.set_cons_zero, List.set_cons_succ]
      refine take_run 6 (some 32) (.slice (some ⟨gu, 0, none⟩) (n + 1) capu) rfl rfl rfl (by kernel_rfl) (by kernel_rfl) (by kernel_rfl) (fun _ _ _ h => h) (fun wx hx => exec_move rfl rfl) hS ?_
      simp only [Act.put, List.setIfInBounds_toArray, List.set_cons_zero, List.set_cons_succ]
      refine take_run 7 (some 33) (.int .i64 ((n + 1 : Nat) : Int)) rfl rfl rfl (by kernel_rfl) (by kernel_rfl) (by kernel_rfl) (fun _ _ _ h => h) (fun wx hx => exec_len rfl (len_bytess wx _ _ _) rfl) hS ?_
      simp only [Act.put, List.setIfInBounds_toArray, List.set_cons_zero, List.set_cons_succ]
      refine take_run 8 (some 34) (.int .i64 (n : Int)) rfl rfl rfl (by kernel_rfl) (by kernel_rfl) (by kernel_rfl) (fun _ _ _ h => h) (fun wx hx => exec_sub1 rfl rfl rfl hnb) hS ?_
      simp only [Act.put, List.setIfInBounds_toArray, List.set_cons_zero, List.set_cons_succ]
      refine take_run 9 (some 35) (.pointer (some ⟨gu, n, none⟩)) rfl rfl rfl (by kernel_rfl) (by kernel_rfl) (by kernel_rfl) (fun _ _ _ h => h) (fun wx hx => exec_index rfl (index_bytess (Nat.lt_succ_self n)) rfl rfl) hS ?_
      simp only [Act.put, List.setIfInBounds_toArray, List.set_cons_zero, List.set_cons_succ]
      refine take_run 10 (some 36) (.slice aox xn capx) rfl rfl rfl (by kernel_rfl) (by kernel_rfl) (by kernel_rfl) (fun _ _ _ h => h) (fun wx hx => exec_load rfl (load_bytes hx.2) rfl) hS ?_
      simp only [Act.put, List.setIfInBounds_toArray, List.set_cons_zero, List.set_cons_succ]
      have hba : Below wr.heap.size wr (wr.drew.alloc (.cells #[.slice aox xn capx] 32)) := (Below.refl _ _).drew.alloc (Nat.le_refl _) _
      have hsa : (wr.drew.alloc (.cells #[.slice aox xn capx] 32)).heap.size = wr.heap.size + 1 := by simp
      have hat5 := HAT.out.below hba
      obtain ⟨g5, e5, -, c5, -, cur5, hg5⟩ := hat5.at_ HU.out
      obtain rfl : g = g5 := by simpa using e5
      have hone : HadG (ext (ext G w wr) wr (wr.drew.alloc (.cells #[.slice aox xn capx] 32))) (wr.drew.alloc (.cells #[.slice aox xn capx] 32)) (.slice (some ⟨wr.heap.size, 0, none⟩) 1 1) [s.top] := HadG.one (w := wr.drew) (HX.out.below (Below.refl _ _).drew) (fun k hk => .inl (HXG.out k hk)) (.inr ⟨Nat.le_refl _, by rw [hsa]; exact Nat.lt_succ_self _⟩)
      obtain ⟨hat6, htn6⟩ := HAT.out.values (s' := s.flushed) HU.out hba hone rfl
      have hSa : (wr.drew.alloc (.cells #[.slice aox xn capx] 32)).cell? ⟨b, 0, none⟩ = some (.slice (some ⟨g, 0, none⟩) tn cap) ∧ (wr.drew.alloc (.cells #[.slice aox xn capx] 32)).cell? ⟨gu, n, none⟩ = some (.slice aox xn capx) := ⟨hat5.cell, by rw [hba.cell (cell_lt HC3.out)]; exact HC3.out⟩
      refine only_value 11 (some 37) rfl rfl rfl (by kernel_rfl) (exec_one rfl (run_oneB wr.drew _ _ _) rfl) hSa ?_
      simp only [Act.put, List.setIfInBounds_toArray, List.set_cons_zero, List.set_cons_succ]
      refine only_value 12 (some 38) (v := .pointer (some ⟨g, j * 2, none⟩)) rfl rfl rfl (by kernel_rfl) (exec_index rfl (index_rsec hjt) rfl rfl) hSa ?_
      simp only [Act.put, List.setIfInBounds_toArray, List.set_cons_zero, List.set_cons_succ]
      refine only_value 13 (some 39) (v := .pointer (some ⟨g, j * 2, none⟩)) rfl rfl rfl (by kernel_rfl) (exec_field rfl (rsField0 g _ _) rfl) hSa ?_
      simp only [Act.put, List.setIfInBounds_toArray, List.set_cons_zero, List.set_cons_succ]
      refine only_skip 14 none rfl rfl rfl (by kernel_rfl) (exec_store rfl (store_bytess _ _ _ c5 (row_frozen hg5 _)) rfl rfl) ⟨hat6.cell, by rw [World.cell?_of_block (Below.heap_setCell _ _ _ _ HGU.out)]; exact hSa.2⟩ ?_
      refine wpAnyH_done (by kernel_rfl) ?_ _
      have HEND : Hid (Rk ((wr.drew.alloc (.cells #[.slice aox xn capx] 32)).setCell ⟨g, j * 2, none⟩ (.slice (some ⟨wr.heap.size, 0, none⟩) 1 1)) (ext G w ((wr.drew.alloc (.cells #[.slice aox xn capx] 32)).setCell ⟨g, j * 2, none⟩ (.slice (some ⟨wr.heap.size, 0, none⟩) 1 1))) b (partS S (flP (j + 1))) ∧ Turn G w ((wr.drew.alloc (.cells #[.slice aox xn capx] 32)).setCell ⟨g, j * 2, none⟩ (.slice (some ⟨wr.heap.size, 0, none⟩) 1 1))) := by
        refine ⟨⟨_, _, hat6.mono (fun k hk => ext_ext HSZ.out htn6.size k hk), by rw [map_set2, HTS.out, flP_step HS.out]⟩, HTN.out.trans htn6 (fun k hk h => ?_)⟩
        rcases h with h | h
        · exact h
        · omega
      clear hba hsa hat5 c5 hg5 hone hat6 htn6 hSa hS
      go_wp2_with fail
      go_roundg m
      case measure => omega
      case rel => exact ⟨j + 1, by omega, by go_num, HEND.out.1, HEND.out.2⟩
end Go.Proofs.Ytphmhepbilhkjaa
