/- Fill by its contract. -/
import Derived.Test.YtliboiajhhnajaaRep
namespace Go.Proofs.Ytliboiajhhnajaa
open Go.RowKit Go.Extern

theorem built_sec (c : List Nat) : Try.prog.built 93 [(0, conV c)] = Instr.fill (fun i => #[(0, 128), (128, 1)][i]?) (secA zeroSec) [(0, conV c)] := by kernel_rfl
theorem zeroSec_tail : (secA zeroSec).toList.drop 128 = [.bool false] := by kernel_rfl
theorem zeroSec_size : (secA zeroSec).size = 129 := by kernel_rfl
theorem run_build1 (w : World) (c : List Nat) (hc : Con c) : (Instr.build 93 #[(0, conV c)]).run Try.prog w = .ok (secV ⟨c, false, []⟩) w := by
  refine run_build w 93 #[(0, conV c)] (secA ⟨c, false, []⟩) ?_
  show Try.prog.built 93 [(0, conV c)] = _
  rw [built_sec]
  have hl : (cellsB c).length = 128 := by rw [cellsB_length, hc.1]
  have hz := zeroSec_size
  have ht := zeroSec_tail
  generalize secA zeroSec = z at hz ht
  unfold Instr.fill
  have e1 : (conV c).cells = (cellsB c).toArray := rfl
  rw [e1]
  simp only [List.size_toArray, hl, hz]
  have e2 := fold_array (cellsB c) 0 z (by rw [hl, hz]; decide)
  rw [hl] at e2
  simp at e2 ⊢
  rw [e2, ht]
  rfl
theorem exec_build1 {ρ : Operand → Value} {o : Oper} {w : World} {t : TypeId} {x : Operand} {v xv : Value} (ho : o.op = .build t #[(0, x)]) (hr : (Instr.build t #[(0, xv)]).run Try.prog w = .ok v w) (hx : ρ x = xv) : (execOp ρ o).run Try.prog w = .ok (.value v) w := by
  unfold execOp; simp [ho, hr, hx]
theorem exec_mul128 {ρ : Operand → Value} {o : Oper} {w : World} {x : Operand} {n : Nat} (ho : o.op = .binOp .mul 3 x (.const (.int .i64 128)) 3) (hx : ρ x = .int .i64 (n : Int)) (hc : ρ (.const (.int .i64 128)) = .int .i64 128) (hn : n ≤ 4096) : (execOp ρ o).run Try.prog w = .ok (.value (.int .i64 ((n * 128 : Nat) : Int))) w := by
  unfold execOp; simp only [ho, hx, hc]
  go_simp
  rw [IntKind.wrap_i64]; omega
theorem enterRepeated (args : Array Value) (w : World) : (callFunc 46 args).run Try.prog w = .ok (.enter 46 args) w := by kernel_rfl

def Filled (F : Nat → Prop) (b : Nat) (S : List Sec) (d : List Nat) (w : World) (e : Ending) (w' : World) : Prop := e = .returned (.tuple #[]) ∧ Dk w' (ext F w w') b (fillS S d) ∧ Turn F w w'

set_option maxRecDepth 100000 in
set_option maxHeartbeats 2000000 in
theorem fill_any {w : World} {F : Nat → Prop} {b : Nat} {S : List Sec} (h : Dk w F b S) (dv : Value) (d : List Nat) (hd : Bytes w dv d) (hdl : d.length ≤ 1000) (hout : ∀ k, dv.ownBlock = some k → ¬ F k) :
    Calls Try.prog 37 #[.pointer (some ⟨b, 0, none⟩), dv] w (Filled F b S d w) := by
  have HDB := hide hd
  have HO := hide hout
  have HDL := hide hdl
  obtain ⟨v, mb, D, h⟩ := h
  have HD := hide h
  have HSL := hide h.good.1
  obtain ⟨aod, capd, gd, offd, rfl, -⟩ := hd
  obtain ⟨sn, hsn⟩ : ∃ sn, S.length = sn := ⟨_, rfl⟩
  obtain ⟨dn, hdn⟩ : ∃ dn, d.length = dn := ⟨_, rfl⟩
  obtain ⟨ao, cap, hvf⟩ := ownsRow_form h.secs
  rw [hsn] at hvf
  subst hvf
  rw [hdn] at HDB HO ⊢
  have c0 := two_cell0 h.blk
  have HSN := hide hsn
  have HDN := hide hdn
  have hmm := @run_makeMap Try.prog
  clear h hout hdl hsn hdn
  go_enter Try.func37, Try.ntmps37
  go_wp2_with fail
  go_loopg [10] sn (fun gk y wr => ∃ q, q + gk = sn ∧ y = .int .i64 (q : Int) ∧ DkAt wr (ext F w wr) b (partS S (fillP d q)) (.slice ao sn cap) mb D ∧ Turn F w wr)
  case atStart => exact ⟨0, by omega, rfl, by rw [fillP_zero]; exact (HD.out.mono (fun _ hk => .inl hk)), Turn.refl _ _⟩
  case round =>
    obtain ⟨q, hq, rfl, hdk, htn⟩ := hrel
    have HDK := hide hdk
    have HTN := hide htn
    have hbs := heap_lt hdk.blk
    have c1 := two_cell1 hdk.blk
    have fr1 := row_frozen hdk.blk 1
    clear hdk htn
    cases gk with
    | zero =>
      have hend : ¬ (q : Int) < (sn : Int) := by omega
      have HFIN := hide (reset_core HDK.out)
      rw [show q = S.length by have := HSN.out; omega, fillP_end, set_alloc wr hbs] at HFIN
      clear hq
      go_wp2_with fail
      go_end0
      refine ⟨rfl, HFIN.out.1.mono (fun k hk => ext_ext HTN.out.size HFIN.out.2.size k hk), HTN.out.trans HFIN.out.2 (fun k hk h => ?_)⟩
      rcases h with h | h
      · exact h
      · omega
    | succ m =>
      have hqs : q < sn := by omega
      have hlt : (q : Int) < (sn : Int) := by omega
      have hqb : q ≤ 4096 := by have := HSL.out; have := HSN.out; omega
      have hqq : (q : Int) + 1 < 4098 := by omega
      obtain ⟨s, hs⟩ := get_of_lt (S := S) (i := q) (by have := HSN.out; omega)
      have hsP := fillP_at (d := d) hs
      obtain ⟨g, cap', cur, e, hgc, -⟩ := ownsRow_pos HDK.out.secs (by rw [partS_length]; exact len_pos hs)
      have hao : ao = some ⟨g, 0, none⟩ := by injection e
      subst hao
      have HGC := hide hgc
      have hln : (partS S (fillP d q)).length = sn := by rw [partS_length]; exact HSN.out
      have HREP := hide (repeated_any wr.drew (.slice aod dn capd) d ((HDB.out.turn HTN.out HO.out).below (Below.refl _ _).drew) HDL.out q (q * 128) rfl hqb)
      have HS := hide hs
      have HSP := hide hsP
      have HLN := hide hln
      have HFC : Hid (Con (fillB d q)) := fillB_con HDB.out.lt q
      clear hs hsP hgc e hln c1 fr1 hbs
      go_wp2_with fail
      refine wp_region_held_drew (S := fun wx => wx.cell? ⟨b, 0, none⟩ = some (.slice (some ⟨g, 0, none⟩) sn cap)) (by kernel_rfl) (two_cell0 HDK.out.blk) (fun hS => ?_)
      refine take_run 0 (some 13) (.pointer (some ⟨b, 0, none⟩)) rfl rfl rfl (by kernel_rfl) (by kernel_rfl) (by kernel_rfl) (fun _ _ _ h => h) (fun wx hx => exec_move rfl rfl) hS ?_
      simp only [Act.put, List.setIfInBounds_toArray, List.set_cons_zero, List.set_cons_succ]
      refine take_run 1 (some 14) (.pointer (some ⟨b, 0, none⟩)) rfl rfl rfl (by kernel_rfl) (by kernel_rfl) (by kernel_rfl) (fun _ _ _ h => h) (fun wx hx => exec_nilCheck rfl rfl) hS ?_
      simp only [Act.put, List.setIfInBounds_toArray, List.set_cons_zero, List.set_cons_succ]
      refine take_run 2 (some 15) (.pointer (some ⟨b, 0, none⟩)) rfl rfl rfl (by kernel_rfl) (by kernel_rfl) (by kernel_rfl) (fun _ _ _ h => h) (fun wx hx => exec_field rfl (field0 b wx) rfl) hS ?_
      simp only [Act.put, List.setIfInBounds_toArray, List.set_cons_zero, List.set_cons_succ]
      refine take_run 3 (some 16) (.slice (some ⟨g, 0, none⟩) sn cap) rfl rfl rfl (by kernel_rfl) (by kernel_rfl) (by kernel_rfl) (fun _ _ _ h => h) (fun wx hx => exec_load rfl (load_secs hx) rfl) hS ?_
      simp only [Act.put, List.setIfInBounds_toArray, List.set_cons_zero, List.set_cons_succ]
      refine take_run 4 (some 17) (.int .i64 (q : Int)) rfl rfl rfl (by kernel_rfl) (by kernel_rfl) (by kernel_rfl) (fun _ _ _ h => h) (fun wx hx => exec_move rfl rfl) hS ?_
      simp only [Act.put, List.setIfInBounds_toArray, List.set_cons_zero, List.set_cons_succ]
      refine take_run 5 (some 18) (.slice aod dn capd) rfl rfl rfl (by kernel_rfl) (by kernel_rfl) (by kernel_rfl) (fun _ _ _ h => h) (fun wx hx => exec_move rfl rfl) hS ?_
      simp only [Act.put, List.setIfInBounds_toArray, List.set_cons_zero, List.set_cons_succ]
      refine take_run 6 (some 19) (.int .i64 (q : Int)) rfl rfl rfl (by kernel_rfl) (by kernel_rfl) (by kernel_rfl) (fun _ _ _ h => h) (fun wx hx => exec_move rfl rfl) hS ?_
      simp only [Act.put, List.setIfInBounds_toArray, List.set_cons_zero, List.set_cons_succ]
      refine take_run 7 (some 20) (.int .i64 ((q * 128 : Nat) : Int)) rfl rfl rfl (by kernel_rfl) (by kernel_rfl) (by kernel_rfl) (fun _ _ _ h => h) (fun wx hx => exec_mul128 rfl rfl rfl hqb) hS ?_
      simp only [Act.put, List.setIfInBounds_toArray, List.set_cons_zero, List.set_cons_succ]
      refine only_call 8 (some 21) rfl rfl rfl (by kernel_rfl) (exec_call2 rfl enterRepeated rfl rfl rfl) (HREP.out.mono ?_)
      rintro e w2 ⟨rfl, hb2⟩
      have hdk2 := (HDK.out.below (Below.refl _ _).drew).below hb2
      refine ⟨_, rfl, two_cell0 hdk2.blk, ?_⟩
      simp only [Act.put, List.setIfInBounds_toArray, List.set_cons_zero, List.set_cons_succ]
      have hdk2' : DkAt w2 (ext F w wr) b (partS S (fillP d q)) (.slice (some ⟨g, 0, none⟩) (partS S (fillP d q)).length cap) mb D := by rw [HLN.out]; exact hdk2
      obtain ⟨w3, hr3, hdk3, hg3, hsz3⟩ := store_sec hdk2' HSP.out HFC.out false []
      rw [HLN.out] at hdk3
      have hgb : g ≠ b := fun e => by have h1 := HGC.out; have h2 := HDK.out.blk; rw [e] at h1; rw [h1] at h2; simp at h2
      have h02 := two_cell0 hdk2.blk
      refine only_value 9 (some 22) rfl rfl rfl (by kernel_rfl) (exec_build1 rfl (run_build1 w2 _ HFC.out) rfl) h02 ?_
      simp only [Act.put, List.setIfInBounds_toArray, List.set_cons_zero, List.set_cons_succ]
      refine only_value 10 (some 23) (v := .pointer (some ⟨g, q * 129, none⟩)) rfl rfl rfl (by kernel_rfl) (exec_index rfl (index_sec hqs) rfl rfl) h02 ?_
      simp only [Act.put, List.setIfInBounds_toArray, List.set_cons_zero, List.set_cons_succ]
      refine only_skip 11 none rfl rfl rfl (by kernel_rfl) (exec_store rfl hr3 rfl rfl) (by rw [hg3.cell h02 (by simpa using hgb.symm)]) ?_
      refine wpAnyH_done (by kernel_rfl) ?_ _
      have HEND : Hid (DkAt w3 (ext F w w3) b (partS S (fillP d (q + 1))) (.slice (some ⟨g, 0, none⟩) sn cap) mb D ∧ Turn F w w3) := by
        have hgin := HDK.out.inS g rfl
        have hz1 : wr.heap.size ≤ w2.heap.size := hb2.size
        rw [fillP_step HS.out] at hdk3
        refine ⟨hdk3.mono (fun k hk => ext_mono (by rw [hsz3]; exact hb2.size) k hk), HTN.out.trans (F1 := ext F w wr) ((Turn.of_below (w := wr) ⟨hb2.os, hb2.tape, hb2.output, hb2.size, hb2.block⟩).trans (F1 := ext F w wr) (Turn.of_grown hg3 (fun k hk => by rw [← Option.some.inj hk]; exact hgin)) (fun _ _ h => h)) (fun k hk h => ?_)⟩
        rcases h with h | h
        · exact h
        · omega
      clear hr3 hdk3 hg3 hsz3 hgb h02 hdk2 hdk2' hb2 hS HREP HGC
      go_wp2_with fail
      go_roundg m
      case measure => omega
      case rel => exact ⟨q + 1, by omega, by go_num, HEND.out.1, HEND.out.2⟩
end Go.Proofs.Ytliboiajhhnajaa
