/- DiskLasts walked. -/
import Derived.Test.YtphmhepbilhkjaaLasts1
namespace Go.Proofs.Ytphmhepbilhkjaa
open Go.RowKit Go.Extern

set_option maxRecDepth 100000 in
set_option maxHeartbeats 8000000 in
theorem lastsL_any (w : World) (v v2 pv : Value) (l l2 : List OpR) (ps : List Int) (hv : Script w v l) (hv2 : Script w v2 l2) (hp : Ints w pv ps) : Calls Try.prog 4 #[v, v2, pv] w fun e w' => e = .returned (.bool true) ∧ Below w.heap.size w w' := by
  obtain ⟨ao, cap, gl, ol, rfl, h2, h3⟩ := hv
  obtain ⟨ao2, cap2, gl2, ol2, rfl, k2, k3⟩ := hv2
  have HPS := hide hp
  obtain ⟨aoq, capq, gq, oq, rfl, -⟩ := hp
  have H2 := hide h2
  have H3 := hide h3
  have K2 := hide k2
  have K3 := hide k3
  clear h2 h3 k2 k3
  have HN := hide (new_any w 4)
  go_enter Try.func4, Try.ntmps4
  go_wp2_with fail
  refine HN.out.mono ?_
  rintro e w1 ⟨hb1, hif⟩
  rw [if_pos (by rfl)] at hif
  obtain ⟨b, F, rfl, hdk, hF⟩ := hif
  rw [errV_zero]
  rw [show fresh (Int.toNat 4) = fresh 4 from rfl] at hdk
  have HR0 := hide (fresh_one hdk hF hb1)
  have HBW := hide hb1
  clear hb1 hdk hF HN
  by_cases hcut : (150 : Int) < max (l.length : Int) (l2.length : Int) ∨ (1000 : Int) < (ps.length : Int)
  · have HA := hide (awake_any w1)
    have hdd : decide ((150 : Int) < max (l.length : Int) (l2.length : Int)) = true ∨ (decide ((150 : Int) < max (l.length : Int) (l2.length : Int)) = false ∧ decide ((1000 : Int) < (ps.length : Int)) = true) := by
      by_cases h0 : (150 : Int) < max (l.length : Int) (l2.length : Int)
      · exact .inl (decide_eq_true h0)
      · exact .inr ⟨decide_eq_false h0, decide_eq_true (by rcases hcut with h | h; exact absurd h h0; exact h)⟩
    clear hcut
    rcases hdd with d1 | ⟨d1, d2⟩
    · go_wp2_with (go_at_call 12; refine HA.out.mono ?_; rintro e w' ⟨rfl, hb⟩; have HBB := hide (HBW.out.trans (hb.mono HBW.out.size)); clear hb)
      go_ret
      exact ⟨rfl, HBB.out⟩
    · go_wp2_with (go_at_call 12; refine HA.out.mono ?_; rintro e w' ⟨rfl, hb⟩; have HBB := hide (HBW.out.trans (hb.mono HBW.out.size)); clear hb)
      go_ret
      exact ⟨rfl, HBB.out⟩
  · have d1 : decide ((150 : Int) < max (l.length : Int) (l2.length : Int)) = false := decide_eq_false (fun h => hcut (.inl h))
    have d2 : decide ((1000 : Int) < (ps.length : Int)) = false := decide_eq_false (fun h => hcut (.inr h))
    have HL : Hid (l.length ≤ 150) := by show _ ≤ _; omega
    have HL2 : Hid (l2.length ≤ 150) := by show _ ≤ _; omega
    have HPL : Hid (ps.length ≤ 1000) := by show _ ≤ _; omega
    clear hcut HBW
    go_wp2_with fail
    go_loopg [54] l.length (fun gk i wr => ∃ j, j + gk = l.length ∧ i = .int .i64 (j : Int) ∧ OneR w wr b 4 j)
    case atStart => exact ⟨0, by omega, rfl, HR0.out⟩
    case round =>
      clear HR0
      obtain ⟨j, hj, rfl, hone⟩ := hrel
      have HON := hide hone
      obtain ⟨F, S, r1, r2, r3, r4, r8⟩ := hone
      have R1 := hide r1
      have R2 := hide r2
      have R3 := hide r3
      have R4 := hide r4
      have R8 := hide r8
      clear r1 r2 r3 r4 r8
      cases gk with
      | succ m2 =>
        have hjl : j < l.length := by omega
        have hlt : (j : Int) < (l.length : Int) := by omega
        have hb0 : (0 : Int) ≤ (j : Int) := by omega
        obtain ⟨o, ho⟩ : ∃ o, l[j]? = some o := ⟨l[j], by simp [hjl]⟩
        obtain rfl := H2.out (by omega)
        have hop0 := H3.out j o ho
        have hop := hop0.below R8.out
        obtain ⟨kind, oi, on, dv, d, opv, ops⟩ := o
        have q0 : wr.cell? ⟨gl, ol + j * 5, none⟩ = some (.int .i64 kind) := hop.c0
        have q1 : wr.cell? ⟨gl, ol + j * 5 + 1, none⟩ = some (.int .i64 oi) := hop.c1
        have q2 : wr.cell? ⟨gl, ol + j * 5 + 2, none⟩ = some (.int .i64 on) := hop.c2
        have q3 : wr.cell? ⟨gl, ol + j * 5 + 3, none⟩ = some dv := hop.c3
        have q4 : wr.cell? ⟨gl, ol + j * 5 + 4, none⟩ = some opv := hop.c4
        have HDB : Hid (Bytes wr dv d) := hop.hd
        have HDW : Hid (Bytes w dv d) := hop0.hd
        have HII : Hid (I64 oi) := hop.hi
        have HNN : Hid (I64 on) := hop.hn
        have HPP : Hid (Ints wr opv ops) := hop.hp
        have HPW : Hid (Ints w opv ops) := hop0.hp
        have hgl := cell_lt q0
        have HJ : Hid ((j : Int) + 1 < 160) := by have := HL.out; show _ < _; omega
        have hjj := HJ.out
        obtain ⟨aod, capd, gd, offd, hdv, -⟩ := hop.hd
        obtain ⟨aop, capp, gp, offp, hpv, -⟩ := hop.hp
        have hdv' : dv = .slice aod d.length capd := hdv
        have hpv' : opv = .slice aop ops.length capp := hpv
        clear hdv hpv
        subst hdv' hpv'
        have HAL : Hid (∀ o, Below wr.heap.size wr (wr.alloc o)) := fun o => (Below.refl _ _).alloc (Nat.le_refl _) o
        clear hop hop0 ho
        by_cases hlen : d.length = 128
        · have hbb : ((d.length : Int) == 128) = true := by simp [hlen]
          clear hlen
          go_wp2_with fail
          generalize hoc : #[Value.int .i64 kind, Value.int .i64 oi, Value.int .i64 on, Value.slice aod d.length capd, Value.slice aop ops.length capp] = oc
          have hwo : Below wr.heap.size wr (wr.alloc (.cells oc 35)).drew := ((Below.refl _ _).alloc (Nat.le_refl _) _).drew
          have hob : (wr.alloc (.cells oc 35)).drew.heap[wr.heap.size]? = some (.cells oc 35 (0, 0)) := heap_alloc_new wr _
          have hS0 : ∀ wx : World, wx.heap[wr.heap.size]? = some (.cells oc 35 (0, 0)) → wx.cell? ⟨wr.heap.size, 1, none⟩ = some (.int .i64 oi) ∧ wx.cell? ⟨wr.heap.size, 3, none⟩ = some (.slice aod d.length capd) := fun wx hx => by
            rw [cell_of_row wx _ _ _ _ _ hx, cell_of_row wx _ _ _ _ _ hx, ← hoc]; exact ⟨rfl, rfl⟩
          have HCP := hide (copy_any d (.slice aod d.length capd) (wr.alloc (.cells oc 35)).drew (HDB.out.below hwo))
          refine wp_region_held_drew (S := fun wx => wx.heap[wr.heap.size]? = some (.cells oc 35 (0, 0))) (by kernel_rfl) hob (fun hS => ?_)
          refine take_run 0 (some 62) (.pointer (some ⟨b, 0, none⟩)) rfl rfl rfl (by kernel_rfl) (by kernel_rfl) (by kernel_rfl) (fun _ _ _ h => h) (fun wx hx => exec_move rfl rfl) hS ?_
          simp only [Act.put, List.setIfInBounds_toArray, List.set_cons_zero, List.set_cons_succ]
          refine take_run 1 (some 63) (.pointer (some ⟨wr.heap.size, 1, none⟩)) rfl rfl rfl (by kernel_rfl) (by kernel_rfl) (by kernel_rfl) (fun _ _ _ h => h) (fun wx hx => exec_field rfl (opField1 _ wx) rfl) hS ?_
          simp only [Act.put, List.setIfInBounds_toArray, List.set_cons_zero, List.set_cons_succ]
          refine take_run 2 (some 64) (.int .i64 oi) rfl rfl rfl (by kernel_rfl) (by kernel_rfl) (by kernel_rfl) (fun _ _ _ h => h) (fun wx hx => exec_load rfl (load_int (hS0 wx hx).1) rfl) hS ?_
          simp only [Act.put, List.setIfInBounds_toArray, List.set_cons_zero, List.set_cons_succ]
          refine take_run 3 (some 65) (.pointer (some ⟨wr.heap.size, 3, none⟩)) rfl rfl rfl (by kernel_rfl) (by kernel_rfl) (by kernel_rfl) (fun _ _ _ h => h) (fun wx hx => exec_field rfl (opField3 _ wx) rfl) hS ?_
          simp only [Act.put, List.setIfInBounds_toArray, List.set_cons_zero, List.set_cons_succ]
          refine take_run 4 (some 66) (.slice aod d.length capd) rfl rfl rfl (by kernel_rfl) (by kernel_rfl) (by kernel_rfl) (fun _ _ _ h => h) (fun wx hx => exec_load rfl (load_bytes (hS0 wx hx).2) rfl) hS ?_
          simp only [Act.put, List.setIfInBounds_toArray, List.set_cons_zero, List.set_cons_succ]
          refine only_call 5 (some 67) rfl rfl rfl (by kernel_rfl) (exec_call1 rfl enterCopy rfl rfl) (HCP.out.mono ?_)
          rintro e w2 ⟨u2, rfl, hu2, hb2'⟩
          have hob2 : w2.heap[wr.heap.size]? = some (.cells oc 35 (0, 0)) := by rw [hb2'.block _ (heap_lt hob)]; exact hob
          refine ⟨u2, rfl, hob2, ?_⟩
          simp only [Act.put, List.setIfInBounds_toArray, List.set_cons_zero, List.set_cons_succ]
          have hb2 : Below wr.heap.size wr w2 := hwo.trans (hb2'.mono hwo.size)
          have HW2 := hide (write_any (R1.out.below hb2) oi u2 d hu2.bytes (fun s hs => by have := (R4.out s hs).1; omega))
          refine only_call 6 (some 68) rfl rfl rfl (by kernel_rfl) (exec_call3 rfl enterWrite rfl rfl rfl rfl) (HW2.out.mono ?_)
          rintro e w3 ⟨rfl, hdk3, htn3⟩
          have hob3 : w3.heap[wr.heap.size]? = some (.cells oc 35 (0, 0)) := by rw [htn3.block _ (heap_lt hob2) (fun hx => by have := (R2.out _ hx).2; omega)]; exact hob2
          refine ⟨_, rfl, hob3, ?_⟩
          simp only [Act.put, List.setIfInBounds_toArray, List.set_cons_zero, List.set_cons_succ]
          refine wpAnyH_done (by kernel_rfl) ?_ _
          have HNEW : Hid (OneR w w3 b 4 (j + 1)) := OneR.write R2.out R3.out R4.out R8.out hb2 hdk3 htn3
          clear hoc hwo hob hS0 HCP hS hu2 hb2' hob2 hb2 HW2 hdk3 htn3 hob3
          go_wp2_with fail
          go_roundg m2
          case measure => omega
          case rel => exact ⟨j + 1, by omega, by go_num, HNEW.out⟩
        · have hbb : ((d.length : Int) == 128) = false := by simp; omega
          clear hlen
          go_wp2
          go_roundg m2
          case measure => omega
          case rel => exact ⟨j + 1, by omega, by go_num, (HON.out.below (HAL.out _)).mono (by omega)⟩
      | zero =>
        have hend : ¬ (j : Int) < (l.length : Int) := by omega
        have HJL : Hid (j ≤ 150) := by have := HL.out; show _ ≤ _; omega
        have HWW : Hid (∀ s ∈ S, s.wait.length ≤ 1000000) := fun s hs => by have := (R4.out s hs).1; have := HJL.out; omega
        have HFL := hide (flush_any R1.out HWW.out)
        clear hj HON
        go_wp2_with fail
        refine HFL.out.mono ?_
        rintro e w2 ⟨rfl, hdk2, htn2⟩
        have hF2 : ∀ k, ext F wr w2 k → w.heap.size ≤ k ∧ k < w2.heap.size := fun k hk => by
          have := R8.out.size
          have := htn2.size
          rcases hk with hk | hk
          · have := R2.out k hk; omega
          · omega
        have HLA := hide (La.start hdk2 hF2 (R8.out.trans (htn2.below R8.out.size (fun k hk => (R2.out k hk).1))))
        have HS4 : Hid ((S.map Sec.flushed).length = 4) := by rw [List.length_map]; exact R3.out
        have HSB : Hid (∀ s ∈ S.map Sec.flushed, s.wait = [] ∧ s.bad = false) := fun s hs => by obtain ⟨s0, h0, rfl⟩ := List.mem_map.1 hs; exact ⟨rfl, (R4.out s0 h0).2⟩
        obtain ⟨S2, hS2⟩ : ∃ S2, S2 = S.map Sec.flushed := ⟨_, rfl⟩
        obtain ⟨F2, hF2e⟩ : ∃ F2, F2 = ext F wr w2 := ⟨_, rfl⟩
        rw [← hS2] at HS4 HSB
        rw [← hS2, ← hF2e] at HLA
        clear hS2 hF2e hF2 hdk2 htn2 HFL HWW R1 R2 R3 R4 R8 HJL
        go_wp2_with fail
        obtain ⟨A, hA⟩ : ∃ A, A = w2.heap.size := ⟨_, rfl⟩
        rw [← hA] at HLA ⊢
        go_loopg [72] 4 (fun gk i wr => ∃ q, q + gk = 4 ∧ i = .int .i64 (q : Int) ∧ ∃ vs ls, La w wr b A F2 S2 vs ls ∧ ∀ i, i < q → ls i = hadOf S2 i)
        case atStart => exact ⟨0, by omega, rfl, _, _, HLA.out, fun i hi => by omega⟩
        case round =>
          clear HLA hA
          obtain ⟨q, hq, rfl, vs, ls, hla, hls⟩ := hrel
          have HLA := hide hla
          have HLS := hide hls
          clear hla hls
          cases gk with
          | succ m2 =>
            have hlt : (q : Int) < 4 := by omega
            have hq4 : q < 4 := by omega
            have hq64 : I64 (q : Int) := I64.nat (by omega)
            obtain ⟨s, hs⟩ := get_of_lt (S := S2) (i := q) (by rw [HS4.out]; omega)
            have hsb := HSB.out s (List.mem_of_getElem? hs)
            have hql := (List.getElem?_eq_some_iff.1 hs).1
            have HRD := hide (read_any HLA.out.dk (q : Int) hq64 (fun s hs => by rw [(HSB.out s hs).1]; simp))
            rw [show Readed S2 (q : Int) wr = fun e w' => ∃ u, e = .returned (.tuple #[u, errV 0]) ∧ Own w' wr.heap.size u s.dur ∧ Below wr.heap.size wr w' by
              unfold Readed
              rw [show rErr S2 (q : Int) = 0 by unfold rErr; rw [hasB_nat hql, Int.toNat_natCast, hs]; simp [hsb.2], show rDat S2 (q : Int) = s.dur by unfold rDat; rw [hasB_nat hql, Int.toNat_natCast, hs]; simp [hsb.2, Sec.top_nil hsb.1]]] at HRD
            have HHO : Hid (hadOf S2 q = [s.dur]) := by unfold hadOf; rw [hs]; show s.dur :: s.wait = _; rw [hsb.1]
            have HA4 : Hid (∀ wx, (Instr.indexAt 56 (.pointer (some ⟨A, 0, none⟩)) (.int .i64 (q : Int))).run Try.prog wx = .ok (.pointer (some ⟨A, q, none⟩)) wx) := fun wx => addr4 hq4
            have HQ4 := hide hq4
            clear hs hsb hql hq64 hq4
            go_wp2_with fail
            refine HRD.out.mono ?_
            rintro e w4 ⟨u, rfl, ho, hb4⟩
            rw [errV_zero]
            have HNEW := hide (HLA.out.first hb4 ho HQ4.out)
            obtain ⟨v0, hv0⟩ := HLA.out.get HQ4.out
            have hal : Below w4.heap.size w4 (w4.alloc (.cells #[u] 32)) := (Below.refl _ _).alloc (Nat.le_refl _) _
            obtain ⟨hc1, hc2⟩ := ((HLA.out.below hb4).below hal).cell hv0
            obtain ⟨aou, capu, rfl⟩ := ho.form
            have ha4 := HA4.out (w4.alloc (.cells #[.slice aou s.dur.length capu] 32))
            clear ho hb4 HRD hal hv0 HA4
            go_wp2_with fail
            go_roundg m2
            case measure => omega
            case rel =>
              refine ⟨q + 1, by omega, by go_num, _, _, HNEW.out, fun i hi => ?_⟩
              show (if i = q then [s.dur] else ls i) = _
              by_cases hiq : i = q
              · rw [if_pos hiq, hiq, HHO.out]
              · rw [if_neg hiq]; exact HLS.out i (by omega)
          | zero =>
            have hend2 : ¬ (q : Int) < 4 := by omega
            have HQ : Hid (∀ i, i < 4 → ls i = hadOf S2 i) := fun i hi => HLS.out i (by omega)
            clear HLS hq
            go_wp2_with fail
            go_loopg [90] l2.length (fun gk i wr => ∃ j, j + gk = l2.length ∧ i = .int .i64 (j : Int) ∧ ∃ F S vs ls, La w wr b A F S vs ls ∧ S.length = 4 ∧ (∀ s ∈ S, s.wait.length ≤ j ∧ s.bad = false) ∧ ∀ i, i < 4 → ls i = hadOf S i)
            case atStart => exact ⟨0, by omega, rfl, F2, S2, vs, ls, HLA.out, HS4.out, fun s hs => by rw [(HSB.out s hs).1]; exact ⟨by simp, (HSB.out s hs).2⟩, HQ.out⟩
            case round =>
              clear HLA HQ HS4 HSB
              obtain ⟨j, hj, rfl, F, S, vs, ls, hla, r3, r4, hls⟩ := hrel
              have HLA := hide hla
              have R1 := hide hla.dk
              have R2 := hide hla.fb
              have R3 := hide r3
              have R4 := hide r4
              have R8 := hide hla.bel
              have HLS := hide hls
              clear hla r3 r4 hls
              cases gk with
              | succ m2 =>
                have hjl : j < l2.length := by omega
                have hlt : (j : Int) < (l2.length : Int) := by omega
                have hb0 : (0 : Int) ≤ (j : Int) := by omega
                obtain ⟨o, ho⟩ : ∃ o, l2[j]? = some o := ⟨l2[j], by simp [hjl]⟩
                obtain rfl := K2.out (by omega)
                have hop0 := K3.out j o ho
                have hop := hop0.below R8.out
                obtain ⟨kind, oi, on, dv, d, opv, ops⟩ := o
                have q0 : wr.cell? ⟨gl2, ol2 + j * 5, none⟩ = some (.int .i64 kind) := hop.c0
                have q1 : wr.cell? ⟨gl2, ol2 + j * 5 + 1, none⟩ = some (.int .i64 oi) := hop.c1
                have q2 : wr.cell? ⟨gl2, ol2 + j * 5 + 2, none⟩ = some (.int .i64 on) := hop.c2
                have q3 : wr.cell? ⟨gl2, ol2 + j * 5 + 3, none⟩ = some dv := hop.c3
                have q4 : wr.cell? ⟨gl2, ol2 + j * 5 + 4, none⟩ = some opv := hop.c4
                have HDB : Hid (Bytes wr dv d) := hop.hd
                have HDW : Hid (Bytes w dv d) := hop0.hd
                have HII : Hid (I64 oi) := hop.hi
                have HNN : Hid (I64 on) := hop.hn
                have HPP : Hid (Ints wr opv ops) := hop.hp
                have HPW : Hid (Ints w opv ops) := hop0.hp
                have hgl := cell_lt q0
                have HJ : Hid ((j : Int) + 1 < 160) := by have := HL2.out; show _ < _; omega
                have hjj := HJ.out
                obtain ⟨aod, capd, gd, offd, hdv, -⟩ := hop.hd
                obtain ⟨aop, capp, gp, offp, hpv, -⟩ := hop.hp
                have hdv' : dv = .slice aod d.length capd := hdv
                have hpv' : opv = .slice aop ops.length capp := hpv
                clear hdv hpv
                subst hdv' hpv'
                have HAL : Hid (∀ o, Below wr.heap.size wr (wr.alloc o)) := fun o => (Below.refl _ _).alloc (Nat.le_refl _) o
                clear hop hop0 ho
                by_cases hc : d.length = 128 ∧ 0 ≤ oi ∧ oi < 4
                · obtain ⟨hd128, ho0, ho4⟩ := hc
                  obtain ⟨k, rfl⟩ : ∃ k : Nat, oi = (k : Int) := ⟨oi.toNat, by omega⟩
                  have hbb : ((d.length : Int) == 128) = true := by simp [hd128]
                  have hg0 : decide ((0 : Int) ≤ (k : Int)) = true := by simp
                  have hg4 : decide ((k : Int) < 4) = true := by simp; omega
                  have HK4 : Hid (k < 4) := by show _ < _; omega
                  have HD128 := hide hd128
                  have HWE : Hid (wErr S (k : Int) d = 0) := by show wErr S (k : Int) d = 0; unfold wErr; rw [hasB_nat (by rw [R3.out]; exact HK4.out)]; simp [HD128.out]
                  clear hd128 ho0 ho4
                  go_wp2_with fail
                  generalize hoc : #[Value.int .i64 kind, Value.int .i64 (k : Int), Value.int .i64 on, Value.slice aod d.length capd, Value.slice aop ops.length capp] = oc
                  have hwo : Below wr.heap.size wr (wr.alloc (.cells oc 35)).drew := ((Below.refl _ _).alloc (Nat.le_refl _) _).drew
                  have hob : (wr.alloc (.cells oc 35)).drew.heap[wr.heap.size]? = some (.cells oc 35 (0, 0)) := heap_alloc_new wr _
                  have hS0 : ∀ wx : World, wx.heap[wr.heap.size]? = some (.cells oc 35 (0, 0)) → wx.cell? ⟨wr.heap.size, 1, none⟩ = some (.int .i64 (k : Int)) ∧ wx.cell? ⟨wr.heap.size, 3, none⟩ = some (.slice aod d.length capd) := fun wx hx => by
                    rw [cell_of_row wx _ _ _ _ _ hx, cell_of_row wx _ _ _ _ _ hx, ← hoc]; exact ⟨rfl, rfl⟩
                  have HCP := hide (copy_any d (.slice aod d.length capd) (wr.alloc (.cells oc 35)).drew (HDB.out.below hwo))
                  refine wp_region_held_drew (S := fun wx => wx.heap[wr.heap.size]? = some (.cells oc 35 (0, 0))) (by kernel_rfl) hob (fun hS => ?_)
                  refine take_run 0 (some 108) (.pointer (some ⟨b, 0, none⟩)) rfl rfl rfl (by kernel_rfl) (by kernel_rfl) (by kernel_rfl) (fun _ _ _ h => h) (fun wx hx => exec_move rfl rfl) hS ?_
                  simp only [Act.put, List.setIfInBounds_toArray, List.set_cons_zero, List.set_cons_succ]
                  refine take_run 1 (some 109) (.pointer (some ⟨wr.heap.size, 1, none⟩)) rfl rfl rfl (by kernel_rfl) (by kernel_rfl) (by kernel_rfl) (fun _ _ _ h => h) (fun wx hx => exec_field rfl (opField1 _ wx) rfl) hS ?_
                  simp only [Act.put, List.setIfInBounds_toArray, List.set_cons_zero, List.set_cons_succ]
                  refine take_run 2 (some 110) (.int .i64 (k : Int)) rfl rfl rfl (by kernel_rfl) (by kernel_rfl) (by kernel_rfl) (fun _ _ _ h => h) (fun wx hx => exec_load rfl (load_int (hS0 wx hx).1) rfl) hS ?_
                  simp only [Act.put, List.setIfInBounds_toArray, List.set_cons_zero, List.set_cons_succ]
                  refine take_run 3 (some 111) (.pointer (some ⟨wr.heap.size, 3, none⟩)) rfl rfl rfl (by kernel_rfl) (by kernel_rfl) (by kernel_rfl) (fun _ _ _ h => h) (fun wx hx => exec_field rfl (opField3 _ wx) rfl) hS ?_
                  simp only [Act.put, List.setIfInBounds_toArray, List.set_cons_zero, List.set_cons_succ]
                  refine take_run 4 (some 112) (.slice aod d.length capd) rfl rfl rfl (by kernel_rfl) (by kernel_rfl) (by kernel_rfl) (fun _ _ _ h => h) (fun wx hx => exec_load rfl (load_bytes (hS0 wx hx).2) rfl) hS ?_
                  simp only [Act.put, List.setIfInBounds_toArray, List.set_cons_zero, List.set_cons_succ]
                  refine only_call 5 (some 113) rfl rfl rfl (by kernel_rfl) (exec_call1 rfl enterCopy rfl rfl) (HCP.out.mono ?_)
                  rintro e w2 ⟨u2, rfl, hu2, hb2'⟩
                  have hob2 : w2.heap[wr.heap.size]? = some (.cells oc 35 (0, 0)) := by rw [hb2'.block _ (heap_lt hob)]; exact hob
                  refine ⟨u2, rfl, hob2, ?_⟩
                  simp only [Act.put, List.setIfInBounds_toArray, List.set_cons_zero, List.set_cons_succ]
                  have hb2 : Below wr.heap.size wr w2 := hwo.trans (hb2'.mono hwo.size)
                  have HW2 := hide (write_any (R1.out.below hb2) (k : Int) u2 d hu2.bytes (fun s hs => by have := (R4.out s hs).1; omega))
                  rw [HWE.out] at HW2
                  refine only_call 6 (some 114) rfl rfl rfl (by kernel_rfl) (exec_call3 rfl enterWrite rfl rfl rfl rfl) (HW2.out.mono ?_)
                  rintro e w3 ⟨rfl, hdk3, htn3⟩
                  have hob3 : w3.heap[wr.heap.size]? = some (.cells oc 35 (0, 0)) := by rw [htn3.block _ (heap_lt hob2) (fun hx => by have := (R2.out _ hx).2; omega)]; exact hob2
                  refine ⟨_, rfl, hob3, ?_⟩
                  rw [errV_zero]
                  simp only [Act.put, List.setIfInBounds_toArray, List.set_cons_zero, List.set_cons_succ]
                  refine take_run 7 (some 115) (.bool false) rfl rfl rfl (by kernel_rfl) (by kernel_rfl) (by kernel_rfl) (fun _ _ _ h => h) (fun wx hx => exec_neqNil rfl rfl rfl) hob3 ?_
                  simp only [Act.put, List.setIfInBounds_toArray, List.set_cons_zero, List.set_cons_succ]
                  refine wpAnyH_done (by kernel_rfl) ?_ _
                  have HL3 := hide ((HLA.out.below hb2).turn hdk3 htn3 (fun _ hk => hk))
                  clear hwo hob HCP hS hu2 hb2' hob2 hb2 HW2 hdk3 htn3
                  go_wp2_with fail
                  have hdr : Below w3.heap.size w3 w3.drew := (Below.refl _ _).drew
                  obtain ⟨v0, hv0⟩ := HL3.out.get HK4.out
                  have hlv : (ls k).length < 1000000 := by
                    rw [HLS.out k HK4.out]
                    unfold hadOf
                    cases hs : S[k]? with
                    | none => simp
                    | some s => have := (R4.out s (List.mem_of_getElem? hs)).1; have := HL2.out; simp; omega
                  obtain ⟨v', w5, hr5, hg5, hst5, hla5⟩ := (HL3.out.below hdr).more hv0 aod d.length capd HDW.out (by have := HD128.out; omega) hlv
                  have hszA : A < wr.heap.size := heap_lt HLA.out.arr
                  have hal : Below w3.drew.heap.size w3.drew (w3.drew.alloc (.cells #[.slice aod d.length capd] 32)) := (Below.refl _ _).alloc (Nat.le_refl _) _
                  have hcl1 := ((HL3.out.below hdr).cell hv0).1
                  have hcl2 := (((HL3.out.below hdr).below hal).cell hv0).1
                  have hobd : w3.drew.heap[wr.heap.size]? = some (.cells oc 35 (0, 0)) := hob3
                  have hob4 : (w3.drew.alloc (.cells #[.slice aod d.length capd] 32)).heap[wr.heap.size]? = some (.cells oc 35 (0, 0)) := by rw [hal.block _ (heap_lt hobd)]; exact hobd
                  have hob5 : w5.heap[wr.heap.size]? = some (.cells oc 35 (0, 0)) := by rw [hg5.block _ (heap_lt hobd) (fun e => by have := (HLA.out.lt hv0 e.symm).2; omega)]; exact hobd
                  have hob6 : (w5.setCell ⟨A, k, none⟩ v').heap[wr.heap.size]? = some (.cells oc 35 (0, 0)) := by rw [Below.heap_setCell _ _ _ _ (by show wr.heap.size ≠ A; omega)]; exact hob5
                  have HNEW := hide hla5
                  clear hla5 hg5
                  refine wp_region_held_drew (S := fun wx => wx.heap[wr.heap.size]? = some (.cells oc 35 (0, 0))) (by kernel_rfl) hob3 (fun hS => ?_)
                  refine take_run 0 (some 116) (.pointer (some ⟨wr.heap.size, 1, none⟩)) rfl rfl rfl (by kernel_rfl) (by kernel_rfl) (by kernel_rfl) (fun _ _ _ h => h) (fun wx hx => exec_field rfl (opField1 _ wx) rfl) hS ?_
                  simp only [Act.put, List.setIfInBounds_toArray, List.set_cons_zero, List.set_cons_succ]
                  refine take_run 1 (some 117) (.int .i64 (k : Int)) rfl rfl rfl (by kernel_rfl) (by kernel_rfl) (by kernel_rfl) (fun _ _ _ h => h) (fun wx hx => exec_load rfl (load_int (hS0 wx hx).1) rfl) hS ?_
                  simp only [Act.put, List.setIfInBounds_toArray, List.set_cons_zero, List.set_cons_succ]
                  refine take_run 2 (some 118) (.pointer (some ⟨wr.heap.size, 1, none⟩)) rfl rfl rfl (by kernel_rfl) (by kernel_rfl) (by kernel_rfl) (fun _ _ _ h => h) (fun wx hx => exec_field rfl (opField1 _ wx) rfl) hS ?_
                  simp only [Act.put, List.setIfInBounds_toArray, List.set_cons_zero, List.set_cons_succ]
                  refine take_run 3 (some 119) (.int .i64 (k : Int)) rfl rfl rfl (by kernel_rfl) (by kernel_rfl) (by kernel_rfl) (fun _ _ _ h => h) (fun wx hx => exec_load rfl (load_int (hS0 wx hx).1) rfl) hS ?_
                  simp only [Act.put, List.setIfInBounds_toArray, List.set_cons_zero, List.set_cons_succ]
                  refine take_run 4 (some 120) (.pointer (some ⟨A, k, none⟩)) rfl rfl rfl (by kernel_rfl) (by kernel_rfl) (by kernel_rfl) (fun _ _ _ h => h) (fun wx hx => exec_index rfl (addr4 HK4.out) rfl rfl) hS ?_
                  simp only [Act.put, List.setIfInBounds_toArray, List.set_cons_zero, List.set_cons_succ]
                  refine take_run 6 (some 122) (.pointer (some ⟨wr.heap.size, 3, none⟩)) rfl rfl rfl (by kernel_rfl) (by kernel_rfl) (by kernel_rfl) (fun _ _ _ h => h) (fun wx hx => exec_field rfl (opField3 _ wx) rfl) hS ?_
                  simp only [Act.put, List.setIfInBounds_toArray, List.set_cons_zero, List.set_cons_succ]
                  refine take_run 7 (some 123) (.slice aod d.length capd) rfl rfl rfl (by kernel_rfl) (by kernel_rfl) (by kernel_rfl) (fun _ _ _ h => h) (fun wx hx => exec_load rfl (load_bytes (hS0 wx hx).2) rfl) hS ?_
                  simp only [Act.put, List.setIfInBounds_toArray, List.set_cons_zero, List.set_cons_succ]
                  refine both_value 5 8 (some 121) (some 124) rfl rfl rfl rfl rfl rfl (by kernel_rfl) (by kernel_rfl) (by kernel_rfl) (vi := v0) (vj := .slice (some ⟨w3.heap.size, 0, none⟩) 1 1) (w' := w3.drew.alloc (.cells #[.slice aod d.length capd] 32)) ?_ ?_ hS hob4 rfl rfl ?_
                  · rintro a' (rfl | rfl) wx (rfl | rfl)
                    · exact exec_load rfl (load_bytess hcl1) rfl
                    · exact exec_load rfl (load_bytess hcl2) rfl
                    · exact exec_load rfl (load_bytess hcl1) rfl
                    · exact exec_load rfl (load_bytess hcl2) rfl
                  · rintro a' (rfl | rfl)
                    · exact exec_one rfl (run_oneB w3.drew _ _ _) rfl
                    · exact exec_one rfl (run_oneB w3.drew _ _ _) rfl
                  simp only [Act.put, List.setIfInBounds_toArray, List.set_cons_zero, List.set_cons_succ]
                  refine only_value 9 (some 125) rfl rfl rfl (by kernel_rfl) (exec_append rfl hr5 rfl rfl) hob5 ?_
                  simp only [Act.put, List.setIfInBounds_toArray, List.set_cons_zero, List.set_cons_succ]
                  refine take_run 10 (some 126) (.pointer (some ⟨A, k, none⟩)) rfl rfl rfl (by kernel_rfl) (by kernel_rfl) (by kernel_rfl) (fun _ _ _ h => h) (fun wx hx => exec_index rfl (addr4 HK4.out) rfl rfl) hob5 ?_
                  simp only [Act.put, List.setIfInBounds_toArray, List.set_cons_zero, List.set_cons_succ]
                  refine only_skip 11 none rfl rfl rfl (by kernel_rfl) (exec_store rfl hst5 rfl rfl) hob6 ?_
                  refine wpAnyH_done (by kernel_rfl) ?_ _
                  clear hoc hS0 hob3 hS hdr hv0 hlv hr5 hst5 hszA hal hcl1 hcl2 hobd hob4 hob5 hob6
                  go_wp2_with fail
                  go_roundg m2
                  case measure => omega
                  case rel =>
                    refine ⟨j + 1, by omega, by go_num, _, _, _, _, HNEW.out, by rw [wSet_length]; exact R3.out, fun s hs => ?_, fun i hi => ?_⟩
                    · obtain ⟨s0, h0, e1, e2⟩ := wSet_mem hs
                      have := R4.out s0 h0
                      exact ⟨by omega, by rw [e1]; exact this.2⟩
                    · show (if i = k then ls k ++ [d] else ls i) = _
                      rw [hadOf_wSet (by rw [R3.out]; exact HK4.out) HD128.out]
                      split
                      · rw [HLS.out k HK4.out]
                      · exact HLS.out i hi
                · have hcc : ((d.length : Int) == 128) = false ∨ (((d.length : Int) == 128) = true ∧ decide ((0 : Int) ≤ oi) = false) ∨ (((d.length : Int) == 128) = true ∧ decide ((0 : Int) ≤ oi) = true ∧ decide (oi < 4) = false) := by
                    by_cases h1 : d.length = 128
                    · have h1' : ((d.length : Int) == 128) = true := by simp [h1]
                      by_cases h2 : 0 ≤ oi
                      · exact .inr (.inr ⟨h1', by simpa using h2, by simp; omega⟩)
                      · exact .inr (.inl ⟨h1', by simpa using h2⟩)
                    · exact .inl (by simp; omega)
                  have HREL : Hid (∀ o, La w (wr.alloc o) b A F S vs ls) := fun o => HLA.out.below (HAL.out o)
                  clear hc
                  rcases hcc with c1 | ⟨c1, c2⟩ | ⟨c1, c2, c3⟩
                  all_goals
                    go_wp2
                    go_roundg m2
                    case measure => omega
                    case rel => exact ⟨j + 1, by omega, by go_num, F, S, vs, ls, HREL.out _, R3.out, fun s hs => ⟨by have := (R4.out s hs).1; omega, (R4.out s hs).2⟩, HLS.out⟩
              | zero =>
                have hend3 : ¬ (j : Int) < (l2.length : Int) := by omega
                have HJL : Hid (j ≤ 150) := by have := HL2.out; show _ ≤ _; omega
                clear hj
                obtain ⟨v', w6, hr6, hi6, hb6, hf6, ⟨ao6, n6, cap6, rfl⟩⟩ := append_picks wr (.slice aoq ps.length capq) ps (HPS.out.below R8.out) (by have := HPL.out; omega)
                have HCR := hide (crash_any (R1.out.below hb6) (fun s hs => by have := (R4.out s hs).1; have := HJL.out; omega) (.slice ao6 n6 cap6) ps hi6 (fun k hk hx => by have := hf6 k hk; have := (R2.out k hx).2; omega))
                have HB6 := hide hb6
                clear hi6 hb6 hf6
                go_wp2_with ((with_reducible refine wpList_appendI rfl rfl hr6 ?_ ?_ ?_ ?_); rfl; rfl; rfl)
                refine HCR.out.mono ?_
                rintro e w7 ⟨rfl, hdk7, htn7⟩
                have HL7 := hide ((HLA.out.below HB6.out).turn hdk7 htn7 (fun _ hk => hk))
                obtain ⟨y0, y1, y2, y3, rfl⟩ : ∃ a b c d, vs = [a, b, c, d] := by
                  have := HLA.out.vl
                  match vs, this with
                  | [a, b, c, d], _ => exact ⟨a, b, c, d, rfl⟩
                have c0 := (HL7.out.cell (i := 0) rfl).1
                have c1 := (HL7.out.cell (i := 1) rfl).1
                have c2 := (HL7.out.cell (i := 2) rfl).1
                have c3 := (HL7.out.cell (i := 3) rfl).1
                clear hdk7 htn7 HCR HLA HB6 hr6
                go_wp2_with fail
                clear c0 c1 c2 c3
                go_loopg [134] 4 (fun gk i wr => ∃ q, q + gk = 4 ∧ i = .int .i64 (q : Int) ∧ Below w7.heap.size w7 wr)
                case atStart => exact ⟨0, by omega, rfl, Below.refl _ _⟩
                case round =>
                  obtain ⟨q, hq, rfl, hbz⟩ := hrel
                  obtain ⟨wz, hwz⟩ : ∃ wz, wz = wr := ⟨_, rfl⟩
                  subst hwz
                  have HBZ := hide hbz
                  have HLZ := hide (HL7.out.below hbz)
                  have HBW := hide HLZ.out.bel
                  clear hbz
                  cases gk with
                  | zero =>
                    have hend4 : ¬ (q : Int) < 4 := by omega
                    have HPD := hide (pending_any HLZ.out.dk)
                    rw [show ∀ wx, Pended (crS S ps) wx = fun e w' => ∃ v, e = .returned v ∧ w'.ownsRow wx.heap.size 3 1 v 0 [] ∧ Below wx.heap.size wx w' from fun wx => by unfold Pended; rw [crS_none]; rfl] at HPD
                    go_wp2_with fail
                    refine HPD.out.mono ?_
                    rintro e w8 ⟨pv, rfl, hrow, hb8⟩
                    obtain ⟨ao8, cap8, rfl⟩ := ownsRow_form hrow
                    have HBW8 : Hid (Below w.heap.size w w8) := HBW.out.trans (hb8.mono HBW.out.size)
                    have HA := hide (awake_any w8)
                    clear hrow hb8 HPD
                    go_wp2_with (go_at_call 12; refine HA.out.mono ?_; rintro e w' ⟨rfl, hb⟩; have HBB := hide (HBW8.out.trans (hb.mono HBW8.out.size)); clear hb)
                    go_ret
                    exact ⟨rfl, HBB.out⟩
                  | succ m =>
                    have hlt : (q : Int) < 4 := by omega
                    have hq4 : q < 4 := by omega
                    have hq64 : I64 (q : Int) := I64.nat (by omega)
                    obtain ⟨s, hs⟩ := get_of_lt (S := S) (i := q) (by rw [R3.out]; omega)
                    have hbad := (R4.out s (List.mem_of_getElem? hs)).2
                    obtain ⟨s', hs', hw', hb', htop⟩ := crS_at (ps := ps) hs
                    have hql := (List.getElem?_eq_some_iff.1 hs').1
                    have HRD := hide (read_any HLZ.out.dk (q : Int) hq64 (fun x hx => by obtain ⟨i, hi⟩ := List.getElem?_of_mem hx; obtain ⟨s0, h0⟩ := get_of_lt (S := S) (i := i) (by have := (List.getElem?_eq_some_iff.1 hi).1; rw [crS_length] at this; exact this); obtain ⟨s1, h1, h2, -⟩ := crS_at (ps := ps) h0; rw [hi] at h1; injection h1 with h1; rw [h1, h2]; simp))
                    rw [show ∀ wx, Readed (crS S ps) (q : Int) wx = fun e w' => ∃ u, e = .returned (.tuple #[u, errV 0]) ∧ Own w' wx.heap.size u s'.top ∧ Below wx.heap.size wx w' from fun wx => by
                      unfold Readed
                      rw [show rErr (crS S ps) (q : Int) = 0 by unfold rErr; rw [hasB_nat hql, Int.toNat_natCast, hs']; simp [hb', hbad], show rDat (crS S ps) (q : Int) = s'.top by unfold rDat; rw [hasB_nat hql, Int.toNat_natCast, hs']; simp [hb', hbad]]] at HRD
                    have HWT : Hid (∀ wx, Dk wx (ext F w6 w7) b (crS S ps) → Calls Try.prog 22 #[.pointer (some ⟨b, 0, none⟩), .int .i64 (q : Int)] wx fun e w' => e = .returned (.int .i64 0) ∧ w' = wx) := fun wx hdx => by
                      have := waiting_any hdx hq64
                      rw [wt_at hs', hw'] at this
                      exact this
                    obtain ⟨yq, hyq⟩ := HLZ.out.get hq4
                    have hrow := HLZ.out.row q yq hyq
                    rw [HLS.out q hq4] at hrow
                    have HTOP : Hid (s'.top ∈ hadOf S q) := by show _ ∈ _; unfold hadOf; rw [hs]; exact htop
                    obtain ⟨L, hL⟩ : ∃ L, L = hadOf S q := ⟨_, rfl⟩
                    have HLL : Hid (L.length ≤ 1000) := by
                      show L.length ≤ 1000
                      rw [hL]; unfold hadOf; rw [hs]
                      have := (R4.out s (List.mem_of_getElem? hs)).1
                      have := HJL.out
                      simp; omega
                    rw [← hL] at hrow HTOP
                    have HROW := hide hrow
                    obtain ⟨aoy, capy, rfl⟩ := hrow.form
                    have hix := index4 (w := wz) hyq
                    clear hs hbad hs' hw' hb' htop hql hq64 hq4 hyq hrow hL
                    go_wp2_with fail
                    refine HRD.out.mono ?_
                    rintro e w8 ⟨u, rfl, ho, hb8⟩
                    rw [errV_zero]
                    have HRW8 := hide (HROW.out.keep (P' := fun _ => True) (w' := w8) (fun k _ hk => hb8.block k hk) (fun _ _ => trivial) (fun k _ hk => hb8.block k hk))
                    have HU8 := hide ho.bytes
                    have HW8 := hide (HWT.out w8 (HLZ.out.dk.below hb8))
                    have HB8 : Hid (Below w7.heap.size w7 w8) := HBZ.out.trans (hb8.mono HBZ.out.size)
                    obtain ⟨aou, capu, rfl⟩ := ho.form
                    clear ho hb8 HRD hix HROW HWT
                    go_wp2_with fail
                    go_loopg [21, 146] L.length (fun gk ok i wx => ∃ p, p + gk = L.length ∧ i = .int .i64 (p : Int) ∧ ok = .bool (decide (s'.top ∈ L.take p)) ∧ wx = w8)
                    case atStart => exact ⟨0, by omega, rfl, by simp, rfl⟩
                    case round =>
                      obtain ⟨p, hp, rfl, rfl, hwx⟩ := hrel
                      obtain rfl : w8 = wr := hwx.symm
                      clear hwx
                      cases gk with
                      | zero =>
                        have hend5 : ¬ (p : Int) < (L.length : Int) := by omega
                        rw [show decide (s'.top ∈ L.take p) = true by rw [List.take_of_length_le (by omega)]; simpa using HTOP.out]
                        have hqq := hq
                        go_wp2_with (go_at_call 22; refine HW8.out.mono ?_; rintro e w' ⟨rfl, hww⟩; obtain rfl : w8 = w' := hww.symm)
                        go_roundg m
                        case measure => omega
                        case rel => exact ⟨q + 1, by omega, by go_num, HB8.out⟩
                      | succ m2 =>
                        have hlt5 : (p : Int) < (L.length : Int) := by omega
                        have hp0 : (0 : Int) ≤ (p : Int) := by omega
                        have hpp : (p : Int) + 1 < 1002 := by have := HLL.out; omega
                        have hpl : p < L.length := by omega
                        obtain ⟨x, hbs⟩ : ∃ x, L[p]? = some x := ⟨L[p], by simp [hpl]⟩
                        obtain ⟨g8, u8, rfl, hcell, hby⟩ := HRW8.out.at_ hbs
                        have HTS : Hid (L.take (p + 1) = L.take p ++ [x]) := take_snoc hbs
                        have HSM := hide (same_any s'.top x _ u8 w8 HU8.out hby)
                        obtain ⟨ao9, cap9, g9, o9, rfl, -⟩ := hby
                        by_cases hok : s'.top ∈ L.take p
                        · have hokd : decide (s'.top ∈ L.take p) = true := by simpa using hok
                          rw [hokd]
                          clear hokd hbs HSM
                          go_wp2_with fail
                          go_roundg m2
                          case measure => omega
                          case rel => exact ⟨p + 1, by omega, by go_num, by rw [HTS.out]; exact congrArg Value.bool (decide_eq_true (List.mem_append_left _ hok)).symm, rfl⟩
                        · have hokd : decide (s'.top ∈ L.take p) = false := by simpa using hok
                          rw [hokd]
                          have HDD : Hid (decide (s'.top ∈ L.take (p + 1)) = decide (s'.top = x)) := by show _ = _; rw [HTS.out]; exact decide_eq_decide.2 (by rw [List.mem_append, List.mem_singleton]; exact ⟨fun h => h.resolve_left hok, .inr⟩)
                          clear hokd hbs hok
                          go_wp2_with (go_at_call 16; refine HSM.out.mono ?_; rintro e w' ⟨rfl, hww⟩; obtain rfl : w8 = w' := hww.symm)
                          go_roundg m2
                          case measure => omega
                          case rel => exact ⟨p + 1, by omega, by go_num, by rw [HDD.out], rfl⟩
end Go.Proofs.Ytphmhepbilhkjaa
