/- DiskGrows walked. -/
import Derived.Test.YtphmhepbilhkjaaHad
namespace Go.Proofs.Ytphmhepbilhkjaa
open Go.RowKit Go.Extern

theorem pendI_grown (S : List Sec) (n : Nat) : pendI (S ++ List.replicate n zeroSec) = pendI S := by
  unfold pendI
  congr 1
  apply List.Perm.eq_of_pairwise (le := fun a b => a < b)
  · intro a b _ _ h1 h2; omega
  · exact List.Pairwise.filter _ List.pairwise_lt_range
  · exact List.Pairwise.filter _ List.pairwise_lt_range
  · refine (List.perm_ext_iff_of_nodup (pend_nodup _) (pend_nodup _)).2 (fun i => ?_)
    rw [mem_pend, mem_pend]
    constructor
    · rintro ⟨s, hs, hw⟩
      by_cases hl : i < S.length
      · rw [List.getElem?_append_left hl] at hs; exact ⟨s, hs, hw⟩
      · rw [List.getElem?_append_right (by omega)] at hs
        have := List.mem_of_getElem? hs
        rw [List.mem_replicate] at this
        rw [this.2] at hw
        exact absurd rfl hw
    · rintro ⟨s, hs, hw⟩
      exact ⟨s, by rw [List.getElem?_append_left (List.getElem?_eq_some_iff.1 hs).1]; exact hs, hw⟩

theorem pendI_i64 {S : List Sec} (h : S.length ≤ 4096) : ∀ k ∈ pendI S, I64 k := fun k hk => by
  unfold pendI at hk
  obtain ⟨i, hi, rfl⟩ := List.mem_map.1 hk
  rw [mem_pend] at hi
  obtain ⟨s, hs, -⟩ := hi
  have := (List.getElem?_eq_some_iff.1 hs).1
  exact I64.nat (by omega)
theorem pend_length_le (S : List Sec) : (pend S).length ≤ S.length := by
  unfold pend
  exact Nat.le_trans (List.length_filter_le _ _) (by simp)
theorem ownsRow_zero {w : World} {B : Nat} {e : TypeId} {z : Nat} {v : Value} {n : Nat} {xs : List Value} (h : w.ownsRow B e z v n xs) : w.ownsRow 0 e z v n xs := by
  obtain ⟨h1, h2⟩ := h
  refine ⟨h1, ?_⟩
  rcases h2 with h2 | ⟨g, cap, cur, hv, hg, r⟩
  · exact Or.inl h2
  · exact Or.inr ⟨g, cap, cur, hv, by omega, r⟩

set_option maxRecDepth 100000 in
set_option maxHeartbeats 8000000 in
theorem growsL_any (w : World) (n : Int) (v : Value) (l : List OpR) (m : Int) (hn : I64 n) (hm : I64 m) (hv : Script w v l) : Calls Try.prog 5 #[.int .i64 n, v, .int .i64 m] w fun e w' => e = .returned (.bool true) ∧ Below w.heap.size w w' := by
  obtain ⟨ao, cap, gl, ol, rfl, h2, h3⟩ := hv
  have H2 := hide h2
  have H3 := hide h3
  have HMI := hide hm
  clear h2 h3 hm
  have HN := hide (new_any w n)
  cases hnb : newB n with
  | false =>
    have hdd : decide (n < 1) = true ∨ (decide (n < 1) = false ∧ decide ((4096 : Int) < n) = true) := by
      have : ¬ (1 ≤ n ∧ n ≤ 4096) := by simpa [newB] using hnb
      by_cases h0 : n < 1
      · exact .inl (by simpa using h0)
      · exact .inr ⟨by simpa using h0, by simp; omega⟩
    have HNB := hide hnb
    clear hnb hn
    go_enter Try.func5, Try.ntmps5
    go_wp2_with fail
    refine HN.out.mono ?_
    rintro e w1 ⟨hb1, hif⟩
    rw [HNB.out] at hif
    simp only [Bool.false_eq_true, if_false] at hif
    subst hif
    rw [errV_20]
    have HBW := hide hb1
    have HA := hide (awake_any w1)
    clear hb1 HN
    rcases hdd with hd1 | ⟨hd1, hd2⟩
    · go_wp2_with (go_at_call 12; refine HA.out.mono ?_; rintro e w' ⟨rfl, hb⟩; have HBB := hide (HBW.out.trans (hb.mono HBW.out.size)); clear hb)
      go_ret
      exact ⟨rfl, HBB.out⟩
    · go_wp2_with (go_at_call 12; refine HA.out.mono ?_; rintro e w' ⟨rfl, hb⟩; have HBB := hide (HBW.out.trans (hb.mono HBW.out.size)); clear hb)
      go_ret
      exact ⟨rfl, HBB.out⟩
  | true =>
    have hnn : 1 ≤ n ∧ n ≤ 4096 := by simpa [newB] using hnb
    obtain ⟨c, rfl⟩ : ∃ c : Nat, n = (c : Int) := ⟨n.toNat, by omega⟩
    have HNB := hide hnb
    have HCC : Hid (1 ≤ c ∧ c ≤ 4096) := by show _ ∧ _; omega
    have e1 : decide ((c : Int) < 1) = false := by simp; omega
    have e2 : decide ((4096 : Int) < (c : Int)) = false := by simp; omega
    clear hnb hn hnn
    go_enter Try.func5, Try.ntmps5
    go_wp2_with fail
    refine HN.out.mono ?_
    rintro e w1 ⟨hb1, hif⟩
    rw [HNB.out] at hif
    simp only [if_true, Int.toNat_natCast] at hif
    obtain ⟨b, F, rfl, hdk, hF⟩ := hif
    rw [errV_zero]
    have HR0 := hide (fresh_one hdk hF hb1)
    have HBW := hide hb1
    clear hb1 hdk hF HN
    by_cases hcut : (40 : Int) < (c : Int) ∨ (60 : Int) < (l.length : Int) ∨ ((100 : Int) < m ∧ m ≤ 4096)
    · have HA := hide (awake_any w1)
      have hdd : decide ((40 : Int) < (c : Int)) = true ∨ (decide ((40 : Int) < (c : Int)) = false ∧ decide ((60 : Int) < (l.length : Int)) = true) ∨ (decide ((40 : Int) < (c : Int)) = false ∧ decide ((60 : Int) < (l.length : Int)) = false ∧ decide ((100 : Int) < m) = true ∧ decide (m ≤ 4096) = true) := by
        by_cases h0 : (40 : Int) < (c : Int)
        · exact .inl (by simpa using h0)
        · by_cases h1 : (60 : Int) < (l.length : Int)
          · exact .inr (.inl ⟨by simpa using h0, by simpa using h1⟩)
          · exact .inr (.inr ⟨by simpa using h0, by simpa using h1, by simp; omega, by simp; omega⟩)
      clear hcut
      rcases hdd with d1 | ⟨d1, d2⟩ | ⟨d1, d2, d3, d4⟩
      · go_wp2_with (go_at_call 12; refine HA.out.mono ?_; rintro e w' ⟨rfl, hb⟩; have HBB := hide (HBW.out.trans (hb.mono HBW.out.size)); clear hb)
        go_ret
        exact ⟨rfl, HBB.out⟩
      · go_wp2_with (go_at_call 12; refine HA.out.mono ?_; rintro e w' ⟨rfl, hb⟩; have HBB := hide (HBW.out.trans (hb.mono HBW.out.size)); clear hb)
        go_ret
        exact ⟨rfl, HBB.out⟩
      · go_wp2_with (go_at_call 12; refine HA.out.mono ?_; rintro e w' ⟨rfl, hb⟩; have HBB := hide (HBW.out.trans (hb.mono HBW.out.size)); clear hb)
        go_ret
        exact ⟨rfl, HBB.out⟩
    · have d1 : decide ((40 : Int) < (c : Int)) = false := by simp; omega
      have d2 : decide ((60 : Int) < (l.length : Int)) = false := by simp; omega
      have hdd : decide ((100 : Int) < m) = false ∨ (decide ((100 : Int) < m) = true ∧ decide (m ≤ 4096) = false) := by
        by_cases h0 : (100 : Int) < m
        · exact .inr ⟨by simpa using h0, by simp; omega⟩
        · exact .inl (by simpa using h0)
      have HC40 : Hid (c ≤ 40) := by show _ ≤ _; omega
      have HL : Hid (l.length ≤ 60) := by show _ ≤ _; omega
      have HM : Hid (m ≤ 100 ∨ 4096 < m) := by show _ ∨ _; omega
      clear hcut HBW
      rcases hdd with d3 | ⟨d3, d4⟩
      all_goals
        go_wp2_with fail
        go_loopg [63] l.length (fun gk i wr => ∃ j, j + gk = l.length ∧ i = .int .i64 (j : Int) ∧ OneR w wr b c j)
        case atStart => exact ⟨0, by omega, rfl, HR0.out⟩
        case round =>
          clear HR0
          obtain ⟨j, hj, rfl, hone⟩ := hrel
          have HON := hide hone
          obtain ⟨F, S, r1, r2, r3, r4, r8⟩ := hone
          have R1 := hide r1
          have R2 := hide r2
          have R3 := hide r3
          have R4 := hide r4
          have R8 := hide r8
          clear r1 r2 r3 r4 r8
          cases gk with
          | succ m2 =>
            have hjl : j < l.length := by omega
            have hlt : (j : Int) < (l.length : Int) := by omega
            have hb0 : (0 : Int) ≤ (j : Int) := by omega
            obtain ⟨o, ho⟩ : ∃ o, l[j]? = some o := ⟨l[j], by simp [hjl]⟩
            obtain rfl := H2.out (by omega)
            have hop0 := H3.out j o ho
            have hop := hop0.below R8.out
            obtain ⟨kind, oi, on, dv, d, opv, ops⟩ := o
            have q0 : wr.cell? ⟨gl, ol + j * 5, none⟩ = some (.int .i64 kind) := hop.c0
            have q1 : wr.cell? ⟨gl, ol + j * 5 + 1, none⟩ = some (.int .i64 oi) := hop.c1
            have q2 : wr.cell? ⟨gl, ol + j * 5 + 2, none⟩ = some (.int .i64 on) := hop.c2
            have q3 : wr.cell? ⟨gl, ol + j * 5 + 3, none⟩ = some dv := hop.c3
            have q4 : wr.cell? ⟨gl, ol + j * 5 + 4, none⟩ = some opv := hop.c4
            have HDB : Hid (Bytes wr dv d) := hop.hd
            have HDW : Hid (Bytes w dv d) := hop0.hd
            have HII : Hid (I64 oi) := hop.hi
            have HNN : Hid (I64 on) := hop.hn
            have HPP : Hid (Ints wr opv ops) := hop.hp
            have HPW : Hid (Ints w opv ops) := hop0.hp
            have hgl := cell_lt q0
            have HJ : Hid ((j : Int) + 1 < 70) := by have := HL.out; show _ < _; omega
            have hjj := HJ.out
            obtain ⟨aod, capd, gd, offd, hdv, -⟩ := hop.hd
            obtain ⟨aop, capp, gp, offp, hpv, -⟩ := hop.hp
            have hdv' : dv = .slice aod d.length capd := hdv
            have hpv' : opv = .slice aop ops.length capp := hpv
            clear hdv hpv
            subst hdv' hpv'
            have HAL : Hid (∀ o, Below wr.heap.size wr (wr.alloc o)) := fun o => (Below.refl _ _).alloc (Nat.le_refl _) o
            clear hop hop0 ho
            by_cases hk : kind = 2
            · subst hk
              have hkb : ((2 : Int) == 2) = true := by simp
              by_cases hbig : (d.length : Int) ≤ 1000
              · have hbb : decide ((d.length : Int) ≤ 1000) = true := by simpa using hbig
                clear hbig
                go_wp2_with fail
                generalize hoc : #[Value.int .i64 2, Value.int .i64 oi, Value.int .i64 on, Value.slice aod d.length capd, Value.slice aop ops.length capp] = oc
                have hwo : Below wr.heap.size wr (wr.alloc (.cells oc 35)).drew := ((Below.refl _ _).alloc (Nat.le_refl _) _).drew
                have hob : (wr.alloc (.cells oc 35)).drew.heap[wr.heap.size]? = some (.cells oc 35 (0, 0)) := heap_alloc_new wr _
                have hS0 : ∀ wx : World, wx.heap[wr.heap.size]? = some (.cells oc 35 (0, 0)) → wx.cell? ⟨wr.heap.size, 1, none⟩ = some (.int .i64 oi) ∧ wx.cell? ⟨wr.heap.size, 3, none⟩ = some (.slice aod d.length capd) := fun wx hx => by
                  rw [cell_of_row wx _ _ _ _ _ hx, cell_of_row wx _ _ _ _ _ hx, ← hoc]; exact ⟨rfl, rfl⟩
                have HCP := hide (copy_any d (.slice aod d.length capd) (wr.alloc (.cells oc 35)).drew (HDB.out.below hwo))
                refine wp_region_held_drew (S := fun wx => wx.heap[wr.heap.size]? = some (.cells oc 35 (0, 0))) (by kernel_rfl) hob (fun hS => ?_)
                refine take_run 0 (some 76) (.pointer (some ⟨b, 0, none⟩)) rfl rfl rfl (by kernel_rfl) (by kernel_rfl) (by kernel_rfl) (fun _ _ _ h => h) (fun wx hx => exec_move rfl rfl) hS ?_
                simp only [Act.put, List.setIfInBounds_toArray, List.set_cons_zero, List.set_cons_succ]
                refine take_run 1 (some 77) (.pointer (some ⟨wr.heap.size, 1, none⟩)) rfl rfl rfl (by kernel_rfl) (by kernel_rfl) (by kernel_rfl) (fun _ _ _ h => h) (fun wx hx => exec_field rfl (opField1 _ wx) rfl) hS ?_
                simp only [Act.put, List.setIfInBounds_toArray, List.set_cons_zero, List.set_cons_succ]
                refine take_run 2 (some 78) (.int .i64 oi) rfl rfl rfl (by kernel_rfl) (by kernel_rfl) (by kernel_rfl) (fun _ _ _ h => h) (fun wx hx => exec_load rfl (load_int (hS0 wx hx).1) rfl) hS ?_
                simp only [Act.put, List.setIfInBounds_toArray, List.set_cons_zero, List.set_cons_succ]
                refine take_run 3 (some 79) (.pointer (some ⟨wr.heap.size, 3, none⟩)) rfl rfl rfl (by kernel_rfl) (by kernel_rfl) (by kernel_rfl) (fun _ _ _ h => h) (fun wx hx => exec_field rfl (opField3 _ wx) rfl) hS ?_
                simp only [Act.put, List.setIfInBounds_toArray, List.set_cons_zero, List.set_cons_succ]
                refine take_run 4 (some 80) (.slice aod d.length capd) rfl rfl rfl (by kernel_rfl) (by kernel_rfl) (by kernel_rfl) (fun _ _ _ h => h) (fun wx hx => exec_load rfl (load_bytes (hS0 wx hx).2) rfl) hS ?_
                simp only [Act.put, List.setIfInBounds_toArray, List.set_cons_zero, List.set_cons_succ]
                refine only_call 5 (some 81) rfl rfl rfl (by kernel_rfl) (exec_call1 rfl enterCopy rfl rfl) (HCP.out.mono ?_)
                rintro e w2 ⟨u2, rfl, hu2, hb2'⟩
                have hob2 : w2.heap[wr.heap.size]? = some (.cells oc 35 (0, 0)) := by rw [hb2'.block _ (heap_lt hob)]; exact hob
                refine ⟨u2, rfl, hob2, ?_⟩
                simp only [Act.put, List.setIfInBounds_toArray, List.set_cons_zero, List.set_cons_succ]
                have hb2 : Below wr.heap.size wr w2 := hwo.trans (hb2'.mono hwo.size)
                have HW2 := hide (write_any (R1.out.below hb2) oi u2 d hu2.bytes (fun s hs => by have := (R4.out s hs).1; omega))
                refine only_call 6 (some 82) rfl rfl rfl (by kernel_rfl) (exec_call3 rfl enterWrite rfl rfl rfl rfl) (HW2.out.mono ?_)
                rintro e w3 ⟨rfl, hdk3, htn3⟩
                have hob3 : w3.heap[wr.heap.size]? = some (.cells oc 35 (0, 0)) := by rw [htn3.block _ (heap_lt hob2) (fun hx => by have := (R2.out _ hx).2; omega)]; exact hob2
                refine ⟨_, rfl, hob3, ?_⟩
                simp only [Act.put, List.setIfInBounds_toArray, List.set_cons_zero, List.set_cons_succ]
                refine wpAnyH_done (by kernel_rfl) ?_ _
                have HNEW : Hid (OneR w w3 b c (j + 1)) := OneR.write R2.out R3.out R4.out R8.out hb2 hdk3 htn3
                clear hoc hwo hob hS0 HCP hS hu2 hb2' hob2 hb2 HW2 hdk3 htn3 hob3
                go_wp2_with fail
                go_roundg m2
                case measure => omega
                case rel => exact ⟨j + 1, by omega, by go_num, HNEW.out⟩
              · have hbb : decide ((d.length : Int) ≤ 1000) = false := by simpa using hbig
                clear hbig
                go_wp2
                go_roundg m2
                case measure => omega
                case rel => exact ⟨j + 1, by omega, by go_num, (HON.out.below (HAL.out _)).mono (by omega)⟩
            · have hkb : (kind == 2) = false := by simpa using hk
              clear hk
              go_wp2
              go_roundg m2
              case measure => omega
              case rel => exact ⟨j + 1, by omega, by go_num, (HON.out.below (HAL.out _)).mono (by omega)⟩
          | zero =>
            have hend : ¬ (j : Int) < (l.length : Int) := by omega
            have HJL : Hid (j ≤ 60) := by have := HL.out; show _ ≤ _; omega
            have HWW : Hid (∀ s ∈ S, s.wait.length ≤ 1000000) := fun s hs => by have := (R4.out s hs).1; have := HJL.out; omega
            clear hj HON
            obtain ⟨w0, rfl⟩ : ∃ w0, w0 = wr := ⟨_, rfl⟩
            go_wp2_with fail
            go_loopg [11, 85] c (fun gk hv i wr => ∃ q, q + gk = c ∧ i = .int .i64 (q : Int) ∧ HadR w0.heap.size wr hv ((S.map Sec.top).take q) ∧ Below w0.heap.size w0 wr)
            case atStart => exact ⟨0, by omega, rfl, HadR.nil _ _, Below.refl _ _⟩
            case round =>
              obtain ⟨q, hq, rfl, hhad, hbz⟩ := hrel
              have HH := hide hhad
              have HBZ := hide hbz
              clear hhad hbz
              cases gk with
              | succ m2 =>
                have hlt : (q : Int) < (c : Int) := by omega
                obtain ⟨s, hs⟩ := get_of_lt (S := S) (i := q) (by rw [R3.out]; omega)
                have hq64 : I64 (q : Int) := I64.nat (by have := HC40.out; omega)
                have hbad := (R4.out s (List.mem_of_getElem? hs)).2
                have hql := (List.getElem?_eq_some_iff.1 hs).1
                have HRD := hide (read_any (R1.out.below HBZ.out) (q : Int) hq64 HWW.out)
                rw [show Readed S (q : Int) wr = fun e w' => ∃ u, e = .returned (.tuple #[u, errV 0]) ∧ Own w' wr.heap.size u s.top ∧ Below wr.heap.size wr w' by
                  unfold Readed
                  rw [show rErr S (q : Int) = 0 by unfold rErr; rw [hasB_nat hql, Int.toNat_natCast, hs]; simp [hbad], show rDat S (q : Int) = s.top by unfold rDat; rw [hasB_nat hql, Int.toNat_natCast, hs]; simp [hbad]]] at HRD
                have HTS : Hid ((S.map Sec.top).take (q + 1) = (S.map Sec.top).take q ++ [s.top]) := take_snoc (by rw [List.getElem?_map, hs]; rfl)
                obtain ⟨aoh, caph, hform⟩ := HH.out.form
                rw [show ((S.map Sec.top).take q).length = q by rw [List.length_take, List.length_map]; omega] at hform
                clear hs hq64 hbad hql
                go_wp2_with fail
                refine HRD.out.mono ?_
                rintro e w4 ⟨u, rfl, ho, hb4⟩
                rw [errV_zero]
                obtain ⟨aou, capu, rfl⟩ := ho.form
                have hB4 : w0.heap.size ≤ w4.heap.size := Nat.le_trans HBZ.out.size hb4.size
                obtain ⟨hv', w5, hr5, hh5, hg5, ⟨ao5, n5, cap5, rfl⟩⟩ := HadR.append (HH.out.below hb4) aou s.top.length capu (ho.base HBZ.out.size) hB4 (by rw [List.length_take]; have := HC40.out; omega)
                have HH5 := hide hh5
                have HB5 : Hid (Below w0.heap.size w0 w5) := by
                  refine (HBZ.out.trans (hb4.mono HBZ.out.size)).grown hg5 hB4 (fun k hk => ?_)
                  obtain ⟨vs, h1, -⟩ := HH.out
                  exact (h1.lt k hk).1
                have hqq : (q : Int) + 1 < 42 := by have := HC40.out; omega
                clear ho hb4 HRD hB4 hh5 hg5
                rw [hform] at hr5 ⊢
                clear hform
                go_wp2_with ((with_reducible refine wpList_appendL rfl rfl hr5 ?_ ?_ ?_ ?_); rfl; rfl; rfl)
                go_roundg m2
                case measure => omega
                case rel => exact ⟨q + 1, by omega, by go_num, by rw [HTS.out]; exact HH5.out, HB5.out⟩
              | zero =>
                have hend2 : ¬ (q : Int) < (c : Int) := by omega
                have HTK : Hid ((S.map Sec.top).take q = S.map Sec.top) := List.take_of_length_le (by rw [List.length_map, R3.out]; omega)
                rw [HTK.out] at HH
                have HDK := hide (R1.out.below HBZ.out)
                have HFB : Hid (∀ k, F k → k < w0.heap.size) := fun k hk => (R2.out k hk).2
                have HPD := hide (pending_any HDK.out)
                have HPL : Hid (∀ k ∈ pendI S, I64 k) := pendI_i64 (by rw [R3.out]; have := HC40.out; omega)
                have HPN : Hid ((pendI S).length ≤ 1000000) := by rw [pendI_length]; have := pend_length_le S; rw [R3.out] at this; have := HC40.out; show _ ≤ _; omega
                obtain ⟨aoh, caph, hform⟩ := HH.out.form
                rw [show (S.map Sec.top).length = c by rw [List.length_map, R3.out]] at hform
                subst hform
                clear hq HTK
                go_wp2_with fail
                refine HPD.out.mono ?_
                rintro e w4 ⟨pv, rfl, hrow, hb4⟩
                have hin : Ints w4 pv (pendI S) := ints_of_row (ownsRow_zero hrow) HPL.out (by have := HPN.out; omega)
                have HIN := hide hin
                have HH4 := hide (HH.out.below hb4)
                have HBW4 : Hid (Below w.heap.size w w4) := R8.out.trans ((HBZ.out.mono R8.out.size).trans (hb4.mono (Nat.le_trans R8.out.size HBZ.out.size)))
                have HZ4 : Hid (w0.heap.size ≤ w4.heap.size) := Nat.le_trans HBZ.out.size hb4.size
                have HD4 := hide (HDK.out.below hb4)
                have HG := hide (grow_any HD4.out m)
                obtain ⟨aop, np, capp, rfl⟩ : ∃ a n c, pv = .slice a n c := by obtain ⟨a, b, hx⟩ := ownsRow_form hrow; exact ⟨_, _, _, hx⟩
                have HSZ : Hid (np = (pendI S).length) := by obtain ⟨a, b, hx⟩ := ownsRow_form hrow; show _ = _; injection hx
                have HIT : Hid (∀ w5, Turn F w4 w5 → Ints w5 (.slice aop np capp) (pendI S)) := fun w5 ht => by
                  refine ints_of_row (ownsRow_zero (ownsRow_of_block hrow (fun k o hk ho => ?_))) HPL.out (by have := HPN.out; omega)
                  rw [ht.block k (heap_lt ho) (fun hx => by have := HFB.out k hx; have := (hrow.lt k hk).1; have := HBZ.out.size; omega)]; exact ho
                clear hin hrow hb4 HPD HDK
                cases hgb : growB S m with
                | false =>
                  have hgm : decide (m < 1) = true ∨ (decide (m < 1) = false ∧ decide ((4096 : Int) - (c : Int) < m) = true) := by
                    have : ¬ (1 ≤ m ∧ m ≤ 4096 - (S.length : Int)) := by simpa [growB] using hgb
                    rw [R3.out] at this
                    by_cases h0 : m < 1
                    · exact .inl (by simpa using h0)
                    · exact .inr ⟨by simpa using h0, by simp; omega⟩
                  rw [show gErr S m = 20 by simp [gErr, hgb], show gSet S m = S by simp [gSet, hgb]] at HG
                  have hcc := HC40.out
                  clear hgb
                  go_wp2_with fail
                  refine HG.out.mono ?_
                  rintro e w5 ⟨rfl, hdk5, htn5⟩
                  have HB5 : Hid (Below w.heap.size w w5) := HBW4.out.trans (htn5.below HBW4.out.size (fun k hk => (R2.out k hk).1))
                  have HIS := hide (is_any 20 20 w5)
                  rw [errV_20] at HIS ⊢
                  have HSI := hide (size_any hdk5)
                  rw [R3.out] at HSI
                  have HA := hide (awake_any w5)
                  clear hdk5 htn5 HG
                  rcases hgm with g1 | ⟨g1, g2⟩
                  all_goals
                    go_wp2_with (first | (go_at_call 11; refine HIS.out.mono ?_; rintro e w' ⟨rfl, hww⟩; obtain rfl : w5 = w' := hww.symm) | (go_at_call 17; refine HSI.out.mono ?_; rintro e w' ⟨rfl, hww⟩; obtain rfl : w5 = w' := hww.symm) | (go_at_call 12; refine HA.out.mono ?_; rintro e w' ⟨rfl, hb⟩; have HBB := hide (HB5.out.trans (hb.mono HB5.out.size)); clear hb))
                    go_ret
                    exact ⟨rfl, HBB.out⟩
                | true =>
                  have hgm : 1 ≤ m ∧ m ≤ 4096 - (S.length : Int) := by simpa [growB] using hgb
                  rw [R3.out] at hgm
                  obtain ⟨k, rfl⟩ : ∃ k : Nat, m = (k : Int) := ⟨m.toNat, by omega⟩
                  rw [show gErr S (k : Int) = 0 by simp [gErr, hgb], show gSet S (k : Int) = S ++ List.replicate k zeroSec by simp [gSet, hgb]] at HG
                  have HK : Hid (1 ≤ k ∧ k ≤ 100) := by have := HM.out; show _ ∧ _; omega
                  have hcc := HC40.out
                  have hkk := HK.out
                  have g1 : decide ((k : Int) < 1) = false := by simp; omega
                  have g2 : decide ((4096 : Int) - (c : Int) < (k : Int)) = false := by simp; omega
                  clear hgb hgm
                  go_wp2_with fail
                  refine HG.out.mono ?_
                  rintro e w5 ⟨rfl, hdk5, htn5⟩
                  rw [errV_zero]
                  have HB5 : Hid (Below w.heap.size w w5) := HBW4.out.trans (htn5.below HBW4.out.size (fun k hk => (R2.out k hk).1))
                  have HH5 : Hid (HadR w0.heap.size w5 (.slice aoh c caph) (S.map Sec.top)) := HH4.out.turn htn5 HFB.out
                  have HIN5 : Hid (Ints w5 (.slice aop np capp) (pendI S)) := HIT.out w5 htn5
                  have HSI := hide (size_any hdk5)
                  rw [List.length_append, List.length_replicate, R3.out] at HSI
                  have HPE := hide (pending_any hdk5)
                  rw [show Pended (S ++ List.replicate k zeroSec) w5 = fun e w' => ∃ v, e = .returned v ∧ w'.ownsRow w5.heap.size 3 1 v (pendI S).length ((pendI S).map (Value.int .i64)) ∧ Below w5.heap.size w5 w' by unfold Pended; rw [pendI_grown]] at HPE
                  have HD5 := hide hdk5
                  have HGW : Hid (∀ s ∈ S ++ List.replicate k zeroSec, s.wait.length ≤ 1000000) := fun s hs => by
                    rcases List.mem_append.1 hs with h | h
                    · exact HWW.out s h
                    · rw [(List.mem_replicate.1 h).2]; simp [zeroSec]
                  clear hdk5 htn5 HG HH4 HIN HIT
                  go_wp2_with (first | (go_at_call 17; refine HSI.out.mono ?_; rintro e w' ⟨rfl, hww⟩; obtain rfl : w5 = w' := hww.symm) | (go_at_call 19; refine HPE.out.mono ?_; rintro e w6 ⟨pv6, rfl, hrow6, hb6⟩; have HIE := hide (ints_any w6 pv6 (.slice aop np capp) (pendI S) (pendI S) (ints_of_row (ownsRow_zero hrow6) HPL.out (by have := HPN.out; omega)) (HIN5.out.below hb6) HPN.out); rw [show decide (pendI S = pendI S) = true by simp] at HIE; have HB6 := hide hb6; clear hrow6 hb6) | (go_at_call 18; refine HIE.out.mono ?_; rintro e w7 ⟨rfl, hb7⟩; have HB7 : Hid (Below w5.heap.size w5 w7) := HB6.out.trans (hb7.mono HB6.out.size); clear hb7 HB6 HIE))
                  go_loopg [143] (c + k) (fun gk i wz => ∃ q, q + gk = c + k ∧ i = .int .i64 (q : Int) ∧ Below w7.heap.size w7 wz)
                  case atStart => exact ⟨0, by omega, rfl, Below.refl _ _⟩
                  case round =>
                    obtain ⟨q, hq, rfl, hbz⟩ := hrel
                    have HBZ7 := hide hbz
                    have HBZ5 : Hid (Below w5.heap.size w5 wr) := HB7.out.trans (hbz.mono HB7.out.size)
                    have HBW : Hid (Below w.heap.size w wr) := HB5.out.trans (HBZ5.out.mono HB5.out.size)
                    clear hbz
                    cases gk with
                    | zero =>
                      have hend3 : ¬ (q : Int) < (c : Int) + (k : Int) := by omega
                      have HA := hide (awake_any wr)
                      go_wp2_with (go_at_call 12; refine HA.out.mono ?_; rintro e w' ⟨rfl, hb⟩; have HBB := hide (HBW.out.trans (hb.mono HBW.out.size)); clear hb)
                      go_ret
                      exact ⟨rfl, HBB.out⟩
                    | succ m2 =>
                      have hlt3 : (q : Int) < (c : Int) + (k : Int) := by omega
                      have hq64 : I64 (q : Int) := I64.nat (by omega)
                      have HRD := hide (read_any (HD5.out.below HBZ5.out) (q : Int) hq64 HGW.out)
                      by_cases hqc : q < c
                      · obtain ⟨s, hs⟩ := get_of_lt (S := S) (i := q) (by rw [R3.out]; exact hqc)
                        have hbad := (R4.out s (List.mem_of_getElem? hs)).2
                        have hsg : (S ++ List.replicate k zeroSec)[q]? = some s := by rw [List.getElem?_append_left (by rw [R3.out]; exact hqc)]; exact hs
                        have hql : q < (S ++ List.replicate k zeroSec).length := (List.getElem?_eq_some_iff.1 hsg).1
                        rw [show Readed (S ++ List.replicate k zeroSec) (q : Int) wr = fun e w' => ∃ u, e = .returned (.tuple #[u, errV 0]) ∧ Own w' wr.heap.size u s.top ∧ Below wr.heap.size wr w' by
                          unfold Readed
                          rw [show rErr (S ++ List.replicate k zeroSec) (q : Int) = 0 by unfold rErr; rw [hasB_nat hql, Int.toNat_natCast, hsg]; simp [hbad], show rDat (S ++ List.replicate k zeroSec) (q : Int) = s.top by unfold rDat; rw [hasB_nat hql, Int.toNat_natCast, hsg]; simp [hbad]]] at HRD
                        have hlc : (q : Int) < (c : Int) := by omega
                        have hlc2 : decide ((c : Int) ≤ (q : Int)) = false := by simp; omega
                        have hq0 : (0 : Int) ≤ (q : Int) := by omega
                        have HHS := hide (HH5.out.below HBZ5.out)
                        obtain ⟨gh, uh, e1, e2, e3⟩ := HHS.out.at_ (i := q) (bs := s.top) (by rw [List.getElem?_map, hs]; rfl)
                        have HU := hide e3
                        have HC2 := hide e2
                        clear hs hbad hsg hql hq64 e3 e2
                        go_wp2_with fail
                        refine HRD.out.mono ?_
                        rintro e w8 ⟨u, rfl, ho, hb8⟩
                        rw [errV_zero]
                        have HSM := hide (same_any s.top s.top u uh w8 ho.bytes (HU.out.bytes.below hb8))
                        rw [show decide (s.top = s.top) = true by simp] at HSM
                        have hcell : w8.cell? ⟨gh, q, none⟩ = some uh := by rw [hb8.cell (cell_lt HC2.out)]; exact HC2.out
                        have HB8 := hide hb8
                        obtain ⟨aou, capu, rfl⟩ := ho.form
                        obtain ⟨aov, capv, rfl⟩ := HU.out.form
                        clear ho hb8 HRD
                        subst e1
                        go_wp2_with (go_at_call 16; refine HSM.out.mono ?_; rintro e w' ⟨rfl, hww⟩; obtain rfl : w8 = w' := hww.symm)
                        go_roundg m2
                        case measure => omega
                        case rel => exact ⟨q + 1, by omega, by go_num, HBZ7.out.trans (HB8.out.mono HBZ7.out.size)⟩
                      · have hsg : (S ++ List.replicate k zeroSec)[q]? = some zeroSec := by rw [List.getElem?_append_right (by rw [R3.out]; omega), List.getElem?_replicate, if_pos (by rw [R3.out]; omega)]
                        have hql : q < (S ++ List.replicate k zeroSec).length := (List.getElem?_eq_some_iff.1 hsg).1
                        rw [show Readed (S ++ List.replicate k zeroSec) (q : Int) wr = fun e w' => ∃ u, e = .returned (.tuple #[u, errV 0]) ∧ Own w' wr.heap.size u zeros ∧ Below wr.heap.size wr w' by
                          unfold Readed
                          rw [show rErr (S ++ List.replicate k zeroSec) (q : Int) = 0 by unfold rErr; rw [hasB_nat hql, Int.toNat_natCast, hsg]; simp [zeroSec], show rDat (S ++ List.replicate k zeroSec) (q : Int) = zeros by unfold rDat; rw [hasB_nat hql, Int.toNat_natCast, hsg]; simp [zeroSec, Sec.top, Sec.pick]]] at HRD
                        have hlc : ¬ (q : Int) < (c : Int) := by omega
                        have hlc2 : decide ((c : Int) ≤ (q : Int)) = true := by simp; omega
                        clear hsg hql hq64
                        go_wp2_with fail
                        refine HRD.out.mono ?_
                        rintro e w8 ⟨u, rfl, ho, hb8⟩
                        rw [errV_zero]
                        obtain ⟨w9, m1, m2', m3, m4⟩ := made w8
                        have HSM := hide (same_any zeros zeros u (.slice (some ⟨w8.heap.size, 0, none⟩) 128 128) w9 (ho.bytes.below m3) (bytes_of_row m2' zeros_con.1 zeros_con.2))
                        rw [show decide (zeros = zeros) = true by simp] at HSM
                        have HB9 : Hid (Below wr.heap.size wr w9) := hb8.trans (m3.mono hb8.size)
                        obtain ⟨aou, capu, rfl⟩ := ho.form
                        clear ho hb8 HRD m2' m3 m4
                        go_wp2_with (go_at_call 16; refine HSM.out.mono ?_; rintro e w' ⟨rfl, hww⟩; obtain rfl : w9 = w' := hww.symm)
                        go_roundg m2
                        case measure => omega
                        case rel => exact ⟨q + 1, by omega, by go_num, HBZ7.out.trans (HB9.out.mono HBZ7.out.size)⟩
end Go.Proofs.Ytphmhepbilhkjaa
