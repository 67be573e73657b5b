import Derived.Test.YtliboiajhhnajaaGreatDoorM21
/- Fill of the document's own disk. -/
namespace Go.Proofs.YtliboiajhhnajaaGreatDoor
open Go.RowKit Go.Extern

set_option maxRecDepth 100000 in
set_option maxHeartbeats 4000000 in
theorem rfill_any {w : World} {G : Nat → Prop} {b : Nat} {S : List Sec} (h : Rk w G b S) (hl : S.length ≤ 4096) (dv : Value) (d : List Nat) (hd : Bytes w dv d) (hdl : d.length ≤ 1000) (hout : 0 < d.length → ∀ k, dv.ownBlock = some k → ¬ G k) :
    Calls Tryz.prog 65 #[.pointer (some ⟨b, 0, none⟩), dv] w (RTurned G b (fillS S d) (.tuple #[]) w) := by
  have HDB := hide hd
  have HO := hide hout
  have HDL := hide hdl
  have HR := hide h
  have HL := hide hl
  obtain ⟨aod, capd, gd, offd, rfl, hd2, -⟩ := hd
  have HD2 := hide hd2
  obtain ⟨dn, hdn⟩ : ∃ dn, d.length = dn := ⟨_, rfl⟩
  rw [hdn] at HDB HO HD2 ⊢
  have HDN := hide hdn
  clear h hl hdl hout hdn hd2
  go_enter Tryz.func65, Tryz.ntmps65
  go_wp2_with fail
  go_loopg [4] S.length (fun gk y wr => ∃ q, q + gk = S.length ∧ y = .int .i64 (q : Int) ∧ Rk wr (ext G w wr) b (partS S (fillF d q)) ∧ Turn G w wr)
  case atStart => exact ⟨0, by omega, rfl, by rw [fillF_zero]; exact HR.out.mono (fun _ hk => .inl hk), Turn.refl _ _⟩
  case round =>
    obtain ⟨q, hq, rfl, hrk, htn⟩ := hrel
    have HRK := hide hrk
    have HTN := hide htn
    obtain ⟨v, T, hat, hTS⟩ := hrk
    have hTl := RkAt.len hTS
    rw [partS_length] at hTl
    obtain ⟨tn, htnn⟩ : ∃ tn, T.length = tn := ⟨_, rfl⟩
    obtain ⟨ao, cap, hvf⟩ := hat.form
    rw [htnn] at hvf
    subst hvf
    have c0 := hat.cell
    cases gk with
    | zero =>
      have hend : ¬ (q : Int) < (tn : Int) := by omega
      have HE : Hid (partS S (fillF d q) = fillS S d) := by show _ = _; rw [← fillF_end, show q = S.length by omega]
      clear hq htn hat hTS hTl htnn
      go_wp2_with fail
      go_end0
      exact ⟨rfl, by rw [← HE.out]; exact HRK.out, HTN.out⟩
    | succ m =>
      have hqt : q < tn := by omega
      have hlt : (q : Int) < (tn : Int) := by omega
      have hqb : q ≤ 4096 := by have := HL.out; omega
      have hqq : (q : Int) + 1 < 4098 := by omega
      obtain ⟨s, hs⟩ := get_of_lt (S := S) (i := q) (by omega)
      obtain ⟨u, hu⟩ := RkAt.get hTS (fillF_at hs)
      obtain ⟨g, rfl, -, -, -, cur, hgc⟩ := hat.at_ hu
      have HAT := hide hat
      have HTS := hide hTS
      have HU := hide hu
      have HS := hide hs
      have HGC := hide hgc
      have HZC0 := hide (zero_any wr)
      obtain ⟨wo, hwo⟩ : ∃ wo, wo = wr := ⟨_, rfl⟩
      subst hwo
      clear htn hat hTS hTl htnn hs hu hgc
      go_wp2_with fail
      refine HZC0.out.mono ?_
      rintro e w1 ⟨u1, rfl, hu1, hb1, gz, rfl⟩
      obtain ⟨gx, capx, hz0⟩ := ZAt.start hb1 hu1
      have HZ0 := hide hz0
      clear hz0 hb1 hu1 HZC0
      go_wp2_with fail
      generalize w1.alloc (.cells #[.slice (some ⟨gz, 0, none⟩) 1 1, .bool false] 96) = w3 at HZ0 ⊢
      generalize w1.heap.size = B1 at HZ0 ⊢
      rcases Nat.eq_zero_or_pos dn with hdz | hdp
      · have HFB : Hid (fillB d q = zeros) := by show _ = _; unfold fillB; rw [if_pos (by rw [HDN.out]; exact hdz)]
        subst hdz
        go_loopg [6] 0 (fun gk y wz => y = .int .i64 0 ∧ ZAt wo wz B1 gz gx capx zeros)
        case atStart => exact ⟨rfl, HZ0.out⟩
        case round =>
          obtain ⟨rfl, hzz⟩ := hrel
          obtain ⟨wz, hwz⟩ : ∃ wz, wz = wr := ⟨_, rfl⟩
          subst hwz
          have HZZ := hide hzz
          clear hzz HZ0
          have HZ : Hid (ZAt wo wz.drew B1 gz gx capx (fillB d q)) := by show ZAt _ _ _ _ _ _ _; rw [HFB.out]; exact ⟨HZZ.out.blk, HZZ.out.row, HZZ.out.own, HZZ.out.bel.drew, HZZ.out.nz, HZZ.out.nx, HZZ.out.nb⟩
          have HZC : Hid (wz.drew.cell? ⟨b, 0, none⟩ = some (.slice (some ⟨g, 0, none⟩) tn cap)) := (HAT.out.below HZ.out.bel).cell
          have HST : Hid ((Instr.storeAt 96 (.pointer (some ⟨g, q * 2, none⟩)) (.agg #[.slice (some ⟨gz, 0, none⟩) 1 1, .bool false])).run Tryz.prog wz.drew = .ok () (((wz.drew).setCell ⟨g, q * 2, none⟩ (.slice (some ⟨gz, 0, none⟩) 1 1)).setCell ⟨g, q * 2 + 1, none⟩ (.bool false))) := by
            obtain ⟨g5, e5, -, c5, c6, cur5, hg5⟩ := (HAT.out.below HZ.out.bel).at_ HU.out
            obtain rfl : g = g5 := by simpa using e5
            exact store_rsec _ _ _ c5 c6 (row_frozen hg5 _) (row_frozen hg5 _)
          obtain ⟨hat6, htn6⟩ := HZ.out.fill HAT.out HU.out
          have HSS : Hid ((((wz.drew).setCell ⟨g, q * 2, none⟩ (.slice (some ⟨gz, 0, none⟩) 1 1)).setCell ⟨g, q * 2 + 1, none⟩ (.bool false)).cell? ⟨b, 0, none⟩ = some (.slice (some ⟨g, 0, none⟩) tn cap) ∧ (((wz.drew).setCell ⟨g, q * 2, none⟩ (.slice (some ⟨gz, 0, none⟩) 1 1)).setCell ⟨g, q * 2 + 1, none⟩ (.bool false)).heap[B1]? = some (.cells #[.slice (some ⟨gz, 0, none⟩) 1 1, .bool false] 96 (0, 0))) := ⟨hat6.cell, by
            have hne : B1 ≠ g := fun e => by have := heap_lt HGC.out; have := HZ.out.nb; omega
            rw [Below.heap_setCell _ _ _ _ hne, Below.heap_setCell _ _ _ _ hne]; exact HZ.out.blk⟩
          have HEND : Hid (Rk (((wz.drew).setCell ⟨g, q * 2, none⟩ (.slice (some ⟨gz, 0, none⟩) 1 1)).setCell ⟨g, q * 2 + 1, none⟩ (.bool false)) (ext G w (((wz.drew).setCell ⟨g, q * 2, none⟩ (.slice (some ⟨gz, 0, none⟩) 1 1)).setCell ⟨g, q * 2 + 1, none⟩ (.bool false))) b (partS S (fillF d (q + 1))) ∧ Turn G w (((wz.drew).setCell ⟨g, q * 2, none⟩ (.slice (some ⟨gz, 0, none⟩) 1 1)).setCell ⟨g, q * 2 + 1, none⟩ (.bool false))) := by
            refine ⟨⟨_, _, hat6.mono (fun k hk => ext_ext HTN.out.size htn6.size k hk), by rw [map_set2, HTS.out, ← fillF_step HS.out]; rfl⟩, HTN.out.trans htn6 (fun k hk h => ?_)⟩
            rcases h with h | h
            · exact h
            · omega
          clear hat6 htn6
          go_wp2_with fail
          refine wp_region_held_drew (S := fun wx => wx.cell? ⟨b, 0, none⟩ = some (.slice (some ⟨g, 0, none⟩) tn cap) ∧ wx.heap[B1]? = some (.cells #[.slice (some ⟨gz, 0, none⟩) 1 1, .bool false] 96 (0, 0))) (by kernel_rfl) ⟨HZC.out, HZ.out.blk⟩ (fun hS => ?_)
          refine take_run 0 (some 42) (.pointer (some ⟨b, 0, none⟩)) rfl rfl rfl (by kernel_rfl) (by kernel_rfl) (by kernel_rfl) (fun _ _ _ h => h) (fun wx hx => exec_move rfl rfl) hS ?_
          simp only [Act.put, List.setIfInBounds_toArray, List.set_cons_zero, List.set_cons_succ]
          refine take_run 1 (some 43) (.pointer (some ⟨b, 0, none⟩)) rfl rfl rfl (by kernel_rfl) (by kernel_rfl) (by kernel_rfl) (fun _ _ _ h => h) (fun wx hx => exec_nilCheck rfl rfl) hS ?_
          simp only [Act.put, List.setIfInBounds_toArray, List.set_cons_zero, List.set_cons_succ]
          refine take_run 2 (some 44) (.pointer (some ⟨b, 0, none⟩)) rfl rfl rfl (by kernel_rfl) (by kernel_rfl) (by kernel_rfl) (fun _ _ _ h => h) (fun wx hx => exec_field rfl (rfield0 b wx) rfl) hS ?_
          simp only [Act.put, List.setIfInBounds_toArray, List.set_cons_zero, List.set_cons_succ]
          refine take_run 3 (some 45) (.slice (some ⟨g, 0, none⟩) tn cap) rfl rfl rfl (by kernel_rfl) (by kernel_rfl) (by kernel_rfl) (fun _ _ _ h => h) (fun wx hx => exec_load rfl (load_rsectors hx.1) rfl) hS ?_
          simp only [Act.put, List.setIfInBounds_toArray, List.set_cons_zero, List.set_cons_succ]
          refine take_run 4 (some 46) (.int .i64 (q : Int)) rfl rfl rfl (by kernel_rfl) (by kernel_rfl) (by kernel_rfl) (fun _ _ _ h => h) (fun wx hx => exec_move rfl rfl) hS ?_
          simp only [Act.put, List.setIfInBounds_toArray, List.set_cons_zero, List.set_cons_succ]
          refine take_run 5 (some 47) (.agg #[.slice (some ⟨gz, 0, none⟩) 1 1, .bool false]) rfl rfl rfl (by kernel_rfl) (by kernel_rfl) (by kernel_rfl) (fun _ _ _ h => h) (fun wx hx => exec_load rfl (load_rsec hx.2) rfl) hS ?_
          simp only [Act.put, List.setIfInBounds_toArray, List.set_cons_zero, List.set_cons_succ]
          refine only_value 6 (some 48) (v := .pointer (some ⟨g, q * 2, none⟩)) rfl rfl rfl (by kernel_rfl) (exec_index rfl (index_rsec hqt) rfl rfl) hS ?_
          simp only [Act.put, List.setIfInBounds_toArray, List.set_cons_zero, List.set_cons_succ]
          refine only_skip 7 none rfl rfl rfl (by kernel_rfl) (exec_store rfl HST.out rfl rfl) HSS.out ?_
          refine wpAnyH_done (by kernel_rfl) ?_ _
          clear hS
          go_wp2_with fail
          go_roundg m
          case measure => omega
          case rel => exact ⟨q + 1, by omega, by go_num, HEND.out.1, HEND.out.2⟩
      · have HFB : Hid (fillB d q = fillUp d q 128) := by show _ = _; unfold fillB; rw [if_neg (by rw [HDN.out]; omega)]
        have hdp1 : (0 : Int) < (dn : Int) := by omega
        obtain rfl := HD2.out hdp
        go_loopg [6] 128 (fun gk y wz => ∃ k, k + gk = 128 ∧ y = .int .i64 (k : Int) ∧ ZAt wo wz B1 gz gx capx (fillUp d q k))
        case atStart => exact ⟨0, by omega, rfl, by rw [fillUp_zero]; exact HZ0.out⟩
        case round =>
          obtain ⟨k, hk, rfl, hzz⟩ := hrel
          obtain ⟨wz, hwz⟩ : ∃ wz, wz = wr := ⟨_, rfl⟩
          subst hwz
          have HZZ := hide hzz
          clear hzz HZ0
          cases gk with
          | zero =>
            obtain rfl : k = 128 := by omega
            have HZ : Hid (ZAt wo wz.drew B1 gz gx capx (fillB d q)) := by show ZAt _ _ _ _ _ _ _; rw [HFB.out]; exact ⟨HZZ.out.blk, HZZ.out.row, HZZ.out.own, HZZ.out.bel.drew, HZZ.out.nz, HZZ.out.nx, HZZ.out.nb⟩
            have HZC : Hid (wz.drew.cell? ⟨b, 0, none⟩ = some (.slice (some ⟨g, 0, none⟩) tn cap)) := (HAT.out.below HZ.out.bel).cell
            have HST : Hid ((Instr.storeAt 96 (.pointer (some ⟨g, q * 2, none⟩)) (.agg #[.slice (some ⟨gz, 0, none⟩) 1 1, .bool false])).run Tryz.prog wz.drew = .ok () (((wz.drew).setCell ⟨g, q * 2, none⟩ (.slice (some ⟨gz, 0, none⟩) 1 1)).setCell ⟨g, q * 2 + 1, none⟩ (.bool false))) := by
              obtain ⟨g5, e5, -, c5, c6, cur5, hg5⟩ := (HAT.out.below HZ.out.bel).at_ HU.out
              obtain rfl : g = g5 := by simpa using e5
              exact store_rsec _ _ _ c5 c6 (row_frozen hg5 _) (row_frozen hg5 _)
            obtain ⟨hat6, htn6⟩ := HZ.out.fill HAT.out HU.out
            have HSS : Hid ((((wz.drew).setCell ⟨g, q * 2, none⟩ (.slice (some ⟨gz, 0, none⟩) 1 1)).setCell ⟨g, q * 2 + 1, none⟩ (.bool false)).cell? ⟨b, 0, none⟩ = some (.slice (some ⟨g, 0, none⟩) tn cap) ∧ (((wz.drew).setCell ⟨g, q * 2, none⟩ (.slice (some ⟨gz, 0, none⟩) 1 1)).setCell ⟨g, q * 2 + 1, none⟩ (.bool false)).heap[B1]? = some (.cells #[.slice (some ⟨gz, 0, none⟩) 1 1, .bool false] 96 (0, 0))) := ⟨hat6.cell, by
              have hne : B1 ≠ g := fun e => by have := heap_lt HGC.out; have := HZ.out.nb; omega
              rw [Below.heap_setCell _ _ _ _ hne, Below.heap_setCell _ _ _ _ hne]; exact HZ.out.blk⟩
            have HEND : Hid (Rk (((wz.drew).setCell ⟨g, q * 2, none⟩ (.slice (some ⟨gz, 0, none⟩) 1 1)).setCell ⟨g, q * 2 + 1, none⟩ (.bool false)) (ext G w (((wz.drew).setCell ⟨g, q * 2, none⟩ (.slice (some ⟨gz, 0, none⟩) 1 1)).setCell ⟨g, q * 2 + 1, none⟩ (.bool false))) b (partS S (fillF d (q + 1))) ∧ Turn G w (((wz.drew).setCell ⟨g, q * 2, none⟩ (.slice (some ⟨gz, 0, none⟩) 1 1)).setCell ⟨g, q * 2 + 1, none⟩ (.bool false))) := by
              refine ⟨⟨_, _, hat6.mono (fun k hk => ext_ext HTN.out.size htn6.size k hk), by rw [map_set2, HTS.out, ← fillF_step HS.out]; rfl⟩, HTN.out.trans htn6 (fun k hk h => ?_)⟩
              rcases h with h | h
              · exact h
              · omega
            clear hat6 htn6
            go_wp2_with fail
            refine wp_region_held_drew (S := fun wx => wx.cell? ⟨b, 0, none⟩ = some (.slice (some ⟨g, 0, none⟩) tn cap) ∧ wx.heap[B1]? = some (.cells #[.slice (some ⟨gz, 0, none⟩) 1 1, .bool false] 96 (0, 0))) (by kernel_rfl) ⟨HZC.out, HZ.out.blk⟩ (fun hS => ?_)
            refine take_run 0 (some 42) (.pointer (some ⟨b, 0, none⟩)) rfl rfl rfl (by kernel_rfl) (by kernel_rfl) (by kernel_rfl) (fun _ _ _ h => h) (fun wx hx => exec_move rfl rfl) hS ?_
            simp only [Act.put, List.setIfInBounds_toArray, List.set_cons_zero, List.set_cons_succ]
            refine take_run 1 (some 43) (.pointer (some ⟨b, 0, none⟩)) rfl rfl rfl (by kernel_rfl) (by kernel_rfl) (by kernel_rfl) (fun _ _ _ h => h) (fun wx hx => exec_nilCheck rfl rfl) hS ?_
            simp only [Act.put, List.setIfInBounds_toArray, List.set_cons_zero, List.set_cons_succ]
            refine take_run 2 (some 44) (.pointer (some ⟨b, 0, none⟩)) rfl rfl rfl (by kernel_rfl) (by kernel_rfl) (by kernel_rfl) (fun _ _ _ h => h) (fun wx hx => exec_field rfl (rfield0 b wx) rfl) hS ?_
            simp only [Act.put, List.setIfInBounds_toArray, List.set_cons_zero, List.set_cons_succ]
            refine take_run 3 (some 45) (.slice (some ⟨g, 0, none⟩) tn cap) rfl rfl rfl (by kernel_rfl) (by kernel_rfl) (by kernel_rfl) (fun _ _ _ h => h) (fun wx hx => exec_load rfl (load_rsectors hx.1) rfl) hS ?_
            simp only [Act.put, List.setIfInBounds_toArray, List.set_cons_zero, List.set_cons_succ]
            refine take_run 4 (some 46) (.int .i64 (q : Int)) rfl rfl rfl (by kernel_rfl) (by kernel_rfl) (by kernel_rfl) (fun _ _ _ h => h) (fun wx hx => exec_move rfl rfl) hS ?_
            simp only [Act.put, List.setIfInBounds_toArray, List.set_cons_zero, List.set_cons_succ]
            refine take_run 5 (some 47) (.agg #[.slice (some ⟨gz, 0, none⟩) 1 1, .bool false]) rfl rfl rfl (by kernel_rfl) (by kernel_rfl) (by kernel_rfl) (fun _ _ _ h => h) (fun wx hx => exec_load rfl (load_rsec hx.2) rfl) hS ?_
            simp only [Act.put, List.setIfInBounds_toArray, List.set_cons_zero, List.set_cons_succ]
            refine only_value 6 (some 48) (v := .pointer (some ⟨g, q * 2, none⟩)) rfl rfl rfl (by kernel_rfl) (exec_index rfl (index_rsec hqt) rfl rfl) hS ?_
            simp only [Act.put, List.setIfInBounds_toArray, List.set_cons_zero, List.set_cons_succ]
            refine only_skip 7 none rfl rfl rfl (by kernel_rfl) (exec_store rfl HST.out rfl rfl) HSS.out ?_
            refine wpAnyH_done (by kernel_rfl) ?_ _
            clear hS
            go_wp2_with fail
            go_roundg m
            case measure => omega
            case rel => exact ⟨q + 1, by omega, by go_num, HEND.out.1, HEND.out.2⟩
          | succ mi =>
            have hk1 : (k : Int) < 128 := by omega
            have hk2 : k < 128 := by omega
            have hqk : q * 128 + k ≤ 1000000 := by omega
            obtain ⟨r, hr⟩ : ∃ r, (q * 128 + k) % dn = r := ⟨_, rfl⟩
            have hget := fillAt_get (d := d) (by rw [HDN.out]; exact hdp) q k
            rw [HDN.out, hr] at hget
            have hrl : r < dn := by rw [← hr]; exact Nat.mod_lt _ hdp
            obtain ⟨x, hxx⟩ : ∃ x, fillAt d q k = x := ⟨_, rfl⟩
            have hset := fillUp_set (d := d) (i := q) hk2
            have hxl := fillAt_lt HDB.out.lt q k
            rw [hxx] at hget hset hxl
            have HC0 : Hid (wz.drew.cell? ⟨B1, 0, none⟩ = some (.slice (some ⟨gz, 0, none⟩) 1 1)) := HZZ.out.c0
            have HCZ : Hid (wz.drew.cell? ⟨gz, 0, none⟩ = some (.slice (some ⟨gx, 0, none⟩) 128 capx)) := HZZ.out.cz
            have HCD : Hid (wz.drew.cell? ⟨gd, offd + r, none⟩ = some (.int .u8 (x : Int))) := by
              obtain ⟨ao', cap', g', off', e', h2', h3', -⟩ := (HDB.out.turn HTN.out (HO.out hdp)).below HZZ.out.bel
              have e2 : some (⟨gd, offd, none⟩ : Addr) = some ⟨g', off', none⟩ := by rw [← h2' (by rw [HDN.out]; exact hdp)]; injection e'
              simp only [Option.some.injEq, Addr.mk.injEq, and_true] at e2
              rw [e2.1, e2.2]
              exact h3' r x hget
            have HIX : Hid (∀ wx, (Instr.indexAt 28 (.slice (some ⟨gd, offd, none⟩) dn capd) (.int .i64 (((q * 128 + k) % dn : Nat) : Int))).run Tryz.prog wx = .ok (.pointer (some ⟨gd, offd + r, none⟩)) wx) := fun wx => by rw [hr]; exact index_bytes hrl
            have HIK : Hid (∀ wx, (Instr.indexAt 28 (.slice (some ⟨gx, 0, none⟩) 128 capx) (.int .i64 (k : Int))).run Tryz.prog wx = .ok (.pointer (some ⟨gx, k, none⟩)) wx) := fun wx => by
              have := index_bytes (w := wx) (g := gx) (off := 0) (n := 128) (cap := capx) hk2
              rw [Nat.zero_add] at this; exact this
            obtain ⟨⟨y, hy⟩, hyf⟩ := HZZ.out.cx hk2
            have HSTK : Hid ((Instr.storeAt 5 (.pointer (some ⟨gx, k, none⟩)) (.int .u8 (x : Int))).run Tryz.prog wz.drew = .ok () (wz.drew.setCell ⟨gx, k, none⟩ (.int .u8 (x : Int)))) := store_u8 _ (v := .int .u8 (y : Int)) hy hyf
            have hzs := HZZ.out.set k hxl
            rw [hset] at hzs
            have HZN : Hid (ZAt wo (wz.drew.setCell ⟨gx, k, none⟩ (.int .u8 (x : Int))) B1 gz gx capx (fillUp d q (k + 1))) := ⟨hzs.blk, hzs.row, hzs.own, ⟨hzs.bel.os, hzs.bel.tape, hzs.bel.output, hzs.bel.size, hzs.bel.block⟩, hzs.nz, hzs.nx, hzs.nb⟩
            have HSK : Hid ((wz.drew.setCell ⟨gx, k, none⟩ (.int .u8 (x : Int))).cell? ⟨B1, 0, none⟩ = some (.slice (some ⟨gz, 0, none⟩) 1 1) ∧ (wz.drew.setCell ⟨gx, k, none⟩ (.int .u8 (x : Int))).cell? ⟨gz, 0, none⟩ = some (.slice (some ⟨gx, 0, none⟩) 128 capx) ∧ (wz.drew.setCell ⟨gx, k, none⟩ (.int .u8 (x : Int))).cell? ⟨gd, offd + r, none⟩ = some (.int .u8 (x : Int))) := by
              refine ⟨HZN.out.c0, HZN.out.cz, ?_⟩
              by_cases hgd : gd = gx
              · exfalso
                have h1 := HZZ.out.nx
                obtain ⟨ao', cap', g', off', e', h2', h3', -⟩ := HDB.out
                have e2 : some (⟨gd, offd, none⟩ : Addr) = some ⟨g', off', none⟩ := by rw [← h2' (by rw [HDN.out]; exact hdp)]; injection e'
                simp only [Option.some.injEq, Addr.mk.injEq, and_true] at e2
                have h4 := cell_lt (h3' r x hget)
                have h5 := HTN.out.size
                have h6 : g' < w.heap.size := h4
                omega
              · rw [World.cell?_of_block (Below.heap_setCell _ _ _ _ hgd)]; exact HCD.out
            have hkk : (k : Int) + 1 < 130 := by omega
            clear hget hset hxl hxx hy hyf hzs hr
            go_wp2_with fail
            refine wp_region_held_drew (S := fun wx => wx.cell? ⟨B1, 0, none⟩ = some (.slice (some ⟨gz, 0, none⟩) 1 1) ∧ wx.cell? ⟨gz, 0, none⟩ = some (.slice (some ⟨gx, 0, none⟩) 128 capx) ∧ wx.cell? ⟨gd, offd + r, none⟩ = some (.int .u8 (x : Int))) (by kernel_rfl) ⟨HC0.out, HCZ.out, HCD.out⟩ (fun hS => ?_)
            refine take_run 0 (some 26) (.pointer (some ⟨B1, 0, none⟩)) rfl rfl rfl (by kernel_rfl) (by kernel_rfl) (by kernel_rfl) (fun _ _ _ h => h) (fun wx hx => exec_field rfl (rsField0 B1 0 wx) rfl) hS ?_
            simp only [Act.put, List.setIfInBounds_toArray, List.set_cons_zero, List.set_cons_succ]
            refine take_run 1 (some 27) (.slice (some ⟨gz, 0, none⟩) 1 1) rfl rfl rfl (by kernel_rfl) (by kernel_rfl) (by kernel_rfl) (fun _ _ _ h => h) (fun wx hx => exec_load rfl (load_bytess hx.1) rfl) hS ?_
            simp only [Act.put, List.setIfInBounds_toArray, List.set_cons_zero, List.set_cons_succ]
            refine take_run 2 (some 28) (.pointer (some ⟨gz, 0, none⟩)) rfl rfl rfl (by kernel_rfl) (by kernel_rfl) (by kernel_rfl) (fun _ _ _ h => h) (fun wx hx => exec_index rfl (index_bytess (i := 0) (by decide)) rfl rfl) hS ?_
            simp only [Act.put, List.setIfInBounds_toArray, List.set_cons_zero, List.set_cons_succ]
            refine take_run 3 (some 29) (.slice (some ⟨gx, 0, none⟩) 128 capx) rfl rfl rfl (by kernel_rfl) (by kernel_rfl) (by kernel_rfl) (fun _ _ _ h => h) (fun wx hx => exec_load rfl (load_bytes hx.2.1) rfl) hS ?_
            simp only [Act.put, List.setIfInBounds_toArray, List.set_cons_zero, List.set_cons_succ]
            refine take_run 4 (some 30) (.int .i64 (k : Int)) rfl rfl rfl (by kernel_rfl) (by kernel_rfl) (by kernel_rfl) (fun _ _ _ h => h) (fun wx hx => exec_move rfl rfl) hS ?_
            simp only [Act.put, List.setIfInBounds_toArray, List.set_cons_zero, List.set_cons_succ]
            refine take_run 5 (some 31) (.slice (some ⟨gd, offd, none⟩) dn capd) rfl rfl rfl (by kernel_rfl) (by kernel_rfl) (by kernel_rfl) (fun _ _ _ h => h) (fun wx hx => exec_move rfl rfl) hS ?_
            simp only [Act.put, List.setIfInBounds_toArray, List.set_cons_zero, List.set_cons_succ]
            refine take_run 6 (some 32) (.int .i64 (q : Int)) rfl rfl rfl (by kernel_rfl) (by kernel_rfl) (by kernel_rfl) (fun _ _ _ h => h) (fun wx hx => exec_move rfl rfl) hS ?_
            simp only [Act.put, List.setIfInBounds_toArray, List.set_cons_zero, List.set_cons_succ]
            refine take_run 7 (some 33) (.int .i64 ((q * 128 : Nat) : Int)) rfl rfl rfl (by kernel_rfl) (by kernel_rfl) (by kernel_rfl) (fun _ _ _ h => h) (fun wx hx => exec_mul128 rfl rfl rfl hqb) hS ?_
            simp only [Act.put, List.setIfInBounds_toArray, List.set_cons_zero, List.set_cons_succ]
            refine take_run 8 (some 34) (.int .i64 (k : Int)) rfl rfl rfl (by kernel_rfl) (by kernel_rfl) (by kernel_rfl) (fun _ _ _ h => h) (fun wx hx => exec_move rfl rfl) hS ?_
            simp only [Act.put, List.setIfInBounds_toArray, List.set_cons_zero, List.set_cons_succ]
            refine take_run 9 (some 35) (.int .i64 ((q * 128 + k : Nat) : Int)) rfl rfl rfl (by kernel_rfl) (by kernel_rfl) (by kernel_rfl) (fun _ _ _ h => h) (fun wx hx => exec_addN rfl rfl rfl hqk) hS ?_
            simp only [Act.put, List.setIfInBounds_toArray, List.set_cons_zero, List.set_cons_succ]
            refine take_run 10 (some 36) (.slice (some ⟨gd, offd, none⟩) dn capd) rfl rfl rfl (by kernel_rfl) (by kernel_rfl) (by kernel_rfl) (fun _ _ _ h => h) (fun wx hx => exec_move rfl rfl) hS ?_
            simp only [Act.put, List.setIfInBounds_toArray, List.set_cons_zero, List.set_cons_succ]
            refine take_run 11 (some 37) (.int .i64 (dn : Int)) rfl rfl rfl (by kernel_rfl) (by kernel_rfl) (by kernel_rfl) (fun _ _ _ h => h) (fun wx hx => exec_len rfl (len_bytes wx _ _ _) rfl) hS ?_
            simp only [Act.put, List.setIfInBounds_toArray, List.set_cons_zero, List.set_cons_succ]
            refine take_run 12 (some 38) (.int .i64 (((q * 128 + k) % dn : Nat) : Int)) rfl rfl rfl (by kernel_rfl) (by kernel_rfl) (by kernel_rfl) (fun _ _ _ h => h) (fun wx hx => exec_remN rfl rfl rfl hdp hqk) hS ?_
            simp only [Act.put, List.setIfInBounds_toArray, List.set_cons_zero, List.set_cons_succ]
            refine take_run 13 (some 39) (.pointer (some ⟨gd, offd + r, none⟩)) rfl rfl rfl (by kernel_rfl) (by kernel_rfl) (by kernel_rfl) (fun _ _ _ h => h) (fun wx hx => exec_index rfl (HIX.out wx) rfl rfl) hS ?_
            simp only [Act.put, List.setIfInBounds_toArray, List.set_cons_zero, List.set_cons_succ]
            refine take_run 14 (some 40) (.int .u8 (x : Int)) rfl rfl rfl (by kernel_rfl) (by kernel_rfl) (by kernel_rfl) (fun _ _ _ h => h) (fun wx hx => exec_load rfl (load_u8 hx.2.2) rfl) hS ?_
            simp only [Act.put, List.setIfInBounds_toArray, List.set_cons_zero, List.set_cons_succ]
            refine only_value 15 (some 41) (v := .pointer (some ⟨gx, k, none⟩)) rfl rfl rfl (by kernel_rfl) (exec_index rfl (HIK.out _) rfl rfl) hS ?_
            simp only [Act.put, List.setIfInBounds_toArray, List.set_cons_zero, List.set_cons_succ]
            refine only_skip 16 none rfl rfl rfl (by kernel_rfl) (exec_store rfl HSTK.out rfl rfl) HSK.out ?_
            refine wpAnyH_done (by kernel_rfl) ?_ _
            clear hS
            go_wp2_with fail
            go_roundg mi
            case measure => omega
            case rel => exact ⟨k + 1, by omega, by go_num, HZN.out⟩
end Go.Proofs.YtliboiajhhnajaaGreatDoor
