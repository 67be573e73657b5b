/- The law NodeTwice. -/
import Derived.Test.YtcidadikmmdalabAw
import Derived.Test.YtcidadikmmdalabRi
import Derived.Test.YtcidadikmmdalabSa
namespace Go.Proofs.Ytcidadikmmdalab
open Go.RowKit Go.Extern

theorem enterSame (args : Array Value) (w : World) : (callFunc 11 args).run Try.prog w = .ok (.enter 11 args) w := by kernel_rfl
section
variable {ρ : Operand → Value} {o : Oper} {w : World}
theorem exec_neqNil {x : Tmp} {T : TypeId} (ho : o.op = .binOp .neq 34 (.tmp x) (.const .nilIface) T) (hx : ρ (.tmp x) = .nilIface) (hy : ρ (.const .nilIface) = .nilIface) : (execOp ρ o).run Try.prog w = .ok (.value (.bool false)) w := by
  unfold execOp; simp only [ho, hx, hy]; simp [eqGuard]; go_simp
theorem exec_eqlNil {x : Tmp} {T : TypeId} (ho : o.op = .binOp .eql 34 (.tmp x) (.const .nilIface) T) (hx : ρ (.tmp x) = .nilIface) (hy : ρ (.const .nilIface) = .nilIface) : (execOp ρ o).run Try.prog w = .ok (.value (.bool true)) w := by
  unfold execOp; simp only [ho, hx, hy]; simp [eqGuard]; go_simp
end
theorem load_rnodeP {w : World} {g i : Nat} {L : Int} {kv vv : Value} (h : w.cell? ⟨g, i, none⟩ = some (.int .i64 L) ∧ w.cell? ⟨g, i + 1, none⟩ = some kv ∧ w.cell? ⟨g, i + 2, none⟩ = some vv) : (Instr.loadAt 24 (.pointer (some ⟨g, i, none⟩))).run Try.prog w = .ok (.agg #[.int .i64 L, kv, vv]) w := by
  obtain ⟨h1, h2, h3⟩ := h
  go_simp
theorem Up.spot {K : List Int} (hu : Up K) {i : Nat} {k : Int} (h : K[i]? = some k) : Spot K k i :=
  ⟨by have := (List.getElem?_eq_some_iff.1 h).1; omega, fun j x hx hj => hu.lt hx h hj, fun j x hx hj => hu.le h hx hj⟩
theorem set_fst {l : List En} {i : Nat} {k v u : Int} (h : l[i]? = some (k, v)) : (l.set i (k, u)).map Prod.fst = l.map Prod.fst := by
  rw [List.map_set]
  refine List.ext_getElem? (fun j => ?_)
  rw [List.getElem?_set]
  split
  · rename_i e
    subst e
    have hl : i < l.length := (List.getElem?_eq_some_iff.1 h).1
    rw [if_pos (by simpa using hl), List.getElem?_map, h]; rfl
  · rfl
theorem set_self {l : List En} {i : Nat} {p : En} (h : l[i]? = some p) : l.set i p = l := by
  refine List.ext_getElem? (fun j => ?_)
  rw [List.getElem?_set]
  split
  · rename_i e
    subst e
    rw [if_pos (List.getElem?_eq_some_iff.1 h).1, h]
  · rfl

set_option maxRecDepth 100000 in
set_option maxHeartbeats 4000000 in
theorem twiceL_any {w : World} {kv vv : Value} {K V : List Int} (L : Int) (hk : Ints w kv K) (hv : Ints w vv V) {at_ : Int} (hat : I64 at_) (val : Int) :
    Calls Try.prog 4 #[.agg #[.int .i64 L, kv, vv], .int .i64 at_, .int .i64 val] w fun e w' => e = .returned (.bool true) ∧ Below w.heap.size w w' := by
  have HBA := hide (bel_alloc w (.cells #[.int .i64 L, kv, vv] 24))
  have HK := hide (hk.below HBA.out)
  have HV := hide (hv.below HBA.out)
  have HX := hide (BoxN.new 24 w L kv vv)
  obtain ⟨aK, cK, gK, oK, hkf, hK1, hK2⟩ := hk.at_
  obtain ⟨aV, cV, gV, oV, hvf, hV1, hV2⟩ := hv.at_
  obtain ⟨n, hn⟩ : ∃ n, K.length = n := ⟨_, rfl⟩
  obtain ⟨nv, hnv⟩ : ∃ n, V.length = n := ⟨_, rfl⟩
  rw [hn] at hkf
  rw [hnv] at hvf
  have HN := hide hn
  have HNV := hide hnv
  have HK1 := hide hK1
  have HV1 := hide hV1
  have HK2 := hide hK2
  have HV2 := hide hV2
  clear hk hv hK1 hK2 hV1 hV2
  subst hkf hvf
  by_cases hR : Rt L K V
  rotate_left
  · have hrt := rtB_false.2 hR
    clear hR hat hn hnv
    go_enter Try.func4, Try.ntmps4
    go_wp2_with (first
      | (go_at_call 5; refine (right_any L HK.out HV.out).mono ?_; rintro e w1 ⟨rfl, hb1⟩; rw [hrt]; have HB1 := hide (nextB HBA.out hb1); obtain ⟨x0, x1, x2⟩ := (HX.out.below hb1).cells; clear hb1)
      | (go_at_call 6; refine (awake_any _).mono ?_; rintro e w3 ⟨rfl, hb3⟩; have HB3 := hide (nextB HB1.out hb3); clear hb3))
    go_ret
    exact ⟨rfl, HB3.out⟩
  have hrt := rtB_iff.2 hR
  have HR := hide hR
  have hsm := hR.same
  rw [hn, hnv] at hsm
  have hpos := hR.pos
  have hfew := hR.few
  rw [hn] at hpos hfew
  subst hsm
  clear hR hn hnv
  by_cases h0 : at_ < 0
  · clear hat
    go_enter Try.func4, Try.ntmps4
    go_wp2_with (first
      | (go_at_call 5; refine (right_any L HK.out HV.out).mono ?_; rintro e w1 ⟨rfl, hb1⟩; rw [hrt]; have HB1 := hide (nextB HBA.out hb1); obtain ⟨x0, x1, x2⟩ := (HX.out.below hb1).cells; clear hb1)
      | (go_at_call 6; refine (awake_any _).mono ?_; rintro e w3 ⟨rfl, hb3⟩; have HB3 := hide (nextB HB1.out hb3); clear hb3))
    go_ret
    exact ⟨rfl, HB3.out⟩
  by_cases h1 : (nv : Int) ≤ at_
  · clear hat
    go_enter Try.func4, Try.ntmps4
    go_wp2_with (first
      | (go_at_call 5; refine (right_any L HK.out HV.out).mono ?_; rintro e w1 ⟨rfl, hb1⟩; rw [hrt]; have HB1 := hide (nextB HBA.out hb1); obtain ⟨x0, x1, x2⟩ := (HX.out.below hb1).cells; clear hb1)
      | (go_at_call 6; refine (awake_any _).mono ?_; rintro e w3 ⟨rfl, hb3⟩; have HB3 := hide (nextB HB1.out hb3); clear hb3))
    go_ret
    exact ⟨rfl, HB3.out⟩
  obtain ⟨i, rfl⟩ : ∃ i : Nat, at_ = (i : Int) := ⟨at_.toNat, by omega⟩
  have h2 : ¬ (nv : Int) ≤ (i : Int) := h1
  cases hfit : fitB 0 val with
  | false =>
    clear hat
    go_enter Try.func4, Try.ntmps4
    go_wp2_with (first
      | (go_at_call 5; refine (right_any L HK.out HV.out).mono ?_; rintro e w1 ⟨rfl, hb1⟩; rw [hrt]; have HB1 := hide (nextB HBA.out hb1); obtain ⟨x0, x1, x2⟩ := (HX.out.below hb1).cells; clear hb1)
      | (go_at_call 9; refine (fits_any 0 val _).mono ?_; rintro e w2 ⟨rfl, rfl⟩; rw [hfit])
      | (go_at_call 6; refine (awake_any _).mono ?_; rintro e w3 ⟨rfl, hb3⟩; have HB3 := hide (nextB HB1.out hb3); clear hb3))
    go_ret
    exact ⟨rfl, HB3.out⟩
  | true =>
    have hin : i < nv := by omega
    obtain rfl := HK1.out (by rw [HN.out]; omega)
    obtain rfl := HV1.out (by rw [HNV.out]; omega)
    obtain ⟨k, hkj⟩ : ∃ k, K[i]? = some k := ⟨K[i]'(by rw [HN.out]; omega), by rw [List.getElem?_eq_getElem]⟩
    obtain ⟨v, hvj⟩ : ∃ v, V[i]? = some v := ⟨V[i]'(by rw [HNV.out]; omega), by rw [List.getElem?_eq_getElem]⟩
    have hz : (K.zip V)[i]? = some (k, v) := by rw [List.getElem?_zip_eq_some]; exact ⟨hkj, hvj⟩
    have HZ := hide hz
    have hup : Up ((K.zip V).map Prod.fst) := by rw [zip_fst HR.out.same]; exact HR.out.up
    have hkz : ((K.zip V).map Prod.fst)[i]? = some k := by rw [zip_fst HR.out.same]; exact hkj
    have hsp : Spot ((K.zip V).map Prod.fst) k i := hup.spot hkz
    have hfkv : fitP (k, v) := HR.out.ris.1 _ (List.mem_of_getElem? hz)
    have hfk : fitP (k, val) := by have h9 := fitB_iff.1 hfit; unfold fitP at *; simp only at *; omega
    have HFV := hide (fitB_iff.2 hfkv)
    have HFL := hide (fitB_iff.2 hfk)
    have hlz : (K.zip V).length = nv := by rw [HR.out.len, HN.out]
    have HPA : Hid (cutS L (putS (K.zip V) k v) = [(L, K.zip V)]) := hide (by rw [← putS_set hup hsp hkz, set_self hz, cutS_one (by omega) (by omega)])
    have HPB : Hid (cutS L (putS (K.zip V) k val) = [(L, (K.zip V).set i (k, val))]) := hide (by rw [← putS_set hup hsp hkz, cutS_one (by rw [List.length_set]; omega) (by rw [List.length_set]; omega)])
    obtain ⟨lb, hlb⟩ : ∃ lb, (K.zip V).set i (k, val) = lb := ⟨_, rfl⟩
    have hrb : Ris lb := by rw [← hlb, putS_set hup hsp hkz]; exact ris_putS HR.out.ris hfk
    have hfb : lb.map Prod.fst = (K.zip V).map Prod.fst := by rw [← hlb]; exact set_fst hz
    have hlb2 : lb.length = nv := by rw [← hlb]; simp [hlz]
    have HRB : Hid (Rt L (lb.map Prod.fst) (lb.map Prod.snd)) := hide ⟨HR.out.lev, by simp; omega, by simp; omega, by simp, by rw [zip_maps]; exact hrb⟩
    have HPC : Hid (cutS L (putS ((lb.map Prod.fst).zip (lb.map Prod.snd)) k v) = [(L, K.zip V)]) := hide (by
      rw [zip_maps]
      have h3 : Up (lb.map Prod.fst) := by rw [hfb]; exact hup
      have h4 : Spot (lb.map Prod.fst) k i := by rw [hfb]; exact hsp
      have h5 : (lb.map Prod.fst)[i]? = some k := by rw [hfb]; exact hkz
      rw [← putS_set h3 h4 h5, ← hlb, List.set_set, set_self hz, cutS_one (by omega) (by omega)])
    have HVB : Hid ((lb.map Prod.snd)[i]? = some val) := hide (by
      rw [← hlb, List.getElem?_map, List.getElem?_set, if_pos rfl, if_pos (by omega)]; rfl)
    have HLB := hide hlb2
    rw [hlb] at HPB
    have HS1 : Hid (sameB L ((K.zip V).map Prod.fst) ((K.zip V).map Prod.snd) L K V = true) := hide (by rw [zip_fst HR.out.same, zip_snd HR.out.same]; exact sameB_self _ _ _)
    have HC0 := hide (cell_bel HBA.out (HK2.out i k hkj))
    have HC1 := hide (cell_bel HBA.out (HV2.out i v hvj))
    have HIN := hide hin
    clear hat hz hup hkz hsp hfkv hfk hlz hlb hrb hfb hlb2 hkj hvj hin h1
    go_enter Try.func4, Try.ntmps4
    go_wp2_with fail
    refine (right_any L HK.out HV.out).mono ?_
    rintro e w1 ⟨rfl, hb1⟩
    rw [hrt]
    have HB1 := hide hb1
    have HX1 := hide (HX.out.below hb1)
    obtain ⟨x0, x1, x2⟩ := HX1.out.cells
    clear hb1
    go_wp2_with fail
    refine (fits_any 0 val _).mono ?_
    rintro e w2 ⟨rfl, rfl⟩
    rw [hfit]
    have HSB := hide (below_drew0 w2)
    go_wp2_with fail
    have XA := x1
    have XB := x2
    have C0 := cell_bel HB1.out HC0.out
    have C1 := cell_bel HB1.out HC1.out
    have hin := HIN.out
    refine wp_region_held_drew (S := Below w2.heap.size w2) (by kernel_rfl) HSB.out (fun hS => ?_)
    refine take_want 0 (some 35) (.pointer (some ⟨w.heap.size, 0 + 1, none⟩)) rfl rfl rfl (by kernel_rfl) (by kernel_rfl) (by kernel_rfl) (fun _ _ _ h => h) (fun wx hx => exec_field rfl (fldR1 _ _ wx) rfl) hS ?_
    simp only [Act.put, List.setIfInBounds_toArray, List.set_cons_zero, List.set_cons_succ]
    refine take_want 1 (some 36) (.slice (some ⟨gK, oK, none⟩) nv cK) rfl rfl rfl (by kernel_rfl) (by kernel_rfl) (by kernel_rfl) (fun _ _ _ h => h) (fun wx hx => exec_load rfl (load_intsP (cell_bel hx XA)) rfl) hS ?_
    simp only [Act.put, List.setIfInBounds_toArray, List.set_cons_zero, List.set_cons_succ]
    refine take_want 2 (some 37) (.int .i64 (i : Int)) rfl rfl rfl (by kernel_rfl) (by kernel_rfl) (by kernel_rfl) (fun _ _ _ h => h) (fun wx hx => exec_move rfl rfl) hS ?_
    simp only [Act.put, List.setIfInBounds_toArray, List.set_cons_zero, List.set_cons_succ]
    refine take_want 3 (some 38) (.pointer (some ⟨gK, oK + i, none⟩)) rfl rfl rfl (by kernel_rfl) (by kernel_rfl) (by kernel_rfl) (fun _ _ _ h => h) (fun wx hx => exec_index rfl (index_ints hin) rfl rfl) hS ?_
    simp only [Act.put, List.setIfInBounds_toArray, List.set_cons_zero, List.set_cons_succ]
    refine take_want 4 (some 39) (.int .i64 k) rfl rfl rfl (by kernel_rfl) (by kernel_rfl) (by kernel_rfl) (fun _ _ _ h => h) (fun wx hx => exec_load rfl (load_intP (cell_bel hx C0)) rfl) hS ?_
    simp only [Act.put, List.setIfInBounds_toArray, List.set_cons_zero, List.set_cons_succ]
    refine take_want 5 (some 40) (.pointer (some ⟨w.heap.size, 0 + 2, none⟩)) rfl rfl rfl (by kernel_rfl) (by kernel_rfl) (by kernel_rfl) (fun _ _ _ h => h) (fun wx hx => exec_field rfl (fldR2 _ _ wx) rfl) hS ?_
    simp only [Act.put, List.setIfInBounds_toArray, List.set_cons_zero, List.set_cons_succ]
    refine take_want 6 (some 41) (.slice (some ⟨gV, oV, none⟩) nv cV) rfl rfl rfl (by kernel_rfl) (by kernel_rfl) (by kernel_rfl) (fun _ _ _ h => h) (fun wx hx => exec_load rfl (load_intsP (cell_bel hx XB)) rfl) hS ?_
    simp only [Act.put, List.setIfInBounds_toArray, List.set_cons_zero, List.set_cons_succ]
    refine take_want 7 (some 42) (.int .i64 (i : Int)) rfl rfl rfl (by kernel_rfl) (by kernel_rfl) (by kernel_rfl) (fun _ _ _ h => h) (fun wx hx => exec_move rfl rfl) hS ?_
    simp only [Act.put, List.setIfInBounds_toArray, List.set_cons_zero, List.set_cons_succ]
    refine take_want 8 (some 43) (.pointer (some ⟨gV, oV + i, none⟩)) rfl rfl rfl (by kernel_rfl) (by kernel_rfl) (by kernel_rfl) (fun _ _ _ h => h) (fun wx hx => exec_index rfl (index_ints hin) rfl rfl) hS ?_
    simp only [Act.put, List.setIfInBounds_toArray, List.set_cons_zero, List.set_cons_succ]
    refine take_want 9 (some 44) (.int .i64 v) rfl rfl rfl (by kernel_rfl) (by kernel_rfl) (by kernel_rfl) (fun _ _ _ h => h) (fun wx hx => exec_load rfl (load_intP (cell_bel hx C1)) rfl) hS ?_
    simp only [Act.put, List.setIfInBounds_toArray, List.set_cons_zero, List.set_cons_succ]
    refine take_want 10 (some 7) (.int .i64 k) rfl rfl rfl (by kernel_rfl) (by kernel_rfl) (by kernel_rfl) (fun _ _ _ h => h) (fun wx hx => exec_assign rfl rfl) hS ?_
    simp only [Act.put, List.setIfInBounds_toArray, List.set_cons_zero, List.set_cons_succ]
    refine take_want 11 (some 8) (.int .i64 v) rfl rfl rfl (by kernel_rfl) (by kernel_rfl) (by kernel_rfl) (fun _ _ _ h => h) (fun wx hx => exec_assign rfl rfl) hS ?_
    simp only [Act.put, List.setIfInBounds_toArray, List.set_cons_zero, List.set_cons_succ]
    refine wpAnyH_done (by kernel_rfl) ?_ _
    clear x0 x1 x2 XA XB C0 C1 hin
    obtain ⟨w3, hw3⟩ : ∃ x, w2.drew = x := ⟨_, rfl⟩
    simp only [hw3] at hS ⊢
    clear hw3
    have HB3 := hide (nextB HB1.out hS)
    clear hS
    obtain ⟨x0, x1, x2⟩ := (HX.out.below HB3.out).cells
    go_wp2_with fail
    clear x0 x1 x2
    refine (of_any L (HK.out.below HB3.out) (HV.out.below HB3.out) (by rw [HN.out]; omega) (by rw [HNV.out]; omega)).mono ?_
    rintro e w4 ⟨k4, v4, rfl, ht4, hb4⟩
    have HI4 := hide ht4.ints
    obtain ⟨aK4, nK4, cK4, rfl, -⟩ := ht4.hk.form
    obtain ⟨aV4, nV4, cV4, rfl, -⟩ := ht4.hv.form
    have HB4 := hide (nextB HB3.out hb4)
    clear ht4 hb4
    go_wp2_with fail
    refine (put_ok HI4.out.1 HI4.out.2 HR.out HFV.out).mono ?_
    rintro e w5 ⟨v5, rfl, hn5, hb5⟩
    rw [errV_zero]
    rw [HPA.out] at hn5
    have HN5 := hide hn5
    have HB5 := hide (nextB HB4.out hb5)
    obtain ⟨ga, capa, ka, va, rfl, -⟩ := hn5.open1
    obtain ⟨x0, x1, x2⟩ := (HX.out.below HB5.out).cells
    clear hn5 hb5
    go_wp2_with fail
    clear x0 x1 x2
    refine (of_any L (HK.out.below HB5.out) (HV.out.below HB5.out) (by rw [HN.out]; omega) (by rw [HNV.out]; omega)).mono ?_
    rintro e w6 ⟨k6, v6, rfl, ht6, hb6⟩
    have HI6 := hide ht6.ints
    obtain ⟨aK6, nK6, cK6, rfl, -⟩ := ht6.hk.form
    obtain ⟨aV6, nV6, cV6, rfl, -⟩ := ht6.hv.form
    have HB6 := hide hb6
    clear ht6 hb6
    go_wp2_with fail
    refine (put_ok HI6.out.1 HI6.out.2 HR.out HFL.out).mono ?_
    rintro e w7 ⟨v7, rfl, hn7, hb7⟩
    rw [errV_zero]
    rw [HPB.out] at hn7
    have HN7 := hide hn7
    have HBa := hide (nextB HB6.out hb7)
    have HB7 := hide (nextB HB5.out HBa.out)
    obtain ⟨gb, capb, kb, vb, rfl, b0', b1', b2', hkb, hvb⟩ := hn7.open1
    obtain ⟨aW, cW, gW, oW, rfl, hW1, hW2⟩ := hvb.at_
    have hlw : (lb.map Prod.snd).length = nv := by rw [List.length_map]; exact HLB.out
    obtain rfl := hW1 (by omega)
    have hCW := hW2 i val HVB.out
    rw [hlw] at b2'
    have HF := hide (And.intro b0' (And.intro b1' (And.intro b2' (And.intro hCW (HX.out.below HB7.out).cells))))
    have HIB := hide (And.intro hkb hvb)
    have HSB7 := hide (below_drew0 w7)
    rw [hlw] at HIB
    obtain ⟨ga2, capa2, ka2, va2, hga, a0', a1', a2', hka, hva⟩ := (HN5.out.below HBa.out).open1
    simp only [Value.slice.injEq, Option.some.injEq, Addr.mk.injEq, and_true, true_and] at hga
    obtain ⟨rfl, rfl⟩ := hga
    have HFa := hide (And.intro a0' (And.intro a1' a2'))
    have IA := hide (And.intro hka hva)
    have IN := hide (And.intro (HK.out.below HB7.out) (HV.out.below HB7.out))
    have HSA := HS1
    clear hn7 hb7 b0' b1' b2' hkb hvb hW1 hW2 hlw hCW a0' a1' a2' hka hva
    go_wp2_with fail
    obtain ⟨b0, b1, b2, CW, X0, X1, X2⟩ := HF.out
    obtain ⟨a0, a1, a2⟩ := HFa.out
    have hiW := HIN.out
    refine wp_region_held_drew (S := Below w7.heap.size w7) (by kernel_rfl) HSB7.out (fun hS => ?_)
    refine take_want 0 (some 61) .nilIface rfl rfl rfl (by kernel_rfl) (by kernel_rfl) (by kernel_rfl) (fun _ _ _ h => h) (fun wx hx => exec_move rfl rfl) hS ?_
    simp only [Act.put, List.setIfInBounds_toArray, List.set_cons_zero, List.set_cons_succ]
    refine take_want 1 (some 62) (.bool false) rfl rfl rfl (by kernel_rfl) (by kernel_rfl) (by kernel_rfl) (fun _ _ _ h => h) (fun wx hx => exec_neqNil rfl rfl rfl) hS ?_
    simp only [Act.put, List.setIfInBounds_toArray, List.set_cons_zero, List.set_cons_succ]
    refine take_want 2 (some 63) (.bool false) rfl rfl rfl (by kernel_rfl) (by kernel_rfl) (by kernel_rfl) (fun _ _ _ h => h) (fun wx hx => exec_move rfl rfl) hS ?_
    simp only [Act.put, List.setIfInBounds_toArray, List.set_cons_zero, List.set_cons_succ]
    refine take_want 3 (some 64) .nilIface rfl rfl rfl (by kernel_rfl) (by kernel_rfl) (by kernel_rfl) (fun _ _ _ h => h) (fun wx hx => exec_move rfl rfl) hS ?_
    simp only [Act.put, List.setIfInBounds_toArray, List.set_cons_zero, List.set_cons_succ]
    refine take_want 4 (some 65) (.bool false) rfl rfl rfl (by kernel_rfl) (by kernel_rfl) (by kernel_rfl) (fun _ _ _ h => h) (fun wx hx => exec_neqNil rfl rfl rfl) hS ?_
    simp only [Act.put, List.setIfInBounds_toArray, List.set_cons_zero, List.set_cons_succ]
    refine take_want 5 (some 66) (.bool false) rfl rfl rfl (by kernel_rfl) (by kernel_rfl) (by kernel_rfl) (fun _ _ _ h => h) (fun wx hx => exec_pickF rfl rfl rfl) hS ?_
    simp only [Act.put, List.setIfInBounds_toArray, List.set_cons_zero, List.set_cons_succ]
    refine take_want 6 (some 67) (.bool false) rfl rfl rfl (by kernel_rfl) (by kernel_rfl) (by kernel_rfl) (fun _ _ _ h => h) (fun wx hx => exec_move rfl rfl) hS ?_
    simp only [Act.put, List.setIfInBounds_toArray, List.set_cons_zero, List.set_cons_succ]
    refine take_want 7 (some 68) (.slice (some ⟨ga, 0, none⟩) 1 capa) rfl rfl rfl (by kernel_rfl) (by kernel_rfl) (by kernel_rfl) (fun _ _ _ h => h) (fun wx hx => exec_move rfl rfl) hS ?_
    simp only [Act.put, List.setIfInBounds_toArray, List.set_cons_zero, List.set_cons_succ]
    refine take_want 8 (some 69) (.int .i64 ((1 : Nat) : Int)) rfl rfl rfl (by kernel_rfl) (by kernel_rfl) (by kernel_rfl) (fun _ _ _ h => h) (fun wx hx => exec_len rfl (len_nodes _ _ _ _) rfl) hS ?_
    simp only [Act.put, List.setIfInBounds_toArray, List.set_cons_zero, List.set_cons_succ]
    refine take_want 9 (some 70) (.bool false) rfl rfl rfl (by kernel_rfl) (by kernel_rfl) (by kernel_rfl) (fun _ _ _ h => h) (fun wx hx => exec_neq rfl rfl rfl (decide_eq_false (by simp))) hS ?_
    simp only [Act.put, List.setIfInBounds_toArray, List.set_cons_zero, List.set_cons_succ]
    refine take_want 10 (some 71) (.bool false) rfl rfl rfl (by kernel_rfl) (by kernel_rfl) (by kernel_rfl) (fun _ _ _ h => h) (fun wx hx => exec_pickF rfl rfl rfl) hS ?_
    simp only [Act.put, List.setIfInBounds_toArray, List.set_cons_zero, List.set_cons_succ]
    refine take_want 11 (some 72) (.bool false) rfl rfl rfl (by kernel_rfl) (by kernel_rfl) (by kernel_rfl) (fun _ _ _ h => h) (fun wx hx => exec_move rfl rfl) hS ?_
    simp only [Act.put, List.setIfInBounds_toArray, List.set_cons_zero, List.set_cons_succ]
    refine take_want 12 (some 73) (.slice (some ⟨gb, 0, none⟩) 1 capb) rfl rfl rfl (by kernel_rfl) (by kernel_rfl) (by kernel_rfl) (fun _ _ _ h => h) (fun wx hx => exec_move rfl rfl) hS ?_
    simp only [Act.put, List.setIfInBounds_toArray, List.set_cons_zero, List.set_cons_succ]
    refine take_want 13 (some 74) (.int .i64 ((1 : Nat) : Int)) rfl rfl rfl (by kernel_rfl) (by kernel_rfl) (by kernel_rfl) (fun _ _ _ h => h) (fun wx hx => exec_len rfl (len_nodes _ _ _ _) rfl) hS ?_
    simp only [Act.put, List.setIfInBounds_toArray, List.set_cons_zero, List.set_cons_succ]
    refine take_want 14 (some 75) (.bool false) rfl rfl rfl (by kernel_rfl) (by kernel_rfl) (by kernel_rfl) (fun _ _ _ h => h) (fun wx hx => exec_neq rfl rfl rfl (decide_eq_false (by simp))) hS ?_
    simp only [Act.put, List.setIfInBounds_toArray, List.set_cons_zero, List.set_cons_succ]
    refine take_want 15 (some 76) (.bool false) rfl rfl rfl (by kernel_rfl) (by kernel_rfl) (by kernel_rfl) (fun _ _ _ h => h) (fun wx hx => exec_pickF rfl rfl rfl) hS ?_
    simp only [Act.put, List.setIfInBounds_toArray, List.set_cons_zero, List.set_cons_succ]
    refine take_want 16 (some 77) (.bool false) rfl rfl rfl (by kernel_rfl) (by kernel_rfl) (by kernel_rfl) (fun _ _ _ h => h) (fun wx hx => exec_move rfl rfl) hS ?_
    simp only [Act.put, List.setIfInBounds_toArray, List.set_cons_zero, List.set_cons_succ]
    refine take_want 17 (some 78) (.slice (some ⟨ga, 0, none⟩) 1 capa) rfl rfl rfl (by kernel_rfl) (by kernel_rfl) (by kernel_rfl) (fun _ _ _ h => h) (fun wx hx => exec_move rfl rfl) hS ?_
    simp only [Act.put, List.setIfInBounds_toArray, List.set_cons_zero, List.set_cons_succ]
    refine take_want 18 (some 79) (.pointer (some ⟨ga, 0 + 0 * 3, none⟩)) rfl rfl rfl (by kernel_rfl) (by kernel_rfl) (by kernel_rfl) (fun _ _ _ h => h) (fun wx hx => exec_index rfl (index_nodes (i := 0) (by omega)) rfl rfl) hS ?_
    simp only [Act.put, List.setIfInBounds_toArray, List.set_cons_zero, List.set_cons_succ]
    refine take_want 19 (some 80) (.agg #[.int .i64 L, ka2, va2]) rfl rfl rfl (by kernel_rfl) (by kernel_rfl) (by kernel_rfl) (fun _ _ _ h => h) (fun wx hx => exec_load rfl (load_nodeP ⟨cell_bel hx a0, cell_bel hx a1, cell_bel hx a2⟩) rfl) hS ?_
    simp only [Act.put, List.setIfInBounds_toArray, List.set_cons_zero, List.set_cons_succ]
    refine take_want 20 (some 81) (.agg #[.int .i64 L, .slice (some ⟨gK, oK, none⟩) nv cK, .slice (some ⟨gV, oV, none⟩) nv cV]) rfl rfl rfl (by kernel_rfl) (by kernel_rfl) (by kernel_rfl) (fun _ _ _ h => h) (fun wx hx => exec_load rfl (load_rnodeP ⟨cell_bel hx X0, cell_bel hx X1, cell_bel hx X2⟩) rfl) hS ?_
    simp only [Act.put, List.setIfInBounds_toArray, List.set_cons_zero, List.set_cons_succ]
    refine call_want 21 (some 82) rfl rfl rfl (by kernel_rfl) (exec_call2 rfl enterSame rfl rfl rfl) ((same_any L L (IA.out.1.below hS) (IA.out.2.below hS) (IN.out.1.below hS) (IN.out.2.below hS)).mono ?_)
    rintro e' w9 ⟨rfl, hb9⟩
    rw [HSA.out]
    have hS9 := nextB hS hb9
    refine ⟨_, rfl, hS9, ?_⟩
    simp only [Act.put, List.setIfInBounds_toArray, List.set_cons_zero, List.set_cons_succ]
    refine take_want 22 (some 83) (.bool false) rfl rfl rfl (by kernel_rfl) (by kernel_rfl) (by kernel_rfl) (fun _ _ _ h => h) (fun wx hx => exec_not (b := true) rfl rfl) hS9 ?_
    simp only [Act.put, List.setIfInBounds_toArray, List.set_cons_zero, List.set_cons_succ]
    refine take_want 23 (some 84) (.bool false) rfl rfl rfl (by kernel_rfl) (by kernel_rfl) (by kernel_rfl) (fun _ _ _ h => h) (fun wx hx => exec_pickF rfl rfl rfl) hS9 ?_
    simp only [Act.put, List.setIfInBounds_toArray, List.set_cons_zero, List.set_cons_succ]
    refine take_want 24 (some 85) (.bool false) rfl rfl rfl (by kernel_rfl) (by kernel_rfl) (by kernel_rfl) (fun _ _ _ h => h) (fun wx hx => exec_move rfl rfl) hS9 ?_
    simp only [Act.put, List.setIfInBounds_toArray, List.set_cons_zero, List.set_cons_succ]
    refine take_want 25 (some 86) (.slice (some ⟨gb, 0, none⟩) 1 capb) rfl rfl rfl (by kernel_rfl) (by kernel_rfl) (by kernel_rfl) (fun _ _ _ h => h) (fun wx hx => exec_move rfl rfl) hS9 ?_
    simp only [Act.put, List.setIfInBounds_toArray, List.set_cons_zero, List.set_cons_succ]
    refine take_want 26 (some 87) (.pointer (some ⟨gb, 0 + 0 * 3, none⟩)) rfl rfl rfl (by kernel_rfl) (by kernel_rfl) (by kernel_rfl) (fun _ _ _ h => h) (fun wx hx => exec_index rfl (index_nodes (i := 0) (by omega)) rfl rfl) hS9 ?_
    simp only [Act.put, List.setIfInBounds_toArray, List.set_cons_zero, List.set_cons_succ]
    refine take_want 27 (some 88) (.pointer (some ⟨gb, 0 + 0 * 3 + 2, none⟩)) rfl rfl rfl (by kernel_rfl) (by kernel_rfl) (by kernel_rfl) (fun _ _ _ h => h) (fun wx hx => exec_field rfl (fldN2 _ _ wx) rfl) hS9 ?_
    simp only [Act.put, List.setIfInBounds_toArray, List.set_cons_zero, List.set_cons_succ]
    refine take_want 28 (some 89) (.slice (some ⟨gW, oW, none⟩) nv cW) rfl rfl rfl (by kernel_rfl) (by kernel_rfl) (by kernel_rfl) (fun _ _ _ h => h) (fun wx hx => exec_load rfl (load_intsP (cell_bel hx b2)) rfl) hS9 ?_
    simp only [Act.put, List.setIfInBounds_toArray, List.set_cons_zero, List.set_cons_succ]
    refine take_want 29 (some 90) (.int .i64 (i : Int)) rfl rfl rfl (by kernel_rfl) (by kernel_rfl) (by kernel_rfl) (fun _ _ _ h => h) (fun wx hx => exec_move rfl rfl) hS9 ?_
    simp only [Act.put, List.setIfInBounds_toArray, List.set_cons_zero, List.set_cons_succ]
    refine take_want 30 (some 91) (.pointer (some ⟨gW, oW + i, none⟩)) rfl rfl rfl (by kernel_rfl) (by kernel_rfl) (by kernel_rfl) (fun _ _ _ h => h) (fun wx hx => exec_index rfl (index_ints hiW) rfl rfl) hS9 ?_
    simp only [Act.put, List.setIfInBounds_toArray, List.set_cons_zero, List.set_cons_succ]
    refine take_want 31 (some 92) (.int .i64 val) rfl rfl rfl (by kernel_rfl) (by kernel_rfl) (by kernel_rfl) (fun _ _ _ h => h) (fun wx hx => exec_load rfl (load_intP (cell_bel hx CW)) rfl) hS9 ?_
    simp only [Act.put, List.setIfInBounds_toArray, List.set_cons_zero, List.set_cons_succ]
    refine take_want 32 (some 93) (.int .i64 val) rfl rfl rfl (by kernel_rfl) (by kernel_rfl) (by kernel_rfl) (fun _ _ _ h => h) (fun wx hx => exec_move rfl rfl) hS9 ?_
    simp only [Act.put, List.setIfInBounds_toArray, List.set_cons_zero, List.set_cons_succ]
    refine take_want 33 (some 94) (.bool false) rfl rfl rfl (by kernel_rfl) (by kernel_rfl) (by kernel_rfl) (fun _ _ _ h => h) (fun wx hx => exec_neq rfl rfl rfl (decide_eq_false (by simp))) hS9 ?_
    simp only [Act.put, List.setIfInBounds_toArray, List.set_cons_zero, List.set_cons_succ]
    refine take_want 34 (some 95) (.bool false) rfl rfl rfl (by kernel_rfl) (by kernel_rfl) (by kernel_rfl) (fun _ _ _ h => h) (fun wx hx => exec_pickF rfl rfl rfl) hS9 ?_
    simp only [Act.put, List.setIfInBounds_toArray, List.set_cons_zero, List.set_cons_succ]
    refine wpAnyH_done (by kernel_rfl) ?_ _
    clear a0 a1 a2 CW X0 X1 X2 hiW b0 b1 b2
    have HB9 := hide hS9
    obtain ⟨b0, b1, b2, -⟩ := HF.out
    replace b0 := cell_bel hS9 b0
    replace b1 := cell_bel hS9 b1
    replace b2 := cell_bel hS9 b2
    clear hS hb9 hS9
    obtain ⟨aKb, nKb, cKb, rfl, -⟩ := HIB.out.1.form
    go_wp2_with fail
    clear b0 b1 b2
    refine (put_ok (HIB.out.1.below HB9.out) (HIB.out.2.below HB9.out) HRB.out HFV.out).mono ?_
    rintro e w11 ⟨v11, rfl, hn11, hb11⟩
    rw [errV_zero]
    rw [HPC.out] at hn11
    have HB11 := hide (nextB HB7.out (nextB HB9.out hb11))
    obtain ⟨gc, capc, kc, vc, rfl, c0', c1', c2', hkc, hvc⟩ := hn11.open1
    have HFc := hide (And.intro c0' (And.intro c1' (And.intro c2' (HX.out.below HB11.out).cells)))
    have IC := hide (And.intro hkc hvc)
    have IN2 := hide (And.intro (HK.out.below HB11.out) (HV.out.below HB11.out))
    have HSC := HS1
    have HSB11 := hide (below_drew0 w11)
    have HBF := hide (nextB HBA.out HB11.out)
    clear hn11 hb11 c0' c1' c2' hkc hvc
    go_wp2_with fail
    obtain ⟨c0, c1, c2, X0, X1, X2⟩ := HFc.out
    refine wp_region_held_drew (S := Below w11.heap.size w11) (by kernel_rfl) HSB11.out (fun hS => ?_)
    refine take_want 0 (some 105) .nilIface rfl rfl rfl (by kernel_rfl) (by kernel_rfl) (by kernel_rfl) (fun _ _ _ h => h) (fun wx hx => exec_move rfl rfl) hS ?_
    simp only [Act.put, List.setIfInBounds_toArray, List.set_cons_zero, List.set_cons_succ]
    refine take_want 1 (some 106) (.bool true) rfl rfl rfl (by kernel_rfl) (by kernel_rfl) (by kernel_rfl) (fun _ _ _ h => h) (fun wx hx => exec_eqlNil rfl rfl rfl) hS ?_
    simp only [Act.put, List.setIfInBounds_toArray, List.set_cons_zero, List.set_cons_succ]
    refine take_want 2 (some 107) (.bool true) rfl rfl rfl (by kernel_rfl) (by kernel_rfl) (by kernel_rfl) (fun _ _ _ h => h) (fun wx hx => exec_move rfl rfl) hS ?_
    simp only [Act.put, List.setIfInBounds_toArray, List.set_cons_zero, List.set_cons_succ]
    refine take_want 3 (some 108) (.slice (some ⟨gc, 0, none⟩) 1 capc) rfl rfl rfl (by kernel_rfl) (by kernel_rfl) (by kernel_rfl) (fun _ _ _ h => h) (fun wx hx => exec_move rfl rfl) hS ?_
    simp only [Act.put, List.setIfInBounds_toArray, List.set_cons_zero, List.set_cons_succ]
    refine take_want 4 (some 109) (.int .i64 ((1 : Nat) : Int)) rfl rfl rfl (by kernel_rfl) (by kernel_rfl) (by kernel_rfl) (fun _ _ _ h => h) (fun wx hx => exec_len rfl (len_nodes _ _ _ _) rfl) hS ?_
    simp only [Act.put, List.setIfInBounds_toArray, List.set_cons_zero, List.set_cons_succ]
    refine take_want 5 (some 110) (.bool true) rfl rfl rfl (by kernel_rfl) (by kernel_rfl) (by kernel_rfl) (fun _ _ _ h => h) (fun wx hx => exec_eql rfl rfl rfl (decide_eq_true rfl)) hS ?_
    simp only [Act.put, List.setIfInBounds_toArray, List.set_cons_zero, List.set_cons_succ]
    refine take_want 6 (some 111) (.bool true) rfl rfl rfl (by kernel_rfl) (by kernel_rfl) (by kernel_rfl) (fun _ _ _ h => h) (fun wx hx => exec_pickT rfl rfl rfl) hS ?_
    simp only [Act.put, List.setIfInBounds_toArray, List.set_cons_zero, List.set_cons_succ]
    refine take_want 7 (some 112) (.bool true) rfl rfl rfl (by kernel_rfl) (by kernel_rfl) (by kernel_rfl) (fun _ _ _ h => h) (fun wx hx => exec_move rfl rfl) hS ?_
    simp only [Act.put, List.setIfInBounds_toArray, List.set_cons_zero, List.set_cons_succ]
    refine take_want 8 (some 113) (.slice (some ⟨gc, 0, none⟩) 1 capc) rfl rfl rfl (by kernel_rfl) (by kernel_rfl) (by kernel_rfl) (fun _ _ _ h => h) (fun wx hx => exec_move rfl rfl) hS ?_
    simp only [Act.put, List.setIfInBounds_toArray, List.set_cons_zero, List.set_cons_succ]
    refine take_want 9 (some 114) (.pointer (some ⟨gc, 0 + 0 * 3, none⟩)) rfl rfl rfl (by kernel_rfl) (by kernel_rfl) (by kernel_rfl) (fun _ _ _ h => h) (fun wx hx => exec_index rfl (index_nodes (i := 0) (by omega)) rfl rfl) hS ?_
    simp only [Act.put, List.setIfInBounds_toArray, List.set_cons_zero, List.set_cons_succ]
    refine take_want 10 (some 115) (.agg #[.int .i64 L, kc, vc]) rfl rfl rfl (by kernel_rfl) (by kernel_rfl) (by kernel_rfl) (fun _ _ _ h => h) (fun wx hx => exec_load rfl (load_nodeP ⟨cell_bel hx c0, cell_bel hx c1, cell_bel hx c2⟩) rfl) hS ?_
    simp only [Act.put, List.setIfInBounds_toArray, List.set_cons_zero, List.set_cons_succ]
    refine take_want 11 (some 116) (.agg #[.int .i64 L, .slice (some ⟨gK, oK, none⟩) nv cK, .slice (some ⟨gV, oV, none⟩) nv cV]) rfl rfl rfl (by kernel_rfl) (by kernel_rfl) (by kernel_rfl) (fun _ _ _ h => h) (fun wx hx => exec_load rfl (load_rnodeP ⟨cell_bel hx X0, cell_bel hx X1, cell_bel hx X2⟩) rfl) hS ?_
    simp only [Act.put, List.setIfInBounds_toArray, List.set_cons_zero, List.set_cons_succ]
    refine call_want 12 (some 117) rfl rfl rfl (by kernel_rfl) (exec_call2 rfl enterSame rfl rfl rfl) ((same_any L L (IC.out.1.below hS) (IC.out.2.below hS) (IN2.out.1.below hS) (IN2.out.2.below hS)).mono ?_)
    rintro e' w9 ⟨rfl, hb9⟩
    rw [HSC.out]
    have hS9 := nextB hS hb9
    refine ⟨_, rfl, hS9, ?_⟩
    simp only [Act.put, List.setIfInBounds_toArray, List.set_cons_zero, List.set_cons_succ]
    refine take_want 13 (some 118) (.bool true) rfl rfl rfl (by kernel_rfl) (by kernel_rfl) (by kernel_rfl) (fun _ _ _ h => h) (fun wx hx => exec_pickT rfl rfl rfl) hS9 ?_
    simp only [Act.put, List.setIfInBounds_toArray, List.set_cons_zero, List.set_cons_succ]
    refine take_want 14 (some 119) (.bool true) rfl rfl rfl (by kernel_rfl) (by kernel_rfl) (by kernel_rfl) (fun _ _ _ h => h) (fun wx hx => exec_move rfl rfl) hS9 ?_
    simp only [Act.put, List.setIfInBounds_toArray, List.set_cons_zero, List.set_cons_succ]
    refine call_want 15 (some 120) rfl rfl rfl (by kernel_rfl) (exec_call0 rfl enterAwake rfl) ((awake_any _).mono ?_)
    rintro e' w10 ⟨rfl, hb10⟩
    have hS10 := nextB hS9 hb10
    refine ⟨_, rfl, hS10, ?_⟩
    simp only [Act.put, List.setIfInBounds_toArray, List.set_cons_zero, List.set_cons_succ]
    refine take_want 16 (some 121) (.bool true) rfl rfl rfl (by kernel_rfl) (by kernel_rfl) (by kernel_rfl) (fun _ _ _ h => h) (fun wx hx => exec_pickT rfl rfl rfl) hS10 ?_
    simp only [Act.put, List.setIfInBounds_toArray, List.set_cons_zero, List.set_cons_succ]
    refine take_want 17 (some 6) (.bool true) rfl rfl rfl (by kernel_rfl) (by kernel_rfl) (by kernel_rfl) (fun _ _ _ h => h) (fun wx hx => exec_assign rfl rfl) hS10 ?_
    simp only [Act.put, List.setIfInBounds_toArray, List.set_cons_zero, List.set_cons_succ]
    refine wpAnyH_done (by kernel_rfl) ?_ _
    clear c0 c1 c2 X0 X1 X2
    go_wp2_with fail
    go_ret
    exact ⟨rfl, nextB HBF.out hS10⟩
end Go.Proofs.Ytcidadikmmdalab
