/- The document's Put. -/
import Derived.Test.YtcidadikmmdalaaRg
import Derived.Test.YtcidadikmmdalaaRc
namespace Go.Proofs.Ytcidadikmmdalaa
open Go.RowKit Go.Extern

/-- What the document's Put has made of the first pairs. -/
def Inv (l : List En) (k v : Int) (j : Nat) (p : Bool) (out : List En) : Prop :=
  (p = false ∧ (∀ q ∈ l.take j, q.1 < k) ∧ out = l.take j) ∨ (p = true ∧ out = loS l k ++ (k, v) :: hiS (l.take j) k ∧ ∃ i, i < j ∧ ∃ q, l[i]? = some q ∧ k ≤ q.1)
theorem inv0 (l : List En) (k v : Int) : Inv l k v 0 false [] := .inl ⟨rfl, by simp, rfl⟩
theorem Inv.len {l : List En} {k v : Int} {j : Nat} {p : Bool} {out : List En} (h : Inv l k v j p out) : out.length ≤ l.length + l.length + 1 := by
  rcases h with ⟨-, -, rfl⟩ | ⟨-, rfl, -⟩
  · simp; omega
  · have h1 := List.length_filter_le (fun p : En => decide (p.1 < k)) l
    have h2 := List.length_filter_le (fun p : En => decide (k < p.1)) (l.take j)
    have h3 : (l.take j).length ≤ l.length := by rw [List.length_take]; omega
    simp only [loS, hiS, List.length_append, List.length_cons]; omega
theorem hiS_snoc {l : List En} {j : Nat} {q : En} (k : Int) (h : l[j]? = some q) : hiS (l.take (j + 1)) k = hiS (l.take j) k ++ (if k < q.1 then [q] else []) := by
  unfold hiS
  rw [take_snoc h, List.filter_append]
  by_cases hq : k < q.1 <;> simp [hq]
theorem lo_at {l : List En} (hr : Ris l) {k : Int} {j : Nat} {q : En} (h : l[j]? = some q) (hlo : ∀ p ∈ l.take j, p.1 < k) (hq : k ≤ q.1) : loS l k = l.take j ∧ hiS (l.take j) k = [] := by
  refine ⟨?_, filter_none (fun p hp => by have := hlo p hp; simp; omega)⟩
  unfold loS
  conv => lhs; rw [← List.take_append_drop j l]
  rw [List.filter_append, filter_all (fun p hp => by simpa using hlo p hp), filter_none (fun p hp => ?_), List.append_nil]
  obtain ⟨i, hi, hpi⟩ := mem_drop_at hp
  rcases Nat.eq_or_lt_of_le hi with e | e
  · subst e; rw [h] at hpi; cases hpi; simp; omega
  · have := hr.at_lt h hpi e; simp; omega
theorem Inv.stepA {l : List En} (hr : Ris l) {k v : Int} {j : Nat} {out : List En} {q : En} (h : Inv l k v j false out) (hq : l[j]? = some q) (hk : k < q.1) : Inv l k v (j + 1) true (out ++ [(k, v)] ++ [q]) := by
  rcases h with ⟨-, hlo, rfl⟩ | ⟨h, -⟩
  · obtain ⟨h1, h2⟩ := lo_at hr hq hlo (by omega)
    exact .inr ⟨rfl, by rw [hiS_snoc k hq, h1, h2, if_pos hk]; simp, j, by omega, q, hq, by omega⟩
  · cases h
theorem Inv.stepB {l : List En} (hr : Ris l) {k v : Int} {j : Nat} {out : List En} {q : En} (h : Inv l k v j false out) (hq : l[j]? = some q) (hk : q.1 = k) : Inv l k v (j + 1) true (out ++ [(k, v)]) := by
  rcases h with ⟨-, hlo, rfl⟩ | ⟨h, -⟩
  · obtain ⟨h1, h2⟩ := lo_at hr hq hlo (by omega)
    exact .inr ⟨rfl, by rw [hiS_snoc k hq, h1, h2, if_neg (by omega)]; simp, j, by omega, q, hq, by omega⟩
  · cases h
theorem Inv.stepC {l : List En} {k v : Int} {j : Nat} {out : List En} {q : En} (h : Inv l k v j false out) (hq : l[j]? = some q) (hk : q.1 < k) : Inv l k v (j + 1) false (out ++ [q]) := by
  rcases h with ⟨-, hlo, rfl⟩ | ⟨h, -⟩
  · refine .inl ⟨rfl, fun p hp => ?_, (take_snoc hq).symm⟩
    rw [take_snoc hq] at hp
    rcases List.mem_append.1 hp with e | e
    · exact hlo p e
    · obtain rfl : p = q := by simpa using e
      exact hk
  · cases h
theorem Inv.gt {l : List En} (hr : Ris l) {k v : Int} {j : Nat} {out : List En} {q : En} (h : Inv l k v j true out) (hq : l[j]? = some q) : k < q.1 := by
  rcases h with ⟨h, -⟩ | ⟨-, -, i, hi, p, hp, hkp⟩
  · cases h
  · have := hr.at_lt hp hq hi; omega
theorem Inv.stepD {l : List En} (hr : Ris l) {k v : Int} {j : Nat} {out : List En} {q : En} (h : Inv l k v j true out) (hq : l[j]? = some q) : Inv l k v (j + 1) true (out ++ [q]) := by
  have hgt := h.gt hr hq
  rcases h with ⟨h, -⟩ | ⟨-, rfl, i, hi, p, hp, hkp⟩
  · cases h
  · exact .inr ⟨rfl, by rw [hiS_snoc k hq, if_pos hgt]; simp, i, by omega, p, hp, hkp⟩
theorem Inv.endF {l : List En} {k v : Int} {j : Nat} {out : List En} (h : Inv l k v j false out) (hj : l.length ≤ j) : out ++ [(k, v)] = putS l k v := by
  rcases h with ⟨-, hlo, rfl⟩ | ⟨h, -⟩
  · rw [List.take_of_length_le hj] at hlo ⊢
    unfold putS loS hiS
    rw [filter_all (fun p hp => by simpa using hlo p hp), filter_none (fun p hp => by have := hlo p hp; simp; omega)]
  · cases h
theorem Inv.endT {l : List En} {k v : Int} {j : Nat} {out : List En} (h : Inv l k v j true out) (hj : l.length ≤ j) : out = putS l k v := by
  rcases h with ⟨h, -⟩ | ⟨-, rfl, -⟩
  · cases h
  · rw [List.take_of_length_le hj]; rfl

set_option maxRecDepth 100000 in
set_option maxHeartbeats 8000000 in
theorem rput_any {w : World} {kv vv : Value} {K V : List Int} {L : Int} (hk : Ints w kv K) (hv : Ints w vv V) (h : Rt L K V) {k v : Int} (hf : fitP (k, v)) :
    Calls Try.prog 19 #[.agg #[.int .i64 L, kv, vv], .int .i64 k, .int .i64 v] w (Nodes w (cutS L (putS (K.zip V) k v))) := by
  have HR := hide h
  have HF := hide hf
  obtain ⟨aK, cK, gK, oK, hkf, hK1, hK2⟩ := hk.at_
  obtain ⟨aV, cV, gV, oV, hvf, hV1, hV2⟩ := hv.at_
  obtain ⟨n, hn⟩ : ∃ n, K.length = n := ⟨_, rfl⟩
  have hpos := h.pos
  have hfew := h.few
  have hlz := h.len
  rw [h.same, hn] at hvf hV1
  rw [hn] at hkf hK1 hpos hfew hlz
  obtain rfl := hK1 (by omega)
  obtain rfl := hV1 (by omega)
  have HN := hide hn
  have HNV : Hid (V.length = n) := hide (by rw [h.same, hn])
  have HLZ := hide hlz
  have HK2 := hide hK2
  have HV2 := hide hV2
  have HOK := hide (zip_ok hk hv)
  have HLIE : Hid (Lie w w.heap.size (w.heap.size + 1) (w.heap.size + 2)) := hide ⟨by omega, by omega, by omega, by omega⟩
  obtain ⟨kvn, hkvn⟩ : ∃ x, kv = x := ⟨_, rfl⟩
  obtain ⟨vvn, hvvn⟩ : ∃ x, vv = x := ⟨_, rfl⟩
  have HK64 := hide (HF.out.i64)
  clear hk hv h hf hn hK1 hV1 hK2 hV2 hlz
  subst hkf hvf
  clear hkvn hvvn kvn vvn
  have HST : Hid (RpW w w.heap.size (w.heap.size + 1) (w.heap.size + 2) L (.slice (some ⟨gK, oK, none⟩) n cK) (.slice (some ⟨gV, oV, none⟩) n cV) [] [] (.slice none 0 0) (.slice none 0 0) ((w.alloc (.cells #[.int .i64 L, .slice (some ⟨gK, oK, none⟩) n cK, .slice (some ⟨gV, oV, none⟩) n cV] 24)).alloc (.cells #[.int .i64 L, .slice none 0 0, .slice none 0 0] 24))) :=
    hide ⟨⟨⟨_, _, _, heap_new2 _ _ _⟩, by
      have := heap_alloc_new (w.alloc (.cells #[.int .i64 L, .slice (some ⟨gK, oK, none⟩) n cK, .slice (some ⟨gV, oV, none⟩) n cV] 24)) (.cells #[.int .i64 L, .slice none 0 0, .slice none 0 0] 24)
      rwa [World.size_alloc] at this, Two.nil _ _, nextB (bel_alloc _ _) (bel_alloc _ _)⟩, heap_new2 _ _ _, by simp⟩
  go_enter Try.func19, Try.ntmps19
  go_wp2_with fail
  go_loopg [8, 9] n (fun t s8 s9 wr => ∃ (j : Nat) (p : Bool) (out : List En) (kvO vvO : Value), j + t = n ∧ s8 = .bool p ∧ s9 = .int .i64 (j : Int) ∧ Hid (RpW w w.heap.size (w.heap.size + 1) (w.heap.size + 2) L (.slice (some ⟨gK, oK, none⟩) n cK) (.slice (some ⟨gV, oV, none⟩) n cV) (out.map Prod.fst) (out.map Prod.snd) kvO vvO wr) ∧ Hid (Inv (K.zip V) k v j p out))
  case atStart => exact ⟨0, false, [], _, _, by omega, rfl, rfl, HST, hide (inv0 _ _ _)⟩
  case round =>
    obtain ⟨j, p, out, kvO, vvO, hj, rfl, rfl, HRP, HINV⟩ := hrel
    have HLO : Hid (out.length ≤ 15) := hide (by have := HINV.out.len; rw [HLZ.out] at this; omega)
    obtain ⟨aO, nO, cO, hkO, -⟩ := HRP.out.md.two.hk.form
    obtain ⟨aU, nU, cU, hvO, -⟩ := HRP.out.md.two.hv.form
    subst hkO hvO
    obtain ⟨o0, o1, o2⟩ := HRP.out.c
    obtain ⟨x0, x1, x2⟩ := HRP.out.bn.cells
    cases gk with
    | zero =>
      have hnl : ¬ (j : Int) < (n : Int) := by omega
      have HJE : Hid ((K.zip V).length ≤ j) := hide (by rw [HLZ.out]; omega)
      cases p with
      | true =>
        have HP := hide (HINV.out.endT HJE.out)
        go_wp2_with fail
        have hI := HRP.out.md.two.ints
        rw [HP.out] at hI
        refine (rcut_any (l := putS (K.zip V) k v) L hI.1 hI.2 (by have h1 := HP.out; have h2 := HLO.out; rw [h1] at h2; omega)).mono ?_
        rintro e w7 ⟨v7, rfl, hn7, hb7⟩
        have HN7 := hide hn7
        have HB7 := hide (nextB HRP.out.md.bel hb7)
        obtain ⟨ao, cap, g7, n7, rfl, -⟩ := hn7
        clear hb7 hI
        go_wp2_with fail
        go_ret
        exact ⟨_, rfl, HN7.out, HB7.out⟩
      | false =>
        have HP := hide (HINV.out.endF HJE.out)
        obtain ⟨kv1, w5, ha1, hk1⟩ := HRP.out.key HLIE.out (k := k) HK64.out.1 (by have := HLO.out; simp; omega)
        obtain ⟨vv1, w6, ha2, hv1⟩ := hk1.rp.val HLIE.out (k := v) HK64.out.2 (by have := HLO.out; simp; omega)
        rw [World.size_setCell] at ha2
        have q2 := hk1.rp.c.2.2
        have c5 := hk1.c
        have f5 := hk1.f
        have c6 := hv1.c
        have f6 := hv1.f
        obtain ⟨r0, r1, r2⟩ := hv1.rp.c
        have HRP2 := hide hv1.rp
        obtain ⟨a1, n1, c1, rfl, -⟩ := hk1.rp.md.two.hk.form
        obtain ⟨a2, n2, c2, rfl, -⟩ := hv1.rp.md.two.hv.form
        clear hk1 hv1
        go_wp2_with (first
          | (at_builtin; refine wpList_append_eq rfl _ _ rfl rfl rfl ha1 ?_; clear ha1)
          | (at_builtin; refine wpList_append_eq rfl _ _ rfl rfl rfl ha2 ?_; clear ha2))
        have hI := HRP2.out.md.two.ints
        rw [show out.map Prod.fst ++ [k] = (out ++ [(k, v)]).map Prod.fst by simp, show out.map Prod.snd ++ [v] = (out ++ [(k, v)]).map Prod.snd by simp, HP.out] at hI
        refine (rcut_any (l := putS (K.zip V) k v) L hI.1 hI.2 (by rw [← HP.out]; have h2 := HLO.out; simp; omega)).mono ?_
        rintro e w7 ⟨v7, rfl, hn7, hb7⟩
        have HN7 := hide hn7
        have HB7 := hide (nextB HRP2.out.md.bel hb7)
        obtain ⟨ao, cap, g7, n7, rfl, -⟩ := hn7
        clear hb7 hI c5 f5 c6 f6 r0 r1 r2 q2 o0 o1 o2 x0 x1 x2
        go_wp2_with fail
        go_ret
        exact ⟨_, rfl, HN7.out, HB7.out⟩
    | succ m =>
      have hlt : (j : Int) < (n : Int) := by omega
      have hb0 : (0 : Int) ≤ (j : Int) := by omega
      have hjn : j < n := by omega
      obtain ⟨a, haj⟩ : ∃ k, K[j]? = some k := ⟨K[j]'(by rw [HN.out]; omega), by rw [List.getElem?_eq_getElem]⟩
      obtain ⟨b, hbj⟩ : ∃ k, V[j]? = some k := ⟨V[j]'(by rw [HNV.out]; omega), by rw [List.getElem?_eq_getElem]⟩
      have hz : (K.zip V)[j]? = some (a, b) := by rw [List.getElem?_zip_eq_some]; exact ⟨haj, hbj⟩
      have HZ := hide hz
      have HA64 := hide (HOK.out _ (List.mem_of_getElem? hz)).1
      have HB64 := hide (HOK.out _ (List.mem_of_getElem? hz)).2
      have C0 := HK2.out j a haj
      have C1 := HV2.out j b hbj
      have HC := hide (And.intro C0 C1)
      have k1 := cell_bel HRP.out.md.bel C0
      have e7 : IntKind.i64.wrap ((j : Int) + 1) = (j : Int) + 1 := IntWalk.i64_in _ ⟨by omega, by omega⟩
      have HE7 := hide e7
      clear haj hbj hz C0 C1 e7
      cases p with
      | true =>
        have hgt := HINV.out.gt HR.out.ris HZ.out
        simp only at hgt
        have en : (a == k) = false := by simp; omega
        have en2 : (a != k) = true := by simp; omega
        have HNX := hide (HINV.out.stepD HR.out.ris HZ.out)
        clear hgt
        go_wp2_with fail
        clear k1 en en2 o0 o1 o2 x0 x1 x2
        obtain ⟨C0, C1⟩ := HC.out
        have yS := hide (AppS.below ⟨HRP.out.bn, HRP.out.md.bel⟩ (below_drew0 wr))
        have yR := hide (HRP.out.below (below_drew0 wr))
        refine wp_region_held_drew (S := AppS w L (.slice (some ⟨gK, oK, none⟩) n cK) (.slice (some ⟨gV, oV, none⟩) n cV)) (by kernel_rfl) yS.out (fun hS => ?_)
        obtain ⟨yd, hyd⟩ : ∃ x, (wr).drew = x := ⟨_, rfl⟩
        simp only [hyd] at hS yR ⊢
        clear hyd yS
        refine take_want 0 (some 50) (.pointer (some ⟨w.heap.size + 1, 0 + 1, none⟩)) rfl rfl rfl (by kernel_rfl) (by kernel_rfl) (by kernel_rfl) (fun _ _ _ h => h) (fun wx hx => exec_field rfl (fldR1 _ _ wx) rfl) hS ?_
        simp only [Act.put, List.setIfInBounds_toArray, List.set_cons_zero, List.set_cons_succ]
        refine take_want 2 (some 52) (.pointer (some ⟨w.heap.size, 0 + 1, none⟩)) rfl rfl rfl (by kernel_rfl) (by kernel_rfl) (by kernel_rfl) (fun _ _ _ h => h) (fun wx hx => exec_field rfl (fldR1 _ _ wx) rfl) hS ?_
        simp only [Act.put, List.setIfInBounds_toArray, List.set_cons_zero, List.set_cons_succ]
        refine take_want 3 (some 53) (.slice (some ⟨gK, oK, none⟩) n cK) rfl rfl rfl (by kernel_rfl) (by kernel_rfl) (by kernel_rfl) (fun _ _ _ h => h) (fun wx hx => exec_load rfl (load_intsP hx.c.2.1) rfl) hS ?_
        simp only [Act.put, List.setIfInBounds_toArray, List.set_cons_zero, List.set_cons_succ]
        refine take_want 4 (some 54) (.int .i64 (j : Int)) rfl rfl rfl (by kernel_rfl) (by kernel_rfl) (by kernel_rfl) (fun _ _ _ h => h) (fun wx hx => exec_move rfl rfl) hS ?_
        simp only [Act.put, List.setIfInBounds_toArray, List.set_cons_zero, List.set_cons_succ]
        refine take_want 5 (some 55) (.pointer (some ⟨gK, oK + j, none⟩)) rfl rfl rfl (by kernel_rfl) (by kernel_rfl) (by kernel_rfl) (fun _ _ _ h => h) (fun wx hx => exec_index rfl (index_ints hjn) rfl rfl) hS ?_
        simp only [Act.put, List.setIfInBounds_toArray, List.set_cons_zero, List.set_cons_succ]
        refine take_want 6 (some 56) (.int .i64 a) rfl rfl rfl (by kernel_rfl) (by kernel_rfl) (by kernel_rfl) (fun _ _ _ h => h) (fun wx hx => exec_load rfl (load_intP (cell_bel hx.bel C0)) rfl) hS ?_
        simp only [Act.put, List.setIfInBounds_toArray, List.set_cons_zero, List.set_cons_succ]
        obtain ⟨yu, yw, ya, yk⟩ := yR.out.key HLIE.out (k := a) HA64.out (by have := HLO.out; simp; omega)
        have yl := (yR.out.below (bel_alloc yd (.cells #[.int .i64 a] 3)))
        refine both_value 1 7 (some 51) (some 57) rfl rfl rfl rfl rfl rfl (by kernel_rfl) (by kernel_rfl) (by kernel_rfl) (vi := (.slice aO nO cO)) (vj := .slice (some ⟨yd.heap.size, 0, none⟩) 1 1) (w' := yd.alloc (.cells #[.int .i64 a] 3)) ?_ ?_ hS (hS.below (bel_alloc _ _)) rfl rfl ?_
        · rintro a' (rfl | rfl) wx (rfl | rfl)
          · exact exec_load rfl (load_intsP yR.out.c.2.1) rfl
          · exact exec_load rfl (load_intsP yl.c.2.1) rfl
          · exact exec_load rfl (load_intsP yR.out.c.2.1) rfl
          · exact exec_load rfl (load_intsP yl.c.2.1) rfl
        · rintro a' (rfl | rfl)
          · exact exec_one rfl (lit1 yd a) rfl
          · exact exec_one rfl (lit1 yd a) rfl
        simp only [Act.put, List.setIfInBounds_toArray, List.set_cons_zero, List.set_cons_succ]
        refine only_value 8 (some 58) rfl rfl rfl (by kernel_rfl) (exec_append rfl ya rfl rfl) ⟨yk.bn, yk.bel⟩ ?_
        simp only [Act.put, List.setIfInBounds_toArray, List.set_cons_zero, List.set_cons_succ]
        refine take_want 9 (some 59) (.pointer (some ⟨w.heap.size + 1, 0 + 1, none⟩)) rfl rfl rfl (by kernel_rfl) (by kernel_rfl) (by kernel_rfl) (fun _ _ _ h => h) (fun wx hx => exec_field rfl (fldR1 _ _ wx) rfl) ⟨yk.bn, yk.bel⟩ ?_
        simp only [Act.put, List.setIfInBounds_toArray, List.set_cons_zero, List.set_cons_succ]
        obtain ⟨yA, yN, yC, rfl, -⟩ := yk.rp.md.two.hk.form
        refine only_skip 10 none rfl rfl rfl (by kernel_rfl) (exec_store rfl (store_ints yk.c yk.f) rfl rfl) ⟨yk.rp.bn, yk.rp.md.bel⟩ ?_
        refine wpAnyH_done (by kernel_rfl) ?_ _
        have yF := hide yk.rp
        clear yl ya yk hS yR
        obtain ⟨yx, hyx⟩ : ∃ x, yw.setCell ⟨w.heap.size + 1, 0 + 1, none⟩ (.slice yA yN yC) = x := ⟨_, rfl⟩
        have hyy := hyx
        rw [Nat.zero_add] at hyy
        simp only [hyy] at yF
        simp only [hyx]
        clear hyx hyy
        obtain ⟨o0, o1, o2⟩ := yF.out.c
        obtain ⟨x0, x1, x2⟩ := yF.out.bn.cells
        go_wp2_with fail
        clear o0 o1 o2 x0 x1 x2
        have zS := hide (AppS.below ⟨yF.out.bn, yF.out.md.bel⟩ (below_drew0 yx))
        have zR := hide (yF.out.below (below_drew0 yx))
        refine wp_region_held_drew (S := AppS w L (.slice (some ⟨gK, oK, none⟩) n cK) (.slice (some ⟨gV, oV, none⟩) n cV)) (by kernel_rfl) zS.out (fun hS => ?_)
        obtain ⟨zd, hzd⟩ : ∃ x, (yx).drew = x := ⟨_, rfl⟩
        simp only [hzd] at hS zR ⊢
        clear hzd zS
        refine take_want 0 (some 60) (.pointer (some ⟨w.heap.size + 1, 0 + 2, none⟩)) rfl rfl rfl (by kernel_rfl) (by kernel_rfl) (by kernel_rfl) (fun _ _ _ h => h) (fun wx hx => exec_field rfl (fldR2 _ _ wx) rfl) hS ?_
        simp only [Act.put, List.setIfInBounds_toArray, List.set_cons_zero, List.set_cons_succ]
        refine take_want 2 (some 62) (.pointer (some ⟨w.heap.size, 0 + 2, none⟩)) rfl rfl rfl (by kernel_rfl) (by kernel_rfl) (by kernel_rfl) (fun _ _ _ h => h) (fun wx hx => exec_field rfl (fldR2 _ _ wx) rfl) hS ?_
        simp only [Act.put, List.setIfInBounds_toArray, List.set_cons_zero, List.set_cons_succ]
        refine take_want 3 (some 63) (.slice (some ⟨gV, oV, none⟩) n cV) rfl rfl rfl (by kernel_rfl) (by kernel_rfl) (by kernel_rfl) (fun _ _ _ h => h) (fun wx hx => exec_load rfl (load_intsP hx.c.2.2) rfl) hS ?_
        simp only [Act.put, List.setIfInBounds_toArray, List.set_cons_zero, List.set_cons_succ]
        refine take_want 4 (some 64) (.int .i64 (j : Int)) rfl rfl rfl (by kernel_rfl) (by kernel_rfl) (by kernel_rfl) (fun _ _ _ h => h) (fun wx hx => exec_move rfl rfl) hS ?_
        simp only [Act.put, List.setIfInBounds_toArray, List.set_cons_zero, List.set_cons_succ]
        refine take_want 5 (some 65) (.pointer (some ⟨gV, oV + j, none⟩)) rfl rfl rfl (by kernel_rfl) (by kernel_rfl) (by kernel_rfl) (fun _ _ _ h => h) (fun wx hx => exec_index rfl (index_ints hjn) rfl rfl) hS ?_
        simp only [Act.put, List.setIfInBounds_toArray, List.set_cons_zero, List.set_cons_succ]
        refine take_want 6 (some 66) (.int .i64 b) rfl rfl rfl (by kernel_rfl) (by kernel_rfl) (by kernel_rfl) (fun _ _ _ h => h) (fun wx hx => exec_load rfl (load_intP (cell_bel hx.bel C1)) rfl) hS ?_
        simp only [Act.put, List.setIfInBounds_toArray, List.set_cons_zero, List.set_cons_succ]
        obtain ⟨zu, zw, za, zk⟩ := zR.out.val HLIE.out (k := b) HB64.out (by have := HLO.out; simp; omega)
        have zl := (zR.out.below (bel_alloc zd (.cells #[.int .i64 b] 3)))
        refine both_value 1 7 (some 61) (some 67) rfl rfl rfl rfl rfl rfl (by kernel_rfl) (by kernel_rfl) (by kernel_rfl) (vi := (.slice aU nU cU)) (vj := .slice (some ⟨zd.heap.size, 0, none⟩) 1 1) (w' := zd.alloc (.cells #[.int .i64 b] 3)) ?_ ?_ hS (hS.below (bel_alloc _ _)) rfl rfl ?_
        · rintro a' (rfl | rfl) wx (rfl | rfl)
          · exact exec_load rfl (load_intsP zR.out.c.2.2) rfl
          · exact exec_load rfl (load_intsP zl.c.2.2) rfl
          · exact exec_load rfl (load_intsP zR.out.c.2.2) rfl
          · exact exec_load rfl (load_intsP zl.c.2.2) rfl
        · rintro a' (rfl | rfl)
          · exact exec_one rfl (lit1 zd b) rfl
          · exact exec_one rfl (lit1 zd b) rfl
        simp only [Act.put, List.setIfInBounds_toArray, List.set_cons_zero, List.set_cons_succ]
        refine only_value 8 (some 68) rfl rfl rfl (by kernel_rfl) (exec_append rfl za rfl rfl) ⟨zk.bn, zk.bel⟩ ?_
        simp only [Act.put, List.setIfInBounds_toArray, List.set_cons_zero, List.set_cons_succ]
        refine take_want 9 (some 69) (.pointer (some ⟨w.heap.size + 1, 0 + 2, none⟩)) rfl rfl rfl (by kernel_rfl) (by kernel_rfl) (by kernel_rfl) (fun _ _ _ h => h) (fun wx hx => exec_field rfl (fldR2 _ _ wx) rfl) ⟨zk.bn, zk.bel⟩ ?_
        simp only [Act.put, List.setIfInBounds_toArray, List.set_cons_zero, List.set_cons_succ]
        obtain ⟨zA, zN, zC, rfl, -⟩ := zk.rp.md.two.hv.form
        refine only_skip 10 none rfl rfl rfl (by kernel_rfl) (exec_store rfl (store_ints zk.c zk.f) rfl rfl) ⟨zk.rp.bn, zk.rp.md.bel⟩ ?_
        refine wpAnyH_done (by kernel_rfl) ?_ _
        have zF := hide zk.rp
        clear zl za zk hS zR
        obtain ⟨zx, hzx⟩ : ∃ x, zw.setCell ⟨w.heap.size + 1, 0 + 2, none⟩ (.slice zA zN zC) = x := ⟨_, rfl⟩
        have hzy := hzx
        rw [Nat.zero_add] at hzy
        simp only [hzy] at zF
        simp only [hzx]
        clear hzx hzy
        clear C0 C1
        have e7 := HE7.out
        go_wp2_with fail
        go_roundg m
        case measure => omega
        case rel => exact ⟨j + 1, true, _, _, _, by omega, rfl, by go_num, hide (by rw [List.map_append, List.map_append]; exact zF.out), HNX⟩
      | false =>
        by_cases hak : a < k
        · have hge : ¬ k ≤ a := by omega
          have en : (a == k) = false := by simp; omega
          have en2 : (a != k) = true := by simp; omega
          have HNX := hide (HINV.out.stepC HZ.out hak)
          clear hak
          go_wp2_with fail
          clear k1 en en2 o0 o1 o2 x0 x1 x2
          obtain ⟨C0, C1⟩ := HC.out
          have yS := hide (AppS.below ⟨HRP.out.bn, HRP.out.md.bel⟩ (below_drew0 wr))
          have yR := hide (HRP.out.below (below_drew0 wr))
          refine wp_region_held_drew (S := AppS w L (.slice (some ⟨gK, oK, none⟩) n cK) (.slice (some ⟨gV, oV, none⟩) n cV)) (by kernel_rfl) yS.out (fun hS => ?_)
          obtain ⟨yd, hyd⟩ : ∃ x, (wr).drew = x := ⟨_, rfl⟩
          simp only [hyd] at hS yR ⊢
          clear hyd yS
          refine take_want 0 (some 50) (.pointer (some ⟨w.heap.size + 1, 0 + 1, none⟩)) rfl rfl rfl (by kernel_rfl) (by kernel_rfl) (by kernel_rfl) (fun _ _ _ h => h) (fun wx hx => exec_field rfl (fldR1 _ _ wx) rfl) hS ?_
          simp only [Act.put, List.setIfInBounds_toArray, List.set_cons_zero, List.set_cons_succ]
          refine take_want 2 (some 52) (.pointer (some ⟨w.heap.size, 0 + 1, none⟩)) rfl rfl rfl (by kernel_rfl) (by kernel_rfl) (by kernel_rfl) (fun _ _ _ h => h) (fun wx hx => exec_field rfl (fldR1 _ _ wx) rfl) hS ?_
          simp only [Act.put, List.setIfInBounds_toArray, List.set_cons_zero, List.set_cons_succ]
          refine take_want 3 (some 53) (.slice (some ⟨gK, oK, none⟩) n cK) rfl rfl rfl (by kernel_rfl) (by kernel_rfl) (by kernel_rfl) (fun _ _ _ h => h) (fun wx hx => exec_load rfl (load_intsP hx.c.2.1) rfl) hS ?_
          simp only [Act.put, List.setIfInBounds_toArray, List.set_cons_zero, List.set_cons_succ]
          refine take_want 4 (some 54) (.int .i64 (j : Int)) rfl rfl rfl (by kernel_rfl) (by kernel_rfl) (by kernel_rfl) (fun _ _ _ h => h) (fun wx hx => exec_move rfl rfl) hS ?_
          simp only [Act.put, List.setIfInBounds_toArray, List.set_cons_zero, List.set_cons_succ]
          refine take_want 5 (some 55) (.pointer (some ⟨gK, oK + j, none⟩)) rfl rfl rfl (by kernel_rfl) (by kernel_rfl) (by kernel_rfl) (fun _ _ _ h => h) (fun wx hx => exec_index rfl (index_ints hjn) rfl rfl) hS ?_
          simp only [Act.put, List.setIfInBounds_toArray, List.set_cons_zero, List.set_cons_succ]
          refine take_want 6 (some 56) (.int .i64 a) rfl rfl rfl (by kernel_rfl) (by kernel_rfl) (by kernel_rfl) (fun _ _ _ h => h) (fun wx hx => exec_load rfl (load_intP (cell_bel hx.bel C0)) rfl) hS ?_
          simp only [Act.put, List.setIfInBounds_toArray, List.set_cons_zero, List.set_cons_succ]
          obtain ⟨yu, yw, ya, yk⟩ := yR.out.key HLIE.out (k := a) HA64.out (by have := HLO.out; simp; omega)
          have yl := (yR.out.below (bel_alloc yd (.cells #[.int .i64 a] 3)))
          refine both_value 1 7 (some 51) (some 57) rfl rfl rfl rfl rfl rfl (by kernel_rfl) (by kernel_rfl) (by kernel_rfl) (vi := (.slice aO nO cO)) (vj := .slice (some ⟨yd.heap.size, 0, none⟩) 1 1) (w' := yd.alloc (.cells #[.int .i64 a] 3)) ?_ ?_ hS (hS.below (bel_alloc _ _)) rfl rfl ?_
          · rintro a' (rfl | rfl) wx (rfl | rfl)
            · exact exec_load rfl (load_intsP yR.out.c.2.1) rfl
            · exact exec_load rfl (load_intsP yl.c.2.1) rfl
            · exact exec_load rfl (load_intsP yR.out.c.2.1) rfl
            · exact exec_load rfl (load_intsP yl.c.2.1) rfl
          · rintro a' (rfl | rfl)
            · exact exec_one rfl (lit1 yd a) rfl
            · exact exec_one rfl (lit1 yd a) rfl
          simp only [Act.put, List.setIfInBounds_toArray, List.set_cons_zero, List.set_cons_succ]
          refine only_value 8 (some 58) rfl rfl rfl (by kernel_rfl) (exec_append rfl ya rfl rfl) ⟨yk.bn, yk.bel⟩ ?_
          simp only [Act.put, List.setIfInBounds_toArray, List.set_cons_zero, List.set_cons_succ]
          refine take_want 9 (some 59) (.pointer (some ⟨w.heap.size + 1, 0 + 1, none⟩)) rfl rfl rfl (by kernel_rfl) (by kernel_rfl) (by kernel_rfl) (fun _ _ _ h => h) (fun wx hx => exec_field rfl (fldR1 _ _ wx) rfl) ⟨yk.bn, yk.bel⟩ ?_
          simp only [Act.put, List.setIfInBounds_toArray, List.set_cons_zero, List.set_cons_succ]
          obtain ⟨yA, yN, yC, rfl, -⟩ := yk.rp.md.two.hk.form
          refine only_skip 10 none rfl rfl rfl (by kernel_rfl) (exec_store rfl (store_ints yk.c yk.f) rfl rfl) ⟨yk.rp.bn, yk.rp.md.bel⟩ ?_
          refine wpAnyH_done (by kernel_rfl) ?_ _
          have yF := hide yk.rp
          clear yl ya yk hS yR
          obtain ⟨yx, hyx⟩ : ∃ x, yw.setCell ⟨w.heap.size + 1, 0 + 1, none⟩ (.slice yA yN yC) = x := ⟨_, rfl⟩
          have hyy := hyx
          rw [Nat.zero_add] at hyy
          simp only [hyy] at yF
          simp only [hyx]
          clear hyx hyy
          obtain ⟨o0, o1, o2⟩ := yF.out.c
          obtain ⟨x0, x1, x2⟩ := yF.out.bn.cells
          go_wp2_with fail
          clear o0 o1 o2 x0 x1 x2
          have zS := hide (AppS.below ⟨yF.out.bn, yF.out.md.bel⟩ (below_drew0 yx))
          have zR := hide (yF.out.below (below_drew0 yx))
          refine wp_region_held_drew (S := AppS w L (.slice (some ⟨gK, oK, none⟩) n cK) (.slice (some ⟨gV, oV, none⟩) n cV)) (by kernel_rfl) zS.out (fun hS => ?_)
          obtain ⟨zd, hzd⟩ : ∃ x, (yx).drew = x := ⟨_, rfl⟩
          simp only [hzd] at hS zR ⊢
          clear hzd zS
          refine take_want 0 (some 60) (.pointer (some ⟨w.heap.size + 1, 0 + 2, none⟩)) rfl rfl rfl (by kernel_rfl) (by kernel_rfl) (by kernel_rfl) (fun _ _ _ h => h) (fun wx hx => exec_field rfl (fldR2 _ _ wx) rfl) hS ?_
          simp only [Act.put, List.setIfInBounds_toArray, List.set_cons_zero, List.set_cons_succ]
          refine take_want 2 (some 62) (.pointer (some ⟨w.heap.size, 0 + 2, none⟩)) rfl rfl rfl (by kernel_rfl) (by kernel_rfl) (by kernel_rfl) (fun _ _ _ h => h) (fun wx hx => exec_field rfl (fldR2 _ _ wx) rfl) hS ?_
          simp only [Act.put, List.setIfInBounds_toArray, List.set_cons_zero, List.set_cons_succ]
          refine take_want 3 (some 63) (.slice (some ⟨gV, oV, none⟩) n cV) rfl rfl rfl (by kernel_rfl) (by kernel_rfl) (by kernel_rfl) (fun _ _ _ h => h) (fun wx hx => exec_load rfl (load_intsP hx.c.2.2) rfl) hS ?_
          simp only [Act.put, List.setIfInBounds_toArray, List.set_cons_zero, List.set_cons_succ]
          refine take_want 4 (some 64) (.int .i64 (j : Int)) rfl rfl rfl (by kernel_rfl) (by kernel_rfl) (by kernel_rfl) (fun _ _ _ h => h) (fun wx hx => exec_move rfl rfl) hS ?_
          simp only [Act.put, List.setIfInBounds_toArray, List.set_cons_zero, List.set_cons_succ]
          refine take_want 5 (some 65) (.pointer (some ⟨gV, oV + j, none⟩)) rfl rfl rfl (by kernel_rfl) (by kernel_rfl) (by kernel_rfl) (fun _ _ _ h => h) (fun wx hx => exec_index rfl (index_ints hjn) rfl rfl) hS ?_
          simp only [Act.put, List.setIfInBounds_toArray, List.set_cons_zero, List.set_cons_succ]
          refine take_want 6 (some 66) (.int .i64 b) rfl rfl rfl (by kernel_rfl) (by kernel_rfl) (by kernel_rfl) (fun _ _ _ h => h) (fun wx hx => exec_load rfl (load_intP (cell_bel hx.bel C1)) rfl) hS ?_
          simp only [Act.put, List.setIfInBounds_toArray, List.set_cons_zero, List.set_cons_succ]
          obtain ⟨zu, zw, za, zk⟩ := zR.out.val HLIE.out (k := b) HB64.out (by have := HLO.out; simp; omega)
          have zl := (zR.out.below (bel_alloc zd (.cells #[.int .i64 b] 3)))
          refine both_value 1 7 (some 61) (some 67) rfl rfl rfl rfl rfl rfl (by kernel_rfl) (by kernel_rfl) (by kernel_rfl) (vi := (.slice aU nU cU)) (vj := .slice (some ⟨zd.heap.size, 0, none⟩) 1 1) (w' := zd.alloc (.cells #[.int .i64 b] 3)) ?_ ?_ hS (hS.below (bel_alloc _ _)) rfl rfl ?_
          · rintro a' (rfl | rfl) wx (rfl | rfl)
            · exact exec_load rfl (load_intsP zR.out.c.2.2) rfl
            · exact exec_load rfl (load_intsP zl.c.2.2) rfl
            · exact exec_load rfl (load_intsP zR.out.c.2.2) rfl
            · exact exec_load rfl (load_intsP zl.c.2.2) rfl
          · rintro a' (rfl | rfl)
            · exact exec_one rfl (lit1 zd b) rfl
            · exact exec_one rfl (lit1 zd b) rfl
          simp only [Act.put, List.setIfInBounds_toArray, List.set_cons_zero, List.set_cons_succ]
          refine only_value 8 (some 68) rfl rfl rfl (by kernel_rfl) (exec_append rfl za rfl rfl) ⟨zk.bn, zk.bel⟩ ?_
          simp only [Act.put, List.setIfInBounds_toArray, List.set_cons_zero, List.set_cons_succ]
          refine take_want 9 (some 69) (.pointer (some ⟨w.heap.size + 1, 0 + 2, none⟩)) rfl rfl rfl (by kernel_rfl) (by kernel_rfl) (by kernel_rfl) (fun _ _ _ h => h) (fun wx hx => exec_field rfl (fldR2 _ _ wx) rfl) ⟨zk.bn, zk.bel⟩ ?_
          simp only [Act.put, List.setIfInBounds_toArray, List.set_cons_zero, List.set_cons_succ]
          obtain ⟨zA, zN, zC, rfl, -⟩ := zk.rp.md.two.hv.form
          refine only_skip 10 none rfl rfl rfl (by kernel_rfl) (exec_store rfl (store_ints zk.c zk.f) rfl rfl) ⟨zk.rp.bn, zk.rp.md.bel⟩ ?_
          refine wpAnyH_done (by kernel_rfl) ?_ _
          have zF := hide zk.rp
          clear zl za zk hS zR
          obtain ⟨zx, hzx⟩ : ∃ x, zw.setCell ⟨w.heap.size + 1, 0 + 2, none⟩ (.slice zA zN zC) = x := ⟨_, rfl⟩
          have hzy := hzx
          rw [Nat.zero_add] at hzy
          simp only [hzy] at zF
          simp only [hzx]
          clear hzx hzy
          clear C0 C1
          have e7 := HE7.out
          go_wp2_with fail
          go_roundg m
          case measure => omega
          case rel => exact ⟨j + 1, false, _, _, _, by omega, rfl, by go_num, hide (by rw [List.map_append, List.map_append]; exact zF.out), HNX⟩
        · have hge : k ≤ a := by omega
          obtain ⟨kv1, w5, ha1, hk1⟩ := HRP.out.key HLIE.out (k := k) HK64.out.1 (by have := HLO.out; simp; omega)
          obtain ⟨vv1, w6, ha2, hv1⟩ := hk1.rp.val HLIE.out (k := v) HK64.out.2 (by have := HLO.out; simp; omega)
          rw [World.size_setCell] at ha2
          have q2 := hk1.rp.c.2.2
          have c5 := hk1.c
          have f5 := hk1.f
          have c6 := hv1.c
          have f6 := hv1.f
          obtain ⟨r0, r1, r2⟩ := hv1.rp.bn.cells
          have k2 := cell_bel hv1.rp.md.bel HC.out.1
          have HRP2 := hide hv1.rp
          obtain ⟨a1, n1, c1, rfl, -⟩ := hk1.rp.md.two.hk.form
          obtain ⟨a2, n2, c2, rfl, -⟩ := hv1.rp.md.two.hv.form
          clear hk1 hv1
          by_cases hek : a = k
          · have en : (a == k) = true := by simpa using hek
            have en2 : (a != k) = false := by simp; omega
            have HNX := hide (HINV.out.stepB HR.out.ris HZ.out (by simpa using hek))
            have e7 := HE7.out
            clear hak hek
            go_wp2_with (first
              | (at_builtin; refine wpList_append_eq rfl _ _ rfl rfl rfl ha1 ?_; clear ha1)
              | (at_builtin; refine wpList_append_eq rfl _ _ rfl rfl rfl ha2 ?_; clear ha2))
            go_roundg m
            case measure => omega
            case rel => exact ⟨j + 1, true, _, _, _, by omega, rfl, by go_num, hide (by rw [List.map_append, List.map_append]; exact HRP2.out), HNX⟩
          · have en : (a == k) = false := by simpa using hek
            have en2 : (a != k) = true := by simpa using hek
            have HNX := hide (HINV.out.stepA HR.out.ris HZ.out (by simp only; omega))
            clear hak hek
            go_wp2_with (first
              | (at_builtin; refine wpList_append_eq rfl _ _ rfl rfl rfl ha1 ?_; clear ha1)
              | (at_builtin; refine wpList_append_eq rfl _ _ rfl rfl rfl ha2 ?_; clear ha2))
            clear k1 k2 en en2 o0 o1 o2 x0 x1 x2 r0 r1 r2 q2 c5 f5 c6 f6
            obtain ⟨w8, hw8⟩ : ∃ x, w6.setCell ⟨w.heap.size + 1, 2, none⟩ (.slice a2 n2 c2) = x := ⟨_, rfl⟩
            simp only [hw8] at HRP2 ⊢
            clear hw8
            obtain ⟨C0, C1⟩ := HC.out
            have yS := hide (AppS.below ⟨HRP2.out.bn, HRP2.out.md.bel⟩ (below_drew0 w8))
            have yR := hide (HRP2.out.below (below_drew0 w8))
            refine wp_region_held_drew (S := AppS w L (.slice (some ⟨gK, oK, none⟩) n cK) (.slice (some ⟨gV, oV, none⟩) n cV)) (by kernel_rfl) yS.out (fun hS => ?_)
            obtain ⟨yd, hyd⟩ : ∃ x, (w8).drew = x := ⟨_, rfl⟩
            simp only [hyd] at hS yR ⊢
            clear hyd yS
            refine take_want 0 (some 50) (.pointer (some ⟨w.heap.size + 1, 0 + 1, none⟩)) rfl rfl rfl (by kernel_rfl) (by kernel_rfl) (by kernel_rfl) (fun _ _ _ h => h) (fun wx hx => exec_field rfl (fldR1 _ _ wx) rfl) hS ?_
            simp only [Act.put, List.setIfInBounds_toArray, List.set_cons_zero, List.set_cons_succ]
            refine take_want 2 (some 52) (.pointer (some ⟨w.heap.size, 0 + 1, none⟩)) rfl rfl rfl (by kernel_rfl) (by kernel_rfl) (by kernel_rfl) (fun _ _ _ h => h) (fun wx hx => exec_field rfl (fldR1 _ _ wx) rfl) hS ?_
            simp only [Act.put, List.setIfInBounds_toArray, List.set_cons_zero, List.set_cons_succ]
            refine take_want 3 (some 53) (.slice (some ⟨gK, oK, none⟩) n cK) rfl rfl rfl (by kernel_rfl) (by kernel_rfl) (by kernel_rfl) (fun _ _ _ h => h) (fun wx hx => exec_load rfl (load_intsP hx.c.2.1) rfl) hS ?_
            simp only [Act.put, List.setIfInBounds_toArray, List.set_cons_zero, List.set_cons_succ]
            refine take_want 4 (some 54) (.int .i64 (j : Int)) rfl rfl rfl (by kernel_rfl) (by kernel_rfl) (by kernel_rfl) (fun _ _ _ h => h) (fun wx hx => exec_move rfl rfl) hS ?_
            simp only [Act.put, List.setIfInBounds_toArray, List.set_cons_zero, List.set_cons_succ]
            refine take_want 5 (some 55) (.pointer (some ⟨gK, oK + j, none⟩)) rfl rfl rfl (by kernel_rfl) (by kernel_rfl) (by kernel_rfl) (fun _ _ _ h => h) (fun wx hx => exec_index rfl (index_ints hjn) rfl rfl) hS ?_
            simp only [Act.put, List.setIfInBounds_toArray, List.set_cons_zero, List.set_cons_succ]
            refine take_want 6 (some 56) (.int .i64 a) rfl rfl rfl (by kernel_rfl) (by kernel_rfl) (by kernel_rfl) (fun _ _ _ h => h) (fun wx hx => exec_load rfl (load_intP (cell_bel hx.bel C0)) rfl) hS ?_
            simp only [Act.put, List.setIfInBounds_toArray, List.set_cons_zero, List.set_cons_succ]
            obtain ⟨yu, yw, ya, yk⟩ := yR.out.key HLIE.out (k := a) HA64.out (by have := HLO.out; simp; omega)
            have yl := (yR.out.below (bel_alloc yd (.cells #[.int .i64 a] 3)))
            refine both_value 1 7 (some 51) (some 57) rfl rfl rfl rfl rfl rfl (by kernel_rfl) (by kernel_rfl) (by kernel_rfl) (vi := (.slice a1 n1 c1)) (vj := .slice (some ⟨yd.heap.size, 0, none⟩) 1 1) (w' := yd.alloc (.cells #[.int .i64 a] 3)) ?_ ?_ hS (hS.below (bel_alloc _ _)) rfl rfl ?_
            · rintro a' (rfl | rfl) wx (rfl | rfl)
              · exact exec_load rfl (load_intsP yR.out.c.2.1) rfl
              · exact exec_load rfl (load_intsP yl.c.2.1) rfl
              · exact exec_load rfl (load_intsP yR.out.c.2.1) rfl
              · exact exec_load rfl (load_intsP yl.c.2.1) rfl
            · rintro a' (rfl | rfl)
              · exact exec_one rfl (lit1 yd a) rfl
              · exact exec_one rfl (lit1 yd a) rfl
            simp only [Act.put, List.setIfInBounds_toArray, List.set_cons_zero, List.set_cons_succ]
            refine only_value 8 (some 58) rfl rfl rfl (by kernel_rfl) (exec_append rfl ya rfl rfl) ⟨yk.bn, yk.bel⟩ ?_
            simp only [Act.put, List.setIfInBounds_toArray, List.set_cons_zero, List.set_cons_succ]
            refine take_want 9 (some 59) (.pointer (some ⟨w.heap.size + 1, 0 + 1, none⟩)) rfl rfl rfl (by kernel_rfl) (by kernel_rfl) (by kernel_rfl) (fun _ _ _ h => h) (fun wx hx => exec_field rfl (fldR1 _ _ wx) rfl) ⟨yk.bn, yk.bel⟩ ?_
            simp only [Act.put, List.setIfInBounds_toArray, List.set_cons_zero, List.set_cons_succ]
            obtain ⟨yA, yN, yC, rfl, -⟩ := yk.rp.md.two.hk.form
            refine only_skip 10 none rfl rfl rfl (by kernel_rfl) (exec_store rfl (store_ints yk.c yk.f) rfl rfl) ⟨yk.rp.bn, yk.rp.md.bel⟩ ?_
            refine wpAnyH_done (by kernel_rfl) ?_ _
            have yF := hide yk.rp
            clear yl ya yk hS yR
            obtain ⟨yx, hyx⟩ : ∃ x, yw.setCell ⟨w.heap.size + 1, 0 + 1, none⟩ (.slice yA yN yC) = x := ⟨_, rfl⟩
            have hyy := hyx
            rw [Nat.zero_add] at hyy
            simp only [hyy] at yF
            simp only [hyx]
            clear hyx hyy
            obtain ⟨o0, o1, o2⟩ := yF.out.c
            obtain ⟨x0, x1, x2⟩ := yF.out.bn.cells
            go_wp2_with fail
            clear o0 o1 o2 x0 x1 x2
            have zS := hide (AppS.below ⟨yF.out.bn, yF.out.md.bel⟩ (below_drew0 yx))
            have zR := hide (yF.out.below (below_drew0 yx))
            refine wp_region_held_drew (S := AppS w L (.slice (some ⟨gK, oK, none⟩) n cK) (.slice (some ⟨gV, oV, none⟩) n cV)) (by kernel_rfl) zS.out (fun hS => ?_)
            obtain ⟨zd, hzd⟩ : ∃ x, (yx).drew = x := ⟨_, rfl⟩
            simp only [hzd] at hS zR ⊢
            clear hzd zS
            refine take_want 0 (some 60) (.pointer (some ⟨w.heap.size + 1, 0 + 2, none⟩)) rfl rfl rfl (by kernel_rfl) (by kernel_rfl) (by kernel_rfl) (fun _ _ _ h => h) (fun wx hx => exec_field rfl (fldR2 _ _ wx) rfl) hS ?_
            simp only [Act.put, List.setIfInBounds_toArray, List.set_cons_zero, List.set_cons_succ]
            refine take_want 2 (some 62) (.pointer (some ⟨w.heap.size, 0 + 2, none⟩)) rfl rfl rfl (by kernel_rfl) (by kernel_rfl) (by kernel_rfl) (fun _ _ _ h => h) (fun wx hx => exec_field rfl (fldR2 _ _ wx) rfl) hS ?_
            simp only [Act.put, List.setIfInBounds_toArray, List.set_cons_zero, List.set_cons_succ]
            refine take_want 3 (some 63) (.slice (some ⟨gV, oV, none⟩) n cV) rfl rfl rfl (by kernel_rfl) (by kernel_rfl) (by kernel_rfl) (fun _ _ _ h => h) (fun wx hx => exec_load rfl (load_intsP hx.c.2.2) rfl) hS ?_
            simp only [Act.put, List.setIfInBounds_toArray, List.set_cons_zero, List.set_cons_succ]
            refine take_want 4 (some 64) (.int .i64 (j : Int)) rfl rfl rfl (by kernel_rfl) (by kernel_rfl) (by kernel_rfl) (fun _ _ _ h => h) (fun wx hx => exec_move rfl rfl) hS ?_
            simp only [Act.put, List.setIfInBounds_toArray, List.set_cons_zero, List.set_cons_succ]
            refine take_want 5 (some 65) (.pointer (some ⟨gV, oV + j, none⟩)) rfl rfl rfl (by kernel_rfl) (by kernel_rfl) (by kernel_rfl) (fun _ _ _ h => h) (fun wx hx => exec_index rfl (index_ints hjn) rfl rfl) hS ?_
            simp only [Act.put, List.setIfInBounds_toArray, List.set_cons_zero, List.set_cons_succ]
            refine take_want 6 (some 66) (.int .i64 b) rfl rfl rfl (by kernel_rfl) (by kernel_rfl) (by kernel_rfl) (fun _ _ _ h => h) (fun wx hx => exec_load rfl (load_intP (cell_bel hx.bel C1)) rfl) hS ?_
            simp only [Act.put, List.setIfInBounds_toArray, List.set_cons_zero, List.set_cons_succ]
            obtain ⟨zu, zw, za, zk⟩ := zR.out.val HLIE.out (k := b) HB64.out (by have := HLO.out; simp; omega)
            have zl := (zR.out.below (bel_alloc zd (.cells #[.int .i64 b] 3)))
            refine both_value 1 7 (some 61) (some 67) rfl rfl rfl rfl rfl rfl (by kernel_rfl) (by kernel_rfl) (by kernel_rfl) (vi := (.slice a2 n2 c2)) (vj := .slice (some ⟨zd.heap.size, 0, none⟩) 1 1) (w' := zd.alloc (.cells #[.int .i64 b] 3)) ?_ ?_ hS (hS.below (bel_alloc _ _)) rfl rfl ?_
            · rintro a' (rfl | rfl) wx (rfl | rfl)
              · exact exec_load rfl (load_intsP zR.out.c.2.2) rfl
              · exact exec_load rfl (load_intsP zl.c.2.2) rfl
              · exact exec_load rfl (load_intsP zR.out.c.2.2) rfl
              · exact exec_load rfl (load_intsP zl.c.2.2) rfl
            · rintro a' (rfl | rfl)
              · exact exec_one rfl (lit1 zd b) rfl
              · exact exec_one rfl (lit1 zd b) rfl
            simp only [Act.put, List.setIfInBounds_toArray, List.set_cons_zero, List.set_cons_succ]
            refine only_value 8 (some 68) rfl rfl rfl (by kernel_rfl) (exec_append rfl za rfl rfl) ⟨zk.bn, zk.bel⟩ ?_
            simp only [Act.put, List.setIfInBounds_toArray, List.set_cons_zero, List.set_cons_succ]
            refine take_want 9 (some 69) (.pointer (some ⟨w.heap.size + 1, 0 + 2, none⟩)) rfl rfl rfl (by kernel_rfl) (by kernel_rfl) (by kernel_rfl) (fun _ _ _ h => h) (fun wx hx => exec_field rfl (fldR2 _ _ wx) rfl) ⟨zk.bn, zk.bel⟩ ?_
            simp only [Act.put, List.setIfInBounds_toArray, List.set_cons_zero, List.set_cons_succ]
            obtain ⟨zA, zN, zC, rfl, -⟩ := zk.rp.md.two.hv.form
            refine only_skip 10 none rfl rfl rfl (by kernel_rfl) (exec_store rfl (store_ints zk.c zk.f) rfl rfl) ⟨zk.rp.bn, zk.rp.md.bel⟩ ?_
            refine wpAnyH_done (by kernel_rfl) ?_ _
            have zF := hide zk.rp
            clear zl za zk hS zR
            obtain ⟨zx, hzx⟩ : ∃ x, zw.setCell ⟨w.heap.size + 1, 0 + 2, none⟩ (.slice zA zN zC) = x := ⟨_, rfl⟩
            have hzy := hzx
            rw [Nat.zero_add] at hzy
            simp only [hzy] at zF
            simp only [hzx]
            clear hzx hzy
            clear C0 C1
            have e7 := HE7.out
            go_wp2_with fail
            go_roundg m
            case measure => omega
            case rel => exact ⟨j + 1, true, _, _, _, by omega, rfl, by go_num, hide (by rw [List.map_append, List.map_append, List.map_append, List.map_append]; exact zF.out), HNX⟩
end Go.Proofs.Ytcidadikmmdalaa
