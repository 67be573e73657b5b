/- Regions. -/
import Derived.Test.YtnkcebngfnailaaRl
namespace Go.Proofs.Ytnkcebngfnailaa
open Go.RowKit Go.Extern

/-- A region that stands in two cells: its device, and its numbers with their place. -/
structure Rg where
  dev : Int
  ao : Option Addr
  n : Nat
  cap : Nat
  l : List Int
def enR (r : Rg) : List Value := [.int .i64 r.dev, .slice r.ao r.n r.cap]
theorem enR_len (r : Rg) : (enR r).length = 2 := rfl
theorem enR_one (r : Rg) : ∀ u ∈ enR r, u.oneCell' = true := by
  intro u hu
  simp only [enR, List.mem_cons, List.not_mem_nil, or_false] at hu
  rcases hu with rfl | rfl <;> rfl
/-- 'v' is a slice of the regions 'L' in a block of its own, from 'base' on; so are the numbers of each. -/
def Rgs (w : World) (base : Nat) (v : Value) (L : List Rg) : Prop := OwnK enR 2 36 w base v L ∧ ∀ r ∈ L, OwnI w base (.slice r.ao r.n r.cap) r.l
/-- What regions say. -/
def outR (L : List Rg) : List (Int × List Int) := L.map fun r => (r.dev, r.l)
theorem outR_append (L M : List Rg) : outR (L ++ M) = outR L ++ outR M := by simp [outR]
theorem outR_length (L : List Rg) : (outR L).length = L.length := by simp [outR]
theorem Rgs.nil (w : World) (base : Nat) : Rgs w base (.slice none 0 0) [] := ⟨OwnK.nil _ _ _, by simp⟩
theorem Rgs.below {w w' : World} {base : Nat} {v : Value} {L : List Rg} (h : Rgs w base v L) (hb : Below w.heap.size w w') : Rgs w' base v L := ⟨h.1.below hb, fun r hr => (h.2 r hr).below hb⟩
theorem Rgs.rebase {w : World} {base base' : Nat} {v : Value} {L : List Rg} (h : Rgs w base v L) (hb : base' ≤ base) : Rgs w base' v L := ⟨h.1.rebase hb, fun r hr => (h.2 r hr).base hb⟩
theorem Rgs.form {w : World} {base : Nat} {v : Value} {L : List Rg} (h : Rgs w base v L) : ∃ ao n cap, v = .slice ao n cap ∧ Hid (n = L.length) := h.1.form
/-- Numbers and regions stand in blocks of their own. -/
theorem own_apart {w : World} {b1 b2 : Nat} {v u : Value} {L : List Rg} {l : List Int} (h1 : OwnK enR 2 36 w b1 v L) (h2 : OwnI w b2 u l) {k : Nat} (hk : u.ownBlock = some k) : v.ownBlock ≠ some k := by
  intro hv
  rcases h1.1.2 with ⟨rfl, -⟩ | ⟨g, cap, cur, rfl, -, hh, -⟩
  · simp [Value.ownBlock] at hv
  · rcases h2.1.2 with ⟨rfl, -⟩ | ⟨g2, cap2, cur2, rfl, -, hh2, -⟩
    · simp [Value.ownBlock] at hk
    · simp only [Value.ownBlock, Option.some.injEq] at hv hk
      subst hv
      subst hk
      rw [hh] at hh2
      simp at hh2
theorem infoR : (Try.prog.info? 36).map (fun i => (i.zero, i.size, i.bytes)) = some (some (.agg #[.int .i64 0, .slice none 0 0]), 2, 32) := by kernel_rfl
theorem append_r {w : World} {base : Nat} {v : Value} {l : List Rg} (ty : TypeId) (hown : OwnK enR 2 36 w base v l) {m : List Rg} {ad : Addr} {cap : Nat} (hs : SrcK w ad (cellsOf enR m)) (hn : l.length + m.length ≤ 1000) (hbase : base ≤ w.heap.size) :
    ∃ v' w', (Builtin.append_ #[24, 24] ty #[v, .slice (some ad) m.length cap]).run Try.prog w = .ok v' w' ∧ GrewK enR 2 36 w v base w' v' (l ++ m) := by
  obtain ⟨i0, hi, hi2⟩ := Option.map_eq_some_iff.1 infoR
  simp only [Prod.mk.injEq] at hi2
  exact append_k Try.underlying24 hi hi2.1 hi2.2.1 hi2.2.2 rfl (by omega) (by omega) enR_len enR_one hown hs hn hbase
theorem buildR (w : World) (k : Int) (a : Option Addr) (n c : Nat) : (Instr.build 36 #[(0, .int .i64 k), (1, .slice a n c)]).run Try.prog w = .ok (.agg #[.int .i64 k, .slice a n c]) w := by kernel_rfl
theorem litR (w : World) (k : Int) (a : Option Addr) (n c : Nat) : (Instr.buildSlice 24 1 #[(0, .agg #[.int .i64 k, .slice a n c])]).run Try.prog w = .ok (.slice (some ⟨w.heap.size, 0, none⟩) 1 1) (w.alloc (.cells #[.int .i64 k, .slice a n c] 36)) := by kernel_rfl
/-- One region more. -/
theorem Rgs.push {w : World} {base : Nat} {v : Value} {L : List Rg} (h : Rgs w base v L) {x : Rg} (hx : OwnI w base (.slice x.ao x.n x.cap) x.l) (hn : L.length + 1 ≤ 1000) (hbase : base ≤ w.heap.size) :
    ∃ a n c w4, (Builtin.append_ #[24, 24] 24 #[v, .slice (some ⟨w.heap.size, 0, none⟩) 1 1]).run Try.prog (w.alloc (.cells #[.int .i64 x.dev, .slice x.ao x.n x.cap] 36)) = .ok (.slice a n c) w4 ∧ Rgs w4 base (.slice a n c) (L ++ [x]) ∧ Below base w w4 := by
  have hA := bel_alloc w (.cells #[.int .i64 x.dev, .slice x.ao x.n x.cap] 36)
  obtain ⟨v', w4, hr, hg⟩ := append_r (m := [x]) (cap := 1) 24 (h.1.below hA) (by have := lit_src w 36 (enR x); simpa [cellsOf, enR] using this) (by simpa using hn) (by simp; omega)
  obtain ⟨a, n, c, rfl, -⟩ := hg.own.form
  refine ⟨a, n, c, w4, hr, ⟨hg.own, fun r hr' => ?_⟩, (hA.mono hbase).trans (hg.below (B := base) (by simp; omega) (fun k hk => (h.1.lt k hk).1))⟩
  have hr2 : OwnI w base (.slice r.ao r.n r.cap) r.l := by
    rcases List.mem_append.1 hr' with hr' | hr'
    · exact h.2 r hr'
    · rw [List.mem_singleton.1 hr']; exact hx
  refine (hr2.below hA).same fun k o hk ho => ?_
  exact hg.block ho (own_apart (h.1.below hA) (hr2.below hA) hk)
/-- What Regions leaves. -/
def Regd (w : World) (l : List Int) (e : Ending) (w' : World) : Prop :=
  ((Rt l ∧ ∃ v L, e = .returned (.tuple #[v, .nilIface]) ∧ Rgs w' w.heap.size v L ∧ outR L = regs (sortS l)) ∨ (¬ Rt l ∧ e = .returned (.tuple #[.slice none 0 0, .iface 51 (.int .i64 110)]))) ∧ Below w.heap.size w w'
set_option maxRecDepth 100000 in
set_option maxHeartbeats 4000000 in
theorem regions_any {w : World} {v : Value} {l : List Int} (hv : Ints w v l) (hl : l.length ≤ 1000) : Calls Try.prog 9 #[v] w (Regd w l) := by
  have hC := rising_any hv hl
  have HL := hide hl
  obtain ⟨a0, n0, c0, rfl, -⟩ := hv.form
  clear hv hl
  go_enter Try.func9, Try.ntmps9
  go_wp2_with fail
  refine hC.mono ?_
  rintro e w2 ⟨h, hb2⟩
  have HB2 := hide hb2
  clear hb2 hC
  rcases h with ⟨hrt, v2, rfl, hi⟩ | ⟨hrt, rfl⟩
  · have HRT := hide hrt
    have HI := hide hi
    obtain ⟨s, hs⟩ : ∃ s, sortS l = s := ⟨_, rfl⟩
    have HS : Hid (sortS l = s) := hs
    have HLS : Hid (s.length ≤ 1000) := by show _ ≤ _; rw [← hs, sortS_length]; exact HL.out
    have HRS : Hid (∀ b ∈ s, 1 ≤ b ∧ b < 32768) := by rw [← hs]; exact (Rt.sort.2 hrt).1
    rw [hs] at HI
    obtain ⟨ra, rn, rc, rfl, -⟩ := hi.form
    clear hrt hi hs
    obtain ⟨B, hB⟩ : ∃ B, w2.heap.size = B := ⟨_, rfl⟩
    have HBB := hide hB
    clear hB
    go_wp2_with fail
    go_loopg [4, 6] s.length (fun k rest out wr => ∃ (u : List Int) (L : List Rg), u.length = k ∧ Hid (Ints w2 rest u) ∧ Hid (Rgs wr B out L) ∧ Hid (outR L ++ regs u = regs s) ∧ Hid (Below B w2 wr) ∧ Hid (∀ b ∈ u, 1 ≤ b ∧ b < 32768) ∧ Hid (L.length + u.length ≤ 1000))
    case atStart => exact ⟨s, [], rfl, HI, hide (Rgs.nil _ _), hide (by simp [outR]), hide (Below.refl _ _), HRS, hide (by have := HLS.out; simpa using this)⟩
    case round =>
      clear HI HRS HLS
      obtain ⟨u, L, hk, HU, HG, HO, HB, HR, HLU⟩ := hrel
      obtain ⟨oa, on, oc, rfl, -⟩ := HG.out.form
      cases u with
      | nil =>
        obtain ⟨ra, rn, rc, rfl, hrn⟩ := HU.out.form
        have e0 : rn = 0 := by simpa using hrn.out
        subst e0
        clear hk
        go_wp2_with fail
        go_ret2
        refine ⟨.inl ⟨HRT.out, _, L, rfl, HG.out.rebase (by have := HB2.out.size; have := HBB.out; omega), ?_⟩, HB2.out.trans (HB.out.mono (by have := HB2.out.size; have := HBB.out; omega))⟩
        rw [HS.out, ← HO.out, regs_nil, List.append_nil]
      | cons a t =>
        have hi0 := HU.out
        have hlen := hi0.len
        obtain ⟨ao, cap, g, off, ev, h2, h3⟩ := hi0.at_
        subst ev
        obtain rfl := h2 (by simp)
        have kA := h3 0 a rfl
        have HI := hide hi0
        have hw2 : Hid (∀ wx, Below B w2 wx → Below w2.heap.size w2 wx) := hide (fun wx hx => by rw [HBB.out]; exact hx)
        have hRL := regLen_any (w := wr) (HI.out.below (hw2.out _ HB.out)) (a := a) rfl HR.out
        obtain ⟨q, hq⟩ : ∃ q, rl (a :: t) = q := ⟨_, rfl⟩
        have HQ := hide hq
        have hq2 := (rl_le (a :: t)).2
        have hq1 := rl_pos a t
        have hq4 := (rl_le (a :: t)).1
        obtain ⟨xa, xn, xc, hcA, HXA⟩ := ints_to HI.out (hi := q) (by rw [← hq]; exact hq2)
        obtain ⟨ya, yn, yc, hcB, HYB⟩ := ints_from HI.out (lo := q) (by rw [← hq]; exact hq2)
        have HD := hide (dev_any (n := a) (by have := HR.out a List.mem_cons_self; omega))
        rw [hq] at hRL hq1 hq2 hq4
        obtain ⟨n, hn⟩ : ∃ n, (a :: t).length = n := ⟨_, rfl⟩
        have HN := hide hn
        rw [hn] at hcA hcB hRL hk hq2 hlen ⊢
        have hpos : (0 : Int) < (n : Int) := by omega
        have hpn : 0 < n := by omega
        have HK := hide hk
        clear hi0 h2 h3 hq HU hn hk
        go_wp2_with fail
        refine hRL.mono ?_
        rintro e w3 ⟨rfl, hb3⟩
        have HB3 := hide (HB.out.trans (hb3.mono (by have := HB.out.size; have := HBB.out; omega)))
        have HG3 := hide (HG.out.below hb3)
        clear hb3 hRL HB HG
        go_wp2_with fail
        refine wp_region_held_drew (S := fun wx => Below B w2 wx) (by kernel_rfl) (HB3.out.trans ((below_drew0 w3).mono (by have := HB3.out.size; have := HBB.out; omega))) (fun hS => ?_)
        have HG4 := hide (HG3.out.below (below_drew0 w3))
        refine take_want 0 (some 21) (.slice oa on oc) rfl rfl rfl (by kernel_rfl) (by kernel_rfl) (by kernel_rfl) (fun _ _ _ h => h) (fun wx hx => exec_move rfl rfl) hS ?_
        simp only [Act.put, List.setIfInBounds_toArray, List.set_cons_zero, List.set_cons_succ]
        refine take_want 1 (some 22) (.slice (some ⟨g, off, none⟩) n cap) rfl rfl rfl (by kernel_rfl) (by kernel_rfl) (by kernel_rfl) (fun _ _ _ h => h) (fun wx hx => exec_move rfl rfl) hS ?_
        simp only [Act.put, List.setIfInBounds_toArray, List.set_cons_zero, List.set_cons_succ]
        refine take_want 2 (some 23) (.pointer (some ⟨g, off + 0, none⟩)) rfl rfl rfl (by kernel_rfl) (by kernel_rfl) (by kernel_rfl) (fun _ _ _ h => h) (fun wx hx => exec_index rfl (index_ints0 hpn) rfl rfl) hS ?_
        simp only [Act.put, List.setIfInBounds_toArray, List.set_cons_zero, List.set_cons_succ]
        refine take_want 3 (some 24) (.int .i64 a) rfl rfl rfl (by kernel_rfl) (by kernel_rfl) (by kernel_rfl) (fun _ _ _ h => h) (fun wx hx => exec_load rfl (load_intV (cell_bel (hw2.out _ hx) kA)) rfl) hS ?_
        simp only [Act.put, List.setIfInBounds_toArray, List.set_cons_zero, List.set_cons_succ]
        refine take_want 5 (some 26) (.slice (some ⟨g, off, none⟩) n cap) rfl rfl rfl (by kernel_rfl) (by kernel_rfl) (by kernel_rfl) (fun _ _ _ h => h) (fun wx hx => exec_move rfl rfl) hS ?_
        simp only [Act.put, List.setIfInBounds_toArray, List.set_cons_zero, List.set_cons_succ]
        refine take_want 6 (some 27) (.int .i64 (q : Int)) rfl rfl rfl (by kernel_rfl) (by kernel_rfl) (by kernel_rfl) (fun _ _ _ h => h) (fun wx hx => exec_move rfl rfl) hS ?_
        simp only [Act.put, List.setIfInBounds_toArray, List.set_cons_zero, List.set_cons_succ]
        refine take_want 7 (some 28) (.slice xa xn xc) rfl rfl rfl (by kernel_rfl) (by kernel_rfl) (by kernel_rfl) (fun _ _ _ h => h) (fun wx hx => exec_slice_h rfl ((run_sliceAt_slice wx _ _ _ _ _ underI).trans (hcA wx)) rfl rfl) hS ?_
        simp only [Act.put, List.setIfInBounds_toArray, List.set_cons_zero, List.set_cons_succ]
        refine call_want 4 (some 25) rfl rfl rfl (by kernel_rfl) (exec_call1 rfl enterDev rfl rfl) ((HD.out _).mono ?_)
        rintro e w1 ⟨rfl, rfl⟩
        refine ⟨_, rfl, hS, ?_⟩
        simp only [Act.put, List.setIfInBounds_toArray, List.set_cons_zero, List.set_cons_succ]
        refine call_want 8 (some 29) rfl rfl rfl (by kernel_rfl) (exec_call1 rfl enterClone rfl rfl) ((clone_any (HXA.out.below (hw2.out _ hS)) (by have := HLU.out; simp only [List.length_take]; omega)).mono ?_)
        rintro e w4 ⟨pv, rfl, ho4, hc4⟩
        have hb4 : Below B w2 w4 := hS.trans (hc4.mono (by have := hS.size; have := HBB.out; omega))
        have hg4 := HG4.out.below hc4
        obtain ⟨pa, pn, pc, rfl, -⟩ := ho4.form
        obtain ⟨za, zn, zc, w5, hap, hg5, hc5⟩ := hg4.push (x := ⟨a / 4096, pa, pn, pc, (a :: t).take q⟩) (ho4.base (by have := hS.size; have := HBB.out; omega)) (by have := HLU.out; simp only [List.length_cons] at this; omega) (by have := hb4.size; have := HBB.out; omega)
        have hb5 : Below B w2 w5 := hb4.trans hc5
        clear hc4 hc5
        refine ⟨_, rfl, hb4, ?_⟩
        simp only [Act.put, List.setIfInBounds_toArray, List.set_cons_zero, List.set_cons_succ]
        refine take_want 9 (some 30) (.agg #[.int .i64 (a / 4096), .slice pa pn pc]) rfl rfl rfl (by kernel_rfl) (by kernel_rfl) (by kernel_rfl) (fun _ _ _ h => h) (fun wx hx => exec_build2 rfl (buildR wx _ _ _ _) rfl rfl) hb4 ?_
        simp only [Act.put, List.setIfInBounds_toArray, List.set_cons_zero, List.set_cons_succ]
        refine only_value 10 (some 31) rfl rfl rfl (by kernel_rfl) (exec_one rfl (litR w4 _ _ _ _) rfl) (hb4.trans ((bel_alloc _ _).mono (by have := hb4.size; have := HBB.out; omega))) ?_
        simp only [Act.put, List.setIfInBounds_toArray, List.set_cons_zero, List.set_cons_succ]
        refine only_value 11 (some 32) rfl rfl rfl (by kernel_rfl) (exec_append rfl hap rfl rfl) hb5 ?_
        simp only [Act.put, List.setIfInBounds_toArray, List.set_cons_zero, List.set_cons_succ]
        refine take_want 12 (some 6) (.slice za zn zc) rfl rfl rfl (by kernel_rfl) (by kernel_rfl) (by kernel_rfl) (fun _ _ _ h => h) (fun wx hx => exec_assign rfl rfl) hb5 ?_
        simp only [Act.put, List.setIfInBounds_toArray, List.set_cons_zero, List.set_cons_succ]
        refine wpAnyH_done (by kernel_rfl) ?_ _
        have HB5 := hide hb5
        have HG5 := hide hg5
        clear hS hap hb4 hg4 hb5 hg5 kA hcA ho4
        go_wp2_with fail
        go_roundg ((a :: t).drop q).length
        case measure => rw [List.length_drop, HN.out]; have := HK.out; omega
        case rel =>
          refine ⟨(a :: t).drop q, L ++ [⟨a / 4096, pa, pn, pc, (a :: t).take q⟩], rfl, HYB, HG5, hide ?_, HB5, hide (fun b hb => HR.out b (List.mem_of_mem_drop hb)), hide ?_⟩
          · rw [← HO.out, regs_cons, HQ.out, outR_append, List.append_assoc]; rfl
          · have := HLU.out
            have e5 := HN.out
            rw [List.length_drop, List.length_append]
            simp only [List.length_cons, List.length_nil] at *
            omega
  · have HRT := hide hrt
    clear hrt
    go_wp2_with fail
    go_ret2
    exact ⟨.inr ⟨HRT.out, rfl⟩, HB2.out⟩
end Go.Proofs.Ytnkcebngfnailaa
