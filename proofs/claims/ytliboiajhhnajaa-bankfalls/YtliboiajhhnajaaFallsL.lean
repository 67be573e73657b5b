/- BankFalls walked. -/
import Derived.Test.YtliboiajhhnajaaFa
namespace Go.Proofs.Ytliboiajhhnajaa
open Go.RowKit Go.Extern

/-- The bank behind so many tries to write. -/
def Fr (w0 w : World) (b hb n N j : Nat) : Prop := ∃ F D HV, FaAt w0 w F b hb D (ctB n N) HV ∧ D.length = 3 ∧ WlB D j ∧ N ≤ j
/-- The bank behind the crash. -/
def Fc (w0 w : World) (b hb : Nat) (HV : List Value) : Prop := ∃ F D dn, FaAt w0 w F b hb D ⟨-1, false, dn⟩ HV ∧ WlB D 0
theorem Fc.below {w0 w w1 : World} {b hb : Nat} {HV : List Value} (h : Fc w0 w b hb HV) (hw : Below w.heap.size w w1) : Fc w0 w1 b hb HV := by
  obtain ⟨F, D, dn, h1, h2⟩ := h
  exact ⟨F, D, dn, h1.below hw, h2⟩
theorem Fr.below {w0 w w1 : World} {b hb n N j : Nat} (h : Fr w0 w b hb n N j) (hw : Below w.heap.size w w1) : Fr w0 w1 b hb n N j := by
  obtain ⟨F, D, HV, h1, h2⟩ := h
  exact ⟨F, D, HV, h1.below hw, h2⟩
theorem Fr.bel {w0 w : World} {b hb n N j : Nat} (h : Fr w0 w b hb n N j) : Below w0.heap.size w0 w := by
  obtain ⟨F, D, HV, h1, h2⟩ := h
  exact h1.one.bel
theorem Fr.mono {w0 w : World} {b hb n N j : Nat} (h : Fr w0 w b hb n N j) : Fr w0 w b hb n N (j + 1) := by
  obtain ⟨F, D, HV, h1, h2, h3, h4⟩ := h
  exact ⟨F, D, HV, h1, h2, h3.mono (by omega), by omega⟩
theorem WlB.crashB {D : List Dev} {ps : List Int} : ∀ {j : Nat}, WlB (crD D ps) j := fun {j} i p S hi s hs => by
  have key : ∀ (D : List Dev) (ps : List Int) (i p : Nat) (S : List Sec), (crD D ps)[i]? = some (some (p, S)) → ∀ s ∈ S, s.wait = [] := by
    intro D
    induction D with
    | nil => intro ps i p S h; simp [crD] at h
    | cons d r ih =>
      intro ps i p S h
      cases d with
      | none =>
        cases i with
        | zero => simp [crD] at h
        | succ i => simp only [crD, List.getElem?_cons_succ] at h; exact ih _ i p S h
      | some x =>
        obtain ⟨p0, S0⟩ := x
        cases i with
        | zero =>
          simp only [crD, List.getElem?_cons_zero, Option.some.injEq, Prod.mk.injEq] at h
          obtain ⟨rfl, rfl⟩ := h
          intro s hs
          unfold crS at hs
          obtain ⟨t, -, rfl⟩ := List.mem_map.1 hs
          rfl
        | succ i => simp only [crD, List.getElem?_cons_succ] at h; exact ih _ i p S h
  rw [key D ps i p S hi s hs]; exact Nat.zero_le _
theorem store_bytes {w : World} {p : Addr} {v : Value} (x : Option Addr) (n c : Nat) (h : w.cell? p = some v) (hf : w.frozen? p = false) : (Instr.storeAt 31 (.pointer (some p)) (.slice x n c)).run Try.prog w = .ok () (w.setCell p (.slice x n c)) := by go_simp
theorem load_had {w : World} {hb i : Nat} {u0 u1 u2 u3 : Value} (h0 : w.cell? ⟨hb, i * 4, none⟩ = some u0) (h1 : w.cell? ⟨hb, i * 4 + 1, none⟩ = some u1) (h2 : w.cell? ⟨hb, i * 4 + 2, none⟩ = some u2) (h3 : w.cell? ⟨hb, i * 4 + 3, none⟩ = some u3) : (Instr.loadAt 32 (.pointer (some ⟨hb, i * 4, none⟩))).run Try.prog w = .ok (.agg #[u0, u1, u2, u3]) w := by go_simp
theorem idx0 (u0 u1 u2 u3 : Value) (w : World) : (Instr.index 32 (.agg #[u0, u1, u2, u3]) (.int .i64 0)).run Try.prog w = .ok u0 w := by kernel_rfl
theorem idx1 (u0 u1 u2 u3 : Value) (w : World) : (Instr.index 32 (.agg #[u0, u1, u2, u3]) (.int .i64 1)).run Try.prog w = .ok u1 w := by kernel_rfl
theorem idx2 (u0 u1 u2 u3 : Value) (w : World) : (Instr.index 32 (.agg #[u0, u1, u2, u3]) (.int .i64 2)).run Try.prog w = .ok u2 w := by kernel_rfl
theorem idx3 (u0 u1 u2 u3 : Value) (w : World) : (Instr.index 32 (.agg #[u0, u1, u2, u3]) (.int .i64 3)).run Try.prog w = .ok u3 w := by kernel_rfl
theorem neqN (w : World) : (binOp .neq 31 (.slice none 0 0) (.slice none 0 0)).run Try.prog w = .ok (.bool false) w := by kernel_rfl
theorem eqlN (w : World) : (binOp .eql 31 (.slice none 0 0) (.slice none 0 0)).run Try.prog w = .ok (.bool true) w := by kernel_rfl
theorem neqS (a : Addr) (n c : Nat) (w : World) : (binOp .neq 31 (.slice (some a) n c) (.slice none 0 0)).run Try.prog w = .ok (.bool true) w := by kernel_rfl
theorem eqlS (a : Addr) (n c : Nat) (w : World) : (binOp .eql 31 (.slice (some a) n c) (.slice none 0 0)).run Try.prog w = .ok (.bool false) w := by kernel_rfl
theorem ctB_done (n N : Nat) : (ctB n N).done = ((min N n : Nat) : Int) := by
  unfold ctB
  split
  · rw [Nat.min_eq_left (by omega)]
  · rw [Nat.min_eq_right (by omega)]
theorem ctB_down (n N : Nat) : (ctB n N).down = decide (n < N) := by
  unfold ctB
  split
  · simp; omega
  · simp; omega

set_option maxRecDepth 100000 in
set_option maxHeartbeats 8000000 in
theorem fallsL_any (w : World) (nn : Int) (v : Value) (l : List OpR) (hni : I64 nn) (hv : Script w v l) : Calls Try.prog 3 #[.int .i64 nn, v] w fun e w' => e = .returned (.bool true) ∧ Below w.heap.size w w' := by
  obtain ⟨ao, cap, gl, ol, rfl, h2, h3⟩ := hv
  have H2 := hide h2
  have H3 := hide h3
  clear h2 h3
  go_enter Try.func3, Try.ntmps3
  go_wp2_with fail
  refine (bnew_any w).mono ?_
  rintro e w2 ⟨b, rfl, hbkb, hb2⟩
  have H1 := hide (OneAt.made (w0 := w) hbkb (Below.refl _ _) hb2)
  clear hbkb hb2
  have HBO := hide H1.out.bel
  by_cases hbig : nn < 0 ∨ (100 : Int) < nn ∨ (150 : Int) < (l.length : Int)
  · have HA := hide (awake_any w2)
    have hdd : decide (nn < 0) = true ∨ (decide (nn < 0) = false ∧ decide ((100 : Int) < nn) = true) ∨ (decide (nn < 0) = false ∧ decide ((100 : Int) < nn) = false ∧ decide ((150 : Int) < (l.length : Int)) = true) := by
      by_cases h0 : nn < 0
      · exact .inl (by simpa using h0)
      · by_cases h1 : (100 : Int) < nn
        · exact .inr (.inl ⟨by simpa using h0, by simpa using h1⟩)
        · exact .inr (.inr ⟨by simpa using h0, by simpa using h1, by simp; omega⟩)
    clear hbig hni
    rcases hdd with hd1 | ⟨hd1, hd2⟩ | ⟨hd1, hd2, hd3⟩
    · go_wp2_with (go_at_call 7; refine HA.out.mono ?_; rintro e w' ⟨rfl, hb⟩; have HBB := hide (HBO.out.trans (hb.mono HBO.out.size)); clear hb)
      go_ret
      exact ⟨rfl, HBB.out⟩
    · go_wp2_with (go_at_call 7; refine HA.out.mono ?_; rintro e w' ⟨rfl, hb⟩; have HBB := hide (HBO.out.trans (hb.mono HBO.out.size)); clear hb)
      go_ret
      exact ⟨rfl, HBB.out⟩
    · go_wp2_with (go_at_call 7; refine HA.out.mono ?_; rintro e w' ⟨rfl, hb⟩; have HBB := hide (HBO.out.trans (hb.mono HBO.out.size)); clear hb)
      go_ret
      exact ⟨rfl, HBB.out⟩
  · have hd1 : decide (nn < 0) = false := by simp; omega
    have hd2 : decide ((100 : Int) < nn) = false := by simp; omega
    have hd3 : decide ((150 : Int) < (l.length : Int)) = false := by simp; omega
    obtain ⟨n, rfl⟩ : ∃ n : Nat, nn = (n : Int) := ⟨nn.toNat, by omega⟩
    have HL : Hid (l.length ≤ 150) := by show _ ≤ _; omega
    have HN : Hid (n ≤ 100) := by show _ ≤ _; omega
    clear hbig hni HBO
    go_wp2_with fail
    go_loopg [40] 3 (fun gk i wr => ∃ j, j + gk = 3 ∧ i = .int .i64 (j : Int) ∧ ∃ F D, OneAt w wr F b D (ctA 0) ∧ (∀ i, i < j → ∃ p, D[i]? = some (some (p, fresh 4))) ∧ WlB D 0 ∧ D.length = j)
    case atStart => exact ⟨0, by omega, rfl, _, _, H1.out, by omega, WlB.nil _, rfl⟩
    case round =>
      clear H1
      obtain ⟨j, hj, rfl, F, D, hone, hsec, hwl, hlen⟩ := hrel
      cases gk with
      | succ m =>
        have hlt : (j : Int) < 3 := by omega
        have hjj : (j : Int) + 1 < 5 := by omega
        have HONE := hide hone
        have HP := hide (And.intro hsec (And.intro hwl hlen))
        have HCA := hide (badd_any hone.k 4)
        have HD0 : Hid (addC D (ctA 0) 4 = 0) := addC_four _ _ rfl (by omega)
        clear hone hsec hwl hlen
        go_wp2_with fail
        refine HCA.out.mono ?_
        rintro e w3 ⟨ht3, he⟩
        rcases he with ⟨hc, -⟩ | ⟨-, rfl, p, hbk3⟩
        · exact absurd HD0.out hc
        have HEND : Hid (∃ F D, OneAt w w3 F b D (ctA 0) ∧ (∀ i, i < j + 1 → ∃ p, D[i]? = some (some (p, fresh 4))) ∧ WlB D 0 ∧ D.length = j + 1) := by
          refine ⟨_, _, HONE.out.turn hbk3 ht3, fun i hi => ?_, HP.out.2.1.add _ _, by simp [HP.out.2.2]⟩
          by_cases e : i < j
          · obtain ⟨p', h1⟩ := HP.out.1 i e
            exact ⟨p', by rw [List.getElem?_append_left (by rw [HP.out.2.2]; exact e)]; exact h1⟩
          · have : i = j := by omega
            subst this
            refine ⟨p, ?_⟩
            rw [List.getElem?_append_right (by rw [HP.out.2.2]; exact Nat.le_refl _), HP.out.2.2]; simp
        clear hbk3 ht3 HCA HONE HP
        go_wp2
        go_roundg m
        case measure => omega
        case rel => exact ⟨j + 1, by omega, by go_num, HEND.out⟩
      | zero =>
        obtain rfl : j = 3 := by omega
        have hend : ¬ ((3 : Nat) : Int) < 3 := by omega
        have HONE := hide hone
        have HP := hide (And.intro hsec (And.intro hwl hlen))
        have HARM := hide (arm_any hone.k (n : Int))
        clear hone hsec hwl hlen hj hend
        go_wp2_with fail
        refine HARM.out.mono ?_
        rintro e w5 ⟨rfl, hbk5, ht5⟩
        have h5 := HONE.out.turn (hbk5.mono (fun _ hk => .inl hk)) ht5
        have h5' : OneAt w w5 (ext F wr w5) b D (ctB n 0) := by
          have e : ctB n 0 = { ctA 0 with left := (n : Int) } := by unfold ctB; rw [if_pos (Nat.zero_le _)]; simp [ctA]
          rw [e]; exact h5
        have HFR : Hid (Fr w (w5.alloc (.cells (#[.slice none 0 0, .slice none 0 0, .slice none 0 0, .slice none 0 0, .slice none 0 0, .slice none 0 0, .slice none 0 0, .slice none 0 0, .slice none 0 0, .slice none 0 0, .slice none 0 0, .slice none 0 0] : Array Value) 33)) b w5.heap.size n 0 0) :=
          ⟨ext F wr w5, D, List.replicate 12 (.slice none 0 0), ⟨h5'.below ((Below.refl _ _).alloc (Nat.le_refl _) _), heap_alloc_new w5 _, fun hx => by have := (h5.f _ hx).2; omega, h5.bel.size, FaV.start HP.out.1⟩, HP.out.2.2, HP.out.2.1, Nat.le_refl _⟩
        clear h5'
        clear hbk5 ht5 HARM HONE HP h5
        go_wp2_with fail
        obtain ⟨hb, hhb⟩ : ∃ hb, hb = w5.heap.size := ⟨_, rfl⟩
        obtain ⟨w6, hw6⟩ : ∃ w6, w6 = w5.alloc (.cells (#[.slice none 0 0, .slice none 0 0, .slice none 0 0, .slice none 0 0, .slice none 0 0, .slice none 0 0, .slice none 0 0, .slice none 0 0, .slice none 0 0, .slice none 0 0, .slice none 0 0, .slice none 0 0] : Array Value) 33) := ⟨_, rfl⟩
        rw [← hw6, ← hhb] at HFR
        rw [← hw6, ← hhb]
        clear hw6 hhb
        go_loopg [55, 9] l.length (fun gk i dv wr => ∃ j N, j + gk = l.length ∧ i = .int .i64 (j : Int) ∧ dv = .int .i64 ((min N n : Nat) : Int) ∧ Fr w wr b hb n N j)
        case atStart => exact ⟨0, 0, by omega, rfl, by simp, HFR.out⟩
        case round =>
          clear HFR
          obtain ⟨j, N, hj, rfl, rfl, hfr⟩ := hrel
          have HFR := hide hfr
          obtain ⟨dn, hdn⟩ : ∃ dn, dn = min N n := ⟨_, rfl⟩
          rw [← hdn]
          have HDN := hide hdn
          clear hdn
          cases gk with
          | succ m =>
            have hjl : j < l.length := by omega
            have hlt : (j : Int) < (l.length : Int) := by omega
            have hb0 : (0 : Int) ≤ (j : Int) := by omega
            obtain ⟨o, ho⟩ : ∃ o, l[j]? = some o := ⟨l[j], by simp [hjl]⟩
            obtain rfl := H2.out (by omega)
            have hop := (H3.out j o ho).below hfr.bel
            obtain ⟨kind, dev, sec, on, dv, d, opv, ops⟩ := o
            have q0 : wr.cell? ⟨gl, ol + j * 6, none⟩ = some (.int .i64 kind) := hop.c0
            have q1 : wr.cell? ⟨gl, ol + j * 6 + 1, none⟩ = some (.int .i64 dev) := hop.c1
            have q2 : wr.cell? ⟨gl, ol + j * 6 + 2, none⟩ = some (.int .i64 sec) := hop.c2
            have q3 : wr.cell? ⟨gl, ol + j * 6 + 3, none⟩ = some (.int .i64 on) := hop.c3
            have q4 : wr.cell? ⟨gl, ol + j * 6 + 4, none⟩ = some dv := hop.c4
            have q5 : wr.cell? ⟨gl, ol + j * 6 + 5, none⟩ = some opv := hop.c5
            have HDW : Hid (Bytes w dv d) := (H3.out j _ ho).hd
            have hgl := cell_lt q0
            have HJ : Hid ((j : Int) + 1 < 152) := by have := HL.out; show _ < _; omega
            have hjj := HJ.out
            obtain ⟨aod, capd, gx, offd, hdv, hao, -⟩ := hop.hd
            obtain ⟨aop, capp, gp, offp, hpv, -⟩ := hop.hp
            have hdv' : dv = .slice aod d.length capd := hdv
            have hpv' : opv = .slice aop ops.length capp := hpv
            have HAO := hide hao
            clear hdv hpv hao
            subst hdv' hpv'
            have HAL : Hid (∀ o, Below wr.heap.size wr (wr.alloc o)) := fun o => (Below.refl _ _).alloc (Nat.le_refl _) o
            clear hop ho hfr
            by_cases hval : 0 ≤ dev ∧ dev ≤ 2 ∧ 0 ≤ sec ∧ sec ≤ 3 ∧ d.length = 128
            · obtain ⟨v1, v2, v3, v4, v5⟩ := hval
              obtain ⟨i, rfl⟩ : ∃ i : Nat, dev = (i : Int) := ⟨dev.toNat, by omega⟩
              obtain ⟨k, rfl⟩ : ∃ k : Nat, sec = (k : Int) := ⟨sec.toNat, by omega⟩
              have HI3 : Hid (i < 3) := by show _ < _; omega
              have HK4 : Hid (k < 4) := by show _ < _; omega
              have HD8 := hide v5
              have HA0 := HAO.out (by rw [v5]; decide)
              rw [v5] at q4 HDW
              have HAD := hide HA0
              subst HA0
              have f1 : decide ((i : Int) < 0) = false := by simp
              have f2 : decide ((2 : Int) < (i : Int)) = false := by simp; omega
              have f3 : decide ((k : Int) < 0) = false := by simp
              have f4 : decide ((3 : Int) < (k : Int)) = false := by simp; omega
              have f5 : ((128 : Int) != 128) = false := by simp
              clear v1 v2 v3 v4 v5 HAO
              obtain ⟨F, D, HV, hat, hl3, hwl, hNj⟩ := HFR.out
              have HAT := hide hat
              have HP := hide (And.intro hl3 (And.intro hwl hNj))
              have HJ150 : Hid (j ≤ 150) := by have := HL.out; show _ ≤ _; omega
              have HBW := hide (hat.val.bwC hl3 n N HI3.out HK4.out HD8.out)
              clear hat hl3 hwl hNj
              go_wp2_with fail
              generalize hoc : #[Value.int .i64 kind, Value.int .i64 (i : Int), Value.int .i64 (k : Int), Value.int .i64 on, Value.slice (some ⟨gx, offd, none⟩) 128 capd, Value.slice aop ops.length capp] = oc
              have HOC : Hid (∀ wx : World, wx.heap[wr.heap.size]? = some (.cells oc 36 (0, 0)) → wx.cell? ⟨wr.heap.size, 1, none⟩ = some (.int .i64 (i : Int)) ∧ wx.cell? ⟨wr.heap.size, 2, none⟩ = some (.int .i64 (k : Int)) ∧ wx.cell? ⟨wr.heap.size, 3, none⟩ = some (.int .i64 on) ∧ wx.cell? ⟨wr.heap.size, 4, none⟩ = some (.slice (some ⟨gx, offd, none⟩) 128 capd) ∧ wx.cell? ⟨wr.heap.size, 5, none⟩ = some (.slice aop ops.length capp)) := fun wx hx => opC_cells (kind := kind) (by rw [hx, ← hoc]; rfl)
              obtain ⟨wo, hwo⟩ : ∃ wo, wo = wr.alloc (.cells oc 36) := ⟨_, rfl⟩
              have HWO : Hid (Below wr.heap.size wr wo) := by rw [hwo]; exact HAL.out _
              have HOB : Hid (wo.heap[wr.heap.size]? = some (.cells oc 36 (0, 0))) := by rw [hwo]; exact heap_alloc_new wr _
              rw [← hwo]
              have OBX : Hid (¬ F wr.heap.size) := fun hx => by have := (HAT.out.one.f _ hx).2; omega
              have OBH : Hid (wr.heap.size ≠ hb) := fun e => by have := heap_lt HAT.out.gb; omega
              have TW := hide (HAT.out.below HWO.out)
              obtain ⟨OB, hOB⟩ : ∃ OB, OB = wr.heap.size := ⟨_, rfl⟩
              rw [← hOB] at HOC HOB OBX OBH
              rw [← hOB]
              have HOBE := hide hOB
              clear hoc hwo hOB
              have hdr : Below wo.heap.size wo wo.drew := (Below.refl _ _).drew
              have hob : wo.drew.heap[OB]? = some (.cells oc 36 (0, 0)) := HOB.out
              refine wp_region_held_drew (S := fun wx => wx.heap[OB]? = some (.cells oc 36 (0, 0))) (by kernel_rfl) hob (fun hS => ?_)
              refine take_run 0 (some 83) (.pointer (some ⟨b, 0, none⟩)) rfl rfl rfl (by kernel_rfl) (by kernel_rfl) (by kernel_rfl) (fun _ _ _ h => h) (fun wx hx => exec_move rfl rfl) hS ?_
              simp only [Act.put, List.setIfInBounds_toArray, List.set_cons_zero, List.set_cons_succ]
              refine take_run 1 (some 84) (.pointer (some ⟨OB, 1, none⟩)) rfl rfl rfl (by kernel_rfl) (by kernel_rfl) (by kernel_rfl) (fun _ _ _ h => h) (fun wx hx => exec_field rfl (opField1 _ wx) rfl) hS ?_
              simp only [Act.put, List.setIfInBounds_toArray, List.set_cons_zero, List.set_cons_succ]
              refine take_run 2 (some 85) (.int .i64 (i : Int)) rfl rfl rfl (by kernel_rfl) (by kernel_rfl) (by kernel_rfl) (fun _ _ _ h => h) (fun wx hx => exec_load rfl (load_int (HOC.out wx hx).1) rfl) hS ?_
              simp only [Act.put, List.setIfInBounds_toArray, List.set_cons_zero, List.set_cons_succ]
              refine take_run 3 (some 86) (.pointer (some ⟨OB, 2, none⟩)) rfl rfl rfl (by kernel_rfl) (by kernel_rfl) (by kernel_rfl) (fun _ _ _ h => h) (fun wx hx => exec_field rfl (opField2 _ wx) rfl) hS ?_
              simp only [Act.put, List.setIfInBounds_toArray, List.set_cons_zero, List.set_cons_succ]
              refine take_run 4 (some 87) (.int .i64 (k : Int)) rfl rfl rfl (by kernel_rfl) (by kernel_rfl) (by kernel_rfl) (fun _ _ _ h => h) (fun wx hx => exec_load rfl (load_int (HOC.out wx hx).2.1) rfl) hS ?_
              simp only [Act.put, List.setIfInBounds_toArray, List.set_cons_zero, List.set_cons_succ]
              refine take_run 5 (some 88) (.pointer (some ⟨OB, 4, none⟩)) rfl rfl rfl (by kernel_rfl) (by kernel_rfl) (by kernel_rfl) (fun _ _ _ h => h) (fun wx hx => exec_field rfl (opField4 _ wx) rfl) hS ?_
              simp only [Act.put, List.setIfInBounds_toArray, List.set_cons_zero, List.set_cons_succ]
              refine take_run 6 (some 89) (.slice (some ⟨gx, offd, none⟩) 128 capd) rfl rfl rfl (by kernel_rfl) (by kernel_rfl) (by kernel_rfl) (fun _ _ _ h => h) (fun wx hx => exec_load rfl (load_bytes (HOC.out wx hx).2.2.2.1) rfl) hS ?_
              simp only [Act.put, List.setIfInBounds_toArray, List.set_cons_zero, List.set_cons_succ]
              have HCP := hide (copy_any d (.slice (some ⟨gx, offd, none⟩) 128 capd) wo.drew (HDW.out.below (TW.out.one.bel.trans (hdr.mono TW.out.one.bel.size))))
              refine only_call 7 (some 90) rfl rfl rfl (by kernel_rfl) (exec_call1 rfl enterCopy rfl rfl) (HCP.out.mono ?_)
              rintro e w4 ⟨u, rfl, hu, hbc⟩
              have hob2 : w4.heap[OB]? = some (.cells oc 36 (0, 0)) := by rw [hbc.block _ (heap_lt hob)]; exact hob
              refine ⟨u, rfl, hob2, ?_⟩
              simp only [Act.put, List.setIfInBounds_toArray, List.set_cons_zero, List.set_cons_succ]
              have hb2 : Below wo.heap.size wo w4 := hdr.trans (hbc.mono hdr.size)
              have htw2 := TW.out.below hb2
              have HWR := hide (bwrite_any htw2.one.k ((small_ctB (by have := HN.out; omega)).small (by have := HN.out; have := HP.out.2.2; have := HJ150.out; omega)) (HP.out.2.1.mono (by have := HJ150.out; omega)) (i : Int) (k : Int) u d hu.bytes (fun _ k hk hf => by have h1 := (hu.lt k hk).1; have h2 := (TW.out.one.f k hf).2; have h3 : wo.drew.heap.size = wo.heap.size := rfl; omega))
              refine only_call 8 (some 91) rfl rfl rfl (by kernel_rfl) (exec_call4 rfl enterBWrite rfl rfl rfl rfl rfl) (HWR.out.mono ?_)
              rintro e w3 ⟨x, rfl, hx, hk3, ht3⟩
              have hob3 : w3.heap[OB]? = some (.cells oc 36 (0, 0)) := by rw [ht3.block _ (heap_lt hob2) OBX.out]; exact hob2
              refine ⟨_, rfl, hob3, ?_⟩
              simp only [Act.put, List.setIfInBounds_toArray, List.set_cons_zero, List.set_cons_succ]
              refine only_value 9 (some 12) (v := x) rfl rfl rfl (by kernel_rfl) (exec_assign rfl rfl) hob3 ?_
              simp only [Act.put, List.setIfInBounds_toArray, List.set_cons_zero, List.set_cons_succ]
              refine wpAnyH_done (by kernel_rfl) ?_ _
              rw [HBW.out.2.2] at hk3
              have HX := hide hx
              have HOB3 := hide hob3
              have HDOWN := hide (down_any hk3)
              rw [ctB_down] at HDOWN
              have HTW2 := hide htw2
              have HK3 := hide hk3
              have HT3 := hide ht3
              clear hx hob3 hk3 ht3 HWR hdr hob HCP hu hbc hob2 hb2 htw2 hS
              by_cases hNn : N < n
              · have HE0 := hide (HBW.out.1 hNn)
                have hx0 := HX.out
                rw [HE0.out] at hx0
                obtain rfl := hx0.zero
                have hdd : decide (n < N + 1) = false := by simp; omega
                rw [hdd] at HDOWN
                have hdnN : dn = N := by rw [HDN.out]; omega
                have g1 : decide (dn < n) = true := by simp; omega
                have g2 : decide (n ≤ dn) = false := by simp; omega
                have g1' : decide ((dn : Int) < (n : Int)) = true := by simp; omega
                have g2' : decide ((n : Int) ≤ (dn : Int)) = false := by simp; omega
                have hdn1 : (dn : Int) + 1 < 1000 := by have := HN.out; omega
                have HDN1 : Hid (dn + 1 = min (N + 1) n) := by show _ = _; omega
                clear hdd hdnN hx0 HDN
                go_wp2_with fail
                refine HDOWN.out.mono ?_
                rintro e w' ⟨rfl, hww⟩
                obtain rfl : w3 = w' := hww.symm
                go_wp2_with fail
                have hbd : bwD D (ctB n N) (i : Int) (k : Int) d = putDev D (i : Int) (wSet (secsOf D (i : Int)) (k : Int) d) := by unfold bwD; rw [if_pos HE0.out]
                obtain ⟨p0, S0, s0, u0, y1, y2, y3, y4, y5, y6⟩ := HTW2.out.val.2 i k HI3.out HK4.out
                have hgb3 : w3.heap[hb]? = some (.cells HV.toArray 33 (0, 0)) := by rw [HT3.out.block hb (heap_lt HTW2.out.gb) HTW2.out.gf]; exact HTW2.out.gb
                have hcl : w3.drew.cell? ⟨hb, i * 4 + k, none⟩ = some u0 := by rw [cell_of_row w3.drew hb _ _ _ _ hgb3, List.getElem?_toArray]; exact y5
                have hfz : w3.drew.frozen? ⟨hb, i * 4 + k, none⟩ = false := row_frozen (w := w3.drew) hgb3 _
                have HEND : Hid (Fr w (w3.drew.setCell ⟨hb, i * 4 + k, none⟩ (.slice (some ⟨gx, offd, none⟩) 128 capd)) b hb n (N + 1) (j + 1)) :=
                  ⟨_, _, _, HTW2.out.wrote HK3.out HT3.out (HTW2.out.val.write HI3.out HK4.out HD8.out HDW.out hbd), by rw [hbd]; unfold putDev; split <;> simp [HP.out.1], HP.out.2.1.bw _ _ _ _, by have := HP.out.2.2; omega⟩
                have hob4 : (w3.drew.setCell ⟨hb, i * 4 + k, none⟩ (.slice (some ⟨gx, offd, none⟩) 128 capd)).heap[OB]? = some (.cells oc 36 (0, 0)) := by rw [Below.heap_setCell _ _ _ _ OBH.out]; exact HOB3.out
                clear y1 y2 y3 y4 y5 y6 hbd hgb3
                refine wp_region_held_drew (S := fun wx => wx.heap[OB]? = some (.cells oc 36 (0, 0))) (by kernel_rfl) HOB3.out (fun hS => ?_)
                refine take_run 0 (some 114) (.pointer (some ⟨OB, 1, none⟩)) rfl rfl rfl (by kernel_rfl) (by kernel_rfl) (by kernel_rfl) (fun _ _ _ h => h) (fun wx hx => exec_field rfl (opField1 _ wx) rfl) hS ?_
                simp only [Act.put, List.setIfInBounds_toArray, List.set_cons_zero, List.set_cons_succ]
                refine take_run 1 (some 115) (.int .i64 (i : Int)) rfl rfl rfl (by kernel_rfl) (by kernel_rfl) (by kernel_rfl) (fun _ _ _ h => h) (fun wx hx => exec_load rfl (load_int (HOC.out wx hx).1) rfl) hS ?_
                simp only [Act.put, List.setIfInBounds_toArray, List.set_cons_zero, List.set_cons_succ]
                refine take_run 2 (some 116) (.pointer (some ⟨OB, 2, none⟩)) rfl rfl rfl (by kernel_rfl) (by kernel_rfl) (by kernel_rfl) (fun _ _ _ h => h) (fun wx hx => exec_field rfl (opField2 _ wx) rfl) hS ?_
                simp only [Act.put, List.setIfInBounds_toArray, List.set_cons_zero, List.set_cons_succ]
                refine take_run 3 (some 117) (.int .i64 (k : Int)) rfl rfl rfl (by kernel_rfl) (by kernel_rfl) (by kernel_rfl) (fun _ _ _ h => h) (fun wx hx => exec_load rfl (load_int (HOC.out wx hx).2.1) rfl) hS ?_
                simp only [Act.put, List.setIfInBounds_toArray, List.set_cons_zero, List.set_cons_succ]
                refine take_run 4 (some 118) (.pointer (some ⟨OB, 4, none⟩)) rfl rfl rfl (by kernel_rfl) (by kernel_rfl) (by kernel_rfl) (fun _ _ _ h => h) (fun wx hx => exec_field rfl (opField4 _ wx) rfl) hS ?_
                simp only [Act.put, List.setIfInBounds_toArray, List.set_cons_zero, List.set_cons_succ]
                refine take_run 5 (some 119) (.slice (some ⟨gx, offd, none⟩) 128 capd) rfl rfl rfl (by kernel_rfl) (by kernel_rfl) (by kernel_rfl) (fun _ _ _ h => h) (fun wx hx => exec_load rfl (load_bytes (HOC.out wx hx).2.2.2.1) rfl) hS ?_
                simp only [Act.put, List.setIfInBounds_toArray, List.set_cons_zero, List.set_cons_succ]
                refine take_run 6 (some 120) (.pointer (some ⟨hb, i * 4, none⟩)) rfl rfl rfl (by kernel_rfl) (by kernel_rfl) (by kernel_rfl) (fun _ _ _ h => h) (fun wx hx => exec_index rfl (index_had HI3.out wx) rfl rfl) hS ?_
                simp only [Act.put, List.setIfInBounds_toArray, List.set_cons_zero, List.set_cons_succ]
                refine take_run 7 (some 121) (.pointer (some ⟨hb, i * 4 + k, none⟩)) rfl rfl rfl (by kernel_rfl) (by kernel_rfl) (by kernel_rfl) (fun _ _ _ h => h) (fun wx hx => exec_index rfl (index_had4 HK4.out wx) rfl rfl) hS ?_
                simp only [Act.put, List.setIfInBounds_toArray, List.set_cons_zero, List.set_cons_succ]
                refine only_skip 8 none rfl rfl rfl (by kernel_rfl) (exec_store rfl (store_bytes _ _ _ hcl hfz) rfl rfl) hob4 ?_
                simp only [Act.put]
                refine wpAnyH_done (by kernel_rfl) ?_ _
                clear hcl hfz hob4 hS HX HBW HE0 HK3 HT3 HTW2 TW HAT HP HOC HOB OBX OBH HOB3 HDOWN
                go_wp2
                go_roundg m
                case measure => omega
                case rel => exact ⟨j + 1, N + 1, by omega, by go_num, by rw [← HDN1.out]; go_num, HEND.out⟩
              · have HE0 := hide (HBW.out.2.1 hNn)
                have hx0 := HX.out
                rw [HE0.out.1] at hx0
                have HX0 := hide hx0
                obtain ⟨fb, rfl, -⟩ := hx0.at_ (by decide)
                have hdd : decide (n < N + 1) = true := by simp; omega
                rw [hdd] at HDOWN
                have hdnN : dn = n := by rw [HDN.out]; omega
                have g1 : decide (dn < n) = false := by simp; omega
                have g2 : decide (n ≤ dn) = true := by simp; omega
                have HDN1 : Hid (dn = min (N + 1) n) := by show _ = _; omega
                have HIS := hide (errorsIsF_any 22 _ "write".toUTF8 (i : Int) (k : Int) w3 (by decide) HX0.out)
                have HEND : Hid (Fr w w3 b hb n (N + 1) (j + 1)) := by
                  have hk := HK3.out
                  rw [HE0.out.2] at hk
                  exact ⟨_, D, HV, HTW2.out.turn hk HT3.out HTW2.out.val, HP.out.1, HP.out.2.1.mono (by omega), by have := HP.out.2.2; omega⟩
                subst hdnN
                clear hdd HX HX0 HBW HE0 HK3 HT3 HTW2 TW HAT HP HOC HOB OBX OBH HOB3 HDN
                go_wp2_with fail
                refine HDOWN.out.mono ?_
                rintro e w' ⟨rfl, hww⟩
                obtain rfl : w3 = w' := hww.symm
                go_wp2_with fail
                refine HIS.out.mono ?_
                rintro e w' ⟨rfl, hww⟩
                obtain rfl : w3 = w' := hww.symm
                go_wp2
                go_roundg m
                case measure => omega
                case rel => exact ⟨j + 1, N + 1, by omega, by go_num, by rw [← HDN1.out], HEND.out⟩
            · have hdd : decide (dev < 0) = true ∨ (decide (dev < 0) = false ∧ decide ((2 : Int) < dev) = true) ∨ (decide (dev < 0) = false ∧ decide ((2 : Int) < dev) = false ∧ decide (sec < 0) = true) ∨ (decide (dev < 0) = false ∧ decide ((2 : Int) < dev) = false ∧ decide (sec < 0) = false ∧ decide ((3 : Int) < sec) = true) ∨ (decide (dev < 0) = false ∧ decide ((2 : Int) < dev) = false ∧ decide (sec < 0) = false ∧ decide ((3 : Int) < sec) = false ∧ ((d.length : Int) != 128) = true) := by
                by_cases a1 : dev < 0
                · exact .inl (by simpa using a1)
                · by_cases a2 : (2 : Int) < dev
                  · exact .inr (.inl ⟨by simpa using a1, by simpa using a2⟩)
                  · by_cases a3 : sec < 0
                    · exact .inr (.inr (.inl ⟨by simpa using a1, by simpa using a2, by simpa using a3⟩))
                    · by_cases a4 : (3 : Int) < sec
                      · exact .inr (.inr (.inr (.inl ⟨by simpa using a1, by simpa using a2, by simpa using a3, by simpa using a4⟩)))
                      · exact .inr (.inr (.inr (.inr ⟨by simpa using a1, by simpa using a2, by simpa using a3, by simpa using a4, by simp; omega⟩)))
              clear hval
              rcases hdd with a1 | ⟨a1, a2⟩ | ⟨a1, a2, a3⟩ | ⟨a1, a2, a3, a4⟩ | ⟨a1, a2, a3, a4, a5⟩
              · go_wp2
                go_roundg m
                case measure => omega
                case rel => exact ⟨j + 1, N, by omega, by go_num, by rw [HDN.out], (HFR.out.below (HAL.out _)).mono⟩
              · go_wp2
                go_roundg m
                case measure => omega
                case rel => exact ⟨j + 1, N, by omega, by go_num, by rw [HDN.out], (HFR.out.below (HAL.out _)).mono⟩
              · go_wp2
                go_roundg m
                case measure => omega
                case rel => exact ⟨j + 1, N, by omega, by go_num, by rw [HDN.out], (HFR.out.below (HAL.out _)).mono⟩
              · go_wp2
                go_roundg m
                case measure => omega
                case rel => exact ⟨j + 1, N, by omega, by go_num, by rw [HDN.out], (HFR.out.below (HAL.out _)).mono⟩
              · go_wp2
                go_roundg m
                case measure => omega
                case rel => exact ⟨j + 1, N, by omega, by go_num, by rw [HDN.out], (HFR.out.below (HAL.out _)).mono⟩
          | zero =>
            have hend : ¬ (j : Int) < (l.length : Int) := by omega
            have HJ150 : Hid (j ≤ 150) := by have := HL.out; show _ ≤ _; omega
            obtain ⟨F, D, HV, hat, hl3, hwl, hNj⟩ := hfr
            have HDONE := hide (done_any hat.one.k)
            rw [ctB_done, ← HDN.out] at HDONE
            have HAT := hide hat
            have HP := hide (And.intro hl3 (And.intro hwl hNj))
            clear hat hl3 hwl hNj hj HFR
            go_wp2_with fail
            refine HDONE.out.mono ?_
            rintro e w' ⟨rfl, hww⟩
            obtain rfl : wr = w' := hww.symm
            have hne : ((dn : Int) != (dn : Int)) = false := by simp
            go_wp2_with fail
            obtain ⟨wa, hwa⟩ : ∃ wa, wa = wr := ⟨_, rfl⟩
            rw [← hwa] at HAT
            rw [← hwa]
            clear hwa hww HDONE
            go_loopg [127, 13] 12 (fun gk i v wr => ∃ j, j + gk = 12 ∧ i = .int .i64 (j : Int) ∧ wr.ownsRow wa.heap.size 3 1 v (List.replicate j (1000 : Int)).length ((List.replicate j (1000 : Int)).map (Value.int .i64)) ∧ Below wa.heap.size wa wr)
            case atStart => exact ⟨0, by omega, rfl, World.ownsRow_nil _ _ _ _, Below.refl _ _⟩
            case round =>
              obtain ⟨r, hr, rfl, hown, hbw⟩ := hrel
              have HOW := hide hown
              have HBW := hide hbw
              cases gk with
              | succ m =>
                have hlt : (r : Int) < 12 := by omega
                have hrr : (r : Int) + 1 < 14 := by omega
                obtain ⟨v', w', hrun, ho', hb', ⟨ao', n', c', rfl⟩⟩ := append_int hown hbw.size 1000 (by simp; omega)
                have HO' := hide ho'
                have HB' := hide (hbw.trans hb')
                obtain ⟨aov, capv, rfl⟩ := ownsRow_form hown
                rw [List.length_replicate] at hrun
                rw [List.length_replicate]
                clear hown hbw ho' hb' HOW
                go_wp2_with (first | ((with_reducible refine wpList_appendI rfl rfl hrun ?_ ?_ ?_ ?_); rfl; rfl; rfl))
                go_roundg m
                case measure => omega
                case rel => exact ⟨r + 1, by omega, by go_num, by have := HO'.out; rw [← List.replicate_succ'] at this; exact this, HB'.out⟩
              | zero =>
                obtain rfl : r = 12 := by omega
                have hend2 : ¬ ((12 : Nat) : Int) < 12 := by omega
                have hat2 := HAT.out.below hbw
                have hints : Ints wr u13 (List.replicate 12 1000) := by
                  obtain ⟨aov, capv, rfl⟩ := ownsRow_form hown
                  exact ints_of_row (⟨hown.1, by
                    rcases hown.2 with h | ⟨g, cap, cur, hv, hg, r⟩
                    · exact .inl h
                    · exact .inr ⟨g, cap, cur, hv, Nat.zero_le _, r⟩⟩) (fun n hn => by rw [List.eq_of_mem_replicate hn]; unfold I64; omega) (by simp)
                have HCALL := hide (bcrash_any hat2.one.k (HP.out.2.1.mono (by have := HJ150.out; omega)) u13 (List.replicate 12 1000) hints (fun k hk => by
                  have h1 := hown.lt k hk
                  exact ⟨fun hx => by have := (HAT.out.one.f k hx).2; omega, h1.2⟩))
                have HAT2 := hide hat2
                obtain ⟨aov, capv, rfl⟩ := ownsRow_form hown
                rw [List.length_replicate] at HCALL
                rw [List.length_replicate]
                clear hown hbw hat2 hints hr HOW HBW
                go_wp2_with fail
                refine HCALL.out.mono ?_
                rintro e w3 ⟨rfl, hk3, ht3⟩
                have HFC : Hid (Fc w w3 b hb HV) := ⟨_, _, _, HAT2.out.turn hk3 ht3 (HAT2.out.val.crash HP.out.1 (HP.out.2.1.mono (by have := HJ150.out; omega))), WlB.crashB⟩
                clear hk3 ht3 HCALL HAT2 HAT HP
                go_wp2_with fail
                go_loopg [136] 3 (fun gk i wr => ∃ r, r + gk = 3 ∧ i = .int .i64 (r : Int) ∧ Fc w wr b hb HV)
                case atStart => exact ⟨0, by omega, rfl, HFC.out⟩
                case round =>
                  clear HFC
                  obtain ⟨i, hi, rfl, hfc⟩ := hrel
                  have HFC := hide hfc
                  cases gk with
                  | succ m =>
                    have hlt : (i : Int) < 3 := by omega
                    have hii : (i : Int) + 1 < 5 := by omega
                    have hi3 : i < 3 := by omega
                    have HI3 := hide hi3
                    obtain ⟨F, D, dn2, hat, hwl⟩ := hfc
                    obtain ⟨_, _, _, u0, -, -, -, -, z0, -⟩ := hat.val.2 i 0 hi3 (by omega)
                    obtain ⟨_, _, _, u1, -, -, -, -, z1, -⟩ := hat.val.2 i 1 hi3 (by omega)
                    obtain ⟨_, _, _, u2, -, -, -, -, z2, -⟩ := hat.val.2 i 2 hi3 (by omega)
                    obtain ⟨_, _, _, u3, -, -, -, -, z3, -⟩ := hat.val.2 i 3 hi3 (by omega)
                    have hix := index_had (g := hb) hi3 wr
                    have hld := load_had (hb := hb) (i := i) (w := wr) (by rw [cell_of_row wr hb _ _ _ _ hat.gb, List.getElem?_toArray]; exact z0) (by rw [cell_of_row wr hb _ _ _ _ hat.gb, List.getElem?_toArray]; exact z1) (by rw [cell_of_row wr hb _ _ _ _ hat.gb, List.getElem?_toArray]; exact z2) (by rw [cell_of_row wr hb _ _ _ _ hat.gb, List.getElem?_toArray]; exact z3)
                    have HZ := hide (And.intro z0 (And.intro z1 (And.intro z2 z3)))
                    clear hat hwl z0 z1 z2 z3 hi3
                    go_wp2_with (first | ((with_reducible refine wpList_exec rfl (exec_index rfl hix rfl rfl) ?_)) | ((with_reducible refine wpList_load_run rfl rfl hld ?_ ?_); rfl))
                    clear hix hld
                    obtain ⟨wi, hwi⟩ : ∃ wi, wi = wr := ⟨_, rfl⟩
                    subst hwi
                    go_loopg [142] 4 (fun gk k wr => ∃ q, q + gk = 4 ∧ k = .int .i64 (q : Int) ∧ Fc w wr b hb HV)
                    case atStart => exact ⟨0, by omega, rfl, HFC.out⟩
                    case round =>
                      clear HFC
                      obtain ⟨q, hq, rfl, hfc⟩ := hrel
                      have HFC := hide hfc
                      cases gk with
                      | succ m2 =>
                        have hltq : (q : Int) < 4 := by omega
                        have hqq : (q : Int) + 1 < 6 := by omega
                        have hq4 : q < 4 := by omega
                        obtain ⟨F, D, dn2, hat, hwl⟩ := hfc
                        obtain ⟨p, S, s, u, y1, y2, y3, y4, y5, y6⟩ := hat.val.2 i q HI3.out hq4
                        have HRD := hide (bread_any hat.one.k (hwl.mono (by omega)) (i : Int) (q : Int) (by unfold I64; omega))
                        have hbr : brC D ⟨-1, false, dn2⟩ (i : Int) (q : Int) = 0 ∧ brD D ⟨-1, false, dn2⟩ (i : Int) (q : Int) = s.top := by
                          have hp : lookP D ⟨-1, false, dn2⟩ (i : Int) = 0 := lookP_at rfl y1
                          have hh : hasB S (q : Int) = true := hasB_nat (by omega)
                          unfold brC brD
                          rw [if_pos hp, if_pos hp, secsOf_at y1]
                          simp [rErr, rDat, hh, y3, y4]
                        have HBR := hide hbr
                        have HBW0 := hide hat.one.bel
                        generalize s.top = tp at hbr HBR y6
                        clear hat hwl y1 y2 y3 y4 hbr
                        rcases (show q = 0 ∨ q = 1 ∨ q = 2 ∨ q = 3 by omega) with rfl | rfl | rfl | rfl
                        · obtain rfl : u = u0 := by have := HZ.out.1; rw [y5] at this; exact Option.some.inj this
                          clear y5 HZ hq4
                          have nq1 := neqN
                          have nq2 := eqlN
                          have nq3 := neqS
                          have nq4 := eqlS
                          have hidx := idx0
                          rw [show ((0 : Nat) : Int) = 0 from rfl] at HRD HBR
                          rcases y6 with ⟨rfl, rfl⟩ | ⟨av, cv, rfl, hby, -⟩
                          · go_wp2_with fail
                            refine HRD.out.mono ?_
                            rintro e w4 ⟨c, x, rfl, hx, hc, hb4, -⟩
                            rw [HBR.out.1] at hx
                            obtain rfl := hx.zero
                            rw [HBR.out.2] at hc
                            obtain ⟨w5, hr5, hm5, hb5, hs5⟩ := made w4
                            have HSM := hide (same_same zeros c (.slice (some ⟨w4.heap.size, 0, none⟩) 128 128) w5 (hc.below hb5).bytes (bytes_of_con zeros_con hm5))
                            have HB5 := hide (hb4.trans (hb5.mono hb4.size))
                            obtain ⟨ac, cc, rfl⟩ := hc.form
                            clear hc hb4 HRD hx HBR hm5 hb5 hs5
                            go_wp2_with (first | ((with_reducible refine wpList_make rfl rfl hr5 ?_ ?_ ?_); rfl; rfl) | (go_at_call 17; refine HSM.out.mono ?_; rintro e w' ⟨rfl, hww⟩; obtain rfl : w5 = w' := hww.symm))
                            go_roundg m2
                            case measure => omega
                            case rel => exact ⟨1, by omega, by go_num, HFC.out.below HB5.out⟩
                          · go_wp2_with fail
                            refine HRD.out.mono ?_
                            rintro e w4 ⟨c, x, rfl, hx, hc, hb4, -⟩
                            rw [HBR.out.1] at hx
                            obtain rfl := hx.zero
                            rw [HBR.out.2] at hc
                            have HSM := hide (same_same tp c (.slice (some av) 128 cv) w4 hc.bytes (hby.below (HBW0.out.trans (hb4.mono HBW0.out.size))))
                            have HB5 := hide hb4
                            obtain ⟨ac, cc, rfl⟩ := hc.form
                            clear hc hb4 HRD hx HBR hby
                            go_wp2_with (go_at_call 17; refine HSM.out.mono ?_; rintro e w' ⟨rfl, hww⟩; obtain rfl : w4 = w' := hww.symm)
                            go_roundg m2
                            case measure => omega
                            case rel => exact ⟨1, by omega, by go_num, HFC.out.below HB5.out⟩
                        · obtain rfl : u = u1 := by have := HZ.out.2.1; rw [y5] at this; exact Option.some.inj this
                          clear y5 HZ hq4
                          have nq1 := neqN
                          have nq2 := eqlN
                          have nq3 := neqS
                          have nq4 := eqlS
                          have hidx := idx1
                          rw [show ((1 : Nat) : Int) = 1 from rfl] at HRD HBR
                          rcases y6 with ⟨rfl, rfl⟩ | ⟨av, cv, rfl, hby, -⟩
                          · go_wp2_with fail
                            refine HRD.out.mono ?_
                            rintro e w4 ⟨c, x, rfl, hx, hc, hb4, -⟩
                            rw [HBR.out.1] at hx
                            obtain rfl := hx.zero
                            rw [HBR.out.2] at hc
                            obtain ⟨w5, hr5, hm5, hb5, hs5⟩ := made w4
                            have HSM := hide (same_same zeros c (.slice (some ⟨w4.heap.size, 0, none⟩) 128 128) w5 (hc.below hb5).bytes (bytes_of_con zeros_con hm5))
                            have HB5 := hide (hb4.trans (hb5.mono hb4.size))
                            obtain ⟨ac, cc, rfl⟩ := hc.form
                            clear hc hb4 HRD hx HBR hm5 hb5 hs5
                            go_wp2_with (first | ((with_reducible refine wpList_make rfl rfl hr5 ?_ ?_ ?_); rfl; rfl) | (go_at_call 17; refine HSM.out.mono ?_; rintro e w' ⟨rfl, hww⟩; obtain rfl : w5 = w' := hww.symm))
                            go_roundg m2
                            case measure => omega
                            case rel => exact ⟨2, by omega, by go_num, HFC.out.below HB5.out⟩
                          · go_wp2_with fail
                            refine HRD.out.mono ?_
                            rintro e w4 ⟨c, x, rfl, hx, hc, hb4, -⟩
                            rw [HBR.out.1] at hx
                            obtain rfl := hx.zero
                            rw [HBR.out.2] at hc
                            have HSM := hide (same_same tp c (.slice (some av) 128 cv) w4 hc.bytes (hby.below (HBW0.out.trans (hb4.mono HBW0.out.size))))
                            have HB5 := hide hb4
                            obtain ⟨ac, cc, rfl⟩ := hc.form
                            clear hc hb4 HRD hx HBR hby
                            go_wp2_with (go_at_call 17; refine HSM.out.mono ?_; rintro e w' ⟨rfl, hww⟩; obtain rfl : w4 = w' := hww.symm)
                            go_roundg m2
                            case measure => omega
                            case rel => exact ⟨2, by omega, by go_num, HFC.out.below HB5.out⟩
                        · obtain rfl : u = u2 := by have := HZ.out.2.2.1; rw [y5] at this; exact Option.some.inj this
                          clear y5 HZ hq4
                          have nq1 := neqN
                          have nq2 := eqlN
                          have nq3 := neqS
                          have nq4 := eqlS
                          have hidx := idx2
                          rw [show ((2 : Nat) : Int) = 2 from rfl] at HRD HBR
                          rcases y6 with ⟨rfl, rfl⟩ | ⟨av, cv, rfl, hby, -⟩
                          · go_wp2_with fail
                            refine HRD.out.mono ?_
                            rintro e w4 ⟨c, x, rfl, hx, hc, hb4, -⟩
                            rw [HBR.out.1] at hx
                            obtain rfl := hx.zero
                            rw [HBR.out.2] at hc
                            obtain ⟨w5, hr5, hm5, hb5, hs5⟩ := made w4
                            have HSM := hide (same_same zeros c (.slice (some ⟨w4.heap.size, 0, none⟩) 128 128) w5 (hc.below hb5).bytes (bytes_of_con zeros_con hm5))
                            have HB5 := hide (hb4.trans (hb5.mono hb4.size))
                            obtain ⟨ac, cc, rfl⟩ := hc.form
                            clear hc hb4 HRD hx HBR hm5 hb5 hs5
                            go_wp2_with (first | ((with_reducible refine wpList_make rfl rfl hr5 ?_ ?_ ?_); rfl; rfl) | (go_at_call 17; refine HSM.out.mono ?_; rintro e w' ⟨rfl, hww⟩; obtain rfl : w5 = w' := hww.symm))
                            go_roundg m2
                            case measure => omega
                            case rel => exact ⟨3, by omega, by go_num, HFC.out.below HB5.out⟩
                          · go_wp2_with fail
                            refine HRD.out.mono ?_
                            rintro e w4 ⟨c, x, rfl, hx, hc, hb4, -⟩
                            rw [HBR.out.1] at hx
                            obtain rfl := hx.zero
                            rw [HBR.out.2] at hc
                            have HSM := hide (same_same tp c (.slice (some av) 128 cv) w4 hc.bytes (hby.below (HBW0.out.trans (hb4.mono HBW0.out.size))))
                            have HB5 := hide hb4
                            obtain ⟨ac, cc, rfl⟩ := hc.form
                            clear hc hb4 HRD hx HBR hby
                            go_wp2_with (go_at_call 17; refine HSM.out.mono ?_; rintro e w' ⟨rfl, hww⟩; obtain rfl : w4 = w' := hww.symm)
                            go_roundg m2
                            case measure => omega
                            case rel => exact ⟨3, by omega, by go_num, HFC.out.below HB5.out⟩
                        · obtain rfl : u = u3 := by have := HZ.out.2.2.2; rw [y5] at this; exact Option.some.inj this
                          clear y5 HZ hq4
                          have nq1 := neqN
                          have nq2 := eqlN
                          have nq3 := neqS
                          have nq4 := eqlS
                          have hidx := idx3
                          rw [show ((3 : Nat) : Int) = 3 from rfl] at HRD HBR
                          rcases y6 with ⟨rfl, rfl⟩ | ⟨av, cv, rfl, hby, -⟩
                          · go_wp2_with fail
                            refine HRD.out.mono ?_
                            rintro e w4 ⟨c, x, rfl, hx, hc, hb4, -⟩
                            rw [HBR.out.1] at hx
                            obtain rfl := hx.zero
                            rw [HBR.out.2] at hc
                            obtain ⟨w5, hr5, hm5, hb5, hs5⟩ := made w4
                            have HSM := hide (same_same zeros c (.slice (some ⟨w4.heap.size, 0, none⟩) 128 128) w5 (hc.below hb5).bytes (bytes_of_con zeros_con hm5))
                            have HB5 := hide (hb4.trans (hb5.mono hb4.size))
                            obtain ⟨ac, cc, rfl⟩ := hc.form
                            clear hc hb4 HRD hx HBR hm5 hb5 hs5
                            go_wp2_with (first | ((with_reducible refine wpList_make rfl rfl hr5 ?_ ?_ ?_); rfl; rfl) | (go_at_call 17; refine HSM.out.mono ?_; rintro e w' ⟨rfl, hww⟩; obtain rfl : w5 = w' := hww.symm))
                            go_roundg m2
                            case measure => omega
                            case rel => exact ⟨4, by omega, by go_num, HFC.out.below HB5.out⟩
                          · go_wp2_with fail
                            refine HRD.out.mono ?_
                            rintro e w4 ⟨c, x, rfl, hx, hc, hb4, -⟩
                            rw [HBR.out.1] at hx
                            obtain rfl := hx.zero
                            rw [HBR.out.2] at hc
                            have HSM := hide (same_same tp c (.slice (some av) 128 cv) w4 hc.bytes (hby.below (HBW0.out.trans (hb4.mono HBW0.out.size))))
                            have HB5 := hide hb4
                            obtain ⟨ac, cc, rfl⟩ := hc.form
                            clear hc hb4 HRD hx HBR hby
                            go_wp2_with (go_at_call 17; refine HSM.out.mono ?_; rintro e w' ⟨rfl, hww⟩; obtain rfl : w4 = w' := hww.symm)
                            go_roundg m2
                            case measure => omega
                            case rel => exact ⟨4, by omega, by go_num, HFC.out.below HB5.out⟩
                      | zero =>
                        have hendq : ¬ (q : Int) < 4 := by omega
                        clear hq hfc
                        go_wp2
                        go_roundg m
                        case measure => omega
                        case rel => exact ⟨i + 1, by omega, by go_num, HFC.out⟩
                  | zero =>
                    have hend3 : ¬ (i : Int) < 3 := by omega
                    obtain ⟨F, D, dn2, hat, hwl⟩ := hfc
                    have HDOWN := hide (down_any hat.one.k)
                    have HBO := hide hat.one.bel
                    have HA := hide (awake_any wr)
                    clear hat hwl hi
                    go_wp2_with fail
                    refine HDOWN.out.mono ?_
                    rintro e w' ⟨rfl, hww⟩
                    obtain rfl : wr = w' := hww.symm
                    go_wp2_with fail
                    refine HA.out.mono ?_
                    rintro e w' ⟨rfl, hb⟩
                    have HBB := hide (HBO.out.trans (hb.mono HBO.out.size))
                    clear hb
                    go_wp2
                    go_ret
                    exact ⟨rfl, HBB.out⟩
end Go.Proofs.Ytliboiajhhnajaa
