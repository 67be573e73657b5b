/- The document's own Changes. -/
import Derived.Test.YtjopdejgijojmaaRo
namespace Go.Proofs.Ytjopdejgijojmaa
open Go.RowKit Go.Extern

theorem enterROf (args : Array Value) (w : World) : (callFunc 24 args).run Try.prog w = .ok (.enter 24 args) w := by kernel_rfl
/-- What changed, among the owners so far. -/
def chP (was l : List Ref) (os : List Ref) : List Chg := ((os.map Prod.fst).filter (fun o => decide (ofS was o ≠ ofS l o))).map (fun o => (o, ofS was o, ofS l o))
theorem chP_snoc {was l os : List Ref} {j : Nat} {y : Ref} (h : os[j]? = some y) : chP was l (os.take (j + 1)) = chP was l (os.take j) ++ (if ofS was y.1 = ofS l y.1 then [] else [(y.1, ofS was y.1, ofS l y.1)]) := by
  unfold chP
  rw [take_snoc h]
  by_cases e : ofS was y.1 = ofS l y.1
  · simp [e]
  · simp [e]
theorem chP_length (was l os : List Ref) : (chP was l os).length ≤ os.length := by
  unfold chP
  rw [List.length_map]
  refine Nat.le_trans (List.length_filter_le _ _) ?_
  rw [List.length_map]; exact Nat.le_refl _
/-- What the document's Changes leaves. -/
def RChd (w : World) (cs : List Chg) (e : Ending) (w' : World) : Prop := ∃ v, e = .returned v ∧ w'.ownsRow w.heap.size 47 4 v cs.length (chgsC cs) ∧ Below w.heap.size w w'
set_option maxRecDepth 100000 in
set_option maxHeartbeats 8000000 in
theorem rchanges_any {F : Nat → Prop} {w : World} {aoW aoL : Option Addr} {gW gL offW offL : Nat} {was l : List Ref} (hRW : RefsAt F w aoW gW offW was) (hRL : RefsAt F w aoL gL offL l) (hw : Okl was) (hl : Okl l) (hwl : was.length ≤ 1000) (hll : l.length ≤ 1000) (capW capL : Nat) :
    Calls Try.prog 15 #[.slice aoW was.length capW, .slice aoL l.length capL] w (RChd w (chS was l)) := by
  have HRW := hide hRW.free
  have HRL := hide hRL.free
  have HW := hide hw
  have HL := hide hl
  obtain ⟨nw, hnw⟩ : ∃ nw, was.length = nw := ⟨_, rfl⟩
  obtain ⟨nl, hnl⟩ : ∃ nl, l.length = nl := ⟨_, rfl⟩
  have HOFW0 : Hid (∀ (y : Ref) wx, Below w.heap.size w wx → Calls Try.prog 24 #[.slice aoW nw capW, encR y] wx fun e w' => e = .returned (.int .i64 (ofS was y.1)) ∧ Below wx.heap.size wx w') := hide (fun y wx hb => by
    rw [← hnw]; exact rof_any (HRW.out.below hb) (by omega) capW y)
  have HOFL0 : Hid (∀ (y : Ref) wx, Below w.heap.size w wx → Calls Try.prog 24 #[.slice aoL nl capL, encR y] wx fun e w' => e = .returned (.int .i64 (ofS l y.1)) ∧ Below wx.heap.size wx w') := hide (fun y wx hb => by
    rw [← hnl]; exact rof_any (HRL.out.below hb) (by omega) capL y)
  rw [hnw, hnl]
  clear hRW hRL hw hl
  go_enter Try.func15, Try.ntmps15
  go_wp2_with fail
  go_loopg [5, 6] nw (fun k av i wr => ∃ (j : Nat) (aoA : Option Addr) (capA gA : Nat) (A : List Ref), j + k = nw ∧ i = .int .i64 (j : Int) ∧ av = .slice aoA A.length capA ∧ Hid (A = putL [] (was.take j)) ∧ Hid (RefsAt (fun _ => False) wr aoA gA 0 A) ∧ Hid (Below w.heap.size w wr))
  case atStart => exact ⟨0, none, 0, 0, [], by omega, rfl, rfl, hide (by simp [putL]), hide ⟨by simp, by simp, by simp⟩, hide (Below.refl _ _)⟩
  case round =>
    obtain ⟨j, aoA, capA, gA, A, hj, rfl, rfl, HAP, HAA, HBw⟩ := hrel
    have HAO : Hid (Okl A) := hide (by rw [HAP.out]; exact putL_ok Okl.nil (fun r hr => HW.out.refs r (List.mem_of_mem_take hr)))
    have HAL : Hid (A.length ≤ 20000) := hide (by
      have h1 := putL_length Okl.nil (rs := was.take j) (fun r hr => HW.out.refs r (List.mem_of_mem_take hr))
      rw [← HAP.out] at h1
      have h2 := List.length_take_le j was
      simp at h1; omega)
    cases gk with
    | succ m =>
      have hjl : j < nw := by omega
      have hlti : (j : Int) < (nw : Int) := by omega
      have hge : (0 : Int) ≤ (j : Int) := by omega
      obtain ⟨r, hr⟩ : ∃ r, was[j]? = some r := ⟨was[j]'(by omega), by rw [List.getElem?_eq_getElem]⟩
      obtain rfl := HRW.out.ad (by omega)
      obtain ⟨k1, k2, k3⟩ := (HRW.out.below HBw.out).cells j r hr
      have HPN : Hid (putS A r.1 r.2 = putL [] (was.take (j + 1))) := hide (by rw [putL_snoc hr, ← HAP.out, putA_pos (HW.out.pos r (List.mem_of_getElem? hr))])
      have HRP := hide (rput_any HAA.out HAO.out.srt (by have := HAL.out; omega) capA r)
      have e2 : IntKind.i64.wrap ((j : Int) + 1) = (j : Int) + 1 := IntWalk.i64_in _ ⟨by omega, by omega⟩
      obtain ⟨nA, hnA⟩ : ∃ nA, A.length = nA := ⟨_, rfl⟩
      rw [hnA] at HRP ⊢
      clear hr
      go_wp2_with (go_at_call 12; refine HRP.out.mono ?_; rintro e w5 ⟨v5, rfl, hv5, hb5⟩; obtain ⟨aoN, capN, gN, rfl, hN⟩ := refs_at (F := fun _ => False) hv5 (by simp); have HN5 := hide hN; have HB5 := hide hb5; clear hv5 hN hb5)
      go_roundg m
      case measure => omega
      case rel => exact ⟨j + 1, aoN, capN, gN, _, by omega, by go_num, rfl, HPN, HN5, hide (below_next HBw.out HB5.out)⟩
    | zero =>
      have hnlt : ¬ ((j : Nat) : Int) < (nw : Int) := by omega
      have HA1 : Hid (A = putL [] was) := hide (by rw [HAP.out, List.take_of_length_le (by omega)])
      have HAO1 := HAO
      have HAL1 : Hid (A.length ≤ 1000) := hide (by
        have h1 := putL_length Okl.nil (rs := was) HW.out.refs
        rw [← HA1.out] at h1
        simp at h1; omega)
      obtain ⟨B, hB⟩ : ∃ B, B = A := ⟨_, rfl⟩
      subst hB
      have HAA1 := HAA
      have HBw1 := HBw
      clear HAP HAO HAL
      go_wp2_with fail
      go_loopg [5, 7] nl (fun k av i wr => ∃ (j : Nat) (aoA : Option Addr) (capA gA : Nat) (A : List Ref), j + k = nl ∧ i = .int .i64 (j : Int) ∧ av = .slice aoA A.length capA ∧ Hid (A = putL B (l.take j)) ∧ Hid (RefsAt (fun _ => False) wr aoA gA 0 A) ∧ Hid (Below w.heap.size w wr))
      case atStart => exact ⟨0, aoA, capA, gA, B, by omega, rfl, rfl, hide (by simp [putL]), HAA1, HBw1⟩
      case round =>
        obtain ⟨j, aoA, capA, gA, A, hj, rfl, rfl, HAP, HAA, HBw⟩ := hrel
        have HAO : Hid (Okl A) := hide (by rw [HAP.out]; exact putL_ok HAO1.out (fun r hr => HL.out.refs r (List.mem_of_mem_take hr)))
        have HAL : Hid (A.length ≤ 20000) := hide (by
          have h1 := putL_length HAO1.out (rs := l.take j) (fun r hr => HL.out.refs r (List.mem_of_mem_take hr))
          rw [← HAP.out] at h1
          have h2 := List.length_take_le j l
          have h3 := HAL1.out
          simp at h1; omega)
        cases gk with
        | succ m =>
          have hjl : j < nl := by omega
          have hlti : (j : Int) < (nl : Int) := by omega
          have hge : (0 : Int) ≤ (j : Int) := by omega
          obtain ⟨r, hr⟩ : ∃ r, l[j]? = some r := ⟨l[j]'(by omega), by rw [List.getElem?_eq_getElem]⟩
          obtain rfl := HRL.out.ad (by omega)
          obtain ⟨k1, k2, k3⟩ := (HRL.out.below HBw.out).cells j r hr
          have HPN : Hid (putS A r.1 r.2 = putL B (l.take (j + 1))) := hide (by rw [putL_snoc hr, ← HAP.out, putA_pos (HL.out.pos r (List.mem_of_getElem? hr))])
          have HRP := hide (rput_any HAA.out HAO.out.srt (by have := HAL.out; omega) capA r)
          have e2 : IntKind.i64.wrap ((j : Int) + 1) = (j : Int) + 1 := IntWalk.i64_in _ ⟨by omega, by omega⟩
          obtain ⟨nA, hnA⟩ : ∃ nA, A.length = nA := ⟨_, rfl⟩
          rw [hnA] at HRP ⊢
          clear hr
          go_wp2_with (go_at_call 12; refine HRP.out.mono ?_; rintro e w5 ⟨v5, rfl, hv5, hb5⟩; obtain ⟨aoN, capN, gN, rfl, hN⟩ := refs_at (F := fun _ => False) hv5 (by simp); have HN5 := hide hN; have HB5 := hide hb5; clear hv5 hN hb5)
          go_roundg m
          case measure => omega
          case rel => exact ⟨j + 1, aoN, capN, gN, _, by omega, by go_num, rfl, HPN, HN5, hide (below_next HBw.out HB5.out)⟩
        | zero =>
          have hnlt : ¬ ((j : Nat) : Int) < (nl : Int) := by omega
          have HA2 : Hid (A = putL (putL [] was) l) := hide (by rw [HAP.out, HA1.out, List.take_of_length_le (by omega)])
          obtain ⟨nA, hnA⟩ : ∃ nA, A.length = nA := ⟨_, rfl⟩
          have hnAl : nA ≤ 20000 := by have := HAL.out; omega
          obtain ⟨wA, hwA⟩ : ∃ wA, wA = wr := ⟨_, rfl⟩
          subst hwA
          rw [hnA]
          clear HAP HAO HAL HAA1 HBw1
          have HBA := HBw
          clear HBw
          go_wp2_with fail
          go_loopg [8, 9] nA (fun k v i wr => ∃ (i3 : Nat), i3 + k = nA ∧ i = .int .i64 (i3 : Int) ∧ Hid (wr.ownsRow wA.heap.size 47 4 v (chP was l (A.take i3)).length (chgsC (chP was l (A.take i3)))) ∧ Hid (Below wA.heap.size wA wr))
          case atStart => exact ⟨0, by omega, rfl, hide (World.ownsRow_nil _ _ _ _), hide (Below.refl _ _)⟩
          case round =>
            obtain ⟨i3, hi3e, rfl, HOW, HBw⟩ := hrel
            cases gk with
            | zero =>
              have hje : i3 = nA := by omega
              subst hje
              have hnlt : ¬ ((i3 : Nat) : Int) < (i3 : Int) := by omega
              have HCE : Hid (chP was l (A.take i3) = chS was l) := hide (by rw [List.take_of_length_le (by omega), HA2.out]; rfl)
              rw [HCE.out] at HOW
              obtain ⟨ao4, cap4, hv4⟩ := ownsRow_form HOW.out
              subst hv4
              go_wp2_with fail
              go_ret
              exact ⟨_, rfl, ownsRow_base HOW.out HBA.out.size, below_next HBA.out HBw.out⟩
            | succ m =>
              have hi3 : i3 < nA := by omega
              have hlti : (i3 : Int) < (nA : Int) := by omega
              have hge : (0 : Int) ≤ (i3 : Int) := by omega
              obtain ⟨y, hy⟩ : ∃ y, A[i3]? = some y := ⟨A[i3]'(by omega), by rw [List.getElem?_eq_getElem]⟩
              obtain rfl := HAA.out.ad (by omega)
              have HY := hide hy
              have HSN := hide (chP_snoc (was := was) (l := l) hy)
              have e2 : IntKind.i64.wrap ((i3 : Int) + 1) = (i3 : Int) + 1 := IntWalk.i64_in _ ⟨by omega, by omega⟩
              have HOFW : Hid (∀ wx, Below wA.heap.size wA wx → Calls Try.prog 24 #[.slice aoW nw capW, encR y] wx fun e w' => e = .returned (.int .i64 (ofS was y.1)) ∧ Below wx.heap.size wx w') := hide (fun wx hb => HOFW0.out y wx (below_next HBA.out hb))
              have HOFL : Hid (∀ wx, Below wA.heap.size wA wx → Calls Try.prog 24 #[.slice aoL nl capL, encR y] wx fun e w' => e = .returned (.int .i64 (ofS l y.1)) ∧ Below wx.heap.size wx w') := hide (fun wx hb => HOFL0.out y wx (below_next HBA.out hb))
              obtain ⟨a, hofw⟩ : ∃ a, ofS was y.1 = a := ⟨_, rfl⟩
              obtain ⟨c, hofl⟩ : ∃ c, ofS l y.1 = c := ⟨_, rfl⟩
              rw [hofw, hofl] at HSN
              obtain ⟨cs, hcs⟩ : ∃ cs, chP was l (A.take i3) = cs := ⟨_, rfl⟩
              rw [hcs] at HSN HOW
              have hcl : cs.length ≤ 1000000 := by
                have h1 := chP_length was l (A.take i3)
                have h2 := List.length_take_le i3 A
                rw [hcs] at h1; omega
              obtain ⟨ao4, cap4, hv4⟩ := ownsRow_form HOW.out
              subst hv4
              clear hy
              go_wp2_with fail
              refine wp_region_held_drew (S := Below wr.heap.size wr) (by kernel_rfl) (below_drew0 wr) (fun hS => ?_)
              refine take_want 0 (some 42) (.slice aoW nw capW) rfl rfl rfl (by kernel_rfl) (by kernel_rfl) (by kernel_rfl) (fun _ _ _ h => h) (fun wx hx => exec_move rfl rfl) hS ?_
              simp only [Act.put, List.setIfInBounds_toArray, List.set_cons_zero, List.set_cons_succ]
              refine take_want 1 (some 43) (.slice (some ⟨gA, 0, none⟩) nA capA) rfl rfl rfl (by kernel_rfl) (by kernel_rfl) (by kernel_rfl) (fun _ _ _ h => h) (fun wx hx => exec_move rfl rfl) hS ?_
              simp only [Act.put, List.setIfInBounds_toArray, List.set_cons_zero, List.set_cons_succ]
              refine take_want 2 (some 44) (.int .i64 (i3 : Int)) rfl rfl rfl (by kernel_rfl) (by kernel_rfl) (by kernel_rfl) (fun _ _ _ h => h) (fun wx hx => exec_move rfl rfl) hS ?_
              simp only [Act.put, List.setIfInBounds_toArray, List.set_cons_zero, List.set_cons_succ]
              refine take_want 3 (some 45) (.pointer (some ⟨gA, 0 + i3 * 3, none⟩)) rfl rfl rfl (by kernel_rfl) (by kernel_rfl) (by kernel_rfl) (fun _ _ _ h => h) (fun wx hx => exec_index rfl (index_refs hi3) rfl rfl) hS ?_
              simp only [Act.put, List.setIfInBounds_toArray, List.set_cons_zero, List.set_cons_succ]
              refine take_want 4 (some 46) (encR y) rfl rfl rfl (by kernel_rfl) (by kernel_rfl) (by kernel_rfl) (fun _ _ _ h => h) (fun wx hx => exec_load rfl (load_refAt ((HAA.out.below (below_next HBw.out hx)).cells i3 y HY.out)) rfl) hS ?_
              simp only [Act.put, List.setIfInBounds_toArray, List.set_cons_zero, List.set_cons_succ]
              refine take_want 6 (some 48) (.slice aoL nl capL) rfl rfl rfl (by kernel_rfl) (by kernel_rfl) (by kernel_rfl) (fun _ _ _ h => h) (fun wx hx => exec_move rfl rfl) hS ?_
              simp only [Act.put, List.setIfInBounds_toArray, List.set_cons_zero, List.set_cons_succ]
              refine take_want 7 (some 49) (.slice (some ⟨gA, 0, none⟩) nA capA) rfl rfl rfl (by kernel_rfl) (by kernel_rfl) (by kernel_rfl) (fun _ _ _ h => h) (fun wx hx => exec_move rfl rfl) hS ?_
              simp only [Act.put, List.setIfInBounds_toArray, List.set_cons_zero, List.set_cons_succ]
              refine take_want 8 (some 50) (.int .i64 (i3 : Int)) rfl rfl rfl (by kernel_rfl) (by kernel_rfl) (by kernel_rfl) (fun _ _ _ h => h) (fun wx hx => exec_move rfl rfl) hS ?_
              simp only [Act.put, List.setIfInBounds_toArray, List.set_cons_zero, List.set_cons_succ]
              refine take_want 9 (some 51) (.pointer (some ⟨gA, 0 + i3 * 3, none⟩)) rfl rfl rfl (by kernel_rfl) (by kernel_rfl) (by kernel_rfl) (fun _ _ _ h => h) (fun wx hx => exec_index rfl (index_refs hi3) rfl rfl) hS ?_
              simp only [Act.put, List.setIfInBounds_toArray, List.set_cons_zero, List.set_cons_succ]
              refine take_want 10 (some 52) (encR y) rfl rfl rfl (by kernel_rfl) (by kernel_rfl) (by kernel_rfl) (fun _ _ _ h => h) (fun wx hx => exec_load rfl (load_refAt ((HAA.out.below (below_next HBw.out hx)).cells i3 y HY.out)) rfl) hS ?_
              simp only [Act.put, List.setIfInBounds_toArray, List.set_cons_zero, List.set_cons_succ]
              refine call_want 5 (some 47) rfl rfl rfl (by kernel_rfl) (exec_call2 rfl enterROf rfl rfl rfl) ((HOFW.out _ (below_next HBw.out hS)).mono ?_)
              rintro e' wo1 ⟨rfl, hbw⟩
              have hO1 := below_next hS hbw
              clear hbw
              rw [hofw]
              refine ⟨_, rfl, hO1, ?_⟩
              simp only [Act.put, List.setIfInBounds_toArray, List.set_cons_zero, List.set_cons_succ]
              refine call_want 11 (some 53) rfl rfl rfl (by kernel_rfl) (exec_call2 rfl enterROf rfl rfl rfl) ((HOFL.out _ (below_next HBw.out hO1)).mono ?_)
              rintro e' wo2 ⟨rfl, hbw⟩
              have hO2 := below_next hO1 hbw
              clear hbw
              rw [hofl]
              refine ⟨_, rfl, hO2, ?_⟩
              simp only [Act.put, List.setIfInBounds_toArray, List.set_cons_zero, List.set_cons_succ]
              refine take_want 12 (some 10) (.int .i64 a) rfl rfl rfl (by kernel_rfl) (by kernel_rfl) (by kernel_rfl) (fun _ _ _ h => h) (fun wx hx => exec_assign rfl rfl) hO2 ?_
              simp only [Act.put, List.setIfInBounds_toArray, List.set_cons_zero, List.set_cons_succ]
              refine take_want 13 (some 11) (.int .i64 c) rfl rfl rfl (by kernel_rfl) (by kernel_rfl) (by kernel_rfl) (fun _ _ _ h => h) (fun wx hx => exec_assign rfl rfl) hO2 ?_
              simp only [Act.put, List.setIfInBounds_toArray, List.set_cons_zero, List.set_cons_succ]
              refine wpAnyH_done (by kernel_rfl) ?_ _
              have HB2 : Hid (Below wA.heap.size wA wo2) := hide (below_next HBw.out hO2)
              have HO2 := hide (ownsRow_below HOW.out hO2)
              clear hS hO1 hO2
              by_cases hac : a = c
              · have hacb : (a == c) = true := by simpa using hac
                rw [if_pos hac, List.append_nil] at HSN
                clear hac
                go_wp2_with fail
                go_roundg m
                case measure => omega
                case rel => exact ⟨i3 + 1, by omega, by go_num, hide (by rw [HSN.out]; exact HO2.out), HB2⟩
              · have hacb : (a == c) = false := by simpa using hac
                rw [if_neg hac] at HSN
                clear hac
                have HO3 := hide (ownsRow_below HO2.out (below_drew0 wo2))
                have hs2 := HB2.out.size
                obtain ⟨v6, w6, hap, hown6, hgrow6⟩ := append_chg Try.underlying42 infoD (T := 47) HO3.out (y.1, a, c) (by have : wo2.drew.heap.size = wo2.heap.size := rfl; omega) hcl 42
                have HO6 := hide hown6
                have HS4 : Hid (Below wA.heap.size wA wo2.drew) := hide (below_next HB2.out (below_drew0 wo2))
                have HS5 : Hid (Below wA.heap.size wA (wo2.drew.alloc (.cells #[.int .i64 y.1.1, .int .i64 y.1.2, .int .i64 a, .int .i64 c] 47))) := hide (below_next HS4.out (below_box _ _))
                have HS6 : Hid (Below wA.heap.size wA w6) := hide (HS5.out.grown hgrow6 HS5.out.size (fun k e => (HOW.out.lt k e).1))
                clear hown6 hgrow6
                go_wp2_with fail
                refine wp_region_held_drew (S := Below wA.heap.size wA) (by kernel_rfl) HS4.out (fun hS => ?_)
                refine take_want 0 (some 57) (.slice ao4 cs.length cap4) rfl rfl rfl (by kernel_rfl) (by kernel_rfl) (by kernel_rfl) (fun _ _ _ h => h) (fun wx hx => exec_move rfl rfl) hS ?_
                simp only [Act.put, List.setIfInBounds_toArray, List.set_cons_zero, List.set_cons_succ]
                refine take_want 1 (some 58) (.slice (some ⟨gA, 0, none⟩) nA capA) rfl rfl rfl (by kernel_rfl) (by kernel_rfl) (by kernel_rfl) (fun _ _ _ h => h) (fun wx hx => exec_move rfl rfl) hS ?_
                simp only [Act.put, List.setIfInBounds_toArray, List.set_cons_zero, List.set_cons_succ]
                refine take_want 2 (some 59) (.int .i64 (i3 : Int)) rfl rfl rfl (by kernel_rfl) (by kernel_rfl) (by kernel_rfl) (fun _ _ _ h => h) (fun wx hx => exec_move rfl rfl) hS ?_
                simp only [Act.put, List.setIfInBounds_toArray, List.set_cons_zero, List.set_cons_succ]
                refine take_want 3 (some 60) (.pointer (some ⟨gA, 0 + i3 * 3, none⟩)) rfl rfl rfl (by kernel_rfl) (by kernel_rfl) (by kernel_rfl) (fun _ _ _ h => h) (fun wx hx => exec_index rfl (index_refs hi3) rfl rfl) hS ?_
                simp only [Act.put, List.setIfInBounds_toArray, List.set_cons_zero, List.set_cons_succ]
                refine take_want 4 (some 61) (.pointer (some ⟨gA, 0 + i3 * 3, none⟩)) rfl rfl rfl (by kernel_rfl) (by kernel_rfl) (by kernel_rfl) (fun _ _ _ h => h) (fun wx hx => exec_field rfl (fldQ0 _ _ wx) rfl) hS ?_
                simp only [Act.put, List.setIfInBounds_toArray, List.set_cons_zero, List.set_cons_succ]
                refine take_want 5 (some 62) (.int .i64 y.1.1) rfl rfl rfl (by kernel_rfl) (by kernel_rfl) (by kernel_rfl) (fun _ _ _ h => h) (fun wx hx => exec_load rfl (load_intV ((HAA.out.below hx).cells i3 y HY.out).1) rfl) hS ?_
                simp only [Act.put, List.setIfInBounds_toArray, List.set_cons_zero, List.set_cons_succ]
                refine take_want 6 (some 63) (.slice (some ⟨gA, 0, none⟩) nA capA) rfl rfl rfl (by kernel_rfl) (by kernel_rfl) (by kernel_rfl) (fun _ _ _ h => h) (fun wx hx => exec_move rfl rfl) hS ?_
                simp only [Act.put, List.setIfInBounds_toArray, List.set_cons_zero, List.set_cons_succ]
                refine take_want 7 (some 64) (.int .i64 (i3 : Int)) rfl rfl rfl (by kernel_rfl) (by kernel_rfl) (by kernel_rfl) (fun _ _ _ h => h) (fun wx hx => exec_move rfl rfl) hS ?_
                simp only [Act.put, List.setIfInBounds_toArray, List.set_cons_zero, List.set_cons_succ]
                refine take_want 8 (some 65) (.pointer (some ⟨gA, 0 + i3 * 3, none⟩)) rfl rfl rfl (by kernel_rfl) (by kernel_rfl) (by kernel_rfl) (fun _ _ _ h => h) (fun wx hx => exec_index rfl (index_refs hi3) rfl rfl) hS ?_
                simp only [Act.put, List.setIfInBounds_toArray, List.set_cons_zero, List.set_cons_succ]
                refine take_want 9 (some 66) (.pointer (some ⟨gA, 0 + i3 * 3 + 1, none⟩)) rfl rfl rfl (by kernel_rfl) (by kernel_rfl) (by kernel_rfl) (fun _ _ _ h => h) (fun wx hx => exec_field rfl (fldQ1 _ _ wx) rfl) hS ?_
                simp only [Act.put, List.setIfInBounds_toArray, List.set_cons_zero, List.set_cons_succ]
                refine take_want 10 (some 67) (.int .i64 y.1.2) rfl rfl rfl (by kernel_rfl) (by kernel_rfl) (by kernel_rfl) (fun _ _ _ h => h) (fun wx hx => exec_load rfl (load_intV ((HAA.out.below hx).cells i3 y HY.out).2.1) rfl) hS ?_
                simp only [Act.put, List.setIfInBounds_toArray, List.set_cons_zero, List.set_cons_succ]
                refine take_want 11 (some 68) (.int .i64 a) rfl rfl rfl (by kernel_rfl) (by kernel_rfl) (by kernel_rfl) (fun _ _ _ h => h) (fun wx hx => exec_move rfl rfl) hS ?_
                simp only [Act.put, List.setIfInBounds_toArray, List.set_cons_zero, List.set_cons_succ]
                refine take_want 12 (some 69) (.int .i64 c) rfl rfl rfl (by kernel_rfl) (by kernel_rfl) (by kernel_rfl) (fun _ _ _ h => h) (fun wx hx => exec_move rfl rfl) hS ?_
                simp only [Act.put, List.setIfInBounds_toArray, List.set_cons_zero, List.set_cons_succ]
                refine take_want 13 (some 70) (encC (y.1, a, c)) rfl rfl rfl (by kernel_rfl) (by kernel_rfl) (by kernel_rfl) (fun _ _ _ h => h) (fun wx hx => exec_build4 rfl (buildD wx y.1 _ _) rfl rfl rfl rfl) hS ?_
                simp only [Act.put, List.setIfInBounds_toArray, List.set_cons_zero, List.set_cons_succ]
                refine only_value 14 (some 71) rfl rfl rfl (by kernel_rfl) (exec_one rfl (sliceD _ _) rfl) HS5.out ?_
                simp only [Act.put, List.setIfInBounds_toArray, List.set_cons_zero, List.set_cons_succ]
                refine only_value 15 (some 72) rfl rfl rfl (by kernel_rfl) (exec_append rfl hap rfl rfl) HS6.out ?_
                simp only [Act.put, List.setIfInBounds_toArray, List.set_cons_zero, List.set_cons_succ]
                refine take_want 16 (some 8) v6 rfl rfl rfl (by kernel_rfl) (by kernel_rfl) (by kernel_rfl) (fun _ _ _ h => h) (fun wx hx => exec_assign rfl rfl) HS6.out ?_
                simp only [Act.put, List.setIfInBounds_toArray, List.set_cons_zero, List.set_cons_succ]
                refine wpAnyH_done (by kernel_rfl) ?_ _
                go_wp2_with fail
                go_roundg m
                case measure => omega
                case rel => exact ⟨i3 + 1, by omega, by go_num, hide (by rw [HSN.out]; exact HO6.out), HS6⟩
end Go.Proofs.Ytjopdejgijojmaa
