/- The law's holds: is the map the list? -/
import Derived.Test.YtjopdejgijojmaaAd
import Derived.Test.YtjopdejgijojmaaBa0
namespace Go.Proofs.Ytjopdejgijojmaa
open Go.RowKit Go.Extern

theorem len_owners (w : World) (a : Option Addr) (n c : Nat) : (Builtin.len_ #[53] 3 #[.slice a n c]).run Try.prog w = .ok (.int .i64 (n : Int)) w := by kernel_rfl
theorem enterLen (args : Array Value) (w : World) : (callFunc 22 args).run Try.prog w = .ok (.enter 22 args) w := by kernel_rfl
theorem enterCount (args : Array Value) (w : World) : (callFunc 19 args).run Try.prog w = .ok (.enter 19 args) w := by kernel_rfl
theorem byS_zero {l : List Ref} (h : Okl l) : byS l 0 = [] := by
  refine List.eq_nil_iff_forall_not_mem.2 (fun o ho => ?_)
  have := h.pos _ (mem_byS.1 ho)
  simp at this
/-- The pairs of a volume. -/
def volR (l : List Ref) (v : Int) : List Ref := l.filter (fun r => decide (r.1.1 = v))
theorem volR_snoc {l : List Ref} {j : Nat} {y : Ref} (h : l[j]? = some y) (a : Int) : volR (l.take (j + 1)) a = volR (l.take j) a ++ (if y.1.1 = a then [y] else []) := by
  unfold volR
  rw [take_snoc h, List.filter_append]
  by_cases e : y.1.1 = a
  · simp [e]
  · simp [e]
theorem volR_length (l : List Ref) (a : Int) : (volR l a).length ≤ l.length := List.length_filter_le _ _
theorem volR_own (l : List Ref) (a : Int) : (volR l a).map Prod.fst = volS l a := rfl
set_option maxRecDepth 100000 in
set_option maxHeartbeats 8000000 in
theorem holds_any {F F' : Nat → Prop} {w : World} {b : Nat} {l : List Ref} {was : Option (List Ref)} (hR : Rf w F b l was) {ao : Option Addr} {g off : Nat} (hL : RefsAt F' w ao g off l) (hl : l.length ≤ 1000) (cap : Nat) {r : Ref} (hr : OkO r.1) :
    Calls Try.prog 17 #[.pointer (some ⟨b, 0, none⟩), .slice ao l.length cap, encR r] w fun e w' => e = .returned (.bool true) ∧ Below w.heap.size w w' := by
  have HR := hide hR
  have HL := hide hL
  have HK := hide hR.ok
  obtain ⟨nl, hnl⟩ : ∃ nl, l.length = nl := ⟨_, rfl⟩
  rw [hnl]
  have ea : encR r = .agg #[.int .i64 r.1.1, .int .i64 r.1.2, .int .i64 r.2] := rfl
  rw [ea]
  obtain ⟨x, hx⟩ : ∃ x, w.heap.size = x := ⟨_, rfl⟩
  obtain ⟨w1, hw1⟩ : ∃ w1, w.alloc (.cells #[.int .i64 r.1.1, .int .i64 r.1.2, .int .i64 r.2] 28) = w1 := ⟨_, rfl⟩
  have HX : Hid (BoxR w1 x r) := hide (by rw [← hw1, ← hx]; exact boxR_new _ _ _)
  have HB0 : Hid (Below w.heap.size w w1) := hide (by rw [← hw1]; exact below_box _ _)
  have I0 : I64 0 := I64.of_small (by omega) (by omega)
  have HLEN : Hid (∀ wx, Below w1.heap.size w1 wx → Calls Try.prog 22 #[.pointer (some ⟨b, 0, none⟩)] wx fun e w' => e = .returned (.int .i64 (nl : Int)) ∧ Below wx.heap.size wx w') := hide (fun wx hb => (len_any (HR.out.below (below_next HB0.out hb))).mono (fun e w' h => ⟨by rw [h.1, hnl], by rw [h.2]; exact Below.refl _ _⟩))
  have HOFA : Hid (∀ wx, Below w1.heap.size w1 wx → Calls Try.prog 21 #[.pointer (some ⟨b, 0, none⟩), encO r.1] wx fun e w' => e = .returned (.int .i64 (ofS l r.1)) ∧ Below wx.heap.size wx w') := hide (fun wx hb => of_any (HR.out.below (below_next HB0.out hb)) hr)
  have HOFB : Hid (∀ wx, Below w1.heap.size w1 wx → Calls Try.prog 24 #[.slice ao nl cap, encR r] wx fun e w' => e = .returned (.int .i64 (ofS l r.1)) ∧ Below wx.heap.size wx w') := hide (fun wx hb => by
    rw [← hnl]; exact rof_any (HL.out.below (below_next HB0.out hb)) (by omega) cap r)
  have HCN : Hid (∀ a, I64 a → ∀ wx, Below w1.heap.size w1 wx → Calls Try.prog 19 #[.pointer (some ⟨b, 0, none⟩), .int .i64 a] wx fun e w' => e = .returned (.int .i64 ((byS l a).length : Int)) ∧ Below wx.heap.size wx w') := hide (fun a hI wx hb => (count_any (HR.out.below (below_next HB0.out hb)) hI).mono (fun e w' h => ⟨h.1, by rw [h.2]; exact Below.refl _ _⟩))
  have HCN0 : Hid (∀ wx, Below w1.heap.size w1 wx → Calls Try.prog 19 #[.pointer (some ⟨b, 0, none⟩), .int .i64 0] wx fun e w' => e = .returned (.int .i64 0) ∧ Below wx.heap.size wx w') := hide (fun wx hb => by
    have := HCN.out 0 I0 wx hb
    rw [byS_zero HK.out] at this; exact this)
  have HOW : Hid (∀ a, I64 a → ∀ wx, Below w1.heap.size w1 wx → Calls Try.prog 20 #[.pointer (some ⟨b, 0, none⟩), .int .i64 a] wx (SortedO wx (byS l a))) := hide (fun a hI wx hb => owners_any (HR.out.below (below_next HB0.out hb)) hI (by omega))
  have HOW0 : Hid (∀ wx, Below w1.heap.size w1 wx → Calls Try.prog 20 #[.pointer (some ⟨b, 0, none⟩), .int .i64 0] wx (SortedO wx [])) := hide (fun wx hb => by
    have := HOW.out 0 I0 wx hb
    rw [byS_zero HK.out] at this; exact this)
  have HAD : Hid (∀ wx, Below w1.heap.size w1 wx → Calls Try.prog 18 #[.pointer (some ⟨b, 0, none⟩)] wx (Addrd wx l)) := hide (fun wx hb => addrs_any (HR.out.below (below_next HB0.out hb)) (by omega))
  have HRAD : Hid (∀ wx, Below w1.heap.size w1 wx → Calls Try.prog 34 #[.slice ao nl cap] wx (Addrd wx l)) := hide (fun wx hb => by
    rw [← hnl]; exact raddrs_any (HL.out.below (below_next HB0.out hb)) (by omega) cap)
  have HBY : Hid (∀ a wx, Below w1.heap.size w1 wx → Calls Try.prog 35 #[.slice ao nl cap, .int .i64 a] wx (RPutd wx (byR l a))) := hide (fun a wx hb => by
    rw [← hnl]; exact rby_any (HL.out.below (below_next HB0.out hb)) (by omega) cap a)
  have HVO : Hid (∀ wx, Below w1.heap.size w1 wx → Calls Try.prog 25 #[.pointer (some ⟨b, 0, none⟩), .int .i64 r.1.1] wx (SortedO wx (volS l r.1.1))) := hide (fun wx hb => volume_any (HR.out.below (below_next HB0.out hb)) (by omega))
  obtain ⟨c, hofc⟩ : ∃ c, ofS l r.1 = c := ⟨_, rfl⟩
  clear hR hL hr I0
  go_enter Try.func17, Try.ntmps17
  go_wp2_with fail
  refine wp_region_held_drew (S := Below w1.heap.size w1) (by kernel_rfl) (below_drew0 w1) (fun hS => ?_)
  refine take_want 0 (some 15) (.pointer (some ⟨b, 0, none⟩)) rfl rfl rfl (by kernel_rfl) (by kernel_rfl) (by kernel_rfl) (fun _ _ _ h => h) (fun wx hx => exec_move rfl rfl) hS ?_
  simp only [Act.put, List.setIfInBounds_toArray, List.set_cons_zero, List.set_cons_succ]
  refine take_want 2 (some 17) (.slice ao nl cap) rfl rfl rfl (by kernel_rfl) (by kernel_rfl) (by kernel_rfl) (fun _ _ _ h => h) (fun wx hx => exec_move rfl rfl) hS ?_
  simp only [Act.put, List.setIfInBounds_toArray, List.set_cons_zero, List.set_cons_succ]
  refine take_want 3 (some 18) (.int .i64 (nl : Int)) rfl rfl rfl (by kernel_rfl) (by kernel_rfl) (by kernel_rfl) (fun _ _ _ h => h) (fun wx hx => exec_len rfl (len_refs _ _ _ _) rfl) hS ?_
  simp only [Act.put, List.setIfInBounds_toArray, List.set_cons_zero, List.set_cons_succ]
  refine call_want 1 (some 16) rfl rfl rfl (by kernel_rfl) (exec_call1 rfl enterLen rfl rfl) ((HLEN.out _ hS).mono ?_)
  rintro e' wo1 ⟨rfl, hbw⟩
  have hO1 := below_next hS hbw
  clear hbw
  refine ⟨_, rfl, hO1, ?_⟩
  simp only [Act.put, List.setIfInBounds_toArray, List.set_cons_zero, List.set_cons_succ]
  refine take_want 4 (some 19) (.bool false) rfl rfl rfl (by kernel_rfl) (by kernel_rfl) (by kernel_rfl) (fun _ _ _ h => h) (fun wx hx => exec_neqN rfl rfl rfl rfl) hO1 ?_
  simp only [Act.put, List.setIfInBounds_toArray, List.set_cons_zero, List.set_cons_succ]
  refine take_want 5 (some 20) (.bool false) rfl rfl rfl (by kernel_rfl) (by kernel_rfl) (by kernel_rfl) (fun _ _ _ h => h) (fun wx hx => exec_move rfl rfl) hO1 ?_
  simp only [Act.put, List.setIfInBounds_toArray, List.set_cons_zero, List.set_cons_succ]
  refine take_want 6 (some 21) (.pointer (some ⟨b, 0, none⟩)) rfl rfl rfl (by kernel_rfl) (by kernel_rfl) (by kernel_rfl) (fun _ _ _ h => h) (fun wx hx => exec_move rfl rfl) hO1 ?_
  simp only [Act.put, List.setIfInBounds_toArray, List.set_cons_zero, List.set_cons_succ]
  refine take_want 7 (some 22) (.pointer (some ⟨x, 0, none⟩)) rfl rfl rfl (by kernel_rfl) (by kernel_rfl) (by kernel_rfl) (fun _ _ _ h => h) (fun wx hx => exec_field rfl (fldR0 _ wx) rfl) hO1 ?_
  simp only [Act.put, List.setIfInBounds_toArray, List.set_cons_zero, List.set_cons_succ]
  refine take_want 8 (some 23) (.int .i64 r.1.1) rfl rfl rfl (by kernel_rfl) (by kernel_rfl) (by kernel_rfl) (fun _ _ _ h => h) (fun wx hx => exec_load rfl (load_intV (HX.out.below hx).1) rfl) hO1 ?_
  simp only [Act.put, List.setIfInBounds_toArray, List.set_cons_zero, List.set_cons_succ]
  refine take_want 9 (some 24) (.pointer (some ⟨x, 1, none⟩)) rfl rfl rfl (by kernel_rfl) (by kernel_rfl) (by kernel_rfl) (fun _ _ _ h => h) (fun wx hx => exec_field rfl (fldR1 _ wx) rfl) hO1 ?_
  simp only [Act.put, List.setIfInBounds_toArray, List.set_cons_zero, List.set_cons_succ]
  refine take_want 10 (some 25) (.int .i64 r.1.2) rfl rfl rfl (by kernel_rfl) (by kernel_rfl) (by kernel_rfl) (fun _ _ _ h => h) (fun wx hx => exec_load rfl (load_intV (HX.out.below hx).2.1) rfl) hO1 ?_
  simp only [Act.put, List.setIfInBounds_toArray, List.set_cons_zero, List.set_cons_succ]
  refine take_want 11 (some 26) (encO r.1) rfl rfl rfl (by kernel_rfl) (by kernel_rfl) (by kernel_rfl) (fun _ _ _ h => h) (fun wx hx => exec_build2 rfl (buildO2 wx _ _) rfl rfl) hO1 ?_
  simp only [Act.put, List.setIfInBounds_toArray, List.set_cons_zero, List.set_cons_succ]
  refine take_want 13 (some 28) (.slice ao nl cap) rfl rfl rfl (by kernel_rfl) (by kernel_rfl) (by kernel_rfl) (fun _ _ _ h => h) (fun wx hx => exec_move rfl rfl) hO1 ?_
  simp only [Act.put, List.setIfInBounds_toArray, List.set_cons_zero, List.set_cons_succ]
  refine take_want 14 (some 29) (encR r) rfl rfl rfl (by kernel_rfl) (by kernel_rfl) (by kernel_rfl) (fun _ _ _ h => h) (fun wx hx => exec_load rfl (HX.out.below hx).load rfl) hO1 ?_
  simp only [Act.put, List.setIfInBounds_toArray, List.set_cons_zero, List.set_cons_succ]
  refine call_want 12 (some 27) rfl rfl rfl (by kernel_rfl) (exec_call2 rfl enterOf rfl rfl rfl) ((HOFA.out _ hO1).mono ?_)
  rintro e' wo2 ⟨rfl, hbw⟩
  have hO2 := below_next hO1 hbw
  clear hbw
  rw [hofc]
  refine ⟨_, rfl, hO2, ?_⟩
  simp only [Act.put, List.setIfInBounds_toArray, List.set_cons_zero, List.set_cons_succ]
  refine call_want 15 (some 30) rfl rfl rfl (by kernel_rfl) (exec_call2 rfl enterROf rfl rfl rfl) ((HOFB.out _ hO2).mono ?_)
  rintro e' wo3 ⟨rfl, hbw⟩
  have hO3 := below_next hO2 hbw
  clear hbw
  rw [hofc]
  refine ⟨_, rfl, hO3, ?_⟩
  simp only [Act.put, List.setIfInBounds_toArray, List.set_cons_zero, List.set_cons_succ]
  refine take_want 16 (some 31) (.bool false) rfl rfl rfl (by kernel_rfl) (by kernel_rfl) (by kernel_rfl) (fun _ _ _ h => h) (fun wx hx => exec_neqN rfl rfl rfl rfl) hO3 ?_
  simp only [Act.put, List.setIfInBounds_toArray, List.set_cons_zero, List.set_cons_succ]
  refine take_want 17 (some 32) (.bool false) rfl rfl rfl (by kernel_rfl) (by kernel_rfl) (by kernel_rfl) (fun _ _ _ h => h) (fun wx hx => exec_pickF rfl rfl rfl) hO3 ?_
  simp only [Act.put, List.setIfInBounds_toArray, List.set_cons_zero, List.set_cons_succ]
  refine take_want 18 (some 33) (.bool false) rfl rfl rfl (by kernel_rfl) (by kernel_rfl) (by kernel_rfl) (fun _ _ _ h => h) (fun wx hx => exec_move rfl rfl) hO3 ?_
  simp only [Act.put, List.setIfInBounds_toArray, List.set_cons_zero, List.set_cons_succ]
  refine take_want 19 (some 34) (.pointer (some ⟨b, 0, none⟩)) rfl rfl rfl (by kernel_rfl) (by kernel_rfl) (by kernel_rfl) (fun _ _ _ h => h) (fun wx hx => exec_move rfl rfl) hO3 ?_
  simp only [Act.put, List.setIfInBounds_toArray, List.set_cons_zero, List.set_cons_succ]
  refine call_want 20 (some 35) rfl rfl rfl (by kernel_rfl) (exec_call2 rfl enterCount rfl rfl rfl) ((HCN0.out _ hO3).mono ?_)
  rintro e' wo4 ⟨rfl, hbw⟩
  have hO4 := below_next hO3 hbw
  clear hbw
  refine ⟨_, rfl, hO4, ?_⟩
  simp only [Act.put, List.setIfInBounds_toArray, List.set_cons_zero, List.set_cons_succ]
  refine take_want 21 (some 36) (.bool false) rfl rfl rfl (by kernel_rfl) (by kernel_rfl) (by kernel_rfl) (fun _ _ _ h => h) (fun wx hx => exec_neqN rfl rfl rfl rfl) hO4 ?_
  simp only [Act.put, List.setIfInBounds_toArray, List.set_cons_zero, List.set_cons_succ]
  refine take_want 22 (some 37) (.bool false) rfl rfl rfl (by kernel_rfl) (by kernel_rfl) (by kernel_rfl) (fun _ _ _ h => h) (fun wx hx => exec_pickF rfl rfl rfl) hO4 ?_
  simp only [Act.put, List.setIfInBounds_toArray, List.set_cons_zero, List.set_cons_succ]
  refine take_want 23 (some 38) (.bool false) rfl rfl rfl (by kernel_rfl) (by kernel_rfl) (by kernel_rfl) (fun _ _ _ h => h) (fun wx hx => exec_move rfl rfl) hO4 ?_
  simp only [Act.put, List.setIfInBounds_toArray, List.set_cons_zero, List.set_cons_succ]
  refine take_want 24 (some 39) (.pointer (some ⟨b, 0, none⟩)) rfl rfl rfl (by kernel_rfl) (by kernel_rfl) (by kernel_rfl) (fun _ _ _ h => h) (fun wx hx => exec_move rfl rfl) hO4 ?_
  simp only [Act.put, List.setIfInBounds_toArray, List.set_cons_zero, List.set_cons_succ]
  refine call_want 25 (some 40) rfl rfl rfl (by kernel_rfl) (exec_call2 rfl enterOwners rfl rfl rfl) ((HOW0.out _ hO4).mono ?_)
  rintro e' wo5 ⟨v5, rfl, hv5, hbw⟩
  obtain ⟨ao5, cap5, rfl⟩ := ownsRow_form hv5
  have hO5 := below_next hO4 hbw
  clear hbw hv5
  refine ⟨_, rfl, hO5, ?_⟩
  simp only [Act.put, List.setIfInBounds_toArray, List.set_cons_zero, List.set_cons_succ]
  refine take_want 26 (some 41) (.int .i64 ((0 : Nat) : Int)) rfl rfl rfl (by kernel_rfl) (by kernel_rfl) (by kernel_rfl) (fun _ _ _ h => h) (fun wx hx => exec_len rfl (len_owners _ _ _ _) rfl) hO5 ?_
  simp only [Act.put, List.setIfInBounds_toArray, List.set_cons_zero, List.set_cons_succ]
  refine take_want 27 (some 42) (.bool false) rfl rfl rfl (by kernel_rfl) (by kernel_rfl) (by kernel_rfl) (fun _ _ _ h => h) (fun wx hx => exec_neqN rfl rfl rfl rfl) hO5 ?_
  simp only [Act.put, List.setIfInBounds_toArray, List.set_cons_zero, List.set_cons_succ]
  refine take_want 28 (some 43) (.bool false) rfl rfl rfl (by kernel_rfl) (by kernel_rfl) (by kernel_rfl) (fun _ _ _ h => h) (fun wx hx => exec_pickF rfl rfl rfl) hO5 ?_
  simp only [Act.put, List.setIfInBounds_toArray, List.set_cons_zero, List.set_cons_succ]
  refine wpAnyH_done (by kernel_rfl) ?_ _
  have HB5 := hide hO5
  clear hS hO1 hO2 hO3 hO4 hO5
  go_wp2_with (first
    | (go_at_call 18; refine (HAD.out wo5 HB5.out).mono ?_; rintro e w6 ⟨v6, ns, rfl, hia, hrow, hb6, hle⟩; obtain ⟨ao6, cap6, g6, hv6, hat6⟩ := ints_at (F := fun _ => False) hrow (by simp); subst hv6; have HIA := hide hia; have HA6 := hide hat6; have HB6 := hide (below_next HB5.out hb6); have HLE := hide hle; obtain ⟨n, hn⟩ : ∃ n, ns.length = n := ⟨_, rfl⟩; rw [hn]; clear hia hrow hb6 hle hat6)
    | (go_at_call 34; refine (HRAD.out w6 HB6.out).mono ?_; rintro e w7 ⟨v7, ms, rfl, hia, hrow, hb7, hle⟩; have hms := hia.unique HIA.out; rw [hms] at hrow; obtain ⟨ao7, cap7, g7, hv7, hat7⟩ := ints_at (F := fun _ => False) hrow (by simp); subst hv7; rw [hn]; have HA7 := hide hat7; have HA67 := hide (HA6.out.below hb7); have HB7 := hide (below_next HB6.out hb7); clear hia hrow hb7 hle hat7 hms))
  go_loopg [55] n (fun k i wr => ∃ (j : Nat), j + k = n ∧ i = .int .i64 (j : Int) ∧ Hid (Below w7.heap.size w7 wr))
  case atStart => exact ⟨0, by omega, rfl, hide (Below.refl _ _)⟩
  case round =>
    obtain ⟨j, hj, rfl, HBw⟩ := hrel
    have HB1w : Hid (Below w1.heap.size w1 wr) := hide (below_next HB7.out HBw.out)
    have hnn : n ≤ 1000 := by have := HLE.out; omega
    cases gk with
    | succ m =>
      have hlti : (j : Int) < (n : Int) := by omega
      have hge : (0 : Int) ≤ (j : Int) := by omega
      obtain ⟨a, hav⟩ : ∃ a, ns[j]? = some a := ⟨ns[j]'(by omega), by rw [List.getElem?_eq_getElem]⟩
      obtain rfl := HA67.out.ad (by omega)
      obtain rfl := HA7.out.ad (by omega)
      have k6 := (HA67.out.below HBw.out).cells j a hav
      have HK7 : Hid (∀ wx, Below wr.heap.size wr wx → wx.cell? ⟨g7, j, none⟩ = some (.int .i64 a)) := hide (fun wx hb => (HA7.out.below (below_next HBw.out hb)).cells j a hav)
      have HI : Hid (I64 a) := hide (by
        obtain ⟨o, ho⟩ := (HIA.out.2 a).1 (List.mem_of_getElem? hav)
        exact HK.out.rng _ ho)
      have e7 : IntKind.i64.wrap ((j : Int) + 1) = (j : Int) + 1 := IntWalk.i64_in _ ⟨by omega, by omega⟩
      obtain ⟨nb, hnb⟩ : ∃ nb, (byS l a).length = nb := ⟨_, rfl⟩
      have hnbR : (byR l a).length = nb := by rw [← hnb, ← byR_own, List.length_map]
      have hnbl : nb ≤ 1000 := by have := byR_length l a; omega
      have HCA := hide (HCN.out a HI.out)
      rw [hnb] at HCA
      have HBYA := hide (HBY.out a wr HB1w.out)
      clear hav
      go_wp2_with (first
        | (go_at_call 35; refine HBYA.out.mono ?_; rintro e w8 ⟨v8, rfl, hrow, hb8⟩; obtain ⟨ao8, cap8, g8, hv8, hat8⟩ := refs_at (F := fun _ => False) hrow (by simp); subst hv8; rw [hnbR]; have HM8 := hide hat8; have HB8 := hide hb8; have k7 := HK7.out w8 hb8; clear hrow hb8 hat8)
        | (go_at_call 19; refine (HCA.out w8 (below_next HB1w.out HB8.out)).mono ?_; rintro e w9 ⟨rfl, hb9⟩; have HB9 := hide (below_next HB8.out hb9); have HM9 := hide (HM8.out.below hb9); clear hb9)
        | (go_at_call 20; refine (HOW.out a HI.out w9 (below_next HB1w.out HB9.out)).mono ?_; rintro e w10 ⟨v10, rfl, hrow, hb10⟩; obtain ⟨ao10, cap10, g10, hv10, hat10⟩ := owns_at (F := fun _ => False) hrow (by simp); subst hv10; rw [hnb]; have HO10 := hide hat10; have HB10 := hide (below_next HB9.out hb10); have HM10 := hide (HM9.out.below hb10); clear hrow hb10 hat10)
        | (go_at_call 36; refine (ownersEq_any HO10.out HM10.out (byR_own l a) hnb (by omega) cap10 cap8).mono ?_; rintro e w11 ⟨rfl, hb11⟩; have HB11 := hide (below_next HB10.out hb11); clear hb11))
      go_roundg m
      case measure => omega
      case rel => exact ⟨j + 1, by omega, by go_num, hide (below_next HBw.out HB11.out)⟩
    | zero =>
      have hnlt : ¬ ((j : Nat) : Int) < (n : Int) := by omega
      obtain ⟨wz, hwz⟩ : ∃ wz, wz = wr := ⟨_, rfl⟩
      subst hwz
      clear HBw
      go_wp2_with fail
      go_loopg [12, 88] nl (fun k ov i wr => ∃ (j2 : Nat), j2 + k = nl ∧ i = .int .i64 (j2 : Int) ∧ Hid (wr.ownsRow wz.heap.size 28 3 ov (volR (l.take j2) r.1.1).length (refsC (volR (l.take j2) r.1.1))) ∧ Hid (Below wz.heap.size wz wr))
      case atStart => exact ⟨0, by omega, rfl, hide (World.ownsRow_nil _ _ _ _), hide (Below.refl _ _)⟩
      case round =>
        obtain ⟨j2, hj2, rfl, HVW, HBw⟩ := hrel
        cases gk with
        | zero =>
          have hnlt2 : ¬ ((j2 : Nat) : Int) < (nl : Int) := by omega
          rw [List.take_of_length_le (by omega)] at HVW
          obtain ⟨nv, hnv⟩ : ∃ nv, (volS l r.1.1).length = nv := ⟨_, rfl⟩
          have hnvR : (volR l r.1.1).length = nv := by rw [← hnv, ← volR_own, List.length_map]
          have hnvl : nv ≤ 1000 := by have := volR_length l r.1.1; omega
          obtain ⟨aoV, capV, gV, hvV, hatV⟩ := refs_at (F := fun _ => False) HVW.out (by simp)
          subst hvV
          rw [hnvR]
          have HV := hide hatV
          have HB2w : Hid (Below w1.heap.size w1 wr) := hide (below_next HB1w.out HBw.out)
          obtain ⟨z1, z2, z3⟩ := HX.out.below HB2w.out
          clear hatV
          go_wp2_with (first
            | (go_at_call 25; refine (HVO.out wr HB2w.out).mono ?_; rintro e w10 ⟨v10, rfl, hrow, hb10⟩; obtain ⟨ao10, cap10, g10, hv10, hat10⟩ := owns_at (F := fun _ => False) hrow (by simp); subst hv10; rw [hnv]; have HO10 := hide hat10; have HB10 := hide hb10; have HV10 := hide (HV.out.below hb10); clear hrow hb10 hat10)
            | (go_at_call 36; refine (ownersEq_any HO10.out HV10.out (volR_own l r.1.1) hnv (by omega) cap10 capV).mono ?_; rintro e w11 ⟨rfl, hb11⟩; have HB11 := hide (below_next HB10.out hb11); clear hb11))
          go_ret
          exact ⟨rfl, below_next HB0.out (below_next HB2w.out HB11.out)⟩
        | succ m =>
          have hlti : (j2 : Int) < (nl : Int) := by omega
          have hge : (0 : Int) ≤ (j2 : Int) := by omega
          obtain ⟨q, hq⟩ : ∃ q, l[j2]? = some q := ⟨l[j2]'(by omega), by rw [List.getElem?_eq_getElem]⟩
          obtain rfl := HL.out.ad (by omega)
          have HB2w : Hid (Below w1.heap.size w1 wr) := hide (below_next HB1w.out HBw.out)
          obtain ⟨c1, c2, c3⟩ := (HL.out.below (below_next HB0.out HB2w.out)).cells j2 q hq
          have HSN := hide (volR_snoc hq r.1.1)
          have e7 : IntKind.i64.wrap ((j2 : Int) + 1) = (j2 : Int) + 1 := IntWalk.i64_in _ ⟨by omega, by omega⟩
          obtain ⟨out, hout⟩ : ∃ out, volR (l.take j2) r.1.1 = out := ⟨_, rfl⟩
          rw [hout] at HSN HVW
          have hlo : out.length ≤ 500000 := by
            have h1 := volR_length (l.take j2) r.1.1
            have h2 := List.length_take_le j2 l
            rw [hout] at h1; omega
          obtain ⟨ao5, cap5, hv5⟩ := ownsRow_form HVW.out
          subst hv5
          obtain ⟨y, hy⟩ : ∃ y, wr.heap.size = y := ⟨_, rfl⟩
          obtain ⟨w3, hw3⟩ : ∃ w3, wr.alloc (.cells #[.int .i64 q.1.1, .int .i64 q.1.2, .int .i64 q.2] 28) = w3 := ⟨_, rfl⟩
          have HY3 : Hid (BoxR w3 y q) := hide (by rw [← hw3, ← hy]; exact boxR_new _ _ _)
          have HB3 : Hid (Below wr.heap.size wr w3) := hide (by rw [← hw3]; exact below_box _ _)
          have HB3z : Hid (Below wz.heap.size wz w3) := hide (below_next HBw.out HB3.out)
          obtain ⟨y1, y2, y3⟩ := HY3.out
          obtain ⟨z1, z2, z3⟩ := HX.out.below (below_next HB2w.out HB3.out)
          have HV3 := hide (ownsRow_below HVW.out HB3.out)
          clear hq
          by_cases hqv : q.1.1 = r.1.1
          · have hqvb : (q.1.1 == r.1.1) = true := by simpa using hqv
            rw [if_pos hqv] at HSN
            have bN := boxR_new w3 q 28
            obtain ⟨v', w5, hap, hown', hgrow⟩ := append_ref (HV3.out.alloc (.cells #[.int .i64 q.1.1, .int .i64 q.1.2, .int .i64 q.2] 28)) bN.1 bN.2.1 bN.2.2 (by have := HB3z.out.size; simp; omega) (by omega) 26
            have HO5 := hide (ownsRow_len (r := q) hown')
            have HB5 : Hid (Below wz.heap.size wz w5) := hide ((HB3z.out.alloc HB3z.out.size _).grown hgrow (by have := HB3z.out.size; simp; omega) (fun k e => (HV3.out.lt k e).1))
            obtain ⟨ao6, cap6, hv6⟩ := ownsRow_form hown'
            subst hv6
            clear hown' hgrow bN hqv
            go_wp2_with (at_builtin; refine wpList_append_eq rfl _ _ rfl rfl rfl hap ?_)
            go_roundg m
            case measure => omega
            case rel => exact ⟨j2 + 1, by omega, by go_num, hide (by rw [HSN.out]; exact HO5.out), HB5⟩
          · have hqvb : (q.1.1 == r.1.1) = false := by simpa using hqv
            rw [if_neg hqv, List.append_nil] at HSN
            clear hqv
            go_wp2_with fail
            go_roundg m
            case measure => omega
            case rel => exact ⟨j2 + 1, by omega, by go_num, hide (by rw [HSN.out]; exact HV3.out), HB3z⟩
end Go.Proofs.Ytjopdejgijojmaa
