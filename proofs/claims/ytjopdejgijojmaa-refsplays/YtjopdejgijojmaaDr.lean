/- drop: an owner names nothing any more. -/
import Derived.Test.YtjopdejgijojmaaTk
namespace Go.Proofs.Ytjopdejgijojmaa
open Go.RowKit Go.Extern

theorem Turn.grown {F : Nat → Prop} {w w1 w2 : World} {k : Nat} (h : Turn F w w1) (hg : w1.grownBy w2 (some k)) (hF : F k ∨ w.heap.size ≤ k) : Turn F w w2 :=
  h.trans (Turn.of_grown (F := fun j => j = k) hg (fun j e => by cases e; rfl)) (fun i hi e => by subst e; rcases hF with h | h; exact h; omega)
theorem Turn.drew {F : Nat → Prop} {w w1 : World} (h : Turn F w w1) : Turn F w w1.drew := ⟨h.os, h.tape, h.output, h.size, h.block⟩
theorem Turn.alloc {F : Nat → Prop} {w w1 : World} (h : Turn F w w1) (o : Obj) : Turn F w (w1.alloc o) := h.trans (Turn.of_below (F := fun _ => False) ((Below.refl _ w1).alloc (Nat.le_refl _) o)) (fun _ _ e => e.elim)
theorem ext_mono {F : Nat → Prop} {w w1 w2 : World} (h : w1.heap.size ≤ w2.heap.size) : ∀ k, ext F w w1 k → ext F w w2 k := fun k hk => by
  rcases hk with h1 | ⟨h1, h2⟩
  · exact Or.inl h1
  · exact Or.inr ⟨h1, by omega⟩
theorem ext_bd {F : Nat → Prop} {w w' : World} (hF : ∀ k, F k → k < w.heap.size) (hs : w.heap.size ≤ w'.heap.size) : ∀ k, ext F w w' k → k < w'.heap.size := fun k hk => by
  rcases hk with h1 | ⟨_, h2⟩
  · have := hF k h1; omega
  · exact h2
theorem CrAt.addr {w : World} {E : Nat → Prop} {b bn bo : Nat} {l : List Ref} {A : List (Int × Nat)} {sv : Option Nat} (h : CrAt w E b l bn bo A sv) {o : Own} {a : Int} (hm : (o, a) ∈ l) : ∃ sb, (a, sb) ∈ A := by
  obtain ⟨p, hp, e⟩ := (h.all a).1 (fun e => by have := mem_byS.2 hm; rw [e] at this; simp at this)
  exact ⟨p.2, by rw [← e]; exact hp⟩
theorem CrAt.none0 {w : World} {E : Nat → Prop} {b bn bo : Nat} {l : List Ref} {A : List (Int × Nat)} {sv : Option Nat} (h : CrAt w E b l bn bo A sv) : ∀ p ∈ A, p.1 ≠ 0 := fun p hp e => by
  have := (h.all 0).2 ⟨p, hp, e⟩
  obtain ⟨o, ho⟩ := List.exists_mem_of_ne_nil _ this
  have := h.ok.pos _ (mem_byS.1 ho)
  simp at this
theorem CrAt.key1 {w : World} {E : Nat → Prop} {b bn bo : Nat} {l : List Ref} {A : List (Int × Nat)} {sv : Option Nat} (h : CrAt w E b l bn bo A sv) {p q : Int × Nat} (hp : p ∈ A) (hq : q ∈ A) (e : p.1 = q.1) : p = q := by
  have := mem_key_unique h.ow.nodup (a := p.1) (c := p.2) (d := q.2) hp (by rw [e]; exact hq)
  exact Prod.ext e this
theorem byS_drop {l : List Ref} (h : Srt l) {o : Own} {a : Int} : byS (putS l o 0) a = (byS l a).filter (fun q => decide (q ≠ o)) := by
  refine (srt_byS (srt_putS h o 0) a).ext (List.Pairwise.filter _ (srt_byS h a)) (fun q => ?_)
  rw [mem_byS, mem_putS, List.mem_filter, mem_byS]
  simp

/-- What a call that changes a reverse map leaves of it. -/
structure Crd (E : Nat → Prop) (b : Nat) (l : List Ref) (bn bo : Nat) (sv : Option Nat) (w w' : World) : Prop where
  cr : ∃ A, CrAt w' (ext E w w') b l bn bo A sv
  turn : Turn E w w'

/-- The pairs without an owner, and the set of its address without it. -/
theorem CrAt.dropped {w w3 : World} {E : Nat → Prop} {b bn bo sb : Nat} {l : List Ref} {A : List (Int × Nat)} {sv : Option Nat} (h : CrAt w E b l bn bo A sv) {o : Own} {a : Int} (hm : (o, a) ∈ l) (hs : (a, sb) ∈ A)
    (hn : MapIs encO OkO encI w3 bn (l.filter (fun p => decide (p.1 ≠ o)))) (hset : MapIs encO OkO encE w3 sb ((setL (byS l a)).filter (fun p => decide (p.1 ≠ o))))
    (ho : (byS (putS l o 0) a ≠ [] ∧ MapIs encI I64 encM w3 bo A) ∨ (byS (putS l o 0) a = [] ∧ MapIs encI I64 encM w3 bo (A.filter (fun p => decide (p.1 ≠ a))))) (hT : w.heap.size ≤ w3.heap.size)
    (hk : ∀ k, k < w.heap.size → k ≠ bn → k ≠ bo → k ≠ sb → w3.heap[k]? = w.heap[k]?) : ∃ A', CrAt w3 (ext E w w3) b (putS l o 0) bn bo A' sv := by
  have hok : Okl (putS l o 0) := h.ok.put (h.ok.own _ hm) (Int.le_refl 0) (by unfold I64; omega)
  have hofs : ofS l o = a := ofS_mem h.ok.srt hm
  obtain ⟨nb1, nb2, nb3⟩ := h.neB
  have hblk : w3.heap[b]? = w.heap[b]? := hk b (h.bd b h.inB) nb1 nb2 (nb3 _ hs)
  have hn' : MapIs encO OkO encI w3 bn (putS l o 0) := hn.perm (perm_drop h.ok.srt o)
  have hother : ∀ p ∈ A, p.1 ≠ a → MapIs encO OkO encE w3 p.2 (setL (byS (putS l o 0) p.1)) := fun p hp hne => by
    have h0 := h.none0 p hp
    rw [byS_put_other h.ok.srt (by rw [hofs]; exact hne) h0]
    refine (h.st p hp).of_block (fun _ hob => by rw [hk p.2 (h.bd _ (h.inS p hp)) (h.neS p hp).1 (h.neS p hp).2 (fun e => hne (by rw [h.inj p hp _ hs e]))]; exact hob)
  have hbd : ∀ k, ext E w w3 k → k < w3.heap.size := ext_bd h.bd hT
  rcases ho with ⟨hne, ho⟩ | ⟨he, ho⟩
  · refine ⟨A, ⟨hblk.trans h.blk, hn', ho, fun p hp => ?_, fun c => ?_, hok, h.ne, h.neS, h.inj, .inl h.inB, .inl h.inN, .inl h.inO, fun p hp => .inl (h.inS p hp), hbd⟩⟩
    · by_cases e : p.1 = a
      · have hpe : p = (a, sb) := h.key1 hp hs e
        rw [hpe]
        rw [setL_filter] at hset
        simp only
        rw [byS_drop h.ok.srt]; exact hset
      · exact hother p hp e
    · by_cases e : c = a
      · subst e
        exact ⟨fun _ => ⟨_, hs, rfl⟩, fun _ => hne⟩
      · by_cases e0 : c = 0
        · subst e0
          constructor
          · intro hx
            obtain ⟨q, hq⟩ := List.exists_mem_of_ne_nil _ hx
            have := hok.pos _ (mem_byS.1 hq)
            simp at this
          · rintro ⟨p, hp, e1⟩; exact absurd e1 (h.none0 p hp)
        · rw [byS_put_other h.ok.srt (by rw [hofs]; exact e) e0]; exact h.all c
  · refine ⟨A.filter (fun p => decide (p.1 ≠ a)), ⟨hblk.trans h.blk, hn', ho, fun p hp => ?_, fun c => ?_, hok, h.ne, fun p hp => h.neS p (List.mem_filter.1 hp).1, fun p hp q hq => h.inj p (List.mem_filter.1 hp).1 q (List.mem_filter.1 hq).1, .inl h.inB, .inl h.inN, .inl h.inO, fun p hp => .inl (h.inS p (List.mem_filter.1 hp).1), hbd⟩⟩
    · obtain ⟨hp1, hp2⟩ := List.mem_filter.1 hp
      exact hother p hp1 (by simpa using hp2)
    · by_cases e : c = a
      · subst e
        constructor
        · intro hx; exact absurd he hx
        · rintro ⟨p, hp, e1⟩
          have := (List.mem_filter.1 hp).2
          simp at this; exact absurd e1 this
      · by_cases e0 : c = 0
        · subst e0
          constructor
          · intro hx
            obtain ⟨q, hq⟩ := List.exists_mem_of_ne_nil _ hx
            have := hok.pos _ (mem_byS.1 hq)
            simp at this
          · rintro ⟨p, hp, e1⟩; exact absurd e1 (h.none0 p (List.mem_filter.1 hp).1)
        · rw [byS_put_other h.ok.srt (by rw [hofs]; exact e) e0, h.all c]
          constructor
          · rintro ⟨p, hp, e1⟩; exact ⟨p, List.mem_filter.2 ⟨hp, by simp [e1, e]⟩, e1⟩
          · rintro ⟨p, hp, e1⟩; exact ⟨p, (List.mem_filter.1 hp).1, e1⟩

theorem look_nil (w : World) {k : Int} (h : I64 k) : (Instr.lookup 63 (.map none) (.int .i64 k) false).run Try.prog w = .ok (.map none) w := by
  simp [Instr.lookup, run_underlying uA, lawI.check w true (Maps.keyOf_int_mk Try.underlying3 h.wf), Instr.findKey, run_underlying Try.underlying3, Instr.findNow, Result.andThen]
theorem delete_nil (w : World) {o : Own} (h : OkO o) (ty : TypeId) : (Builtin.delete_ #[83, 35] ty #[.map none, encO o]).run Try.prog w = .ok (.tuple #[]) w := by
  obtain ⟨kl, hk⟩ := keyO h
  simp [Builtin.delete_, run_underlying uS, lawO.check w true hk, Result.andThen]
theorem len_nilS (w : World) (ty : TypeId) : (Builtin.len_ #[83] ty #[.map none]).run Try.prog w = .ok (.int .i64 0) w := by
  simp [Builtin.len_, run_underlying uS, Result.andThen, goInt]

set_option maxRecDepth 100000 in
set_option maxHeartbeats 2000000 in
theorem drop_in {w : World} {E : Nat → Prop} {b bn bo : Nat} {l : List Ref} {A : List (Int × Nat)} {sv : Option Nat} (h : CrAt w E b l bn bo A sv) {o : Own} {a : Int} (hm : (o, a) ∈ l) :
    Calls Try.prog 41 #[.pointer (some ⟨b, 0, none⟩), encO o] w fun e w' => e = .returned (.tuple #[]) ∧ Crd E b (putS l o 0) bn bo sv w w' := by
  obtain ⟨sb, hs⟩ := h.addr hm
  have hO := h.ok.own _ hm
  have hI := h.ok.rng _ hm
  simp only at hO hI
  obtain ⟨nb1, nb2, nb3⟩ := h.neB
  have nb4 := nb3 _ hs
  obtain ⟨ns1, ns2⟩ := h.neS _ hs
  have nno := h.ne
  simp only at nb4 ns1 ns2
  have HH := hide h
  have HM := hide hm
  have HS := hide hs
  obtain ⟨x, hx⟩ : ∃ x, w.heap.size = x := ⟨_, rfl⟩
  have xb : x ≠ b := by have := h.bd b h.inB; omega
  have xn : x ≠ bn := by have := h.bd bn h.inN; omega
  have xo : x ≠ bo := by have := h.bd bo h.inO; omega
  have xs : x ≠ sb := by have := h.bd sb (h.inS _ hs); omega
  clear h hm hs nb3
  have eO : encO o = .agg #[.int .i64 o.1, .int .i64 o.2] := rfl
  rw [eO]
  go_enter Try.func41, Try.ntmps41
  go_wp2_with fail
  obtain ⟨w1, hw1⟩ : ∃ w1, w.alloc (.cells #[.int .i64 o.1, .int .i64 o.2] 35) = w1 := ⟨_, rfl⟩
  have hb1 : Below w.heap.size w w1 := by rw [← hw1]; exact (Below.refl _ w).alloc (Nat.le_refl _) _
  have HX : Hid (BoxO w1 x o) := hide (by rw [← hw1, ← hx]; exact boxO_new w o _)
  have H1 := hide (HH.out.below hb1)
  have HB1 := hide hb1
  rw [hw1]
  clear hw1 hb1
  have HC0 := hide H1.out.c0
  have HL : Hid (∀ wx, Keep bo w1 wx → (Instr.lookup 62 (.map (some bn)) (encO o) false).run Try.prog wx = .ok (.int .i64 a) wx) := hide (fun wx hk => (hk.map nno H1.out.nm).look_in KO uN HM.out false)
  have NB := nb2
  have NX := xo
  refine wp_region_held_drew (S := Keep bo w1) (by kernel_rfl) (Keep.drew _ _) (fun hS => ?_)
  refine take_want 0 (some 5) (.pointer (some ⟨b, 0, none⟩)) rfl rfl rfl (by kernel_rfl) (by kernel_rfl) (by kernel_rfl) (fun _ _ _ h => h) (fun wx hx => exec_move rfl rfl) hS ?_
  simp only [Act.put, List.setIfInBounds_toArray, List.set_cons_zero, List.set_cons_succ]
  refine take_want 1 (some 6) (.pointer (some ⟨b, 0, none⟩)) rfl rfl rfl (by kernel_rfl) (by kernel_rfl) (by kernel_rfl) (fun _ _ _ h => h) (fun wx hx => exec_nilCheck rfl rfl) hS ?_
  simp only [Act.put, List.setIfInBounds_toArray, List.set_cons_zero, List.set_cons_succ]
  refine take_want 2 (some 7) (.pointer (some ⟨b, 0, none⟩)) rfl rfl rfl (by kernel_rfl) (by kernel_rfl) (by kernel_rfl) (fun _ _ _ h => h) (fun wx hx => exec_field rfl (fld0 _ wx) rfl) hS ?_
  simp only [Act.put, List.setIfInBounds_toArray, List.set_cons_zero, List.set_cons_succ]
  refine take_want 3 (some 8) (.map (some bn)) rfl rfl rfl (by kernel_rfl) (by kernel_rfl) (by kernel_rfl) (fun _ _ _ h => h) (fun wx hx => exec_load rfl (load_mapN (hx.cell NB HC0.out)) rfl) hS ?_
  simp only [Act.put, List.setIfInBounds_toArray, List.set_cons_zero, List.set_cons_succ]
  refine take_want 4 (some 9) (encO o) rfl rfl rfl (by kernel_rfl) (by kernel_rfl) (by kernel_rfl) (fun _ _ _ h => h) (fun wx hx => exec_load rfl (hx.boxO NX HX.out).load rfl) hS ?_
  simp only [Act.put, List.setIfInBounds_toArray, List.set_cons_zero, List.set_cons_succ]
  refine take_want 5 (some 10) (.int .i64 a) rfl rfl rfl (by kernel_rfl) (by kernel_rfl) (by kernel_rfl) (fun _ _ _ h => h) (fun wx hx => exec_lookup rfl (HL.out wx hx) rfl rfl) hS ?_
  simp only [Act.put, List.setIfInBounds_toArray, List.set_cons_zero, List.set_cons_succ]
  refine take_want 6 (some 4) (.int .i64 a) rfl rfl rfl (by kernel_rfl) (by kernel_rfl) (by kernel_rfl) (fun _ _ _ h => h) (fun wx hx => exec_assign rfl rfl) hS ?_
  simp only [Act.put, List.setIfInBounds_toArray, List.set_cons_zero, List.set_cons_succ]
  refine wpAnyH_done (by kernel_rfl) ?_ _
  clear HL hS NB NX
  go_wp2_with fail
  have NB := nb1
  have NX := xn
  obtain ⟨w2, hd, hm2, hg2, hk2⟩ := (MapIs.of_block (w' := w1.drew.drew) H1.out.nm (fun _ h => h)).drop KO uN (a := o) hO 0
  have HD := hide hd
  have HM2 := hide hm2
  have HG2 := hide hg2
  have HK : Hid (Keep bn w1 w2) := hide hk2
  clear hd hm2 hg2 hk2
  refine wp_region_held_drew (S := Keep bn w1) (by kernel_rfl) (Keep.drew _ _) (fun hS => ?_)
  refine take_want 0 (some 11) (.pointer (some ⟨b, 0, none⟩)) rfl rfl rfl (by kernel_rfl) (by kernel_rfl) (by kernel_rfl) (fun _ _ _ h => h) (fun wx hx => exec_move rfl rfl) hS ?_
  simp only [Act.put, List.setIfInBounds_toArray, List.set_cons_zero, List.set_cons_succ]
  refine take_want 1 (some 12) (.pointer (some ⟨b, 0, none⟩)) rfl rfl rfl (by kernel_rfl) (by kernel_rfl) (by kernel_rfl) (fun _ _ _ h => h) (fun wx hx => exec_nilCheck rfl rfl) hS ?_
  simp only [Act.put, List.setIfInBounds_toArray, List.set_cons_zero, List.set_cons_succ]
  refine take_want 2 (some 13) (.pointer (some ⟨b, 0, none⟩)) rfl rfl rfl (by kernel_rfl) (by kernel_rfl) (by kernel_rfl) (fun _ _ _ h => h) (fun wx hx => exec_field rfl (fld0 _ wx) rfl) hS ?_
  simp only [Act.put, List.setIfInBounds_toArray, List.set_cons_zero, List.set_cons_succ]
  refine take_want 3 (some 14) (.map (some bn)) rfl rfl rfl (by kernel_rfl) (by kernel_rfl) (by kernel_rfl) (fun _ _ _ h => h) (fun wx hx => exec_load rfl (load_mapN (hx.cell NB HC0.out)) rfl) hS ?_
  simp only [Act.put, List.setIfInBounds_toArray, List.set_cons_zero, List.set_cons_succ]
  refine take_want 4 (some 15) (encO o) rfl rfl rfl (by kernel_rfl) (by kernel_rfl) (by kernel_rfl) (fun _ _ _ h => h) (fun wx hx => exec_load rfl (hx.boxO NX HX.out).load rfl) hS ?_
  simp only [Act.put, List.setIfInBounds_toArray, List.set_cons_zero, List.set_cons_succ]
  refine only_value 5 none rfl rfl rfl (by kernel_rfl) (exec_delete rfl HD.out rfl rfl) HK.out ?_
  simp only [Act.put]
  refine wpAnyH_done (by kernel_rfl) ?_ _
  clear HD hS NB NX
  go_wp2_with fail
  have HC1 : Hid (w2.cell? ⟨b, 1, none⟩ = some (.map (some bo))) := hide (HK.out.cell nb1 H1.out.c1)
  replace HX : Hid (BoxO w2 x o) := hide (HK.out.boxO xn HX.out)
  have HO2 : Hid (MapIs encI I64 encM w2 bo A) := hide (HK.out.map (Ne.symm nno) H1.out.ow)
  have HS2 : Hid (MapIs encO OkO encE w2 sb (setL (byS l a))) := hide (HK.out.map ns1 (H1.out.st _ HS.out))
  have HL : Hid (∀ wx, Keep sb w2 wx → (Instr.lookup 63 (.map (some bo)) (.int .i64 a) false).run Try.prog wx = .ok (.map (some sb)) wx) := hide (fun wx hk => (hk.map (Ne.symm ns2) HO2.out).look_in KI uA HS.out false)
  obtain ⟨w3, hd, hm3, hg3, hk3⟩ := (MapIs.of_block (w' := w2.drew) HS2.out (fun _ h => h)).drop KO uS (a := o) hO 0
  have HD := hide hd
  have HM3 := hide hm3
  have HG3 := hide hg3
  have HK1 := HK
  clear HK
  have HK : Hid (Keep sb w2 w3) := hide hk3
  clear hd hm3 hg3 hk3
  have NB := nb4
  have NX := xs
  refine wp_region_held_drew (S := Keep sb w2) (by kernel_rfl) (Keep.drew _ _) (fun hS => ?_)
  refine take_want 0 (some 16) (.pointer (some ⟨b, 0, none⟩)) rfl rfl rfl (by kernel_rfl) (by kernel_rfl) (by kernel_rfl) (fun _ _ _ h => h) (fun wx hx => exec_move rfl rfl) hS ?_
  simp only [Act.put, List.setIfInBounds_toArray, List.set_cons_zero, List.set_cons_succ]
  refine take_want 1 (some 17) (.pointer (some ⟨b, 0, none⟩)) rfl rfl rfl (by kernel_rfl) (by kernel_rfl) (by kernel_rfl) (fun _ _ _ h => h) (fun wx hx => exec_nilCheck rfl rfl) hS ?_
  simp only [Act.put, List.setIfInBounds_toArray, List.set_cons_zero, List.set_cons_succ]
  refine take_want 2 (some 18) (.pointer (some ⟨b, 1, none⟩)) rfl rfl rfl (by kernel_rfl) (by kernel_rfl) (by kernel_rfl) (fun _ _ _ h => h) (fun wx hx => exec_field rfl (fld1 _ wx) rfl) hS ?_
  simp only [Act.put, List.setIfInBounds_toArray, List.set_cons_zero, List.set_cons_succ]
  refine take_want 3 (some 19) (.map (some bo)) rfl rfl rfl (by kernel_rfl) (by kernel_rfl) (by kernel_rfl) (fun _ _ _ h => h) (fun wx hx => exec_load rfl (load_mapA (hx.cell NB HC1.out)) rfl) hS ?_
  simp only [Act.put, List.setIfInBounds_toArray, List.set_cons_zero, List.set_cons_succ]
  refine take_want 4 (some 20) (.int .i64 a) rfl rfl rfl (by kernel_rfl) (by kernel_rfl) (by kernel_rfl) (fun _ _ _ h => h) (fun wx hx => exec_move rfl rfl) hS ?_
  simp only [Act.put, List.setIfInBounds_toArray, List.set_cons_zero, List.set_cons_succ]
  refine take_want 5 (some 21) (.map (some sb)) rfl rfl rfl (by kernel_rfl) (by kernel_rfl) (by kernel_rfl) (fun _ _ _ h => h) (fun wx hx => exec_lookup rfl (HL.out wx hx) rfl rfl) hS ?_
  simp only [Act.put, List.setIfInBounds_toArray, List.set_cons_zero, List.set_cons_succ]
  refine take_want 6 (some 22) (encO o) rfl rfl rfl (by kernel_rfl) (by kernel_rfl) (by kernel_rfl) (fun _ _ _ h => h) (fun wx hx => exec_load rfl (hx.boxO NX HX.out).load rfl) hS ?_
  simp only [Act.put, List.setIfInBounds_toArray, List.set_cons_zero, List.set_cons_succ]
  refine only_value 7 none rfl rfl rfl (by kernel_rfl) (exec_delete rfl HD.out rfl rfl) HK.out ?_
  simp only [Act.put]
  refine wpAnyH_done (by kernel_rfl) ?_ _
  clear HD hS HL NB NX
  have HO3 : Hid (MapIs encI I64 encM w3 bo A) := hide (HK.out.map (Ne.symm ns2) HO2.out)
  have HN3 : Hid (MapIs encO OkO encI w3 bn (l.filter (fun p => decide (p.1 ≠ o)))) := hide (HK.out.map (Ne.symm ns1) HM2.out)
  have c1 : w3.cell? ⟨b, 1, none⟩ = some (.map (some bo)) := HK.out.cell nb4 HC1.out
  have lk : (Instr.lookup 63 (.map (some bo)) (.int .i64 a) false).run Try.prog w3 = .ok (.map (some sb)) w3 := HO3.out.look_in KI uA HS.out false
  have HT3 : Hid (Turn E w w3) := hide (by
    have t1 : Turn E w w1.drew.drew := (Turn.of_below HB1.out).drew.drew
    have t2 := t1.grown HG2.out (.inl HH.out.inN)
    exact t2.drew.grown HG3.out (.inl (HH.out.inS _ HS.out)))
  have HB3 : Hid (∀ k, k < w.heap.size → k ≠ bn → k ≠ sb → w3.heap[k]? = w.heap[k]?) := hide (fun k hk h1 h2 => by rw [HK.out k h2, HK1.out k h1, HB1.out.block k hk])
  by_cases he : byS (putS l o 0) a = []
  · have ln : (Builtin.len_ #[83] 3 #[.map (some sb)]).run Try.prog w3 = .ok (.int .i64 0) w3 := by
      have := HM3.out.len (P := Try.prog) uS 3
      rw [setL_filter, ← byS_drop HH.out.ok.srt, he] at this
      exact this
    obtain ⟨w4, hd, hm4, hg4, hk4⟩ := HO3.out.drop KI uA (a := a) hI 0
    unfold encI at hd
    have HM4 := hide hm4
    have HG4 := hide hg4
    have HK4 := hide hk4
    have HE := hide he
    clear hm4 hg4 hk4 he
    go_wp2_with fail
    go_end0
    refine ⟨rfl, HH.out.dropped HM.out HS.out (HK4.out.map nno HN3.out) (HK4.out.map ns2 HM3.out) (.inr ⟨HE.out, HM4.out⟩) ?_ ?_, HT3.out.grown HG4.out (.inl HH.out.inO)⟩
    · exact Nat.le_trans HT3.out.size HG4.out.size
    · exact fun k hk h1 h2 h3 => by rw [HK4.out k h2, HB3.out k hk h1 h3]
  · have ln := HM3.out.len (P := Try.prog) uS 3
    rw [setL_filter, ← byS_drop HH.out.ok.srt] at ln
    obtain ⟨n, hn⟩ : ∃ n, (setL (byS (putS l o 0) a)).length = n := ⟨_, rfl⟩
    have hn0 : ((n : Int) == 0) = false := by
      rw [setL_length] at hn
      have : n ≠ 0 := fun e => he (List.length_eq_zero_iff.1 (by rw [hn, e]))
      simpa using this
    rw [hn] at ln
    have HE := hide he
    clear he hn
    go_wp2_with fail
    go_end0
    refine ⟨rfl, HH.out.dropped HM.out HS.out HN3.out HM3.out (.inl ⟨HE.out, HO3.out⟩) HT3.out.size ?_, HT3.out⟩
    exact fun k hk h1 h2 h3 => HB3.out k hk h1 h3
theorem putS_out {l : List Ref} (h : Srt l) {o : Own} (hm : ∀ r ∈ l, r.1 ≠ o) : putS l o 0 = l := by
  refine (srt_putS h o 0).ext h (fun r => ?_)
  rw [mem_putS]
  constructor
  · rintro (⟨h1, _⟩ | ⟨_, h2⟩)
    · exact h1
    · exact absurd rfl h2
  · intro h1; exact Or.inl ⟨h1, hm r h1⟩
set_option maxRecDepth 100000 in
set_option maxHeartbeats 2000000 in
theorem drop_out {w : World} {E : Nat → Prop} {b bn bo : Nat} {l : List Ref} {A : List (Int × Nat)} {sv : Option Nat} (h : CrAt w E b l bn bo A sv) {o : Own} (hO : OkO o) (hm : ∀ r ∈ l, r.1 ≠ o) :
    Calls Try.prog 41 #[.pointer (some ⟨b, 0, none⟩), encO o] w fun e w' => e = .returned (.tuple #[]) ∧ Crd E b (putS l o 0) bn bo sv w w' := by
  rw [putS_out h.ok.srt hm]
  obtain ⟨nb1, nb2, nb3⟩ := h.neB
  have nno := h.ne
  have hI0 : I64 0 := by unfold I64; omega
  have HH := hide h
  have HM := hide hm
  obtain ⟨x, hx⟩ : ∃ x, w.heap.size = x := ⟨_, rfl⟩
  have xb : x ≠ b := by have := h.bd b h.inB; omega
  have xn : x ≠ bn := by have := h.bd bn h.inN; omega
  have xo : x ≠ bo := by have := h.bd bo h.inO; omega
  clear h hm nb3
  have eO : encO o = .agg #[.int .i64 o.1, .int .i64 o.2] := rfl
  rw [eO]
  go_enter Try.func41, Try.ntmps41
  go_wp2_with fail
  obtain ⟨w1, hw1⟩ : ∃ w1, w.alloc (.cells #[.int .i64 o.1, .int .i64 o.2] 35) = w1 := ⟨_, rfl⟩
  have hb1 : Below w.heap.size w w1 := by rw [← hw1]; exact (Below.refl _ w).alloc (Nat.le_refl _) _
  have HX : Hid (BoxO w1 x o) := hide (by rw [← hw1, ← hx]; exact boxO_new w o _)
  have H1 := hide (HH.out.below hb1)
  have HB1 := hide hb1
  rw [hw1]
  clear hw1 hb1
  have HC0 := hide H1.out.c0
  have HL : Hid (∀ wx, Keep bo w1 wx → (Instr.lookup 62 (.map (some bn)) (encO o) false).run Try.prog wx = .ok (.int .i64 0) wx) := hide (fun wx hk => (hk.map nno H1.out.nm).look_out KO uN (zeroI _) hO HM.out false)
  have NB := nb2
  have NX := xo
  refine wp_region_held_drew (S := Keep bo w1) (by kernel_rfl) (Keep.drew _ _) (fun hS => ?_)
  refine take_want 0 (some 5) (.pointer (some ⟨b, 0, none⟩)) rfl rfl rfl (by kernel_rfl) (by kernel_rfl) (by kernel_rfl) (fun _ _ _ h => h) (fun wx hx => exec_move rfl rfl) hS ?_
  simp only [Act.put, List.setIfInBounds_toArray, List.set_cons_zero, List.set_cons_succ]
  refine take_want 1 (some 6) (.pointer (some ⟨b, 0, none⟩)) rfl rfl rfl (by kernel_rfl) (by kernel_rfl) (by kernel_rfl) (fun _ _ _ h => h) (fun wx hx => exec_nilCheck rfl rfl) hS ?_
  simp only [Act.put, List.setIfInBounds_toArray, List.set_cons_zero, List.set_cons_succ]
  refine take_want 2 (some 7) (.pointer (some ⟨b, 0, none⟩)) rfl rfl rfl (by kernel_rfl) (by kernel_rfl) (by kernel_rfl) (fun _ _ _ h => h) (fun wx hx => exec_field rfl (fld0 _ wx) rfl) hS ?_
  simp only [Act.put, List.setIfInBounds_toArray, List.set_cons_zero, List.set_cons_succ]
  refine take_want 3 (some 8) (.map (some bn)) rfl rfl rfl (by kernel_rfl) (by kernel_rfl) (by kernel_rfl) (fun _ _ _ h => h) (fun wx hx => exec_load rfl (load_mapN (hx.cell NB HC0.out)) rfl) hS ?_
  simp only [Act.put, List.setIfInBounds_toArray, List.set_cons_zero, List.set_cons_succ]
  refine take_want 4 (some 9) (encO o) rfl rfl rfl (by kernel_rfl) (by kernel_rfl) (by kernel_rfl) (fun _ _ _ h => h) (fun wx hx => exec_load rfl (hx.boxO NX HX.out).load rfl) hS ?_
  simp only [Act.put, List.setIfInBounds_toArray, List.set_cons_zero, List.set_cons_succ]
  refine take_want 5 (some 10) (.int .i64 0) rfl rfl rfl (by kernel_rfl) (by kernel_rfl) (by kernel_rfl) (fun _ _ _ h => h) (fun wx hx => exec_lookup rfl (HL.out wx hx) rfl rfl) hS ?_
  simp only [Act.put, List.setIfInBounds_toArray, List.set_cons_zero, List.set_cons_succ]
  refine take_want 6 (some 4) (.int .i64 0) rfl rfl rfl (by kernel_rfl) (by kernel_rfl) (by kernel_rfl) (fun _ _ _ h => h) (fun wx hx => exec_assign rfl rfl) hS ?_
  simp only [Act.put, List.setIfInBounds_toArray, List.set_cons_zero, List.set_cons_succ]
  refine wpAnyH_done (by kernel_rfl) ?_ _
  clear HL hS NB NX
  go_wp2_with fail
  have NB := nb1
  have NX := xn
  obtain ⟨w2, hd, hm2, hg2, hk2⟩ := (MapIs.of_block (w' := w1.drew.drew) H1.out.nm (fun _ h => h)).drop KO uN (a := o) hO 0
  rw [filter_out HM.out] at hm2
  have HD := hide hd
  have HM2 := hide hm2
  have HG2 := hide hg2
  have HK : Hid (Keep bn w1 w2) := hide hk2
  clear hd hm2 hg2 hk2
  refine wp_region_held_drew (S := Keep bn w1) (by kernel_rfl) (Keep.drew _ _) (fun hS => ?_)
  refine take_want 0 (some 11) (.pointer (some ⟨b, 0, none⟩)) rfl rfl rfl (by kernel_rfl) (by kernel_rfl) (by kernel_rfl) (fun _ _ _ h => h) (fun wx hx => exec_move rfl rfl) hS ?_
  simp only [Act.put, List.setIfInBounds_toArray, List.set_cons_zero, List.set_cons_succ]
  refine take_want 1 (some 12) (.pointer (some ⟨b, 0, none⟩)) rfl rfl rfl (by kernel_rfl) (by kernel_rfl) (by kernel_rfl) (fun _ _ _ h => h) (fun wx hx => exec_nilCheck rfl rfl) hS ?_
  simp only [Act.put, List.setIfInBounds_toArray, List.set_cons_zero, List.set_cons_succ]
  refine take_want 2 (some 13) (.pointer (some ⟨b, 0, none⟩)) rfl rfl rfl (by kernel_rfl) (by kernel_rfl) (by kernel_rfl) (fun _ _ _ h => h) (fun wx hx => exec_field rfl (fld0 _ wx) rfl) hS ?_
  simp only [Act.put, List.setIfInBounds_toArray, List.set_cons_zero, List.set_cons_succ]
  refine take_want 3 (some 14) (.map (some bn)) rfl rfl rfl (by kernel_rfl) (by kernel_rfl) (by kernel_rfl) (fun _ _ _ h => h) (fun wx hx => exec_load rfl (load_mapN (hx.cell NB HC0.out)) rfl) hS ?_
  simp only [Act.put, List.setIfInBounds_toArray, List.set_cons_zero, List.set_cons_succ]
  refine take_want 4 (some 15) (encO o) rfl rfl rfl (by kernel_rfl) (by kernel_rfl) (by kernel_rfl) (fun _ _ _ h => h) (fun wx hx => exec_load rfl (hx.boxO NX HX.out).load rfl) hS ?_
  simp only [Act.put, List.setIfInBounds_toArray, List.set_cons_zero, List.set_cons_succ]
  refine only_value 5 none rfl rfl rfl (by kernel_rfl) (exec_delete rfl HD.out rfl rfl) HK.out ?_
  simp only [Act.put]
  refine wpAnyH_done (by kernel_rfl) ?_ _
  clear HD hS NB NX
  go_wp2_with fail
  have HC1 : Hid (w2.cell? ⟨b, 1, none⟩ = some (.map (some bo))) := hide (HK.out.cell nb1 H1.out.c1)
  replace HX : Hid (BoxO w2 x o) := hide (HK.out.boxO xn HX.out)
  have HO2 : Hid (MapIs encI I64 encM w2 bo A) := hide (HK.out.map (Ne.symm nno) H1.out.ow)
  have HL : Hid (∀ wx, Keep bn w2 wx → (Instr.lookup 63 (.map (some bo)) (.int .i64 0) false).run Try.prog wx = .ok (.map none) wx) := hide (fun wx hk => (hk.map (Ne.symm nno) HO2.out).look_out KI uA (zeroS _) hI0 HH.out.none0 false)
  have HK1 := HK
  clear HK
  have HK : Hid (Keep bn w2 w2.drew) := hide (Keep.drew _ _)
  have HD := hide (delete_nil w2.drew hO 0)
  have NB := nb1
  have NX := xn
  refine wp_region_held_drew (S := Keep bn w2) (by kernel_rfl) (Keep.drew _ _) (fun hS => ?_)
  refine take_want 0 (some 16) (.pointer (some ⟨b, 0, none⟩)) rfl rfl rfl (by kernel_rfl) (by kernel_rfl) (by kernel_rfl) (fun _ _ _ h => h) (fun wx hx => exec_move rfl rfl) hS ?_
  simp only [Act.put, List.setIfInBounds_toArray, List.set_cons_zero, List.set_cons_succ]
  refine take_want 1 (some 17) (.pointer (some ⟨b, 0, none⟩)) rfl rfl rfl (by kernel_rfl) (by kernel_rfl) (by kernel_rfl) (fun _ _ _ h => h) (fun wx hx => exec_nilCheck rfl rfl) hS ?_
  simp only [Act.put, List.setIfInBounds_toArray, List.set_cons_zero, List.set_cons_succ]
  refine take_want 2 (some 18) (.pointer (some ⟨b, 1, none⟩)) rfl rfl rfl (by kernel_rfl) (by kernel_rfl) (by kernel_rfl) (fun _ _ _ h => h) (fun wx hx => exec_field rfl (fld1 _ wx) rfl) hS ?_
  simp only [Act.put, List.setIfInBounds_toArray, List.set_cons_zero, List.set_cons_succ]
  refine take_want 3 (some 19) (.map (some bo)) rfl rfl rfl (by kernel_rfl) (by kernel_rfl) (by kernel_rfl) (fun _ _ _ h => h) (fun wx hx => exec_load rfl (load_mapA (hx.cell NB HC1.out)) rfl) hS ?_
  simp only [Act.put, List.setIfInBounds_toArray, List.set_cons_zero, List.set_cons_succ]
  refine take_want 4 (some 20) (.int .i64 0) rfl rfl rfl (by kernel_rfl) (by kernel_rfl) (by kernel_rfl) (fun _ _ _ h => h) (fun wx hx => exec_move rfl rfl) hS ?_
  simp only [Act.put, List.setIfInBounds_toArray, List.set_cons_zero, List.set_cons_succ]
  refine take_want 5 (some 21) (.map none) rfl rfl rfl (by kernel_rfl) (by kernel_rfl) (by kernel_rfl) (fun _ _ _ h => h) (fun wx hx => exec_lookup rfl (HL.out wx hx) rfl rfl) hS ?_
  simp only [Act.put, List.setIfInBounds_toArray, List.set_cons_zero, List.set_cons_succ]
  refine take_want 6 (some 22) (encO o) rfl rfl rfl (by kernel_rfl) (by kernel_rfl) (by kernel_rfl) (fun _ _ _ h => h) (fun wx hx => exec_load rfl (hx.boxO NX HX.out).load rfl) hS ?_
  simp only [Act.put, List.setIfInBounds_toArray, List.set_cons_zero, List.set_cons_succ]
  refine only_value 7 none rfl rfl rfl (by kernel_rfl) (exec_delete rfl HD.out rfl rfl) HK.out ?_
  simp only [Act.put]
  refine wpAnyH_done (by kernel_rfl) ?_ _
  clear HD hS HL NB NX HK
  obtain ⟨w3, hw3⟩ : ∃ w3, w2.drew = w3 := ⟨_, rfl⟩
  have HO3 : Hid (MapIs encI I64 encM w3 bo A) := hide (by rw [← hw3]; exact HO2.out.of_block (fun _ h => h))
  have c1 : w3.cell? ⟨b, 1, none⟩ = some (.map (some bo)) := by rw [← hw3]; exact HC1.out
  have lk : (Instr.lookup 63 (.map (some bo)) (.int .i64 0) false).run Try.prog w3 = .ok (.map none) w3 := HO3.out.look_out KI uA (zeroS _) hI0 HH.out.none0 false
  have HT3 : Hid (Turn E w w3) := hide (by
    have t1 : Turn E w w1.drew.drew := (Turn.of_below HB1.out).drew.drew
    have t2 := t1.grown HG2.out (.inl HH.out.inN)
    rw [← hw3]; exact t2.drew)
  have HB3 : Hid (∀ k, k < w.heap.size → k ≠ bn → w3.heap[k]? = w.heap[k]?) := hide (fun k hk h1 => by rw [← hw3]; show w2.heap[k]? = _; rw [HK1.out k h1, HB1.out.block k hk])
  have HN3 : Hid (MapIs encO OkO encI w3 bn l) := hide (by rw [← hw3]; exact HM2.out.of_block (fun _ h => h))
  have ln := len_nilS w3 3
  obtain ⟨w4, hd, hm4, hg4, hk4⟩ := HO3.out.drop KI uA (a := 0) hI0 0
  unfold encI at hd
  rw [filter_out HH.out.none0] at hm4
  have HM4 := hide hm4
  have HG4 := hide hg4
  have HK4 := hide hk4
  clear hm4 hg4 hk4
  rw [hw3]
  clear hw3
  go_wp2_with fail
  go_end0
  have hT : Turn E w w4 := HT3.out.grown HG4.out (.inl HH.out.inO)
  refine ⟨rfl, ⟨A, ?_⟩, hT⟩
  have hk4 : ∀ k, k < w.heap.size → k ≠ bn → k ≠ bo → w4.heap[k]? = w.heap[k]? := fun k hk h1 h2 => by rw [HK4.out k h2, HB3.out k hk h1]
  have h := HH.out
  refine ⟨(hk4 b (h.bd b h.inB) nb1 nb2).trans h.blk, HK4.out.map nno HN3.out, HM4.out, fun p hp => (h.st p hp).of_block (fun _ ho => (hk4 _ (h.bd _ (h.inS p hp)) (h.neS p hp).1 (h.neS p hp).2).trans ho), h.all, h.ok, h.ne, h.neS, h.inj, .inl h.inB, .inl h.inN, .inl h.inO, fun p hp => .inl (h.inS p hp), ext_bd h.bd hT.size⟩
theorem drop_any {w : World} {E : Nat → Prop} {b bn bo : Nat} {l : List Ref} {A : List (Int × Nat)} {sv : Option Nat} (h : CrAt w E b l bn bo A sv) {o : Own} (hO : OkO o) :
    Calls Try.prog 41 #[.pointer (some ⟨b, 0, none⟩), encO o] w fun e w' => e = .returned (.tuple #[]) ∧ Crd E b (putS l o 0) bn bo sv w w' := by
  rcases ofS_cases h.ok.srt o with hm | ⟨hm, _⟩
  · exact drop_in h hm
  · exact drop_out h hO hm
end Go.Proofs.Ytjopdejgijojmaa
