/- name: an owner names an address. -/
import Derived.Test.YtjopdejgijojmaaDr
namespace Go.Proofs.Ytjopdejgijojmaa
open Go.RowKit Go.Extern

theorem putS_put {l : List Ref} (h : Srt l) {o : Own} {a c : Int} : putS (putS l o c) o a = putS l o a := by
  refine (srt_putS (srt_putS h o c) o a).ext (srt_putS h o a) (fun r => ?_)
  rw [mem_putS, mem_putS, mem_putS]
  constructor
  · rintro (⟨h1 | ⟨h1, _⟩, h2⟩ | h1)
    · exact Or.inl h1
    · rw [h1] at h2; exact absurd rfl h2
    · exact Or.inr h1
  · rintro (⟨h1, h2⟩ | h1)
    · exact Or.inl ⟨Or.inl ⟨h1, h2⟩, h2⟩
    · exact Or.inr h1
theorem ext_ext {E : Nat → Prop} {w w1 w2 w5 : World} (h1 : w.heap.size ≤ w1.heap.size) (h2 : w1.heap.size ≤ w2.heap.size) (h3 : w2.heap.size ≤ w5.heap.size) : ∀ k, ext (ext E w1 w2) w2 w5 k → ext E w w5 k := fun k hk => by
  rcases hk with (h | ⟨h4, h5⟩) | ⟨h4, h5⟩
  · exact Or.inl h
  · exact Or.inr ⟨by omega, by omega⟩
  · exact Or.inr ⟨by omega, h5⟩
theorem byS_new {l : List Ref} (h : Srt l) {o : Own} {a : Int} (ha : a ≠ 0) (hm : ∀ r ∈ l, r.1 ≠ o) : ((o, ()) :: (setL (byS l a)).filter (fun p => decide (p.1 ≠ o))).Perm (setL (byS (putS l o a) a)) := by
  have h1 : (setL (byS l a)).filter (fun p => decide (p.1 ≠ o)) = setL (byS l a) := filter_out (fun p hp => hm _ (mem_byS.1 (mem_setL.1 hp)))
  rw [h1]
  have h2 : (o :: byS l a).Perm (byS (putS l o a) a) := by
    refine (List.perm_ext_iff_of_nodup (List.nodup_cons.2 ⟨fun hx => hm _ (mem_byS.1 hx) rfl, (srt_byS h a).nodup⟩) (srt_byS (srt_putS h o a) a).nodup).2 (fun q => ?_)
    rw [mem_byS, mem_putS, List.mem_cons, mem_byS]
    constructor
    · rintro (rfl | h3)
      · exact Or.inr ⟨rfl, ha⟩
      · exact Or.inl ⟨h3, hm _ h3⟩
    · rintro (⟨h3, _⟩ | ⟨h3, _⟩)
      · exact Or.inr h3
      · exact Or.inl (Prod.mk.inj h3).1
  exact h2.map (fun o => (o, ()))
/-- One pair more, and its owner in the set of its address. -/
theorem CrAt.named {w w5 : World} {E : Nat → Prop} {b bn bo sb : Nat} {l : List Ref} {A A' : List (Int × Nat)} {sv : Option Nat} (h : CrAt w E b l bn bo A sv) {o : Own} {a : Int} (hO : OkO o) (ha : a ≠ 0) (hI : I64 a ∧ 0 ≤ a) (hm : ∀ r ∈ l, r.1 ≠ o)
    (hn : MapIs encO OkO encI w5 bn ((o, a) :: l.filter (fun p => decide (p.1 ≠ o)))) (ho : MapIs encI I64 encM w5 bo A') (hset : MapIs encO OkO encE w5 sb ((o, ()) :: (setL (byS l a)).filter (fun p => decide (p.1 ≠ o))))
    (hA : (A' = A ∧ (a, sb) ∈ A) ∨ (A' = (a, sb) :: A ∧ (∀ p ∈ A, p.1 ≠ a) ∧ w.heap.size ≤ sb ∧ sb < w5.heap.size)) (hT : w.heap.size ≤ w5.heap.size)
    (hk : ∀ k, k < w.heap.size → k ≠ bn → k ≠ bo → k ≠ sb → w5.heap[k]? = w.heap[k]?) : ∃ A', CrAt w5 (ext E w w5) b (putS l o a) bn bo A' sv := by
  have hok : Okl (putS l o a) := h.ok.put hO hI.2 hI.1
  have hof : ofS l o = 0 := ofS_out hm
  obtain ⟨nb1, nb2, nb3⟩ := h.neB
  have hsA : (a, sb) ∈ A' := by rcases hA with ⟨rfl, h1⟩ | ⟨rfl, -⟩; exact h1; simp
  have hold : ∀ p ∈ A', p ≠ (a, sb) → p ∈ A := fun p hp hne => by
    rcases hA with ⟨rfl, -⟩ | ⟨rfl, -⟩
    · exact hp
    · rcases List.mem_cons.1 hp with e | h1
      · exact absurd e hne
      · exact h1
  have hsne : ∀ k, E k → (∀ p ∈ A, p.2 = k → p = (a, sb)) → k = sb → (a, sb) ∈ A := fun k hE _ e => by
    rcases hA with ⟨-, h1⟩ | ⟨-, -, h1, -⟩
    · exact h1
    · have := h.bd k hE; omega
  have hsb : ∀ p ∈ A, p.1 ≠ a → p.2 ≠ sb := fun p hp hne e => by
    rcases hA with ⟨-, h1⟩ | ⟨-, -, h1, -⟩
    · exact hne (by rw [h.inj p hp _ h1 e])
    · have := h.bd _ (h.inS p hp); omega
  have hsbn : sb ≠ bn ∧ sb ≠ bo ∧ sb ≠ b := by
    rcases hA with ⟨-, h1⟩ | ⟨-, -, h1, -⟩
    · exact ⟨(h.neS _ h1).1, (h.neS _ h1).2, fun e => nb3 _ h1 e.symm⟩
    · have := h.bd _ h.inN; have := h.bd _ h.inO; have := h.bd _ h.inB
      refine ⟨?_, ?_, ?_⟩ <;> omega
  have hblk : w5.heap[b]? = w.heap[b]? := hk b (h.bd b h.inB) nb1 nb2 (Ne.symm hsbn.2.2)
  have hneA : ∀ p ∈ A', p ≠ (a, sb) → p.1 ≠ a := fun p hp hne e => by
    rcases hA with ⟨rfl, h1⟩ | ⟨rfl, h1, -⟩
    · exact hne (h.key1 hp h1 e)
    · rcases List.mem_cons.1 hp with e1 | h2
      · exact hne e1
      · exact h1 p h2 e
  have hinj : ∀ p ∈ A', ∀ q ∈ A', p.2 = q.2 → p = q := fun p hp q hq e => by
    by_cases ep : p = (a, sb)
    · by_cases eq : q = (a, sb)
      · rw [ep, eq]
      · rw [ep] at e
        exact absurd e.symm (hsb q (hold q hq eq) (hneA q hq eq))
    · by_cases eq : q = (a, sb)
      · rw [eq] at e
        exact absurd e (hsb p (hold p hp ep) (hneA p hp ep))
      · exact h.inj p (hold p hp ep) q (hold q hq eq) e
  refine ⟨A', ⟨hblk.trans h.blk, hn.perm (perm_put h.ok.srt o ha), ho, fun p hp => ?_, fun c => ?_, hok, h.ne, fun p hp => ?_, hinj, .inl h.inB, .inl h.inN, .inl h.inO, fun p hp => ?_, ext_bd h.bd hT⟩⟩
  · by_cases ep : p = (a, sb)
    · rw [ep]
      exact hset.perm (byS_new h.ok.srt ha hm)
    · have hpA := hold p hp ep
      have hpa := hneA p hp ep
      rw [byS_put_other h.ok.srt (by rw [hof]; exact h.none0 p hpA) hpa]
      exact (h.st p hpA).of_block (fun _ hob => by rw [hk _ (h.bd _ (h.inS p hpA)) (h.neS p hpA).1 (h.neS p hpA).2 (hsb p hpA hpa)]; exact hob)
  · by_cases e : c = a
    · subst e
      refine ⟨fun _ => ⟨_, hsA, rfl⟩, fun _ hx => ?_⟩
      have : o ∈ byS (putS l o c) c := mem_byS.2 (mem_putS.2 (Or.inr ⟨rfl, ha⟩))
      rw [hx] at this; simp at this
    · by_cases e0 : c = 0
      · subst e0
        constructor
        · intro hx
          obtain ⟨q, hq⟩ := List.exists_mem_of_ne_nil _ hx
          have := hok.pos _ (mem_byS.1 hq)
          simp at this
        · rintro ⟨p, hp, e1⟩
          by_cases ep : p = (a, sb)
          · rw [ep] at e1; exact absurd e1 ha
          · exact absurd e1 (h.none0 p (hold p hp ep))
      · rw [byS_put_other h.ok.srt (by rw [hof]; exact e0) e, h.all c]
        constructor
        · rintro ⟨p, hp, e1⟩
          refine ⟨p, ?_, e1⟩
          rcases hA with ⟨rfl, -⟩ | ⟨rfl, -⟩
          · exact hp
          · exact List.mem_cons_of_mem _ hp
        · rintro ⟨p, hp, e1⟩
          exact ⟨p, hold p hp (fun ep => by rw [ep] at e1; exact e e1.symm), e1⟩
  · by_cases ep : p = (a, sb)
    · rw [ep]; exact ⟨hsbn.1, hsbn.2.1⟩
    · exact h.neS p (hold p hp ep)
  · by_cases ep : p = (a, sb)
    · rw [ep]
      rcases hA with ⟨-, h1⟩ | ⟨-, -, h1, h2⟩
      · exact .inl (h.inS _ h1)
      · exact .inr ⟨h1, h2⟩
    · exact .inl (h.inS p (hold p hp ep))
theorem eqNilM (w : World) (k : Nat) : (binOp .eql 83 (.map (some k)) (.map none)).run Try.prog w = .ok (.bool false) w := by kernel_rfl
theorem eqNilN (w : World) : (binOp .eql 83 (.map none) (.map none)).run Try.prog w = .ok (.bool true) w := by kernel_rfl

set_option maxRecDepth 100000 in
set_option maxHeartbeats 2000000 in
theorem name_any {w : World} {E : Nat → Prop} {b bn bo : Nat} {l : List Ref} {A : List (Int × Nat)} {sv : Option Nat} (h : CrAt w E b l bn bo A sv) {o : Own} (hO : OkO o) {a : Int} (hI : I64 a ∧ 0 ≤ a) :
    Calls Try.prog 27 #[.pointer (some ⟨b, 0, none⟩), encO o, .int .i64 a] w fun e w' => e = .returned (.tuple #[]) ∧ Crd E b (putS l o a) bn bo sv w w' := by
  obtain ⟨nb1, nb2, nb3⟩ := h.neB
  have nno := h.ne
  have HH := hide h
  obtain ⟨x, hx⟩ : ∃ x, w.heap.size = x := ⟨_, rfl⟩
  have xb : x ≠ b := by have := h.bd b h.inB; omega
  have xn : x ≠ bn := by have := h.bd bn h.inN; omega
  have xo : x ≠ bo := by have := h.bd bo h.inO; omega
  have HXE : Hid (¬ E x) := hide (fun hE => by have := h.bd x hE; omega)
  clear h nb3
  have eO : encO o = .agg #[.int .i64 o.1, .int .i64 o.2] := rfl
  rw [eO]
  go_enter Try.func27, Try.ntmps27
  go_wp2_with fail
  obtain ⟨w1, hw1⟩ : ∃ w1, w.alloc (.cells #[.int .i64 o.1, .int .i64 o.2] 35) = w1 := ⟨_, rfl⟩
  have hb1 : Below w.heap.size w w1 := by rw [← hw1]; exact (Below.refl _ w).alloc (Nat.le_refl _) _
  have HX : Hid (BoxO w1 x o) := hide (by rw [← hw1, ← hx]; exact boxO_new w o _)
  have HXL : Hid (x < w1.heap.size) := hide (by rw [← hw1]; simp; omega)
  have HW1 : Hid (w.heap.size ≤ w1.heap.size) := hide hb1.size
  have H1 := hide (HH.out.below hb1)
  have HB1 := hide hb1
  rw [hw1]
  clear hw1 hb1
  refine (drop_any (o := o) H1.out hO).mono ?_
  rintro e w2 ⟨rfl, ⟨A0, hc2⟩, ht2⟩
  have HC2 := hide hc2
  have HT2 := hide ht2
  replace HX : Hid (BoxO w2 x o) := hide (by
    have hb := HT2.out.block x HXL.out HXE.out
    have h1 := HX.out
    exact ⟨by unfold World.cell?; rw [hb]; exact h1.1, by unfold World.cell?; rw [hb]; exact h1.2⟩)
  have HT : Hid (Turn E w w2) := hide ((Turn.of_below HB1.out).trans HT2.out (fun _ _ h => h))
  have HX2 : Hid (x < w2.heap.size) := hide (Nat.lt_of_lt_of_le HXL.out HT2.out.size)
  clear hc2 ht2
  by_cases ha : a = 0
  · subst ha
    go_wp2_with fail
    (try simp only [Exit.inBlock, Exit.then]); refine bodyPost_ret (results_none rfl _ _ _) rfl ?_
    exact ⟨rfl, ⟨A0, HC2.out.mono (fun k hk => by rcases hk with h | ⟨h1, h2⟩; exact .inl h; exact .inr ⟨by have := HW1.out; omega, h2⟩) (ext_bd HH.out.bd HT.out.size)⟩, HT.out⟩
  · have hab : (a == 0) = false := by simpa using ha
    have HP0 : Hid (∀ r ∈ putS l o 0, r.1 ≠ o) := hide (fun r hr => by
      rcases mem_putS.1 hr with ⟨_, h2⟩ | ⟨_, h2⟩
      · exact h2
      · exact absurd rfl h2)
    have c1 := HC2.out.c1
    by_cases hex : ∃ p ∈ A0, p.1 = a
    · obtain ⟨⟨a', sb⟩, hp, e⟩ := hex
      simp only at e
      subst e
      have HA3 := hide hp
      have lk := HC2.out.ow.look_in (P := Try.prog) KI uA hp false
      simp only [Bool.false_eq_true, if_false, encI, encM] at lk
      have eq := eqNilM w2 sb
      obtain ⟨ns1, ns2⟩ := HC2.out.neS _ hp
      have nb4 := HC2.out.neB.2.2 _ hp
      simp only at ns1 ns2 nb4
      have xs : x ≠ sb := fun e => by
        have hE := HC2.out.inS _ hp
        simp only at hE
        rw [← e] at hE
        rcases hE with h | ⟨h, -⟩
        · exact HXE.out h
        · have := HXL.out; omega
      clear hp
      go_wp2_with fail
      obtain ⟨w3, hw3⟩ : ∃ w3, w2 = w3 := ⟨_, rfl⟩
      obtain ⟨A3, hA3⟩ : ∃ A3, A0 = A3 := ⟨_, rfl⟩
      have HB3 : Hid (w3.heap[b]? = some (.cells #[.map (some bn), .map (some bo), .map sv] 65 (0, 0))) := hide (by rw [← hw3]; exact HC2.out.blk)
      have HO3 : Hid (MapIs encI I64 encM w3 bo A3) := hide (by rw [← hw3, ← hA3]; exact HC2.out.ow)
      have HN3 : Hid (MapIs encO OkO encI w3 bn (putS l o 0)) := hide (by rw [← hw3]; exact HC2.out.nm)
      have HS3 : Hid (MapIs encO OkO encE w3 sb (setL (byS (putS l o 0) a'))) := hide (by rw [← hw3]; exact HC2.out.st _ HA3.out)
      have HT3 : Hid (Turn E w w3) := hide (by rw [← hw3]; exact HT.out)
      have HQ3 : Hid (∀ k, k < w2.heap.size → k ≠ bo → w3.heap[k]? = w2.heap[k]?) := hide (by rw [← hw3]; exact fun _ _ _ => rfl)
      have HZ3 : Hid (w2.heap.size ≤ w3.heap.size) := hide (by rw [← hw3]; exact Nat.le_refl _)
      have HE3 : Hid (E sb ∨ w.heap.size ≤ sb) := hide (by
        rcases HC2.out.inS _ HA3.out with h | ⟨h, -⟩
        · exact .inl h
        · exact .inr (by simp only at h; have := HW1.out; omega))
      replace HX : Hid (BoxO w3 x o) := hide (by rw [← hw3]; exact HX.out)
      rw [hw3]
      subst hA3
      clear lk c1 eq
      have HC0 : Hid (w3.cell? ⟨b, 0, none⟩ = some (.map (some bn))) := hide (cell_of HB3.out rfl)
      have HC1 : Hid (w3.cell? ⟨b, 1, none⟩ = some (.map (some bo))) := hide (cell_of HB3.out rfl)
      have HL : Hid (∀ wx, Keep sb w3 wx → (Instr.lookup 63 (.map (some bo)) (.int .i64 a') false).run Try.prog wx = .ok (.map (some sb)) wx) := hide (fun wx hk => (hk.map (Ne.symm ns2) HO3.out).look_in KI uA HA3.out false)
      obtain ⟨w4, hd, hm4, hg4, hk4⟩ := (MapIs.of_block (w' := w3.drew) HS3.out (fun _ h => h)).store KO uS (a := o) hO ()
      have HD := hide hd
      have HM4 := hide hm4
      have HG4 := hide hg4
      have HK : Hid (Keep sb w3 w4) := hide hk4
      clear hd hm4 hg4 hk4
      have NB := nb4
      have NX := xs
      go_wp2_with fail
      refine wp_region_held_drew (S := Keep sb w3) (by kernel_rfl) (Keep.drew _ _) (fun hS => ?_)
      refine take_want 0 (some 24) (.pointer (some ⟨b, 0, none⟩)) rfl rfl rfl (by kernel_rfl) (by kernel_rfl) (by kernel_rfl) (fun _ _ _ h => h) (fun wx hx => exec_move rfl rfl) hS ?_
      simp only [Act.put, List.setIfInBounds_toArray, List.set_cons_zero, List.set_cons_succ]
      refine take_want 1 (some 25) (.pointer (some ⟨b, 0, none⟩)) rfl rfl rfl (by kernel_rfl) (by kernel_rfl) (by kernel_rfl) (fun _ _ _ h => h) (fun wx hx => exec_nilCheck rfl rfl) hS ?_
      simp only [Act.put, List.setIfInBounds_toArray, List.set_cons_zero, List.set_cons_succ]
      refine take_want 2 (some 26) (.pointer (some ⟨b, 1, none⟩)) rfl rfl rfl (by kernel_rfl) (by kernel_rfl) (by kernel_rfl) (fun _ _ _ h => h) (fun wx hx => exec_field rfl (fld1 _ wx) rfl) hS ?_
      simp only [Act.put, List.setIfInBounds_toArray, List.set_cons_zero, List.set_cons_succ]
      refine take_want 3 (some 27) (.map (some bo)) rfl rfl rfl (by kernel_rfl) (by kernel_rfl) (by kernel_rfl) (fun _ _ _ h => h) (fun wx hx => exec_load rfl (load_mapA (hx.cell NB HC1.out)) rfl) hS ?_
      simp only [Act.put, List.setIfInBounds_toArray, List.set_cons_zero, List.set_cons_succ]
      refine take_want 4 (some 28) (.int .i64 a') rfl rfl rfl (by kernel_rfl) (by kernel_rfl) (by kernel_rfl) (fun _ _ _ h => h) (fun wx hx => exec_move rfl rfl) hS ?_
      simp only [Act.put, List.setIfInBounds_toArray, List.set_cons_zero, List.set_cons_succ]
      refine take_want 5 (some 29) (.map (some sb)) rfl rfl rfl (by kernel_rfl) (by kernel_rfl) (by kernel_rfl) (fun _ _ _ h => h) (fun wx hx => exec_lookup rfl (HL.out wx hx) rfl rfl) hS ?_
      simp only [Act.put, List.setIfInBounds_toArray, List.set_cons_zero, List.set_cons_succ]
      refine take_want 6 (some 30) (encO o) rfl rfl rfl (by kernel_rfl) (by kernel_rfl) (by kernel_rfl) (fun _ _ _ h => h) (fun wx hx => exec_load rfl (hx.boxO NX HX.out).load rfl) hS ?_
      simp only [Act.put, List.setIfInBounds_toArray, List.set_cons_zero, List.set_cons_succ]
      refine take_want 7 (some 31) (encE ()) rfl rfl rfl (by kernel_rfl) (by kernel_rfl) (by kernel_rfl) (fun _ _ _ h => h) (fun wx hx => exec_build0 rfl (buildE wx)) hS ?_
      simp only [Act.put, List.setIfInBounds_toArray, List.set_cons_zero, List.set_cons_succ]
      refine only_skip 8 none rfl rfl rfl (by kernel_rfl) (exec_update rfl HD.out rfl rfl rfl) HK.out ?_
      simp only [Act.put]
      refine wpAnyH_done (by kernel_rfl) ?_ _
      clear HD hS HL NB NX HC1
      replace HC0 : Hid (w4.cell? ⟨b, 0, none⟩ = some (.map (some bn))) := hide (HK.out.cell nb4 HC0.out)
      replace HX : Hid (BoxO w4 x o) := hide (HK.out.boxO xs HX.out)
      have HN4 : Hid (MapIs encO OkO encI w4 bn (putS l o 0)) := hide (HK.out.map (Ne.symm ns1) HN3.out)
      have HO4 : Hid (MapIs encI I64 encM w4 bo A0) := hide (HK.out.map (Ne.symm ns2) HO3.out)
      have HB4 : Hid (Keep sb w3 w4) := HK
      clear HK
      obtain ⟨w5, hd, hm5, hg5, hk5⟩ := (MapIs.of_block (w' := w4.drew) HN4.out (fun _ h => h)).store KO uN (a := o) hO a'
      have HD := hide hd
      have HM5 := hide hm5
      have HG5 := hide hg5
      have HK : Hid (Keep bn w4 w5) := hide hk5
      clear hd hm5 hg5 hk5
      have NB := nb1
      have NX := xn
      go_wp2_with fail
      refine wp_region_held_drew (S := Keep bn w4) (by kernel_rfl) (Keep.drew _ _) (fun hS => ?_)
      refine take_want 0 (some 32) (.pointer (some ⟨b, 0, none⟩)) rfl rfl rfl (by kernel_rfl) (by kernel_rfl) (by kernel_rfl) (fun _ _ _ h => h) (fun wx hx => exec_move rfl rfl) hS ?_
      simp only [Act.put, List.setIfInBounds_toArray, List.set_cons_zero, List.set_cons_succ]
      refine take_want 1 (some 33) (.pointer (some ⟨b, 0, none⟩)) rfl rfl rfl (by kernel_rfl) (by kernel_rfl) (by kernel_rfl) (fun _ _ _ h => h) (fun wx hx => exec_nilCheck rfl rfl) hS ?_
      simp only [Act.put, List.setIfInBounds_toArray, List.set_cons_zero, List.set_cons_succ]
      refine take_want 2 (some 34) (.pointer (some ⟨b, 0, none⟩)) rfl rfl rfl (by kernel_rfl) (by kernel_rfl) (by kernel_rfl) (fun _ _ _ h => h) (fun wx hx => exec_field rfl (fld0 _ wx) rfl) hS ?_
      simp only [Act.put, List.setIfInBounds_toArray, List.set_cons_zero, List.set_cons_succ]
      refine take_want 3 (some 35) (.map (some bn)) rfl rfl rfl (by kernel_rfl) (by kernel_rfl) (by kernel_rfl) (fun _ _ _ h => h) (fun wx hx => exec_load rfl (load_mapN (hx.cell NB HC0.out)) rfl) hS ?_
      simp only [Act.put, List.setIfInBounds_toArray, List.set_cons_zero, List.set_cons_succ]
      refine take_want 4 (some 36) (encO o) rfl rfl rfl (by kernel_rfl) (by kernel_rfl) (by kernel_rfl) (fun _ _ _ h => h) (fun wx hx => exec_load rfl (hx.boxO NX HX.out).load rfl) hS ?_
      simp only [Act.put, List.setIfInBounds_toArray, List.set_cons_zero, List.set_cons_succ]
      refine take_want 5 (some 37) (.int .i64 a') rfl rfl rfl (by kernel_rfl) (by kernel_rfl) (by kernel_rfl) (fun _ _ _ h => h) (fun wx hx => exec_move rfl rfl) hS ?_
      simp only [Act.put, List.setIfInBounds_toArray, List.set_cons_zero, List.set_cons_succ]
      refine only_skip 6 none rfl rfl rfl (by kernel_rfl) (exec_update rfl HD.out rfl rfl rfl) HK.out ?_
      simp only [Act.put]
      refine wpAnyH_done (by kernel_rfl) ?_ _
      clear HD hS NB NX HC0
      go_wp2_with fail
      go_end0
      have t5 : Turn E w w5 := (HT3.out.drew.grown HG4.out (HE3.out)).drew.grown HG5.out (.inl HH.out.inN)
      have hk5 : ∀ k, k < w2.heap.size → k ≠ bn → k ≠ bo → k ≠ sb → w5.heap[k]? = w2.heap[k]? := fun k hk h1 h2 h3 => by rw [HK.out k h1, HB4.out k h3, HQ3.out k hk h2]
      have hs5 : w3.heap.size ≤ w5.heap.size := Nat.le_trans HG4.out.size HG5.out.size
      refine ⟨rfl, ?_, t5⟩
      have := HC2.out.named (o := o) (a := a') hO ha hI HP0.out (A' := A0) (sb := sb) HM5.out (HK.out.map (Ne.symm nno) HO4.out) (HK.out.map ns1 HM4.out) (.inl ⟨rfl, HA3.out⟩) (Nat.le_trans HZ3.out hs5) hk5
      rw [putS_put HH.out.ok.srt] at this
      obtain ⟨A9, h9⟩ := this
      exact ⟨A9, h9.mono (fun k hk => ext_ext HW1.out HT2.out.size (Nat.le_trans HZ3.out hs5) k hk) (ext_bd HH.out.bd t5.size)⟩

    · have hna : ∀ p ∈ A0, p.1 ≠ a := fun p hp e => hex ⟨p, hp, e⟩
      have HNA := hide hna
      have lk := HC2.out.ow.look_out (P := Try.prog) KI uA (zeroS _) hI.1 hna false
      simp only [Bool.false_eq_true, if_false, encI] at lk
      have eq := eqNilN w2
      have hmm := @run_makeMap Try.prog
      obtain ⟨sb, hsb⟩ : ∃ sb, w2.heap.size = sb := ⟨_, rfl⟩
      obtain ⟨w2a, hw2a⟩ : ∃ w2a, w2.alloc (.map #[] 0) = w2a := ⟨_, rfl⟩
      have hb2a : Below w2.heap.size w2 w2a := by rw [← hw2a]; exact (Below.refl _ w2).alloc (Nat.le_refl _) _
      obtain ⟨w3, hd, hm3, hg3, hk3⟩ := (HC2.out.below hb2a).ow.store KI uA (a := a) hI.1 sb
      have hmade : MapIs encO OkO encE w2a sb [] := by rw [← hw2a, ← hsb]; exact MapIs.made _ _ _ _
      simp only [encI, encM] at hd
      rw [filter_out hna] at hm3
      have c1a : w2a.cell? ⟨b, 1, none⟩ = some (.map (some bo)) := (HC2.out.below hb2a).c1
      have ns1 : sb ≠ bn := by have := HC2.out.nm.lt; omega
      have ns2 : sb ≠ bo := by have := HC2.out.ow.lt; omega
      have nb4 : b ≠ sb := by have := heap_lt HC2.out.blk; omega
      have xs : x ≠ sb := by have := HX2.out; omega
      obtain ⟨A3, hA3⟩ : ∃ A3, (a, sb) :: A0 = A3 := ⟨_, rfl⟩
      rw [hA3] at hm3
      have HB3 : Hid (w3.heap[b]? = some (.cells #[.map (some bn), .map (some bo), .map sv] 65 (0, 0))) := hide ((hk3 b nb2).trans (HC2.out.below hb2a).blk)
      have HO3 : Hid (MapIs encI I64 encM w3 bo A3) := hide hm3
      have HA3 : Hid ((a, sb) ∈ A3) := hide (by rw [← hA3]; simp)
      have HN3 : Hid (MapIs encO OkO encI w3 bn (putS l o 0)) := hide (hk3.map nno (HC2.out.below hb2a).nm)
      have HS3 : Hid (MapIs encO OkO encE w3 sb (setL (byS (putS l o 0) a))) := hide (by
        have e0 : byS (putS l o 0) a = [] := Classical.byContradiction (fun hx => hex ((HC2.out.all a).1 hx))
        rw [e0]; exact hk3.map ns2 hmade)
      have HT3 : Hid (Turn E w w3) := hide ((HT.out.trans (Turn.of_below (F := fun _ => False) hb2a) (fun _ _ h => h.elim)).grown hg3 (.inl HH.out.inO))
      have HQ3 : Hid (∀ k, k < w2.heap.size → k ≠ bo → w3.heap[k]? = w2.heap[k]?) := hide (fun k hk h1 => by rw [hk3 k h1, hb2a.block k hk])
      have HZ3 : Hid (w2.heap.size ≤ w3.heap.size) := hide (Nat.le_trans hb2a.size hg3.size)
      have HE3 : Hid (w.heap.size ≤ sb) := hide (by have := HT.out.size; omega)
      have HSZ : Hid (w2.heap.size ≤ sb) := hide (by omega)
      have HSL : Hid (sb < w3.heap.size) := hide (Nat.lt_of_lt_of_le (by rw [← hw2a]; simp; omega) hg3.size)
      have HX9 : Hid (BoxO w3 x o) := hide (hk3.boxO xo (by
        have hb := hb2a.block x HX2.out
        have h1 := HX.out
        exact ⟨by unfold World.cell?; rw [hb]; exact h1.1, by unfold World.cell?; rw [hb]; exact h1.2⟩))
      clear hmade hm3 hg3 hk3 hna hex
      go_wp2_with fail
      clear HX
      have HX := HX9
      clear HX9
      clear lk c1 eq hd c1a hmm
      have HC0 : Hid (w3.cell? ⟨b, 0, none⟩ = some (.map (some bn))) := hide (cell_of HB3.out rfl)
      have HC1 : Hid (w3.cell? ⟨b, 1, none⟩ = some (.map (some bo))) := hide (cell_of HB3.out rfl)
      have HL : Hid (∀ wx, Keep sb w3 wx → (Instr.lookup 63 (.map (some bo)) (.int .i64 a) false).run Try.prog wx = .ok (.map (some sb)) wx) := hide (fun wx hk => (hk.map (Ne.symm ns2) HO3.out).look_in KI uA HA3.out false)
      obtain ⟨w4, hd, hm4, hg4, hk4⟩ := (MapIs.of_block (w' := w3.drew) HS3.out (fun _ h => h)).store KO uS (a := o) hO ()
      have HD := hide hd
      have HM4 := hide hm4
      have HG4 := hide hg4
      have HK : Hid (Keep sb w3 w4) := hide hk4
      clear hd hm4 hg4 hk4
      have NB := nb4
      have NX := xs
      go_wp2_with fail
      refine wp_region_held_drew (S := Keep sb w3) (by kernel_rfl) (Keep.drew _ _) (fun hS => ?_)
      refine take_want 0 (some 24) (.pointer (some ⟨b, 0, none⟩)) rfl rfl rfl (by kernel_rfl) (by kernel_rfl) (by kernel_rfl) (fun _ _ _ h => h) (fun wx hx => exec_move rfl rfl) hS ?_
      simp only [Act.put, List.setIfInBounds_toArray, List.set_cons_zero, List.set_cons_succ]
      refine take_want 1 (some 25) (.pointer (some ⟨b, 0, none⟩)) rfl rfl rfl (by kernel_rfl) (by kernel_rfl) (by kernel_rfl) (fun _ _ _ h => h) (fun wx hx => exec_nilCheck rfl rfl) hS ?_
      simp only [Act.put, List.setIfInBounds_toArray, List.set_cons_zero, List.set_cons_succ]
      refine take_want 2 (some 26) (.pointer (some ⟨b, 1, none⟩)) rfl rfl rfl (by kernel_rfl) (by kernel_rfl) (by kernel_rfl) (fun _ _ _ h => h) (fun wx hx => exec_field rfl (fld1 _ wx) rfl) hS ?_
      simp only [Act.put, List.setIfInBounds_toArray, List.set_cons_zero, List.set_cons_succ]
      refine take_want 3 (some 27) (.map (some bo)) rfl rfl rfl (by kernel_rfl) (by kernel_rfl) (by kernel_rfl) (fun _ _ _ h => h) (fun wx hx => exec_load rfl (load_mapA (hx.cell NB HC1.out)) rfl) hS ?_
      simp only [Act.put, List.setIfInBounds_toArray, List.set_cons_zero, List.set_cons_succ]
      refine take_want 4 (some 28) (.int .i64 a) rfl rfl rfl (by kernel_rfl) (by kernel_rfl) (by kernel_rfl) (fun _ _ _ h => h) (fun wx hx => exec_move rfl rfl) hS ?_
      simp only [Act.put, List.setIfInBounds_toArray, List.set_cons_zero, List.set_cons_succ]
      refine take_want 5 (some 29) (.map (some sb)) rfl rfl rfl (by kernel_rfl) (by kernel_rfl) (by kernel_rfl) (fun _ _ _ h => h) (fun wx hx => exec_lookup rfl (HL.out wx hx) rfl rfl) hS ?_
      simp only [Act.put, List.setIfInBounds_toArray, List.set_cons_zero, List.set_cons_succ]
      refine take_want 6 (some 30) (encO o) rfl rfl rfl (by kernel_rfl) (by kernel_rfl) (by kernel_rfl) (fun _ _ _ h => h) (fun wx hx => exec_load rfl (hx.boxO NX HX.out).load rfl) hS ?_
      simp only [Act.put, List.setIfInBounds_toArray, List.set_cons_zero, List.set_cons_succ]
      refine take_want 7 (some 31) (encE ()) rfl rfl rfl (by kernel_rfl) (by kernel_rfl) (by kernel_rfl) (fun _ _ _ h => h) (fun wx hx => exec_build0 rfl (buildE wx)) hS ?_
      simp only [Act.put, List.setIfInBounds_toArray, List.set_cons_zero, List.set_cons_succ]
      refine only_skip 8 none rfl rfl rfl (by kernel_rfl) (exec_update rfl HD.out rfl rfl rfl) HK.out ?_
      simp only [Act.put]
      refine wpAnyH_done (by kernel_rfl) ?_ _
      clear HD hS HL NB NX HC1
      replace HC0 : Hid (w4.cell? ⟨b, 0, none⟩ = some (.map (some bn))) := hide (HK.out.cell nb4 HC0.out)
      replace HX : Hid (BoxO w4 x o) := hide (HK.out.boxO xs HX.out)
      have HN4 : Hid (MapIs encO OkO encI w4 bn (putS l o 0)) := hide (HK.out.map (Ne.symm ns1) HN3.out)
      have HO4 : Hid (MapIs encI I64 encM w4 bo A3) := hide (HK.out.map (Ne.symm ns2) HO3.out)
      have HB4 : Hid (Keep sb w3 w4) := HK
      clear HK
      obtain ⟨w5, hd, hm5, hg5, hk5⟩ := (MapIs.of_block (w' := w4.drew) HN4.out (fun _ h => h)).store KO uN (a := o) hO a
      have HD := hide hd
      have HM5 := hide hm5
      have HG5 := hide hg5
      have HK : Hid (Keep bn w4 w5) := hide hk5
      clear hd hm5 hg5 hk5
      have NB := nb1
      have NX := xn
      go_wp2_with fail
      refine wp_region_held_drew (S := Keep bn w4) (by kernel_rfl) (Keep.drew _ _) (fun hS => ?_)
      refine take_want 0 (some 32) (.pointer (some ⟨b, 0, none⟩)) rfl rfl rfl (by kernel_rfl) (by kernel_rfl) (by kernel_rfl) (fun _ _ _ h => h) (fun wx hx => exec_move rfl rfl) hS ?_
      simp only [Act.put, List.setIfInBounds_toArray, List.set_cons_zero, List.set_cons_succ]
      refine take_want 1 (some 33) (.pointer (some ⟨b, 0, none⟩)) rfl rfl rfl (by kernel_rfl) (by kernel_rfl) (by kernel_rfl) (fun _ _ _ h => h) (fun wx hx => exec_nilCheck rfl rfl) hS ?_
      simp only [Act.put, List.setIfInBounds_toArray, List.set_cons_zero, List.set_cons_succ]
      refine take_want 2 (some 34) (.pointer (some ⟨b, 0, none⟩)) rfl rfl rfl (by kernel_rfl) (by kernel_rfl) (by kernel_rfl) (fun _ _ _ h => h) (fun wx hx => exec_field rfl (fld0 _ wx) rfl) hS ?_
      simp only [Act.put, List.setIfInBounds_toArray, List.set_cons_zero, List.set_cons_succ]
      refine take_want 3 (some 35) (.map (some bn)) rfl rfl rfl (by kernel_rfl) (by kernel_rfl) (by kernel_rfl) (fun _ _ _ h => h) (fun wx hx => exec_load rfl (load_mapN (hx.cell NB HC0.out)) rfl) hS ?_
      simp only [Act.put, List.setIfInBounds_toArray, List.set_cons_zero, List.set_cons_succ]
      refine take_want 4 (some 36) (encO o) rfl rfl rfl (by kernel_rfl) (by kernel_rfl) (by kernel_rfl) (fun _ _ _ h => h) (fun wx hx => exec_load rfl (hx.boxO NX HX.out).load rfl) hS ?_
      simp only [Act.put, List.setIfInBounds_toArray, List.set_cons_zero, List.set_cons_succ]
      refine take_want 5 (some 37) (.int .i64 a) rfl rfl rfl (by kernel_rfl) (by kernel_rfl) (by kernel_rfl) (fun _ _ _ h => h) (fun wx hx => exec_move rfl rfl) hS ?_
      simp only [Act.put, List.setIfInBounds_toArray, List.set_cons_zero, List.set_cons_succ]
      refine only_skip 6 none rfl rfl rfl (by kernel_rfl) (exec_update rfl HD.out rfl rfl rfl) HK.out ?_
      simp only [Act.put]
      refine wpAnyH_done (by kernel_rfl) ?_ _
      clear HD hS NB NX HC0
      go_wp2_with fail
      go_end0
      have t5 : Turn E w w5 := (HT3.out.drew.grown HG4.out (.inr HE3.out)).drew.grown HG5.out (.inl HH.out.inN)
      have hk5 : ∀ k, k < w2.heap.size → k ≠ bn → k ≠ bo → k ≠ sb → w5.heap[k]? = w2.heap[k]? := fun k hk h1 h2 h3 => by rw [HK.out k h1, HB4.out k h3, HQ3.out k hk h2]
      have hs5 : w3.heap.size ≤ w5.heap.size := Nat.le_trans HG4.out.size HG5.out.size
      refine ⟨rfl, ?_, t5⟩
      have := HC2.out.named (o := o) (a := a) hO ha hI HP0.out (A' := A3) (sb := sb) HM5.out (HK.out.map (Ne.symm nno) HO4.out) (HK.out.map ns1 HM4.out) (.inr ⟨hA3.symm, HNA.out, HSZ.out, Nat.lt_of_lt_of_le HSL.out hs5⟩) (Nat.le_trans HZ3.out hs5) hk5
      rw [putS_put HH.out.ok.srt] at this
      obtain ⟨A9, h9⟩ := this
      exact ⟨A9, h9.mono (fun k hk => ext_ext HW1.out HT2.out.size (Nat.le_trans HZ3.out hs5) k hk) (ext_bd HH.out.bd t5.size)⟩

end Go.Proofs.Ytjopdejgijojmaa
