import Derived.Test.YtliboiajhhnajaaGreatDoorM16
/- The document's own disk: made, grown, asked. -/
namespace Go.Proofs.YtliboiajhhnajaaGreatDoor
open Go.RowKit Go.Extern

theorem infoRS : (Tryz.prog.info? 96).map (·.size) = some 2 := by kernel_rfl
def Zeroed (w : World) (e : Ending) (w' : World) : Prop := ∃ u, e = .returned (.agg #[u, .bool false]) ∧ HadG (fun k => w.heap.size ≤ k ∧ k < w'.heap.size) w' u [zeros] ∧ Below w.heap.size w w' ∧ ∃ g, u = .slice (some ⟨g, 0, none⟩) 1 1

set_option maxRecDepth 100000 in
set_option maxHeartbeats 2000000 in
theorem zero_any (w : World) : Calls Tryz.prog 79 #[] w (Zeroed w) := by
  obtain ⟨w2, m1, m2, m3, m4⟩ := made (w.alloc (.cells #[.slice none 0 0, .bool false] 96))
  have e1 : (w.alloc (.cells #[.slice none 0 0, .bool false] 96)).heap.size = w.heap.size + 1 := by simp
  rw [e1] at m1 m2 m4
  have hb0 : w2.heap[w.heap.size]? = some (.cells #[.slice none 0 0, .bool false] 96 (0, 0)) := by rw [m3.block _ (by rw [e1]; omega)]; exact heap_alloc_new w _
  have hb3 : Below w2.heap.size w2 (w2.alloc (.cells #[.slice (some ⟨w.heap.size + 1, 0, none⟩) 128 128] 28)) := (Below.refl _ _).alloc (Nat.le_refl _) _
  have hb4 : (w2.alloc (.cells #[.slice (some ⟨w.heap.size + 1, 0, none⟩) 128 128] 28)).heap[w.heap.size]? = some (.cells #[.slice none 0 0, .bool false] 96 (0, 0)) := by rw [hb3.block _ (heap_lt hb0)]; exact hb0
  have c0 := two_cell0 hb4
  have c1 := two_cell1 hb4
  have f0 := row_frozen hb4 0
  have f1 := row_frozen hb4 1
  have HM2 := hide m2
  have HM3 := hide m3
  have HM4 := hide m4
  have HB4 := hide hb4
  clear m2 m3 m4 hb0 hb3 hb4
  go_enter Tryz.func79, Tryz.ntmps79
  go_wp2_with fail
  have h6 : (((w2.alloc (.cells #[.slice (some ⟨w.heap.size + 1, 0, none⟩) 128 128] 28)).setCell ⟨w.heap.size, 0, none⟩ (.slice (some ⟨w2.heap.size, 0, none⟩) 1 1)).setCell ⟨w.heap.size, 1, none⟩ (.bool false)).heap[w.heap.size]? = some (.cells #[.slice (some ⟨w2.heap.size, 0, none⟩) 1 1, .bool false] 96 (0, 0)) := two_set1 _ (two_set0 _ HB4.out)
  have HK : Hid (∀ k, k ≠ w.heap.size → (((w2.alloc (.cells #[.slice (some ⟨w.heap.size + 1, 0, none⟩) 128 128] 28)).setCell ⟨w.heap.size, 0, none⟩ (.slice (some ⟨w2.heap.size, 0, none⟩) 1 1)).setCell ⟨w.heap.size, 1, none⟩ (.bool false)).heap[k]? = (w2.alloc (.cells #[.slice (some ⟨w.heap.size + 1, 0, none⟩) 128 128] 28)).heap[k]?) := fun k hk => by
    rw [Below.heap_setCell _ _ _ _ hk, Below.heap_setCell _ _ _ _ hk]
  have HOS : Hid (Below w.heap.size w (((w2.alloc (.cells #[.slice (some ⟨w.heap.size + 1, 0, none⟩) 128 128] 28)).setCell ⟨w.heap.size, 0, none⟩ (.slice (some ⟨w2.heap.size, 0, none⟩) 1 1)).setCell ⟨w.heap.size, 1, none⟩ (.bool false))) := by
    have hx : Below w.heap.size w (w2.alloc (.cells #[.slice (some ⟨w.heap.size + 1, 0, none⟩) 128 128] 28)) := ((Below.refl _ _).alloc (Nat.le_refl _) _).trans ((HM3.out.mono (by rw [e1]; omega)).trans ((Below.refl _ _).alloc (by rw [HM4.out]; omega) _))
    exact ⟨hx.os, hx.tape, hx.output, by have := hx.size; simpa [World.setCell] using this, fun k hk => by rw [HK.out k (by omega)]; exact hx.block k hk⟩
  have HZZ : Hid ((((w2.alloc (.cells #[.slice (some ⟨w.heap.size + 1, 0, none⟩) 128 128] 28)).setCell ⟨w.heap.size, 0, none⟩ (.slice (some ⟨w2.heap.size, 0, none⟩) 1 1)).setCell ⟨w.heap.size, 1, none⟩ (.bool false)).heap.size = w2.heap.size + 1) := by show _ = _; simp [World.setCell]
  generalize ((w2.alloc (.cells #[.slice (some ⟨w.heap.size + 1, 0, none⟩) 128 128] 28)).setCell ⟨w.heap.size, 0, none⟩ (.slice (some ⟨w2.heap.size, 0, none⟩) 1 1)).setCell ⟨w.heap.size, 1, none⟩ (.bool false) = w6 at h6 HK HOS HZZ ⊢
  have k0 := two_cell0 h6
  have k1 := two_cell1 h6
  clear c0 c1 f0 f1 m1
  refine bodyPost_ret (v := .agg #[.slice (some ⟨w2.heap.size, 0, none⟩) 1 1, .bool false]) (results_cell_row (p := 0) (by kernel_rfl) _ _ w.heap.size 96 #[.slice (some ⟨w2.heap.size, 0, none⟩) 1 1, .bool false] (0, 0) _ rfl h6 Tryz.underlying96 rfl infoRS) rfl ?_
  refine ⟨_, rfl, ?_, HOS.out, _, rfl⟩
  have ho : Own w2 0 (.slice (some ⟨w.heap.size + 1, 0, none⟩) 128 128) zeros := by
    have hz := zeros_con
    refine ⟨⟨by rw [cellsB_length]; simp, .inr ⟨w.heap.size + 1, 128, _, by rw [hz.1], Nat.zero_le _, HM2.out, by rw [hz.1]; exact Nat.le_refl _, by unfold maxLen; decide, by simp [cellsB], ?_⟩⟩, hz.2, by rw [hz.1]; decide⟩
    rw [hz.1, List.take_of_length_le (by simp [cellsB])]
    rfl
  have hone : HadG (fun k => w.heap.size ≤ k ∧ k < w6.heap.size) _ _ [zeros] := HadG.one (G := fun k => w.heap.size ≤ k ∧ k < w6.heap.size) ho (fun k hk => by simp only [Value.ownBlock, Option.some.injEq] at hk; have := HZZ.out; have := HM4.out; omega) ⟨by have := HM4.out; omega, by have := HZZ.out; omega⟩
  exact hone.keep (fun k _ hk => HK.out k (hk.ne HB4.out (by decide) (by decide))) (fun k hk _ => hk)
end Go.Proofs.YtliboiajhhnajaaGreatDoor

/- The document's own disk grows. -/
namespace Go.Proofs.YtliboiajhhnajaaGreatDoor
open Go.RowKit Go.Extern

section
variable {ops : Array Oper} {Q : Exit → Act → World → Prop} {md : Region.Mode} {S : World → Prop}
/-- A read that may come up at any time beside a call and what is made of its answer. -/
theorem load_call_value (i j k : Nat) {oi oj ok : Oper} (di dj dk : Option Tmp) {fuel : Nat} {listed : Array Bool} {a : Act} {w : World} (hi : ops[i]? = some oi) (hj : ops[j]? = some oj) (hk : ops[k]? = some ok) (hdi : oi.dst = di) (hdj : oj.dst = dj) (hdk : ok.dst = dk) (hgi : oi.guard = none) (hgj : oj.guard = none) (hgk : ok.guard = none)
    (hr : Region.ready md ops listed = [i, j]) (hri : Region.ready md ops (listed.setIfInBounds i true) = [j]) (hrij : Region.ready md ops ((listed.setIfInBounds i true).setIfInBounds j true) = [k]) (hrj : Region.ready md ops (listed.setIfInBounds j true) = [i, k]) (hrjk : Region.ready md ops ((listed.setIfInBounds j true).setIfInBounds k true) = [i])
    {vi : Value} {f : FuncId} {args : Array Value} (R : World → Prop)
    (hruni : ∀ b, (b = a ∨ (∃ vj, b = a.put dj vj) ∨ ∃ vj vk, b = (a.put dj vj).put dk vk) → ∀ wx, (wx = w ∨ R wx) → (execOp b.eval oi).run Tryz.prog wx = .ok (.value vi) wx) (hrunj : ∀ b, (b = a ∨ b = a.put di vi) → (execOp b.eval oj).run Tryz.prog w = .ok (.enter f args) w) (hS : S w)
    (hp1 : ∀ vj, (a.put dj vj).put di vi = (a.put di vi).put dj vj) (hp2 : ∀ vj vk, ((a.put dj vj).put dk vk).put di vi = ((a.put di vi).put dj vj).put dk vk)
    (hl1 : (listed.setIfInBounds j true).setIfInBounds i true = (listed.setIfInBounds i true).setIfInBounds j true) (hl2 : ((listed.setIfInBounds j true).setIfInBounds k true).setIfInBounds i true = ((listed.setIfInBounds i true).setIfInBounds j true).setIfInBounds k true)
    (hc : Calls Tryz.prog f args w fun e w' => ∃ vj vk w'', e = .returned vj ∧ S w' ∧ R w' ∧ S w'' ∧ R w'' ∧ (∀ b, (b = a.put dj vj ∨ b = (a.put di vi).put dj vj) → (execOp b.eval ok).run Tryz.prog w' = .ok (.value vk) w'') ∧ wpAnyH Tryz.prog md ops Q S fuel (((listed.setIfInBounds i true).setIfInBounds j true).setIfInBounds k true) (((a.put di vi).put dj vj).put dk vk) w'') : wpAnyH Tryz.prog md ops Q S (fuel + 3) listed a w := by
  subst hdi hdj hdk
  refine wpAnyH_ready hr (by simp) (AllReadyH.cons hi (fun K hK => ?_) (AllReadyH.cons hj (fun K hK => ?_) AllReadyH.nil))
  · refine step_value hgi (hruni a (.inl rfl) w (.inl rfl)) (hK.out _ _ hS (fun _ => ?_))
    refine only_call j oj.dst hj rfl hgj hri (hrunj _ (.inr rfl)) (hc.mono ?_)
    rintro e w' ⟨vj, vk, w'', rfl, h1, -, h3, -, h5, h6⟩
    exact ⟨vj, rfl, h1, only_value k ok.dst hk rfl hgk hrij (h5 _ (.inr rfl)) h3 h6⟩
  · rw [if_pos (by simp [Region.wanted, hgj])]
    unfold Oper.wp
    rw [hrunj a (.inl rfl)]
    refine hc.mono ?_
    rintro e w' ⟨vj, vk, w'', rfl, h1, h2, h3, h4, h5, h6⟩
    refine hK.out _ _ h1 (fun _ => ?_)
    refine wpAnyH_ready hrj (by simp) (AllReadyH.cons hi (fun K hK => ?_) (AllReadyH.cons hk (fun K hK => ?_) AllReadyH.nil))
    · refine step_value hgi (hruni _ (.inr (.inl ⟨vj, rfl⟩)) w' (.inr h2)) (hK.out _ _ h1 (fun _ => ?_))
      rw [hp1, hl1]
      exact only_value k ok.dst hk rfl hgk hrij (h5 _ (.inr rfl)) h3 h6
    · refine step_value hgk (h5 _ (.inl rfl)) (hK.out _ _ h3 (fun _ => ?_))
      refine only_value i oi.dst hi rfl hgi hrjk (hruni _ (.inr (.inr ⟨vj, vk, rfl⟩)) w'' (.inr h4)) h3 ?_
      rw [hp2, hl2]; exact h6
end
theorem exec_call0 {ρ : Operand → Value} {o : Oper} {w : World} {f : FuncId} {ts : Array TypeId} (ho : o.op = .call { callee := .value (.func f), args := #[], argTypes := ts }) (hcf : ∀ (args : Array Value) (w : World), (callFunc f args).run Tryz.prog w = .ok (.enter f args) w) (hf : ρ (.func f) = .func (.func f) #[] #[]) : (execOp ρ o).run Tryz.prog w = .ok (.enter f #[]) w := by
  unfold execOp; simp [ho, resolve, Deferred.ofValue, invoke, hf, hcf]
theorem enterZero (args : Array Value) (w : World) : (callFunc 79 args).run Tryz.prog w = .ok (.enter 79 args) w := by kernel_rfl
theorem rfield0 (b : Nat) (w : World) : (Instr.fieldAt 40 (.pointer (some ⟨b, 0, none⟩)) 0).run Tryz.prog w = .ok (.pointer (some ⟨b, 0, none⟩)) w := by kernel_rfl
theorem run_oneR (w : World) (ao : Option Addr) (n c : Nat) (x : Bool) : (Instr.buildSlice 38 1 #[(0, .agg #[.slice ao n c, .bool x])]).run Tryz.prog w = .ok (.slice (some ⟨w.heap.size, 0, none⟩) 1 1) (w.alloc (.cells #[.slice ao n c, .bool x] 96)) := by kernel_rfl
theorem load_rsectors {w : World} {p : Addr} {v : Value} (h : w.cell? p = some v) : (Instr.loadAt 38 (.pointer (some p))).run Tryz.prog w = .ok v w := by go_simp
theorem store_rsectors {w : World} {p : Addr} {v : Value} (x : Option Addr) (n c : Nat) (h : w.cell? p = some v) (hf : w.frozen? p = false) : (Instr.storeAt 38 (.pointer (some p)) (.slice x n c)).run Tryz.prog w = .ok () (w.setCell p (.slice x n c)) := by go_simp
theorem infoRS3 : (Tryz.prog.info? 96).map (fun i => (i.zero, i.size, i.bytes)) = some (some (.agg #[.slice none 0 0, .bool false]), 2, 32) := by kernel_rfl

set_option maxRecDepth 100000 in
theorem more_core {w w1 : World} {G : Nat → Prop} {b : Nat} {v : Value} {T : List (Value × Sec)} (h : RkAt w G b v T) (hlen : T.length < 4096) (hb1 : Below w.heap.size w w1) (ao : Option Addr) (n c : Nat) (hu : HadG (fun k => w.heap.size ≤ k ∧ k < w1.heap.size) w1 (.slice ao n c) [zeros]) :
    ∃ v' w3, (Builtin.append_ #[38, 38] 38 #[v, .slice (some ⟨w1.heap.size, 0, none⟩) 1 1]).run Tryz.prog (w1.alloc (.cells #[.slice ao n c, .bool false] 96)) = .ok v' w3 ∧ (Instr.storeAt 38 (.pointer (some ⟨b, 0, none⟩)) v').run Tryz.prog w3 = .ok () (w3.setCell ⟨b, 0, none⟩ v') ∧
      RkAt (w3.setCell ⟨b, 0, none⟩ v') (ext G w (w3.setCell ⟨b, 0, none⟩ v')) b v' (T ++ [(.slice ao n c, zeroSec)]) ∧ Turn G w (w3.setCell ⟨b, 0, none⟩ v') := by
  have hb2 : Below w.heap.size w (w1.alloc (.cells #[.slice ao n c, .bool false] 96)) := hb1.trans ((Below.refl _ _).alloc hb1.size _)
  have hb12 : Below w1.heap.size w1 (w1.alloc (.cells #[.slice ao n c, .bool false] 96)) := (Below.refl _ _).alloc (Nat.le_refl _) _
  have hnb := heap_alloc_new w1 (.cells #[.slice ao n c, .bool false] 96)
  have h2 := h.below hb2
  have hu2 := hu.keep (G' := fun k => w.heap.size ≤ k ∧ k < w1.heap.size) (w' := w1.alloc (.cells #[.slice ao n c, .bool false] 96)) (fun k _ hk => hb12.block k hk.lt) (fun k hk _ => hk)
  have hs1 := hb1.size
  have hs2 : (w1.alloc (.cells #[.slice ao n c, .bool false] 96)).heap.size = w1.heap.size + 1 := by simp
  generalize w1.alloc (.cells #[.slice ao n c, .bool false] 96) = w2 at hb2 hnb h2 hu2 hs2 ⊢
  obtain ⟨i0, hi, hz0, hz1, hz2⟩ := info_parts infoRS3
  obtain ⟨v', w3, hrun, hown, hg3, -, hloc⟩ := run_append_own_at (P := Tryz.prog) w2 0 38 38 96 i0 (.agg #[.slice none 0 0, .bool false]) 2 32 Tryz.underlying38 hi hz0 hz1 hz2 rfl (by decide) _ _ _ h2.row ⟨w1.heap.size, 0, none⟩ 1 1 [.slice ao n c, .bool false]
    rfl (fun j u hj => by
      rw [Addr.add_mid, cell_of_row w2 _ _ _ _ _ hnb, Nat.zero_add]
      match j, hj with
      | 0, hj => simpa using hj
      | 1, hj => simpa using hj) (by simp [Value.oneCell']) (by unfold maxLen; omega) (by omega) (Nat.zero_le _)
  obtain ⟨ao', cap', hf⟩ := ownsRow_form hown
  have hg : ∀ k, v.ownBlock ≠ some k → k ≠ b → k < w2.heap.size → (w3.setCell ⟨b, 0, none⟩ v').heap[k]? = w2.heap[k]? := fun k h1 h3 h5 => by
    rw [Below.heap_setCell _ _ _ _ h3, hg3.block k h5 (fun e => h1 e.symm)]
  have hvb : v.ownBlock ≠ some b := fun e => by
    obtain ⟨cur, hh⟩ := row_block h2.row e
    rw [h2.blk] at hh; simp at hh
  have hblk3 : w3.heap[b]? = some (.cells #[v] 40 (0, 0)) := by rw [hg3.block b (heap_lt h2.blk) (fun e => hvb e.symm)]; exact h2.blk
  have hv'b : v'.ownBlock ≠ some b := fun e => by
    obtain ⟨cur, hh⟩ := row_block hown e
    rw [hblk3] at hh; simp at hh
  have hby : ∀ k, ByteBlk w2 k → (w3.setCell ⟨b, 0, none⟩ v').heap[k]? = w2.heap[k]? := fun k hk =>
    hg k (fun e => by
      obtain ⟨cur, hh⟩ := row_block h2.row e
      exact hk.ne hh (by decide) (by decide) rfl) (hk.ne h2.blk (by decide) (by decide)) hk.lt
  have hs6 : (w3.setCell ⟨b, 0, none⟩ v').heap.size = w3.heap.size := by simp [World.setCell]
  have hs3 := hg3.size
  refine ⟨v', w3, hrun, ?_, ⟨?_, ?_, fun j q hq => ?_, .inl h.inB, fun k hk => ?_⟩, (Turn.of_below hb2).trans ((Turn.of_grown (F := G) hg3 (fun j hj => h.inV j hj)).trans (F1 := G) ⟨rfl, rfl, rfl, by simp [World.setCell], fun j _ hn => Below.heap_setCell _ _ _ _ (fun e => hn (by rw [e]; exact h.inB))⟩ (fun _ _ h => h)) (fun _ _ h => h)⟩
  · rw [hf]; exact store_rsectors _ _ _ (v := v) (by rw [cell_of_row w3 b _ _ _ _ hblk3]; rfl) (row_frozen hblk3 0)
  · have e1 := setCell_eq_setRow w3 b 0 _ _ _ v' hblk3
    have h1 := setRow_heap w3 b _ (#[v].setIfInBounds 0 v') _ _ hblk3
    rw [← e1] at h1
    rw [h1]; rfl
  · rw [List.length_append, rcells_snoc]
    refine ownsRow_of_block hown fun g o hv hg => ?_
    rw [Below.heap_setCell _ _ _ _ (fun e => hv'b (by have e' : g = b := e; rw [← e']; exact hv))]; exact hg
  · by_cases hl : j < T.length
    · rw [List.getElem?_append_left hl] at hq
      exact (h2.val j q hq).keep (fun k _ hk => hby k hk) (fun k hk _ => .inl hk)
    · rw [List.getElem?_append_right (by omega)] at hq
      have e0 : j - T.length = 0 := by
        have := (List.getElem?_eq_some_iff.1 hq).1
        simpa using this
      rw [e0] at hq
      simp only [List.getElem?_cons_zero, Option.some.injEq] at hq
      subst hq
      exact hu2.keep (fun k _ hk => hby k hk) (fun k hk _ => .inr (by omega))
  · rcases hloc with e | e
    · rw [e] at hk; exact .inl (h.inV k hk)
    · have := (hown.lt k hk).2
      rw [e] at hk
      simp only [Option.some.injEq] at hk
      exact .inr (by omega)

/-- What the document's own disk is behind a call that tells 'r'. -/
def RTurned (G : Nat → Prop) (b : Nat) (S : List Sec) (r : Value) (w : World) (e : Ending) (w' : World) : Prop := e = .returned r ∧ Rk w' (ext G w w') b S ∧ Turn G w w'
theorem ext_refl {G : Nat → Prop} {w : World} {k : Nat} (h : ext G w w k) : G k := by rcases h with h | h; exact h; omega

set_option maxRecDepth 100000 in
set_option maxHeartbeats 2000000 in
theorem more_any {w : World} {G : Nat → Prop} {b : Nat} {S : List Sec} (h : Rk w G b S) (n : Nat) (hn : n + S.length ≤ 4096) :
    Calls Tryz.prog 67 #[.pointer (some ⟨b, 0, none⟩), .int .i64 (n : Int)] w (RTurned G b (S ++ List.replicate n zeroSec) (.tuple #[]) w) := by
  have HR := hide h
  have HN := hide hn
  clear h hn
  go_enter Tryz.func67, Tryz.ntmps67
  go_wp2_with fail
  go_loopg [4] n (fun gk i wr => ∃ j, j + gk = n ∧ i = .int .i64 (j : Int) ∧ Rk wr (ext G w wr) b (S ++ List.replicate j zeroSec) ∧ Turn G w wr)
  case atStart => exact ⟨0, by omega, rfl, by simpa using HR.out.mono (fun _ hk => .inl hk), Turn.refl _ _⟩
  case round =>
    obtain ⟨j, hj, rfl, hdk, htn⟩ := hrel
    have HDK := hide hdk
    have HTN := hide htn
    clear hdk htn
    cases gk with
    | zero =>
      have hend : ¬ (j : Int) < (n : Int) := by omega
      obtain rfl : j = n := by omega
      clear hj
      go_wp2
      go_end0
      exact ⟨rfl, HDK.out, HTN.out⟩
    | succ m =>
      have hlt : (j : Int) < (n : Int) := by omega
      have hjj : (j : Int) + 1 < 4097 := by have := HN.out; omega
      obtain ⟨v, T, hat, hTS⟩ := HDK.out
      go_wp2_with fail
      have hatd := hat.below (w' := wr.drew) (Below.refl _ _).drew
      refine wp_region_held_drew (S := fun _ => True) (by kernel_rfl) trivial (fun _ => ?_)
      refine take_run 0 (some 10) (.pointer (some ⟨b, 0, none⟩)) rfl rfl rfl (by kernel_rfl) (by kernel_rfl) (by kernel_rfl) (fun _ _ _ h => h) (fun wx hx => exec_move rfl rfl) trivial ?_
      simp only [Act.put, List.setIfInBounds_toArray, List.set_cons_zero, List.set_cons_succ]
      refine take_run 1 (some 11) (.pointer (some ⟨b, 0, none⟩)) rfl rfl rfl (by kernel_rfl) (by kernel_rfl) (by kernel_rfl) (fun _ _ _ h => h) (fun wx hx => exec_move rfl rfl) trivial ?_
      simp only [Act.put, List.setIfInBounds_toArray, List.set_cons_zero, List.set_cons_succ]
      refine take_run 2 (some 12) (.pointer (some ⟨b, 0, none⟩)) rfl rfl rfl (by kernel_rfl) (by kernel_rfl) (by kernel_rfl) (fun _ _ _ h => h) (fun wx hx => exec_nilCheck rfl rfl) trivial ?_
      simp only [Act.put, List.setIfInBounds_toArray, List.set_cons_zero, List.set_cons_succ]
      refine take_run 3 (some 13) (.pointer (some ⟨b, 0, none⟩)) rfl rfl rfl (by kernel_rfl) (by kernel_rfl) (by kernel_rfl) (fun _ _ _ h => h) (fun wx hx => exec_field rfl (rfield0 b wx) rfl) trivial ?_
      simp only [Act.put, List.setIfInBounds_toArray, List.set_cons_zero, List.set_cons_succ]
      have HZ := hide (zero_any wr.drew)
      refine load_call_value 4 5 6 (some 14) (some 15) (some 16) rfl rfl rfl rfl rfl rfl rfl rfl rfl (by kernel_rfl) (by kernel_rfl) (by kernel_rfl) (by kernel_rfl) (by kernel_rfl) (vi := v) (fun wx => wx.cell? ⟨b, 0, none⟩ = some v) ?_ ?_ trivial (fun _ => rfl) (fun _ _ => rfl) rfl rfl (HZ.out.mono ?_)
      · rintro a' (rfl | ⟨vj, rfl⟩ | ⟨vj, vk, rfl⟩) wx (rfl | hx)
        · exact exec_load rfl (load_rsectors hatd.cell) rfl
        · exact exec_load rfl (load_rsectors hx) rfl
        · exact exec_load rfl (load_rsectors hatd.cell) rfl
        · exact exec_load rfl (load_rsectors hx) rfl
        · exact exec_load rfl (load_rsectors hatd.cell) rfl
        · exact exec_load rfl (load_rsectors hx) rfl
      · rintro a' (rfl | rfl)
        · exact exec_call0 rfl enterZero rfl
        · exact exec_call0 rfl enterZero rfl
      rintro e w1 ⟨u, rfl, hu, hb1, g, rfl⟩
      have hTl : T.length < 4096 := by
        have e : T.length = (T.map (·.2)).length := by simp
        rw [e, hTS, List.length_append, List.length_replicate]; have := HN.out; omega
      obtain ⟨v', w3, hr3, hst3, hat3, htn3⟩ := more_core hatd hTl hb1 _ _ _ hu
      have hal : Below w1.heap.size w1 (w1.alloc (.cells #[.slice (some ⟨g, 0, none⟩) 1 1, .bool false] 96)) := (Below.refl _ _).alloc (Nat.le_refl _) _
      refine ⟨_, .slice (some ⟨w1.heap.size, 0, none⟩) 1 1, w1.alloc (.cells #[.slice (some ⟨g, 0, none⟩) 1 1, .bool false] 96), rfl, trivial, (hatd.below hb1).cell, trivial, ((hatd.below hb1).below hal).cell, ?_, ?_⟩
      · rintro a' (rfl | rfl)
        · exact exec_one rfl (run_oneR w1 _ _ _ _) rfl
        · exact exec_one rfl (run_oneR w1 _ _ _ _) rfl
      simp only [Act.put, List.setIfInBounds_toArray, List.set_cons_zero, List.set_cons_succ]
      refine only_value 7 (some 17) rfl rfl rfl (by kernel_rfl) (exec_append rfl hr3 rfl rfl) trivial ?_
      simp only [Act.put, List.setIfInBounds_toArray, List.set_cons_zero, List.set_cons_succ]
      refine take_run 8 (some 18) (.pointer (some ⟨b, 0, none⟩)) rfl rfl rfl (by kernel_rfl) (by kernel_rfl) (by kernel_rfl) (fun _ _ _ h => h) (fun wx hx => exec_nilCheck rfl rfl) trivial ?_
      simp only [Act.put, List.setIfInBounds_toArray, List.set_cons_zero, List.set_cons_succ]
      refine take_run 9 (some 19) (.pointer (some ⟨b, 0, none⟩)) rfl rfl rfl (by kernel_rfl) (by kernel_rfl) (by kernel_rfl) (fun _ _ _ h => h) (fun wx hx => exec_field rfl (rfield0 b wx) rfl) trivial ?_
      simp only [Act.put, List.setIfInBounds_toArray, List.set_cons_zero, List.set_cons_succ]
      refine only_skip 10 none rfl rfl rfl (by kernel_rfl) (exec_store rfl hst3 rfl rfl) trivial ?_
      refine wpAnyH_done (by kernel_rfl) ?_ _
      have HD3 : Hid (Rk (w3.setCell ⟨b, 0, none⟩ v') (ext (ext G w wr) wr (w3.setCell ⟨b, 0, none⟩ v')) b (S ++ List.replicate (j + 1) zeroSec)) := ⟨_, _, hat3, by rw [List.map_append, hTS, List.replicate_succ', List.append_assoc]; rfl⟩
      have HT3 : Hid (Turn (ext G w wr) wr (w3.setCell ⟨b, 0, none⟩ v')) := ⟨htn3.os, htn3.tape, htn3.output, htn3.size, htn3.block⟩
      clear hTl hal hat3 htn3 hst3 hr3 hu hb1 HZ hatd hat hTS
      go_wp2_with fail
      go_roundg m
      case measure => omega
      case rel =>
        have hsz := HT3.out.size
        refine ⟨j + 1, by omega, by go_num, HD3.out.mono (fun i hi => ext_ext HTN.out.size hsz i hi), HTN.out.trans HT3.out (fun i hi h => ?_)⟩
        rcases h with h | h
        · exact h
        · omega
end Go.Proofs.YtliboiajhhnajaaGreatDoor
