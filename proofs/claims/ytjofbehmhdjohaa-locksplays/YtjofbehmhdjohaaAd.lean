/- Add. -/
import Derived.Test.YtjofbehmhdjohaaRd
import Derived.Test.YtjofbehmhdjohaaErr
namespace Go.Proofs.Ytjofbehmhdjohaa
open Go.RowKit Go.Extern

theorem up_ge {K : List Int} (hu : Up K) (h1 : ∀ k ∈ K, 1 ≤ k) : ∀ (i : Nat) k, K[i]? = some k → (i : Int) + 1 ≤ k
  | 0, k, h => by have := h1 k (List.mem_of_getElem? h); omega
  | i + 1, k, h => by
    obtain ⟨y, hy⟩ : ∃ y, K[i]? = some y := ⟨K[i]'(by have := (List.getElem?_eq_some_iff.1 h).1; omega), by rw [List.getElem?_eq_getElem]⟩
    have := up_ge hu h1 i y hy
    have := hu.lt hy h (by omega)
    omega
theorem TbAt.short {w : World} {F : Nat → Prop} {b : Nat} {v : Value} {E : List En} {last : Int} (h : TbAt w F b v E last) : (E.length : Int) ≤ last := by
  rcases Nat.eq_zero_or_pos E.length with e | e
  · have := h.lst; omega
  · obtain ⟨y, hy⟩ : ∃ y, E[E.length - 1]? = some y := ⟨E[E.length - 1], by rw [List.getElem?_eq_getElem]⟩
    have := up_ge h.up (fun k hk => by obtain ⟨e, he, rfl⟩ := List.mem_map.1 hk; exact (h.num e he).1) _ _ (num_at hy)
    have := (h.num y (List.mem_of_getElem? hy)).2
    omega
theorem Tb.short {w : World} {F : Nat → Prop} {b : Nat} {E : List En} {last : Int} (h : Tb w F b E last) : (E.length : Int) ≤ last := by obtain ⟨v, h⟩ := h; exact h.short
theorem row_frozen {w : World} {g : Nat} {cs : Array Value} {T : TypeId} (h : w.heap[g]? = some (.cells cs T (0, 0))) (i : Nat) : w.frozen? ⟨g, i, none⟩ = false := by simp [World.frozen?, h]
theorem store_entries {w : World} {b i : Nat} {x : Value} {a : Option Addr} {n c : Nat} (h : w.cell? ⟨b, i, none⟩ = some x) (hf : w.frozen? ⟨b, i, none⟩ = false) : (Instr.storeAt 62 (.pointer (some ⟨b, i, none⟩)) (.slice a n c)).run Try.prog w = .ok () (w.setCell ⟨b, i, none⟩ (.slice a n c)) := by go_simp
theorem litE (w : World) (k : Int) (a : Option Addr) (n c : Nat) : (Instr.buildSlice 62 1 #[(0, .agg #[.int .i64 k, .slice a n c])]).run Try.prog w = .ok (.slice (some ⟨w.heap.size, 0, none⟩) 1 1) (w.alloc (.cells #[.int .i64 k, .slice a n c] 69)) := by kernel_rfl
theorem buildE (w : World) (k : Int) (a : Option Addr) (n c : Nat) : (Instr.build 69 #[(0, .int .i64 k), (1, .slice a n c)]).run Try.prog w = .ok (.agg #[.int .i64 k, .slice a n c]) w := by kernel_rfl
theorem setCell_size (w : World) (a : Addr) (v : Value) : (w.setCell a v).heap.size = w.heap.size := by simp
theorem set_other {w : World} {b i k : Nat} (u : Value) (h : k ≠ b) : (w.setCell ⟨b, i, none⟩ u).heap[k]? = w.heap[k]? := Below.heap_setCell _ _ _ _ h
theorem turn_set {F : Nat → Prop} (w : World) {b i : Nat} (u : Value) (hb : F b) : Turn F w (w.setCell ⟨b, i, none⟩ u) :=
  ⟨rfl, rfl, rfl, by simp, fun k _ hn => set_other u (fun e => hn (by rw [e]; exact hb))⟩
theorem infoEn : (Try.prog.info? 69).map (fun i => (i.zero, i.size, i.bytes)) = some (some (.agg #[.int .i64 0, .slice none 0 0]), 2, 32) := by kernel_rfl
theorem append_en {w : World} {base : Nat} {v : Value} {l : List En} (ty : TypeId) (hown : OwnK enE 2 69 w base v l) {m : List En} {ad : Addr} {cap : Nat} (hs : SrcK w ad (cellsOf enE m)) (hn : l.length + m.length ≤ 1000) (hbase : base ≤ w.heap.size) :
    ∃ v' w', (Builtin.append_ #[62, 62] ty #[v, .slice (some ad) m.length cap]).run Try.prog w = .ok v' w' ∧ GrewK enE 2 69 w v base w' v' (l ++ m) := by
  obtain ⟨i0, hi, hi2⟩ := Option.map_eq_some_iff.1 infoEn
  simp only [Prod.mk.injEq] at hi2
  exact append_k Try.underlying62 hi hi2.1 hi2.2.1 hi2.2.2 rfl (by omega) (by omega) enE_len enE_one hown hs hn hbase
/-- The number given last is one more. -/
theorem TbAt.more {w : World} {F : Nat → Prop} {b : Nat} {v : Value} {E : List En} {last : Int} (h : TbAt w F b v E last) (hl : last + 1 ≤ 900) : TbAt (w.setCell ⟨b, 1, none⟩ (.int .i64 (last + 1))) F b v E (last + 1) := by
  have hne : ∀ k, k ≠ b → (w.setCell ⟨b, 1, none⟩ (.int .i64 (last + 1))).heap[k]? = w.heap[k]? := fun k hk => set_other _ hk
  refine ⟨?_, h.own.same fun k o hv ho => by rw [hne k (h.fv k hv).2]; exact ho, h.fb, h.fv, fun e he => (h.sp e he).keep fun k _ hz => hne k hz.2.1, fun k hf => by rw [setCell_size]; exact h.flt k hf, h.up, fun e he => ⟨(h.num e he).1, by have := (h.num e he).2; omega⟩, by have := h.lst; omega⟩
  have := set_cell_row (j := 1) h.blk (.int .i64 (last + 1))
  simpa using this
/-- What the last steps of Add leave. -/
structure Pushd (w2 : World) (F : Nat → Prop) (B b : Nat) (v : Value) (E : List En) (last : Int) (x : En) (w4 : World) (a : Option Addr) (n c : Nat) : Prop where
  c0 : w4.cell? ⟨b, 0, none⟩ = some v
  f0 : w4.frozen? ⟨b, 0, none⟩ = false
  c1 : w4.cell? ⟨b, 1, none⟩ = some (.int .i64 last)
  tb : Tb (w4.setCell ⟨b, 0, none⟩ (.slice a n c)) (fun k => F k ∨ (B ≤ k ∧ k < w4.heap.size)) b (E ++ [x]) last
  turn : Turn F w2 (w4.setCell ⟨b, 0, none⟩ (.slice a n c))
  c1' : (w4.setCell ⟨b, 0, none⟩ (.slice a n c)).cell? ⟨b, 1, none⟩ = some (.int .i64 last)
theorem TbAt.push {w2 : World} {F : Nat → Prop} {b : Nat} {v : Value} {E : List En} {last : Int} (h : TbAt w2 F b v E last) {x : En} (hx : x.num = last) (hlt : ∀ e ∈ E, e.num < last) {B : Nat} (hB : ∀ k, F k → k < B) (hB2 : B ≤ w2.heap.size) (h1 : 1 ≤ last) (hsp : Sps w2 (fun k => B ≤ k) x.sv x.sps) :
    ∃ a n c w4, (Builtin.append_ #[62, 62] 62 #[v, .slice (some ⟨w2.heap.size, 0, none⟩) 1 1]).run Try.prog (w2.alloc (.cells #[.int .i64 x.num, .slice x.ao x.n x.cap] 69)) = .ok (.slice a n c) w4 ∧ Pushd w2 F B b v E last x w4 a n c := by
  have hA := bel_alloc w2 (.cells #[.int .i64 x.num, .slice x.ao x.n x.cap] 69)
  have hs := h.short
  have hlst := h.lst
  obtain ⟨v', w4, hr, hg⟩ := append_en (m := [x]) (cap := 1) 62 (h.below hA).own (by have := lit_src w2 69 (enE x); simpa [cellsOf, enE] using this) (by simp; omega) (by simp)
  obtain ⟨a, n, c, rfl, -⟩ := hg.own.form
  have hbv : v.ownBlock ≠ some b := fun e => (h.fv b e).2 rfl
  have hb4 : w4.heap[b]? = some (.cells #[v, .int .i64 last] 64 (0, 0)) := hg.block (h.below hA).blk hbv
  have hsz : w2.heap.size + 1 ≤ w4.heap.size := by have := hg.grown.size; simpa using this
  have hne : ∀ k, k ≠ b → (w4.setCell ⟨b, 0, none⟩ (.slice a n c)).heap[k]? = w4.heap[k]? := fun k hk => set_other _ hk
  have hb5 : (w4.setCell ⟨b, 0, none⟩ (.slice a n c)).heap[b]? = some (.cells #[.slice a n c, .int .i64 last] 64 (0, 0)) := by
    have := set_cell_row (j := 0) hb4 (.slice a n c); simpa using this
  have hold : ∀ k, k < w2.heap.size → v.ownBlock ≠ some k → w4.heap[k]? = w2.heap[k]? := fun k hk hn => by
    rw [hg.grown.block k (by simp; omega) (fun e => hn e.symm)]
    exact hA.block k hk
  have hat : ∀ k, (Value.slice a n c).ownBlock = some k → (v.ownBlock = some k ∨ k = w2.heap.size + 1 ) := fun k hk => by
    rcases hg.at_ with e | e
    · left; rw [← e]; exact hk
    · right; rw [e] at hk; simpa using hk.symm
  refine ⟨a, n, c, w4, hr, row_cell hb4 0, row_frozen hb4 0, row_cell hb4 1, ⟨_, hb5, ?_, .inl h.fb, ?_, ?_, ?_, ?_, ?_, h.lst⟩, ?_, row_cell hb5 1⟩
  · exact hg.own.same fun k o hv ho => by
      rw [hne k ?_]
      · exact ho
      · rintro rfl
        rcases hat k hv with e | e
        · exact hbv e
        · have := h.flt k h.fb; omega
  · intro k hk
    rcases hat k hk with e | e
    · exact ⟨.inl (h.fv k e).1, (h.fv k e).2⟩
    · refine ⟨.inr ⟨by omega, by have := (hg.own.lt k hk).2; omega⟩, fun e2 => ?_⟩
      have := h.flt b h.fb; omega
  · intro e he
    rcases List.mem_append.1 he with he | he
    · have h0 := (h.sp e he).keep (w' := w4.setCell ⟨b, 0, none⟩ (.slice a n c)) fun k hk hz => by rw [hne k hz.2.1, hold k hk hz.2.2]
      refine h0.mono fun k hk hz => ⟨.inl hz.1, hz.2.1, fun e2 => ?_⟩
      rcases hat k e2 with e3 | e3
      · exact hz.2.2 e3
      · have := h.flt k hz.1; omega
    · obtain rfl : e = x := by simpa using he
      have hsp2 := hsp.mono (Z' := fun k => B ≤ k ∧ k < w2.heap.size) fun k hk hz => ⟨hz, hk⟩
      have hnb : ∀ k, B ≤ k → k ≠ b := fun k hk e => by have := hB b h.fb; omega
      have hnv : ∀ k, B ≤ k → v.ownBlock ≠ some k := fun k hk e => by have := hB k (h.fv k e).1; omega
      have h0 := hsp2.keep (w' := w4.setCell ⟨b, 0, none⟩ (.slice a n c)) fun k hk hz => by rw [hne k (hnb k hz.1), hold k hk (hnv k hz.1)]
      refine h0.mono fun k hk hz => ⟨.inr ⟨hz.1, by omega⟩, hnb k hz.1, fun e2 => ?_⟩
      rcases hat k e2 with e3 | e3
      · exact hnv k hz.1 e3
      · omega
  · intro k hk
    rw [setCell_size]
    rcases hk with hk | hk
    · have := h.flt k hk; omega
    · exact hk.2
  · unfold Up
    rw [List.map_append, List.pairwise_append]
    refine ⟨h.up, by simp, fun p hp q hq => ?_⟩
    obtain ⟨e, he, rfl⟩ := List.mem_map.1 hp
    have := hlt e he
    simp at hq
    omega
  · intro e he
    rcases List.mem_append.1 he with he | he
    · exact h.num e he
    · obtain rfl : e = x := by simpa using he
      omega
  · have t1 : Turn F w2 (w2.alloc (.cells #[.int .i64 x.num, .slice x.ao x.n x.cap] 69)) := Turn.of_below hA
    have t2 : Turn F (w2.alloc (.cells #[.int .i64 x.num, .slice x.ao x.n x.cap] 69)) w4 := Turn.of_grown hg.grown fun k hk => (h.fv k hk).1
    exact (t1.trans t2 fun _ _ h => h).trans (turn_set w4 _ h.fb) fun _ _ h => h
section
variable {ops : Array Oper} {Q : Exit → Act → World → Prop} {md : Region.Mode} {S : World → Prop}
/-- Of two operations that may come up the first tells a value, the second is a call. -/
theorem value_or_call (i j : Nat) {oi oj : Oper} (di dj : Option Tmp) {fuel : Nat} {listed : Array Bool} {a : Act} {w : World} (hi : ops[i]? = some oi) (hj : ops[j]? = some oj) (hdi : oi.dst = di) (hdj : oj.dst = dj) (hgi : oi.guard = none) (hgj : oj.guard = none)
    (hr : Region.ready md ops listed = [i, j]) {f : FuncId} {args : Array Value} {vi : Value} {wi : World}
    (hruni : (execOp a.eval oi).run Try.prog w = .ok (.value vi) wi) (hrunj : (execOp a.eval oj).run Try.prog w = .ok (.enter f args) w) (hSi : S wi)
    (h : wpAnyH Try.prog md ops Q S fuel (listed.setIfInBounds i true) (a.put di vi) wi)
    (hc : Calls Try.prog f args w fun e w' => ∃ v, e = .returned v ∧ S w' ∧ wpAnyH Try.prog md ops Q S fuel (listed.setIfInBounds j true) (a.put dj v) w') : wpAnyH Try.prog md ops Q S (fuel + 1) listed a w := by
  subst hdi hdj
  refine wpAnyH_ready hr (by simp) (AllReadyH.cons hi (fun K hK => ?_) (AllReadyH.cons hj (fun K hK => ?_) AllReadyH.nil))
  · exact step_value hgi hruni (hK.out _ _ hSi (fun _ => h))
  · rw [if_pos (by simp [Region.wanted, hgj])]
    unfold Oper.wp
    rw [hrunj]
    refine hc.mono ?_
    rintro e w' ⟨v, rfl, hS, h⟩
    exact hK.out _ _ hS (fun _ => h)
end
theorem ext_lt {F : Nat → Prop} {w w' : World} (_hs : w.heap.size ≤ w'.heap.size) (h : ∀ k, F k → k < w'.heap.size) {k : Nat} (hk : ext F w w' k) : k < w'.heap.size := by
  rcases hk with hk | hk
  · exact h k hk
  · exact hk.2
/-- More blocks may be a table's. -/
theorem Tb.refit {w : World} {F F' : Nat → Prop} {b : Nat} {E : List En} {last : Int} (h : Tb w F b E last) (hF : ∀ k, F k → F' k) (hlt : ∀ k, F' k → k < w.heap.size) : Tb w F' b E last := by
  obtain ⟨v, h⟩ := h
  exact ⟨v, h.blk, h.own, hF _ h.fb, fun k hk => ⟨hF _ (h.fv k hk).1, (h.fv k hk).2⟩, fun e he => (h.sp e he).mono fun k _ hz => ⟨hF _ hz.1, hz.2⟩, hlt, h.up, h.num, h.lst⟩
/-- What Add leaves. -/
def Added (w : World) (F : Nat → Prop) (b : Nat) (E : List En) (last : Int) (l : List S) (e : Ending) (w' : World) : Prop :=
  ∃ x : En, e = .returned (.tuple #[.int .i64 (last + 1), .nilIface]) ∧ x.num = last + 1 ∧ x.sps = l ∧ Tb w' (ext F w w') b (E ++ [x]) (last + 1) ∧ Turn F w w'

set_option maxRecDepth 100000 in
theorem add_bad {w : World} {Z : Nat → Prop} {b : Nat} {v : Value} {l : List S} (hv : Sps w Z v l) (hr : l.all rightB = false) :
    Calls Try.prog 14 #[.pointer (some ⟨b, 0, none⟩), v] w fun e w' => e = .returned (.tuple #[.int .i64 0, .iface 66 (.int .i64 20)]) ∧ Below w.heap.size w w' := by
  have hA := allRight_any hv
  rw [hr] at hA
  obtain ⟨a, n, c, rfl, -⟩ := hv.form
  clear hv hr
  go_enter Try.func14, Try.ntmps14
  go_wp2_with fail
  refine hA.mono ?_
  rintro e w1 ⟨rfl, hb⟩
  have HB := hide hb
  clear hb
  go_wp2_with fail
  go_ret2
  exact ⟨rfl, HB.out⟩

set_option maxRecDepth 100000 in
set_option maxHeartbeats 4000000 in
theorem add_ok {w : World} {F : Nat → Prop} {b : Nat} {E : List En} {last : Int} (h : Tb w F b E last) {Z : Nat → Prop} {v : Value} {l : List S} (hv : Sps w Z v l) (hr : l.all rightB = true) (hl : l.length ≤ 1000) (hlast : last + 1 ≤ 900) (hZ : ∀ k, k < w.heap.size → Z k → k ≠ b) :
    Calls Try.prog 14 #[.pointer (some ⟨b, 0, none⟩), v] w (Added w F b E last l) := by
  have hA := allRight_any hv
  rw [hr] at hA
  have HV := hide (hv.mono (Z' := fun k => k ≠ b) hZ)
  have HT := hide h
  have HL := hide hl
  have HLST := hide hlast
  have hl0 := h.lst
  have ew : IntKind.i64.wrap (last + 1) = last + 1 := IntWalk.i64_in _ ⟨by omega, by omega⟩
  obtain ⟨a, n, c, rfl, -⟩ := hv.form
  clear hv hr h hl hlast hl0 hZ
  go_enter Try.func14, Try.ntmps14
  go_wp2_with fail
  refine hA.mono ?_
  rintro e w1 ⟨rfl, hb⟩
  have HB := hide hb
  have HV1 := hide (HV.out.below hb)
  obtain ⟨tv, ht⟩ := HT.out.below hb
  have c1 := ht.c1
  have f1 := row_frozen ht.blk 1
  obtain ⟨ta, tn, tc, rfl, -⟩ := ht.ens.form
  have HT2 := hide (ht.more HLST.out)
  have HNE : Hid (∀ k, k ≠ b → (w1.setCell ⟨b, 1, none⟩ (.int .i64 (last + 1))).heap[k]? = w1.heap[k]?) := hide (fun k hk => set_other _ hk)
  have HTU := hide (turn_set (F := F) w1 (i := 1) (.int .i64 (last + 1)) ht.fb)
  have HNUM := hide ht.num
  have HFB := hide ht.fb
  have HLO := hide ht.lst
  clear hb ht HT HV hA
  go_wp2_with fail
  clear c1 f1
  obtain ⟨w2, hw2⟩ : ∃ w2, w1.setCell ⟨b, 0 + 1, none⟩ (.int .i64 (last + 1)) = w2 := ⟨_, rfl⟩
  have hw2' := hw2
  rw [Nat.zero_add] at hw2'
  simp only [hw2'] at HT2 HNE HTU
  simp only [hw2]
  have HV2 := hide (HV1.out.keep (w' := w2) fun k _ hz => HNE.out k hz)
  have HCL := hide (clone_any (HV2.out.below (below_drew0 w2)) HL.out)
  have HTD := hide (HT2.out.below (below_drew0 w2))
  have HSZ : Hid (w1.heap.size = w2.heap.size) := hide (by rw [← hw2, setCell_size])
  clear hw2 hw2' HV1 HV2 HNE
  refine wp_region_held_drew (S := fun wx => wx.cell? ⟨b, 1, none⟩ = some (.int .i64 (last + 1))) (by kernel_rfl) HT2.out.c1 (fun hS => ?_)
  refine take_want 0 (some 17) (.pointer (some ⟨b, 0, none⟩)) rfl rfl rfl (by kernel_rfl) (by kernel_rfl) (by kernel_rfl) (fun _ _ _ h => h) (fun wx hx => exec_move rfl rfl) hS ?_
  simp only [Act.put, List.setIfInBounds_toArray, List.set_cons_zero, List.set_cons_succ]
  refine take_want 1 (some 18) (.pointer (some ⟨b, 0, none⟩)) rfl rfl rfl (by kernel_rfl) (by kernel_rfl) (by kernel_rfl) (fun _ _ _ h => h) (fun wx hx => exec_move rfl rfl) hS ?_
  simp only [Act.put, List.setIfInBounds_toArray, List.set_cons_zero, List.set_cons_succ]
  refine take_want 2 (some 19) (.pointer (some ⟨b, 0, none⟩)) rfl rfl rfl (by kernel_rfl) (by kernel_rfl) (by kernel_rfl) (fun _ _ _ h => h) (fun wx hx => exec_nilCheck rfl rfl) hS ?_
  simp only [Act.put, List.setIfInBounds_toArray, List.set_cons_zero, List.set_cons_succ]
  refine take_want 3 (some 20) (.pointer (some ⟨b, 0, none⟩)) rfl rfl rfl (by kernel_rfl) (by kernel_rfl) (by kernel_rfl) (fun _ _ _ h => h) (fun wx hx => exec_field rfl (fldT0 _ _ wx) rfl) hS ?_
  simp only [Act.put, List.setIfInBounds_toArray, List.set_cons_zero, List.set_cons_succ]
  refine take_want 5 (some 22) (.pointer (some ⟨b, 0, none⟩)) rfl rfl rfl (by kernel_rfl) (by kernel_rfl) (by kernel_rfl) (fun _ _ _ h => h) (fun wx hx => exec_move rfl rfl) hS ?_
  simp only [Act.put, List.setIfInBounds_toArray, List.set_cons_zero, List.set_cons_succ]
  refine take_want 6 (some 23) (.pointer (some ⟨b, 0, none⟩)) rfl rfl rfl (by kernel_rfl) (by kernel_rfl) (by kernel_rfl) (fun _ _ _ h => h) (fun wx hx => exec_nilCheck rfl rfl) hS ?_
  simp only [Act.put, List.setIfInBounds_toArray, List.set_cons_zero, List.set_cons_succ]
  refine take_want 7 (some 24) (.pointer (some ⟨b, 0 + 1, none⟩)) rfl rfl rfl (by kernel_rfl) (by kernel_rfl) (by kernel_rfl) (fun _ _ _ h => h) (fun wx hx => exec_field rfl (fldT1 _ _ wx) rfl) hS ?_
  simp only [Act.put, List.setIfInBounds_toArray, List.set_cons_zero, List.set_cons_succ]
  refine take_want 8 (some 25) (.int .i64 (last + 1)) rfl rfl rfl (by kernel_rfl) (by kernel_rfl) (by kernel_rfl) (fun _ _ _ h => h) (fun wx hx => exec_load rfl (load_intV (by rw [Nat.zero_add]; exact hx)) rfl) hS ?_
  simp only [Act.put, List.setIfInBounds_toArray, List.set_cons_zero, List.set_cons_succ]
  refine take_want 9 (some 26) (.slice a n c) rfl rfl rfl (by kernel_rfl) (by kernel_rfl) (by kernel_rfl) (fun _ _ _ h => h) (fun wx hx => exec_move rfl rfl) hS ?_
  simp only [Act.put, List.setIfInBounds_toArray, List.set_cons_zero, List.set_cons_succ]
  refine value_or_call 4 10 (some 21) (some 27) rfl rfl rfl rfl rfl rfl (by kernel_rfl) (exec_load rfl (load_entries HTD.out.c0) rfl) (exec_call1 rfl enterClone rfl rfl) hS ?_ ?_
  · simp only [Act.put, List.setIfInBounds_toArray, List.set_cons_zero, List.set_cons_succ]
    refine call_want 10 (some 27) rfl rfl rfl (by kernel_rfl) (exec_call1 rfl enterClone rfl rfl) (HCL.out.mono ?_)
    rintro e w3 ⟨sv, rfl, hsp, hb3⟩
    obtain ⟨xa, xn, xc, rfl, -⟩ := hsp.form
    have hT3 := HTD.out.below hb3
    obtain ⟨pa, pn, pc, w4, hap, hP⟩ := hT3.push (x := ⟨last + 1, xa, xn, xc, l⟩) rfl (fun e he => by have := (HNUM.out e he).2; omega) (B := w2.heap.size) (fun k hk => HT2.out.flt k hk) (by have := hb3.size; exact this) (by have := HLO.out; omega) hsp
    have hap2 : (Builtin.append_ #[62, 62] 62 #[.slice ta tn tc, .slice (some ⟨w3.heap.size, 0, none⟩) 1 1]).run Try.prog (w3.alloc (.cells #[.int .i64 (last + 1), .slice xa xn xc] 69)) = .ok (.slice pa pn pc) w4 := hap
    have hS3 : w3.cell? ⟨b, 1, none⟩ = some (.int .i64 (last + 1)) := hT3.c1
    have hS4 : (w3.alloc (.cells #[.int .i64 (last + 1), .slice xa xn xc] 69)).cell? ⟨b, 1, none⟩ = some (.int .i64 (last + 1)) := (hT3.below (bel_alloc _ _)).c1
    refine ⟨_, rfl, hS3, ?_⟩
    simp only [Act.put, List.setIfInBounds_toArray, List.set_cons_zero, List.set_cons_succ]
    refine take_want 11 (some 28) (.agg #[.int .i64 (last + 1), .slice xa xn xc]) rfl rfl rfl (by kernel_rfl) (by kernel_rfl) (by kernel_rfl) (fun _ _ _ h => h) (fun wx hx => exec_build2 rfl (buildE wx _ _ _ _) rfl rfl) hS3 ?_
    simp only [Act.put, List.setIfInBounds_toArray, List.set_cons_zero, List.set_cons_succ]
    refine only_value 12 (some 29) rfl rfl rfl (by kernel_rfl) (exec_one rfl (litE w3 _ _ _ _) rfl) hS4 ?_
    simp only [Act.put, List.setIfInBounds_toArray, List.set_cons_zero, List.set_cons_succ]
    refine only_value 13 (some 30) rfl rfl rfl (by kernel_rfl) (exec_append rfl hap2 rfl rfl) hP.c1 ?_
    simp only [Act.put, List.setIfInBounds_toArray, List.set_cons_zero, List.set_cons_succ]
    refine take_want 14 (some 31) (.pointer (some ⟨b, 0, none⟩)) rfl rfl rfl (by kernel_rfl) (by kernel_rfl) (by kernel_rfl) (fun _ _ _ h => h) (fun wx hx => exec_nilCheck rfl rfl) hP.c1 ?_
    simp only [Act.put, List.setIfInBounds_toArray, List.set_cons_zero, List.set_cons_succ]
    refine take_want 15 (some 32) (.pointer (some ⟨b, 0, none⟩)) rfl rfl rfl (by kernel_rfl) (by kernel_rfl) (by kernel_rfl) (fun _ _ _ h => h) (fun wx hx => exec_field rfl (fldT0 _ _ wx) rfl) hP.c1 ?_
    simp only [Act.put, List.setIfInBounds_toArray, List.set_cons_zero, List.set_cons_succ]
    refine only_skip 16 none rfl rfl rfl (by kernel_rfl) (exec_store rfl (store_entries hP.c0 hP.f0) rfl rfl) hP.c1' ?_
    refine wpAnyH_done (by kernel_rfl) ?_ _
    have HPP := hide hP
    have c1 := hP.c1'
    have HB3 := hide hb3
    clear hP hap hap2 hS hS3 hS4 hT3 hsp hb3
    obtain ⟨w5, hw5⟩ : ∃ w5, w4.setCell ⟨b, 0, none⟩ (.slice pa pn pc) = w5 := ⟨_, rfl⟩
    have HS5 := hide (show w5.heap.size = w4.heap.size by rw [← hw5, setCell_size])
    have HTB := hide HPP.out.tb
    have HTT := hide HPP.out.turn
    clear HPP
    simp only [hw5] at c1 HTB HTT ⊢
    clear hw5
    go_wp2_with fail
    go_ret2
    refine ⟨⟨last + 1, xa, xn, xc, l⟩, rfl, rfl, rfl, ?_, ?_⟩
    · obtain ⟨v5, h5⟩ := HTB.out
      exact Tb.refit ⟨v5, h5⟩ (fun k hk => by rcases hk with hk | hk; exact .inl hk; exact .inr ⟨by have := HB.out.size; have := HSZ.out; omega, by rw [HS5.out]; exact hk.2⟩) (fun k hk => ext_lt (F := F) (by have := HTT.out.size; have := HB3.out.size; have := HB.out.size; have := HSZ.out; have e : w2.drew.heap.size = w2.heap.size := rfl; omega) (fun j hj => by have := HT2.out.flt j hj; have := HTT.out.size; have := HB3.out.size; have e : w2.drew.heap.size = w2.heap.size := rfl; omega) hk)
    · exact (((Turn.of_below HB.out).trans HTU.out fun _ _ h => h).trans (Turn.of_below (nextB (below_drew0 w2) HB3.out)) fun _ _ h => h).trans HTT.out fun _ _ h => h
  · refine HCL.out.mono ?_
    rintro e w3 ⟨sv, rfl, hsp, hb3⟩
    obtain ⟨xa, xn, xc, rfl, -⟩ := hsp.form
    have hT3 := HTD.out.below hb3
    obtain ⟨pa, pn, pc, w4, hap, hP⟩ := hT3.push (x := ⟨last + 1, xa, xn, xc, l⟩) rfl (fun e he => by have := (HNUM.out e he).2; omega) (B := w2.heap.size) (fun k hk => HT2.out.flt k hk) (by have := hb3.size; exact this) (by have := HLO.out; omega) hsp
    have hap2 : (Builtin.append_ #[62, 62] 62 #[.slice ta tn tc, .slice (some ⟨w3.heap.size, 0, none⟩) 1 1]).run Try.prog (w3.alloc (.cells #[.int .i64 (last + 1), .slice xa xn xc] 69)) = .ok (.slice pa pn pc) w4 := hap
    have hS3 : w3.cell? ⟨b, 1, none⟩ = some (.int .i64 (last + 1)) := hT3.c1
    have hS4 : (w3.alloc (.cells #[.int .i64 (last + 1), .slice xa xn xc] 69)).cell? ⟨b, 1, none⟩ = some (.int .i64 (last + 1)) := (hT3.below (bel_alloc _ _)).c1
    refine ⟨_, rfl, hS3, ?_⟩
    simp only [Act.put, List.setIfInBounds_toArray, List.set_cons_zero, List.set_cons_succ]
    refine take_want 11 (some 28) (.agg #[.int .i64 (last + 1), .slice xa xn xc]) rfl rfl rfl (by kernel_rfl) (by kernel_rfl) (by kernel_rfl) (fun _ _ _ h => h) (fun wx hx => exec_build2 rfl (buildE wx _ _ _ _) rfl rfl) hS3 ?_
    simp only [Act.put, List.setIfInBounds_toArray, List.set_cons_zero, List.set_cons_succ]
    refine both_value 4 12 (some 21) (some 29) rfl rfl rfl rfl rfl rfl (by kernel_rfl) (by kernel_rfl) (by kernel_rfl) (vi := .slice ta tn tc) (vj := .slice (some ⟨w3.heap.size, 0, none⟩) 1 1) (w' := w3.alloc (.cells #[.int .i64 (last + 1), .slice xa xn xc] 69)) ?_ ?_ hS3 hS4 rfl rfl ?_
    · rintro a' (rfl | rfl) wx (rfl | rfl)
      · exact exec_load rfl (load_entries hT3.c0) rfl
      · exact exec_load rfl (load_entries (hT3.below (bel_alloc _ _)).c0) rfl
      · exact exec_load rfl (load_entries hT3.c0) rfl
      · exact exec_load rfl (load_entries (hT3.below (bel_alloc _ _)).c0) rfl
    · rintro a' (rfl | rfl)
      · exact exec_one rfl (litE w3 _ _ _ _) rfl
      · exact exec_one rfl (litE w3 _ _ _ _) rfl
    simp only [Act.put, List.setIfInBounds_toArray, List.set_cons_zero, List.set_cons_succ]
    refine only_value 13 (some 30) rfl rfl rfl (by kernel_rfl) (exec_append rfl hap2 rfl rfl) hP.c1 ?_
    simp only [Act.put, List.setIfInBounds_toArray, List.set_cons_zero, List.set_cons_succ]
    refine take_want 14 (some 31) (.pointer (some ⟨b, 0, none⟩)) rfl rfl rfl (by kernel_rfl) (by kernel_rfl) (by kernel_rfl) (fun _ _ _ h => h) (fun wx hx => exec_nilCheck rfl rfl) hP.c1 ?_
    simp only [Act.put, List.setIfInBounds_toArray, List.set_cons_zero, List.set_cons_succ]
    refine take_want 15 (some 32) (.pointer (some ⟨b, 0, none⟩)) rfl rfl rfl (by kernel_rfl) (by kernel_rfl) (by kernel_rfl) (fun _ _ _ h => h) (fun wx hx => exec_field rfl (fldT0 _ _ wx) rfl) hP.c1 ?_
    simp only [Act.put, List.setIfInBounds_toArray, List.set_cons_zero, List.set_cons_succ]
    refine only_skip 16 none rfl rfl rfl (by kernel_rfl) (exec_store rfl (store_entries hP.c0 hP.f0) rfl rfl) hP.c1' ?_
    refine wpAnyH_done (by kernel_rfl) ?_ _
    have HPP := hide hP
    have c1 := hP.c1'
    have HB3 := hide hb3
    clear hP hap hap2 hS hS3 hS4 hT3 hsp hb3
    obtain ⟨w5, hw5⟩ : ∃ w5, w4.setCell ⟨b, 0, none⟩ (.slice pa pn pc) = w5 := ⟨_, rfl⟩
    have HS5 := hide (show w5.heap.size = w4.heap.size by rw [← hw5, setCell_size])
    have HTB := hide HPP.out.tb
    have HTT := hide HPP.out.turn
    clear HPP
    simp only [hw5] at c1 HTB HTT ⊢
    clear hw5
    go_wp2_with fail
    go_ret2
    refine ⟨⟨last + 1, xa, xn, xc, l⟩, rfl, rfl, rfl, ?_, ?_⟩
    · obtain ⟨v5, h5⟩ := HTB.out
      exact Tb.refit ⟨v5, h5⟩ (fun k hk => by rcases hk with hk | hk; exact .inl hk; exact .inr ⟨by have := HB.out.size; have := HSZ.out; omega, by rw [HS5.out]; exact hk.2⟩) (fun k hk => ext_lt (F := F) (by have := HTT.out.size; have := HB3.out.size; have := HB.out.size; have := HSZ.out; have e : w2.drew.heap.size = w2.heap.size := rfl; omega) (fun j hj => by have := HT2.out.flt j hj; have := HTT.out.size; have := HB3.out.size; have e : w2.drew.heap.size = w2.heap.size := rfl; omega) hk)
    · exact (((Turn.of_below HB.out).trans HTU.out fun _ _ h => h).trans (Turn.of_below (nextB (below_drew0 w2) HB3.out)) fun _ _ h => h).trans HTT.out fun _ _ h => h
end Go.Proofs.Ytjofbehmhdjohaa
