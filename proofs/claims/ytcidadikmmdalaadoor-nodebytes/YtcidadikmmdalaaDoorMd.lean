/- made. -/
import Derived.Test.YtcidadikmmdalaaDoorEx
import Derived.Laws.ResultCell
namespace Go.Proofs.YtcidadikmmdalaaDoor
open Go.RowKit Go.Extern

theorem infoN : (Tryd.prog.info? 30).map (·.size) = some 3 := by kernel_rfl
theorem infoRN : (Tryd.prog.info? 24).map (·.size) = some 3 := by kernel_rfl
/-- A node alone as a result. -/
theorem ret_node {fn : Func} {R : Ending → World → Prop} {a : Act} {w : World} {p : Tmp} (h : fn.results = #[.cell p 30]) (g : Nat) (x y z : Value) (hp : a.tmps.getD p undef = .pointer (some ⟨g, 0, none⟩))
    (hg : w.heap[g]? = some (.cells #[x, y, z] 30 (0, 0))) (hd : a.defers = []) (hR : R (.returned (.agg #[x, y, z])) w) : bodyPost Tryd.prog fn R .ret a w :=
  bodyPost_ret (results_cell_row h a.tmps w g 30 #[x, y, z] (0, 0) _ hp hg Tryd.underlying30 rfl infoN) hd hR
theorem ret_rnode {fn : Func} {R : Ending → World → Prop} {a : Act} {w : World} {p : Tmp} (h : fn.results = #[.cell p 24]) (g : Nat) (x y z : Value) (hp : a.tmps.getD p undef = .pointer (some ⟨g, 0, none⟩))
    (hg : w.heap[g]? = some (.cells #[x, y, z] 24 (0, 0))) (hd : a.defers = []) (hR : R (.returned (.agg #[x, y, z])) w) : bodyPost Tryd.prog fn R .ret a w :=
  bodyPost_ret (results_cell_row h a.tmps w g 24 #[x, y, z] (0, 0) _ hp hg Tryd.underlying24 rfl infoRN) hd hR
/-- What a call leaves that tells a node. -/
def Node1 (w : World) (L : Int) (K V : List Int) (e : Ending) (w' : World) : Prop := ∃ kv vv, e = .returned (.agg #[.int .i64 L, kv, vv]) ∧ Two w.heap.size w' kv vv K V ∧ Below w.heap.size w w'
/-- A node that grows, in a block of its own. -/
structure MdW (T : TypeId) (w : World) (b4 b5 : Nat) (base : Nat) (L : Int) (K V : List Int) (kv vv : Value) (wr : World) : Prop where
  h4 : ∃ x y z, wr.heap[b4]? = some (.cells #[x, y, z] T (0, 0))
  h5 : wr.heap[b5]? = some (.cells #[.int .i64 L, kv, vv] T (0, 0))
  two : Two base wr kv vv K V
  bel : Below w.heap.size w wr
theorem set_at1 {w : World} {b : Nat} {T : TypeId} {x y z : Value} (h : w.heap[b]? = some (.cells #[x, y, z] T (0, 0))) (u : Value) : (w.setCell ⟨b, 1, none⟩ u).heap[b]? = some (.cells #[x, u, z] T (0, 0)) := by
  have := set_cell_row (j := 1) h u; simpa using this
theorem set_at2 {w : World} {b : Nat} {T : TypeId} {x y z : Value} (h : w.heap[b]? = some (.cells #[x, y, z] T (0, 0))) (u : Value) : (w.setCell ⟨b, 2, none⟩ u).heap[b]? = some (.cells #[x, y, u] T (0, 0)) := by
  have := set_cell_row (j := 2) h u; simpa using this
theorem set_at0 {w : World} {b : Nat} {T : TypeId} {x y z : Value} (h : w.heap[b]? = some (.cells #[x, y, z] T (0, 0))) (u : Value) : (w.setCell ⟨b, 0, none⟩ u).heap[b]? = some (.cells #[u, y, z] T (0, 0)) := by
  have := set_cell_row (j := 0) h u; simpa using this
theorem set_else {w : World} {b c i : Nat} {o : Obj} (h : w.heap[c]? = some o) (hne : c ≠ b) (u : Value) : (w.setCell ⟨b, i, none⟩ u).heap[c]? = some o := by
  rw [Below.heap_setCell _ _ _ _ hne]; exact h
/-- One key more: behind the append, the new row stored in its field. -/
theorem MdW.key {T : TypeId} {w : World} {b4 b5 base : Nat} {L : Int} {K V : List Int} {kv vv : Value} {wr : World} (h : MdW T w b4 b5 base L K V kv vv wr) (h45 : b4 ≠ b5) (hb4 : b4 < base) (hb5 : b5 < base) (hw : w.heap.size ≤ b5) (hwb : w.heap.size ≤ base) (hbr : base ≤ wr.heap.size) {k : Int} (hk : I64 k) (hn : K.length ≤ 5000) :
    ∃ kv' w', (Builtin.append_ #[22, 22] 22 #[kv, .slice (some ⟨wr.heap.size, 0, none⟩) 1 1]).run Tryd.prog (wr.alloc (.cells #[.int .i64 k] 3)) = .ok kv' w' ∧ w'.cell? ⟨b5, 1, none⟩ = some kv ∧ w'.frozen? ⟨b5, 1, none⟩ = false ∧
      MdW T w b4 b5 base L (K ++ [k]) V kv' vv (w'.setCell ⟨b5, 1, none⟩ kv') ∧ (∀ c o, wr.heap[c]? = some o → kv.ownBlock ≠ some c → c ≠ b5 → (w'.setCell ⟨b5, 1, none⟩ kv').heap[c]? = some o) ∧ wr.heap.size ≤ (w'.setCell ⟨b5, 1, none⟩ kv').heap.size := by
  have hb := bel_alloc wr (.cells #[.int .i64 k] 3)
  obtain ⟨kv', w', hr, h1⟩ := (h.two.below hb).append (by simp; omega) 22 (ints_lit wr k hk) (by simp; omega)
  have g5 := h1.blk b5 _ (blk_below hb h.h5) (fun e => by have := (h.two.hk.lt _ e).1; omega)
  refine ⟨kv', w', hr, by rw [row_cell g5]; rfl, row_frozen g5 1, ⟨?_, set_at1 g5 kv', h1.two.set hb5 kv', ?_⟩, ?_, ?_⟩
  · obtain ⟨x, y, z, h4⟩ := h.h4
    exact ⟨x, y, z, set_else (h1.blk b4 _ (blk_below hb h4) (fun e => by have := (h.two.hk.lt _ e).1; omega)) h45 _⟩
  · exact ((nextB h.bel hb).trans (h1.bel.mono hwb)).setCell hw _
  · intro c o hc hne hcb
    exact set_else (h1.blk c _ (blk_below hb hc) hne) hcb _
  · have := h1.bel.size; simp at this ⊢; omega
/-- One value more. -/
theorem MdW.val {T : TypeId} {w : World} {b4 b5 base : Nat} {L : Int} {K V : List Int} {kv vv : Value} {wr : World} (h : MdW T w b4 b5 base L K V kv vv wr) (h45 : b4 ≠ b5) (hb4 : b4 < base) (hb5 : b5 < base) (hw : w.heap.size ≤ b5) (hwb : w.heap.size ≤ base) (hbr : base ≤ wr.heap.size) {k : Int} (hk : I64 k) (hn : V.length ≤ 5000) :
    ∃ vv' w', (Builtin.append_ #[22, 22] 22 #[vv, .slice (some ⟨wr.heap.size, 0, none⟩) 1 1]).run Tryd.prog (wr.alloc (.cells #[.int .i64 k] 3)) = .ok vv' w' ∧ w'.cell? ⟨b5, 2, none⟩ = some vv ∧ w'.frozen? ⟨b5, 2, none⟩ = false ∧
      MdW T w b4 b5 base L K (V ++ [k]) kv vv' (w'.setCell ⟨b5, 2, none⟩ vv') ∧ (∀ c o, wr.heap[c]? = some o → vv.ownBlock ≠ some c → c ≠ b5 → (w'.setCell ⟨b5, 2, none⟩ vv').heap[c]? = some o) ∧ wr.heap.size ≤ (w'.setCell ⟨b5, 2, none⟩ vv').heap.size := by
  have hb := bel_alloc wr (.cells #[.int .i64 k] 3)
  obtain ⟨vv', w', hr, h1⟩ := (h.two.swap.below hb).append (by simp; omega) 22 (ints_lit wr k hk) (by simp; omega)
  have g5 := h1.blk b5 _ (blk_below hb h.h5) (fun e => by have := (h.two.hv.lt _ e).1; omega)
  refine ⟨vv', w', hr, by rw [row_cell g5]; rfl, row_frozen g5 2, ⟨?_, set_at2 g5 vv', h1.two.swap.set hb5 vv', ?_⟩, ?_, ?_⟩
  · obtain ⟨x, y, z, h4⟩ := h.h4
    exact ⟨x, y, z, set_else (h1.blk b4 _ (blk_below hb h4) (fun e => by have := (h.two.hv.lt _ e).1; omega)) h45 _⟩
  · exact ((nextB h.bel hb).trans (h1.bel.mono hwb)).setCell hw _
  · intro c o hc hne hcb
    exact set_else (h1.blk c _ (blk_below hb hc) hne) hcb _
  · have := h1.bel.size; simp at this ⊢; omega
theorem Two.base {base base' : Nat} {w : World} {kv vv : Value} {K V : List Int} (h : Two base w kv vv K V) (hb : base' ≤ base) : Two base' w kv vv K V := ⟨h.hk.base hb, h.hv.base hb, h.ne⟩
theorem MdW.below {T : TypeId} {w : World} {b4 b5 base : Nat} {L : Int} {K V : List Int} {kv vv : Value} {wr wx : World} (h : MdW T w b4 b5 base L K V kv vv wr) (hb : Below wr.heap.size wr wx) : MdW T w b4 b5 base L K V kv vv wx :=
  ⟨h.h4.imp fun _ h => h.imp fun _ h => h.imp fun _ h => blk_below hb h, blk_below hb h.h5, h.two.below hb, nextB h.bel hb⟩
theorem MdW.size {T : TypeId} {w : World} {b4 b5 base : Nat} {L : Int} {K V : List Int} {kv vv : Value} {wr : World} (h : MdW T w b4 b5 base L K V kv vv wr) : b5 < wr.heap.size := heap_lt h.h5

set_option maxRecDepth 100000 in
set_option maxHeartbeats 1000000 in
theorem made_any {w : World} {v0 : Value} {l : List En} (hv : Ents w v0 l) (hl : l.length ≤ 1000) (L : Int) :
    Calls Tryd.prog 56 #[.int .i64 L, v0] w (Node1 w L (l.map Prod.fst) (l.map Prod.snd)) := by
  have HOK := hide hv.ok
  obtain ⟨ao, cap, g, off, rfl, h2, h3, -⟩ := hv
  have H2 := hide h2
  have H3 := hide h3
  obtain ⟨n, hn⟩ : ∃ n, l.length = n := ⟨_, rfl⟩
  rw [hn] at hl ⊢
  have HN := hide hn
  clear h2 h3 hn
  go_enter Tryd.func56, Tryd.ntmps56
  go_wp2_with fail
  go_loopg [12] n (fun k i wr => ∃ (j : Nat) (kv vv : Value), j + k = n ∧ i = .int .i64 (j : Int) ∧ Hid (MdW 30 w w.heap.size (w.heap.size + 1) (w.heap.size + 2) L ((l.take j).map Prod.fst) ((l.take j).map Prod.snd) kv vv wr) ∧ Hid (w.heap.size + 2 ≤ wr.heap.size))
  case atStart =>
    refine ⟨0, _, _, by omega, rfl, hide ⟨⟨_, _, _, heap_new2 _ _ _⟩, ?_, Two.nil _ _, nextB (bel_alloc _ _) (bel_alloc _ _)⟩, hide (by simp)⟩
    have := heap_alloc_new (w.alloc (.cells #[.int .i64 0, .slice none 0 0, .slice none 0 0] 30)) (.cells #[.int .i64 L, .slice none 0 0, .slice none 0 0] 30)
    rw [World.size_alloc] at this
    exact this
  case round =>
    obtain ⟨j, kv, vv, hj, rfl, HM, HS⟩ := hrel
    cases gk with
    | zero =>
      have hnl : ¬ (j : Int) < (n : Int) := by omega
      rw [List.take_of_length_le (by rw [HN.out]; omega)] at HM
      obtain ⟨x4, y4, z4, h4⟩ := HM.out.h4
      have c0 := row_cell HM.out.h5 0
      have c1 := row_cell HM.out.h5 1
      have c2 := row_cell HM.out.h5 2
      simp at c0 c1 c2
      have d0 := row_cell h4 0
      have d1 := row_cell h4 1
      have d2 := row_cell h4 2
      simp at d0 d1 d2
      have f0 := row_frozen h4 0
      have f1 := row_frozen h4 1
      have f2 := row_frozen h4 2
      obtain ⟨aK, nK, cK, rfl, -⟩ := HM.out.two.hk.form
      obtain ⟨aV, nV, cV, rfl, -⟩ := HM.out.two.hv.form
      have H4 := hide h4
      clear h4
      go_wp2_with fail
      refine ret_node rfl _ _ _ _ rfl (set_at2 (set_at1 (set_at0 H4.out _) _) _) rfl ?_
      have hb3 : Below w.heap.size w (((wr.setCell ⟨w.heap.size, 0, none⟩ (.int .i64 L)).setCell ⟨w.heap.size, 1, none⟩ (.slice aK nK cK)).setCell ⟨w.heap.size, 2, none⟩ (.slice aV nV cV)) := ((HM.out.bel.setCell (Nat.le_refl _) _).setCell (Nat.le_refl _) _).setCell (Nat.le_refl _) _
      have ht := (((HM.out.two.set (i := 0) (b := w.heap.size) (by omega) (.int .i64 L)).set (i := 1) (b := w.heap.size) (by omega) (.slice aK nK cK)).set (i := 2) (b := w.heap.size) (by omega) (.slice aV nV cV))
      exact ⟨_, _, rfl, ht.base (by omega), hb3⟩
    | succ m =>
      have hlt : (j : Int) < (n : Int) := by omega
      have hb0 : (0 : Int) ≤ (j : Int) := by omega
      obtain ⟨⟨k, v⟩, he⟩ : ∃ e, l[j]? = some e := ⟨l[j]'(by rw [HN.out]; omega), by rw [List.getElem?_eq_getElem]⟩
      obtain rfl := H2.out (by rw [HN.out]; omega)
      obtain ⟨k1, k2⟩ := H3.out j (k, v) he
      simp only at k1 k2
      replace k1 := cell_bel HM.out.bel k1
      replace k2 := cell_bel HM.out.bel k2
      have hok := HOK.out (k, v) (List.mem_of_getElem? he)
      have hbB := bel_alloc wr (.cells #[.int .i64 k, .int .i64 v] 56)
      have hMB := HM.out.below hbB
      have hpb := heap_alloc_new wr (.cells #[.int .i64 k, .int .i64 v] 56)
      have hlj : ((l.take j).map Prod.fst).length ≤ 5000 := by simp; omega
      have hlj2 : ((l.take j).map Prod.snd).length ≤ 5000 := by simp; omega
      have hsz := HS.out
      obtain ⟨kv', w5, ha1, x5, f5, hM5, hblk, hsz5⟩ := hMB.key (by omega) (by omega) (by omega) (by omega) (by omega) (by simp; omega) (k := k) hok.1 hlj
      have hp5 := hblk wr.heap.size _ hpb (fun e => by have := (HM.out.two.hk.lt _ e).2; omega) (by omega)
      simp only [World.size_alloc] at hsz5
      obtain ⟨vv', w6, ha2, x6, f6, hM6, -, hsz6⟩ := hM5.val (by omega) (by omega) (by omega) (by omega) (by omega) (by omega) (k := v) hok.2 hlj2
      rw [World.size_alloc] at ha1
      have e5 : (w5.setCell ⟨w.heap.size + 1, 1, none⟩ kv').heap.size = w5.heap.size := by simp
      rw [e5] at ha2 hsz5 hsz6
      have q1 : (w5.setCell ⟨w.heap.size + 1, 1, none⟩ kv').cell? ⟨wr.heap.size, 1, none⟩ = some (.int .i64 v) := by rw [row_cell hp5]; rfl
      have q2 := row_cell hM5.h5 2
      simp only [List.getElem?_toArray, List.getElem?_cons_succ, List.getElem?_cons_zero] at q2
      have c1 := row_cell HM.out.h5 1
      simp at c1
      replace c1 := cell_bel hbB c1
      have HM6 := hide hM6
      have HE := hide he
      have HZ : Hid (w.heap.size + 2 ≤ (w6.setCell ⟨w.heap.size + 1, 2, none⟩ vv').heap.size) := hide (by omega)
      have e7 : IntKind.i64.wrap ((j : Int) + 1) = (j : Int) + 1 := IntWalk.i64_in _ ⟨by omega, by omega⟩
      have hne : ¬ wr.heap.size = w.heap.size + 1 := by omega
      have hne2 : ¬ w.heap.size + 1 = wr.heap.size := by omega
      obtain ⟨aK, nK, cK, rfl, -⟩ := HM.out.two.hk.form
      obtain ⟨aV, nV, cV, rfl, -⟩ := HM.out.two.hv.form
      obtain ⟨aK2, nK2, cK2, rfl, -⟩ := hM6.two.hk.form
      obtain ⟨aV2, nV2, cV2, rfl, -⟩ := hM6.two.hv.form
      clear he hok hbB hMB hpb hlj hlj2 hsz hM5 hblk hp5 hsz5 hM6 hsz6 e5
      go_wp2_with (first
        | (at_builtin; refine wpList_append_eq rfl _ _ rfl rfl rfl ha1 ?_; clear ha1)
        | (at_builtin; refine wpList_append_eq rfl _ _ rfl rfl rfl ha2 ?_; clear ha2))
      go_roundg m
      case measure => omega
      case rel => exact ⟨j + 1, _, _, by omega, by go_num, hide (by rw [take_snoc HE.out, List.map_append, List.map_append]; exact HM6.out), HZ⟩
end Go.Proofs.YtcidadikmmdalaaDoor
