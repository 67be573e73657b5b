/- Put. -/
import Derived.Test.YtcidadikmmdalaaDoorSq
import Derived.Test.YtcidadikmmdalaaDoorCk
import Derived.Test.YtcidadikmmdalaaDoorDl
import Derived.Test.YtcidadikmmdalaaDoorCt
namespace Go.Proofs.YtcidadikmmdalaaDoor
open Go.RowKit Go.Extern

/-- What a call leaves that tells nodes and an error. -/
def Putted (w : World) (ns : List Nd) (c : Int) (e : Ending) (w' : World) : Prop := ∃ v, e = .returned (.tuple #[v, errV c]) ∧ Nds w' v ns ∧ Below w.heap.size w w'
/-- A block that holds a node. -/
def BoxN (T : TypeId) (w : World) (b : Nat) (L : Int) (kv vv : Value) : Prop := w.heap[b]? = some (.cells #[.int .i64 L, kv, vv] T (0, 0))
theorem BoxN.below {T : TypeId} {w w' : World} {b : Nat} {L : Int} {kv vv : Value} (h : BoxN T w b L kv vv) (hb : Below w.heap.size w w') : BoxN T w' b L kv vv := blk_below hb h
theorem BoxN.cells {T : TypeId} {w : World} {b : Nat} {L : Int} {kv vv : Value} (h : BoxN T w b L kv vv) : w.cell? ⟨b, 0, none⟩ = some (.int .i64 L) ∧ w.cell? ⟨b, 1, none⟩ = some kv ∧ w.cell? ⟨b, 2, none⟩ = some vv :=
  ⟨by rw [row_cell h]; rfl, by rw [row_cell h]; rfl, by rw [row_cell h]; rfl⟩
theorem BoxN.new (T : TypeId) (w : World) (L : Int) (kv vv : Value) : BoxN T (w.alloc (.cells #[.int .i64 L, kv, vv] T)) w.heap.size L kv vv := heap_alloc_new _ _
def BoxP (w : World) (b : Nat) (k v : Int) : Prop := w.heap[b]? = some (.cells #[.int .i64 k, .int .i64 v] 56 (0, 0))
theorem BoxP.below {w w' : World} {b : Nat} {k v : Int} (h : BoxP w b k v) (hb : Below w.heap.size w w') : BoxP w' b k v := blk_below hb h
theorem BoxP.cells {w : World} {b : Nat} {k v : Int} (h : BoxP w b k v) : w.cell? ⟨b, 0, none⟩ = some (.int .i64 k) ∧ w.cell? ⟨b, 1, none⟩ = some (.int .i64 v) := ⟨by rw [row_cell h]; rfl, by rw [row_cell h]; rfl⟩

set_option maxRecDepth 100000 in
set_option maxHeartbeats 1000000 in
theorem put_bad {w : World} {kv vv : Value} {K V : List Int} {L : Int} (hk : Ints w kv K) (hv : Ints w vv V) (h : ¬ Rt L K V) (k v : Int) :
    Calls Tryd.prog 18 #[.agg #[.int .i64 L, kv, vv], .int .i64 k, .int .i64 v] w (Putted w [] 70) := by
  have HBA := hide (bel_alloc w (.cells #[.int .i64 L, kv, vv] 30))
  have hC := check_bad (hk.below HBA.out) (hv.below HBA.out) h
  obtain ⟨aK, nK, cK, rfl, -⟩ := hk.form
  obtain ⟨aV, nV, cV, rfl, -⟩ := hv.form
  rw [errV_code (by omega)] at hC
  clear hk hv h
  go_enter Tryd.func18, Tryd.ntmps18
  go_wp2_with (go_at_call 8; refine hC.mono ?_; rintro e w1 ⟨rfl, hb1⟩; have HB1 := hide hb1; clear hb1)
  go_ret2
  exact ⟨_, by rw [errV_code (by omega)]; rfl, Nds.nil _, nextB HBA.out HB1.out⟩

set_option maxRecDepth 100000 in
set_option maxHeartbeats 1000000 in
theorem put_key {w : World} {kv vv : Value} {K V : List Int} {L : Int} (hk : Ints w kv K) (hv : Ints w vv V) (h : Rt L K V) {k v : Int} (hf : fitB k v = false) :
    Calls Tryd.prog 18 #[.agg #[.int .i64 L, kv, vv], .int .i64 k, .int .i64 v] w (Putted w [] 80) := by
  have HBA := hide (bel_alloc w (.cells #[.int .i64 L, kv, vv] 30))
  have hC := check_ok (hk.below HBA.out) (hv.below HBA.out) h
  obtain ⟨aK, nK, cK, rfl, -⟩ := hk.form
  obtain ⟨aV, nV, cV, rfl, -⟩ := hv.form
  clear hk hv h
  go_enter Tryd.func18, Tryd.ntmps18
  go_wp2_with (first
    | (go_at_call 8; refine hC.mono ?_; rintro e w1 ⟨rfl, hb1⟩; have HB1 := hide hb1; clear hb1)
    | (go_at_call 38; refine (isRight_any k v _).mono ?_; rintro e w2 ⟨rfl, hb2⟩; rw [hf]; have HB2 := hide hb2; clear hb2))
  go_ret2
  exact ⟨_, by rw [errV_code (by omega)]; rfl, Nds.nil _, nextB (nextB (nextB HBA.out HB1.out) (bel_alloc _ _)) HB2.out⟩

set_option maxRecDepth 100000 in
set_option maxHeartbeats 2000000 in
theorem put_ok {w : World} {kv vv : Value} {K V : List Int} {L : Int} (hk : Ints w kv K) (hv : Ints w vv V) (h : Rt L K V) {k v : Int} (hf : fitB k v = true) :
    Calls Tryd.prog 18 #[.agg #[.int .i64 L, kv, vv], .int .i64 k, .int .i64 v] w (Putted w (cutS L (putS (K.zip V) k v)) 0) := by
  have HBA := hide (bel_alloc w (.cells #[.int .i64 L, kv, vv] 30))
  have hC := check_ok (hk.below HBA.out) (hv.below HBA.out) h
  have HK := hide (hk.below HBA.out)
  have HV := hide (hv.below HBA.out)
  have HR := hide h
  have HF := hide (fitB_iff.1 hf)
  have HBX := hide (BoxN.new 30 w L kv vv)
  have HOK := hide (zip_ok hk hv)
  obtain ⟨aK, nK, cK, rfl, -⟩ := hk.form
  obtain ⟨aV, nV, cV, rfl, -⟩ := hv.form
  clear hk hv h
  go_enter Tryd.func18, Tryd.ntmps18
  go_wp2_with fail
  refine hC.mono ?_
  rintro e w1 ⟨rfl, hb1⟩
  have HB1 := hide hb1
  clear hC hb1
  go_wp2_with fail
  refine (isRight_any k v _).mono ?_
  rintro e w2 ⟨rfl, hb2⟩
  rw [hf]
  have hbB := bel_alloc w1 (.cells #[.int .i64 k, .int .i64 v] 56)
  have HX2 := hide (HBX.out.below (nextB HB1.out (nextB hbB hb2)))
  have HP2 : Hid (BoxP w2 w1.heap.size k v) := hide (blk_below hb2 (heap_alloc_new w1 _))
  have HB2 := hide (nextB hbB hb2)
  clear hbB hb2
  obtain ⟨x0, x1, x2⟩ := HX2.out.cells
  go_wp2_with fail
  clear x0 x1 x2
  refine (pairs_any L (HK.out.below (nextB HB1.out HB2.out)) (HV.out.below (nextB HB1.out HB2.out)) HR.out.same (by have := HR.out.few; omega)).mono ?_
  rintro e w3 ⟨g, n, rfl, HN, hr3, hg3, hb3⟩
  have HR3 := hide hr3
  have HG3 := hide hg3
  have HB3 := hide hb3
  obtain ⟨x0, x1, x2⟩ := (HX2.out.below hb3).cells
  clear hr3 hg3 hb3
  go_wp2_with fail
  clear x0 x1 x2
  refine (find_any L (HK.out.below (nextB (nextB HB1.out HB2.out) HB3.out)) HR.out.up (by have := HR.out.few; omega) k ⟨_, _, _, rfl⟩).mono ?_
  rintro e w4 ⟨⟨at_, ex, rfl, hfd⟩, hb4⟩
  obtain ⟨m, hsp, hor⟩ := hfd
  have HSP := hide hsp
  have HB4 := hide hb4
  have HR4 := hide (HR3.out.below hb4)
  have HX4 := hide (HX2.out.below (nextB HB3.out hb4))
  have HP4 := hide (HP2.out.below (nextB HB3.out hb4))
  clear hsp hb4
  have HB5 := hide (nextB (nextB (nextB (nextB HBA.out HB1.out) HB2.out) HB3.out) HB4.out)
  have hlt1 := heap_lt HX2.out
  have hlt2 := HB2.out.size
  have HUP : Hid (Up ((K.zip V).map Prod.fst)) := hide (by rw [zip_fst HR.out.same]; exact HR.out.up)
  rw [← zip_fst HR.out.same] at HSP hor
  have hmn : m ≤ n := by have := HSP.out.le; rw [HN.out]; simpa using this
  have hn7 : n ≤ 7 := by rw [HN.out, HR.out.len]; exact HR.out.few
  have hwg : w.heap.size < g := by have := HG3.out; omega
  obtain ⟨p0, p1⟩ := HP4.out.cells
  rcases hor with ⟨rfl, hkm, rfl⟩ | ⟨rfl, hkm, rfl⟩
  · have hml : m < n := by rw [HN.out]; have := (List.getElem?_eq_some_iff.1 hkm).1; simpa using this
    obtain ⟨v0, hv0⟩ := key_at.1 hkm
    obtain ⟨c0, c1⟩ := HR4.out.cell hv0
    have f0 := row_frozen HR4.out (m * 2)
    have f1 := row_frozen HR4.out (m * 2 + 1)
    have hset := HR4.out.set m (k, v)
    rw [putS_set HUP.out HSP.out hkm] at hset
    simp only at hset c0 c1
    have hx5 : BoxN 30 ((w4.setCell ⟨g, m * 2, none⟩ (.int .i64 k)).setCell ⟨g, m * 2 + 1, none⟩ (.int .i64 v)) w.heap.size L (.slice aK nK cK) (.slice aV nV cV) := set_else (set_else HX4.out (by omega) _) (by omega) _
    obtain ⟨x0, x1, x2⟩ := hx5.cells
    have HB6 : Hid (Below w.heap.size w ((w4.setCell ⟨g, m * 2, none⟩ (.int .i64 k)).setCell ⟨g, m * 2 + 1, none⟩ (.int .i64 v))) := hide (below_set2 HB5.out (by omega) _ _)
    have HLN : Hid ((putS (K.zip V) k v).length = n) := hide (by rw [len_put_in HUP.out HSP.out hkm, HN.out])
    have HEN : Hid (Ents ((w4.setCell ⟨g, m * 2, none⟩ (.int .i64 k)).setCell ⟨g, m * 2 + 1, none⟩ (.int .i64 v)) (.slice (some ⟨g, 0, none⟩) n n) (putS (K.zip V) k v)) := hide (Paird.ents (hide HLN.out.symm) hset (fun p hp => ((ris_putS HR.out.ris HF.out).1 p hp).i64) (by rw [HLN.out]; omega))
    have hlt3 : (m : Int) < (n : Int) := by omega
    have hge3 : (0 : Int) ≤ (m : Int) := by omega
    clear hkm hv0 hset hx5
    go_wp2_with fail
    refine (cut_any HEN.out (by rw [HLN.out]; omega) L).mono ?_
    rintro e w6 ⟨v6, rfl, hn6, hb6⟩
    have HN6 := hide hn6
    have HB7 := hide (nextB HB6.out hb6)
    obtain ⟨ao, cap, g6, n6, rfl, -⟩ := hn6
    clear hb6
    go_wp2_with fail
    go_ret2
    exact ⟨_, rfl, HN6.out, HB7.out⟩
  · have hbL := bel_alloc w4 (.cells #[.int .i64 k, .int .i64 v] 56)
    have hrL : RowE (w4.alloc (.cells #[.int .i64 k, .int .i64 v] 56)) w4.heap.size [(k, v)] := by
      have := heap_alloc_new w4 (.cells #[.int .i64 k, .int .i64 v] 56)
      simpa [RowE, cellsE] using this
    have hI := insert_any (HR4.out.below hbL) HN.out.symm (by omega) HOK.out hrL HF.out.i64 hmn (B := w2.heap.size) HG3.out
    rw [putS_ins HSP.out hkm] at hI
    have HI := hide hI
    have HLN : Hid ((putS (K.zip V) k v).length = n + 1) := hide (by rw [len_put_out HSP.out hkm, HN.out])
    have HBL := hide (nextB HB5.out hbL)
    have HXL := hide (HX4.out.below hbL)
    have HSZ : Hid (w2.heap.size ≤ (w4.alloc (.cells #[.int .i64 k, .int .i64 v] 56)).heap.size) := hide (by have := HB3.out.size; have := HB4.out.size; simp; omega)
    have e1 : IntKind.i64.wrap ((m : Int) - 1 + 1) = (m : Int) := by rw [Int.sub_add_cancel]; exact IntWalk.i64_in _ ⟨by omega, by omega⟩
    have e2 : IntKind.i64.wrap (m : Int) = (m : Int) := IntWalk.i64_in _ ⟨by omega, by omega⟩
    clear hkm hbL hrL hI
    go_wp2_with fail
    clear e1 e2
    refine HI.out.mono ?_
    rintro e w6 ⟨v6, rfl, he6, hb6⟩
    have HE6 := hide he6
    have hx6 : BoxN 30 w6 w.heap.size L (.slice aK nK cK) (.slice aV nV cV) := by
      unfold BoxN
      rw [hb6.block _ hlt1]; exact HXL.out
    obtain ⟨x0, x1, x2⟩ := hx6.cells
    have HB7 := hide (HBL.out.trans (hb6.mono (by omega)))
    obtain ⟨ao, n6, cap, rfl, -⟩ := he6.form
    clear he6 hb6 hx6 p0 p1
    go_wp2_with fail
    refine (cut_any HE6.out (by rw [HLN.out]; omega) L).mono ?_
    rintro e w7 ⟨v7, rfl, hn7', hb7⟩
    have HN7 := hide hn7'
    have HB8 := hide (nextB HB7.out hb7)
    obtain ⟨ao, cap, g7, n7, rfl, -⟩ := hn7'
    clear hb7
    go_wp2_with fail
    go_ret2
    exact ⟨_, rfl, HN7.out, HB8.out⟩
end Go.Proofs.YtcidadikmmdalaaDoor
