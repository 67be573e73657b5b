/- pairs: the keys with their values in a row of their own. -/
import Derived.Test.YtcidadikmmdalaaDoorIn
import Derived.Laws.MakeOwn
namespace Go.Proofs.YtcidadikmmdalaaDoor
open Go.RowKit Go.Extern

/-- A block that holds just these pairs. -/
def RowE (w : World) (g : Nat) (l : List En) : Prop := w.heap[g]? = some (.cells (cellsE l).toArray 56 (0, 0))
theorem RowE.below {w w' : World} {g : Nat} {l : List En} (h : RowE w g l) (hb : Below w.heap.size w w') : RowE w' g l := blk_below hb h
theorem RowE.cell {w : World} {g : Nat} {l : List En} (h : RowE w g l) {i : Nat} {p : En} (hi : l[i]? = some p) : w.cell? ⟨g, i * 2, none⟩ = some (.int .i64 p.1) ∧ w.cell? ⟨g, i * 2 + 1, none⟩ = some (.int .i64 p.2) := by
  obtain ⟨h1, h2⟩ := cellsE_at l i p hi
  rw [row_cell h, row_cell h]
  exact ⟨by simpa using h1, by simpa using h2⟩
theorem RowE.lt {w : World} {g : Nat} {l : List En} (h : RowE w g l) : g < w.heap.size := heap_lt h
theorem RowE.own {w : World} {g base : Nat} {l : List En} (h : RowE w g l) (hb : base ≤ g) (hok : ∀ p ∈ l, enOk p) (hl : l.length ≤ 1000) : OwnE 56 w base (.slice (some ⟨g, 0, none⟩) l.length l.length) l :=
  ⟨⟨cellsE_length l, .inr ⟨g, l.length, (cellsE l).toArray, rfl, hb, h, Nat.le_refl _, by unfold maxLen; omega, by simp [cellsE_length], by rw [← cellsE_length]; exact List.take_length⟩⟩, hok, hl⟩
theorem cellsE_set : ∀ (l : List En) (j : Nat) (p : En), ((cellsE l).set (j * 2) (.int .i64 p.1)).set (j * 2 + 1) (.int .i64 p.2) = cellsE (l.set j p)
  | [], j, p => by simp [cellsE]
  | q :: l, 0, p => by simp [cellsE]
  | q :: l, j + 1, p => by
    have ih := cellsE_set l j p
    rw [show (j + 1) * 2 = j * 2 + 2 by omega, show j * 2 + 2 + 1 = (j * 2 + 1) + 2 by omega]
    simpa [cellsE] using ih
theorem RowE.set {w : World} {g : Nat} {l : List En} (h : RowE w g l) (j : Nat) (p : En) : RowE ((w.setCell ⟨g, j * 2, none⟩ (.int .i64 p.1)).setCell ⟨g, j * 2 + 1, none⟩ (.int .i64 p.2)) g (l.set j p) := by
  have h1 := set_cell_row (j := j * 2) h (.int .i64 p.1)
  have h2 := set_cell_row (j := j * 2 + 1) h1 (.int .i64 p.2)
  unfold RowE
  rw [h2, ← cellsE_set]
  simp
theorem below_set2 {B g i j : Nat} {w w' : World} (hb : Below B w w') (hg : B ≤ g) (u v : Value) : Below B w ((w'.setCell ⟨g, i, none⟩ u).setCell ⟨g, j, none⟩ v) := (hb.setCell hg u).setCell hg v
theorem made_cells (n : Nat) : madeCells (#[.int .i64 0, .int .i64 0] : Array Value) (n * 2) = (cellsE (List.replicate n ((0, 0) : En))).toArray := by
  apply Array.ext'
  apply List.ext_getElem?
  intro i
  by_cases hi : i < n * 2
  · have h1 : (List.replicate n ((0, 0) : En))[i / 2]? = some (0, 0) := by rw [List.getElem?_replicate]; simp; omega
    obtain ⟨c0, c1⟩ := cellsE_at _ _ _ h1
    have e2 : (madeCells (#[.int .i64 0, .int .i64 0] : Array Value) (n * 2)).toList[i]? = some (.int .i64 0) := by
      simp [madeCells, hi]
      rcases (show i % 2 = 0 ∨ i % 2 = 1 by omega) with h | h <;> simp [h]
    rw [e2]
    rcases (show i = i / 2 * 2 ∨ i = i / 2 * 2 + 1 by omega) with e | e
    · rw [e]; simpa using c0.symm
    · rw [e]; simpa using c1.symm
  · rw [List.getElem?_eq_none (by simp [madeCells]; omega), List.getElem?_eq_none (by simp [cellsE_length]; omega)]
theorem run_mkE (n : Nat) (hn : n ≤ 1000) (w : World) : (Instr.makeSlice 53 (.int .i64 (n : Int)) (.int .i64 (n : Int))).run Tryd.prog w = .ok (.slice (some ⟨w.heap.size, 0, none⟩) n n) (w.alloc (.cells (cellsE (List.replicate n ((0, 0) : En))).toArray 56)) := by
  obtain ⟨i0, hi, hi2⟩ := Option.map_eq_some_iff.1 infoE
  simp only [Prod.mk.injEq] at hi2
  have h := run_make (P := Tryd.prog) w 53 56 i0 _ Tryd.underlying53 hi hi2.1 .i64 .i64 (n : Int) (n : Int) (by omega) (by omega) (by rw [hi2.2.2]; omega) (by omega)
  rw [hi2.2.1] at h
  simp only [Int.toNat_natCast] at h
  rw [h]
  have : (Value.agg #[.int .i64 0, .int .i64 0]).cells = #[.int .i64 0, .int .i64 0] := by rfl
  rw [this, made_cells]

/-- What pairs leaves. -/
def Paird (w : World) (l : List En) (e : Ending) (w' : World) : Prop :=
  ∃ g n, e = .returned (.slice (some ⟨g, 0, none⟩) n n) ∧ Hid (n = l.length) ∧ RowE w' g l ∧ w.heap.size ≤ g ∧ Below w.heap.size w w'
theorem set_fill {l : List En} {j m n : Nat} {p : En} (hj : l[j]? = some p) (hn : j + (m + 1) = n) (hl : l.length = n) : (l.take j ++ List.replicate (m + 1) ((0, 0) : En)).set j p = l.take (j + 1) ++ List.replicate m (0, 0) := by
  have hlt : (l.take j).length = j := by simp; omega
  rw [List.set_append_right _ _ (by omega), hlt, Nat.sub_self, List.replicate_succ, List.set_cons_zero, take_snoc hj]
  simp

set_option maxRecDepth 100000 in
set_option maxHeartbeats 1000000 in
theorem pairs_any {w : World} {kv vv : Value} {K V : List Int} (L : Int) (hk : Ints w kv K) (hv : Ints w vv V) (hs : V.length = K.length) (hl : K.length ≤ 1000) :
    Calls Tryd.prog 21 #[.agg #[.int .i64 L, kv, vv]] w (Paird w (K.zip V)) := by
  have HKZ := hide (zip_len hs)
  obtain ⟨aK, cK, gK, oK, rfl, hK1, hK2⟩ := hk.at_
  obtain ⟨aV, cV, gV, oV, rfl, hV1, hV2⟩ := hv.at_
  have HK := hide hk
  have HV := hide hv
  have HK1 := hide hK1
  have HK2 := hide hK2
  have HV1 := hide hV1
  have HV2 := hide hV2
  obtain ⟨n, hn⟩ : ∃ n, K.length = n := ⟨_, rfl⟩
  rw [hn] at hs hl
  rw [hs, hn]
  have hm := run_mkE n hl (w.alloc (.cells #[.int .i64 L, .slice aK n cK, .slice aV n cV] 30))
  have HN := hide hn
  have HNV := hide hs
  clear hk hv hK1 hK2 hV1 hV2 hn hs
  go_enter Tryd.func21, Tryd.ntmps21
  go_wp2_with fail
  go_loopg [13] n (fun k i wr => ∃ j : Nat, j + k = n ∧ i = .int .i64 (j : Int) ∧ Hid (wr.heap[w.heap.size]? = some (.cells #[.int .i64 L, .slice aK n cK, .slice aV n cV] 30 (0, 0))) ∧ Hid (RowE wr (w.heap.size + 1) ((K.zip V).take j ++ List.replicate k (0, 0))) ∧ Hid (Below w.heap.size w wr))
  case atStart =>
    refine ⟨0, by omega, rfl, hide ?_, hide ?_, hide (nextB (bel_alloc _ _) (bel_alloc _ _))⟩
    · exact heap_new2 _ _ _
    · have := heap_alloc_new (w.alloc (.cells #[.int .i64 L, .slice aK n cK, .slice aV n cV] 30)) (.cells (cellsE (List.replicate n ((0, 0) : En))).toArray 56)
      rw [World.size_alloc] at this
      simpa [RowE] using this
  case round =>
    obtain ⟨j, hj, rfl, HB1, HR, HBw⟩ := hrel
    cases gk with
    | zero =>
      have hnl : ¬ (j : Int) < (n : Int) := by omega
      have e0 : (K.zip V).take j ++ List.replicate 0 ((0, 0) : En) = K.zip V := by
        rw [List.take_of_length_le (by rw [HKZ.out, HN.out]; omega)]; simp
      rw [e0] at HR
      clear e0
      go_wp2_with fail
      go_ret
      exact ⟨_, n, rfl, hide (by rw [HKZ.out, HN.out]), HR.out, by omega, HBw.out⟩
    | succ m =>
      have hlt : (j : Int) < (n : Int) := by omega
      have hb0 : (0 : Int) ≤ (j : Int) := by omega
      obtain ⟨k, hkj⟩ : ∃ k, K[j]? = some k := ⟨K[j]'(by rw [HN.out]; omega), by rw [List.getElem?_eq_getElem]⟩
      obtain ⟨v, hvj⟩ : ∃ v, V[j]? = some v := ⟨V[j]'(by rw [HNV.out]; omega), by rw [List.getElem?_eq_getElem]⟩
      have hz : (K.zip V)[j]? = some (k, v) := by rw [List.getElem?_zip_eq_some]; exact ⟨hkj, hvj⟩
      obtain rfl := HK1.out (by rw [HN.out]; omega)
      obtain rfl := HV1.out (by rw [HNV.out]; omega)
      have k1 := HK2.out j k hkj
      have v1 := HV2.out j v hvj
      rw [← HBw.out.cell (cell_lt k1)] at k1
      rw [← HBw.out.cell (cell_lt v1)] at v1
      have b1 := row_cell HB1.out 1
      have b2 := row_cell HB1.out 2
      simp at b1 b2
      have hr0 : ((K.zip V).take j ++ List.replicate (m + 1) ((0, 0) : En))[j]? = some (0, 0) := by
        have hlt0 : ((K.zip V).take j).length = j := by rw [List.length_take, HKZ.out, HN.out]; omega
        rw [List.getElem?_append_right (by omega), hlt0, Nat.sub_self]; rfl
      obtain ⟨c0, c1⟩ := HR.out.cell hr0
      have f0 := row_frozen HR.out (j * 2)
      have f1 := row_frozen HR.out (j * 2 + 1)
      have HF := hide (set_fill hz (m := m) hj (by rw [HKZ.out, HN.out]))
      have hj63 : (j : Int) + 1 < 140737488355328 + 1 := by omega
      clear hkj hvj hz hr0
      go_wp2_with fail
      go_roundg m
      case measure => omega
      case rel =>
        refine ⟨j + 1, by omega, by go_num, hide ?_, hide ?_, hide (below_set2 HBw.out (by omega) _ _)⟩
        · rw [Below.heap_setCell _ _ _ _ (by simp), Below.heap_setCell _ _ _ _ (by simp)]; exact HB1.out
        · have := HR.out.set j (k, v)
          rw [HF.out] at this
          exact this
end Go.Proofs.YtcidadikmmdalaaDoor
