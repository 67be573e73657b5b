/- Clone and Same by their contracts. -/
import Derived.Test.YtliboiajhhnajaaMem
import Derived.Lib.SliceRun
namespace Go.Proofs.Ytliboiajhhnajaa
open Go.RowKit Go.Extern

set_option maxRecDepth 100000 in
theorem clone_any (bs : List Nat) (v : Value) (w : World) (hv : Bytes w v bs) :
    Calls Try.prog 44 #[v] w fun e w' => ∃ u, e = .returned u ∧ Own w' w.heap.size u bs ∧ Below w.heap.size w w' := by
  have HV := hide hv
  obtain ⟨ao, cap, g, off, rfl, h2, -, -, -, h6, -⟩ := hv
  cases ao with
  | none =>
    have hy : bs = [] := by
      rcases Nat.eq_zero_or_pos bs.length with h | h
      · exact List.length_eq_zero_iff.1 h
      · cases h2 h
    subst hy
    obtain rfl := h6 rfl
    clear h2 h6
    have q1 := Lib.run_eql_slice_nil (P := Try.prog) w 31 5 none 0 0 0 0 Try.underlying31
    go_enter Try.func44, Try.ntmps44
    go_wp2
    go_ret
    exact ⟨_, rfl, Own.nil _ _, Below.refl _ _⟩
  | some ad =>
    clear h2 h6
    have q1 := Lib.run_eql_slice_nil (P := Try.prog) w 31 5 (some ad) bs.length cap 0 0 Try.underlying31
    go_enter Try.func44, Try.ntmps44
    go_wp2_with (at_builtin; refine wpList_append_bytes rfl _ _ rfl w.heap.size _ _ [] bs rfl rfl (Own.lit w w.heap.size (Nat.le_refl _) [] (by simp) (by simp)) (HV.out.below ((Below.refl _ _).alloc (Nat.le_refl _) _)) (by have := HV.out.len; simpa using this) (by simp) ?_)
    intro v' w' ho hg hat
    have HO := hide ho
    have HG := hide (((Below.refl w.heap.size w).alloc (Nat.le_refl _) (.cells (cellsB []).toArray 5)).grown hg (by simp) (by simp [Value.ownBlock]))
    obtain ⟨ao2, cap2, rfl⟩ := ho.form
    clear ho hg hat
    go_wp2
    go_ret
    exact ⟨_, rfl, HO.out, HG.out⟩

/-- Bytes as a string. -/
def strB (bs : List Nat) : ByteArray := ⟨(bs.map UInt8.ofNat).toArray⟩
theorem strB_nums (bs : List Nat) : strOfNums (bs.map fun b : Nat => (b : Int)) = strB bs := by
  unfold strOfNums strB; congr 2; rw [List.map_map]; rfl
theorem strB_inj : ∀ (a b : List Nat), (∀ x ∈ a, x < 256) → (∀ x ∈ b, x < 256) → strB a = strB b → a = b := by
  intro a b ha hb h
  have h1 : a.map UInt8.ofNat = b.map UInt8.ofNat := by
    have := congrArg (fun s => s.data.toList) h
    simpa [strB] using this
  have h2 := congrArg (List.map UInt8.toNat) h1
  have key : ∀ l : List Nat, (∀ x ∈ l, x < 256) → (l.map UInt8.ofNat).map UInt8.toNat = l := by
    intro l hl
    rw [List.map_map]
    conv => rhs; rw [← List.map_id l]
    exact List.map_congr_left fun x hx => by simpa using hl x hx
  rw [key a ha, key b hb] at h2
  exact h2
theorem run_conv (w : World) (v : Value) (bs : List Nat) (hv : Bytes w v bs) : (convert 31 9 v).run Try.prog w = .ok (.string (strB bs)) w := by
  obtain ⟨ao, cap, g, off, rfl, h2, h3, h4, h5, h6, h7, h8⟩ := hv
  rcases Nat.eq_zero_or_pos bs.length with h | h
  · have : bs = [] := List.length_eq_zero_iff.1 h
    subst this
    cases ao with
    | none => exact run_convert_bytes_nil (P := Try.prog) w 31 5 Try.underlying31 Try.underlying5 0 cap 9 Try.underlying9
    | some ad =>
      have hl : (loadCells ad 0).run Try.prog w = .ok (([] : List Int).map (Value.int .u8)).toArray w := by
        have := run_loadCells_list (P := Try.prog) w ad [] (by simp)
        simpa using this
      show (convert 31 9 (.slice (some ad) 0 cap)).run Try.prog w = _
      rw [run_convert_bytes_string w 31 9 5 _ 0 cap Try.underlying31 Try.underlying5 Try.underlying9, run_bytesToString w _ 0 cap [] hl]
      rfl
  · obtain rfl := h2 h
    rw [run_convert_bytes_arg (P := Try.prog) w 31 5 Try.underlying31 Try.underlying5 g off bs.length cap (bs.map fun b : Nat => (b : Int)) (by simp) (fun i hi => ?_) 9 Try.underlying9, strB_nums]
    rw [h3 i bs[i] (by simp [hi])]
    simp [List.getD, hi]

theorem same_any (a b : List Nat) (v u : Value) (w : World) (hv : Bytes w v a) (hu : Bytes w u b) :
    Calls Try.prog 17 #[v, u] w fun e w' => e = .returned (.bool (decide (a = b))) ∧ w' = w := by
  have e1 := run_conv w v a hv
  have e2 := run_conv w u b hu
  have HE : Hid (((strB a).toList == (strB b).toList) = decide (a = b)) := by
    show _ = _
    rw [ByteArray.toList_eq, ByteArray.toList_eq, Bool.eq_iff_iff, beq_iff_eq, decide_eq_true_iff]
    exact ⟨fun h => strB_inj a b hv.lt hu.lt (by have : (strB a).data = (strB b).data := Array.toList_inj.1 h
                                                 cases h1 : strB a; cases h2 : strB b; simp_all), fun h => by rw [h]⟩
  obtain ⟨ao, cap, g, off, rfl, -⟩ := hv
  obtain ⟨ao2, cap2, g2, off2, rfl, -⟩ := hu
  generalize strB a = sa at e1 HE
  generalize strB b = sb at e2 HE
  go_enter Try.func17, Try.ntmps17
  go_wp2
  go_ret
  exact ⟨by rw [← HE.out]; rfl, rfl⟩
end Go.Proofs.Ytliboiajhhnajaa
