/- Has. -/
import Derived.Test.YtkkklobjfoehnaaDoorSm
import Derived.Test.YtkkklobjfoehnaaDoorTk
namespace Go.Proofs.YtkkklobjfoehnaaDoor
open Go.RowKit Go.Extern

/-- One bitmap, as it was. -/
structure HB (w : World) (F : Nat → Prop) (b : Nat) (l : List Bool) (v : Value) (ws : List Nat) (wx : World) : Prop where
  bm : BmAt wx F b l v ws
  bel : Below w.heap.size w wx
theorem below_next {w w1 w2 : World} (h : Below w.heap.size w w1) (k : Below w1.heap.size w1 w2) : Below w.heap.size w w2 := h.trans (k.mono h.size)
theorem HB.below {w : World} {F : Nat → Prop} {b : Nat} {l : List Bool} {v : Value} {ws : List Nat} {wx wy : World} (h : HB w F b l v ws wx) (hb : Below wx.heap.size wx wy) : HB w F b l v ws wy := ⟨h.bm.below hb, below_next h.bel hb⟩
theorem lacks_out {w : World} {F : Nat → Prop} {b : Nat} {l : List Bool} {v : Value} {ws : List Nat} (h : BmAt w F b l v ws) {i : Int} (hi : inB l i = false) :
    Calls Tryd.prog 24 #[.pointer (some ⟨b, 0, none⟩), .int .i64 i] w fun e w' => e = .returned (.bool true) ∧ w' = w := by
  have := lacks_cell h.cells.1 i
  rw [hi] at this; exact this
theorem lacks_in {w : World} {F : Nat → Prop} {b : Nat} {l : List Bool} {v : Value} {ws : List Nat} (h : BmAt w F b l v ws) {i : Int} (hi : inB l i = true) :
    Calls Tryd.prog 24 #[.pointer (some ⟨b, 0, none⟩), .int .i64 i] w fun e w' => e = .returned (.bool false) ∧ w' = w := by
  have := lacks_cell h.cells.1 i
  rw [hi] at this; exact this
theorem word_at {w : World} {F : Nat → Prop} {b : Nat} {l : List Bool} {g n cap : Nat} {ws : List Nat} (h : BmAt w F b l (.slice (some ⟨g, 0, none⟩) n cap) ws) {j x : Nat} (hx : ws[j]? = some x) : w.cell? ⟨g, 0 + j, none⟩ = some (.int .u64 (x : Int)) := by
  have := World.ownsRow.cells h.row (g := g) rfl j _ (wordsC_get hx)
  rw [add_plain] at this; exact this
/-- The word of a number. -/
theorem BmAt.word {w : World} {F : Nat → Prop} {b : Nat} {l : List Bool} {v : Value} {ws : List Nat} (h : BmAt w F b l v ws) {k : Nat} (hk : k < l.length) : ∃ x g n cap, v = .slice (some ⟨g, 0, none⟩) n cap ∧ ws[k / 64]? = some x ∧ x < 18446744073709551616 ∧ k / 64 < n ∧ ws.getD (k / 64) 0 = x ∧ n = ws.length := by
  obtain ⟨x, hx, hxl, hd⟩ := h.map.word hk
  have hlen : k / 64 < ws.length := (List.getElem?_eq_some_iff.1 hx).1
  obtain ⟨g, cap, cur, hv, -⟩ := ownsRow_pos h.row (by rw [wordsC_length]; omega)
  rw [wordsC_length] at hv
  exact ⟨x, g, ws.length, cap, hv, hx, hxl, hlen, hd, rfl⟩

set_option maxRecDepth 100000 in
set_option maxHeartbeats 1000000 in
theorem has_any {w : World} {F : Nat → Prop} {b : Nat} {l : List Bool} (h : Bm w F b l) (i : Int) :
    Calls Tryd.prog 16 #[.pointer (some ⟨b, 0, none⟩), .int .i64 i] w fun e w' => e = .returned (.bool (hasS l i)) ∧ Below w.heap.size w w' := by
  obtain ⟨v, ws, h⟩ := h
  have HH : Hid (HB w F b l v ws w.drew) := hide ⟨h.below (Below.refl _ _).drew, (Below.refl _ _).drew⟩
  cases hi : inB l i with
  | false =>
    rw [hasS_out hi]
    clear h
    go_enter Tryd.func16, Tryd.ntmps16
    go_wp2_with fail
    refine wp_region_held_drew (S := HB w F b l v ws) (by kernel_rfl) HH.out (fun hS => ?_)
    refine take_want 0 (some 5) (.pointer (some ⟨b, 0, none⟩)) rfl rfl rfl (by kernel_rfl) (by kernel_rfl) (by kernel_rfl) (fun _ _ _ h => h) (fun wx hx => exec_move rfl rfl) hS ?_
    simp only [Act.put, List.setIfInBounds_toArray, List.set_cons_zero, List.set_cons_succ]
    refine take_want 1 (some 6) (.int .i64 i) rfl rfl rfl (by kernel_rfl) (by kernel_rfl) (by kernel_rfl) (fun _ _ _ h => h) (fun wx hx => exec_move rfl rfl) hS ?_
    simp only [Act.put, List.setIfInBounds_toArray, List.set_cons_zero, List.set_cons_succ]
    refine call_want 2 (some 7) rfl rfl rfl (by kernel_rfl) (exec_call2 rfl enterLacks rfl rfl rfl) ((lacks_out hS.bm hi).mono ?_)
    rintro e' w' ⟨rfl, rfl⟩
    refine ⟨_, rfl, hS, ?_⟩
    simp only [Act.put, List.setIfInBounds_toArray, List.set_cons_zero, List.set_cons_succ]
    refine take_want 3 (some 8) (.bool false) rfl rfl rfl (by kernel_rfl) (by kernel_rfl) (by kernel_rfl) (fun _ _ _ h => h) (fun wx hx => exec_not (b := true) rfl rfl) hS ?_
    simp only [Act.put, List.setIfInBounds_toArray, List.set_cons_zero, List.set_cons_succ]
    refine take_want 4 (some 9) (.bool false) rfl rfl rfl (by kernel_rfl) (by kernel_rfl) (by kernel_rfl) (fun _ _ _ h => h) (fun wx hx => exec_move rfl rfl) hS ?_
    simp only [Act.put, List.setIfInBounds_toArray, List.set_cons_zero, List.set_cons_succ]
    refine skip_want 5 (some 10) rfl rfl rfl (by kernel_rfl) (by kernel_rfl) (by kernel_rfl) (fun _ _ _ h => h) hS ?_
    simp only [Act.put, List.setIfInBounds_toArray, List.set_cons_zero, List.set_cons_succ]
    refine skip_want 6 (some 11) rfl rfl rfl (by kernel_rfl) (by kernel_rfl) (by kernel_rfl) (fun _ _ _ h => h) hS ?_
    simp only [Act.put, List.setIfInBounds_toArray, List.set_cons_zero, List.set_cons_succ]
    refine skip_want 7 (some 12) rfl rfl rfl (by kernel_rfl) (by kernel_rfl) (by kernel_rfl) (fun _ _ _ h => h) hS ?_
    simp only [Act.put, List.setIfInBounds_toArray, List.set_cons_zero, List.set_cons_succ]
    refine skip_want 8 (some 13) rfl rfl rfl (by kernel_rfl) (by kernel_rfl) (by kernel_rfl) (fun _ _ _ h => h) hS ?_
    simp only [Act.put, List.setIfInBounds_toArray, List.set_cons_zero, List.set_cons_succ]
    refine skip_want 9 (some 14) rfl rfl rfl (by kernel_rfl) (by kernel_rfl) (by kernel_rfl) (fun _ _ _ h => h) hS ?_
    simp only [Act.put, List.setIfInBounds_toArray, List.set_cons_zero, List.set_cons_succ]
    refine skip_want 10 (some 15) rfl rfl rfl (by kernel_rfl) (by kernel_rfl) (by kernel_rfl) (fun _ _ _ h => h) hS ?_
    simp only [Act.put, List.setIfInBounds_toArray, List.set_cons_zero, List.set_cons_succ]
    refine skip_want 11 (some 16) rfl rfl rfl (by kernel_rfl) (by kernel_rfl) (by kernel_rfl) (fun _ _ _ h => h) hS ?_
    simp only [Act.put, List.setIfInBounds_toArray, List.set_cons_zero, List.set_cons_succ]
    refine skip_want 12 (some 17) rfl rfl rfl (by kernel_rfl) (by kernel_rfl) (by kernel_rfl) (fun _ _ _ h => h) hS ?_
    simp only [Act.put, List.setIfInBounds_toArray, List.set_cons_zero, List.set_cons_succ]
    refine skip_want 13 (some 18) rfl rfl rfl (by kernel_rfl) (by kernel_rfl) (by kernel_rfl) (fun _ _ _ h => h) hS ?_
    simp only [Act.put, List.setIfInBounds_toArray, List.set_cons_zero, List.set_cons_succ]
    refine skip_want 14 (some 19) rfl rfl rfl (by kernel_rfl) (by kernel_rfl) (by kernel_rfl) (fun _ _ _ h => h) hS ?_
    simp only [Act.put, List.setIfInBounds_toArray, List.set_cons_zero, List.set_cons_succ]
    refine skip_want 15 (some 20) rfl rfl rfl (by kernel_rfl) (by kernel_rfl) (by kernel_rfl) (fun _ _ _ h => h) hS ?_
    simp only [Act.put, List.setIfInBounds_toArray, List.set_cons_zero, List.set_cons_succ]
    refine skip_want 16 (some 21) rfl rfl rfl (by kernel_rfl) (by kernel_rfl) (by kernel_rfl) (fun _ _ _ h => h) hS ?_
    simp only [Act.put, List.setIfInBounds_toArray, List.set_cons_zero, List.set_cons_succ]
    refine take_want 17 (some 22) (.bool false) rfl rfl rfl (by kernel_rfl) (by kernel_rfl) (by kernel_rfl) (fun _ _ _ h => h) (fun wx hx => exec_pickF rfl rfl rfl) hS ?_
    simp only [Act.put, List.setIfInBounds_toArray, List.set_cons_zero, List.set_cons_succ]
    refine take_want 18 (some 4) (.bool false) rfl rfl rfl (by kernel_rfl) (by kernel_rfl) (by kernel_rfl) (fun _ _ _ h => h) (fun wx hx => exec_assign rfl rfl) hS ?_
    simp only [Act.put, List.setIfInBounds_toArray, List.set_cons_zero, List.set_cons_succ]
    refine wpAnyH_done (by kernel_rfl) ?_ _
    go_wp2_with fail
    go_ret
    exact ⟨rfl, hS.bel⟩
  | true =>
    obtain ⟨k, rfl, hk⟩ := inB_true hi
    rw [hasS_nat]
    have hk2 : k < 1000000 := by have := h.len; omega
    obtain ⟨x, g, n, cap, rfl, hw, hxl, hlt, hgd, -⟩ := h.word hk
    have hbit : (((x &&& 2 ^ (k % 64) : Nat) : Int) != 0) = l.getD k false := by
      have h1 := h.map.bit k
      unfold bitAt at h1
      rw [hgd] at h1
      have h2 := and_bit_ne x (k % 64)
      rw [h1] at h2
      cases hq : l.getD k false with
      | false => rw [hq] at h2; have := h2.2 rfl; simp [this]
      | true => rw [hq] at h2; have : ¬ (x &&& 2 ^ (k % 64) = 0) := fun e => by have := h2.1 e; cases this
                simp only [bne_iff_ne, ne_eq]; omega
    clear h hgd
    go_enter Tryd.func16, Tryd.ntmps16
    go_wp2_with fail
    refine wp_region_held_drew (S := HB w F b l (.slice (some ⟨g, 0, none⟩) n cap) ws) (by kernel_rfl) HH.out (fun hS => ?_)
    refine take_want 0 (some 5) (.pointer (some ⟨b, 0, none⟩)) rfl rfl rfl (by kernel_rfl) (by kernel_rfl) (by kernel_rfl) (fun _ _ _ h => h) (fun wx hx => exec_move rfl rfl) hS ?_
    simp only [Act.put, List.setIfInBounds_toArray, List.set_cons_zero, List.set_cons_succ]
    refine take_want 1 (some 6) (.int .i64 (k : Int)) rfl rfl rfl (by kernel_rfl) (by kernel_rfl) (by kernel_rfl) (fun _ _ _ h => h) (fun wx hx => exec_move rfl rfl) hS ?_
    simp only [Act.put, List.setIfInBounds_toArray, List.set_cons_zero, List.set_cons_succ]
    refine call_want 2 (some 7) rfl rfl rfl (by kernel_rfl) (exec_call2 rfl enterLacks rfl rfl rfl) ((lacks_in hS.bm hi).mono ?_)
    rintro e' w' ⟨rfl, rfl⟩
    refine ⟨_, rfl, hS, ?_⟩
    simp only [Act.put, List.setIfInBounds_toArray, List.set_cons_zero, List.set_cons_succ]
    refine take_want 3 (some 8) (.bool true) rfl rfl rfl (by kernel_rfl) (by kernel_rfl) (by kernel_rfl) (fun _ _ _ h => h) (fun wx hx => exec_not (b := false) rfl rfl) hS ?_
    simp only [Act.put, List.setIfInBounds_toArray, List.set_cons_zero, List.set_cons_succ]
    refine take_want 4 (some 9) (.bool true) rfl rfl rfl (by kernel_rfl) (by kernel_rfl) (by kernel_rfl) (fun _ _ _ h => h) (fun wx hx => exec_move rfl rfl) hS ?_
    simp only [Act.put, List.setIfInBounds_toArray, List.set_cons_zero, List.set_cons_succ]
    refine take_want 5 (some 10) (.pointer (some ⟨b, 0, none⟩)) rfl rfl rfl (by kernel_rfl) (by kernel_rfl) (by kernel_rfl) (fun _ _ _ h => h) (fun wx hx => exec_move rfl rfl) hS ?_
    simp only [Act.put, List.setIfInBounds_toArray, List.set_cons_zero, List.set_cons_succ]
    refine take_want 6 (some 11) (.pointer (some ⟨b, 0, none⟩)) rfl rfl rfl (by kernel_rfl) (by kernel_rfl) (by kernel_rfl) (fun _ _ _ h => h) (fun wx hx => exec_nilCheck rfl rfl) hS ?_
    simp only [Act.put, List.setIfInBounds_toArray, List.set_cons_zero, List.set_cons_succ]
    refine take_want 7 (some 12) (.pointer (some ⟨b, 1, none⟩)) rfl rfl rfl (by kernel_rfl) (by kernel_rfl) (by kernel_rfl) (fun _ _ _ h => h) (fun wx hx => exec_field rfl (bmField1 _ wx) rfl) hS ?_
    simp only [Act.put, List.setIfInBounds_toArray, List.set_cons_zero, List.set_cons_succ]
    refine take_want 8 (some 13) (.slice (some ⟨g, 0, none⟩) n cap) rfl rfl rfl (by kernel_rfl) (by kernel_rfl) (by kernel_rfl) (fun _ _ _ h => h) (fun wx hx => exec_load rfl (load_words hx.bm.cells.2) rfl) hS ?_
    simp only [Act.put, List.setIfInBounds_toArray, List.set_cons_zero, List.set_cons_succ]
    refine take_want 9 (some 14) (.int .i64 (k : Int)) rfl rfl rfl (by kernel_rfl) (by kernel_rfl) (by kernel_rfl) (fun _ _ _ h => h) (fun wx hx => exec_move rfl rfl) hS ?_
    simp only [Act.put, List.setIfInBounds_toArray, List.set_cons_zero, List.set_cons_succ]
    refine take_want 10 (some 15) (.int .i64 ((k / 64 : Nat) : Int)) rfl rfl rfl (by kernel_rfl) (by kernel_rfl) (by kernel_rfl) (fun _ _ _ h => h) (fun wx hx => exec_shr6 rfl rfl rfl) hS ?_
    simp only [Act.put, List.setIfInBounds_toArray, List.set_cons_zero, List.set_cons_succ]
    refine take_want 11 (some 16) (.pointer (some ⟨g, 0 + k / 64, none⟩)) rfl rfl rfl (by kernel_rfl) (by kernel_rfl) (by kernel_rfl) (fun _ _ _ h => h) (fun wx hx => exec_index rfl (index_words hlt) rfl rfl) hS ?_
    simp only [Act.put, List.setIfInBounds_toArray, List.set_cons_zero, List.set_cons_succ]
    refine take_want 12 (some 17) (.int .u64 (x : Int)) rfl rfl rfl (by kernel_rfl) (by kernel_rfl) (by kernel_rfl) (fun _ _ _ h => h) (fun wx hx => exec_load rfl (load_u64 (word_at hx.bm hw)) rfl) hS ?_
    simp only [Act.put, List.setIfInBounds_toArray, List.set_cons_zero, List.set_cons_succ]
    refine take_want 13 (some 18) (.int .i64 (k : Int)) rfl rfl rfl (by kernel_rfl) (by kernel_rfl) (by kernel_rfl) (fun _ _ _ h => h) (fun wx hx => exec_move rfl rfl) hS ?_
    simp only [Act.put, List.setIfInBounds_toArray, List.set_cons_zero, List.set_cons_succ]
    refine call_want 14 (some 19) rfl rfl rfl (by kernel_rfl) (exec_call1 rfl enterBit rfl rfl) ((bit_any k hk2 _).mono ?_)
    rintro e' w' ⟨rfl, rfl⟩
    refine ⟨_, rfl, hS, ?_⟩
    simp only [Act.put, List.setIfInBounds_toArray, List.set_cons_zero, List.set_cons_succ]
    refine take_want 15 (some 20) (.int .u64 ((x &&& 2 ^ (k % 64) : Nat) : Int)) rfl rfl rfl (by kernel_rfl) (by kernel_rfl) (by kernel_rfl) (fun _ _ _ h => h) (fun wx hx => exec_andW rfl rfl rfl hxl (pow_lt k)) hS ?_
    simp only [Act.put, List.setIfInBounds_toArray, List.set_cons_zero, List.set_cons_succ]
    refine take_want 16 (some 21) (.bool (l.getD k false)) rfl rfl rfl (by kernel_rfl) (by kernel_rfl) (by kernel_rfl) (fun _ _ _ h => h) (fun wx hx => exec_neqU rfl rfl rfl hbit) hS ?_
    simp only [Act.put, List.setIfInBounds_toArray, List.set_cons_zero, List.set_cons_succ]
    refine take_want 17 (some 22) (.bool (l.getD k false)) rfl rfl rfl (by kernel_rfl) (by kernel_rfl) (by kernel_rfl) (fun _ _ _ h => h) (fun wx hx => exec_pickT rfl rfl rfl) hS ?_
    simp only [Act.put, List.setIfInBounds_toArray, List.set_cons_zero, List.set_cons_succ]
    refine take_want 18 (some 4) (.bool (l.getD k false)) rfl rfl rfl (by kernel_rfl) (by kernel_rfl) (by kernel_rfl) (fun _ _ _ h => h) (fun wx hx => exec_assign rfl rfl) hS ?_
    simp only [Act.put, List.setIfInBounds_toArray, List.set_cons_zero, List.set_cons_succ]
    refine wpAnyH_done (by kernel_rfl) ?_ _
    go_wp2_with fail
    go_ret
    exact ⟨rfl, hS.bel⟩
end Go.Proofs.YtkkklobjfoehnaaDoor
