/- Set and Clear. -/
import Derived.Test.YtkkklobjfoehnaaDoorCf
import Derived.Deep.RegionWith
namespace Go.Proofs.YtkkklobjfoehnaaDoor
open Go.RowKit Go.Extern

/-- These numbers are set, or clear. -/
def putS (l : List Bool) (ns : List Int) (on : Bool) : List Bool := ns.foldl (fun l n => l.set n.toNat on) l
theorem putS_length (on : Bool) : ∀ (ns : List Int) (l : List Bool), (putS l ns on).length = l.length
  | [], _ => rfl
  | n :: t, l => by
    have := putS_length on t (l.set n.toNat on)
    unfold putS at this ⊢
    rw [List.foldl_cons, this, List.length_set]
theorem putS_snoc {l : List Bool} {ns : List Int} {j : Nat} {n : Int} (on : Bool) (h : ns[j]? = some n) : putS l (ns.take (j + 1)) on = (putS l (ns.take j) on).set n.toNat on := by
  unfold putS; rw [take_snoc h, List.foldl_append]; rfl
theorem row_frozen {w : World} {g : Nat} {cs : Array Value} {T : TypeId} (h : w.heap[g]? = some (.cells cs T (0, 0))) (i : Nat) : w.frozen? ⟨g, i, none⟩ = false := by
  simp [World.frozen?, h]
theorem setCell_turn {w : World} {F : Nat → Prop} {g i : Nat} (hF : F g) (u : Value) : Turn F w (w.setCell ⟨g, i, none⟩ u) :=
  ⟨rfl, rfl, rfl, by simp [World.setCell], fun k _ hn => Below.heap_setCell _ _ _ _ (fun e => hn (by rw [e]; exact hF))⟩
/-- One bit is turned. -/
theorem BmAt.store {w : World} {F : Nat → Prop} {b : Nat} {l : List Bool} {g n cap : Nat} {ws : List Nat} (h : BmAt w F b l (.slice (some ⟨g, 0, none⟩) n cap) ws) {k : Nat} (hk : k < l.length) {on : Bool} {y : Nat} (hm : IsMap (ws.set (k / 64) y) (l.set k on)) :
    BmAt (w.setCell ⟨g, k / 64, none⟩ (.int .u64 (y : Int))) F b (l.set k on) (.slice (some ⟨g, 0, none⟩) n cap) (ws.set (k / 64) y) ∧ Turn F w (w.setCell ⟨g, k / 64, none⟩ (.int .u64 (y : Int))) := by
  obtain ⟨x, g', n', cap', hv, hw, -, hlt, -, rfl⟩ := h.word hk
  obtain ⟨rfl, rfl, rfl⟩ : g = g' ∧ n = ws.length ∧ cap = cap' := by simpa using hv
  obtain ⟨g2, cap2, hv2, -, ho, -⟩ := ownsRow_store h.row (i := k / 64) (by rw [wordsC_length]; exact hlt) (.int .u64 (y : Int))
  rw [wordsC_length] at hv2
  obtain ⟨rfl, rfl⟩ : g = g2 ∧ cap = cap2 := by simpa using hv2
  have hne : g ≠ b := h.ne rfl
  refine ⟨⟨?_, ?_, hm, by simpa using h.len, h.inB, h.inV⟩, setCell_turn (h.inV g rfl) _⟩
  · rw [Below.heap_setCell _ _ _ _ (fun e => hne e.symm), h.blk, List.length_set]
  · rw [wordsC_set] at ho
    rw [wordsC_length] at ho ⊢
    rw [List.length_set]
    exact ho

/-- What a call that may be refused leaves of a bitmap. -/
structure Put (F : Nat → Prop) (b : Nat) (l : List Bool) (w w' : World) : Prop where
  bm : Bm w' F b l
  turn : Turn F w w'
theorem bits_orP (x k : Nat) (hx : x < 18446744073709551616) (hp : 2 ^ k < 18446744073709551616) : bits .or .u64 (x : Int) ((2 ^ k : Nat) : Int) = ((x ||| 2 ^ k : Nat) : Int) := bits_or_u64_nat x (2 ^ k) hx hp
theorem bits_clrP (x k : Nat) (_hx : x < 18446744073709551616) (_hp : 2 ^ k < 18446744073709551616) : bits .andNot .u64 (x : Int) ((2 ^ k : Nat) : Int) = ((clr x k : Nat) : Int) := by
  show IntKind.u64.wrap ((BitVec.ofInt 64 (x : Int) &&& ~~~ BitVec.ofInt 64 ((2 ^ k : Nat) : Int)).toNat : Int) = _
  rw [BitVec.ofInt_natCast, BitVec.ofInt_natCast]
  exact wrap_nat _ (clr_bit x k).1

set_option maxRecDepth 100000 in
set_option maxHeartbeats 1000000 in
theorem set_bad {w : World} {F : Nat → Prop} {b : Nat} {l : List Bool} (h : Bm w F b l) (v : Value) (ns : List Int) (hv : Ints w v ns) (hall : ns.all (inB l) = false) :
    Calls Tryd.prog 10 #[.pointer (some ⟨b, 0, none⟩), v] w fun e w' => e = .returned (errV 20) ∧ w' = w := by
  have HC := hide (contains_any h v ns hv)
  rw [hall] at HC
  obtain ⟨ao, cap, rfl⟩ := hv.form
  clear hv h hall
  go_enter Tryd.func10, Tryd.ntmps10
  go_wp2_with (go_at_call 23; refine HC.out.mono ?_; rintro e w' ⟨rfl, rfl⟩)
  go_ret
  exact ⟨rfl, rfl⟩
set_option maxRecDepth 100000 in
set_option maxHeartbeats 1000000 in
theorem set_ok {w : World} {F : Nat → Prop} {b : Nat} {l : List Bool} (h : Bm w F b l) (v : Value) (ns : List Int) (hv : Ints w v ns) (hout : ∀ k, v.ownBlock = some k → ¬ F k) (hall : ns.all (inB l) = true) :
    Calls Tryd.prog 10 #[.pointer (some ⟨b, 0, none⟩), v] w fun e w' => e = .returned .nilIface ∧ Put F b (putS l ns true) w w' := by
  have HC := hide (contains_any h v ns hv)
  rw [hall] at HC
  have HA := hide hall
  have HL := hide hv.len
  obtain ⟨vw, ws, h⟩ := h
  have HM := hide h
  obtain ⟨ao, cap, g0, off, rfl, h2, h3⟩ := hv.at
  have H2 := hide h2
  have H3 := hide h3
  have HO := hide hout
  clear hv h hall h2 h3 hout
  go_enter Tryd.func10, Tryd.ntmps10
  go_wp2_with (go_at_call 23; refine HC.out.mono ?_; rintro e w' ⟨rfl, rfl⟩)
  go_loopg [14] ns.length (fun k i wr => ∃ j : Nat, j + k = ns.length ∧ i = .int .i64 (j : Int) ∧ ∃ wsj, Hid (BmAt wr F b (putS l (ns.take j) true) vw wsj) ∧ Hid (Turn F w' wr))
  case atStart => exact ⟨0, by omega, rfl, ws, HM, hide (Turn.refl _ _)⟩
  case round =>
    obtain ⟨j, hj, rfl, wsj, HB, HT⟩ := hrel
    cases gk with
    | zero =>
      have hnl : ¬ (j : Int) < (ns.length : Int) := by omega
      have hend : j = ns.length := by omega
      subst hend
      go_wp2
      go_ret
      refine ⟨rfl, ⟨vw, wsj, ?_⟩, HT.out⟩
      have := HB.out
      rw [List.take_length] at this; exact this
    | succ m =>
      have hlt : j < ns.length := by omega
      have hnl : (j : Int) < (ns.length : Int) := by omega
      obtain ⟨n, hn⟩ : ∃ n, ns[j]? = some n := ⟨ns[j], by simp [hlt]⟩
      obtain rfl := H2.out (by omega)
      have cx : wr.cell? ⟨g0, off + j, none⟩ = some (.int .i64 n) := by
        have := H3.out j n hn
        rw [World.cell?_of_block (w := w') (HT.out.block g0 (cell_lt this) (HO.out g0 rfl))]; exact this
      obtain ⟨k, rfl, hk0⟩ := inB_true (l := l) (List.all_eq_true.1 HA.out n (List.mem_of_getElem? hn))
      have hk : k < (putS l (ns.take j) true).length := by rw [putS_length]; exact hk0
      have hk2 : k < 1000000 := by have := HM.out.len; omega
      obtain ⟨x, g, nw, cap2, rfl, hw, hxl, hwl, hgd, -⟩ := HB.out.word hk
      have cw := word_at HB.out hw
      rw [Nat.zero_add] at cw
      obtain ⟨-, cv⟩ := HB.out.cells
      have hm := isMap_set HB.out.map hk
      rw [hgd] at hm
      have HS := hide (HB.out.below (Below.refl _ _).drew |>.store hk hm)
      have fz : wr.frozen? ⟨g, k / 64, none⟩ = false := by
        obtain ⟨g2, cap3, cur, hv, hh, -⟩ := ownsRow_pos HB.out.row (by rw [wordsC_length]; have := (List.getElem?_eq_some_iff.1 hw).1; omega)
        obtain ⟨rfl, -⟩ : g = g2 ∧ _ := by simpa using hv
        exact row_frozen hh _
      have e1 := bits_orP x (k % 64) hxl (pow_lt k)
      have e2 : IntKind.i64.wrap ((j : Int) + 1) = (j : Int) + 1 := IntWalk.i64_in _ ⟨by omega, by have := HL.out; omega⟩
      have hge : (0 : Int) ≤ (j : Int) := by omega
      have e6 := shr6 k
      have hwn : ((k / 64 : Nat) : Int) < (nw : Int) := by omega
      have hw0 : (0 : Int) ≤ ((k / 64 : Nat) : Int) := by omega
      have HP := hide (putS_snoc (l := l) true hn)
      have HV : Hid (wr.drew.cell? ⟨b, 1, none⟩ = some (.slice (some ⟨g, 0, none⟩) nw cap2)) := hide (HB.out.below (Below.refl _ _).drew).cells.2
      have cw2 : wr.drew.cell? ⟨g, 0 + k / 64, none⟩ = some (.int .u64 (x : Int)) := word_at (HB.out.below (Below.refl _ _).drew) hw
      have fz2 : wr.drew.frozen? ⟨g, 0 + k / 64, none⟩ = false := by rw [Nat.zero_add]; exact fz
      have HW2 := hide cw2
      have HZ2 := hide fz2
      clear hm hgd hw hlt hn hk hk0 cw2 fz2 fz cw cv
      go_wp2_with fail
      refine wp_region_held_drew (S := fun wx => wx.cell? ⟨b, 1, none⟩ = some (.slice (some ⟨g, 0, none⟩) nw cap2)) (by kernel_rfl) HV.out (fun hS => ?_)
      refine take_want 0 (some 18) (.pointer (some ⟨b, 0, none⟩)) rfl rfl rfl (by kernel_rfl) (by kernel_rfl) (by kernel_rfl) (fun _ _ _ h => h) (fun wx hx => exec_move rfl rfl) hS ?_
      simp only [Act.put, List.setIfInBounds_toArray, List.set_cons_zero, List.set_cons_succ]
      refine take_want 1 (some 19) (.pointer (some ⟨b, 0, none⟩)) rfl rfl rfl (by kernel_rfl) (by kernel_rfl) (by kernel_rfl) (fun _ _ _ h => h) (fun wx hx => exec_nilCheck rfl rfl) hS ?_
      simp only [Act.put, List.setIfInBounds_toArray, List.set_cons_zero, List.set_cons_succ]
      refine take_want 2 (some 20) (.pointer (some ⟨b, 1, none⟩)) rfl rfl rfl (by kernel_rfl) (by kernel_rfl) (by kernel_rfl) (fun _ _ _ h => h) (fun wx hx => exec_field rfl (bmField1 _ wx) rfl) hS ?_
      simp only [Act.put, List.setIfInBounds_toArray, List.set_cons_zero, List.set_cons_succ]
      refine take_want 3 (some 21) (.slice (some ⟨g, 0, none⟩) nw cap2) rfl rfl rfl (by kernel_rfl) (by kernel_rfl) (by kernel_rfl) (fun _ _ _ h => h) (fun wx hx => exec_load rfl (load_words hx) rfl) hS ?_
      simp only [Act.put, List.setIfInBounds_toArray, List.set_cons_zero, List.set_cons_succ]
      refine take_want 4 (some 22) (.int .i64 (k : Int)) rfl rfl rfl (by kernel_rfl) (by kernel_rfl) (by kernel_rfl) (fun _ _ _ h => h) (fun wx hx => exec_move rfl rfl) hS ?_
      simp only [Act.put, List.setIfInBounds_toArray, List.set_cons_zero, List.set_cons_succ]
      refine take_want 5 (some 23) (.int .i64 ((k / 64 : Nat) : Int)) rfl rfl rfl (by kernel_rfl) (by kernel_rfl) (by kernel_rfl) (fun _ _ _ h => h) (fun wx hx => exec_shr6 rfl rfl rfl) hS ?_
      simp only [Act.put, List.setIfInBounds_toArray, List.set_cons_zero, List.set_cons_succ]
      refine take_want 6 (some 24) (.pointer (some ⟨g, 0 + k / 64, none⟩)) rfl rfl rfl (by kernel_rfl) (by kernel_rfl) (by kernel_rfl) (fun _ _ _ h => h) (fun wx hx => exec_index rfl (index_words hwl) rfl rfl) hS ?_
      simp only [Act.put, List.setIfInBounds_toArray, List.set_cons_zero, List.set_cons_succ]
      refine take_want 8 (some 26) (.int .i64 (k : Int)) rfl rfl rfl (by kernel_rfl) (by kernel_rfl) (by kernel_rfl) (fun _ _ _ h => h) (fun wx hx => exec_move rfl rfl) hS ?_
      simp only [Act.put, List.setIfInBounds_toArray, List.set_cons_zero, List.set_cons_succ]
      refine load_and_call 7 9 (some 25) (some 27) rfl rfl rfl rfl rfl rfl (by kernel_rfl) (by kernel_rfl) (by kernel_rfl) (vi := .int .u64 (x : Int)) (vj := .int .u64 ((2 ^ (k % 64) : Nat) : Int)) (fun q hq => by rcases hq with rfl | rfl <;> exact exec_load rfl (load_u64 HW2.out) rfl) (fun q hq => by rcases hq with rfl | rfl <;> exact exec_call1 rfl enterBit rfl rfl) (bit_any k hk2 _) hS rfl rfl ?_
      simp only [Act.put, List.setIfInBounds_toArray, List.set_cons_zero, List.set_cons_succ]
      refine take_want 10 (some 28) (.int .u64 ((x ||| 2 ^ (k % 64) : Nat) : Int)) rfl rfl rfl (by kernel_rfl) (by kernel_rfl) (by kernel_rfl) (fun _ _ _ h => h) (fun wx hx => exec_orW rfl rfl rfl hxl (pow_lt k)) hS ?_
      simp only [Act.put, List.setIfInBounds_toArray, List.set_cons_zero, List.set_cons_succ]
      refine take_want 11 (some 29) (.pointer (some ⟨g, 0 + k / 64, none⟩)) rfl rfl rfl (by kernel_rfl) (by kernel_rfl) (by kernel_rfl) (fun _ _ _ h => h) (fun wx hx => exec_index rfl (index_words hwl) rfl rfl) hS ?_
      simp only [Act.put, List.setIfInBounds_toArray, List.set_cons_zero, List.set_cons_succ]
      refine only_skip 12 none rfl rfl rfl (by kernel_rfl) (exec_store rfl (store_u64 HW2.out HZ2.out rfl) rfl rfl) ?_ ?_
      · rw [Nat.zero_add]; exact HS.out.1.cells.2
      simp only [Act.put]
      refine wpAnyH_done (by kernel_rfl) ?_ _
      go_wp2
      go_roundg m
      case measure => omega
      case rel =>
        refine ⟨j + 1, by omega, by go_num, wsj.set (k / 64) (x ||| 2 ^ (k % 64)), hide ?_, hide (HT.out.trans (Turn.trans (Turn.of_below (Below.refl _ _).drew) HS.out.2 (fun _ _ h => h)) (fun _ _ h => h))⟩
        rw [HP.out]
        exact HS.out.1

set_option maxRecDepth 100000 in
set_option maxHeartbeats 1000000 in
theorem clear_bad {w : World} {F : Nat → Prop} {b : Nat} {l : List Bool} (h : Bm w F b l) (v : Value) (ns : List Int) (hv : Ints w v ns) (hall : ns.all (inB l) = false) :
    Calls Tryd.prog 11 #[.pointer (some ⟨b, 0, none⟩), v] w fun e w' => e = .returned (errV 20) ∧ w' = w := by
  have HC := hide (contains_any h v ns hv)
  rw [hall] at HC
  obtain ⟨ao, cap, rfl⟩ := hv.form
  clear hv h hall
  go_enter Tryd.func11, Tryd.ntmps11
  go_wp2_with (go_at_call 23; refine HC.out.mono ?_; rintro e w' ⟨rfl, rfl⟩)
  go_ret
  exact ⟨rfl, rfl⟩
set_option maxRecDepth 100000 in
set_option maxHeartbeats 1000000 in
theorem clear_ok {w : World} {F : Nat → Prop} {b : Nat} {l : List Bool} (h : Bm w F b l) (v : Value) (ns : List Int) (hv : Ints w v ns) (hout : ∀ k, v.ownBlock = some k → ¬ F k) (hall : ns.all (inB l) = true) :
    Calls Tryd.prog 11 #[.pointer (some ⟨b, 0, none⟩), v] w fun e w' => e = .returned .nilIface ∧ Put F b (putS l ns false) w w' := by
  have HC := hide (contains_any h v ns hv)
  rw [hall] at HC
  have HA := hide hall
  have HL := hide hv.len
  obtain ⟨vw, ws, h⟩ := h
  have HM := hide h
  obtain ⟨ao, cap, g0, off, rfl, h2, h3⟩ := hv.at
  have H2 := hide h2
  have H3 := hide h3
  have HO := hide hout
  clear hv h hall h2 h3 hout
  go_enter Tryd.func11, Tryd.ntmps11
  go_wp2_with (go_at_call 23; refine HC.out.mono ?_; rintro e w' ⟨rfl, rfl⟩)
  go_loopg [14] ns.length (fun k i wr => ∃ j : Nat, j + k = ns.length ∧ i = .int .i64 (j : Int) ∧ ∃ wsj, Hid (BmAt wr F b (putS l (ns.take j) false) vw wsj) ∧ Hid (Turn F w' wr))
  case atStart => exact ⟨0, by omega, rfl, ws, HM, hide (Turn.refl _ _)⟩
  case round =>
    obtain ⟨j, hj, rfl, wsj, HB, HT⟩ := hrel
    cases gk with
    | zero =>
      have hnl : ¬ (j : Int) < (ns.length : Int) := by omega
      have hend : j = ns.length := by omega
      subst hend
      go_wp2
      go_ret
      refine ⟨rfl, ⟨vw, wsj, ?_⟩, HT.out⟩
      have := HB.out
      rw [List.take_length] at this; exact this
    | succ m =>
      have hlt : j < ns.length := by omega
      have hnl : (j : Int) < (ns.length : Int) := by omega
      obtain ⟨n, hn⟩ : ∃ n, ns[j]? = some n := ⟨ns[j], by simp [hlt]⟩
      obtain rfl := H2.out (by omega)
      have cx : wr.cell? ⟨g0, off + j, none⟩ = some (.int .i64 n) := by
        have := H3.out j n hn
        rw [World.cell?_of_block (w := w') (HT.out.block g0 (cell_lt this) (HO.out g0 rfl))]; exact this
      obtain ⟨k, rfl, hk0⟩ := inB_true (l := l) (List.all_eq_true.1 HA.out n (List.mem_of_getElem? hn))
      have hk : k < (putS l (ns.take j) false).length := by rw [putS_length]; exact hk0
      have hk2 : k < 1000000 := by have := HM.out.len; omega
      obtain ⟨x, g, nw, cap2, rfl, hw, hxl, hwl, hgd, -⟩ := HB.out.word hk
      have cw := word_at HB.out hw
      rw [Nat.zero_add] at cw
      obtain ⟨-, cv⟩ := HB.out.cells
      have hm := isMap_clear HB.out.map hk
      rw [hgd] at hm
      have HS := hide (HB.out.below (Below.refl _ _).drew |>.store hk hm)
      have fz : wr.frozen? ⟨g, k / 64, none⟩ = false := by
        obtain ⟨g2, cap3, cur, hv, hh, -⟩ := ownsRow_pos HB.out.row (by rw [wordsC_length]; have := (List.getElem?_eq_some_iff.1 hw).1; omega)
        obtain ⟨rfl, -⟩ : g = g2 ∧ _ := by simpa using hv
        exact row_frozen hh _
      have e1 := bits_clrP x (k % 64) hxl (pow_lt k)
      have e2 : IntKind.i64.wrap ((j : Int) + 1) = (j : Int) + 1 := IntWalk.i64_in _ ⟨by omega, by have := HL.out; omega⟩
      have hge : (0 : Int) ≤ (j : Int) := by omega
      have e6 := shr6 k
      have hwn : ((k / 64 : Nat) : Int) < (nw : Int) := by omega
      have hw0 : (0 : Int) ≤ ((k / 64 : Nat) : Int) := by omega
      have HP := hide (putS_snoc (l := l) false hn)
      have HV : Hid (wr.drew.cell? ⟨b, 1, none⟩ = some (.slice (some ⟨g, 0, none⟩) nw cap2)) := hide (HB.out.below (Below.refl _ _).drew).cells.2
      have cw2 : wr.drew.cell? ⟨g, 0 + k / 64, none⟩ = some (.int .u64 (x : Int)) := word_at (HB.out.below (Below.refl _ _).drew) hw
      have fz2 : wr.drew.frozen? ⟨g, 0 + k / 64, none⟩ = false := by rw [Nat.zero_add]; exact fz
      have HW2 := hide cw2
      have HZ2 := hide fz2
      clear hm hgd hw hlt hn hk hk0 cw2 fz2 fz cw cv
      go_wp2_with fail
      refine wp_region_held_drew (S := fun wx => wx.cell? ⟨b, 1, none⟩ = some (.slice (some ⟨g, 0, none⟩) nw cap2)) (by kernel_rfl) HV.out (fun hS => ?_)
      refine take_want 0 (some 18) (.pointer (some ⟨b, 0, none⟩)) rfl rfl rfl (by kernel_rfl) (by kernel_rfl) (by kernel_rfl) (fun _ _ _ h => h) (fun wx hx => exec_move rfl rfl) hS ?_
      simp only [Act.put, List.setIfInBounds_toArray, List.set_cons_zero, List.set_cons_succ]
      refine take_want 1 (some 19) (.pointer (some ⟨b, 0, none⟩)) rfl rfl rfl (by kernel_rfl) (by kernel_rfl) (by kernel_rfl) (fun _ _ _ h => h) (fun wx hx => exec_nilCheck rfl rfl) hS ?_
      simp only [Act.put, List.setIfInBounds_toArray, List.set_cons_zero, List.set_cons_succ]
      refine take_want 2 (some 20) (.pointer (some ⟨b, 1, none⟩)) rfl rfl rfl (by kernel_rfl) (by kernel_rfl) (by kernel_rfl) (fun _ _ _ h => h) (fun wx hx => exec_field rfl (bmField1 _ wx) rfl) hS ?_
      simp only [Act.put, List.setIfInBounds_toArray, List.set_cons_zero, List.set_cons_succ]
      refine take_want 3 (some 21) (.slice (some ⟨g, 0, none⟩) nw cap2) rfl rfl rfl (by kernel_rfl) (by kernel_rfl) (by kernel_rfl) (fun _ _ _ h => h) (fun wx hx => exec_load rfl (load_words hx) rfl) hS ?_
      simp only [Act.put, List.setIfInBounds_toArray, List.set_cons_zero, List.set_cons_succ]
      refine take_want 4 (some 22) (.int .i64 (k : Int)) rfl rfl rfl (by kernel_rfl) (by kernel_rfl) (by kernel_rfl) (fun _ _ _ h => h) (fun wx hx => exec_move rfl rfl) hS ?_
      simp only [Act.put, List.setIfInBounds_toArray, List.set_cons_zero, List.set_cons_succ]
      refine take_want 5 (some 23) (.int .i64 ((k / 64 : Nat) : Int)) rfl rfl rfl (by kernel_rfl) (by kernel_rfl) (by kernel_rfl) (fun _ _ _ h => h) (fun wx hx => exec_shr6 rfl rfl rfl) hS ?_
      simp only [Act.put, List.setIfInBounds_toArray, List.set_cons_zero, List.set_cons_succ]
      refine take_want 6 (some 24) (.pointer (some ⟨g, 0 + k / 64, none⟩)) rfl rfl rfl (by kernel_rfl) (by kernel_rfl) (by kernel_rfl) (fun _ _ _ h => h) (fun wx hx => exec_index rfl (index_words hwl) rfl rfl) hS ?_
      simp only [Act.put, List.setIfInBounds_toArray, List.set_cons_zero, List.set_cons_succ]
      refine take_want 8 (some 26) (.int .i64 (k : Int)) rfl rfl rfl (by kernel_rfl) (by kernel_rfl) (by kernel_rfl) (fun _ _ _ h => h) (fun wx hx => exec_move rfl rfl) hS ?_
      simp only [Act.put, List.setIfInBounds_toArray, List.set_cons_zero, List.set_cons_succ]
      refine load_and_call 7 9 (some 25) (some 27) rfl rfl rfl rfl rfl rfl (by kernel_rfl) (by kernel_rfl) (by kernel_rfl) (vi := .int .u64 (x : Int)) (vj := .int .u64 ((2 ^ (k % 64) : Nat) : Int)) (fun q hq => by rcases hq with rfl | rfl <;> exact exec_load rfl (load_u64 HW2.out) rfl) (fun q hq => by rcases hq with rfl | rfl <;> exact exec_call1 rfl enterBit rfl rfl) (bit_any k hk2 _) hS rfl rfl ?_
      simp only [Act.put, List.setIfInBounds_toArray, List.set_cons_zero, List.set_cons_succ]
      refine take_want 10 (some 28) (.int .u64 ((clr x (k % 64) : Nat) : Int)) rfl rfl rfl (by kernel_rfl) (by kernel_rfl) (by kernel_rfl) (fun _ _ _ h => h) (fun wx hx => exec_clrW rfl rfl rfl e1) hS ?_
      simp only [Act.put, List.setIfInBounds_toArray, List.set_cons_zero, List.set_cons_succ]
      refine take_want 11 (some 29) (.pointer (some ⟨g, 0 + k / 64, none⟩)) rfl rfl rfl (by kernel_rfl) (by kernel_rfl) (by kernel_rfl) (fun _ _ _ h => h) (fun wx hx => exec_index rfl (index_words hwl) rfl rfl) hS ?_
      simp only [Act.put, List.setIfInBounds_toArray, List.set_cons_zero, List.set_cons_succ]
      refine only_skip 12 none rfl rfl rfl (by kernel_rfl) (exec_store rfl (store_u64 HW2.out HZ2.out rfl) rfl rfl) ?_ ?_
      · rw [Nat.zero_add]; exact HS.out.1.cells.2
      simp only [Act.put]
      refine wpAnyH_done (by kernel_rfl) ?_ _
      go_wp2
      go_roundg m
      case measure => omega
      case rel =>
        refine ⟨j + 1, by omega, by go_num, wsj.set (k / 64) (clr x (k % 64)), hide ?_, hide (HT.out.trans (Turn.trans (Turn.of_below (Below.refl _ _).drew) HS.out.2 (fun _ _ h => h)) (fun _ _ h => h))⟩
        rw [HP.out]
        exact HS.out.1
end Go.Proofs.YtkkklobjfoehnaaDoor
