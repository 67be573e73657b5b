/- A packer by the contracts of its calls. -/
import Derived.Test.YtlgmfiboekmhkabDoorUnp
namespace Go.Proofs.YtlgmfiboekmhkabDoor
open Go.RowKit Go.Extern

/-- The value 'v' is, in the world 'w', a slice of the numbers 'ns'. -/
def Ints (w : World) (v : Value) (ns : List Int) : Prop :=
  ∃ ao cap g off, v = .slice ao ns.length cap ∧ (0 < ns.length → ao = some ⟨g, off, none⟩) ∧ (∀ (i : Nat) n, ns[i]? = some n → w.cell? ⟨g, off + i, none⟩ = some (.int .i64 n)) ∧ (∀ n ∈ ns, -9223372036854775808 ≤ n ∧ n < 9223372036854775808) ∧ ns.length ≤ 140737488355328
theorem Ints.below {w w' : World} (hb : Below w.heap.size w w') {v : Value} {ns : List Int} (h : Ints w v ns) : Ints w' v ns := by
  obtain ⟨ao, cap, g, off, h1, h2, h3, h4⟩ := h
  exact ⟨ao, cap, g, off, h1, h2, fun i q hq => by rw [hb.cell (cell_lt (h3 i q hq))]; exact h3 i q hq, h4⟩

/-- Of what was there nothing has turned but the block 'b' and the row 'row'. -/
structure Frm (w w' : World) (b : Nat) (row : Option Nat) : Prop where
  os : w'.os = w.os
  tape : w'.tape = w.tape
  output : w'.output = w.output
  size : w.heap.size ≤ w'.heap.size
  block : ∀ k, k < w.heap.size → k ≠ b → some k ≠ row → w'.heap[k]? = w.heap[k]?
theorem Frm.refl (w : World) (b : Nat) (row : Option Nat) : Frm w w b row := ⟨rfl, rfl, rfl, Nat.le_refl _, fun _ _ _ _ => rfl⟩
theorem Frm.trans {w w1 w2 : World} {b : Nat} {row row1 : Option Nat} (h : Frm w w1 b row) (k : Frm w1 w2 b row1) (hr : row1 = row ∨ row1 = none ∨ ∃ j, row1 = some j ∧ w.heap.size ≤ j) : Frm w w2 b row := by
  refine ⟨k.os.trans h.os, k.tape.trans h.tape, k.output.trans h.output, Nat.le_trans h.size k.size, fun i hi h1 h2 => ?_⟩
  rw [k.block i (Nat.lt_of_lt_of_le hi h.size) h1 ?_, h.block i hi h1 h2]
  rcases hr with rfl | rfl | ⟨j, rfl, hj⟩
  · exact h2
  · simp
  · intro e; have := Option.some.inj e; omega
theorem Frm.of_grown {w w' : World} {b : Nat} {row : Option Nat} (h : w.grownBy w' row) : Frm w w' b row := ⟨h.os, h.tape, h.output, h.size, fun k hk _ hr => h.block k hk hr⟩
theorem Frm.of_set {w w' : World} {b : Nat} {row : Option Nat} (h : w.grownBy w' (some b)) : Frm w w' b row := ⟨h.os, h.tape, h.output, h.size, fun k hk hb _ => h.block k hk (by simpa using hb)⟩
theorem Frm.below {w w' : World} {b : Nat} {row : Option Nat} {B : Nat} (h : Frm w w' b row) (hB : B ≤ w.heap.size) (hb : B ≤ b) (hr : ∀ k, row = some k → B ≤ k) : Below B w w' :=
  ⟨h.os, h.tape, h.output, h.size, fun k hk => h.block k (by omega) (by omega) (fun e => by have := hr k e.symm; omega)⟩
theorem Frm.heap {w w' : World} {b : Nat} {row : Option Nat} (h : Frm w w' b row) {k : Nat} {o : Obj} (hk : w.heap[k]? = some o) (h1 : k ≠ b) (h2 : some k ≠ row) : w'.heap[k]? = some o := by
  rw [h.block k ?_ h1 h2]; exact hk
  rcases Nat.lt_or_ge k w.heap.size with q | q
  · exact q
  · rw [Array.getElem?_eq_none q] at hk; cases hk

/-- In the world 'w' the block 'b' is a packer of the bytes 'xs', which lie in the row 'row' from 'base' on; spoiled or not. -/
def Pk (w : World) (base b : Nat) (row : Option Nat) (xs : List Nat) (sp : Bool) : Prop :=
  ∃ ao n cap, w.heap[b]? = some (.cells #[.slice ao n cap, .bool sp] 53 (0, 0)) ∧ Own w base (.slice ao n cap) xs ∧ row = (Value.slice ao n cap).ownBlock ∧ row ≠ some b ∧ (sp = true → xs = []) ∧ base ≤ b ∧ base ≤ w.heap.size
theorem Pk.block {w : World} {base b : Nat} {row : Option Nat} {xs : List Nat} {sp : Bool} (h : Pk w base b row xs sp) : b < w.heap.size := by
  obtain ⟨ao, n, cap, h1, -⟩ := h
  rcases Nat.lt_or_ge b w.heap.size with q | q
  · exact q
  · rw [Array.getElem?_eq_none q] at h1; cases h1
theorem Pk.row_ge {w : World} {base b : Nat} {row : Option Nat} {xs : List Nat} {sp : Bool} (h : Pk w base b row xs sp) : ∀ k, row = some k → base ≤ k ∧ k < w.heap.size := by
  obtain ⟨ao, n, cap, h1, h2, rfl, -⟩ := h
  exact h2.lt
theorem Pk.below {w w' : World} {base b : Nat} {row : Option Nat} {xs : List Nat} {sp : Bool} (h : Pk w base b row xs sp) (hb : Below w.heap.size w w') : Pk w' base b row xs sp := by
  obtain ⟨ao, n, cap, h1, h2, h3, h4, h5, h6, h7⟩ := h
  exact ⟨ao, n, cap, heap_below hb h1, h2.below hb, h3, h4, h5, h6, Nat.le_trans h7 hb.size⟩
theorem Own.of_block {w w' : World} {base : Nat} {v : Value} {xs : List Nat} (h : Own w base v xs) (hk : ∀ k, v.ownBlock = some k → ∀ o, w.heap[k]? = some o → w'.heap[k]? = some o) : Own w' base v xs := by
  obtain ⟨⟨h1, h2⟩, h3⟩ := h
  refine ⟨⟨h1, ?_⟩, h3⟩
  rcases h2 with h2 | ⟨g, cap, cur, rfl, hg, hh, r⟩
  · exact Or.inl h2
  · exact Or.inr ⟨g, cap, cur, rfl, hg, hk g rfl _ hh, r⟩
/-- Another packer is as it was. -/
theorem Pk.other {w w' : World} {base b b2 : Nat} {row row2 : Option Nat} {xs : List Nat} {sp : Bool} (h : Pk w base b row xs sp) (hf : Frm w w' b2 row2) (h1 : b ≠ b2) (h2 : some b ≠ row2) (h3 : row ≠ some b2) (h4 : row = none ∨ row ≠ row2) : Pk w' base b row xs sp := by
  obtain ⟨ao, n, cap, k1, k2, k3, k4, k5, k6, k7⟩ := h
  refine ⟨ao, n, cap, hf.heap k1 h1 h2, k2.of_block (fun k hk o ho => hf.heap ho ?_ ?_), k3, k4, k5, k6, Nat.le_trans k7 hf.size⟩
  · intro e; subst e; exact h3 (k3.trans hk)
  · intro e
    rcases h4 with h4 | h4
    · rw [k3, hk] at h4; cases h4
    · exact h4 (k3.trans (hk.trans e))

theorem newPacker_any (w : World) :
    Calls Tryd.prog 10 #[] w fun e w' => e = .returned (.pointer (some ⟨w.heap.size, 0, none⟩)) ∧ Pk w' w.heap.size w.heap.size none [] false ∧ Below w.heap.size w w' := by
  go_enter Tryd.func10, Tryd.ntmps10
  go_wp2
  go_ret
  refine ⟨rfl, ⟨none, 0, 0, heap_alloc_new w _, Own.nil _ _, rfl, by simp, by simp, Nat.le_refl _, by simp⟩, (Below.refl _ _).alloc (Nat.le_refl _) _⟩

/-- The bytes of numbers. -/
def bytesOf (wd : Nat) (ns : List Int) : List Nat := ns.flatMap fun n => be wd n.toNat
theorem bytesOf_snoc (wd : Nat) (ns : List Int) (n : Int) : bytesOf wd (ns ++ [n]) = bytesOf wd ns ++ be wd n.toNat := by simp [bytesOf]
theorem bytesOf_length (wd : Nat) : ∀ ns : List Int, (bytesOf wd ns).length = wd * ns.length
  | [] => by simp [bytesOf]
  | n :: ns => by
    have := bytesOf_length wd ns
    simp only [bytesOf, List.flatMap_cons, List.length_append, be_length, List.length_cons] at *
    rw [this, Nat.mul_succ]; omega

theorem Own.not_b {w : World} {base b : Nat} {v : Value} {xs : List Nat} (h : Own w base v xs) (hne : v.ownBlock ≠ some b) (z : Value) (i : Nat) : Own (w.setCell ⟨b, i, none⟩ z) base v xs :=
  h.of_block fun k hk o ho => by
    rw [Below.heap_setCell]; exact ho
    intro e; subst e; exact hne hk

/-- A number that is read through a frame. -/
theorem ints_cell {w wr : World} {b : Nat} {row : Option Nat} {ao : Option Addr} {n cap : Nat} {sp : Bool} {T : TypeId} (hh : w.heap[b]? = some (.cells #[.slice ao n cap, .bool sp] T (0, 0))) (hf : Frm w wr b row) {g o : Nat} {z : Int} (hc : w.cell? ⟨g, o, none⟩ = some (.int .i64 z)) (hr : some g ≠ row) : wr.cell? ⟨g, o, none⟩ = some (.int .i64 z) := by
  have hgb : g ≠ b := by
    intro e
    subst e
    rw [cell_of_row w g _ _ _ _ hh] at hc
    rcases Nat.lt_or_ge o 2 with hl | hl
    · rcases (by omega : o = 0 ∨ o = 1) with e | e <;> rw [e] at hc <;> simp at hc
    · rw [Array.getElem?_eq_none (by simpa using hl)] at hc; cases hc
  rw [World.cell?_of_block (w := w) (hf.block g (cell_lt hc) hgb hr)]; exact hc

theorem Pk.spoiled {w : World} {base b : Nat} {ao : Option Addr} {n cap : Nat} {sp : Bool} (h1 : w.heap[b]? = some (.cells #[.slice ao n cap, .bool sp] 53 (0, 0))) (hb : base ≤ b) (hw : base ≤ w.heap.size) :
    Pk ((w.setCell ⟨b, 0, none⟩ (.slice none 0 0)).setCell ⟨b, 1, none⟩ (.bool true)) base b none [] true :=
  ⟨none, 0, 0, two_set1 _ (two_set0 _ h1), Own.nil _ _, rfl, by simp, fun _ => rfl, hb, by simpa [World.setCell] using hw⟩

/-- What a call of a packer that is not spoiled leaves. -/
def Putted (wd base b : Nat) (row : Option Nat) (xs : List Nat) (ns : List Int) (w w' : World) : Prop :=
  ∃ row', Pk w' base b row' (if ns.all (fitB · wd) then xs ++ bytesOf wd ns else []) (!ns.all (fitB · wd)) ∧ Frm w w' b row ∧ (∀ k, row' = some k → row = some k ∨ w.heap.size ≤ k)

set_option maxRecDepth 100000 in
set_option maxHeartbeats 1000000 in
theorem pput_any (wd : Nat) (hwd : wd = 1 ∨ wd = 2 ∨ wd = 4 ∨ wd = 8) (base b : Nat) (row : Option Nat) (xs : List Nat) (ns : List Int) (v : Value) (w : World) (hp : Pk w base b row xs false) (hv : Ints w v ns) (hlen : xs.length + 8 * ns.length + 8 ≤ 140737488355328) (hnr : ∀ g cap, v = .slice (some g) ns.length cap → some g.block ≠ row) :
    Calls Tryd.prog 27 #[.pointer (some ⟨b, 0, none⟩), .int .i64 (wd : Int), v] w fun e w' => e = .returned (.pointer (some ⟨b, 0, none⟩)) ∧ Putted wd base b row xs ns w w' := by
  obtain ⟨ao, cap, g, off, rfl, h2, h3, h4, h5⟩ := hv
  have H2 := hide h2
  have H3 := hide h3
  have H4 := hide h4
  have H5 := hide h5
  have HP := hide hp
  have HNR := hide hnr
  have HWD := hide hwd
  have HLEN := hide hlen
  clear h2 h3 h4 h5 hp hnr hwd hlen
  go_enter Tryd.func27, Tryd.ntmps27
  go_wp2
  go_loopg [11] ns.length (fun k i wr => ∃ j rowr, j + k = ns.length ∧ i = .int .i64 (j : Int) ∧ (ns.take j).all (fitB · wd) = true ∧ Pk wr base b rowr (xs ++ bytesOf wd (ns.take j)) false ∧ Frm w wr b row ∧ (∀ k, rowr = some k → row = some k ∨ w.heap.size ≤ k))
  case atStart => exact ⟨0, row, by omega, rfl, rfl, by simpa [bytesOf] using HP.out, Frm.refl _ _ _, fun _ h => .inl h⟩
  case round =>
    obtain ⟨j, rowr, hj, rfl, hall, hpr, hfr, hrr⟩ := hrel
    have HA := hide hall
    have HPR := hide hpr
    have HFR := hide hfr
    have HRR := hide hrr
    clear hall hpr hfr hrr
    cases gk with
    | zero =>
      have hnl : ¬ (j : Int) < (ns.length : Int) := by omega
      have hend : ns.take j = ns := List.take_of_length_le (by omega)
      rw [hend] at HA HPR
      clear hend
      go_wp2
      go_ret
      refine ⟨rfl, rowr, ?_, HFR.out, HRR.out⟩
      rw [HA.out]; exact HPR.out
    | succ m =>
      have hjl : j < ns.length := by omega
      have hlt : (j : Int) < (ns.length : Int) := by omega
      have hb0 : (0 : Int) ≤ (j : Int) := by omega
      obtain ⟨n, hn⟩ : ∃ n, ns[j]? = some n := ⟨ns[j], by simp [hjl]⟩
      obtain rfl := H2.out (by omega)
      obtain ⟨aow, nw, capw, hw1, -⟩ := HP.out
      have k1 := ints_cell hw1 HFR.out (H3.out j n hn) (HNR.out ⟨g, off, none⟩ cap rfl)
      obtain ⟨hn1, hn2⟩ := H4.out n (List.mem_of_getElem? hn)
      have HNJ := hide hn
      have HTS := hide (take_snoc hn)
      have HJ : Hid ((j : Int) + 1 < 140737488355328 + 1) := by have := H5.out; show _ < _; omega
      obtain ⟨aor, nr, capr, h1, ho, hrow, hrb, -, hbb, hbs⟩ := HPR.out
      have c0 := two_cell0 h1
      have c1 := two_cell1 h1
      have f0 := two_frozen h1 0
      have f1 := two_frozen h1 1
      have HH := hide h1
      have HO := hide ho
      clear hn hw1 h1 ho
      by_cases hfit : fitB n wd = true
      · have hf' : 0 ≤ n ∧ n ≤ (great wd : Int) := by simpa [fitB] using hfit
        obtain ⟨hf1, hf2⟩ := hf'
        obtain ⟨z, rfl⟩ : ∃ z : Nat, n = (z : Int) := ⟨n.toNat, by omega⟩
        have hz0 : ¬ (z : Int) < 0 := by omega
        have hz1 : ¬ (great wd : Int) < (z : Int) := by omega
        have hw64 : IntKind.u64.wrap (z : Int) = (z : Int) := by rw [IntKind.wrap_u64]; omega
        have HFIT := hide hfit
        have hlb : (xs ++ bytesOf wd (ns.take j)).length + 8 ≤ 140737488355328 := by
          rw [List.length_append, bytesOf_length, List.length_take]
          have h8 : wd ≤ 8 := by have := HWD.out; omega
          have hlen := HLEN.out
          have : wd * min j ns.length ≤ 8 * ns.length := Nat.mul_le_mul h8 (Nat.min_le_right _ _)
          omega
        have HLB := hide hlb
        clear hfit hlb
        have HROW := hide hrow
        have HRB := hide hrb
        clear hf1 hf2 hn1 hn2 hrow hrb
        have dz0 : decide ((z : Int) < 0) = false := by simp
        have dz1 : decide (great wd < z) = false := by simp; omega
        clear hz0 hz1
        go_wp2_with fail
        refine (greatest_any wd HWD.out _).mono ?_
        rintro e w' ⟨rfl, rfl⟩
        go_wp2_with fail
        have hrow := HROW.out
        have hrb := HRB.out
        refine (appendNumber_any wd HWD.out z _ _ base _ HO.out hbs HLB.out).mono ?_
        rintro e w1 ⟨u, rfl, hgw⟩
        obtain ⟨ao2, n2, cap2, rfl, HN2⟩ := hgw.form'
        have HGW := hide hgw
        have hb1 : w1.heap[b]? = some (.cells #[.slice aor nr capr, .bool false] 53 (0, 0)) := by
          rw [hgw.grown.block b HPR.out.block (by rw [← hrow]; exact fun e => hrb e.symm)]; exact HH.out
        have d0 := two_cell0 hb1
        have d1 := two_frozen hb1 0
        have HB1 := hide hb1
        clear hgw hb1
        have hjj := HJ.out
        go_wp2
        go_roundg m
        case measure => omega
        case rel =>
          have hne : (Value.slice ao2 n2 cap2).ownBlock ≠ some b := by
            intro e
            rcases HGW.out.at_ b e with h | h
            · exact hrb (hrow.trans h)
            · have := HPR.out.block; omega
          refine ⟨j + 1, (Value.slice ao2 n2 cap2).ownBlock, by omega, by go_num, ?_, ⟨ao2, n2, cap2, two_set0 _ HB1.out, ?_, rfl, hne, by simp, hbb, ?_⟩, ?_, ?_⟩
          · rw [HTS.out, List.all_append, HA.out]; simpa using HFIT.out
          · rw [HTS.out, bytesOf_snoc, ← List.append_assoc]; exact HGW.out.own.not_b hne _ _
          · have := HGW.out.grown.size; simp [World.setCell]; omega
          · refine (HFR.out.trans (Frm.of_grown HGW.out.grown) ?_).trans (Frm.of_set (row := none) (grown_set _ b 0 _)) (.inr (.inl rfl))
            rw [← hrow]
            cases hrr : rowr with
            | none => exact .inr (.inl rfl)
            | some k =>
              rcases HRR.out k hrr with h | h
              · exact .inl h.symm
              · exact .inr (.inr ⟨k, rfl, h⟩)
          · intro k hk
            rcases HGW.out.at_ k hk with h | h
            · exact HRR.out k (hrow.trans h)
            · right; have := HFR.out.size; omega
      · have hfit' : fitB n wd = false := by simpa using hfit
        have HALL : Hid (ns.all (fitB · wd) = false) := by
          show _ = _
          rw [List.all_eq_false]
          exact ⟨n, List.mem_of_getElem? HNJ.out, by simpa using hfit'⟩
        have hf' : n < 0 ∨ (great wd : Int) < n := by
          have : ¬ (0 ≤ n ∧ n ≤ (great wd : Int)) := by simpa [fitB] using hfit'
          omega
        clear hfit hfit'
        by_cases hn0 : n < 0
        · go_wp2
          go_ret
          refine ⟨rfl, none, ?_, HFR.out.trans (Frm.of_set (row := none) ((grown_set _ b 0 _).trans (grown_set _ b 1 _))) (.inr (.inl rfl)), by simp⟩
          rw [HALL.out]; exact Pk.spoiled HH.out hbb hbs
        · obtain ⟨z, rfl⟩ : ∃ z : Nat, n = (z : Int) := ⟨n.toNat, by omega⟩
          have dz0 : decide ((z : Int) < 0) = false := by simp
          have dz1 : decide (great wd < z) = true := by simp; omega
          have hw64 : IntKind.u64.wrap (z : Int) = (z : Int) := by rw [IntKind.wrap_u64]; omega
          go_wp2_with (go_at_call 30; refine (greatest_any wd HWD.out _).mono ?_; rintro e w' ⟨rfl, rfl⟩)
          go_ret
          refine ⟨rfl, none, ?_, HFR.out.trans (Frm.of_set (row := none) ((grown_set _ b 0 _).trans (grown_set _ b 1 _))) (.inr (.inl rfl)), by simp⟩
          rw [HALL.out]; exact Pk.spoiled HH.out hbb hbs
end Go.Proofs.YtlgmfiboekmhkabDoor
