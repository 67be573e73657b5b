/- The calls of packers and unpackers by their contracts. -/
import Derived.Test.YtlgmfiboekmhkabDoorPk
namespace Go.Proofs.YtlgmfiboekmhkabDoor
open Go.RowKit Go.Extern

/-- What a call of a spoiled packer leaves. -/
def Stays (base b : Nat) (row : Option Nat) (w w' : World) : Prop :=
  ∃ row', Pk w' base b row' [] true ∧ Frm w w' b row ∧ (∀ k, row' = some k → row = some k ∨ w.heap.size ≤ k)
theorem stays_refl {base b : Nat} {row : Option Nat} {w : World} (h : Pk w base b row [] true) : Stays base b row w w := ⟨row, h, Frm.refl _ _ _, fun _ h => .inl h⟩

set_option maxRecDepth 100000 in
set_option maxHeartbeats 1000000 in
theorem pput_spoiled (wd : Nat) (hwd : wd = 1 ∨ wd = 2 ∨ wd = 4 ∨ wd = 8) (base b : Nat) (row : Option Nat) (ns : List Int) (v : Value) (w : World) (hp : Pk w base b row [] true) (hv : Ints w v ns) :
    Calls Tryd.prog 27 #[.pointer (some ⟨b, 0, none⟩), .int .i64 (wd : Int), v] w fun e w' => e = .returned (.pointer (some ⟨b, 0, none⟩)) ∧ Stays base b row w w' := by
  obtain ⟨ao, cap, g, off, rfl, h2, h3, h4, -⟩ := hv
  have H2 := hide h2
  have H3 := hide h3
  have H4 := hide h4
  have HP := hide hp
  have HWD := hide hwd
  clear h2 h3 h4 hp hwd
  go_enter Tryd.func27, Tryd.ntmps27
  go_wp2
  go_loopg [11] 0 (fun _ i wr => wr = w ∧ i = .int .i64 0)
  case atStart => exact ⟨rfl, rfl⟩
  case round =>
    obtain ⟨rfl, rfl⟩ := hrel
    by_cases hns : ns.length = 0
    · have hnl : ¬ (0 : Int) < (ns.length : Int) := by omega
      clear hns
      go_wp2
      go_ret
      exact ⟨rfl, stays_refl HP.out⟩
    · have hjl : 0 < ns.length := by omega
      have hlt : (0 : Int) < (ns.length : Int) := by omega
      obtain ⟨n, hn⟩ : ∃ n, ns[0]? = some n := ⟨ns[0], by simp [hjl]⟩
      obtain rfl := H2.out (by omega)
      have k1 : wr.cell? ⟨g, off, none⟩ = some (.int .i64 n) := H3.out 0 n hn
      obtain ⟨hn1, hn2⟩ := H4.out n (List.mem_of_getElem? hn)
      obtain ⟨aor, nr, capr, h1, ho, hrow, hrb, hx, hbb, hbs⟩ := HP.out
      have c0 := two_cell0 h1
      have c1 := two_cell1 h1
      have f0 := two_frozen h1 0
      have f1 := two_frozen h1 1
      have HH := hide h1
      have HE : Hid (Stays base b row wr ((wr.setCell ⟨b, 0, none⟩ (.slice none 0 0)).setCell ⟨b, 1, none⟩ (.bool true))) :=
        ⟨none, Pk.spoiled h1 hbb hbs, Frm.of_set ((grown_set _ b 0 _).trans (grown_set _ b 1 _)), by simp⟩
      clear hn h1 ho hrow hrb hx hbb hbs hns
      by_cases hn0 : n < 0
      · go_wp2
        go_ret
        exact ⟨rfl, HE.out⟩
      · obtain ⟨z, rfl⟩ : ∃ z : Nat, n = (z : Int) := ⟨n.toNat, by omega⟩
        have hw64 : IntKind.u64.wrap (z : Int) = (z : Int) := by rw [IntKind.wrap_u64]; omega
        have dz0 : decide ((z : Int) < 0) = false := by simp
        clear hn0 hn1 hn2
        by_cases hg : great wd < z
        · have dz1 : decide (great wd < z) = true := by simpa using hg
          clear hg
          go_wp2_with (go_at_call 30; refine (greatest_any wd HWD.out _).mono ?_; rintro e w' ⟨rfl, rfl⟩)
          go_ret
          exact ⟨rfl, HE.out⟩
        · have dz1 : decide (great wd < z) = false := by simpa using hg
          clear hg
          go_wp2_with (go_at_call 30; refine (greatest_any wd HWD.out _).mono ?_; rintro e w' ⟨rfl, rfl⟩)
          go_ret
          exact ⟨rfl, stays_refl HP.out⟩

theorem pbytes_spoiled (base b : Nat) (row : Option Nat) (w : World) (hp : Pk w base b row [] true) :
    Calls Tryd.prog 12 #[.pointer (some ⟨b, 0, none⟩)] w fun e w' => e = .returned (.tuple #[.slice none 0 0, errV 20]) ∧ w' = w := by
  obtain ⟨ao, n, cap, h1, -⟩ := hp
  have c1 := two_cell1 h1
  clear h1
  go_enter Tryd.func12, Tryd.ntmps12
  go_wp2
  go_ret2
  exact ⟨rfl, rfl⟩
theorem pbytes_any (base b : Nat) (row : Option Nat) (xs : List Nat) (w : World) (hp : Pk w base b row xs false) :
    Calls Tryd.prog 12 #[.pointer (some ⟨b, 0, none⟩)] w fun e w' => ∃ u, e = .returned (.tuple #[u, errV 0]) ∧ Own w' w.heap.size u xs ∧ Below w.heap.size w w' := by
  obtain ⟨ao, n, cap, h1, h2, -⟩ := hp
  have c0 := two_cell0 h1
  have c1 := two_cell1 h1
  have H2 := hide (clone_any xs _ w h2.bytes)
  clear h1 h2
  go_enter Tryd.func12, Tryd.ntmps12
  go_wp2_with fail
  refine H2.out.mono ?_
  rintro e w' ⟨u, rfl, ho, hb⟩
  have HO := hide ho
  have HB := hide hb
  obtain ⟨ao2, cap2, rfl⟩ := ho.form
  clear ho hb
  go_wp2
  go_ret2
  exact ⟨_, rfl, HO.out, HB.out⟩

theorem newUnpacker_any (bs : List Nat) (v : Value) (w : World) (hv : Bytes w v bs) :
    Calls Tryd.prog 13 #[v] w fun e w' => ∃ b, e = .returned (.pointer (some ⟨b, 0, none⟩)) ∧ w.heap.size ≤ b ∧ Unp w' b bs false ∧ Below w.heap.size w w' := by
  have H2 := hide (clone_any bs _ w hv)
  obtain ⟨ao, cap, g, off, rfl, -⟩ := hv
  go_enter Tryd.func13, Tryd.ntmps13
  go_wp2_with fail
  refine H2.out.mono ?_
  rintro e w1 ⟨u, rfl, ho, hb⟩
  have HO := hide ho
  have HB := hide hb
  obtain ⟨ao2, cap2, rfl⟩ := ho.form
  clear ho hb
  go_wp2
  go_ret
  refine ⟨_, rfl, HB.out.size, ⟨ao2, _, cap2, heap_alloc_new _ _, HO.out.bytes.below ((Below.refl _ _).alloc (Nat.le_refl _) _), by simp⟩, HB.out.alloc HB.out.size _⟩

theorem done_any (b : Nat) (left : List Nat) (sp : Bool) (w : World) (hu : Unp w b left sp) :
    Calls Tryd.prog 15 #[.pointer (some ⟨b, 0, none⟩)] w fun e w' => e = .returned (errV (if sp || decide (0 < left.length) then 14 else 0)) ∧ w' = w := by
  obtain ⟨ao, n, cap, h1, h2, h3⟩ := hu
  have c0 := two_cell0 h1
  have c1 := two_cell1 h1
  obtain ⟨ao', cap', g, off, e, -⟩ := h2
  simp only [Value.slice.injEq] at e
  obtain ⟨rfl, rfl, rfl⟩ := e
  clear h1 h3
  cases sp with
  | true =>
    go_enter Tryd.func15, Tryd.ntmps15
    go_wp2
    go_ret
    exact ⟨rfl, rfl⟩
  | false =>
    by_cases hl : 0 < left.length
    · have hl' : (0 : Int) < (left.length : Int) := by omega
      have HE : Hid (errV (if false || decide (0 < left.length) then 14 else 0) = errV 14) := by show _ = _; simp [hl]
      rw [HE.out]
      go_enter Tryd.func15, Tryd.ntmps15
      go_wp2
      go_ret
      exact ⟨rfl, rfl⟩
    · have hl' : ¬ (0 : Int) < (left.length : Int) := by omega
      have HE : Hid (errV (if false || decide (0 < left.length) then 14 else 0) = errV 0) := by show _ = _; simp [hl]
      rw [HE.out]
      go_enter Tryd.func15, Tryd.ntmps15
      go_wp2
      go_ret
      exact ⟨rfl, rfl⟩

theorem PByte_any (base b : Nat) (row : Option Nat) (xs : List Nat) (ns : List Int) (v : Value) (w : World) (hp : Pk w base b row xs false) (hv : Ints w v ns) (hlen : xs.length + 8 * ns.length + 8 ≤ 140737488355328) (hnr : ∀ g cap, v = .slice (some g) ns.length cap → some g.block ≠ row) :
    Calls Tryd.prog 11 #[.pointer (some ⟨b, 0, none⟩), v] w fun e w' => e = .returned (.pointer (some ⟨b, 0, none⟩)) ∧ Putted 1 base b row xs ns w w' := by
  have H := hide (pput_any 1 (by simp) base b row xs ns v w hp hv hlen hnr)
  obtain ⟨ao, cap, g, off, rfl, -⟩ := hv
  clear hp hnr hlen
  go_enter Tryd.func11, Tryd.ntmps11
  go_wp2_with fail
  refine H.out.mono ?_
  rintro e w' ⟨rfl, hq⟩
  have HQ := hide hq
  clear hq H
  go_wp2
  go_ret
  exact ⟨rfl, HQ.out⟩
theorem PByte_spoiled (base b : Nat) (row : Option Nat) (ns : List Int) (v : Value) (w : World) (hp : Pk w base b row [] true) (hv : Ints w v ns) :
    Calls Tryd.prog 11 #[.pointer (some ⟨b, 0, none⟩), v] w fun e w' => e = .returned (.pointer (some ⟨b, 0, none⟩)) ∧ Stays base b row w w' := by
  have H := hide (pput_spoiled 1 (by simp) base b row ns v w hp hv)
  obtain ⟨ao, cap, g, off, rfl, -⟩ := hv
  clear hp
  go_enter Tryd.func11, Tryd.ntmps11
  go_wp2_with fail
  refine H.out.mono ?_
  rintro e w' ⟨rfl, hq⟩
  have HQ := hide hq
  clear hq H
  go_wp2
  go_ret
  exact ⟨rfl, HQ.out⟩
theorem PWord_any (base b : Nat) (row : Option Nat) (xs : List Nat) (ns : List Int) (v : Value) (w : World) (hp : Pk w base b row xs false) (hv : Ints w v ns) (hlen : xs.length + 8 * ns.length + 8 ≤ 140737488355328) (hnr : ∀ g cap, v = .slice (some g) ns.length cap → some g.block ≠ row) :
    Calls Tryd.prog 17 #[.pointer (some ⟨b, 0, none⟩), v] w fun e w' => e = .returned (.pointer (some ⟨b, 0, none⟩)) ∧ Putted 4 base b row xs ns w w' := by
  have H := hide (pput_any 4 (by simp) base b row xs ns v w hp hv hlen hnr)
  obtain ⟨ao, cap, g, off, rfl, -⟩ := hv
  clear hp hnr hlen
  go_enter Tryd.func17, Tryd.ntmps17
  go_wp2_with fail
  refine H.out.mono ?_
  rintro e w' ⟨rfl, hq⟩
  have HQ := hide hq
  clear hq H
  go_wp2
  go_ret
  exact ⟨rfl, HQ.out⟩
theorem PWord_spoiled (base b : Nat) (row : Option Nat) (ns : List Int) (v : Value) (w : World) (hp : Pk w base b row [] true) (hv : Ints w v ns) :
    Calls Tryd.prog 17 #[.pointer (some ⟨b, 0, none⟩), v] w fun e w' => e = .returned (.pointer (some ⟨b, 0, none⟩)) ∧ Stays base b row w w' := by
  have H := hide (pput_spoiled 4 (by simp) base b row ns v w hp hv)
  obtain ⟨ao, cap, g, off, rfl, -⟩ := hv
  clear hp
  go_enter Tryd.func17, Tryd.ntmps17
  go_wp2_with fail
  refine H.out.mono ?_
  rintro e w' ⟨rfl, hq⟩
  have HQ := hide hq
  clear hq H
  go_wp2
  go_ret
  exact ⟨rfl, HQ.out⟩
theorem PLong_any (base b : Nat) (row : Option Nat) (xs : List Nat) (ns : List Int) (v : Value) (w : World) (hp : Pk w base b row xs false) (hv : Ints w v ns) (hlen : xs.length + 8 * ns.length + 8 ≤ 140737488355328) (hnr : ∀ g cap, v = .slice (some g) ns.length cap → some g.block ≠ row) :
    Calls Tryd.prog 16 #[.pointer (some ⟨b, 0, none⟩), v] w fun e w' => e = .returned (.pointer (some ⟨b, 0, none⟩)) ∧ Putted 8 base b row xs ns w w' := by
  have H := hide (pput_any 8 (by simp) base b row xs ns v w hp hv hlen hnr)
  obtain ⟨ao, cap, g, off, rfl, -⟩ := hv
  clear hp hnr hlen
  go_enter Tryd.func16, Tryd.ntmps16
  go_wp2_with fail
  refine H.out.mono ?_
  rintro e w' ⟨rfl, hq⟩
  have HQ := hide hq
  clear hq H
  go_wp2
  go_ret
  exact ⟨rfl, HQ.out⟩
theorem PLong_spoiled (base b : Nat) (row : Option Nat) (ns : List Int) (v : Value) (w : World) (hp : Pk w base b row [] true) (hv : Ints w v ns) :
    Calls Tryd.prog 16 #[.pointer (some ⟨b, 0, none⟩), v] w fun e w' => e = .returned (.pointer (some ⟨b, 0, none⟩)) ∧ Stays base b row w w' := by
  have H := hide (pput_spoiled 8 (by simp) base b row ns v w hp hv)
  obtain ⟨ao, cap, g, off, rfl, -⟩ := hv
  clear hp
  go_enter Tryd.func16, Tryd.ntmps16
  go_wp2_with fail
  refine H.out.mono ?_
  rintro e w' ⟨rfl, hq⟩
  have HQ := hide hq
  clear hq H
  go_wp2
  go_ret
  exact ⟨rfl, HQ.out⟩
theorem UByte_any (b : Nat) (left : List Nat) (sp : Bool) (w : World) (hu : Unp w b left sp) :
    Calls Tryd.prog 14 #[.pointer (some ⟨b, 0, none⟩)] w fun e w' => e = .returned (.int .i64 (rdN left 1 : Nat)) ∧ Unp w' b (rdL left 1) (rdS left sp 1) ∧ w.grownBy w' (some b) := by
  have H := hide (unext_any 1 (by simp) b left sp w hu)
  clear hu
  generalize rdN left 1 = x at *
  generalize rdL left 1 = y at *
  generalize rdS left sp 1 = z at *
  go_enter Tryd.func14, Tryd.ntmps14
  go_wp2_with fail
  refine H.out.mono ?_
  rintro e w' ⟨rfl, hq, hg⟩
  have HQ := hide hq
  have HG := hide hg
  clear hq hg H
  go_wp2
  go_ret
  exact ⟨rfl, HQ.out, HG.out⟩
theorem UWord_any (b : Nat) (left : List Nat) (sp : Bool) (w : World) (hu : Unp w b left sp) :
    Calls Tryd.prog 21 #[.pointer (some ⟨b, 0, none⟩)] w fun e w' => e = .returned (.int .i64 (rdN left 4 : Nat)) ∧ Unp w' b (rdL left 4) (rdS left sp 4) ∧ w.grownBy w' (some b) := by
  have H := hide (unext_any 4 (by simp) b left sp w hu)
  clear hu
  generalize rdN left 4 = x at *
  generalize rdL left 4 = y at *
  generalize rdS left sp 4 = z at *
  go_enter Tryd.func21, Tryd.ntmps21
  go_wp2_with fail
  refine H.out.mono ?_
  rintro e w' ⟨rfl, hq, hg⟩
  have HQ := hide hq
  have HG := hide hg
  clear hq hg H
  go_wp2
  go_ret
  exact ⟨rfl, HQ.out, HG.out⟩
theorem ULong_any (b : Nat) (left : List Nat) (sp : Bool) (w : World) (hu : Unp w b left sp) :
    Calls Tryd.prog 20 #[.pointer (some ⟨b, 0, none⟩)] w fun e w' => e = .returned (.int .i64 (rdN left 8 : Nat)) ∧ Unp w' b (rdL left 8) (rdS left sp 8) ∧ w.grownBy w' (some b) := by
  have H := hide (unext_any 8 (by simp) b left sp w hu)
  clear hu
  generalize rdN left 8 = x at *
  generalize rdL left 8 = y at *
  generalize rdS left sp 8 = z at *
  go_enter Tryd.func20, Tryd.ntmps20
  go_wp2_with fail
  refine H.out.mono ?_
  rintro e w' ⟨rfl, hq, hg⟩
  have HQ := hide hq
  have HG := hide hg
  clear hq hg H
  go_wp2
  go_ret
  exact ⟨rfl, HQ.out, HG.out⟩
end Go.Proofs.YtlgmfiboekmhkabDoor
