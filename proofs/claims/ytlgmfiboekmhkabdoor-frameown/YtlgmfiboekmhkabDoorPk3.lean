/- Steps of packers, spoiled or not; what is read back from their bytes. -/
import Derived.Test.YtlgmfiboekmhkabDoorPk2
namespace Go.Proofs.YtlgmfiboekmhkabDoor
open Go.RowKit Go.Extern

/-- Numbers laid in a new block. -/
theorem ints_lit (w : World) (ns : List Int) (hn : ∀ n ∈ ns, -9223372036854775808 ≤ n ∧ n < 9223372036854775808) (hl : ns.length ≤ 140737488355328) : Ints (w.alloc (.cells (ns.map (Value.int .i64)).toArray 3)) (.slice (some ⟨w.heap.size, 0, none⟩) ns.length ns.length) ns := by
  refine ⟨_, _, w.heap.size, 0, rfl, fun _ => rfl, fun i n hi => ?_, hn, hl⟩
  rw [cell_of_row _ _ _ _ _ _ (heap_alloc_new w _), List.getElem?_toArray, Nat.zero_add]
  simp [hi]

/-- A packer behind some steps: its bytes, or spoiled. -/
def PkS (w : World) (base b : Nat) (row : Option Nat) (ok : Bool) (xs : List Nat) : Prop := Pk w base b row (if ok then xs else []) (!ok)
/-- What a step leaves. -/
def Stepped (wd base b : Nat) (row : Option Nat) (ok : Bool) (xs : List Nat) (ns : List Int) (w w' : World) : Prop :=
  ∃ row', PkS w' base b row' (ok && ns.all (fitB · wd)) (xs ++ bytesOf wd ns) ∧ Frm w w' b row ∧ (∀ k, row' = some k → row = some k ∨ w.heap.size ≤ k)
theorem stepped_putted {wd base b : Nat} {row : Option Nat} {xs : List Nat} {ns : List Int} {w w' : World} (h : Putted wd base b row xs ns w w') : Stepped wd base b row true xs ns w w' := by
  obtain ⟨row', h1, h2⟩ := h
  exact ⟨row', by simpa [PkS] using h1, h2⟩
theorem stepped_stays {wd base b : Nat} {row : Option Nat} {xs : List Nat} {ns : List Int} {w w' : World} (h : Stays base b row w w') : Stepped wd base b row false xs ns w w' := by
  obtain ⟨row', h1, h2⟩ := h
  exact ⟨row', by simpa [PkS] using h1, h2⟩
theorem PkS.alloc {w : World} {base b : Nat} {row : Option Nat} {ok : Bool} {xs : List Nat} (h : PkS w base b row ok xs) (o : Obj) : PkS (w.alloc o) base b row ok xs := Pk.below h ((Below.refl _ _).alloc (Nat.le_refl _) o)
theorem PkS.below {w w' : World} {base b : Nat} {row : Option Nat} {ok : Bool} {xs : List Nat} (h : PkS w base b row ok xs) (hb : Below w.heap.size w w') : PkS w' base b row ok xs := Pk.below h hb
/-- The numbers' new block is not the packer's row. -/
theorem hnr_lit {w : World} {base b : Nat} {row : Option Nat} {ok : Bool} {xs : List Nat} (h : PkS w base b row ok xs) (n n2 m : Nat) : ∀ g cap, Value.slice (some ⟨w.heap.size, 0, none⟩) n n2 = .slice (some g) m cap → some g.block ≠ row := by
  intro g cap e hr
  simp only [Value.slice.injEq, Option.some.injEq] at e
  obtain ⟨rfl, -⟩ := e
  have := (Pk.row_ge h _ hr.symm).2
  simp at this
/-- Another packer, older than the block 'H', is as it was. -/
theorem PkS.older {w w' : World} {base b b2 H : Nat} {row row2 : Option Nat} {ok : Bool} {xs : List Nat} (h : PkS w base b row ok xs) (hb : b < H) (hr : ∀ k, row = some k → k < H) (hf : Frm w w' b2 row2) (hb2 : H ≤ b2) (hr2 : ∀ k, row2 = some k → H ≤ k) : PkS w' base b row ok xs := by
  refine Pk.other h hf (by omega) (fun e => ?_) (fun e => ?_) ?_
  · have := hr2 b e.symm; omega
  · have := hr b2 e; omega
  · cases row with
    | none => exact .inl rfl
    | some k => exact .inr (fun e => by have := hr k rfl; have := hr2 k e.symm; omega)
theorem Stepped.below {base b : Nat} {row : Option Nat} {ok : Bool} {xs : List Nat} {w w' : World} (h : PkS w base b row ok xs) (hf : Frm w w' b row) : Below base w w' := by
  obtain ⟨_, _, _, _, _, _, _, _, h6, h7⟩ := id h
  exact hf.below h7 h6 (fun k hk => (Pk.row_ge h k hk).1)

theorem pkS_bytes (base b : Nat) (row : Option Nat) (ok : Bool) (xs : List Nat) (w : World) (hp : PkS w base b row ok xs) :
    Calls Tryd.prog 12 #[.pointer (some ⟨b, 0, none⟩)] w fun e w' => ∃ u, e = .returned (.tuple #[u, errV (if ok then 0 else 20)]) ∧ Own w' w.heap.size u (if ok then xs else []) ∧ Below w.heap.size w w' := by
  cases ok with
  | true =>
    have := pbytes_any base b row xs w (by simpa [PkS] using hp)
    simpa using this
  | false =>
    refine (pbytes_spoiled base b row w (by simpa [PkS] using hp)).mono ?_
    rintro e w' ⟨rfl, rfl⟩
    exact ⟨_, rfl, Own.nil _ _, Below.refl _ _⟩

/-- A number that was put is there. -/
theorem read_be (wd n : Nat) (r : List Nat) (hg : n ≤ great wd) (hl : n < 256 ^ wd) : readOk (be wd n ++ r) wd = true ∧ rdN (be wd n ++ r) wd = n ∧ rdL (be wd n ++ r) wd = r := by
  have ht : (be wd n ++ r).take wd = be wd n := by rw [List.take_append_of_le_length (by rw [be_length]; exact Nat.le_refl _), List.take_of_length_le (by rw [be_length]; exact Nat.le_refl _)]
  have hd : (be wd n ++ r).drop wd = r := by rw [List.drop_append_of_le_length (by rw [be_length]; exact Nat.le_refl _), List.drop_of_length_le (by rw [be_length]; exact Nat.le_refl _)]; rfl
  have hok : readOk (be wd n ++ r) wd = true := by
    unfold readOk
    rw [ht, val_be wd n hl]
    simp [be_length, hg]
  refine ⟨hok, ?_, ?_⟩
  · unfold rdN; rw [hok, if_pos rfl, ht, val_be wd n hl]
  · unfold rdL; rw [hok, if_pos rfl, hd]
theorem great_pow (wd n : Nat) (hwd : wd = 1 ∨ wd = 2 ∨ wd = 4 ∨ wd = 8) (h : n ≤ great wd) : n < 256 ^ wd := by
  rcases hwd with rfl | rfl | rfl | rfl <;> simp [great] at h ⊢ <;> omega
theorem fit_nat {n : Int} {wd : Nat} (h : fitB n wd = true) : ∃ k : Nat, n = (k : Int) ∧ k ≤ great wd := by
  have hf' : 0 ≤ n ∧ n ≤ (great wd : Int) := by simpa [fitB] using h
  exact ⟨n.toNat, by omega, by omega⟩
theorem PByte_step (base b : Nat) (row : Option Nat) (ok : Bool) (xs : List Nat) (ns : List Int) (v : Value) (w : World) (hp : PkS w base b row ok xs) (hv : Ints w v ns) (hlen : xs.length + 8 * ns.length + 8 ≤ 140737488355328) (hnr : ∀ g cap, v = .slice (some g) ns.length cap → some g.block ≠ row) :
    Calls Tryd.prog 11 #[.pointer (some ⟨b, 0, none⟩), v] w fun e w' => e = .returned (.pointer (some ⟨b, 0, none⟩)) ∧ Stepped 1 base b row ok xs ns w w' := by
  cases ok with
  | true => exact (PByte_any base b row xs ns v w (by simpa [PkS] using hp) hv hlen hnr).mono fun e w' ⟨h1, h2⟩ => ⟨h1, stepped_putted h2⟩
  | false => exact (PByte_spoiled base b row ns v w (by simpa [PkS] using hp) hv).mono fun e w' ⟨h1, h2⟩ => ⟨h1, stepped_stays h2⟩
theorem PWord_step (base b : Nat) (row : Option Nat) (ok : Bool) (xs : List Nat) (ns : List Int) (v : Value) (w : World) (hp : PkS w base b row ok xs) (hv : Ints w v ns) (hlen : xs.length + 8 * ns.length + 8 ≤ 140737488355328) (hnr : ∀ g cap, v = .slice (some g) ns.length cap → some g.block ≠ row) :
    Calls Tryd.prog 17 #[.pointer (some ⟨b, 0, none⟩), v] w fun e w' => e = .returned (.pointer (some ⟨b, 0, none⟩)) ∧ Stepped 4 base b row ok xs ns w w' := by
  cases ok with
  | true => exact (PWord_any base b row xs ns v w (by simpa [PkS] using hp) hv hlen hnr).mono fun e w' ⟨h1, h2⟩ => ⟨h1, stepped_putted h2⟩
  | false => exact (PWord_spoiled base b row ns v w (by simpa [PkS] using hp) hv).mono fun e w' ⟨h1, h2⟩ => ⟨h1, stepped_stays h2⟩
theorem PLong_step (base b : Nat) (row : Option Nat) (ok : Bool) (xs : List Nat) (ns : List Int) (v : Value) (w : World) (hp : PkS w base b row ok xs) (hv : Ints w v ns) (hlen : xs.length + 8 * ns.length + 8 ≤ 140737488355328) (hnr : ∀ g cap, v = .slice (some g) ns.length cap → some g.block ≠ row) :
    Calls Tryd.prog 16 #[.pointer (some ⟨b, 0, none⟩), v] w fun e w' => e = .returned (.pointer (some ⟨b, 0, none⟩)) ∧ Stepped 8 base b row ok xs ns w w' := by
  cases ok with
  | true => exact (PLong_any base b row xs ns v w (by simpa [PkS] using hp) hv hlen hnr).mono fun e w' ⟨h1, h2⟩ => ⟨h1, stepped_putted h2⟩
  | false => exact (PLong_spoiled base b row ns v w (by simpa [PkS] using hp) hv).mono fun e w' ⟨h1, h2⟩ => ⟨h1, stepped_stays h2⟩
end Go.Proofs.YtlgmfiboekmhkabDoor
