/- FramePacks walked: it answers true. -/
import Derived.Test.YtlgmfiboekmhkaaDoorNext
import Derived.Test.YtlgmfiboekmhkaaDoorNbr
import Derived.Test.YtlgmfiboekmhkaaDoorGet
namespace Go.Proofs.YtlgmfiboekmhkaaDoor
open Go.RowKit Go.Extern

/-- A number, and how many bytes it has. -/
structure Pc where
  size : Int
  n : Int

/-- The value 'v' is, in the world 'w', a slice of pieces. -/
def Pieces (w : World) (v : Value) (ps : List Pc) : Prop :=
  ∃ ao cap g off, v = .slice ao ps.length cap ∧ (0 < ps.length → ao = some ⟨g, off, none⟩) ∧
    (∀ (i : Nat) p, ps[i]? = some p → w.cell? ⟨g, off + i * 2, none⟩ = some (.int .i64 p.size) ∧ w.cell? ⟨g, off + i * 2 + 1, none⟩ = some (.int .i64 p.n)) ∧ (∀ p ∈ ps, -9223372036854775808 ≤ p.n ∧ p.n < 9223372036854775808)

/-- Does every number fit that has a size? -/
def pcOk (p : Pc) : Bool := !isSize p.size || fitB p.n p.size.toNat
def fitAll (ps : List Pc) : Bool := ps.all pcOk
/-- The bytes of all numbers that have a size. -/
def pcBytes (p : Pc) : List Nat := if isSize p.size then be p.size.toNat p.n.toNat else []
def allBytes (ps : List Pc) : List Nat := ps.flatMap pcBytes
theorem fitAll_snoc (ps : List Pc) (p : Pc) : fitAll (ps ++ [p]) = (fitAll ps && pcOk p) := by simp [fitAll]
theorem allBytes_snoc (ps : List Pc) (p : Pc) : allBytes (ps ++ [p]) = allBytes ps ++ pcBytes p := by simp [allBytes]
theorem isSize_le {s : Int} (h : isSize s = true) : s.toNat ≤ 8 := by
  obtain ⟨wd, rfl, hwd⟩ := size_of h
  simp; omega
theorem pcBytes_length (p : Pc) : (pcBytes p).length ≤ 8 := by
  unfold pcBytes
  cases h : isSize p.size with
  | true => simp only [if_true]; rw [be_length]; exact isSize_le h
  | false => simp
theorem allBytes_length : ∀ ps : List Pc, (allBytes ps).length ≤ 8 * ps.length
  | [] => by simp [allBytes]
  | p :: ps => by
    have h1 := allBytes_length ps
    have h2 := pcBytes_length p
    simp only [allBytes, List.flatMap_cons, List.length_append, List.length_cons] at *
    omega

/-- What the first loop keeps: the packer, and the bytes that are wanted, apart from one another. -/
def Keeps (w wr : World) (base b : Nat) (ps : List Pc) (wantv : Value) : Prop :=
  ∃ row, PkS wr base b row (fitAll ps) (allBytes ps) ∧ (∃ ws, Own wr base wantv ws ∧ ws.length ≤ 8 * ps.length ∧ (fitAll ps = true → ws = allBytes ps)) ∧ wantv.ownBlock ≠ some b ∧ (wantv.ownBlock = none ∨ wantv.ownBlock ≠ row) ∧ Below base w wr
/-- Behind a packer's call in a round. -/
def Mid (w w' : World) (base b : Nat) (ps : List Pc) (wantv : Value) (ok : Bool) (xs : List Nat) (xb : Nat) (sz n : Int) : Prop :=
  ∃ row, PkS w' base b row ok xs ∧ (∃ ws, Own w' base wantv ws ∧ ws.length ≤ 8 * ps.length ∧ (fitAll ps = true → ws = allBytes ps)) ∧ wantv.ownBlock ≠ some b ∧ (wantv.ownBlock = none ∨ wantv.ownBlock ≠ row) ∧ Below base w w' ∧ w'.cell? ⟨xb, 0, none⟩ = some (.int .i64 sz) ∧ w'.cell? ⟨xb, 1, none⟩ = some (.int .i64 n)

theorem Keeps.below {w wr wr' : World} {base b : Nat} {ps : List Pc} {wantv : Value} (h : Keeps w wr base b ps wantv) (hb : Below wr.heap.size wr wr') : Keeps w wr' base b ps wantv := by
  obtain ⟨row, h1, ⟨ws, h2, h3⟩, h4, h5, h6⟩ := h
  obtain ⟨_, _, _, _, _, _, _, _, _, h7⟩ := id h1
  exact ⟨row, h1.below hb, ⟨ws, h2.below hb, h3⟩, h4, h5, h6.trans (hb.mono h7)⟩

/-- The round's own block, and the numbers' block. -/
theorem mid_of {w wr w' : World} {base b wd : Nat} {ps : List Pc} {wantv : Value} {sz n : Int} {row : Option Nat} {x1 : Obj}
    (hp : PkS wr base b row (fitAll ps) (allBytes ps)) (hws : ∃ ws, Own wr base wantv ws ∧ ws.length ≤ 8 * ps.length ∧ (fitAll ps = true → ws = allBytes ps)) (hnb : wantv.ownBlock ≠ some b) (hnr : wantv.ownBlock = none ∨ wantv.ownBlock ≠ row) (hbl : Below base w wr)
    (hst : Stepped wd base b row (fitAll ps) (allBytes ps) [n] ((wr.alloc (.cells #[.int .i64 sz, .int .i64 n] 51)).alloc x1) w') :
    Mid w w' base b ps wantv (fitAll ps && fitB n wd) (allBytes ps ++ be wd n.toNat) wr.heap.size sz n := by
  obtain ⟨row', h1, hf, hr⟩ := hst
  obtain ⟨ws, how, hwl, hwe⟩ := hws
  have hb1 : Below wr.heap.size wr (wr.alloc (.cells #[.int .i64 sz, .int .i64 n] 51)) := (Below.refl _ _).alloc (Nat.le_refl _) _
  have hb2 : Below (wr.heap.size + 1) (wr.alloc (.cells #[.int .i64 sz, .int .i64 n] 51)) ((wr.alloc (.cells #[.int .i64 sz, .int .i64 n] 51)).alloc x1) := (Below.refl _ _).alloc (by simp) _
  have hbb := hb1.trans (hb2.mono (Nat.le_succ _))
  have hsz : ((wr.alloc (.cells #[.int .i64 sz, .int .i64 n] 51)).alloc x1).heap.size = wr.heap.size + 2 := by simp
  have hblock := Pk.block hp
  have hrl := Pk.row_ge hp
  obtain ⟨_, _, _, _, _, _, _, _, hbase, hbase2⟩ := id hp
  have how2 := how.below hbb
  refine ⟨row', ?_, ⟨ws, how2.of_block (fun k hk o ho => hf.heap ho ?_ ?_), hwl, hwe⟩, hnb, ?_, ?_, ?_, ?_⟩
  · simpa [bytesOf] using h1
  · intro e; subst e; exact hnb hk
  · intro e
    rcases hnr with h | h
    · rw [hk] at h; cases h
    · exact h (hk.trans e)
  · cases hw : wantv.ownBlock with
    | none => exact .inl rfl
    | some k =>
      refine .inr (fun e => ?_)
      have hk := (how.lt k hw).2
      rcases hr k e.symm with h | h
      · rcases hnr with h' | h'
        · rw [hw] at h'; cases h'
        · exact h' (hw.trans h.symm)
      · rw [hsz] at h; omega
  · exact (hbl.trans (hbb.mono hbase2)).trans (hf.below (by rw [hsz]; omega) hbase (fun k hk => (hrl k hk).1))
  all_goals
    have hx : ((wr.alloc (.cells #[.int .i64 sz, .int .i64 n] 51)).alloc x1).heap[wr.heap.size]? = some (.cells #[.int .i64 sz, .int .i64 n] 51 (0, 0)) := by
      rw [hb2.block _ (by omega)]; exact heap_alloc_new wr _
    have hx2 := hf.heap hx (by omega) (fun e => by have := (hrl _ e.symm).2; omega)
    rw [cell_of_row _ _ _ _ _ _ hx2]; rfl

/-- A round's end at which nothing is wanted more. -/
theorem keeps_bad {w w' : World} {base b xb wd : Nat} {pre : List Pc} {wantv : Value} {sz n : Int} (hs : isSize sz = true) (hwd : sz.toNat = wd) (hm : Mid w w' base b pre wantv (fitAll pre && fitB n wd) (allBytes pre ++ be wd n.toNat) xb sz n) (hbad : (fitAll pre && fitB n wd) = false) :
    fitAll (pre ++ [⟨sz, n⟩]) = false ∧ Keeps w w' base b (pre ++ [⟨sz, n⟩]) wantv := by
  have hok : pcOk ⟨sz, n⟩ = fitB n wd := by simp [pcOk, hs, hwd]
  have hbs : pcBytes ⟨sz, n⟩ = be wd n.toNat := by simp [pcBytes, hs, hwd]
  have hf : fitAll (pre ++ [⟨sz, n⟩]) = false := by rw [fitAll_snoc, hok]; exact hbad
  obtain ⟨row, h1, ⟨ws, h2, h3, h4⟩, h5, h6, h7, -⟩ := hm
  refine ⟨hf, row, ?_, ⟨ws, h2, by simp; omega, fun h => by rw [hf] at h; cases h⟩, h5, h6, h7⟩
  rw [fitAll_snoc, hok, allBytes_snoc, hbs]; exact h1

/-- A round's end at which the number's bytes were put behind the wanted ones. -/
theorem keeps_good {w w' w2 w3 : World} {base b xb wd : Nat} {pre : List Pc} {wantv wv2 : Value} {sz n : Int} (hs : isSize sz = true) (hwd : sz.toNat = wd) (hm : Mid w w' base b pre wantv (fitAll pre && fitB n wd) (allBytes pre ++ be wd n.toNat) xb sz n) (hgood : fitAll pre = true) (hfit : fitB n wd = true)
    (hb2 : Below w'.heap.size w' w2) (ho : Own w3 base wv2 (allBytes pre ++ be wd n.toNat)) (hg : w2.grownBy w3 wantv.ownBlock) (hat : wv2.ownBlock = wantv.ownBlock ∨ wv2.ownBlock = some w2.heap.size) :
    fitAll (pre ++ [⟨sz, n⟩]) = true ∧ Keeps w w3 base b (pre ++ [⟨sz, n⟩]) wv2 := by
  have hok : pcOk ⟨sz, n⟩ = fitB n wd := by simp [pcOk, hs, hwd]
  have hbs : pcBytes ⟨sz, n⟩ = be wd n.toNat := by simp [pcBytes, hs, hwd]
  have hf : fitAll (pre ++ [⟨sz, n⟩]) = true := by rw [fitAll_snoc, hok, hgood, hfit]; rfl
  obtain ⟨row, h1, ⟨ws, h2, h3, h4⟩, h5, h6, h7, -⟩ := hm
  have h1' := h1.below hb2
  have hblk := Pk.block h1'
  have hrow := Pk.row_ge h1'
  obtain ⟨_, _, _, _, _, _, _, _, hbase, hbase2⟩ := id h1'
  have hwlt : ∀ k, wantv.ownBlock = some k → base ≤ k ∧ k < w2.heap.size := fun k hk => ⟨(h2.lt k hk).1, Nat.lt_of_lt_of_le (h2.lt k hk).2 hb2.size⟩
  have h1'' : PkS w3 base b row (fitAll pre && fitB n wd) (allBytes pre ++ be wd n.toNat) := by
    refine Pk.other h1' (Frm.of_grown (b := w2.heap.size) hg) (by omega) (fun e => h5 e.symm) (fun e => by have := (hrow _ e).2; omega) ?_
    cases hr : row with
    | none => exact .inl rfl
    | some k =>
      refine .inr (fun e => ?_)
      rcases h6 with h | h
      · rw [h] at e; cases e
      · exact h (e.symm.trans hr.symm)
  refine ⟨hf, row, ?_, ⟨_, ho, ?_, fun _ => by rw [allBytes_snoc, hbs]⟩, ?_, ?_, (h7.trans (hb2.mono (by obtain ⟨_, _, _, _, _, _, _, _, _, q⟩ := id h1; exact q))).grown hg hbase2 (fun k hk => (hwlt k hk).1)⟩
  · rw [fitAll_snoc, hok, allBytes_snoc, hbs]; exact h1''
  · have := allBytes_length (pre ++ [⟨sz, n⟩])
    rw [allBytes_snoc, hbs] at this; exact this
  · rcases hat with h | h
    · rw [h]; exact h5
    · rw [h]; intro e; have := Option.some.inj e; omega
  · rcases hat with h | h
    · rw [h]; exact h6
    · rw [h]
      refine .inr (fun e => ?_)
      have := (hrow _ e.symm).2; omega

/-- A piece without a size. -/
theorem keeps_skip {w w' : World} {base b : Nat} {pre : List Pc} {wantv : Value} {sz n : Int} (hs : isSize sz = false) (h : Keeps w w' base b pre wantv) :
    fitAll (pre ++ [⟨sz, n⟩]) = fitAll pre ∧ Keeps w w' base b (pre ++ [⟨sz, n⟩]) wantv := by
  have hok : pcOk ⟨sz, n⟩ = true := by simp [pcOk, hs]
  have hbs : pcBytes ⟨sz, n⟩ = [] := by simp [pcBytes, hs]
  have hf : fitAll (pre ++ [⟨sz, n⟩]) = fitAll pre := by rw [fitAll_snoc, hok]; simp
  have hx : allBytes (pre ++ [⟨sz, n⟩]) = allBytes pre := by rw [allBytes_snoc, hbs]; simp
  refine ⟨hf, ?_⟩
  obtain ⟨row, h1, ⟨ws, h2, h3, h4⟩, h5⟩ := h
  exact ⟨row, by rw [hf, hx]; exact h1, ⟨ws, h2, by simp; omega, by rw [hf, hx]; exact h4⟩, h5⟩
end Go.Proofs.YtlgmfiboekmhkaaDoor
