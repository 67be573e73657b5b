/- A fault's own part of its text, and a fresh builder that is written once, by their contracts. -/
import Derived.Test.YtijphfgefnpepaaDoorDigits
import Derived.Deep.RegionHeld3
import Derived.Lib.SmallJoins
namespace Go.Proofs.YtijphfgefnpepaaDoor
open Go.RowKit Go.Extern.Stop Go.Stop Go.Extern

/-- An int. -/
def InR (n : Int) : Prop := -9223372036854775808 ≤ n ∧ n ≤ 9223372036854775807

/-- The table of powers of ten, as the program's text lays it. -/
def Tab (w : World) : Prop := Lib.TabIs Tryd.prog w "internal/strconv.uint64pow10" .u64 Lib.pow10Tab
theorem gPow : Tryd.prog.globalNamed "internal/strconv.uint64pow10" = some 1 := by kernel_rfl
theorem Tab.below {w w' : World} (h : Tab w) (hb : Below w.heap.size w w') : Tab w' := Joins.tab_stays gPow h hb (Nat.le_refl _)

theorem itoa_any (n : Int) (h : InR n) (w : World) (ht : Tab w) : Calls Tryd.prog 41 #[.int .i64 n] w fun e w' => e = .returned (.string ⟨(Lib.itoa n).toArray⟩) ∧ Below w.heap.size w w' := by
  refine (Tryd.strconv_Itoa n h.1 h.2 w ht).mono ?_
  rintro e w' ⟨rfl, k, os, rfl⟩
  exact ⟨rfl, Lib.below_grow _ w (Nat.le_refl _) k os⟩

/-- A fault's own part of its text. -/
def headOf (k : Lk) : ByteArray := (((k.op ++ ⟨#[32]⟩) ++ ⟨(Lib.itoa k.dev).toArray⟩) ++ ⟨#[58]⟩) ++ ⟨(Lib.itoa k.pl).toArray⟩

theorem itoa_size (n : Int) (h : InR n) : (⟨(Lib.itoa n).toArray⟩ : ByteArray).size ≤ 21 := by
  have := Lib.itoa_length_le n h.1 h.2
  simpa [ByteArray.size] using this
theorem one_size (b : UInt8) : (⟨#[b]⟩ : ByteArray).size = 1 := rfl

theorem headOf_size (k : Lk) (h0 : k.op.size ≤ 10000) (h1 : InR k.dev) (h2 : InR k.pl) : (headOf k).size ≤ 10044 ∧ 1 ≤ (headOf k).size := by
  have a := itoa_size k.dev h1
  have b := itoa_size k.pl h2
  unfold headOf
  simp only [ByteArray.size_append, one_size]
  omega

set_option maxRecDepth 100000 in
set_option maxHeartbeats 1000000 in
theorem head_any (k : Lk) (b : Nat) (w : World) (ht : Tab w) (h0 : k.op.size ≤ 10000) (h1 : InR k.dev) (h2 : InR k.pl)
    (c0 : w.cell? ⟨b, 0, none⟩ = some (.string k.op)) (c1 : w.cell? ⟨b, 1, none⟩ = some (.int .i64 k.dev)) (c2 : w.cell? ⟨b, 2, none⟩ = some (.int .i64 k.pl)) :
    Calls Tryd.prog 31 #[.pointer (some ⟨b, 0, none⟩)] w fun e w' => e = .returned (.string (headOf k)) ∧ Below w.heap.size w w' := by
  have fin : ∀ w', Below w.heap.size w w' → (Below w.heap.size w w' ∧ w'.cell? ⟨b, 0, none⟩ = some (.string k.op) ∧ w'.cell? ⟨b, 1, none⟩ = some (.int .i64 k.dev) ∧ w'.cell? ⟨b, 2, none⟩ = some (.int .i64 k.pl)) := fun w' hb =>
    ⟨hb, by rw [hb.cell (cell_lt c0)]; exact c0, by rw [hb.cell (cell_lt c1)]; exact c1, by rw [hb.cell (cell_lt c2)]; exact c2⟩
  have it : ∀ n, InR n → ∀ w', (Below w.heap.size w w' ∧ w'.cell? ⟨b, 0, none⟩ = some (.string k.op) ∧ w'.cell? ⟨b, 1, none⟩ = some (.int .i64 k.dev) ∧ w'.cell? ⟨b, 2, none⟩ = some (.int .i64 k.pl)) →
      Calls Tryd.prog 41 #[.int .i64 n] w' fun e w2 => e = .returned (.string ⟨(Lib.itoa n).toArray⟩) ∧ (Below w.heap.size w w2 ∧ w2.cell? ⟨b, 0, none⟩ = some (.string k.op) ∧ w2.cell? ⟨b, 1, none⟩ = some (.int .i64 k.dev) ∧ w2.cell? ⟨b, 2, none⟩ = some (.int .i64 k.pl)) := fun n hn w' hS => by
    refine (itoa_any n hn w' (ht.below hS.1)).mono ?_
    rintro e w2 ⟨rfl, hb⟩
    exact ⟨rfl, fin _ (hS.1.trans (hb.mono hS.1.size))⟩
  have IT := hide it
  have pB : Below w.heap.size w w.drew := (Below.refl _ _).drew
  have sd := itoa_size k.dev h1
  have sp := itoa_size k.pl h2
  have hb1 : k.op.size + (⟨#[32]⟩ : ByteArray).size ≤ 9223372036854775807 := by rw [one_size]; omega
  have hb2 : (k.op ++ ⟨#[32]⟩).size + (⟨(Lib.itoa k.dev).toArray⟩ : ByteArray).size ≤ 9223372036854775807 := by simp only [ByteArray.size_append, one_size]; omega
  have hb3 : ((k.op ++ ⟨#[32]⟩) ++ ⟨(Lib.itoa k.dev).toArray⟩).size + (⟨#[58]⟩ : ByteArray).size ≤ 9223372036854775807 := by simp only [ByteArray.size_append, one_size]; omega
  have hb4 : (((k.op ++ ⟨#[32]⟩) ++ ⟨(Lib.itoa k.dev).toArray⟩) ++ ⟨#[58]⟩).size + (⟨(Lib.itoa k.pl).toArray⟩ : ByteArray).size ≤ 9223372036854775807 := by simp only [ByteArray.size_append, one_size]; omega
  have r1 := fun W => run_string_add_sum (P := Tryd.prog) W _ _ hb1
  have r2 := fun W => run_string_add_sum (P := Tryd.prog) W _ _ hb2
  have r3 := fun W => run_string_add_sum (P := Tryd.prog) W _ _ hb3
  have r4 := fun W => run_string_add_sum (P := Tryd.prog) W _ _ hb4
  clear it fin sd sp hb1 hb2 hb3 hb4 h0
  go_enter Tryd.func31, Tryd.ntmps31
  go_wp2
  go_region_held3 (fun w' => Below w.heap.size w w' ∧ w'.cell? ⟨b, 0, none⟩ = some (.string k.op) ∧ w'.cell? ⟨b, 1, none⟩ = some (.int .i64 k.dev) ∧ w'.cell? ⟨b, 2, none⟩ = some (.int .i64 k.pl)) ((first | assumption | go_keep))
    ((go_at_call 41; refine (IT.out _ ?_ _ ?_).mono ?_; (assumption); (assumption); rintro e w' ⟨rfl, hS⟩))
  all_goals go_wp2
  go_ret
  exact ⟨rfl, hS.1⟩

/-! a fresh builder -/
theorem info71 : (Tryd.prog.info? 71).map (·.size) = some 2 := by kernel_rfl
theorem lies71 : liesAt Tryd.prog Tryd.prog.depth 71 (2 / Tryd.prog.cellsOf 71) 0 71 1 = true := by kernel_rfl
theorem info5 : (Tryd.prog.info? 5).map (fun i => (i.zero, i.size, i.bytes)) = some (some (.int .u8 0), 1, 1) := by kernel_rfl

set_option maxRecDepth 100000 in
set_option maxHeartbeats 1000000 in
theorem copyCheck_fresh (b : Nat) (w : World) (h0 : w.cell? ⟨b, 0, none⟩ = some (.pointer none)) (hsh : w.shape? b = some (71, 2)) (hfz : w.frozen? ⟨b, 0, none⟩ = false) :
    Calls Tryd.prog 40 #[.pointer (some ⟨b, 0, none⟩)] w fun e w' => e = .returned (.tuple #[]) ∧ w' = w.setCell ⟨b, 0, none⟩ (.pointer (some ⟨b, 0, none⟩)) := by
  obtain ⟨j, hj, hjs⟩ := Option.map_eq_some_iff.1 info71
  have u1 := Lib.run_to_unsafe (P := Tryd.prog) w ⟨b, 0, none⟩ Tryd.underlying68 Tryd.underlying77 hj (by rw [hjs]; decide) hsh (Nat.zero_lt_succ 1)
  have u2 := Lib.run_from_unsafe (P := Tryd.prog) w ⟨b, 0, none⟩ Tryd.underlying77 Tryd.underlying68 hj hsh lies71
  have h44 := @run_callFunc_extern Tryd.prog 44 _ Extern.AbiNoEscape.same Tryd.func44 (by kernel_rfl) (by kernel_rfl) (by kernel_rfl) (by kernel_rfl)
  have u3 := fun (x : Value) (W : World) => Lib.run_noEscape (P := Tryd.prog) W x
  clear hj hjs
  go_enter Tryd.func40, Tryd.ntmps40
  go_wp2
  go_end0
  exact ⟨rfl, rfl⟩

set_option maxRecDepth 100000 in
set_option maxHeartbeats 2000000 in
/-- A builder that was just made, written once. -/
theorem write_fresh (B b : Nat) (s : ByteArray) (w : World) (hB : B ≤ b) (hbk : w.heap[b]? = some (.cells #[.pointer none, .slice none 0 0] 71 (0, 0))) (hs : s.size ≤ 100000) (hBw : B ≤ w.heap.size) :
    Calls Tryd.prog 30 #[.pointer (some ⟨b, 0, none⟩), .string s] w fun e w' => e = .returned (.tuple #[.int .i64 s.size, .nilIface]) ∧ Lib.IsBuilder 71 5 B b (Lib.strCells s) w' ∧ Below B w w' := by
  obtain ⟨i0, hi, hi2⟩ := Option.map_eq_some_iff.1 info5
  simp only [Prod.mk.injEq] at hi2
  have HI := hide (And.intro hi hi2)
  have hlt : b < w.heap.size := by
    rcases Nat.lt_or_ge b w.heap.size with h' | h'
    · exact h'
    · simp [Array.getElem?_eq_none h'] at hbk
  have hck := copyCheck_fresh b w (by simp [World.cell?, hbk]) (by simp [World.shape?, hbk]) (Lib.frozen_of_heap hbk 0)
  have HCK := hide hck
  have hbk1 : (w.setCell ⟨b, 0, none⟩ (.pointer (some ⟨b, 0, none⟩))).heap[b]? = some (.cells #[.pointer (some ⟨b, 0, none⟩), .slice none 0 0] 71 (0, 0)) := by
    rw [Joins.block_setCell hbk]; rfl
  have hb1 : Below B w (w.setCell ⟨b, 0, none⟩ (.pointer (some ⟨b, 0, none⟩))) := (Below.refl _ _).setCell hB _
  generalize hw1 : w.setCell ⟨b, 0, none⟩ (.pointer (some ⟨b, 0, none⟩)) = w1 at *
  have HW1 := hide hw1
  have HB1 := hide hb1
  have HBK := hide hbk1
  have c0 : w1.cell? ⟨b, 0, none⟩ = some (.pointer (some ⟨b, 0, none⟩)) := by rw [Lib.cell_of_heap hbk1]; rfl
  have c1 : w1.cell? ⟨b, 1, none⟩ = some (.slice none 0 0) := by rw [Lib.cell_of_heap hbk1]; rfl
  clear hw1 hb1 hbk1 hbk hck hi hi2
  go_enter Tryd.func30, Tryd.ntmps30
  go_wp2_with fail
  refine HCK.out.mono ?_
  rintro e wx ⟨rfl, rfl⟩
  go_wp2_with (at_builtin; refine Lib.wpList_append_own_string _ rfl _ _ 69 9 rfl B 5 i0 Tryd.underlying69 Tryd.underlying9 HI.out.1 HI.out.2.1 HI.out.2.2.1 HI.out.2.2.2 _ _ _ rfl (World.ownsRow_nil _ B 5 1) s rfl ?c3 ?c4 ?c5 ?_)
  case c3 => unfold maxLen; omega
  case c4 => omega
  case c5 => have := HB1.out.size; omega
  intro v' w2 hown hgrow _
  have hltx : b < wx.heap.size := Nat.lt_of_lt_of_le hlt HB1.out.size
  have hb2 : w2.heap[b]? = some (.cells #[.pointer (some ⟨b, 0, none⟩), .slice none 0 0] 71 (0, 0)) := by
    rw [hgrow.block b hltx (by simp [Value.ownBlock])]
    exact HBK.out
  have d1 : w2.cell? ⟨b, 1, none⟩ = some (.slice none 0 0) := by rw [Lib.cell_of_heap hb2]; rfl
  have f1 : w2.frozen? ⟨b, 1, none⟩ = false := Lib.frozen_of_heap hb2 1
  obtain ⟨ao, n', cap, hv⟩ : ∃ ao n' cap, v' = .slice ao n' cap := by
    rcases hown.2 with ⟨hv, _⟩ | ⟨g, cap, cur, hv, _⟩
    · exact ⟨_, _, _, hv⟩
    · exact ⟨_, _, _, hv⟩
  subst hv
  have HO := hide hown
  have HG := hide hgrow
  have HB2 := hide hb2
  clear hown hgrow hb2
  go_wp2
  go_ret2
  refine ⟨rfl, Or.inr ?_, ?_⟩
  · exact Lib.BuilderAt.put (T := 71) (e := 5) hB HB2.out (bs' := Lib.strCells s) (by simpa [Lib.strCells_length] using HO.out) (by decide)
  · exact (HB1.out.grown HG.out (by have := HB1.out.size; omega) (fun q hq => by simp [Value.ownBlock] at hq)).setCell (p := ⟨b, 1, none⟩) hB _
end Go.Proofs.YtijphfgefnpepaaDoor
