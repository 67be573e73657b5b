/- The text of a fault around nothing, and the document's text of one link, are the same. -/
import Derived.Test.YtijphfgefnpepaaDoorHead
import Derived.Test.YtijphfgefnpepaaDoorChain
namespace Go.Proofs.YtijphfgefnpepaaDoor
open Go.RowKit Go.Extern.Stop Go.Stop Go.Extern

theorem cell_alloc_old {w : World} {a : Addr} {v : Value} (h : w.cell? a = some v) (o : Obj) : (w.alloc o).cell? a = some v := by
  rw [World.cell?_alloc_lt _ _ a (cell_lt h)]; exact h

theorem alloc_block (w : World) (o : Obj) : (w.alloc o).heap[w.heap.size]? = some o := by
  show (w.heap.push o)[w.heap.size]? = _
  simp
theorem new_block {w w1 : World} {o : Obj} (hb : Below (w.alloc o).heap.size (w.alloc o) w1) : w1.heap[w.heap.size]? = some o := by
  rw [hb.block w.heap.size (by simp)]; exact alloc_block w o

theorem string_any (B b : Nat) (s : ByteArray) (w : World) (h : Lib.IsBuilder 71 5 B b (Lib.strCells s) w) (h0 : 1 ≤ s.size) :
    Calls Tryd.prog 33 #[.pointer (some ⟨b, 0, none⟩)] w fun e w' => e = .returned (.string s) ∧ Below B w w' := by
  have hne : s.data.toList ≠ [] := fun e => by
    have : s.data.toList.length = 0 := by rw [e]; rfl
    have e2 : s.data.toList.length = s.size := rfl
    omega
  refine (Tryd.Builder_String B b s.data.toList w (by rw [← Lib.strCells_eq]; exact h) hne).mono ?_
  rintro e w' ⟨rfl, hb⟩
  exact ⟨ret_str rfl, hb⟩

set_option maxRecDepth 100000 in
set_option maxHeartbeats 1000000 in
theorem error_nil (k : Lk) (b : Nat) (w : World) (ht : Tab w) (h0 : k.op.size ≤ 10000) (h1 : InR k.dev) (h2 : InR k.pl)
    (c0 : w.cell? ⟨b, 0, none⟩ = some (.string k.op)) (c1 : w.cell? ⟨b, 1, none⟩ = some (.int .i64 k.dev)) (c2 : w.cell? ⟨b, 2, none⟩ = some (.int .i64 k.pl)) (c3 : w.cell? ⟨b, 3, none⟩ = some .nilIface) :
    Calls Tryd.prog 20 #[.pointer (some ⟨b, 0, none⟩)] w fun e w' => e = .returned (.string (headOf k)) ∧ Below w.heap.size w w' := by
  have hba : Below w.heap.size w (w.alloc (.cells #[.pointer none, .slice none 0 0] 71)) := (Below.refl _ _).alloc (Nat.le_refl _) _
  have H1 := hide (head_any k b (w.alloc (.cells #[.pointer none, .slice none 0 0] 71)) (ht.below hba) h0 h1 h2 (cell_alloc_old c0 _) (cell_alloc_old c1 _) (cell_alloc_old c2 _))
  have hsz := headOf_size k h0 h1 h2
  have HBA := hide hba
  have hlt := cell_lt c3
  clear hba
  go_enter Tryd.func20, Tryd.ntmps20
  go_wp2_with fail
  refine H1.out.mono ?_
  rintro e w1 ⟨rfl, hb1⟩
  have hbk : w1.heap[w.heap.size]? = some (.cells #[.pointer none, .slice none 0 0] 71 (0, 0)) := by
    exact new_block hb1
  have HB1 := hide (HBA.out.trans (hb1.mono HBA.out.size))
  clear hb1 H1
  go_wp2_with fail
  refine (write_fresh w.heap.size w.heap.size (headOf k) w1 (Nat.le_refl _) hbk (by omega) HB1.out.size).mono ?_
  rintro e w2 ⟨rfl, hbu, hb2⟩
  have HB2 := hide (HB1.out.trans hb2)
  have HBU := hide hbu
  have c3' : w2.cell? ⟨b, 3, none⟩ = some .nilIface := by rw [HB2.out.cell hlt]; exact c3
  clear hb2 hbu hbk
  go_wp2
  refine wp_loop_rounds 1 ?_
  rw [rounds_succ]
  go_wp2_with fail
  refine (string_any w.heap.size w.heap.size (headOf k) w2 HBU.out (by omega)).mono ?_
  rintro e w3 ⟨rfl, hb3⟩
  have HB3 := hide (HB2.out.trans hb3)
  clear hb3
  go_wp2
  go_ret
  exact ⟨rfl, HB3.out⟩

theorem empty_append (a : ByteArray) : (⟨#[]⟩ : ByteArray) ++ a = a := by
  apply ByteArray.ext
  simp [ByteArray.data_append]

set_option maxRecDepth 100000 in
set_option maxHeartbeats 1000000 in
theorem text_one (k : Lk) (b off cap : Nat) (w : World) (h0 : k.op.size ≤ 10000) (h1 : InR k.dev) (h2 : InR k.pl)
    (c0 : w.cell? ⟨b, off, none⟩ = some (.string k.op)) (c1 : w.cell? ⟨b, off + 1, none⟩ = some (.int .i64 k.dev)) (c2 : w.cell? ⟨b, off + 2, none⟩ = some (.int .i64 k.pl)) :
    Calls Tryd.prog 21 #[.slice (some ⟨b, off, none⟩) 1 cap, .int .i64 0, .bool false] w fun e w' => e = .returned (.string (headOf k)) ∧ Below w.heap.size w w' := by
  have fin : ∀ w', Below w.heap.size w w' → (Below w.heap.size w w' ∧ w'.cell? ⟨b, off, none⟩ = some (.string k.op) ∧ w'.cell? ⟨b, off + 1, none⟩ = some (.int .i64 k.dev) ∧ w'.cell? ⟨b, off + 2, none⟩ = some (.int .i64 k.pl)) := fun w' hb =>
    ⟨hb, by rw [hb.cell (cell_lt c0)]; exact c0, by rw [hb.cell (cell_lt c1)]; exact c1, by rw [hb.cell (cell_lt c2)]; exact c2⟩
  have it : ∀ n, InR n → ∀ w', (Below w.heap.size w w' ∧ w'.cell? ⟨b, off, none⟩ = some (.string k.op) ∧ w'.cell? ⟨b, off + 1, none⟩ = some (.int .i64 k.dev) ∧ w'.cell? ⟨b, off + 2, none⟩ = some (.int .i64 k.pl)) →
      Calls Tryd.prog 34 #[.int .i64 n] w' fun e w2 => e = .returned (.string ⟨(Lib.itoa n).toArray⟩) ∧ (Below w.heap.size w w2 ∧ w2.cell? ⟨b, off, none⟩ = some (.string k.op) ∧ w2.cell? ⟨b, off + 1, none⟩ = some (.int .i64 k.dev) ∧ w2.cell? ⟨b, off + 2, none⟩ = some (.int .i64 k.pl)) := fun n hn w' hS => by
    refine (digits_any (n.natAbs + 1) n (by omega) hn.1 hn.2 w').mono ?_
    rintro e w2 ⟨rfl, hb⟩
    exact ⟨rfl, fin _ (hS.1.trans (hb.mono hS.1.size))⟩
  have IT := hide it
  have pB : Below w.heap.size w w.drew := (Below.refl _ _).drew
  have sd := itoa_size k.dev h1
  have sp := itoa_size k.pl h2
  have hb1 : k.op.size + (⟨#[32]⟩ : ByteArray).size ≤ 9223372036854775807 := by rw [one_size]; omega
  have hb2 : (k.op ++ ⟨#[32]⟩).size + (⟨(Lib.itoa k.dev).toArray⟩ : ByteArray).size ≤ 9223372036854775807 := by simp only [ByteArray.size_append, one_size]; omega
  have hb3 : ((k.op ++ ⟨#[32]⟩) ++ ⟨(Lib.itoa k.dev).toArray⟩).size + (⟨#[58]⟩ : ByteArray).size ≤ 9223372036854775807 := by simp only [ByteArray.size_append, one_size]; omega
  have hb4 : (((k.op ++ ⟨#[32]⟩) ++ ⟨(Lib.itoa k.dev).toArray⟩) ++ ⟨#[58]⟩).size + (⟨(Lib.itoa k.pl).toArray⟩ : ByteArray).size ≤ 9223372036854775807 := by simp only [ByteArray.size_append, one_size]; omega
  have hb5 : (⟨#[]⟩ : ByteArray).size + ((((k.op ++ ⟨#[32]⟩) ++ ⟨(Lib.itoa k.dev).toArray⟩) ++ ⟨#[58]⟩) ++ ⟨(Lib.itoa k.pl).toArray⟩).size ≤ 9223372036854775807 := by
    have e0 : (⟨#[]⟩ : ByteArray).size = 0 := rfl
    simp only [ByteArray.size_append, one_size, e0]; omega
  have r1 := fun W => run_string_add_sum (P := Tryd.prog) W _ _ hb1
  have r2 := fun W => run_string_add_sum (P := Tryd.prog) W _ _ hb2
  have r3 := fun W => run_string_add_sum (P := Tryd.prog) W _ _ hb3
  have r4 := fun W => run_string_add_sum (P := Tryd.prog) W _ _ hb4
  have r5 := fun W => run_string_add_sum (P := Tryd.prog) W _ _ hb5
  clear it fin sd sp hb1 hb2 hb3 hb4 hb5 h0
  go_enter Tryd.func21, Tryd.ntmps21
  go_wp2
  refine wp_loop_rounds 2 ?_
  rw [rounds_succ]
  go_wp2
  go_region_held3 (fun w' => Below w.heap.size w w' ∧ w'.cell? ⟨b, off, none⟩ = some (.string k.op) ∧ w'.cell? ⟨b, off + 1, none⟩ = some (.int .i64 k.dev) ∧ w'.cell? ⟨b, off + 2, none⟩ = some (.int .i64 k.pl)) ((first | assumption | go_keep))
    ((go_at_call 34; refine (IT.out _ ?_ _ ?_).mono ?_; (assumption); (assumption); rintro e w' ⟨rfl, hS⟩))
  all_goals go_wp2
  rw [rounds_succ]
  go_wp2
  go_ret
  exact ⟨congrArg (fun z => Ending.returned (Value.string z)) (empty_append (headOf k)), hS.1⟩
end Go.Proofs.YtijphfgefnpepaaDoor
