/- Numbers in bytes, the highest first: plain mathematics, and appendNumber by its contract. -/
import Derived.Test.YtlgmfiboekmhkabDoorMem2
namespace Go.Proofs.YtlgmfiboekmhkabDoor
open Go.RowKit Go.Extern

/-- A number in so many bytes, the highest first. -/
def be : Nat → Nat → List Nat
  | 0, _ => []
  | k + 1, n => (n / 256 ^ k % 256) :: be k n
/-- The number that bytes are. -/
def val (bs : List Nat) : Nat := bs.foldl (fun n b => n * 256 + b) 0
theorem be_length : ∀ (k n : Nat), (be k n).length = k
  | 0, _ => rfl
  | k + 1, n => by simp [be, be_length k n]
theorem be_lt : ∀ (k n : Nat), ∀ b ∈ be k n, b < 256
  | 0, _ => by simp [be]
  | k + 1, n => by
    intro b hb
    rcases List.mem_cons.1 hb with rfl | h
    · exact Nat.mod_lt _ (by decide)
    · exact be_lt k n b h
theorem fold_be : ∀ (k n a : Nat), (be k n).foldl (fun n b => n * 256 + b) a = a * 256 ^ k + n % 256 ^ k
  | 0, n, a => by simp [be, Nat.mod_one]
  | k + 1, n, a => by
    simp only [be, List.foldl_cons]
    rw [fold_be k n]
    have h1 : n % 256 ^ (k + 1) = 256 ^ k * (n / 256 ^ k % 256) + n % 256 ^ k := by
      rw [Nat.pow_succ, Nat.mod_mul]; omega
    rw [h1, Nat.pow_succ, Nat.add_mul, Nat.mul_comm (256 ^ k) (n / 256 ^ k % 256), Nat.mul_assoc a 256, Nat.mul_comm 256 (256 ^ k)]
    omega
theorem val_be (k n : Nat) (h : n < 256 ^ k) : val (be k n) = n := by
  unfold val; rw [fold_be, Nat.mod_eq_of_lt h]; omega
theorem fold_lt : ∀ (bs : List Nat) (a : Nat), (∀ b ∈ bs, b < 256) → bs.foldl (fun n b => n * 256 + b) a < (a + 1) * 256 ^ bs.length
  | [], a, _ => by simp
  | b :: bs, a, h => by
    have hb := h b (List.mem_cons_self)
    have := fold_lt bs (a * 256 + b) (fun x hx => h x (List.mem_cons_of_mem _ hx))
    simp only [List.foldl_cons, List.length_cons]
    refine Nat.lt_of_lt_of_le this ?_
    rw [Nat.pow_succ, Nat.mul_comm (256 ^ bs.length) 256, ← Nat.mul_assoc]
    exact Nat.mul_le_mul_right _ (by omega)
theorem val_lt (bs : List Nat) (h : ∀ b ∈ bs, b < 256) : val bs < 256 ^ bs.length := by
  have := fold_lt bs 0 h; simpa [val] using this
theorem fold_from : ∀ (bs : List Nat) (a : Nat), bs.foldl (fun n b => n * 256 + b) a = a * 256 ^ bs.length + val bs
  | [], a => by simp [val]
  | b :: bs, a => by
    unfold val
    simp only [List.foldl_cons, List.length_cons]
    rw [fold_from bs, fold_from bs (0 * 256 + b), Nat.pow_succ, Nat.add_mul, Nat.zero_mul, Nat.zero_add, Nat.mul_assoc a 256, Nat.mul_comm 256 (256 ^ bs.length)]
    omega
theorem be_val : ∀ (bs : List Nat) (x : Nat), (∀ b ∈ bs, b < 256) → be bs.length (x * 256 ^ bs.length + val bs) = bs
  | [], _, _ => rfl
  | b :: bs, x, h => by
    have hb := h b (List.mem_cons_self)
    have hl := fun y hy => h y (List.mem_cons_of_mem _ hy)
    have hv := val_lt bs hl
    have e : x * 256 ^ (bs.length + 1) + val (b :: bs) = (x * 256 + b) * 256 ^ bs.length + val bs := by
      unfold val
      simp only [List.foldl_cons]
      rw [fold_from bs, Nat.pow_succ, Nat.zero_mul, Nat.zero_add, Nat.add_mul (x * 256) b, Nat.mul_assoc x 256, Nat.mul_comm 256 (256 ^ bs.length)]
      unfold val; omega
    simp only [List.length_cons, be]
    rw [e]
    congr 1
    · rw [Nat.add_comm, Nat.add_mul_div_right _ _ (Nat.pow_pos (by decide)), Nat.div_eq_of_lt hv]; omega
    · exact be_val bs (x * 256 + b) hl
theorem be_of_val (bs : List Nat) (h : ∀ b ∈ bs, b < 256) : be bs.length (val bs) = bs := by
  have := be_val bs 0 h; simpa using this
theorem val_iff (bs : List Nat) (h : ∀ b ∈ bs, b < 256) (n : Nat) (hn : n < 256 ^ bs.length) : val bs = n ↔ be bs.length n = bs :=
  ⟨fun e => by rw [← e]; exact be_of_val bs h, fun e => by rw [← e]; exact val_be _ _ hn⟩

/-- From the world 'w0' with the slice 'v0': 'w' with the slice 'v' of the bytes 'xs'; nothing old has turned but the row of 'v0'. -/
structure Grew (w0 : World) (v0 : Value) (base : Nat) (w : World) (v : Value) (xs : List Nat) : Prop where
  own : Own w base v xs
  grown : w0.grownBy w v0.ownBlock
  at_ : ∀ k, v.ownBlock = some k → v0.ownBlock = some k ∨ w0.heap.size ≤ k
theorem Grew.refl {w0 : World} {v0 : Value} {base : Nat} {xs : List Nat} (h : Own w0 base v0 xs) : Grew w0 v0 base w0 v0 xs := ⟨h, grownBy_refl _ _, fun _ h => .inl h⟩
theorem Grew.alloc {w0 : World} {v0 : Value} {base : Nat} {w : World} {v : Value} {xs : List Nat} (h : Grew w0 v0 base w v xs) (o : Obj) : Grew w0 v0 base (w.alloc o) v xs :=
  ⟨h.own.below ((Below.refl _ _).alloc (Nat.le_refl _) o), h.grown.trans (World.grownBy_alloc w o _), h.at_⟩
theorem Grew.below {w0 : World} {v0 : Value} {base : Nat} {w : World} {v : Value} {xs : List Nat} (h : Grew w0 v0 base w v xs) (hb : base ≤ w0.heap.size) (h0 : ∀ k, v0.ownBlock = some k → base ≤ k) : Below base w0 w :=
  (Below.refl base w0).grown h.grown hb h0
theorem Grew.form {w0 : World} {v0 : Value} {base : Nat} {w : World} {v : Value} {xs : List Nat} (h : Grew w0 v0 base w v xs) : ∃ ao cap, v = .slice ao xs.length cap := h.own.form

theorem Grew.form' {w0 : World} {v0 : Value} {base : Nat} {w : World} {v : Value} {xs : List Nat} (h : Grew w0 v0 base w v xs) : ∃ ao n cap, v = .slice ao n cap ∧ Hid (n = xs.length) := by
  obtain ⟨ao, cap, rfl⟩ := h.form
  exact ⟨_, _, _, rfl, rfl⟩
theorem wpList_append_grew {w0 w : World} {v0 : Value} {ops : Array Oper} {rest : List Oper} {o : Oper} {a : Act} {Q : Exit → Act → World → Prop} (hgd : o.guard = none) (s x : Operand)
    (ho : o.op = .call { callee := .builtin .append, args := #[s, x], argTypes := #[22, 22] })
    (base : Nat) (v u : Value) (xs ys : List Nat) (hs : a.eval s = v) (hx : a.eval x = u) (hg : Grew w0 v0 base w v xs) (hb : Bytes w u ys) (hn : xs.length + ys.length ≤ 140737488355328) (hbase : base ≤ w0.heap.size)
    (h : ∀ v' w', Grew w0 v0 base w' v' (xs ++ ys) → wpList Tryd.prog ops Q rest (a.put o.dst v') w') : wpList Tryd.prog ops Q (o :: rest) a w := by
  refine wpList_append_bytes hgd s x ho base v u xs ys hs hx hg.own hb hn (Nat.le_trans hbase hg.grown.size) fun v' w' h1 h2 h3 => h v' w' ⟨h1, ?_, ?_⟩
  · refine ⟨h2.os.trans hg.grown.os, h2.tape.trans hg.grown.tape, h2.output.trans hg.grown.output, Nat.le_trans hg.grown.size h2.size, fun k hk hne => ?_⟩
    rw [h2.block k (Nat.lt_of_lt_of_le hk hg.grown.size) ?_, hg.grown.block k hk hne]
    intro e
    rcases hg.at_ k e.symm with h4 | h4
    · exact hne h4.symm
    · omega
  · intro k hk
    rcases h3 with h3 | h3
    · exact hg.at_ k (h3 ▸ hk)
    · rw [h3] at hk
      have := Option.some.inj hk
      have := hg.grown.size
      right; omega

theorem lit_bytes (w : World) (bs : List Nat) (hl : ∀ b ∈ bs, b < 256) (hn : bs.length ≤ 140737488355328) : Bytes (w.alloc (.cells (cellsB bs).toArray 5)) (.slice (some ⟨w.heap.size, 0, none⟩) bs.length bs.length) bs :=
  (Own.lit w w.heap.size (Nat.le_refl _) bs hl hn).bytes

/-- One byte of a number, as the walk spells it. -/
theorem byte_at (n : Nat) (d : Int) (k : Nat) (hd : d = ((256 ^ k : Nat) : Int)) : IntKind.u8.wrap ((n : Int) / d) = ((n / 256 ^ k % 256 : Nat) : Int) := by
  subst hd
  rw [IntKind.wrap_u8']
  omega

set_option maxRecDepth 100000 in
set_option maxHeartbeats 1000000 in
theorem appendNumber1 (n : Nat) (xs : List Nat) (v : Value) (base : Nat) (w : World) (hown : Own w base v xs) (hbase : base ≤ w.heap.size) (hn : xs.length + 8 ≤ 140737488355328) :
    Calls Tryd.prog 23 #[v, .int .i64 1, .int .u64 (n : Int)] w fun e w' => ∃ u, e = .returned u ∧ Grew w v base w' u (xs ++ be 1 n) := by
  have q0 : IntKind.u8.wrap (n : Int) = ((n / 256 ^ 0 % 256 : Nat) : Int) := by rw [IntKind.wrap_u8']; omega
  have HBE : Hid (be 1 n = [n / 256 ^ 0 % 256]) := rfl
  have l0 : n / 256 ^ 0 % 256 < 256 := Nat.mod_lt _ (by decide)
  generalize n / 256 ^ 0 % 256 = b0 at q0 HBE l0
  have HG := hide (Grew.refl hown)
  obtain ⟨ao, cap, rfl⟩ := hown.form
  have HL0 := hide l0
  clear hown l0
  go_enter Tryd.func23, Tryd.ntmps23
  go_wp2_with (at_builtin; refine wpList_append_grew rfl _ _ rfl base _ _ _ [b0] rfl rfl (HG.out.alloc _) (lit_bytes w [b0] (by simp; exact HL0.out) (by simp)) (by simp; omega) hbase ?_)
  intro v1 w1 hg
  have HG1 := hide hg
  obtain ⟨ao1, n1, cap1, rfl, HN1⟩ := hg.form'
  clear hg
  go_wp2
  go_ret
  exact ⟨_, rfl, by rw [HBE.out]; have := HG1.out; simpa using this⟩

set_option maxRecDepth 100000 in
set_option maxHeartbeats 1000000 in
theorem appendNumber2 (n : Nat) (xs : List Nat) (v : Value) (base : Nat) (w : World) (hown : Own w base v xs) (hbase : base ≤ w.heap.size) (hn : xs.length + 8 ≤ 140737488355328) :
    Calls Tryd.prog 23 #[v, .int .i64 2, .int .u64 (n : Int)] w fun e w' => ∃ u, e = .returned u ∧ Grew w v base w' u (xs ++ be 2 n) := by
  have q1 := byte_at n 256 1 (by decide)
  have q0 : IntKind.u8.wrap (n : Int) = ((n / 256 ^ 0 % 256 : Nat) : Int) := by rw [IntKind.wrap_u8']; omega
  have HBE : Hid (be 2 n = [n / 256 ^ 1 % 256, n / 256 ^ 0 % 256]) := rfl
  have l1 : n / 256 ^ 1 % 256 < 256 := Nat.mod_lt _ (by decide)
  have l0 : n / 256 ^ 0 % 256 < 256 := Nat.mod_lt _ (by decide)
  generalize n / 256 ^ 1 % 256 = b1 at q1 HBE l1
  generalize n / 256 ^ 0 % 256 = b0 at q0 HBE l0
  have HG := hide (Grew.refl hown)
  obtain ⟨ao, cap, rfl⟩ := hown.form
  have HL1 := hide l1
  have HL0 := hide l0
  clear hown l1 l0
  go_enter Tryd.func23, Tryd.ntmps23
  go_wp2_with (at_builtin; refine wpList_append_grew rfl _ _ rfl base _ _ _ [b1] rfl rfl (HG.out.alloc _) (lit_bytes w [b1] (by simp; exact HL1.out) (by simp)) (by simp; omega) hbase ?_)
  intro v1 w1 hg
  have HG1 := hide hg
  obtain ⟨ao1, n1, cap1, rfl, HN1⟩ := hg.form'
  clear hg
  go_wp2_with (at_builtin; refine wpList_append_grew rfl _ _ rfl base _ _ _ [b0] rfl rfl (HG1.out.alloc _) (lit_bytes w1 [b0] (by simp; exact HL0.out) (by simp)) (by simp; omega) hbase ?_)
  intro v2 w2 hg
  have HG2 := hide hg
  obtain ⟨ao2, n2, cap2, rfl, HN2⟩ := hg.form'
  clear hg
  go_wp2
  go_ret
  exact ⟨_, rfl, by rw [HBE.out]; have := HG2.out; simpa using this⟩

set_option maxRecDepth 100000 in
set_option maxHeartbeats 1000000 in
theorem appendNumber4 (n : Nat) (xs : List Nat) (v : Value) (base : Nat) (w : World) (hown : Own w base v xs) (hbase : base ≤ w.heap.size) (hn : xs.length + 8 ≤ 140737488355328) :
    Calls Tryd.prog 23 #[v, .int .i64 4, .int .u64 (n : Int)] w fun e w' => ∃ u, e = .returned u ∧ Grew w v base w' u (xs ++ be 4 n) := by
  have q3 := byte_at n 16777216 3 (by decide)
  have q2 := byte_at n 65536 2 (by decide)
  have q1 := byte_at n 256 1 (by decide)
  have q0 : IntKind.u8.wrap (n : Int) = ((n / 256 ^ 0 % 256 : Nat) : Int) := by rw [IntKind.wrap_u8']; omega
  have HBE : Hid (be 4 n = [n / 256 ^ 3 % 256, n / 256 ^ 2 % 256, n / 256 ^ 1 % 256, n / 256 ^ 0 % 256]) := rfl
  have l3 : n / 256 ^ 3 % 256 < 256 := Nat.mod_lt _ (by decide)
  have l2 : n / 256 ^ 2 % 256 < 256 := Nat.mod_lt _ (by decide)
  have l1 : n / 256 ^ 1 % 256 < 256 := Nat.mod_lt _ (by decide)
  have l0 : n / 256 ^ 0 % 256 < 256 := Nat.mod_lt _ (by decide)
  generalize n / 256 ^ 3 % 256 = b3 at q3 HBE l3
  generalize n / 256 ^ 2 % 256 = b2 at q2 HBE l2
  generalize n / 256 ^ 1 % 256 = b1 at q1 HBE l1
  generalize n / 256 ^ 0 % 256 = b0 at q0 HBE l0
  have HG := hide (Grew.refl hown)
  obtain ⟨ao, cap, rfl⟩ := hown.form
  have HL3 := hide l3
  have HL2 := hide l2
  have HL1 := hide l1
  have HL0 := hide l0
  clear hown l3 l2 l1 l0
  go_enter Tryd.func23, Tryd.ntmps23
  go_wp2_with (at_builtin; refine wpList_append_grew rfl _ _ rfl base _ _ _ [b3, b2] rfl rfl (HG.out.alloc _) (lit_bytes w [b3, b2] (by simp; exact ⟨HL3.out, HL2.out⟩) (by simp)) (by simp; omega) hbase ?_)
  intro v1 w1 hg
  have HG1 := hide hg
  obtain ⟨ao1, n1, cap1, rfl, HN1⟩ := hg.form'
  clear hg
  go_wp2_with (at_builtin; refine wpList_append_grew rfl _ _ rfl base _ _ _ [b1] rfl rfl (HG1.out.alloc _) (lit_bytes w1 [b1] (by simp; exact HL1.out) (by simp)) (by simp; omega) hbase ?_)
  intro v2 w2 hg
  have HG2 := hide hg
  obtain ⟨ao2, n2, cap2, rfl, HN2⟩ := hg.form'
  clear hg
  go_wp2_with (at_builtin; refine wpList_append_grew rfl _ _ rfl base _ _ _ [b0] rfl rfl (HG2.out.alloc _) (lit_bytes w2 [b0] (by simp; exact HL0.out) (by simp)) (by simp; omega) hbase ?_)
  intro v3 w3 hg
  have HG3 := hide hg
  obtain ⟨ao3, n3, cap3, rfl, HN3⟩ := hg.form'
  clear hg
  go_wp2
  go_ret
  exact ⟨_, rfl, by rw [HBE.out]; have := HG3.out; simpa using this⟩

set_option maxRecDepth 100000 in
set_option maxHeartbeats 1000000 in
theorem appendNumber8 (n : Nat) (xs : List Nat) (v : Value) (base : Nat) (w : World) (hown : Own w base v xs) (hbase : base ≤ w.heap.size) (hn : xs.length + 8 ≤ 140737488355328) :
    Calls Tryd.prog 23 #[v, .int .i64 8, .int .u64 (n : Int)] w fun e w' => ∃ u, e = .returned u ∧ Grew w v base w' u (xs ++ be 8 n) := by
  have q7 := byte_at n 72057594037927936 7 (by decide)
  have q6 := byte_at n 281474976710656 6 (by decide)
  have q5 := byte_at n 1099511627776 5 (by decide)
  have q4 := byte_at n 4294967296 4 (by decide)
  have q3 := byte_at n 16777216 3 (by decide)
  have q2 := byte_at n 65536 2 (by decide)
  have q1 := byte_at n 256 1 (by decide)
  have q0 : IntKind.u8.wrap (n : Int) = ((n / 256 ^ 0 % 256 : Nat) : Int) := by rw [IntKind.wrap_u8']; omega
  have HBE : Hid (be 8 n = [n / 256 ^ 7 % 256, n / 256 ^ 6 % 256, n / 256 ^ 5 % 256, n / 256 ^ 4 % 256, n / 256 ^ 3 % 256, n / 256 ^ 2 % 256, n / 256 ^ 1 % 256, n / 256 ^ 0 % 256]) := rfl
  have l7 : n / 256 ^ 7 % 256 < 256 := Nat.mod_lt _ (by decide)
  have l6 : n / 256 ^ 6 % 256 < 256 := Nat.mod_lt _ (by decide)
  have l5 : n / 256 ^ 5 % 256 < 256 := Nat.mod_lt _ (by decide)
  have l4 : n / 256 ^ 4 % 256 < 256 := Nat.mod_lt _ (by decide)
  have l3 : n / 256 ^ 3 % 256 < 256 := Nat.mod_lt _ (by decide)
  have l2 : n / 256 ^ 2 % 256 < 256 := Nat.mod_lt _ (by decide)
  have l1 : n / 256 ^ 1 % 256 < 256 := Nat.mod_lt _ (by decide)
  have l0 : n / 256 ^ 0 % 256 < 256 := Nat.mod_lt _ (by decide)
  generalize n / 256 ^ 7 % 256 = b7 at q7 HBE l7
  generalize n / 256 ^ 6 % 256 = b6 at q6 HBE l6
  generalize n / 256 ^ 5 % 256 = b5 at q5 HBE l5
  generalize n / 256 ^ 4 % 256 = b4 at q4 HBE l4
  generalize n / 256 ^ 3 % 256 = b3 at q3 HBE l3
  generalize n / 256 ^ 2 % 256 = b2 at q2 HBE l2
  generalize n / 256 ^ 1 % 256 = b1 at q1 HBE l1
  generalize n / 256 ^ 0 % 256 = b0 at q0 HBE l0
  have HG := hide (Grew.refl hown)
  obtain ⟨ao, cap, rfl⟩ := hown.form
  have HL7 := hide l7
  have HL6 := hide l6
  have HL5 := hide l5
  have HL4 := hide l4
  have HL3 := hide l3
  have HL2 := hide l2
  have HL1 := hide l1
  have HL0 := hide l0
  clear hown l7 l6 l5 l4 l3 l2 l1 l0
  go_enter Tryd.func23, Tryd.ntmps23
  go_wp2_with (at_builtin; refine wpList_append_grew rfl _ _ rfl base _ _ _ [b7, b6, b5, b4] rfl rfl (HG.out.alloc _) (lit_bytes w [b7, b6, b5, b4] (by simp; exact ⟨HL7.out, HL6.out, HL5.out, HL4.out⟩) (by simp)) (by simp; omega) hbase ?_)
  intro v1 w1 hg
  have HG1 := hide hg
  obtain ⟨ao1, n1, cap1, rfl, HN1⟩ := hg.form'
  clear hg
  go_wp2_with (at_builtin; refine wpList_append_grew rfl _ _ rfl base _ _ _ [b3, b2] rfl rfl (HG1.out.alloc _) (lit_bytes w1 [b3, b2] (by simp; exact ⟨HL3.out, HL2.out⟩) (by simp)) (by simp; omega) hbase ?_)
  intro v2 w2 hg
  have HG2 := hide hg
  obtain ⟨ao2, n2, cap2, rfl, HN2⟩ := hg.form'
  clear hg
  go_wp2_with (at_builtin; refine wpList_append_grew rfl _ _ rfl base _ _ _ [b1] rfl rfl (HG2.out.alloc _) (lit_bytes w2 [b1] (by simp; exact HL1.out) (by simp)) (by simp; omega) hbase ?_)
  intro v3 w3 hg
  have HG3 := hide hg
  obtain ⟨ao3, n3, cap3, rfl, HN3⟩ := hg.form'
  clear hg
  go_wp2_with (at_builtin; refine wpList_append_grew rfl _ _ rfl base _ _ _ [b0] rfl rfl (HG3.out.alloc _) (lit_bytes w3 [b0] (by simp; exact HL0.out) (by simp)) (by simp; omega) hbase ?_)
  intro v4 w4 hg
  have HG4 := hide hg
  obtain ⟨ao4, n4, cap4, rfl, HN4⟩ := hg.form'
  clear hg
  go_wp2
  go_ret
  exact ⟨_, rfl, by rw [HBE.out]; have := HG4.out; simpa using this⟩

/-- appendNumber, whatever the width. -/
theorem appendNumber_any (wd : Nat) (hwd : wd = 1 ∨ wd = 2 ∨ wd = 4 ∨ wd = 8) (n : Nat) (xs : List Nat) (v : Value) (base : Nat) (w : World) (hown : Own w base v xs) (hbase : base ≤ w.heap.size) (hn : xs.length + 8 ≤ 140737488355328) :
    Calls Tryd.prog 23 #[v, .int .i64 (wd : Int), .int .u64 (n : Int)] w fun e w' => ∃ u, e = .returned u ∧ Grew w v base w' u (xs ++ be wd n) := by
  rcases hwd with rfl | rfl | rfl | rfl
  · exact appendNumber1 n xs v base w hown hbase hn
  · exact appendNumber2 n xs v base w hown hbase hn
  · exact appendNumber4 n xs v base w hown hbase hn
  · exact appendNumber8 n xs v base w hown hbase hn
end Go.Proofs.YtlgmfiboekmhkabDoor
