import Derived.Test.YtcidadikmmdalaaDoorFM01
import Derived.BigQuiet
import Derived.LaidEql
import Derived.Stop.Asserts
import Derived.RowKitTokens
/- Numbers in bytes, the highest first: plain mathematics, and appendNumber by its contract. -/
namespace Go.Proofs.YtcidadikmmdalaaDoor.Fr
open Go.RowKit Go.Extern

/-- A number in so many bytes, the highest first. -/
def be : Nat → Nat → List Nat
  | 0, _ => []
  | k + 1, n => (n / 256 ^ k % 256) :: be k n
/-- The number that bytes are. -/
def val (bs : List Nat) : Nat := bs.foldl (fun n b => n * 256 + b) 0
theorem be_length : ∀ (k n : Nat), (be k n).length = k
  | 0, _ => rfl
  | k + 1, n => by simp [be, be_length k n]
theorem be_lt : ∀ (k n : Nat), ∀ b ∈ be k n, b < 256
  | 0, _ => by simp [be]
  | k + 1, n => by
    intro b hb
    rcases List.mem_cons.1 hb with rfl | h
    · exact Nat.mod_lt _ (by decide)
    · exact be_lt k n b h
theorem fold_be : ∀ (k n a : Nat), (be k n).foldl (fun n b => n * 256 + b) a = a * 256 ^ k + n % 256 ^ k
  | 0, n, a => by simp [be, Nat.mod_one]
  | k + 1, n, a => by
    simp only [be, List.foldl_cons]
    rw [fold_be k n]
    have h1 : n % 256 ^ (k + 1) = 256 ^ k * (n / 256 ^ k % 256) + n % 256 ^ k := by
      rw [Nat.pow_succ, Nat.mod_mul]; omega
    rw [h1, Nat.pow_succ, Nat.add_mul, Nat.mul_comm (256 ^ k) (n / 256 ^ k % 256), Nat.mul_assoc a 256, Nat.mul_comm 256 (256 ^ k)]
    omega
theorem val_be (k n : Nat) (h : n < 256 ^ k) : val (be k n) = n := by
  unfold val; rw [fold_be, Nat.mod_eq_of_lt h]; omega
theorem fold_lt : ∀ (bs : List Nat) (a : Nat), (∀ b ∈ bs, b < 256) → bs.foldl (fun n b => n * 256 + b) a < (a + 1) * 256 ^ bs.length
  | [], a, _ => by simp
  | b :: bs, a, h => by
    have hb := h b (List.mem_cons_self)
    have := fold_lt bs (a * 256 + b) (fun x hx => h x (List.mem_cons_of_mem _ hx))
    simp only [List.foldl_cons, List.length_cons]
    refine Nat.lt_of_lt_of_le this ?_
    rw [Nat.pow_succ, Nat.mul_comm (256 ^ bs.length) 256, ← Nat.mul_assoc]
    exact Nat.mul_le_mul_right _ (by omega)
theorem val_lt (bs : List Nat) (h : ∀ b ∈ bs, b < 256) : val bs < 256 ^ bs.length := by
  have := fold_lt bs 0 h; simpa [val] using this
theorem fold_from : ∀ (bs : List Nat) (a : Nat), bs.foldl (fun n b => n * 256 + b) a = a * 256 ^ bs.length + val bs
  | [], a => by simp [val]
  | b :: bs, a => by
    unfold val
    simp only [List.foldl_cons, List.length_cons]
    rw [fold_from bs, fold_from bs (0 * 256 + b), Nat.pow_succ, Nat.add_mul, Nat.zero_mul, Nat.zero_add, Nat.mul_assoc a 256, Nat.mul_comm 256 (256 ^ bs.length)]
    omega
theorem be_val : ∀ (bs : List Nat) (x : Nat), (∀ b ∈ bs, b < 256) → be bs.length (x * 256 ^ bs.length + val bs) = bs
  | [], _, _ => rfl
  | b :: bs, x, h => by
    have hb := h b (List.mem_cons_self)
    have hl := fun y hy => h y (List.mem_cons_of_mem _ hy)
    have hv := val_lt bs hl
    have e : x * 256 ^ (bs.length + 1) + val (b :: bs) = (x * 256 + b) * 256 ^ bs.length + val bs := by
      unfold val
      simp only [List.foldl_cons]
      rw [fold_from bs, Nat.pow_succ, Nat.zero_mul, Nat.zero_add, Nat.add_mul (x * 256) b, Nat.mul_assoc x 256, Nat.mul_comm 256 (256 ^ bs.length)]
      unfold val; omega
    simp only [List.length_cons, be]
    rw [e]
    congr 1
    · rw [Nat.add_comm, Nat.add_mul_div_right _ _ (Nat.pow_pos (by decide)), Nat.div_eq_of_lt hv]; omega
    · exact be_val bs (x * 256 + b) hl
theorem be_of_val (bs : List Nat) (h : ∀ b ∈ bs, b < 256) : be bs.length (val bs) = bs := by
  have := be_val bs 0 h; simpa using this
theorem val_iff (bs : List Nat) (h : ∀ b ∈ bs, b < 256) (n : Nat) (hn : n < 256 ^ bs.length) : val bs = n ↔ be bs.length n = bs :=
  ⟨fun e => by rw [← e]; exact be_of_val bs h, fun e => by rw [← e]; exact val_be _ _ hn⟩

/-- From the world 'w0' with the slice 'v0': 'w' with the slice 'v' of the bytes 'xs'; nothing old has turned but the row of 'v0'. -/
structure Grew (w0 : World) (v0 : Value) (base : Nat) (w : World) (v : Value) (xs : List Nat) : Prop where
  own : Own w base v xs
  grown : w0.grownBy w v0.ownBlock
  at_ : ∀ k, v.ownBlock = some k → v0.ownBlock = some k ∨ w0.heap.size ≤ k
theorem Grew.refl {w0 : World} {v0 : Value} {base : Nat} {xs : List Nat} (h : Own w0 base v0 xs) : Grew w0 v0 base w0 v0 xs := ⟨h, grownBy_refl _ _, fun _ h => .inl h⟩
theorem Grew.alloc {w0 : World} {v0 : Value} {base : Nat} {w : World} {v : Value} {xs : List Nat} (h : Grew w0 v0 base w v xs) (o : Obj) : Grew w0 v0 base (w.alloc o) v xs :=
  ⟨h.own.below ((Below.refl _ _).alloc (Nat.le_refl _) o), h.grown.trans (World.grownBy_alloc w o _), h.at_⟩
theorem Grew.below {w0 : World} {v0 : Value} {base : Nat} {w : World} {v : Value} {xs : List Nat} (h : Grew w0 v0 base w v xs) (hb : base ≤ w0.heap.size) (h0 : ∀ k, v0.ownBlock = some k → base ≤ k) : Below base w0 w :=
  (Below.refl base w0).grown h.grown hb h0
theorem Grew.form {w0 : World} {v0 : Value} {base : Nat} {w : World} {v : Value} {xs : List Nat} (h : Grew w0 v0 base w v xs) : ∃ ao cap, v = .slice ao xs.length cap := h.own.form

theorem Grew.form' {w0 : World} {v0 : Value} {base : Nat} {w : World} {v : Value} {xs : List Nat} (h : Grew w0 v0 base w v xs) : ∃ ao n cap, v = .slice ao n cap ∧ Hid (n = xs.length) := by
  obtain ⟨ao, cap, rfl⟩ := h.form
  exact ⟨_, _, _, rfl, rfl⟩
theorem wpList_append_grew {w0 w : World} {v0 : Value} {ops : Array Oper} {rest : List Oper} {o : Oper} {a : Act} {Q : Exit → Act → World → Prop} (hgd : o.guard = none) (s x : Operand)
    (ho : o.op = .call { callee := .builtin .append, args := #[s, x], argTypes := #[25, 25] })
    (base : Nat) (v u : Value) (xs ys : List Nat) (hs : a.eval s = v) (hx : a.eval x = u) (hg : Grew w0 v0 base w v xs) (hb : Bytes w u ys) (hn : xs.length + ys.length ≤ 140737488355328) (hbase : base ≤ w0.heap.size)
    (h : ∀ v' w', Grew w0 v0 base w' v' (xs ++ ys) → wpList Tryd.prog ops Q rest (a.put o.dst v') w') : wpList Tryd.prog ops Q (o :: rest) a w := by
  refine wpList_append_bytes hgd s x ho base v u xs ys hs hx hg.own hb hn (Nat.le_trans hbase hg.grown.size) fun v' w' h1 h2 h3 => h v' w' ⟨h1, ?_, ?_⟩
  · refine ⟨h2.os.trans hg.grown.os, h2.tape.trans hg.grown.tape, h2.output.trans hg.grown.output, Nat.le_trans hg.grown.size h2.size, fun k hk hne => ?_⟩
    rw [h2.block k (Nat.lt_of_lt_of_le hk hg.grown.size) ?_, hg.grown.block k hk hne]
    intro e
    rcases hg.at_ k e.symm with h4 | h4
    · exact hne h4.symm
    · omega
  · intro k hk
    rcases h3 with h3 | h3
    · exact hg.at_ k (h3 ▸ hk)
    · rw [h3] at hk
      have := Option.some.inj hk
      have := hg.grown.size
      right; omega

theorem lit_bytes (w : World) (bs : List Nat) (hl : ∀ b ∈ bs, b < 256) (hn : bs.length ≤ 140737488355328) : Bytes (w.alloc (.cells (cellsB bs).toArray 5)) (.slice (some ⟨w.heap.size, 0, none⟩) bs.length bs.length) bs :=
  (Own.lit w w.heap.size (Nat.le_refl _) bs hl hn).bytes

/-- One byte of a number, as the walk spells it. -/
theorem byte_at (n : Nat) (d : Int) (k : Nat) (hd : d = ((256 ^ k : Nat) : Int)) : IntKind.u8.wrap ((n : Int) / d) = ((n / 256 ^ k % 256 : Nat) : Int) := by
  subst hd
  rw [IntKind.wrap_u8']
  omega

set_option maxRecDepth 100000 in
set_option maxHeartbeats 1000000 in
theorem appendNumber1 (n : Nat) (xs : List Nat) (v : Value) (base : Nat) (w : World) (hown : Own w base v xs) (hbase : base ≤ w.heap.size) (hn : xs.length + 8 ≤ 140737488355328) :
    Calls Tryd.prog 44 #[v, .int .i64 1, .int .u64 (n : Int)] w fun e w' => ∃ u, e = .returned u ∧ Grew w v base w' u (xs ++ be 1 n) := by
  have q0 : IntKind.u8.wrap (n : Int) = ((n / 256 ^ 0 % 256 : Nat) : Int) := by rw [IntKind.wrap_u8']; omega
  have HBE : Hid (be 1 n = [n / 256 ^ 0 % 256]) := rfl
  have l0 : n / 256 ^ 0 % 256 < 256 := Nat.mod_lt _ (by decide)
  generalize n / 256 ^ 0 % 256 = b0 at q0 HBE l0
  have HG := hide (Grew.refl hown)
  obtain ⟨ao, cap, rfl⟩ := hown.form
  have HL0 := hide l0
  clear hown l0
  go_enter Tryd.func44, Tryd.ntmps44
  go_wp2_with (at_builtin; refine wpList_append_grew rfl _ _ rfl base _ _ _ [b0] rfl rfl (HG.out.alloc _) (lit_bytes w [b0] (by simp; exact HL0.out) (by simp)) (by simp; omega) hbase ?_)
  intro v1 w1 hg
  have HG1 := hide hg
  obtain ⟨ao1, n1, cap1, rfl, HN1⟩ := hg.form'
  clear hg
  go_wp2
  go_ret
  exact ⟨_, rfl, by rw [HBE.out]; have := HG1.out; simpa using this⟩

set_option maxRecDepth 100000 in
set_option maxHeartbeats 1000000 in
theorem appendNumber2 (n : Nat) (xs : List Nat) (v : Value) (base : Nat) (w : World) (hown : Own w base v xs) (hbase : base ≤ w.heap.size) (hn : xs.length + 8 ≤ 140737488355328) :
    Calls Tryd.prog 44 #[v, .int .i64 2, .int .u64 (n : Int)] w fun e w' => ∃ u, e = .returned u ∧ Grew w v base w' u (xs ++ be 2 n) := by
  have q1 := byte_at n 256 1 (by decide)
  have q0 : IntKind.u8.wrap (n : Int) = ((n / 256 ^ 0 % 256 : Nat) : Int) := by rw [IntKind.wrap_u8']; omega
  have HBE : Hid (be 2 n = [n / 256 ^ 1 % 256, n / 256 ^ 0 % 256]) := rfl
  have l1 : n / 256 ^ 1 % 256 < 256 := Nat.mod_lt _ (by decide)
  have l0 : n / 256 ^ 0 % 256 < 256 := Nat.mod_lt _ (by decide)
  generalize n / 256 ^ 1 % 256 = b1 at q1 HBE l1
  generalize n / 256 ^ 0 % 256 = b0 at q0 HBE l0
  have HG := hide (Grew.refl hown)
  obtain ⟨ao, cap, rfl⟩ := hown.form
  have HL1 := hide l1
  have HL0 := hide l0
  clear hown l1 l0
  go_enter Tryd.func44, Tryd.ntmps44
  go_wp2_with (at_builtin; refine wpList_append_grew rfl _ _ rfl base _ _ _ [b1] rfl rfl (HG.out.alloc _) (lit_bytes w [b1] (by simp; exact HL1.out) (by simp)) (by simp; omega) hbase ?_)
  intro v1 w1 hg
  have HG1 := hide hg
  obtain ⟨ao1, n1, cap1, rfl, HN1⟩ := hg.form'
  clear hg
  go_wp2_with (at_builtin; refine wpList_append_grew rfl _ _ rfl base _ _ _ [b0] rfl rfl (HG1.out.alloc _) (lit_bytes w1 [b0] (by simp; exact HL0.out) (by simp)) (by simp; omega) hbase ?_)
  intro v2 w2 hg
  have HG2 := hide hg
  obtain ⟨ao2, n2, cap2, rfl, HN2⟩ := hg.form'
  clear hg
  go_wp2
  go_ret
  exact ⟨_, rfl, by rw [HBE.out]; have := HG2.out; simpa using this⟩

set_option maxRecDepth 100000 in
set_option maxHeartbeats 1000000 in
theorem appendNumber4 (n : Nat) (xs : List Nat) (v : Value) (base : Nat) (w : World) (hown : Own w base v xs) (hbase : base ≤ w.heap.size) (hn : xs.length + 8 ≤ 140737488355328) :
    Calls Tryd.prog 44 #[v, .int .i64 4, .int .u64 (n : Int)] w fun e w' => ∃ u, e = .returned u ∧ Grew w v base w' u (xs ++ be 4 n) := by
  have q3 := byte_at n 16777216 3 (by decide)
  have q2 := byte_at n 65536 2 (by decide)
  have q1 := byte_at n 256 1 (by decide)
  have q0 : IntKind.u8.wrap (n : Int) = ((n / 256 ^ 0 % 256 : Nat) : Int) := by rw [IntKind.wrap_u8']; omega
  have HBE : Hid (be 4 n = [n / 256 ^ 3 % 256, n / 256 ^ 2 % 256, n / 256 ^ 1 % 256, n / 256 ^ 0 % 256]) := rfl
  have l3 : n / 256 ^ 3 % 256 < 256 := Nat.mod_lt _ (by decide)
  have l2 : n / 256 ^ 2 % 256 < 256 := Nat.mod_lt _ (by decide)
  have l1 : n / 256 ^ 1 % 256 < 256 := Nat.mod_lt _ (by decide)
  have l0 : n / 256 ^ 0 % 256 < 256 := Nat.mod_lt _ (by decide)
  generalize n / 256 ^ 3 % 256 = b3 at q3 HBE l3
  generalize n / 256 ^ 2 % 256 = b2 at q2 HBE l2
  generalize n / 256 ^ 1 % 256 = b1 at q1 HBE l1
  generalize n / 256 ^ 0 % 256 = b0 at q0 HBE l0
  have HG := hide (Grew.refl hown)
  obtain ⟨ao, cap, rfl⟩ := hown.form
  have HL3 := hide l3
  have HL2 := hide l2
  have HL1 := hide l1
  have HL0 := hide l0
  clear hown l3 l2 l1 l0
  go_enter Tryd.func44, Tryd.ntmps44
  go_wp2_with (at_builtin; refine wpList_append_grew rfl _ _ rfl base _ _ _ [b3, b2] rfl rfl (HG.out.alloc _) (lit_bytes w [b3, b2] (by simp; exact ⟨HL3.out, HL2.out⟩) (by simp)) (by simp; omega) hbase ?_)
  intro v1 w1 hg
  have HG1 := hide hg
  obtain ⟨ao1, n1, cap1, rfl, HN1⟩ := hg.form'
  clear hg
  go_wp2_with (at_builtin; refine wpList_append_grew rfl _ _ rfl base _ _ _ [b1] rfl rfl (HG1.out.alloc _) (lit_bytes w1 [b1] (by simp; exact HL1.out) (by simp)) (by simp; omega) hbase ?_)
  intro v2 w2 hg
  have HG2 := hide hg
  obtain ⟨ao2, n2, cap2, rfl, HN2⟩ := hg.form'
  clear hg
  go_wp2_with (at_builtin; refine wpList_append_grew rfl _ _ rfl base _ _ _ [b0] rfl rfl (HG2.out.alloc _) (lit_bytes w2 [b0] (by simp; exact HL0.out) (by simp)) (by simp; omega) hbase ?_)
  intro v3 w3 hg
  have HG3 := hide hg
  obtain ⟨ao3, n3, cap3, rfl, HN3⟩ := hg.form'
  clear hg
  go_wp2
  go_ret
  exact ⟨_, rfl, by rw [HBE.out]; have := HG3.out; simpa using this⟩

set_option maxRecDepth 100000 in
set_option maxHeartbeats 1000000 in
theorem appendNumber8 (n : Nat) (xs : List Nat) (v : Value) (base : Nat) (w : World) (hown : Own w base v xs) (hbase : base ≤ w.heap.size) (hn : xs.length + 8 ≤ 140737488355328) :
    Calls Tryd.prog 44 #[v, .int .i64 8, .int .u64 (n : Int)] w fun e w' => ∃ u, e = .returned u ∧ Grew w v base w' u (xs ++ be 8 n) := by
  have q7 := byte_at n 72057594037927936 7 (by decide)
  have q6 := byte_at n 281474976710656 6 (by decide)
  have q5 := byte_at n 1099511627776 5 (by decide)
  have q4 := byte_at n 4294967296 4 (by decide)
  have q3 := byte_at n 16777216 3 (by decide)
  have q2 := byte_at n 65536 2 (by decide)
  have q1 := byte_at n 256 1 (by decide)
  have q0 : IntKind.u8.wrap (n : Int) = ((n / 256 ^ 0 % 256 : Nat) : Int) := by rw [IntKind.wrap_u8']; omega
  have HBE : Hid (be 8 n = [n / 256 ^ 7 % 256, n / 256 ^ 6 % 256, n / 256 ^ 5 % 256, n / 256 ^ 4 % 256, n / 256 ^ 3 % 256, n / 256 ^ 2 % 256, n / 256 ^ 1 % 256, n / 256 ^ 0 % 256]) := rfl
  have l7 : n / 256 ^ 7 % 256 < 256 := Nat.mod_lt _ (by decide)
  have l6 : n / 256 ^ 6 % 256 < 256 := Nat.mod_lt _ (by decide)
  have l5 : n / 256 ^ 5 % 256 < 256 := Nat.mod_lt _ (by decide)
  have l4 : n / 256 ^ 4 % 256 < 256 := Nat.mod_lt _ (by decide)
  have l3 : n / 256 ^ 3 % 256 < 256 := Nat.mod_lt _ (by decide)
  have l2 : n / 256 ^ 2 % 256 < 256 := Nat.mod_lt _ (by decide)
  have l1 : n / 256 ^ 1 % 256 < 256 := Nat.mod_lt _ (by decide)
  have l0 : n / 256 ^ 0 % 256 < 256 := Nat.mod_lt _ (by decide)
  generalize n / 256 ^ 7 % 256 = b7 at q7 HBE l7
  generalize n / 256 ^ 6 % 256 = b6 at q6 HBE l6
  generalize n / 256 ^ 5 % 256 = b5 at q5 HBE l5
  generalize n / 256 ^ 4 % 256 = b4 at q4 HBE l4
  generalize n / 256 ^ 3 % 256 = b3 at q3 HBE l3
  generalize n / 256 ^ 2 % 256 = b2 at q2 HBE l2
  generalize n / 256 ^ 1 % 256 = b1 at q1 HBE l1
  generalize n / 256 ^ 0 % 256 = b0 at q0 HBE l0
  have HG := hide (Grew.refl hown)
  obtain ⟨ao, cap, rfl⟩ := hown.form
  have HL7 := hide l7
  have HL6 := hide l6
  have HL5 := hide l5
  have HL4 := hide l4
  have HL3 := hide l3
  have HL2 := hide l2
  have HL1 := hide l1
  have HL0 := hide l0
  clear hown l7 l6 l5 l4 l3 l2 l1 l0
  go_enter Tryd.func44, Tryd.ntmps44
  go_wp2_with (at_builtin; refine wpList_append_grew rfl _ _ rfl base _ _ _ [b7, b6, b5, b4] rfl rfl (HG.out.alloc _) (lit_bytes w [b7, b6, b5, b4] (by simp; exact ⟨HL7.out, HL6.out, HL5.out, HL4.out⟩) (by simp)) (by simp; omega) hbase ?_)
  intro v1 w1 hg
  have HG1 := hide hg
  obtain ⟨ao1, n1, cap1, rfl, HN1⟩ := hg.form'
  clear hg
  go_wp2_with (at_builtin; refine wpList_append_grew rfl _ _ rfl base _ _ _ [b3, b2] rfl rfl (HG1.out.alloc _) (lit_bytes w1 [b3, b2] (by simp; exact ⟨HL3.out, HL2.out⟩) (by simp)) (by simp; omega) hbase ?_)
  intro v2 w2 hg
  have HG2 := hide hg
  obtain ⟨ao2, n2, cap2, rfl, HN2⟩ := hg.form'
  clear hg
  go_wp2_with (at_builtin; refine wpList_append_grew rfl _ _ rfl base _ _ _ [b1] rfl rfl (HG2.out.alloc _) (lit_bytes w2 [b1] (by simp; exact HL1.out) (by simp)) (by simp; omega) hbase ?_)
  intro v3 w3 hg
  have HG3 := hide hg
  obtain ⟨ao3, n3, cap3, rfl, HN3⟩ := hg.form'
  clear hg
  go_wp2_with (at_builtin; refine wpList_append_grew rfl _ _ rfl base _ _ _ [b0] rfl rfl (HG3.out.alloc _) (lit_bytes w3 [b0] (by simp; exact HL0.out) (by simp)) (by simp; omega) hbase ?_)
  intro v4 w4 hg
  have HG4 := hide hg
  obtain ⟨ao4, n4, cap4, rfl, HN4⟩ := hg.form'
  clear hg
  go_wp2
  go_ret
  exact ⟨_, rfl, by rw [HBE.out]; have := HG4.out; simpa using this⟩

/-- appendNumber, whatever the width. -/
theorem appendNumber_any (wd : Nat) (hwd : wd = 1 ∨ wd = 2 ∨ wd = 4 ∨ wd = 8) (n : Nat) (xs : List Nat) (v : Value) (base : Nat) (w : World) (hown : Own w base v xs) (hbase : base ≤ w.heap.size) (hn : xs.length + 8 ≤ 140737488355328) :
    Calls Tryd.prog 44 #[v, .int .i64 (wd : Int), .int .u64 (n : Int)] w fun e w' => ∃ u, e = .returned u ∧ Grew w v base w' u (xs ++ be wd n) := by
  rcases hwd with rfl | rfl | rfl | rfl
  · exact appendNumber1 n xs v base w hown hbase hn
  · exact appendNumber2 n xs v base w hown hbase hn
  · exact appendNumber4 n xs v base w hown hbase hn
  · exact appendNumber8 n xs v base w hown hbase hn
end Go.Proofs.YtcidadikmmdalaaDoor.Fr

/- readNumber by its contract. -/
namespace Go.Proofs.YtcidadikmmdalaaDoor.Fr
open Go.RowKit Go.Extern

theorem IntKind.wrap_u64' (n : Int) : IntKind.u64.wrap n = n % 18446744073709551616 := by simp [IntKind.wrap, IntKind.bits, IntKind.signed]
theorem Bytes.at0 {w : World} {v : Value} {bs : List Nat} (h : Bytes w v bs) (hp : 0 < bs.length) : ∃ g off cap, v = .slice (some ⟨g, off, none⟩) bs.length cap ∧ (∀ (i : Nat) b, bs[i]? = some b → w.cell? ⟨g, off + i, none⟩ = some (.int .u8 (b : Int))) ∧ bs.length ≤ cap ∧ cap ≤ 9223372036854775807 := by
  obtain ⟨ao, cap, g, off, rfl, h2, h3, h4, h5, h6, h7, h8⟩ := h
  rw [h2 hp]
  exact ⟨g, off, cap, rfl, h3, h7, by unfold maxLen at h8; omega⟩

theorem or_lo (x b : Nat) (k : Nat) (hx : x % 2 ^ k = 0) (hb : b < 2 ^ k) (hx64 : x < 18446744073709551616) (hb64 : b < 18446744073709551616) : bits .or .u64 (x : Int) (b : Int) = ((x + b : Nat) : Int) := by
  rw [u64_or_nat x b hx64 hb64, nat_join k x b hx hb]
theorem or_zero (x : Nat) (hx : x < 18446744073709551616) : bits .or .u64 0 (x : Int) = (x : Int) := by
  have := u64_or_nat 0 x (by decide) hx; simpa using this
/-- Two bytes joined behind a number, as the walk spells it: (x·2^16 | b·2^8) | c. -/
theorem or_two (x b c : Nat) (hx : x < 281474976710656) (hb : b < 256) (hc : c < 256) : ∃ p q : Nat, bits .or .u64 ((x : Int) * 65536) ((b : Int) * 256) = (p : Int) ∧ bits .or .u64 (p : Int) (c : Int) = (q : Int) ∧ q = (x * 256 + b) * 256 + c := by
  refine ⟨x * 65536 + b * 256, (x * 256 + b) * 256 + c, ?_, ?_, rfl⟩
  · rw [show (x : Int) * 65536 = ((x * 65536 : Nat) : Int) by omega, show (b : Int) * 256 = ((b * 256 : Nat) : Int) by omega]
    exact or_lo (x * 65536) (b * 256) 16 (by omega) (by omega) (by omega) (by omega)
  · rw [or_lo (x * 65536 + b * 256) c 8 (by omega) (by omega) (by omega) (by omega)]
    exact congrArg _ (by omega)
/-- One byte joined behind a number. -/
theorem or_one (x c : Nat) (hx : x < 72057594037927936) (hc : c < 256) : ∃ q : Nat, bits .or .u64 ((x : Int) * 256) (c : Int) = (q : Int) ∧ q = x * 256 + c := by
  refine ⟨x * 256 + c, ?_, rfl⟩
  rw [show (x : Int) * 256 = ((x * 256 : Nat) : Int) by omega]
  exact or_lo (x * 256) c 8 (by omega) (by omega) (by omega) (by omega)
/-- The first four of eight bytes, as the walk spells them. -/
theorem or_four (a b c d : Nat) (ha : a < 256) (hb : b < 256) (hc : c < 256) (hd : d < 256) : ∃ p q r : Nat, bits .or .u64 ((a : Int) * 16777216) ((b : Int) * 65536) = (p : Int) ∧ bits .or .u64 (p : Int) ((c : Int) * 256) = (q : Int) ∧ bits .or .u64 (q : Int) (d : Int) = (r : Int) ∧ r = ((a * 256 + b) * 256 + c) * 256 + d := by
  refine ⟨a * 16777216 + b * 65536, a * 16777216 + b * 65536 + c * 256, ((a * 256 + b) * 256 + c) * 256 + d, ?_, ?_, ?_, rfl⟩
  · rw [show (a : Int) * 16777216 = ((a * 16777216 : Nat) : Int) by omega, show (b : Int) * 65536 = ((b * 65536 : Nat) : Int) by omega]
    exact or_lo (a * 16777216) (b * 65536) 24 (by omega) (by omega) (by omega) (by omega)
  · rw [show (c : Int) * 256 = ((c * 256 : Nat) : Int) by omega]
    exact or_lo (a * 16777216 + b * 65536) (c * 256) 16 (by omega) (by omega) (by omega) (by omega)
  · rw [or_lo (a * 16777216 + b * 65536 + c * 256) d 8 (by omega) (by omega) (by omega) (by omega)]
    exact congrArg _ (by omega)
theorem wrap64 (x : Nat) (hx : x < 18446744073709551616) : IntKind.u64.wrap (x : Int) = (x : Int) := by rw [IntKind.wrap_u64']; omega
theorem below_drewN (w : World) (n : Nat) : Below w.heap.size w (w.drewN n) := ⟨rfl, rfl, rfl, Nat.le_refl _, fun _ _ => rfl⟩

set_option maxRecDepth 100000 in
set_option maxHeartbeats 2000000 in
theorem readNumber1 (b0 : Nat) (r : List Nat) (v : Value) (w : World) (hv : Bytes w v (b0 :: r)) :
    Calls Tryd.prog 50 #[v, .int .i64 1] w fun e w' => e = .returned (.int .u64 (val [b0] : Nat)) ∧ Below w.heap.size w w' := by
  obtain ⟨g, off, cap, rfl, h3, h7, h8⟩ := hv.at0 (by simp)
  have c0 : w.cell? ⟨g, off, none⟩ = _ := h3 0 b0 rfl
  have l0 := hv.lt b0 (by simp)
  generalize hlen : (b0 :: r).length = len at *
  have hl : 1 ≤ len := by rw [← hlen]; simp
  clear hlen h3 hv
  have n0 : 0 < len := by omega
  have i0 : (0 : Int) < (len : Int) := by omega
  have u0 : IntKind.u64.wrap 0 = 0 := by decide
  have e0 := wrap64 b0 (by omega)
  have o1 := or_zero b0 (by omega)
  have HV : Hid (val [b0] = b0) := by show _ = _; simp [val]
  go_enter Tryd.func50, Tryd.ntmps50
  go_wp2
  go_ret
  rw [HV.out]
  exact ⟨rfl, Below.refl _ _⟩

set_option maxRecDepth 100000 in
set_option maxHeartbeats 2000000 in
theorem readNumber2 (b0 b1 : Nat) (r : List Nat) (v : Value) (w : World) (hv : Bytes w v (b0 :: b1 :: r)) :
    Calls Tryd.prog 50 #[v, .int .i64 2] w fun e w' => e = .returned (.int .u64 (val [b0, b1] : Nat)) ∧ Below w.heap.size w w' := by
  obtain ⟨g, off, cap, rfl, h3, h7, h8⟩ := hv.at0 (by simp)
  have c0 : w.cell? ⟨g, off, none⟩ = _ := h3 0 b0 rfl
  have c1 := h3 1 b1 rfl
  have l0 := hv.lt b0 (by simp)
  have l1 := hv.lt b1 (by simp)
  generalize hlen : (b0 :: b1 :: r).length = len at *
  have hl : 2 ≤ len := by rw [← hlen]; simp
  clear hlen h3 hv
  have n0 : 0 < len := by omega
  have n1 : 1 < len := by omega
  have i0 : (0 : Int) < (len : Int) := by omega
  have i1 : (1 : Int) < (len : Int) := by omega
  have u0 : IntKind.u64.wrap 0 = 0 := by decide
  have e0 := wrap64 b0 (by omega)
  have e1 := wrap64 b1 (by omega)
  obtain ⟨y1, o1, hy1⟩ := or_one 0 b0 (by decide) l0
  have o1' : bits .or .u64 0 (b0 : Int) = (y1 : Int) := by rw [← o1]; rfl
  obtain ⟨y2, o2, hy2⟩ := or_one y1 b1 (by omega) l1
  have y1b : y1 < 256 := by omega
  have HV : Hid (val [b0, b1] = y2) := by show _ = _; simp only [val, List.foldl]; omega
  clear o1 hy1 hy2
  go_enter Tryd.func50, Tryd.ntmps50
  go_wp2
  go_ret
  rw [HV.out]
  exact ⟨rfl, Below.refl _ _⟩

set_option maxRecDepth 100000 in
set_option maxHeartbeats 2000000 in
theorem readNumber4 (b0 b1 b2 b3 : Nat) (r : List Nat) (v : Value) (w : World) (hv : Bytes w v (b0 :: b1 :: b2 :: b3 :: r)) :
    Calls Tryd.prog 50 #[v, .int .i64 4] w fun e w' => e = .returned (.int .u64 (val [b0, b1, b2, b3] : Nat)) ∧ Below w.heap.size w w' := by
  obtain ⟨g, off, cap, rfl, h3, h7, h8⟩ := hv.at0 (by simp)
  have c0 : w.cell? ⟨g, off, none⟩ = _ := h3 0 b0 rfl
  have c1 := h3 1 b1 rfl
  have c2 := h3 2 b2 rfl
  have c3 := h3 3 b3 rfl
  have l0 := hv.lt b0 (by simp)
  have l1 := hv.lt b1 (by simp)
  have l2 := hv.lt b2 (by simp)
  have l3 := hv.lt b3 (by simp)
  generalize hlen : (b0 :: b1 :: b2 :: b3 :: r).length = len at *
  have hl : 4 ≤ len := by rw [← hlen]; simp
  clear hlen h3 hv
  have n0 : 0 < len := by omega
  have n1 : 1 < len := by omega
  have n2 : 2 < len := by omega
  have n3 : 3 < len := by omega
  have i0 : (0 : Int) < (len : Int) := by omega
  have i1 : (1 : Int) < (len : Int) := by omega
  have i2 : (2 : Int) < (len : Int) := by omega
  have i3 : (3 : Int) < (len : Int) := by omega
  have u0 : IntKind.u64.wrap 0 = 0 := by decide
  have e0 := wrap64 b0 (by omega)
  have e1 := wrap64 b1 (by omega)
  have e2 := wrap64 b2 (by omega)
  have e3 := wrap64 b3 (by omega)
  obtain ⟨p1, y1, o1, o2, hy1⟩ := or_two 0 b0 b1 (by decide) l0 l1
  have o1' : bits .or .u64 0 ((b0 : Int) * 256) = (p1 : Int) := by rw [← o1]; rfl
  obtain ⟨y2, o3, hy2⟩ := or_one y1 b2 (by omega) l2
  obtain ⟨y3, o4, hy3⟩ := or_one y2 b3 (by omega) l3
  have y1b : y1 < 65536 := by omega
  have y2b : y2 < 16777216 := by omega
  have HV : Hid (val [b0, b1, b2, b3] = y3) := by show _ = _; simp only [val, List.foldl]; omega
  clear hy1 hy2 hy3 o1
  go_enter Tryd.func50, Tryd.ntmps50
  go_wp2
  go_quiet (fail)
  go_wp2
  go_ret
  rw [HV.out]
  exact ⟨rfl, below_drewN _ _⟩

set_option maxRecDepth 100000 in
set_option maxHeartbeats 2000000 in
theorem readNumber8 (b0 b1 b2 b3 b4 b5 b6 b7 : Nat) (r : List Nat) (v : Value) (w : World) (hv : Bytes w v (b0 :: b1 :: b2 :: b3 :: b4 :: b5 :: b6 :: b7 :: r)) :
    Calls Tryd.prog 50 #[v, .int .i64 8] w fun e w' => e = .returned (.int .u64 (val [b0, b1, b2, b3, b4, b5, b6, b7] : Nat)) ∧ Below w.heap.size w w' := by
  obtain ⟨g, off, cap, rfl, h3, h7, h8⟩ := hv.at0 (by simp)
  have c0 : w.cell? ⟨g, off, none⟩ = _ := h3 0 b0 rfl
  have c1 := h3 1 b1 rfl
  have c2 := h3 2 b2 rfl
  have c3 := h3 3 b3 rfl
  have c4 := h3 4 b4 rfl
  have c5 := h3 5 b5 rfl
  have c6 := h3 6 b6 rfl
  have c7 := h3 7 b7 rfl
  have l0 := hv.lt b0 (by simp)
  have l1 := hv.lt b1 (by simp)
  have l2 := hv.lt b2 (by simp)
  have l3 := hv.lt b3 (by simp)
  have l4 := hv.lt b4 (by simp)
  have l5 := hv.lt b5 (by simp)
  have l6 := hv.lt b6 (by simp)
  have l7 := hv.lt b7 (by simp)
  generalize hlen : (b0 :: b1 :: b2 :: b3 :: b4 :: b5 :: b6 :: b7 :: r).length = len at *
  have hl : 8 ≤ len := by rw [← hlen]; simp
  clear hlen h3 hv
  have n0 : 0 < len := by omega
  have n1 : 1 < len := by omega
  have n2 : 2 < len := by omega
  have n3 : 3 < len := by omega
  have i0 : (0 : Int) < (len : Int) := by omega
  have i1 : (1 : Int) < (len : Int) := by omega
  have i2 : (2 : Int) < (len : Int) := by omega
  have i3 : (3 : Int) < (len : Int) := by omega
  have u0 : IntKind.u64.wrap 0 = 0 := by decide
  have e0 := wrap64 b0 (by omega)
  have e1 := wrap64 b1 (by omega)
  have e2 := wrap64 b2 (by omega)
  have e3 := wrap64 b3 (by omega)
  have e4 := wrap64 b4 (by omega)
  have e5 := wrap64 b5 (by omega)
  have e6 := wrap64 b6 (by omega)
  have e7 := wrap64 b7 (by omega)
  have n4 : 0 < len - 4 := by omega
  have n5 : 1 < len - 4 := by omega
  have n6 : 0 < len - 4 - 2 := by omega
  have n7 : 0 < len - 4 - 2 - 1 := by omega
  have m4 : 4 ≤ len := by omega
  have m5 : 2 ≤ len - 4 := by omega
  have m6 : 1 ≤ len - 4 - 2 := by omega
  obtain ⟨p1, p2, y1, o1, o2, o3, hy1⟩ := or_four b0 b1 b2 b3 l0 l1 l2 l3
  obtain ⟨p3, y2, o4, o5, hy2⟩ := or_two y1 b4 b5 (by omega) l4 l5
  obtain ⟨y3, o6, hy3⟩ := or_one y2 b6 (by omega) l6
  obtain ⟨y4, o7, hy4⟩ := or_one y3 b7 (by omega) l7
  have y1b : y1 < 4294967296 := by omega
  have y2b : y2 < 281474976710656 := by omega
  have y3b : y3 < 72057594037927936 := by omega
  have HV : Hid (val [b0, b1, b2, b3, b4, b5, b6, b7] = y4) := by show _ = _; simp only [val, List.foldl]; omega
  clear hy1 hy2 hy3 hy4
  go_enter Tryd.func50, Tryd.ntmps50
  go_wp2
  go_quiet (fail)
  go_wp2
  go_quiet (fail)
  go_wp2
  go_ret
  rw [HV.out]
  exact ⟨rfl, below_drewN _ _⟩

theorem split_take {k : Nat} {bs : List Nat} (h : k ≤ bs.length) : bs = bs.take k ++ bs.drop k ∧ (bs.take k).length = k := ⟨(List.take_append_drop k bs).symm, by simp [h]⟩
/-- readNumber, whatever the width. -/
theorem readNumber_any (wd : Nat) (hwd : wd = 1 ∨ wd = 2 ∨ wd = 4 ∨ wd = 8) (bs : List Nat) (hl : wd ≤ bs.length) (v : Value) (w : World) (hv : Bytes w v bs) :
    Calls Tryd.prog 50 #[v, .int .i64 (wd : Int)] w fun e w' => e = .returned (.int .u64 (val (bs.take wd) : Nat)) ∧ Below w.heap.size w w' := by
  obtain ⟨e, hk⟩ := split_take hl
  generalize bs.take wd = t at *
  rw [e] at hv
  rcases hwd with rfl | rfl | rfl | rfl
  · match t, hk with
    | [b0], _ => exact readNumber1 b0 _ v w hv
  · match t, hk with
    | [b0, b1], _ => exact readNumber2 b0 b1 _ v w hv
  · match t, hk with
    | [b0, b1, b2, b3], _ => exact readNumber4 b0 b1 b2 b3 _ v w hv
  · match t, hk with
    | [b0, b1, b2, b3, b4, b5, b6, b7], _ => exact readNumber8 b0 b1 b2 b3 b4 b5 b6 b7 _ v w hv
end Go.Proofs.YtcidadikmmdalaaDoor.Fr

/- Bytes cut anywhere. -/
namespace Go.Proofs.YtcidadikmmdalaaDoor.Fr
open Go.RowKit Go.Extern

theorem elemB : Tryd.prog.elem 25 = 5 := by kernel_rfl
theorem underB : Tryd.prog.underlying 25 = some (.slice (Tryd.prog.elem 25)) := by kernel_rfl
theorem sizeU8 (w : World) : (sizeOf 5).run Tryd.prog w = .ok 1 w := by kernel_rfl
theorem add_plain (b off i : Nat) : (⟨b, off, none⟩ : Addr).add i = ⟨b, off + i, none⟩ := by unfold Addr.add; split <;> simp_all

theorem sliced_bytes (w : World) (ao : Option Addr) (bs : List Nat) (cap lo hi : Nat) (hv : Bytes w (.slice ao bs.length cap) bs) (h1 : lo ≤ hi) (h2 : hi ≤ bs.length) : Bytes w (sliced ao lo hi cap 1) ((bs.drop lo).take (hi - lo)) := by
  obtain ⟨ao', cap', g, off, e, k2, k3, k4, k5, k6, k7, k8⟩ := hv
  simp only [Value.slice.injEq, true_and] at e
  obtain ⟨rfl, rfl⟩ := e
  have hlen : ((bs.drop lo).take (hi - lo)).length = hi - lo := by simp; omega
  have hsub : ∀ (i : Nat) b, ((bs.drop lo).take (hi - lo))[i]? = some b → bs[lo + i]? = some b := by
    intro i b hb
    have hi' : i < hi - lo := by
      have := (List.getElem?_eq_some_iff.1 hb).1
      rw [hlen] at this; exact this
    rw [List.getElem?_take_of_lt hi', List.getElem?_drop] at hb
    exact hb
  have hlt : ∀ b ∈ (bs.drop lo).take (hi - lo), b < 256 := fun b hb => k4 b (List.mem_of_mem_drop (List.mem_of_mem_take hb))
  cases ao with
  | none =>
    have hb0 : bs = [] := by
      rcases Nat.eq_zero_or_pos bs.length with h | h
      · exact List.length_eq_zero_iff.1 h
      · cases k2 h
    subst hb0
    obtain rfl := k6 rfl
    simp at h2
    subst h2
    have : lo = 0 := by omega
    subst this
    simp [sliced]
    exact Bytes.nil w
  | some ad =>
    refine ⟨if cap = lo then some ad else some (ad.add (lo * 1)), cap - lo, g, off + lo, ?_, fun hp => ?_, fun i b hb => ?_, hlt, by omega, fun h => ?_, by omega, Nat.le_trans (Nat.sub_le _ _) k8⟩
    · rw [hlen]; simp [sliced]
    · rw [hlen] at hp
      have := Option.some.inj (k2 (by omega))
      subst this
      rw [if_neg (by omega), add_plain, Nat.mul_one]
    · have := k3 (lo + i) b (hsub i b hb)
      rw [Nat.add_assoc]; exact this
    · split at h <;> cases h

/-- 'b[lo:]' -/
theorem cut_from (w : World) (v : Value) (bs : List Nat) (lo : Nat) (hv : Bytes w v bs) (hlo : lo ≤ bs.length) : ∃ ao n cap, (∀ w2, (Instr.slice 25 v (some (.int .i64 (lo : Int))) none none).run Tryd.prog w2 = .ok (.slice ao n cap) w2) ∧ Hid (Bytes w (.slice ao n cap) (bs.drop lo)) := by
  have hv' := hv
  obtain ⟨ao, cap, g, off, rfl, -⟩ := hv
  refine ⟨if cap = lo then ao else ao.map (·.add (lo * 1)), bs.length - lo, cap - lo, fun w2 => ?_, ?_⟩
  · have := run_slice_l (P := Tryd.prog) w2 25 ao bs.length cap underB .i64 (lo : Int) (by omega) (by omega)
    rw [this, elemB, sizeU8]
    simp [Result.andThen, sliced]
  · have := sliced_bytes w ao bs cap lo bs.length hv' hlo (Nat.le_refl _)
    have e : (bs.drop lo).take (bs.length - lo) = bs.drop lo := List.take_of_length_le (by simp)
    rw [e] at this
    exact this
/-- 'b[lo:hi]' -/
theorem cut_both (w : World) (v : Value) (bs : List Nat) (lo hi : Nat) (hv : Bytes w v bs) (h1 : lo ≤ hi) (h2 : hi ≤ bs.length) : ∃ ao n cap, (∀ w2, (Instr.slice 25 v (some (.int .i64 (lo : Int))) (some (.int .i64 (hi : Int))) none).run Tryd.prog w2 = .ok (.slice ao n cap) w2) ∧ Hid (Bytes w (.slice ao n cap) ((bs.drop lo).take (hi - lo))) := by
  have hv' := hv
  obtain ⟨ao, cap, g, off, rfl, -, -, -, -, -, h7, -⟩ := hv
  refine ⟨if cap = lo then ao else ao.map (·.add (lo * 1)), hi - lo, cap - lo, fun w2 => ?_, ?_⟩
  · have := run_slice_lh (P := Tryd.prog) w2 25 ao bs.length cap underB .i64 .i64 (lo : Int) (hi : Int) (by omega) (by omega) (by omega)
    rw [this, elemB, sizeU8]
    simp [Result.andThen, sliced]
  · exact sliced_bytes w ao bs cap lo hi hv' h1 h2
/-- 'b[:hi]' -/
theorem cut_to (w : World) (v : Value) (bs : List Nat) (hi : Nat) (hv : Bytes w v bs) (h2 : hi ≤ bs.length) : ∃ ao n cap, (∀ w2, (Instr.slice 25 v none (some (.int .i64 (hi : Int))) none).run Tryd.prog w2 = .ok (.slice ao n cap) w2) ∧ Hid (Bytes w (.slice ao n cap) (bs.take hi)) := by
  have hv' := hv
  obtain ⟨ao, cap, g, off, rfl, -, -, -, -, -, h7, -⟩ := hv
  refine ⟨if cap = 0 then ao else ao.map (·.add (0 * 1)), hi - 0, cap - 0, fun w2 => ?_, ?_⟩
  · have := run_slice_h (P := Tryd.prog) w2 25 ao bs.length cap underB .i64 (hi : Int) (by omega) (by omega)
    rw [this, elemB, sizeU8]
    simp [Result.andThen, sliced]
  · have := sliced_bytes w ao bs cap 0 hi hv' (Nat.zero_le _) h2
    exact hide (by simpa [sliced] using this)
end Go.Proofs.YtcidadikmmdalaaDoor.Fr

/- greatest and Fits by their contracts. -/
namespace Go.Proofs.YtcidadikmmdalaaDoor.Fr
open Go.RowKit Go.Extern

/-- The greatest number of so many bytes. -/
def great (wd : Nat) : Nat := if wd = 8 then 4611686018427387903 else 256 ^ wd - 1

theorem greatest_any (wd : Nat) (hwd : wd = 1 ∨ wd = 2 ∨ wd = 4 ∨ wd = 8) (w : World) :
    Calls Tryd.prog 57 #[.int .i64 (wd : Int)] w fun e w' => e = .returned (.int .u64 (great wd : Nat)) ∧ w' = w := by
  rcases hwd with rfl | rfl | rfl | rfl
  all_goals
    go_enter Tryd.func57, Tryd.ntmps57
    go_wp2
    go_ret
    exact ⟨rfl, rfl⟩

/-- Does a number fit? -/
def fitB (n : Int) (wd : Nat) : Bool := decide (0 ≤ n ∧ n ≤ great wd)

theorem fit_div (n : Nat) : ∀ k, n / 256 ^ k = 0 ↔ n < 256 ^ k := fun k => Nat.div_eq_zero_iff_lt (Nat.pow_pos (by decide))

end Go.Proofs.YtcidadikmmdalaaDoor.Fr

/- errors.Is of a code, and the statements' own 'is', by their contracts. -/
namespace Go.Proofs.YtcidadikmmdalaaDoor.Fr
open Go.RowKit Go.Extern.Stop Go.Stop Go.Extern

theorem Tryd.typeOfC (v : Value) (w : World) : (ReflectliteType.typeOf #[.iface 58 v]).run Tryd.prog w = .ok (.iface 101 (.agg #[.pointer (some ⟨1, 58, none⟩)])) w := by kernel_rfl
theorem Tryd.methodComparable (h : Value) (w : World) : (Go.method 250 101 (.agg #[h]) "Comparable").run Tryd.prog w = .ok (83, .agg #[h]) w := by kernel_rfl
theorem comparableC (w : World) : (callFunc 83 #[.agg #[.pointer (some ⟨1, 58, none⟩)]]).run Tryd.prog w = .ok (.value (.bool true)) w := by kernel_rfl
theorem Tryd.noIsC (v : Value) (xT : TypeId) (w : World) : (Instr.typeAssert (.iface 58 v) xT 103 true).run Tryd.prog w = .ok (.tuple #[.nilIface, .bool false]) w := run_typeAssert_lacksB Tryd.underlying103 (by kernel_rfl) (by kernel_rfl) v xT w
theorem Tryd.noUnwrapC (v : Value) (xT : TypeId) (w : World) : (Instr.typeAssert (.iface 58 v) xT 106 true).run Tryd.prog w = .ok (.tuple #[.nilIface, .bool false]) w := run_typeAssert_lacksB Tryd.underlying106 (by kernel_rfl) (by kernel_rfl) v xT w
theorem Tryd.noUnwrapsC (v : Value) (xT : TypeId) (w : World) : (Instr.typeAssert (.iface 58 v) xT 107 true).run Tryd.prog w = .ok (.tuple #[.nilIface, .bool false]) w := run_typeAssert_lacksB Tryd.underlying107 (by kernel_rfl) (by kernel_rfl) v xT w
theorem Tryd.compC : (Tryd.prog.info? 58).map (·.comparable) = some true := by kernel_rfl
theorem run_equalIn_iface_int {P : Program} (w : World) (d : Nat) {ti tn : TypeId} {ms : Array (String × TypeId)} {i : TypeInfo} {k : IntKind} (a b : Int)
    (hi : P.underlying ti = some (.interface ms)) (hn : P.underlying tn = some (.int k)) (hinfo : P.info? tn = some i) (hcomp : i.comparable = true) :
    (Op.equalIn (d + 2) ti (.iface tn (.int k a)) (.iface tn (.int k b))).run P w = .ok (a == b) w := by
  simp [Op.equalIn, run_underlying hi, run_underlying hn, typeInfo, hinfo, hcomp]
theorem run_eql_iface_int {P : Program} (w : World) {ti tn : TypeId} {ms : Array (String × TypeId)} {i : TypeInfo} {k : IntKind} (a b : Int)
    (hi : P.underlying ti = some (.interface ms)) (hn : P.underlying tn = some (.int k)) (hinfo : P.info? tn = some i) (hcomp : i.comparable = true) :
    (binOp .eql ti (.iface tn (.int k a)) (.iface tn (.int k b))).run P w = .ok (.bool (a == b)) w := by
  simp only [binOp]
  simp [Op.equal, Op.maxDepth, run_equalIn_iface_int w 9998 a b hi hn hinfo hcomp]
theorem Tryd.eqlCode (a b : Int) (w : World) : (binOp .eql 28 (.iface 58 (.int .i64 a)) (.iface 58 (.int .i64 b))).run Tryd.prog w = .ok (.bool (a == b)) w := by
  obtain ⟨i, hi, hcmp⟩ := Option.map_eq_some_iff.1 Tryd.compC
  exact run_eql_iface_int w a b Tryd.underlying28 Tryd.underlying58 hi hcmp

/-- An error by its number; 0: none. -/
def errV (c : Int) : Value := if c = 0 then .nilIface else .iface 58 (.int .i64 c)
theorem errV_zero : errV 0 = .nilIface := rfl
theorem errV_code {c : Int} (h : c ≠ 0) : errV c = .iface 58 (.int .i64 c) := by simp [errV, h]

set_option maxRecDepth 100000 in
set_option maxHeartbeats 1000000 in
theorem eis_any (c n : Int) (w : World) :
    Calls Tryd.prog 49 #[.iface 58 (.int .i64 c), .iface 58 (.int .i64 n), .bool true] w fun ev w' => ev = .returned (.bool (c == n)) ∧ w' = w := by
  have f1 := Tryd.eqlCode
  have f4 := Tryd.noIsC
  have f6 := Tryd.noUnwrapC
  have f7 := Tryd.noUnwrapsC
  go_enter Tryd.func49, Tryd.ntmps49
  go_wp2
  go_loopg [0] 0 (fun _ v wr => wr = w ∧ v = .iface 58 (.int .i64 c))
  case atStart => exact ⟨rfl, rfl⟩
  case round =>
    obtain ⟨rfl, rfl⟩ := hrel
    by_cases hcn : c = n
    · have hcb : (c == n) = true := by simp [hcn]
      clear hcn
      go_wp2
      go_ret
      exact ⟨by rw [hcb]; rfl, rfl⟩
    · have hcb : (c == n) = false := by simp [hcn]
      clear hcn
      go_wp2
      go_ret
      exact ⟨by rw [hcb]; rfl, rfl⟩

theorem errorsIs_any (c n : Int) (w : World) :
    Calls Tryd.prog 29 #[.iface 58 (.int .i64 c), .iface 58 (.int .i64 n)] w fun ev w' => ev = .returned (.bool (c == n)) ∧ w' = w := by
  have h26 := @run_callFunc_extern Tryd.prog 48 _ ReflectliteType.typeOf Tryd.func48 (by kernel_rfl) (by kernel_rfl) (by kernel_rfl) (by kernel_rfl)
  have f1 := Tryd.typeOfC
  have f2 := Tryd.methodComparable
  have f3 := comparableC
  go_enter Tryd.func29, Tryd.ntmps29
  go_wp2_with (go_at_call 49; refine (eis_any c n _).mono ?_; rintro e w' ⟨rfl, rfl⟩)
  go_ret
  exact ⟨rfl, rfl⟩

set_option maxRecDepth 100000 in
theorem is_any (c n : Int) (w : World) :
    Calls Tryd.prog 11 #[errV c, .int .i64 n] w fun ev w' => ev = .returned (.bool (decide (c = n))) ∧ w' = w := by
  by_cases hc : c = 0
  · subst hc
    rw [errV_zero]
    by_cases hn : n = 0
    · subst hn
      go_enter Tryd.func11, Tryd.ntmps11
      go_wp2
      go_ret
      exact ⟨rfl, rfl⟩
    · have hd : decide ((0 : Int) = n) = false := by simp; omega
      rw [hd]
      clear hd
      go_enter Tryd.func11, Tryd.ntmps11
      go_wp2
      go_ret
      exact ⟨rfl, rfl⟩
  · rw [errV_code hc]
    by_cases hn : n = 0
    · subst hn
      have hd : decide (c = 0) = false := by simpa using hc
      rw [hd]
      clear hd
      go_enter Tryd.func11, Tryd.ntmps11
      go_wp2
      go_ret
      exact ⟨rfl, rfl⟩
    · have HD : Hid ((c == n) = decide (c = n)) := by show _ = _; rw [Bool.eq_iff_iff]; simp
      go_enter Tryd.func11, Tryd.ntmps11
      go_wp2_with (go_at_call 29; refine (errorsIs_any c n _).mono ?_; rintro e w' ⟨rfl, rfl⟩)
      go_ret
      exact ⟨by rw [← HD.out]; rfl, rfl⟩
end Go.Proofs.YtcidadikmmdalaaDoor.Fr
