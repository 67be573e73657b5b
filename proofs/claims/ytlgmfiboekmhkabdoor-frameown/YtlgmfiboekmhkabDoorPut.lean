/- Put by its contract. -/
import Derived.Test.YtlgmfiboekmhkabDoorNum
import Derived.Test.YtlgmfiboekmhkabDoorErr
import Derived.Laws.MakeOwn
import Derived.Laws.CopyOwn
namespace Go.Proofs.YtlgmfiboekmhkabDoor
open Go.RowKit Go.Extern

set_option maxRecDepth 100000 in
theorem put_long (kind : Nat) (bs : List Nat) (v : Value) (w : World) (hv : Bytes w v bs) (hl : 122 < bs.length) :
    Calls Tryd.prog 7 #[.int .u8 (kind : Int), v] w fun e w' => e = .returned (.tuple #[.slice none 0 0, errV 10]) ∧ w' = w := by
  obtain ⟨ao, cap, g, off, rfl, -⟩ := hv
  have hl' : (122 : Int) < (bs.length : Int) := by omega
  go_enter Tryd.func7, Tryd.ntmps7
  go_wp2
  go_ret2
  exact ⟨rfl, rfl⟩

/-- So many noughts. -/
def noughts (n : Nat) : List Nat := List.replicate n 0
/-- What stands ahead of a frame's sum. -/
def body (kind : Nat) (bs : List Nat) : List Nat := kind :: bs.length :: (bs ++ List.replicate (122 - bs.length) 0)
/-- A frame. -/
def frameOf (kind : Nat) (bs : List Nat) : List Nat := body kind bs ++ be 4 (crc (body kind bs))
theorem body_length {kind : Nat} {bs : List Nat} (h : bs.length ≤ 122) : (body kind bs).length = 124 := by simp [body]; omega
theorem frameOf_length {kind : Nat} {bs : List Nat} (h : bs.length ≤ 122) : (frameOf kind bs).length = 128 := by simp [frameOf, body_length h, be_length]
theorem body_lt {kind : Nat} {bs : List Nat} (hk : kind < 256) (h : bs.length ≤ 122) (hb : ∀ b ∈ bs, b < 256) : ∀ b ∈ body kind bs, b < 256 := by
  intro b hm
  simp only [body, List.mem_cons, List.mem_append, List.mem_replicate] at hm
  rcases hm with rfl | rfl | h1 | ⟨-, rfl⟩
  · exact hk
  · omega
  · exact hb b h1
  · decide

theorem run_mk (w : World) : (Instr.makeSlice 22 (.int .i64 124) (.int .i64 128)).run Tryd.prog w = .ok (.slice (some ⟨w.heap.size, 0, none⟩) 124 128) (w.alloc (.cells (cellsB (List.replicate 128 0)).toArray 5)) := by kernel_rfl
theorem made (w : World) : ∃ w1, (Instr.makeSlice 22 (.int .i64 124) (.int .i64 128)).run Tryd.prog w = .ok (.slice (some ⟨w.heap.size, 0, none⟩) 124 128) w1 ∧
    w1.heap[w.heap.size]? = some (.cells (cellsB (List.replicate 128 0)).toArray 5 (0, 0)) ∧ Below w.heap.size w w1 ∧ w1.heap.size = w.heap.size + 1 :=
  ⟨_, run_mk w, heap_alloc_new w _, (Below.refl _ _).alloc (Nat.le_refl _) _, by simp⟩
set_option maxRecDepth 100000 in
theorem setTwo (w1 : World) (g : Nat) (a b : Nat) (h : w1.heap[g]? = some (.cells (cellsB (List.replicate 128 0)).toArray 5 (0, 0))) :
    ((w1.setCell ⟨g, 0, none⟩ (.int .u8 (a : Int))).setCell ⟨g, 1, none⟩ (.int .u8 (b : Int))).heap[g]? = some (.cells (cellsB (a :: b :: noughts 126)).toArray 5 (0, 0)) := by
  have e1 := setCell_eq_setRow w1 g 0 _ _ _ (.int .u8 (a : Int)) h
  have h1 := setRow_heap w1 g _ ((cellsB (List.replicate 128 0)).toArray.setIfInBounds 0 (.int .u8 (a : Int))) _ _ h
  rw [← e1] at h1
  have e2 := setCell_eq_setRow (w1.setCell ⟨g, 0, none⟩ (.int .u8 (a : Int))) g 1 _ _ _ (.int .u8 (b : Int)) h1
  have h2 := setRow_heap (w1.setCell ⟨g, 0, none⟩ (.int .u8 (a : Int))) g _ (((cellsB (List.replicate 128 0)).toArray.setIfInBounds 0 (.int .u8 (a : Int))).setIfInBounds 1 (.int .u8 (b : Int))) _ _ h1
  rw [← e2] at h2
  rw [h2]
  rfl
theorem cell_made (w1 : World) (g : Nat) (h : w1.heap[g]? = some (.cells (cellsB (List.replicate 128 0)).toArray 5 (0, 0))) (i : Nat) (hi : i < 128) : w1.cell? ⟨g, i, none⟩ = some (.int .u8 0) := by
  rw [cell_of_row w1 g i _ _ _ h]
  rw [List.getElem?_toArray, cellsB, List.getElem?_map, List.getElem?_replicate, if_pos hi]; rfl
theorem frozen_made (w1 : World) (g : Nat) (h : w1.heap[g]? = some (.cells (cellsB (List.replicate 128 0)).toArray 5 (0, 0))) (i : Nat) : w1.frozen? ⟨g, i, none⟩ = false := by
  simp [World.frozen?, h]
theorem splice_body (kind : Nat) (bs : List Nat) (h : bs.length ≤ 122) : splice (cellsB (kind :: bs.length :: noughts 126)) 2 (cellsB bs) = cellsB (body kind bs ++ List.replicate 4 0) := by
  have e : List.replicate (126 - bs.length) 0 = List.replicate (122 - bs.length) 0 ++ List.replicate 4 (0 : Nat) := by
    rw [List.replicate_append_replicate]; congr 1; omega
  have e2 : (List.replicate 126 (0 : Nat)).drop bs.length = List.replicate (126 - bs.length) 0 := List.drop_replicate ..
  have e3 : (kind :: bs.length :: List.replicate 126 0).drop (2 + bs.length) = List.replicate (126 - bs.length) 0 := by
    rw [Nat.add_comm 2]; exact e2
  unfold splice noughts
  rw [cellsB_length]
  have t2 : (cellsB (kind :: bs.length :: List.replicate 126 0)).take 2 = cellsB [kind, bs.length] := rfl
  have d2 : (cellsB (kind :: bs.length :: List.replicate 126 0)).drop (2 + bs.length) = cellsB (List.replicate (126 - bs.length) 0) := by
    unfold cellsB; rw [← List.map_drop, e3]
  rw [t2, d2, e, ← cellsB_append, ← cellsB_append]
  simp [body]

theorem wpList_copy_bytes {w w0 : World} {ops : Array Oper} {rest : List Oper} {o : Oper} {a : Act} {Q : Exit → Act → World → Prop} (hgd : o.guard = none) (d s : Operand)
    (ho : o.op = .call { callee := .builtin .copy, args := #[d, s], argTypes := #[22, 22] })
    (dv sv : Value) (hd : a.eval d = dv) (hs : a.eval s = sv) (g off n c : Nat) (hdv : dv = .slice (some ⟨g, off, none⟩) n c) (bs : List Nat) (hb : Bytes w sv bs) (hle : bs.length ≤ n)
    (cur : List Value) (hg : w.heap[g]? = some (.cells cur.toArray 5 (0, 0))) (hfit : off + bs.length ≤ cur.length) (B : Nat) (hbw : Below B w0 w) (hBg : B ≤ g)
    (h : ∀ w', Hid (w'.heap[g]? = some (.cells (splice cur off (cellsB bs)).toArray 5 (0, 0))) → Below B w0 w' → wpList Tryd.prog ops Q rest (a.put o.dst (goInt bs.length)) w') :
    wpList Tryd.prog ops Q (o :: rest) a w := by
  obtain ⟨ao, cap, g2, off2, rfl, h2, h3, -⟩ := hb
  subst hdv
  have hl : (cellsB bs).length = bs.length := cellsB_length bs
  refine wpList_copy_splice hgd d s 22 22 ho 5 Tryd.underlying22 (by kernel_rfl) (some ⟨g, off, none⟩) ao n c bs.length cap hd hs g off cur 5 hg (cellsB bs) ?_ ?_ ?_ ?_ B w0 hbw hBg ?_
  · rw [hl]; exact (Nat.min_eq_left hle).symm
  · intro hp
    rw [hl] at hp
    refine ⟨rfl, ⟨g2, off2, none⟩, h2 hp, fun j u hu => ?_⟩
    obtain ⟨b, hb1, rfl⟩ := cellsB_at hu
    have e : (⟨g2, off2, none⟩ : Addr).add j = ⟨g2, off2 + j, none⟩ := by unfold Addr.add; split <;> simp_all
    rw [e]; exact h3 j b hb1
  · rw [hl]; exact hfit
  · intro u hu; simp only [cellsB, List.mem_map] at hu; obtain ⟨b, -, rfl⟩ := hu; rfl
  · rw [hl]; exact h

set_option maxRecDepth 100000 in
set_option maxHeartbeats 1000000 in
theorem put_any (kind : Nat) (hk : kind < 256) (bs : List Nat) (v : Value) (w : World) (hL : Laid w) (hv : Bytes w v bs) (hl : bs.length ≤ 122) :
    Calls Tryd.prog 7 #[.int .u8 (kind : Int), v] w fun e w' => ∃ u, e = .returned (.tuple #[u, errV 0]) ∧ Own w' w.heap.size u (frameOf kind bs) ∧ Below w.heap.size w w' := by
  obtain ⟨w1, m1, m2, m3, m4⟩ := made w
  have M2 := hide m2
  have M3 := hide m3
  have HV := hide hv
  have HL := hide hL
  have HK := hide hk
  have HLt := hide hv.lt
  obtain ⟨ao, cap, g, off, rfl, -⟩ := hv
  have hl' : ¬ (122 : Int) < (bs.length : Int) := by omega
  have q1 : IntKind.u8.wrap (bs.length : Int) = (bs.length : Int) := by rw [IntKind.wrap_u8']; omega
  have k0 := cell_made w1 _ m2 0 (by decide)
  have k1 := cell_made w1 _ m2 1 (by decide)
  have z0 := frozen_made w1 _ m2 0
  have z1 := frozen_made w1 _ m2 1
  have hbase := M3.out
  clear m2 m3 hL hk
  have HB2 := hide ((hbase.setCell (p := ⟨w.heap.size, 0, none⟩) (Nat.le_refl _) (.int .u8 (kind : Int))).setCell (p := ⟨w.heap.size, 1, none⟩) (Nat.le_refl _) (.int .u8 (bs.length : Int)))
  clear hbase
  go_enter Tryd.func7, Tryd.ntmps7
  go_wp2_with (refine wpList_copy_bytes rfl _ _ rfl _ _ rfl rfl w.heap.size 2 122 126 (by rfl) bs (HV.out.below HB2.out) hl (cellsB (kind :: bs.length :: noughts 126)) (setTwo w1 w.heap.size kind bs.length M2.out) (by rw [cellsB_length]; simp [noughts]; omega) w.heap.size HB2.out (Nat.le_refl _) ?_)
  intro w3 hg3 hb3
  have HB3 := hide hb3
  have ho3 : Own w3 w.heap.size (.slice (some ⟨w.heap.size, 0, none⟩) 124 128) (body kind bs) := by
    have hh := hg3.out
    rw [splice_body kind bs hl] at hh
    refine ⟨⟨by rw [cellsB_length]; simp, .inr ⟨w.heap.size, 128, _, by rw [body_length hl], Nat.le_refl _, hh, by rw [body_length hl]; decide, by decide, ?_, ?_⟩⟩, body_lt HK.out hl HLt.out, by rw [body_length hl]; decide⟩
    · simp [cellsB, body_length hl]
    · rw [cellsB_append]; simp [cellsB_length]
  have HO3 := hide ho3
  have hsz : w.heap.size + 1 ≤ w3.heap.size := by
    have := ho3.lt w.heap.size rfl
    omega
  have HSZ := hide hsz
  clear hb3 ho3 hg3 hsz
  have HP : Hid (Parts (w3.alloc (.cells #[.slice (some ⟨w.heap.size, 0, none⟩) 124 128] 22)) (.slice (some ⟨w3.heap.size, 0, none⟩) 1 1) [body kind bs]) := by
    refine ⟨_, 1, w3.heap.size, 0, rfl, fun _ => rfl, fun i p hp => ?_, by simp⟩
    match i, hp with
    | 0, hp =>
      obtain rfl : body kind bs = p := by simpa using hp
      exact ⟨_, by simp, HO3.out.bytes.below ((Below.refl _ _).alloc (Nat.le_refl _) _)⟩
  have hc32 := crc_lt (body kind bs)
  have HC : Hid (crc [body kind bs].flatten = crc (body kind bs)) := by show _ = _; simp
  have HF : Hid (frameOf kind bs = body kind bs ++ be 4 (crc (body kind bs))) := rfl
  generalize crc (body kind bs) = c at hc32 HC HF
  have hcw : IntKind.u64.wrap (c : Int) = (c : Int) := by rw [IntKind.wrap_u64]; omega
  go_wp2_with (go_at_call 22; refine (sum_any [body kind bs] _ _ (HL.out.below (HB3.out.alloc HB3.out.size _)) HP.out).mono ?_; rw [HC.out]; rintro e w' ⟨rfl, rfl⟩)
  refine (appendNumber_any 4 (by simp) c (body kind bs) _ w.heap.size _ (HO3.out.below ((Below.refl _ _).alloc (Nat.le_refl _) _)) (by have := HSZ.out; simp; omega) (by rw [body_length hl]; decide)).mono ?_
  rintro e w' ⟨u, rfl, hgw⟩
  have HGW := hide hgw
  obtain ⟨ao2, n2, cap2, rfl, HN2⟩ := hgw.form'
  clear hgw
  go_wp2
  go_ret2
  refine ⟨_, rfl, ?_, ?_⟩
  · rw [HF.out]; exact HGW.out.own
  · exact (HB3.out.alloc HB3.out.size _).trans (HGW.out.below (by have := HSZ.out; simp; omega) (by intro k hk; simp [Value.ownBlock] at hk; omega))
end Go.Proofs.YtlgmfiboekmhkabDoor
