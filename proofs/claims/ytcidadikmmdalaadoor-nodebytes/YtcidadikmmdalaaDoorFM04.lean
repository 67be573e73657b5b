import Derived.Test.YtcidadikmmdalaaDoorFM03
import Derived.Test.YtcidadikmmdalaaDoorFM02
import Derived.Laws.MakeOwn
import Derived.Laws.CopyOwn
import Derived.Lib.SlBytesConst
import Derived.Deep.RegionHeld3
import Derived.Deep.RegionWith
/- The document's sum, by its contract. -/
namespace Go.Proofs.YtcidadikmmdalaaDoor.Fr
open Go.RowKit Go.Extern

theorem i64_xor_nat (a b : Nat) (ha : a < 9223372036854775808) (hb : b < 9223372036854775808) : bits .xor .i64 (a : Int) (b : Int) = ((a ^^^ b : Nat) : Int) := by
  have hx : a ^^^ b < 2 ^ 63 := Nat.xor_lt_two_pow (by omega) (by omega)
  show IntKind.i64.wrap ((BitVec.ofInt 64 (a : Int) ^^^ BitVec.ofInt 64 (b : Int)).toNat : Int) = _
  rw [BitVec.toNat_xor, ofInt_u64 a (by omega), ofInt_u64 b (by omega), IntKind.wrap_i64]
  omega
theorem i64_and_nat (a b : Nat) (ha : a < 9223372036854775808) (hb : b < 9223372036854775808) : bits .and .i64 (a : Int) (b : Int) = ((a &&& b : Nat) : Int) := by
  have hx : a &&& b < 2 ^ 63 := Nat.and_lt_two_pow _ (by omega)
  show IntKind.i64.wrap ((BitVec.ofInt 64 (a : Int) &&& BitVec.ofInt 64 (b : Int)).toNat : Int) = _
  rw [BitVec.toNat_and, ofInt_u64 a (by omega), ofInt_u64 b (by omega), IntKind.wrap_i64]
  omega
theorem i64_and_one (a : Nat) (ha : a < 9223372036854775808) : bits .and .i64 (a : Int) 1 = ((a % 2 : Nat) : Int) := by
  rw [← nat_mask1]; exact i64_and_nat a 1 ha (by decide)

/-- What the walk wants of one bit. -/
theorem bit_facts (x b l : Nat) (hx : x < 4294967296) (hb : b < 256) : ∃ d t px y z : Nat, (b : Int) / 2 ^ l = (d : Int) ∧ bits .and .i64 (d : Int) 1 = (t : Int) ∧ bits .and .i64 (x : Int) 1 = (px : Int) ∧ (x : Int) / 2 = (y : Int) ∧ bits .xor .i64 (y : Int) 3988292384 = (z : Int) ∧
    Hid (refBit x (b / 2 ^ l % 2) = if px ≠ t then z else y) ∧ y < 4294967296 := by
  have hd0 : b / 2 ^ l ≤ b := Nat.div_le_self _ _
  refine ⟨b / 2 ^ l, b / 2 ^ l % 2, x % 2, x / 2, x / 2 ^^^ 3988292384, by simp, i64_and_one _ (by omega), i64_and_one _ (by omega), by omega, i64_xor_nat (x / 2) 3988292384 (by omega) (by decide), rfl, ?_⟩
  omega

set_option maxRecDepth 100000 in
set_option maxHeartbeats 2000000 in
theorem rsum_any (bs : List Nat) (v : Value) (w : World) (hv : Bytes w v bs) :
    Calls Tryd.prog 47 #[v] w fun e w' => e = .returned (.int .i64 (crc bs : Nat)) ∧ w' = w := by
  obtain ⟨ao, cap, g, off, rfl, h2, h3, h4, h5, -⟩ := hv
  have H2 := hide h2
  have H3 := hide h3
  have H4 := hide h4
  have H5 := hide h5
  clear h2 h3 h4 h5
  go_enter Tryd.func47, Tryd.ntmps47
  go_wp2
  go_loopg [3, 4] bs.length (fun k s i wr => wr = w ∧ ∃ j, j + k = bs.length ∧ i = .int .i64 (j : Int) ∧ s = .int .i64 (crcFrom 4294967295 (bs.take j) : Nat) ∧ crcFrom 4294967295 (bs.take j) < 4294967296)
  case atStart => exact ⟨rfl, 0, by omega, rfl, rfl, by simp [crcFrom]⟩
  case round =>
    obtain ⟨rfl, j, hj, rfl, hs, hlt32⟩ := hrel
    cases gk with
    | zero =>
      have hnl : ¬ (j : Int) < (bs.length : Int) := by omega
      have hend : bs.take j = bs := List.take_of_length_le (by omega)
      rw [hend] at hs hlt32
      have HS : Hid ((4294967295 : Int) - (crcFrom 4294967295 bs : Nat) = (crc bs : Nat)) := by show _ = _; unfold crc; omega
      generalize crcFrom 4294967295 bs = st at hs hlt32 HS
      subst hs
      clear hend
      go_wp2
      go_ret
      exact ⟨by rw [← HS.out]; rfl, rfl⟩
    | succ m =>
      have hjl : j < bs.length := by omega
      have hlt : (j : Int) < (bs.length : Int) := by omega
      have hb0 : (0 : Int) ≤ (j : Int) := by omega
      obtain ⟨b, hb⟩ : ∃ b, bs[j]? = some b := ⟨bs[j], by simp [hjl]⟩
      have k1 := H3.out j b hb
      have hb256 : b < 256 := H4.out b (List.mem_of_getElem? hb)
      obtain rfl := H2.out (by omega)
      have HB := hide hb
      have HJ : Hid ((j : Int) + 1 < 140737488355328 + 1) := by have := H5.out; show _ < _; omega
      generalize hst : crcFrom 4294967295 (bs.take j) = st at hs hlt32
      have HST := hide hst
      subst hs
      clear hst hb
      go_wp2
      go_loopg [3, 5] 8 (fun k s i wr2 => wr2 = wr ∧ ∃ l, l + k = 8 ∧ i = .int .i64 (l : Int) ∧ s = .int .i64 (refBits st b l : Nat) ∧ refBits st b l < 4294967296)
      case atStart => exact ⟨rfl, 0, by omega, rfl, rfl, hlt32⟩
      case round =>
        obtain ⟨rfl, l, hl, rfl, hs2, hlt2⟩ := hrel
        have hstep : refBits st b (l + 1) = refBit (refBits st b l) (b / 2 ^ l % 2) := rfl
        have hlt3 : refBits st b (l + 1) < 4294967296 := refBits_lt hlt32 (l + 1)
        cases gk with
        | zero =>
          obtain rfl : l = 8 := by omega
          rw [refBits_eight st b hb256] at hs2 hlt2
          clear hstep hlt3
          have HS8 : Hid (stepB st b = crcFrom 4294967295 (bs.take (j + 1))) := by show _ = _; rw [take_snoc HB.out, crcFrom_append, HST.out]; rfl
          have HL8 := hide hlt2
          generalize stepB st b = s8 at hs2 HS8 HL8
          subst hs2
          have hjj := HJ.out
          clear hlt2 hb256 hlt32
          go_wp2
          go_roundg m
          case measure => omega
          case rel => exact ⟨rfl, j + 1, by omega, by go_num, by rw [HS8.out], by rw [← HS8.out]; exact HL8.out⟩
        | succ m2 =>
          have hl8 : l < 8 := by omega
          have HST2 := hide hstep
          have HLT3 := hide hlt3
          obtain ⟨d, t, px, y, z, f1, f2, f3, f4, f5, HF6, f7⟩ := bit_facts (refBits st b l) b l hlt2 hb256
          have HF8 : Hid (refBits st b (l + 1) = if px ≠ t then z else y) := by show _ = _; rw [HST2.out]; exact HF6.out
          generalize refBits st b l = x at hs2 hlt2 f3 f4
          subst hs2
          have hl8i : (l : Int) < 8 := by omega
          have hl0 : (0 : Int) ≤ (l : Int) := by omega
          have hmin : min l 64 = l := by omega
          clear hstep hlt3 hlt2 hlt32 hjl hj HF6 HST2
          by_cases hxt : px = t
          · subst hxt
            have HF9 : Hid (refBits st b (l + 1) = y) := by show _ = _; rw [HF8.out]; simp
            clear HF8
            go_wp2
            go_roundg m2
            case measure => omega
            case rel => exact ⟨rfl, l + 1, by omega, by go_num, by rw [HF9.out], HLT3.out⟩
          · have HF9 : Hid (refBits st b (l + 1) = z) := by show _ = _; rw [HF8.out]; simp [hxt]
            have hxt' : ((px : Int) != (t : Int)) = true := by simp; omega
            clear HF8 hxt
            go_wp2
            go_roundg m2
            case measure => omega
            case rel => exact ⟨rfl, l + 1, by omega, by go_num, by rw [HF9.out], HLT3.out⟩
end Go.Proofs.YtcidadikmmdalaaDoor.Fr

/- Put by its contract. -/
namespace Go.Proofs.YtcidadikmmdalaaDoor.Fr
open Go.RowKit Go.Extern

set_option maxRecDepth 100000 in
theorem put_long (kind : Nat) (bs : List Nat) (v : Value) (w : World) (hv : Bytes w v bs) (hl : 122 < bs.length) :
    Calls Tryd.prog 24 #[.int .u8 (kind : Int), v] w fun e w' => e = .returned (.tuple #[.slice none 0 0, errV 10]) ∧ w' = w := by
  obtain ⟨ao, cap, g, off, rfl, -⟩ := hv
  have hl' : (122 : Int) < (bs.length : Int) := by omega
  go_enter Tryd.func24, Tryd.ntmps24
  go_wp2
  go_ret2
  exact ⟨rfl, rfl⟩

/-- So many noughts. -/
def noughts (n : Nat) : List Nat := List.replicate n 0
/-- What stands ahead of a frame's sum. -/
def body (kind : Nat) (bs : List Nat) : List Nat := kind :: bs.length :: (bs ++ List.replicate (122 - bs.length) 0)
/-- A frame. -/
def frameOf (kind : Nat) (bs : List Nat) : List Nat := body kind bs ++ be 4 (crc (body kind bs))
theorem body_length {kind : Nat} {bs : List Nat} (h : bs.length ≤ 122) : (body kind bs).length = 124 := by simp [body]; omega
theorem frameOf_length {kind : Nat} {bs : List Nat} (h : bs.length ≤ 122) : (frameOf kind bs).length = 128 := by simp [frameOf, body_length h, be_length]
theorem body_lt {kind : Nat} {bs : List Nat} (hk : kind < 256) (h : bs.length ≤ 122) (hb : ∀ b ∈ bs, b < 256) : ∀ b ∈ body kind bs, b < 256 := by
  intro b hm
  simp only [body, List.mem_cons, List.mem_append, List.mem_replicate] at hm
  rcases hm with rfl | rfl | h1 | ⟨-, rfl⟩
  · exact hk
  · omega
  · exact hb b h1
  · decide

theorem run_mk (w : World) : (Instr.makeSlice 25 (.int .i64 124) (.int .i64 128)).run Tryd.prog w = .ok (.slice (some ⟨w.heap.size, 0, none⟩) 124 128) (w.alloc (.cells (cellsB (List.replicate 128 0)).toArray 5)) := by kernel_rfl
theorem made (w : World) : ∃ w1, (Instr.makeSlice 25 (.int .i64 124) (.int .i64 128)).run Tryd.prog w = .ok (.slice (some ⟨w.heap.size, 0, none⟩) 124 128) w1 ∧
    w1.heap[w.heap.size]? = some (.cells (cellsB (List.replicate 128 0)).toArray 5 (0, 0)) ∧ Below w.heap.size w w1 ∧ w1.heap.size = w.heap.size + 1 :=
  ⟨_, run_mk w, heap_alloc_new w _, (Below.refl _ _).alloc (Nat.le_refl _) _, by simp⟩
set_option maxRecDepth 100000 in
theorem setTwo (w1 : World) (g : Nat) (a b : Nat) (h : w1.heap[g]? = some (.cells (cellsB (List.replicate 128 0)).toArray 5 (0, 0))) :
    ((w1.setCell ⟨g, 0, none⟩ (.int .u8 (a : Int))).setCell ⟨g, 1, none⟩ (.int .u8 (b : Int))).heap[g]? = some (.cells (cellsB (a :: b :: noughts 126)).toArray 5 (0, 0)) := by
  have e1 := setCell_eq_setRow w1 g 0 _ _ _ (.int .u8 (a : Int)) h
  have h1 := setRow_heap w1 g _ ((cellsB (List.replicate 128 0)).toArray.setIfInBounds 0 (.int .u8 (a : Int))) _ _ h
  rw [← e1] at h1
  have e2 := setCell_eq_setRow (w1.setCell ⟨g, 0, none⟩ (.int .u8 (a : Int))) g 1 _ _ _ (.int .u8 (b : Int)) h1
  have h2 := setRow_heap (w1.setCell ⟨g, 0, none⟩ (.int .u8 (a : Int))) g _ (((cellsB (List.replicate 128 0)).toArray.setIfInBounds 0 (.int .u8 (a : Int))).setIfInBounds 1 (.int .u8 (b : Int))) _ _ h1
  rw [← e2] at h2
  rw [h2]
  rfl
theorem cell_made (w1 : World) (g : Nat) (h : w1.heap[g]? = some (.cells (cellsB (List.replicate 128 0)).toArray 5 (0, 0))) (i : Nat) (hi : i < 128) : w1.cell? ⟨g, i, none⟩ = some (.int .u8 0) := by
  rw [cell_of_row w1 g i _ _ _ h]
  rw [List.getElem?_toArray, cellsB, List.getElem?_map, List.getElem?_replicate, if_pos hi]; rfl
theorem frozen_made (w1 : World) (g : Nat) (h : w1.heap[g]? = some (.cells (cellsB (List.replicate 128 0)).toArray 5 (0, 0))) (i : Nat) : w1.frozen? ⟨g, i, none⟩ = false := by
  simp [World.frozen?, h]
theorem splice_body (kind : Nat) (bs : List Nat) (h : bs.length ≤ 122) : splice (cellsB (kind :: bs.length :: noughts 126)) 2 (cellsB bs) = cellsB (body kind bs ++ List.replicate 4 0) := by
  have e : List.replicate (126 - bs.length) 0 = List.replicate (122 - bs.length) 0 ++ List.replicate 4 (0 : Nat) := by
    rw [List.replicate_append_replicate]; congr 1; omega
  have e2 : (List.replicate 126 (0 : Nat)).drop bs.length = List.replicate (126 - bs.length) 0 := List.drop_replicate ..
  have e3 : (kind :: bs.length :: List.replicate 126 0).drop (2 + bs.length) = List.replicate (126 - bs.length) 0 := by
    rw [Nat.add_comm 2]; exact e2
  unfold splice noughts
  rw [cellsB_length]
  have t2 : (cellsB (kind :: bs.length :: List.replicate 126 0)).take 2 = cellsB [kind, bs.length] := rfl
  have d2 : (cellsB (kind :: bs.length :: List.replicate 126 0)).drop (2 + bs.length) = cellsB (List.replicate (126 - bs.length) 0) := by
    unfold cellsB; rw [← List.map_drop, e3]
  rw [t2, d2, e, ← cellsB_append, ← cellsB_append]
  simp [body]

theorem wpList_copy_bytes {w w0 : World} {ops : Array Oper} {rest : List Oper} {o : Oper} {a : Act} {Q : Exit → Act → World → Prop} (hgd : o.guard = none) (d s : Operand)
    (ho : o.op = .call { callee := .builtin .copy, args := #[d, s], argTypes := #[25, 25] })
    (dv sv : Value) (hd : a.eval d = dv) (hs : a.eval s = sv) (g off n c : Nat) (hdv : dv = .slice (some ⟨g, off, none⟩) n c) (bs : List Nat) (hb : Bytes w sv bs) (hle : bs.length ≤ n)
    (cur : List Value) (hg : w.heap[g]? = some (.cells cur.toArray 5 (0, 0))) (hfit : off + bs.length ≤ cur.length) (B : Nat) (hbw : Below B w0 w) (hBg : B ≤ g)
    (h : ∀ w', Hid (w'.heap[g]? = some (.cells (splice cur off (cellsB bs)).toArray 5 (0, 0))) → Below B w0 w' → wpList Tryd.prog ops Q rest (a.put o.dst (goInt bs.length)) w') :
    wpList Tryd.prog ops Q (o :: rest) a w := by
  obtain ⟨ao, cap, g2, off2, rfl, h2, h3, -⟩ := hb
  subst hdv
  have hl : (cellsB bs).length = bs.length := cellsB_length bs
  refine wpList_copy_splice hgd d s 25 25 ho 5 Tryd.underlying25 (by kernel_rfl) (some ⟨g, off, none⟩) ao n c bs.length cap hd hs g off cur 5 hg (cellsB bs) ?_ ?_ ?_ ?_ B w0 hbw hBg ?_
  · rw [hl]; exact (Nat.min_eq_left hle).symm
  · intro hp
    rw [hl] at hp
    refine ⟨rfl, ⟨g2, off2, none⟩, h2 hp, fun j u hu => ?_⟩
    obtain ⟨b, hb1, rfl⟩ := cellsB_at hu
    have e : (⟨g2, off2, none⟩ : Addr).add j = ⟨g2, off2 + j, none⟩ := by unfold Addr.add; split <;> simp_all
    rw [e]; exact h3 j b hb1
  · rw [hl]; exact hfit
  · intro u hu; simp only [cellsB, List.mem_map] at hu; obtain ⟨b, -, rfl⟩ := hu; rfl
  · rw [hl]; exact h

set_option maxRecDepth 100000 in
set_option maxHeartbeats 1000000 in
theorem put_any (kind : Nat) (hk : kind < 256) (bs : List Nat) (v : Value) (w : World) (hL : Laid w) (hv : Bytes w v bs) (hl : bs.length ≤ 122) :
    Calls Tryd.prog 24 #[.int .u8 (kind : Int), v] w fun e w' => ∃ u, e = .returned (.tuple #[u, errV 0]) ∧ Own w' w.heap.size u (frameOf kind bs) ∧ Below w.heap.size w w' := by
  obtain ⟨w1, m1, m2, m3, m4⟩ := made w
  have M2 := hide m2
  have M3 := hide m3
  have HV := hide hv
  have HL := hide hL
  have HK := hide hk
  have HLt := hide hv.lt
  obtain ⟨ao, cap, g, off, rfl, -⟩ := hv
  have hl' : ¬ (122 : Int) < (bs.length : Int) := by omega
  have q1 : IntKind.u8.wrap (bs.length : Int) = (bs.length : Int) := by rw [IntKind.wrap_u8']; omega
  have k0 := cell_made w1 _ m2 0 (by decide)
  have k1 := cell_made w1 _ m2 1 (by decide)
  have z0 := frozen_made w1 _ m2 0
  have z1 := frozen_made w1 _ m2 1
  have hbase := M3.out
  clear m2 m3 hL hk
  have HB2 := hide ((hbase.setCell (p := ⟨w.heap.size, 0, none⟩) (Nat.le_refl _) (.int .u8 (kind : Int))).setCell (p := ⟨w.heap.size, 1, none⟩) (Nat.le_refl _) (.int .u8 (bs.length : Int)))
  clear hbase
  go_enter Tryd.func24, Tryd.ntmps24
  go_wp2_with (refine wpList_copy_bytes rfl _ _ rfl _ _ rfl rfl w.heap.size 2 122 126 (by rfl) bs (HV.out.below HB2.out) hl (cellsB (kind :: bs.length :: noughts 126)) (setTwo w1 w.heap.size kind bs.length M2.out) (by rw [cellsB_length]; simp [noughts]; omega) w.heap.size HB2.out (Nat.le_refl _) ?_)
  intro w3 hg3 hb3
  have HB3 := hide hb3
  have ho3 : Own w3 w.heap.size (.slice (some ⟨w.heap.size, 0, none⟩) 124 128) (body kind bs) := by
    have hh := hg3.out
    rw [splice_body kind bs hl] at hh
    refine ⟨⟨by rw [cellsB_length]; simp, .inr ⟨w.heap.size, 128, _, by rw [body_length hl], Nat.le_refl _, hh, by rw [body_length hl]; decide, by decide, ?_, ?_⟩⟩, body_lt HK.out hl HLt.out, by rw [body_length hl]; decide⟩
    · simp [cellsB, body_length hl]
    · rw [cellsB_append]; simp [cellsB_length]
  have HO3 := hide ho3
  have hsz : w.heap.size + 1 ≤ w3.heap.size := by
    have := ho3.lt w.heap.size rfl
    omega
  have HSZ := hide hsz
  clear hb3 ho3 hg3 hsz
  have HP : Hid (Parts (w3.alloc (.cells #[.slice (some ⟨w.heap.size, 0, none⟩) 124 128] 25)) (.slice (some ⟨w3.heap.size, 0, none⟩) 1 1) [body kind bs]) := by
    refine ⟨_, 1, w3.heap.size, 0, rfl, fun _ => rfl, fun i p hp => ?_, by simp⟩
    match i, hp with
    | 0, hp =>
      obtain rfl : body kind bs = p := by simpa using hp
      exact ⟨_, by simp, HO3.out.bytes.below ((Below.refl _ _).alloc (Nat.le_refl _) _)⟩
  have hc32 := crc_lt (body kind bs)
  have HC : Hid (crc [body kind bs].flatten = crc (body kind bs)) := by show _ = _; simp
  have HF : Hid (frameOf kind bs = body kind bs ++ be 4 (crc (body kind bs))) := rfl
  generalize crc (body kind bs) = c at hc32 HC HF
  have hcw : IntKind.u64.wrap (c : Int) = (c : Int) := by rw [IntKind.wrap_u64]; omega
  go_wp2_with (go_at_call 45; refine (sum_any [body kind bs] _ _ (HL.out.below (HB3.out.alloc HB3.out.size _)) HP.out).mono ?_; rw [HC.out]; rintro e w' ⟨rfl, rfl⟩)
  refine (appendNumber_any 4 (by simp) c (body kind bs) _ w.heap.size _ (HO3.out.below ((Below.refl _ _).alloc (Nat.le_refl _) _)) (by have := HSZ.out; simp; omega) (by rw [body_length hl]; decide)).mono ?_
  rintro e w' ⟨u, rfl, hgw⟩
  have HGW := hide hgw
  obtain ⟨ao2, n2, cap2, rfl, HN2⟩ := hgw.form'
  clear hgw
  go_wp2
  go_ret2
  refine ⟨_, rfl, ?_, ?_⟩
  · rw [HF.out]; exact HGW.out.own
  · exact (HB3.out.alloc HB3.out.size _).trans (HGW.out.below (by have := HSZ.out; simp; omega) (by intro k hk; simp [Value.ownBlock] at hk; omega))
end Go.Proofs.YtcidadikmmdalaaDoor.Fr

/- The statements' fixed answer by its contract. -/
namespace Go.Proofs.YtcidadikmmdalaaDoor.Fr
open Go.RowKit Go.Extern

/-- One part, laid in a new block. -/
theorem parts_one (w : World) (v : Value) (bs : List Nat) (hv : Bytes w v bs) : Parts (w.alloc (.cells #[v] 25)) (.slice (some ⟨w.heap.size, 0, none⟩) 1 1) [bs] := by
  refine ⟨_, 1, w.heap.size, 0, rfl, fun _ => rfl, fun i p hp => ?_, by simp⟩
  match i, hp with
  | 0, hp =>
    obtain rfl : bs = p := by simpa using hp
    exact ⟨v, by simp, hv.below ((Below.refl _ _).alloc (Nat.le_refl _) _)⟩

theorem const_bytes (w : World) : ∃ w2, (convert 25 25 (.slice (some ⟨w.heap.size, 0, none⟩) 9 9)).run Tryd.prog (w.alloc (.cells #[.int .u8 49, .int .u8 50, .int .u8 51, .int .u8 52, .int .u8 53, .int .u8 54, .int .u8 55, .int .u8 56, .int .u8 57] 5)) = .ok (.slice (some ⟨w.heap.size, 0, none⟩) 9 9) w2 ∧
    Hid (Bytes w2 (.slice (some ⟨w.heap.size, 0, none⟩) 9 9) [49, 50, 51, 52, 53, 54, 55, 56, 57]) ∧ Hid (Below w.heap.size w w2) := by
  refine ⟨_, Lib.run_convert_bytes_const w 25 5 (cellsB [49, 50, 51, 52, 53, 54, 55, 56, 57]).toArray 9 9 Tryd.underlying25 Tryd.underlying5, ?_, (Below.refl _ _).alloc (Nat.le_refl _) _⟩
  refine ⟨_, 9, w.heap.size, 0, rfl, fun _ => rfl, fun i b hb => ?_, by decide, by decide, by simp, by decide, by decide⟩
  rw [cell_of_row _ _ _ _ _ _ (heap_alloc_new w _), List.getElem?_toArray, Nat.zero_add]
  exact cellsB_get hb
theorem errV_eql : errV 0 = Value.nilIface := rfl

end Go.Proofs.YtcidadikmmdalaaDoor.Fr

/- Get by its contract. -/
namespace Go.Proofs.YtcidadikmmdalaaDoor.Fr
open Go.RowKit Go.Extern

set_option maxRecDepth 100000 in
set_option maxHeartbeats 1000000 in
theorem allNoughts_any (bs : List Nat) (v : Value) (w : World) (hv : Bytes w v bs) :
    Calls Tryd.prog 51 #[v] w fun e w' => e = .returned (.bool (bs.all (· == 0))) ∧ w' = w := by
  obtain ⟨ao, cap, g, off, rfl, h2, h3, h4, h5, -⟩ := hv
  have H2 := hide h2
  have H3 := hide h3
  have H5 := hide h5
  clear h2 h3 h4 h5
  go_enter Tryd.func51, Tryd.ntmps51
  go_wp2
  go_loopg [7] bs.length (fun k i wr => wr = w ∧ ∃ j, j + k = bs.length ∧ i = .int .i64 (j : Int) ∧ (bs.take j).all (· == 0) = true)
  case atStart => exact ⟨rfl, 0, by omega, rfl, rfl⟩
  case round =>
    obtain ⟨rfl, j, hj, rfl, hall⟩ := hrel
    have HA := hide hall
    clear hall
    cases gk with
    | zero =>
      have hnl : ¬ (j : Int) < (bs.length : Int) := by omega
      have hend : bs.take j = bs := List.take_of_length_le (by omega)
      rw [hend] at HA
      clear hend
      go_wp2
      go_ret
      exact ⟨by rw [HA.out]; rfl, rfl⟩
    | succ m =>
      have hjl : j < bs.length := by omega
      have hlt : (j : Int) < (bs.length : Int) := by omega
      have hb0 : (0 : Int) ≤ (j : Int) := by omega
      obtain ⟨b, hb⟩ : ∃ b, bs[j]? = some b := ⟨bs[j], by simp [hjl]⟩
      have k1 := H3.out j b hb
      obtain rfl := H2.out (by omega)
      have HB := hide hb
      have HTS := hide (take_snoc hb)
      have HJ : Hid ((j : Int) + 1 < 140737488355328 + 1) := by have := H5.out; show _ < _; omega
      clear hb
      by_cases hz : b = 0
      · subst hz
        have hjj := HJ.out
        go_wp2
        go_roundg m
        case measure => omega
        case rel => exact ⟨rfl, j + 1, by omega, by go_num, by rw [HTS.out, List.all_append, HA.out]; rfl⟩
      · have hz1 : ((b : Int) != 0) = true := by simp; omega
        have HF : Hid (bs.all (· == 0) = false) := by
          show _ = _
          rw [List.all_eq_false]
          exact ⟨b, List.mem_of_getElem? HB.out, by simpa using hz⟩
        clear hz
        go_wp2
        go_ret
        exact ⟨by rw [HF.out]; rfl, rfl⟩

/-- The error that reading a frame tells; 0: none. -/
def gErr (kind : Nat) (s : List Nat) : Int :=
  if s.length ≠ 128 then 11
  else if val (s.drop 124) ≠ crc (s.take 124) then 12
  else if s.getD 0 0 ≠ kind then 13
  else if 122 < s.getD 1 0 ∨ ((s.take 124).drop (2 + s.getD 1 0)).all (· == 0) = false then 14
  else 0
/-- The payload. -/
def gPay (kind : Nat) (s : List Nat) : List Nat := if gErr kind s = 0 then (s.drop 2).take (s.getD 1 0) else []

theorem get_size (kind : Nat) (s : List Nat) (v : Value) (w : World) (hv : Bytes w v s) (hl : s.length ≠ 128) :
    Calls Tryd.prog 33 #[.int .u8 (kind : Int), v] w fun e w' => e = .returned (.tuple #[.slice none 0 0, errV 11]) ∧ w' = w := by
  obtain ⟨ao, cap, g, off, rfl, -⟩ := hv
  have hl' : ((s.length : Int) != 128) = true := by simp; omega
  go_enter Tryd.func33, Tryd.ntmps33
  go_wp2
  go_ret2
  exact ⟨rfl, rfl⟩

theorem new_ne {w : World} {g o : Nat} {v : Value} (h : w.cell? ⟨g, o, none⟩ = some v) : g ≠ w.heap.size := by
  have := cell_lt h
  simp at this
  omega
theorem Own.form' {w : World} {base : Nat} {v : Value} {bs : List Nat} (h : Own w base v bs) : ∃ ao n cap, v = .slice ao n cap := by
  obtain ⟨ao, cap, rfl⟩ := h.form
  exact ⟨_, _, _, rfl⟩
/-- What Get leaves. -/
def GotX (w : World) (u : Value) (bs : List Nat) (w' : World) : Prop := Own w' w.heap.size u bs ∧ Below w.heap.size w w'

set_option maxRecDepth 100000 in
set_option maxHeartbeats 400000 in
theorem get_core (kind k0 n1 x : Nat) (bd pay : List Nat) (r : Int) (ao aF : Option Addr) (cap nF cF gb ob cb : Nat) (w : World) (hL : Laid w)
    (cutT : ∀ w2, (Instr.slice 25 (.slice ao 128 cap) none (some (.int .i64 124)) none).run Tryd.prog w2 = .ok (.slice (some ⟨gb, ob, none⟩) 124 cb) w2)
    (cutF : ∀ w2, (Instr.slice 25 (.slice ao 128 cap) (some (.int .i64 124)) none none).run Tryd.prog w2 = .ok (.slice aF nF cF) w2)
    (hrd : Calls Tryd.prog 50 #[.slice aF nF cF, .int .i64 4] w fun e w' => e = .returned (.int .u64 (x : Int)) ∧ Below w.heap.size w w')
    (hT : Bytes w (.slice (some ⟨gb, ob, none⟩) 124 cb) bd) (g0 : bd[0]? = some k0) (g1 : bd[1]? = some n1) (hbl : bd.length = 124)
    (hr : r = if x ≠ crc bd then 12 else if k0 ≠ kind then 13 else if 122 < n1 ∨ (bd.drop (2 + n1)).all (· == 0) = false then 14 else 0)
    (hpay : pay = if r = 0 then (bd.drop 2).take n1 else []) :
    Calls Tryd.prog 33 #[.int .u8 (kind : Int), .slice ao 128 cap] w fun e w' => ∃ u, e = .returned (.tuple #[u, errV r]) ∧ GotX w u pay w' := by
  have HT := hide hT
  have HR := hide hr
  have HP := hide hpay
  have HL := hide hL
  have HRD := hide hrd
  have HBL := hide hbl
  have c0 : w.cell? ⟨gb, ob, none⟩ = some (.int .u8 (k0 : Int)) := by
    obtain ⟨g', o', c', e, hc, -⟩ := hT.at0 (by omega)
    simp only [Value.slice.injEq, Option.some.injEq, Addr.mk.injEq, and_true] at e
    obtain ⟨⟨rfl, rfl⟩, -⟩ := e
    exact hc 0 k0 g0
  have c1 : w.cell? ⟨gb, ob + 1, none⟩ = some (.int .u8 (n1 : Int)) := by
    obtain ⟨g', o', c', e, hc, -⟩ := hT.at0 (by omega)
    simp only [Value.slice.injEq, Option.some.injEq, Addr.mk.injEq, and_true] at e
    obtain ⟨⟨rfl, rfl⟩, -⟩ := e
    exact hc 1 n1 g1
  have hn1 := hT.lt n1 (List.mem_of_getElem? g1)
  have HC := hide (crc_lt bd)
  clear hT hr hpay hL hrd hbl g0 g1
  go_enter Tryd.func33, Tryd.ntmps33
  go_wp2_with fail
  refine HRD.out.mono ?_
  rintro e w1 ⟨rfl, hb1⟩
  have HB1 := hide hb1
  have d0 : w1.cell? ⟨gb, ob, none⟩ = some (.int .u8 (k0 : Int)) := by rw [hb1.cell (cell_lt c0)]; exact c0
  have d1 : w1.cell? ⟨gb, ob + 1, none⟩ = some (.int .u8 (n1 : Int)) := by rw [hb1.cell (cell_lt c1)]; exact c1
  have HT1 := hide (HT.out.below hb1)
  have p0 : ∀ o, (w1.alloc o).cell? ⟨gb, ob, none⟩ = some (.int .u8 (k0 : Int)) := fun o => by rw [((Below.refl w1.heap.size w1).alloc (Nat.le_refl _) o).cell (cell_lt d0)]; exact d0
  have p1 : ∀ o, (w1.alloc o).cell? ⟨gb, ob + 1, none⟩ = some (.int .u8 (n1 : Int)) := fun o => by rw [((Below.refl w1.heap.size w1).alloc (Nat.le_refl _) o).cell (cell_lt d1)]; exact d1
  have m0 := (new_ne d0).symm
  clear hb1 c0 c1 HRD cutT cutF
  have HB2 := hide (HB1.out.alloc HB1.out.size (.cells #[.slice (some ⟨gb, ob, none⟩) 124 cb] 25))
  have HSM := hide (sum_any [bd] _ _ (HL.out.below HB2.out) (parts_one w1 _ _ HT1.out))
  have hfl : [bd].flatten = bd := by simp
  rw [hfl] at HSM
  have hcl := HC.out
  generalize crc bd = c at HSM HR hcl HC
  have hcw : IntKind.u64.wrap (c : Int) = (c : Int) := by rw [IntKind.wrap_u64]; omega
  have HT2 := hide (HT1.out.below ((Below.refl _ _).alloc (Nat.le_refl _) (.cells #[.slice (some ⟨gb, ob, none⟩) 124 cb] 25)))
  clear hfl hcl
  by_cases hxc : x = c
  · subst hxc
    by_cases hk : k0 = kind
    · subst hk
      by_cases hn : 122 < n1
      · have hn' : (122 : Int) < (n1 : Int) := by omega
        go_wp2_with (go_at_call 45; refine HSM.out.mono ?_; rintro e w' ⟨rfl, rfl⟩)
        go_ret2
        have hr : r = 14 := by rw [HR.out]; simp [hn]
        have hp : pay = [] := by rw [HP.out, hr]; rfl
        exact ⟨_, by rw [hr]; rfl, by rw [hp]; exact ⟨Own.nil _ _, HB2.out⟩⟩
      · have hn' : ¬ (122 : Int) < (n1 : Int) := by omega
        obtain ⟨aD, nD, cD, cutD, HD⟩ := cut_from _ _ bd (2 + n1) HT2.out (by have := HBL.out; omega)
        have e2 : ((2 + n1 : Nat) : Int) = 2 + (n1 : Int) := by omega
        rw [e2] at cutD
        obtain ⟨aE, nE, cE, cutE, HE⟩ := cut_both _ _ bd 2 (2 + n1) HT2.out (by omega) (by have := HBL.out; omega)
        rw [e2] at cutE
        have cutE' : ∀ w2, (Instr.slice 25 (.slice (some ⟨gb, ob, none⟩) 124 cb) (some (.int .i64 2)) (some (.int .i64 (2 + (n1 : Int)))) none).run Tryd.prog w2 = .ok (.slice aE nE cE) w2 := cutE
        clear cutE
        have hsub : 2 + n1 - 2 = n1 := by omega
        rw [hsub] at HE
        have HAN := hide (allNoughts_any _ _ _ HD.out)
        have HCL := hide (clone_any _ _ _ HE.out)
        have H14 : Hid ((bd.drop (2 + n1)).all (· == 0) = false → r = 14 ∧ pay = []) := fun h => by
          have hr : r = 14 := by rw [HR.out]; simp only [h, or_true, if_true]; simp
          exact ⟨hr, by rw [HP.out, hr]; rfl⟩
        have H0 : Hid ((bd.drop (2 + n1)).all (· == 0) = true → r = 0 ∧ pay = (bd.drop 2).take n1) := fun h => by
          have hr : r = 0 := by rw [HR.out, h]; simp [hn]
          exact ⟨hr, by rw [HP.out, hr]; rfl⟩
        clear e2 hsub hn
        go_wp2_with (go_at_call 45; refine HSM.out.mono ?_; rintro e w' ⟨rfl, rfl⟩)
        refine HAN.out.mono ?_
        rintro e w' ⟨rfl, rfl⟩
        cases hz : (bd.drop (2 + n1)).all (· == 0) with
        | false =>
          obtain ⟨hr, hp⟩ := H14.out hz
          have HR2 := hide hr
          have HP2 := hide hp
          clear hr hp hz H14 H0 HAN
          go_wp2
          go_ret2
          exact ⟨_, by rw [HR2.out]; rfl, by rw [HP2.out]; exact ⟨Own.nil _ _, HB2.out⟩⟩
        | true =>
          obtain ⟨hr, hp⟩ := H0.out hz
          have HR2 := hide hr
          have HP2 := hide hp
          clear hr hp hz H14 H0 HAN
          go_wp2_with fail
          refine HCL.out.mono ?_
          rintro e w2 ⟨u, rfl, ho, hb⟩
          have HO := hide (ho.base (base' := w.heap.size) HB2.out.size)
          have HB3 := hide (HB2.out.trans (hb.mono HB2.out.size))
          obtain ⟨ao2, n2, cap2, rfl⟩ := ho.form'
          clear ho hb
          go_wp2
          go_ret2
          exact ⟨_, by rw [HR2.out]; rfl, by rw [HP2.out]; exact ⟨HO.out, HB3.out⟩⟩
    · have hk1 : ((k0 : Int) != (kind : Int)) = true := by simp; omega
      go_wp2_with (go_at_call 45; refine HSM.out.mono ?_; rintro e w' ⟨rfl, rfl⟩)
      go_ret2
      have hr : r = 13 := by rw [HR.out]; simp [hk]
      have hp : pay = [] := by rw [HP.out, hr]; rfl
      exact ⟨_, by rw [hr]; rfl, by rw [hp]; exact ⟨Own.nil _ _, HB2.out⟩⟩
  · have hx1 : ((x : Int) != (c : Int)) = true := by simp; omega
    go_wp2_with (go_at_call 45; refine HSM.out.mono ?_; rintro e w' ⟨rfl, rfl⟩)
    go_ret2
    have hr : r = 12 := by rw [HR.out]; simp [hxc]
    have hp : pay = [] := by rw [HP.out, hr]; rfl
    exact ⟨_, by rw [hr]; rfl, by rw [hp]; exact ⟨Own.nil _ _, HB2.out⟩⟩

theorem get_whole (kind : Nat) (s : List Nat) (v : Value) (w : World) (hL : Laid w) (hv : Bytes w v s) (hl : s.length = 128) :
    Calls Tryd.prog 33 #[.int .u8 (kind : Int), v] w fun e w' => ∃ u, e = .returned (.tuple #[u, errV (gErr kind s)]) ∧ GotX w u (gPay kind s) w' := by
  obtain ⟨aT, nT, cT, cutT, HT⟩ := cut_to w v s 124 hv (by omega)
  obtain ⟨aF, nF, cF, cutF, HF⟩ := cut_from w v s 124 hv (by omega)
  have hrd := readNumber_any 4 (by simp) (s.drop 124) (by simp; omega) _ w HF.out
  have htk : (s.drop 124).take 4 = s.drop 124 := List.take_of_length_le (by simp; omega)
  rw [htk] at hrd
  have htl : (s.take 124).length = 124 := by simp; omega
  obtain ⟨gb, ob, cb, hbv, -⟩ := HT.out.at0 (by omega)
  have g0 : (s.take 124)[0]? = some (s.getD 0 0) := by
    rw [List.getElem?_take_of_lt (by decide), List.getD_eq_getElem?_getD, List.getElem?_eq_getElem (by omega)]; rfl
  have g1 : (s.take 124)[1]? = some (s.getD 1 0) := by
    rw [List.getElem?_take_of_lt (by decide), List.getD_eq_getElem?_getD, List.getElem?_eq_getElem (by omega)]; rfl
  have hr : gErr kind s = if val (s.drop 124) ≠ crc (s.take 124) then 12 else if s.getD 0 0 ≠ kind then 13 else if 122 < s.getD 1 0 ∨ ((s.take 124).drop (2 + s.getD 1 0)).all (· == 0) = false then 14 else 0 := by
    unfold gErr; rw [if_neg (by omega)]
  have hpay : gPay kind s = if gErr kind s = 0 then ((s.take 124).drop 2).take (s.getD 1 0) else [] := by
    unfold gPay
    by_cases h0 : gErr kind s = 0
    · rw [if_pos h0, if_pos h0]
      have hn : s.getD 1 0 ≤ 122 := by
        rw [hr] at h0
        by_cases h1 : val (s.drop 124) ≠ crc (s.take 124)
        · rw [if_pos h1] at h0; cases h0
        · rw [if_neg h1] at h0
          by_cases h2 : s.getD 0 0 ≠ kind
          · rw [if_pos h2] at h0; cases h0
          · rw [if_neg h2] at h0
            by_cases h3 : 122 < s.getD 1 0 ∨ ((s.take 124).drop (2 + s.getD 1 0)).all (· == 0) = false
            · rw [if_pos h3] at h0; cases h0
            · omega
      rw [List.drop_take, List.take_take]; congr 1; omega
    · rw [if_neg h0, if_neg h0]
  obtain ⟨ao, cap, g, off, rfl, -⟩ := hv
  rw [hl] at cutT cutF ⊢
  rw [hbv, htl] at cutT HT
  exact get_core kind _ _ _ (s.take 124) (gPay kind s) (gErr kind s) ao aF cap nF cF gb ob cb w hL cutT cutF hrd HT.out g0 g1 htl hr hpay

theorem get_any (kind : Nat) (s : List Nat) (v : Value) (w : World) (hL : Laid w) (hv : Bytes w v s) :
    Calls Tryd.prog 33 #[.int .u8 (kind : Int), v] w fun e w' => ∃ u, e = .returned (.tuple #[u, errV (gErr kind s)]) ∧ GotX w u (gPay kind s) w' := by
  by_cases hl : s.length = 128
  · exact get_whole kind s v w hL hv hl
  · refine (get_size kind s v w hv hl).mono ?_
    rintro e w' ⟨rfl, rfl⟩
    have h1 : gErr kind s = 11 := by unfold gErr; rw [if_pos hl]
    have h2 : gPay kind s = [] := by unfold gPay; rw [h1]; rfl
    exact ⟨_, by rw [h1], by rw [h2]; exact ⟨Own.nil _ _, Below.refl _ _⟩⟩
end Go.Proofs.YtcidadikmmdalaaDoor.Fr

/- The document's frames: Put and Get of the reference, by their contracts. -/
namespace Go.Proofs.YtcidadikmmdalaaDoor.Fr
open Go.RowKit Go.Extern

set_option maxRecDepth 100000 in
set_option maxHeartbeats 400000 in
theorem rput_any (kind : Nat) (hk : kind < 256) (bs : List Nat) (v : Value) (w : World) (hv : Bytes w v bs) (hl : bs.length ≤ 122) :
    Calls Tryd.prog 28 #[.int .u8 (kind : Int), v] w fun e w' => ∃ u, e = .returned u ∧ Own w' w.heap.size u (frameOf kind bs) ∧ Below w.heap.size w w' := by
  have HV := hide hv
  have HK := hide hk
  have HLT := hide hv.lt
  obtain ⟨ao, cap, g, off, rfl, -⟩ := hv
  have q1 : IntKind.u8.wrap (bs.length : Int) = (bs.length : Int) := by rw [IntKind.wrap_u8']; omega
  have hlit := Own.lit w w.heap.size (Nat.le_refl _) [kind, bs.length] (by simp; exact ⟨hk, by omega⟩) (by simp)
  have HG0 := hide (Grew.refl hlit)
  clear hlit hk
  go_enter Tryd.func28, Tryd.ntmps28
  go_wp2_with (at_builtin; refine wpList_append_grew rfl _ _ rfl w.heap.size _ _ _ bs rfl rfl HG0.out (HV.out.below ((Below.refl _ _).alloc (Nat.le_refl _) _)) (by simp; omega) (by simp) ?_)
  intro v1 w1 hg1
  have HB1 : Hid (Below w.heap.size w w1) := ((Below.refl _ _).alloc (Nat.le_refl _) _).trans (hg1.below (by simp) (by simp [Value.ownBlock]))
  have HO1 := hide hg1.own
  obtain ⟨ao1, n1, cap1, rfl, HN1⟩ := hg1.form'
  clear hg1 HG0
  go_wp2
  go_loopg [5] (122 - bs.length) (fun k u wr => ∃ j, j + k = 122 - bs.length ∧ Own wr w.heap.size u ([kind, bs.length] ++ bs ++ List.replicate j 0) ∧ Below w.heap.size w wr)
  case atStart => exact ⟨0, by omega, by simpa using HO1.out, HB1.out⟩
  case round =>
    obtain ⟨j, hj, hown, hb⟩ := hrel
    have HO := hide hown
    have HB := hide hb
    have hlen : ([kind, bs.length] ++ bs ++ List.replicate j 0).length = 2 + bs.length + j := by simp; omega
    obtain ⟨ao2, cap2, rfl⟩ := hown.form
    rw [hlen] at *
    clear hown hb
    cases gk with
    | zero =>
      have hj' : j = 122 - bs.length := by omega
      have hn : ((2 + bs.length + j : Nat) : Int) = 124 := by omega
      have HBD : Hid ([kind, bs.length] ++ bs ++ List.replicate j 0 = body kind bs) := by show _ = _; rw [hj']; simp [body]
      rw [HBD.out] at HO
      have h124 : 2 + bs.length + j = 124 := by omega
      rw [h124] at HO ⊢
      have HRS := hide (rsum_any _ _ _ HO.out.bytes)
      have HF : Hid (frameOf kind bs = body kind bs ++ be 4 (crc (body kind bs))) := rfl
      have hbl : (body kind bs).length = 124 := body_length hl
      have HBL := hide hbl
      have hc := crc_lt (body kind bs)
      have HNU := hide (number_any (crc (body kind bs)) 4 (by decide) (by omega) wr)
      generalize crc (body kind bs) = c at HRS HF HNU hc
      clear hbl hlen h124 hn hj hj'
      go_wp2_with (go_at_call 47; refine HRS.out.mono ?_; rintro e w' ⟨rfl, rfl⟩)
      refine HNU.out.mono ?_
      rintro e w2 ⟨u2, rfl, hou, hb2⟩
      have HOU := hide hou
      have HB2 := hide (HB.out.trans (hb2.mono HB.out.size))
      have HO2 := hide (HO.out.below hb2)
      obtain ⟨ao3, n3, cap3, rfl⟩ := hou.form'
      clear hou hb2
      go_wp2_with (at_builtin; refine wpList_append_bytes rfl _ _ rfl w.heap.size _ _ (body kind bs) (be 4 c) rfl rfl HO2.out HOU.out.bytes (by rw [HBL.out, be_length]; decide) HB2.out.size ?_)
      intro v' w' ho hg hat
      have HO3 := hide ho
      have HB3 := hide (HB2.out.grown hg HB2.out.size (fun k hk => (HO2.out.lt k hk).1))
      obtain ⟨ao4, n4, cap4, rfl⟩ := ho.form'
      clear ho hg hat
      go_wp2
      go_ret
      exact ⟨_, rfl, by rw [HF.out]; exact HO3.out, HB3.out⟩
    | succ m =>
      have hn : ((2 + bs.length + j : Nat) : Int) < 124 := by omega
      have HJ := hide hj
      generalize hN : 2 + bs.length + j = N at *
      have HNN := hide hN
      clear hlen hN
      go_wp2_with (at_builtin; refine wpList_append_bytes rfl _ _ rfl w.heap.size _ _ _ [0] rfl rfl (HO.out.below ((Below.refl _ _).alloc (Nat.le_refl _) _)) (lit_bytes wr [0] (by simp) (by simp)) (by have := HNN.out; simp; omega) (by have := HB.out.size; simp; omega) ?_)
      intro v' w' ho hg hat
      have HO3 := hide ho
      have HB3 := hide ((HB.out.alloc HB.out.size (.cells (cellsB [0]).toArray 5)).grown hg (by have := HB.out.size; simp; omega) (fun k hk => (HO.out.lt k hk).1))
      obtain ⟨ao4, n4, cap4, rfl⟩ := ho.form'
      clear ho hg hat
      go_wp2
      go_roundg m
      case measure => omega
      case rel => exact ⟨j + 1, by have := HJ.out; omega, by have := HO3.out; simpa [List.replicate_succ'] using this, HB3.out⟩
end Go.Proofs.YtcidadikmmdalaaDoor.Fr

/- The reference's Get by its contract. -/
namespace Go.Proofs.YtcidadikmmdalaaDoor.Fr
open Go.RowKit Go.Extern

theorem below_drew' (w : World) : Below w.heap.size w w.drew := (Below.refl _ _).drew

theorem rget_size (kind : Nat) (s : List Nat) (v : Value) (w : World) (hv : Bytes w v s) (hl : s.length ≠ 128) :
    Calls Tryd.prog 31 #[.int .u8 (kind : Int), v] w fun e w' => e = .returned (.tuple #[.slice none 0 0, .int .i64 11]) ∧ w' = w := by
  obtain ⟨ao, cap, g, off, rfl, -⟩ := hv
  have hl' : ((s.length : Int) != 128) = true := by simp; omega
  go_enter Tryd.func31, Tryd.ntmps31
  go_wp2
  go_ret2
  exact ⟨rfl, rfl⟩

set_option maxRecDepth 100000 in
set_option maxHeartbeats 400000 in
theorem rget_core (kind k0 n1 c : Nat) (s dr pay : List Nat) (r : Int) (ao aT aF : Option Addr) (cap nT cT nF cF g off : Nat) (w : World)
    (cutT : ∀ w2, (Instr.slice 25 (.slice ao 128 cap) none (some (.int .i64 124)) none).run Tryd.prog w2 = .ok (.slice aT nT cT) w2)
    (cutF : ∀ w2, (Instr.slice 25 (.slice ao 128 cap) (some (.int .i64 124)) none none).run Tryd.prog w2 = .ok (.slice aF nF cF) w2)
    (hc32 : c < 4294967296) (hrs : ∀ w2, Below w.heap.size w w2 → Calls Tryd.prog 47 #[.slice aT nT cT] w2 fun e w' => e = .returned (.int .i64 (c : Int)) ∧ w' = w2)
    (hF : Bytes w (.slice aF nF cF) dr) (hv : Bytes w (.slice ao 128 cap) s) (hs : s.length = 128) (hao : ao = some ⟨g, off, none⟩) (hcell : ∀ (i : Nat) b, s[i]? = some b → w.cell? ⟨g, off + i, none⟩ = some (.int .u8 (b : Int)))
    (g0 : s[0]? = some k0) (g1 : s[1]? = some n1)
    (hr : r = if be 4 c ≠ dr then 12 else if k0 ≠ kind then 13 else if 122 < n1 ∨ ((s.take 124).drop (2 + n1)).all (· == 0) = false then 14 else 0)
    (hpay : pay = if r = 0 then (s.drop 2).take n1 else []) :
    Calls Tryd.prog 31 #[.int .u8 (kind : Int), .slice ao 128 cap] w fun e w' => ∃ u, e = .returned (.tuple #[u, .int .i64 r]) ∧ GotX w u pay w' := by
  have HR := hide hr
  have HP := hide hpay
  have HV := hide hv
  have HF := hide hF
  have HRS := hide (hrs w.drew (below_drew' w))
  have HNU := hide (number_any c 4 (by decide) (by omega) w.drew)
  have HCELL := hide hcell
  have HS := hide hs
  have hn1 : n1 < 256 := hv.lt n1 (List.mem_of_getElem? g1)
  have HAO := hide hao
  clear hr hpay hv hF hrs hcell hs hc32 hao
  go_enter Tryd.func31, Tryd.ntmps31
  go_wp2
  go_region_with (first
    | (go_at_call 47; refine HRS.out.mono ?_; rintro e w' ⟨rfl, rfl⟩)
    | (go_at_call 27; refine HNU.out.mono ?_; rintro e w2 ⟨u, rfl, hou, hb2⟩; obtain ⟨ao3, n3, cap3, rfl⟩ := hou.form')
    | (go_at_call 9; refine (same_any (be 4 c) dr _ _ _ hou.bytes ((HF.out.below (below_drew' w)).below hb2)).mono ?_; rintro e w3 ⟨rfl, rfl⟩))
  have HB2 : Hid (Below w.heap.size w w3) := (below_drew' w).trans hb2
  clear hb2 hou cutT cutF HRS HNU HF
  obtain rfl := HAO.out
  have c0 : w3.cell? ⟨g, off, none⟩ = some (.int .u8 (k0 : Int)) := by
    have : w.cell? ⟨g, off, none⟩ = some (.int .u8 (k0 : Int)) := HCELL.out 0 k0 g0
    rw [HB2.out.cell (cell_lt this)]; exact this
  have c1 : w3.cell? ⟨g, off + 1, none⟩ = some (.int .u8 (n1 : Int)) := by
    have := HCELL.out 1 n1 g1
    rw [HB2.out.cell (cell_lt this)]; exact this
  by_cases hd : be 4 c = dr
  · have hdt : decide (be 4 c = dr) = true := by simpa using hd
    rw [hdt]
    clear hdt
    by_cases hk : k0 = kind
    · subst hk
      by_cases hn : 122 < n1
      · have hn' : (122 : Int) < (n1 : Int) := by omega
        have HR2 : Hid (r = 14) := by show _ = _; rw [HR.out]; simp [hd, hn]
        have HP2 : Hid (pay = []) := by show _ = _; rw [HP.out, HR2.out]; rfl
        clear hd
        go_wp2
        go_ret2
        exact ⟨_, by rw [HR2.out]; rfl, by rw [HP2.out]; exact ⟨Own.nil _ _, HB2.out⟩⟩
      · have hn' : ¬ (122 : Int) < (n1 : Int) := by omega
        have H14 : Hid (((s.take 124).drop (2 + n1)).all (· == 0) = false → r = 14 ∧ pay = []) := fun h => by
          have hr : r = 14 := by rw [HR.out]; simp only [h, or_true, if_true]; simp [hd]
          exact ⟨hr, by rw [HP.out, hr]; rfl⟩
        have H0 : Hid (((s.take 124).drop (2 + n1)).all (· == 0) = true → r = 0 ∧ pay = (s.drop 2).take n1) := fun h => by
          have hr : r = 0 := by rw [HR.out, h]; simp [hn, hd]
          exact ⟨hr, by rw [HP.out, hr]; rfl⟩
        obtain ⟨aE, nE, cE, cutE, HE⟩ := cut_both w3 _ s 2 (2 + n1) (HV.out.below HB2.out) (by omega) (by have := HS.out; omega)
        have e2 : ((2 + n1 : Nat) : Int) = 2 + (n1 : Int) := by omega
        rw [e2] at cutE
        have cutE' : ∀ w2, (Instr.slice 25 (.slice (some ⟨g, off, none⟩) 128 cap) (some (.int .i64 2)) (some (.int .i64 (2 + (n1 : Int)))) none).run Tryd.prog w2 = .ok (.slice aE nE cE) w2 := by rw [← HS.out]; exact cutE
        have hsub : 2 + n1 - 2 = n1 := by omega
        rw [hsub] at HE
        have HCP := hide (copy_any _ _ w3 HE.out)
        clear cutE e2 hsub hd
        go_wp2
        go_loopg [7] (122 - n1) (fun k i wr => wr = w3 ∧ ∃ j, j + k = 124 ∧ i = .int .i64 (j : Int) ∧ 2 + n1 ≤ j ∧ ((s.take j).drop (2 + n1)).all (· == 0) = true)
        case atStart => exact ⟨rfl, 2 + n1, by omega, by go_num, Nat.le_refl _, by rw [List.drop_of_length_le (by simp; omega)]; rfl⟩
        case round =>
          obtain ⟨rfl, j, hj, rfl, hj2, hall⟩ := hrel
          have HA := hide hall
          clear hall
          cases gk with
          | zero =>
            obtain rfl : j = 124 := by omega
            obtain ⟨hr, hp⟩ := H0.out HA.out
            have HR2 := hide hr
            have HP2 := hide hp
            clear hr hp H0 H14 HR HP
            go_wp2_with fail
            refine HCP.out.mono ?_
            rintro e w4 ⟨u4, rfl, ho4, hb4⟩
            have HO4 := hide (ho4.base (base' := w.heap.size) HB2.out.size)
            have HB4 := hide (HB2.out.trans (hb4.mono HB2.out.size))
            obtain ⟨a4, n4, c4, rfl⟩ := ho4.form'
            clear ho4 hb4
            go_wp2
            go_ret2
            exact ⟨_, by rw [HR2.out]; rfl, by rw [HP2.out]; exact ⟨HO4.out, HB4.out⟩⟩
          | succ m =>
            have hjl : j < 124 := by omega
            have hlt : (j : Int) < 124 := by omega
            have hlt2 : (j : Int) < 128 := by omega
            have hb0 : (0 : Int) ≤ (j : Int) := by omega
            obtain ⟨b, hb⟩ : ∃ b, s[j]? = some b := ⟨s[j]'(by have := HS.out; omega), by simp⟩
            have k1 : wr.cell? ⟨g, off + j, none⟩ = some (.int .u8 (b : Int)) := by
              have := HCELL.out j b hb
              rw [HB2.out.cell (cell_lt this)]; exact this
            have HTS := hide (take_snoc hb)
            have HBJ := hide hb
            have HSL : Hid ((s.take j).length = j) := by show _ = _; have := HS.out; simp; omega
            clear hb
            by_cases hz : b = 0
            · subst hz
              go_wp2
              go_roundg m
              case measure => omega
              case rel =>
                refine ⟨rfl, j + 1, by omega, by go_num, by omega, ?_⟩
                rw [HTS.out, List.drop_append_of_le_length (by rw [HSL.out]; exact hj2), List.all_append, HA.out]; rfl
            · have hz1 : ((b : Int) != 0) = true := by simp; omega
              have HF2 : Hid (((s.take 124).drop (2 + n1)).all (· == 0) = false) := by
                show _ = _
                rw [List.all_eq_false]
                refine ⟨b, ?_, by simpa using hz⟩
                refine List.mem_of_getElem? (i := j - (2 + n1)) ?_
                rw [List.getElem?_drop, show 2 + n1 + (j - (2 + n1)) = j by omega, List.getElem?_take_of_lt hjl]
                exact HBJ.out
              obtain ⟨hr, hp⟩ := H14.out HF2.out
              have HR2 := hide hr
              have HP2 := hide hp
              clear hr hp H0 H14 HR HP hz
              go_wp2
              go_ret2
              exact ⟨_, by rw [HR2.out]; rfl, by rw [HP2.out]; exact ⟨Own.nil _ _, HB2.out⟩⟩
    · have hk1 : ((k0 : Int) != (kind : Int)) = true := by simp; omega
      have HR2 : Hid (r = 13) := by show _ = _; rw [HR.out]; simp [hd, hk]
      have HP2 : Hid (pay = []) := by show _ = _; rw [HP.out, HR2.out]; rfl
      clear hd hk
      go_wp2
      go_ret2
      exact ⟨_, by rw [HR2.out]; rfl, by rw [HP2.out]; exact ⟨Own.nil _ _, HB2.out⟩⟩
  · have hdt : decide (be 4 c = dr) = false := by simpa using hd
    rw [hdt]
    clear hdt
    have HR2 : Hid (r = 12) := by show _ = _; rw [HR.out]; simp [hd]
    have HP2 : Hid (pay = []) := by show _ = _; rw [HP.out, HR2.out]; rfl
    clear hd
    go_wp2
    go_ret2
    exact ⟨_, by rw [HR2.out]; rfl, by rw [HP2.out]; exact ⟨Own.nil _ _, HB2.out⟩⟩

theorem rget_any (kind : Nat) (s : List Nat) (v : Value) (w : World) (hv : Bytes w v s) :
    Calls Tryd.prog 31 #[.int .u8 (kind : Int), v] w fun e w' => ∃ u, e = .returned (.tuple #[u, .int .i64 (gErr kind s)]) ∧ GotX w u (gPay kind s) w' := by
  by_cases hl : s.length = 128
  · obtain ⟨aT, nT, cT, cutT, HT⟩ := cut_to w v s 124 hv (by omega)
    obtain ⟨aF, nF, cF, cutF, HF⟩ := cut_from w v s 124 hv (by omega)
    have g0 : s[0]? = some (s.getD 0 0) := by
      rw [List.getD_eq_getElem?_getD, List.getElem?_eq_getElem (by omega)]; rfl
    have g1 : s[1]? = some (s.getD 1 0) := by
      rw [List.getD_eq_getElem?_getD, List.getElem?_eq_getElem (by omega)]; rfl
    have hiff := val_iff (s.drop 124) HF.out.lt (crc (s.take 124)) (by rw [show (s.drop 124).length = 4 by simp; omega]; exact crc_lt _)
    rw [show (s.drop 124).length = 4 by simp; omega] at hiff
    have hr : gErr kind s = if be 4 (crc (s.take 124)) ≠ s.drop 124 then 12 else if s.getD 0 0 ≠ kind then 13 else if 122 < s.getD 1 0 ∨ ((s.take 124).drop (2 + s.getD 1 0)).all (· == 0) = false then 14 else 0 := by
      unfold gErr
      rw [if_neg (by omega)]
      by_cases h1 : val (s.drop 124) = crc (s.take 124)
      · have h2 := hiff.1 h1
        simp only [h1, h2, ne_eq, not_true_eq_false, if_false]
      · have h2 : ¬ be 4 (crc (s.take 124)) = s.drop 124 := fun h => h1 (hiff.2 h)
        simp only [h1, h2, ne_eq, not_false_eq_true, if_true]
    have hv' := hv
    obtain ⟨g, off, cap, rfl, hcell, -, -⟩ := hv.at0 (by omega)
    rw [hl] at cutT cutF hv' ⊢
    exact rget_core kind _ _ (crc (s.take 124)) s (s.drop 124) (gPay kind s) (gErr kind s) _ aT aF cap nT cT nF cF g off w cutT cutF (crc_lt _) (fun w2 hb => rsum_any _ _ w2 (HT.out.below hb)) HF.out hv' hl rfl hcell g0 g1 hr rfl
  · refine (rget_size kind s v w hv hl).mono ?_
    rintro e w' ⟨rfl, rfl⟩
    have h1 : gErr kind s = 11 := by unfold gErr; rw [if_pos hl]
    have h2 : gPay kind s = [] := by unfold gPay; rw [h1]; rfl
    exact ⟨_, by rw [h1], by rw [h2]; exact ⟨Own.nil _ _, Below.refl _ _⟩⟩
end Go.Proofs.YtcidadikmmdalaaDoor.Fr

/- The statements' own 'next', by its contract. -/
namespace Go.Proofs.YtcidadikmmdalaaDoor.Fr
open Go.RowKit Go.Extern

/-- Is it a size of numbers? -/
def isSize (s : Int) : Bool := decide (s = 1 ∨ s = 2 ∨ s = 4 ∨ s = 8)

/-- What 'next' leaves. -/
def Nexted (b : Nat) (left : List Nat) (sp : Bool) (wd : Nat) (w w' : World) : Prop := Unp w' b (rdL left wd) (rdS left sp wd) ∧ w.grownBy w' (some b)

theorem size_of {s : Int} (h : isSize s = true) : ∃ wd : Nat, s = (wd : Int) ∧ (wd = 1 ∨ wd = 2 ∨ wd = 4 ∨ wd = 8) := by
  have h' : s = 1 ∨ s = 2 ∨ s = 4 ∨ s = 8 := by simpa [isSize] using h
  exact ⟨s.toNat, by omega, by omega⟩
end Go.Proofs.YtcidadikmmdalaaDoor.Fr
