/- Bytes in memory, the laid table, and the two sums by their contracts. -/
import Derived.Test.YtlgmfiboekmhkabDoorCrc
import Derived.Test.YtlgmfiboekmhkabDoorChecked
import Derived.Below
import Derived.Deep.LoopGhost
import Derived.Deep.AppendLies
import Derived.Deep.QuietTactic
import Derived.RowKit
import Derived.ProofKit
import Derived.WalkKit
import Derived.IntWalk
import Derived.Handy
namespace Go.Proofs.YtlgmfiboekmhkabDoor
open Go.RowKit Go.Extern

theorem hide {p : Prop} (h : p) : Hid p := h
theorem cell_lt {w : World} {a : Addr} {v : Value} (h : w.cell? a = some v) : a.block < w.heap.size := by
  rcases Nat.lt_or_ge a.block w.heap.size with g | g
  · exact g
  · simp [World.cell?, Array.getElem?_eq_none g] at h

/-- The table lies as the program's text has it. -/
def Laid (w : World) : Prop := ∀ i, i < 16 → w.cell? ⟨0, i, none⟩ = some (.int .u32 (nibs.getD i 0 : Nat))
theorem Laid.below {w w' : World} (h : Laid w) (hb : Below w.heap.size w w') : Laid w' := fun i hi => by
  rw [hb.cell (cell_lt (h i hi))]; exact h i hi

/-- The value 'v' is, in the world 'w', a slice of the bytes 'bs'. -/
def Bytes (w : World) (v : Value) (bs : List Nat) : Prop :=
  ∃ ao cap g off, v = .slice ao bs.length cap ∧ (0 < bs.length → ao = some ⟨g, off, none⟩) ∧ (∀ (i : Nat) b, bs[i]? = some b → w.cell? ⟨g, off + i, none⟩ = some (.int .u8 (b : Int))) ∧
    (∀ b ∈ bs, b < 256) ∧ bs.length ≤ 140737488355328 ∧ (ao = none → cap = 0) ∧ bs.length ≤ cap ∧ cap ≤ maxLen
theorem Bytes.below {w w' : World} (hb : Below w.heap.size w w') {v : Value} {bs : List Nat} (h : Bytes w v bs) : Bytes w' v bs := by
  obtain ⟨ao, cap, g, off, h1, h2, h3, h4⟩ := h
  exact ⟨ao, cap, g, off, h1, h2, fun i q hq => by rw [hb.cell (cell_lt (h3 i q hq))]; exact h3 i q hq, h4⟩
theorem Bytes.lt {w : World} {v : Value} {bs : List Nat} (h : Bytes w v bs) : ∀ b ∈ bs, b < 256 := by
  obtain ⟨ao, cap, g, off, h1, h2, h3, h4, h5⟩ := h; exact h4
theorem Bytes.len {w : World} {v : Value} {bs : List Nat} (h : Bytes w v bs) : bs.length ≤ 140737488355328 := by
  obtain ⟨ao, cap, g, off, h1, h2, h3, h4, h5, h6⟩ := h; exact h5
theorem Bytes.nil (w : World) : Bytes w (.slice none 0 0) [] := ⟨none, 0, 0, 0, rfl, by simp, by simp, by simp, by simp, by simp, by simp, by simp⟩

/-- The value 'v' is, in the world 'w', a slice of parts. -/
def Parts (w : World) (v : Value) (ps : List (List Nat)) : Prop :=
  ∃ ao cap g off, v = .slice ao ps.length cap ∧ (0 < ps.length → ao = some ⟨g, off, none⟩) ∧ (∀ (i : Nat) p, ps[i]? = some p → ∃ u, w.cell? ⟨g, off + i, none⟩ = some u ∧ Bytes w u p) ∧ ps.length ≤ 140737488355328

theorem take_snoc {α : Type} {l : List α} {j : Nat} {q : α} (h : l[j]? = some q) : l.take (j + 1) = l.take j ++ [q] := by rw [List.take_add_one, h]; rfl

theorem crcFrom_take_lt {bs : List Nat} (h : ∀ b ∈ bs, b < 256) {s : Nat} (hs : s < 4294967296) (j : Nat) : crcFrom s (bs.take j) < 4294967296 :=
  crcFrom_lt _ (fun b hb => h b (List.mem_of_mem_take hb)) hs

/-- What the walk wants of one half byte. -/
theorem nib_facts (x : Nat) (hx : x < 4294967296) : ∃ n d t : Nat, bits .and .u32 (x : Int) 15 = (n : Int) ∧ (x : Int) / 16 = (d : Int) ∧ bits .xor .u32 (d : Int) (t : Int) = ((nib x : Nat) : Int) ∧ (n : Int) < 16 ∧ t = nibs.getD n 0 ∧ nib x < 4294967296 ∧ Hid (n = x % 16) := by
  have ht : ∀ n, n < 16 → nibs.getD n 0 < 4294967296 := by decide
  have h2 : nib x < 4294967296 := by rw [nib_bits]; exact bits2_lt 4 hx
  refine ⟨x % 16, x / 16, nibs.getD (x % 16) 0, ?_, by omega, ?_, by omega, rfl, h2, rfl⟩
  · rw [← nat_mask4]; exact u32_and_nat x 15 hx (by decide)
  · exact u32_xor_nat (x / 16) (nibs.getD (x % 16) 0) (by omega) (ht _ (by omega))

set_option maxRecDepth 100000 in
set_option maxHeartbeats 2000000 in
theorem sum_any (ps : List (List Nat)) (v : Value) (w : World) (hL : Laid w) (hv : Parts w v ps) :
    Calls Tryd.prog 22 #[v] w fun e w' => e = .returned (.int .u32 (crc ps.flatten : Nat)) ∧ w' = w := by
  obtain ⟨ao, cap, g, off, rfl, h2, h3, h4⟩ := hv
  have H2 := hide h2
  have H3 := hide h3
  have HL := hide hL
  have HN := hide h4
  clear h2 h3 hL h4
  go_enter Tryd.func22, Tryd.ntmps22
  go_wp2
  go_loopg [3, 10] ps.length (fun k s i wr => wr = w ∧ ∃ j, j + k = ps.length ∧ i = .int .i64 (j : Int) ∧ s = .int .u32 (crcFrom 4294967295 (ps.take j).flatten : Nat) ∧ crcFrom 4294967295 (ps.take j).flatten < 4294967296)
  case atStart => exact ⟨rfl, 0, by omega, rfl, by simp [crcFrom], by simp [crcFrom]⟩
  case round =>
    obtain ⟨rfl, j, hj, rfl, hs, hlt32⟩ := hrel
    cases gk with
    | zero =>
      have hnl : ¬ (j : Int) < (ps.length : Int) := by omega
      have hend : ps.take j = ps := List.take_of_length_le (by omega)
      rw [hend] at hs hlt32
      have HS : Hid (4294967295 - crcFrom 4294967295 ps.flatten = crc ps.flatten) := rfl
      generalize crcFrom 4294967295 ps.flatten = st at hs hlt32 HS
      subst hs
      have hx : bits .xor .u32 IntKind.u32.max (st : Int) = ((crc ps.flatten : Nat) : Int) := by
        have := u32_xor_nat 4294967295 st (by decide) hlt32
        rw [not32 hlt32, HS.out] at this
        exact this
      clear hend
      go_wp2
      go_ret
      exact ⟨rfl, rfl⟩
    | succ m =>
      have hjl : j < ps.length := by omega
      have hlt : (j : Int) < (ps.length : Int) := by omega
      have hb0 : (0 : Int) ≤ (j : Int) := by omega
      obtain ⟨q, hq⟩ : ∃ q, ps[j]? = some q := ⟨ps[j], by simp [hjl]⟩
      obtain ⟨u, k1, ao2, cap2, g2, off2, rfl, hq2, hq3, hq4, hq5, -⟩ := H3.out j q hq
      have hao : ao = some ⟨g, off, none⟩ := H2.out (by omega)
      subst hao
      have HQ := hide hq
      have HQ2 := hide hq2
      have HQ3 := hide hq3
      have HQ4 := hide hq4
      have HQ5 := hide hq5
      have HS := hide hs
      have HNj : Hid ((j : Int) + 1 < 140737488355328 + 1) := by have := HN.out; show _ < _; omega
      clear hq hq2 hq3 hq4 hq5
      generalize hst0 : crcFrom 4294967295 (ps.take j).flatten = st0 at hs hlt32
      have HST := hide hst0
      subst hs
      clear hst0
      go_wp2
      go_loopg [3, 16] q.length (fun k s i wr2 => wr2 = wr ∧ ∃ l, l + k = q.length ∧ i = .int .i64 (l : Int) ∧ s = .int .u32 (crcFrom st0 (q.take l) : Nat) ∧ crcFrom st0 (q.take l) < 4294967296)
      case atStart => exact ⟨rfl, 0, by omega, rfl, rfl, hlt32⟩
      case round =>
        obtain ⟨rfl, l, hl, rfl, hs2, hlt2⟩ := hrel
        cases gk with
        | zero =>
          have hnl2 : ¬ (l : Int) < (q.length : Int) := by omega
          have hend : q.take l = q := List.take_of_length_le (by omega)
          rw [hend] at hs2 hlt2
          subst hs2
          have hjj := HNj.out
          go_wp2
          go_roundg m
          case measure => omega
          case rel =>
            have e : crcFrom st0 q = crcFrom 4294967295 (ps.take (j + 1)).flatten := by
              rw [take_snoc HQ.out, List.flatten_append, crcFrom_append, HST.out]; simp
            exact ⟨rfl, j + 1, by omega, by go_num, by rw [e], by rw [← e]; exact hlt2⟩
        | succ m2 =>
          have hll : l < q.length := by omega
          have hlt3 : (l : Int) < (q.length : Int) := by omega
          have hb1 : (0 : Int) ≤ (l : Int) := by omega
          obtain ⟨b, hb⟩ : ∃ b, q[l]? = some b := ⟨q[l], by simp [hll]⟩
          have k2 := HQ3.out l b hb
          have hao2 : ao2 = some ⟨g2, off2, none⟩ := HQ2.out (by omega)
          subst hao2
          have hb256 : b < 256 := HQ4.out b (List.mem_of_getElem? hb)
          have HB := hide hb
          have hl63 : (l : Int) + 1 < 140737488355328 + 1 := by have := HQ5.out; omega
          generalize hst : crcFrom st0 (q.take l) = st at hs2 hlt2
          have HST2 := hide hst
          subst hs2
          clear hst hb
          have e0 : IntKind.u32.wrap (b : Int) = (b : Int) := by rw [IntKind.wrap_u32']; omega
          have e1 := u32_xor_nat st b hlt2 (by omega)
          have hx1 : st ^^^ b < 4294967296 := xor_lt32 hlt2 (by omega)
          have HX : Hid (nib (nib (st ^^^ b)) = stepB st b) := stepB_nib st b
          generalize st ^^^ b = x1 at e1 hx1 HX
          obtain ⟨n1, d1, t1, e2, e3, e4, hn1, e5, hx2, HN1⟩ := nib_facts x1 hx1
          have k3 := HL.out n1 (by omega)
          rw [← e5] at k3
          generalize nib x1 = x2 at e4 hx2 HX
          obtain ⟨n2, d2, t2, f2, f3, f4, hn2, f5, hx3, HN2⟩ := nib_facts x2 hx2
          have k4 := HL.out n2 (by omega)
          rw [← f5] at k4
          rw [HX.out] at f4 hx3
          have HX3 := hide hx3
          clear hx1 hx2 hx3 hlt2 hlt32 hlt hjl hj hll e5 f5
          go_wp2
          go_roundg m2
          case measure => omega
          case rel =>
            have e : stepB st b = crcFrom st0 (q.take (l + 1)) := by rw [take_snoc HB.out, crcFrom_append, HST2.out]; rfl
            exact ⟨rfl, l + 1, by omega, by go_num, by rw [e], by rw [← e]; exact HX3.out⟩
end Go.Proofs.YtlgmfiboekmhkabDoor
