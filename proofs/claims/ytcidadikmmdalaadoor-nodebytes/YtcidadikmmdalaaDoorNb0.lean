/- A node's payload; numbers for a packer. -/
import Derived.Test.YtcidadikmmdalaaDoorFM03
import Derived.Test.YtcidadikmmdalaaDoorFM04
import Derived.Test.YtcidadikmmdalaaDoorDr
namespace Go.Proofs.YtcidadikmmdalaaDoor
open Go.RowKit Go.Extern

/-- The bytes of pairs. -/
def payE (l : List En) : List Nat := l.flatMap fun p => Fr.bytesOf 8 [p.1, p.2]
theorem payE_nil : payE [] = [] := rfl
theorem payE_snoc (l : List En) (p : En) : payE (l ++ [p]) = payE l ++ Fr.bytesOf 8 [p.1, p.2] := by simp [payE]
theorem payE_length : ∀ l : List En, (payE l).length = 16 * l.length
  | [] => rfl
  | p :: l => by
    rw [show payE (p :: l) = Fr.bytesOf 8 [p.1, p.2] ++ payE l from rfl, List.length_append, Fr.bytesOf_length, payE_length l]; simp; omega
/-- The bytes of a node. -/
def payB (L : Int) (l : List En) : List Nat := Fr.bytesOf 1 [L, (l.length : Int)] ++ payE l
theorem payB_length (L : Int) (l : List En) : (payB L l).length = 2 + 16 * l.length := by
  unfold payB; rw [List.length_append, Fr.bytesOf_length, payE_length]; simp
theorem lit2 (w : World) (a b : Int) : (Instr.buildSlice 22 2 #[(0, .int .i64 a), (1, .int .i64 b)]).run Tryd.prog w = .ok (.slice (some ⟨w.heap.size, 0, none⟩) 2 2) (w.alloc (.cells #[.int .i64 a, .int .i64 b] 3)) := by kernel_rfl
theorem ints2 (w : World) {a b : Int} (ha : I64 a) (hb : I64 b) : Fr.Ints (w.alloc (.cells #[.int .i64 a, .int .i64 b] 3)) (.slice (some ⟨w.heap.size, 0, none⟩) 2 2) [a, b] := by
  have hh := heap_alloc_new w (.cells #[.int .i64 a, .int .i64 b] 3)
  refine ⟨_, 2, w.heap.size, 0, rfl, fun _ => rfl, fun i n hn => ?_, ?_, by simp⟩
  · have := row_cell hh (0 + i)
    rw [this]
    match i, hn with
    | 0, hn => simp at hn; simp [hn]
    | 1, hn => simp at hn; simp [hn]
  · intro n hn
    rcases List.mem_cons.1 hn with rfl | hn
    · exact ha
    · rw [List.mem_singleton.1 hn]; exact hb
theorem fit1 {L : Int} (h : 0 ≤ L ∧ L ≤ 20) {n : Nat} (hn : n ≤ 7) : ([L, (n : Int)].all (Fr.fitB · 1)) = true := by
  simp [Fr.fitB, Fr.great]; omega
theorem fit8 {a b : Int} (ha : 0 ≤ a ∧ a ≤ 1099511627776) (hb : 1 ≤ b ∧ b ≤ 2305843009213693952) : ([a, b].all (Fr.fitB · 8)) = true := by
  simp [Fr.fitB, Fr.great]; omega
theorem enterNewPacker (args : Array Value) (w : World) : (callFunc 19 args).run Tryd.prog w = .ok (.enter 19 args) w := by kernel_rfl
theorem enterPByte (args : Array Value) (w : World) : (callFunc 20 args).run Tryd.prog w = .ok (.enter 20 args) w := by kernel_rfl
theorem enterPLong (args : Array Value) (w : World) : (callFunc 22 args).run Tryd.prog w = .ok (.enter 22 args) w := by kernel_rfl
/-- A packer that a node's bytes go into, beside the pairs. -/
structure NbW (w : World) (base bb g : Nat) (xs : List Nat) (l : List En) (wr : World) : Prop where
  ex : ∃ row, Fr.Pk wr base bb row xs false ∧ row ≠ some g
  row : RowE wr g l
  ne : g ≠ bb
  bel : Below w.heap.size w wr
theorem bytes_frame {kind : Nat} {w : World} {base : Nat} {u : Value} {bs : List Nat} (h : Fr.Own w base u (Fr.frameOf kind bs)) : Fr.Bytes w u (Fr.frameOf kind bs) := h.bytes
end Go.Proofs.YtcidadikmmdalaaDoor
