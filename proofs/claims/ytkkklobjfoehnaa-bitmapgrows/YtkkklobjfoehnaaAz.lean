/- append(s, make([]T, n)...): so many noughts behind a slice of one's own. -/
import Derived.Test.YtkkklobjfoehnaaSl
import Derived.Lib.AppendZeros
namespace Go.Proofs.Ytkkklobjfoehnaa
open Go.RowKit Go.Extern

theorem zeroCells_one (z : Value) (n : Nat) : Builtin.zeroCells #[z] n = (List.replicate n z).toArray := by
  apply Array.toList_inj.1
  apply List.ext_getElem
  · simp [Builtin.zeroCells]
  · intro i h1 h2
    have e : i % 1 = 0 := Nat.mod_one i
    simp [Builtin.zeroCells, e]
section
variable {P : Program} (w : World) {t ts tn ty : TypeId} {i0 : TypeInfo} {z : Value} {kn : IntKind}
theorem run_zeros_none (ht : P.underlying ts = some (.slice t)) (htn : P.underlying tn = some (.int kn)) (hi : P.info? t = some i0) (base : Option Addr) (n cap : Nat) (hc : n ≤ cap) :
    (Builtin.append_ #[ts, tn] ty #[.slice base n cap, .int .i64 0]).run P w = .ok (.slice base n cap) w := by
  have hw : IntKind.i64.wrap 0 = 0 := by decide
  cases base with
  | none => simp [Builtin.append_, run_underlying ht, run_underlying htn, sizeOf, typeInfo, hi, asInt, asIntOf, hw, hc]
  | some a => simp [Builtin.append_, run_underlying ht, run_underlying htn, sizeOf, typeInfo, hi, asInt, asIntOf, hw, hc, storeCells]
theorem run_zeros_room (ht : P.underlying ts = some (.slice t)) (htn : P.underlying tn = some (.int kn)) (hi : P.info? t = some i0) (hz : i0.zero = some z) (hs : i0.size = 1) (hzc : z.cells = #[z]) (hz1 : z.oneCell' = true)
    (g n cap : Nat) (cur : Array Value) (hg : w.heap[g]? = some (.cells cur t (0, 0))) (m : Nat) (h0 : 0 < m) (h63 : (m : Int) ≤ 9223372036854775807) (h48 : m * i0.bytes ≤ 281474976710656) (hroom : n + m ≤ cap) (hfit : n + m ≤ cur.size) :
    (Builtin.append_ #[ts, tn] ty #[.slice (some ⟨g, 0, none⟩) n cap, .int .i64 m]).run P w =
      .ok (.slice (some ⟨g, 0, none⟩) (n + m) cap) (w.setRow g (cur.toList.take n ++ List.replicate m z ++ cur.toList.drop (n + m)).toArray) := by
  have hw : IntKind.i64.wrap (m : Int) = m := by rw [IntKind.wrap_i64]; omega
  have h48i : ¬ (281474976710656 < (m : Int) * (i0.bytes : Int)) := by
    rw [← Int.natCast_mul]
    omega
  have hneg : ¬ ((m : Int) < 0) := by omega
  have hn : m ≠ 0 := by omega
  have hst := run_storeCells_at P g n t (List.replicate m z) 0 cur w hg (by simpa using hfit) (fun u hu => by rw [(List.mem_replicate.1 hu).2]; exact hz1)
  simp only [Nat.add_zero, List.length_replicate] at hst
  simp [Builtin.append_, run_underlying ht, run_underlying htn, sizeOf, typeInfo, zeroValue, hi, hz, asInt, asIntOf, hw, hn, hneg, h48i, hs, hroom, hzc, zeroCells_one, Addr.add_lit, hst]
theorem run_zeros_grow (ht : P.underlying ts = some (.slice t)) (htn : P.underlying tn = some (.int kn)) (hi : P.info? t = some i0) (hz : i0.zero = some z) (hs : i0.size = 1) (hzc : z.cells = #[z])
    (b : Addr) (n cap : Nat) (olds : List Value) (hlo : olds.length = n) (holds : ∀ j v, olds[j]? = some v → w.cell? (b.add j) = some v) (m : Nat) (h0 : 0 < m) (h48 : m * i0.bytes ≤ 281474976710656)
    (hg : cap < n + m) (h63 : ((n + m : Nat) : Int) ≤ 9223372036854775807) (hfit : Builtin.nextslicecap (n + m) cap * i0.bytes ≤ 281474976710656) :
    (Builtin.append_ #[ts, tn] ty #[.slice (some b) n cap, .int .i64 m]).run P w =
      .ok (.slice (some ⟨w.heap.size, 0, none⟩) (n + m) (grownCap w (n + m) cap t)) (w.drew.alloc (.cells (olds.toArray ++ (List.replicate m z).toArray ++ Builtin.zeroCells z.cells (grownCap w (n + m) cap t - (n + m))) t)) := by
  have hw : IntKind.i64.wrap (m : Int) = m := by rw [IntKind.wrap_i64]; omega
  have h48i : ¬ (281474976710656 < (m : Int) * (i0.bytes : Int)) := by
    rw [← Int.natCast_mul]
    omega
  have hneg : ¬ ((m : Int) < 0) := by omega
  have hn0 : m ≠ 0 := by omega
  have hn : ¬ (n + m ≤ cap) := by omega
  have h63' : ¬ (9223372036854775807 < ((n : Int) + (m : Int))) := by omega
  have h48' : ¬ (281474976710656 < Builtin.nextslicecap (n + m) cap * i0.bytes) := by omega
  have hfo := run_firstCells_some (P := P) w.drew i0.size n b n cap olds (by rw [hs]; omega) (by simpa using holds)
  rw [hs] at hfo
  simp [Builtin.append_, run_underlying ht, run_underlying htn, sizeOf, typeInfo, zeroValue, hi, hz, asInt, asIntOf, hw, hn0, hneg, h48i, hs, hn, h63', h48', Question.forced, hfo, hzc, zeroCells_one, newRow, grownCap]
theorem append_zeros {by_ : Nat} (ht : P.underlying ts = some (.slice t)) (htn : P.underlying tn = some (.int kn)) (hi : P.info? t = some i0) (hz : i0.zero = some z) (hs : i0.size = 1) (hby : i0.bytes = by_) (hzc : z.cells = #[z]) (hz1 : z.oneCell' = true) (hb8 : by_ ≤ 8)
    (base : Nat) (v : Value) (xs : List Value) (hown : w.ownsRow base t 1 v xs.length xs) (m : Nat) (hn : xs.length + m ≤ 10000000) (hbase : base ≤ w.heap.size) :
    ∃ v' w', (Builtin.append_ #[ts, tn] ty #[v, .int .i64 (m : Int)]).run P w = .ok v' w' ∧ Grew t w v base w' v' (xs ++ List.replicate m z) := by
  have h48 : m * i0.bytes ≤ 281474976710656 := by
    rw [hby]
    have : m * by_ ≤ 10000000 * 8 := Nat.mul_le_mul (by omega) hb8
    omega
  by_cases hm : m = 0
  · subst hm
    obtain ⟨ao, cap, rfl⟩ := ownsRow_form hown
    have hc : xs.length ≤ cap := by
      rcases hown.2 with ⟨he, h0⟩ | ⟨g, cap', cur, he, -, -, h, -⟩
      · omega
      · simp only [Value.slice.injEq] at he; omega
    refine ⟨_, w, run_zeros_none w ht htn hi ao xs.length cap hc, ⟨by simpa using hown, grownBy_refl _ _, .inl rfl⟩⟩
  · have grown : ∀ (old : Nat), old < xs.length + m → ∀ (row : Option Nat),
        (w.drew.alloc (.cells (xs.toArray ++ (List.replicate m z).toArray ++ Builtin.zeroCells z.cells (grownCap w (xs.length + m) old t - (xs.length + m))) t)).ownsRow base t 1
          (.slice (some ⟨w.heap.size, 0, none⟩) (xs.length + m) (grownCap w (xs.length + m) old t)) (xs ++ List.replicate m z).length (xs ++ List.replicate m z) ∧
        w.grownBy (w.drew.alloc (.cells (xs.toArray ++ (List.replicate m z).toArray ++ Builtin.zeroCells z.cells (grownCap w (xs.length + m) old t - (xs.length + m))) t)) row := by
      intro old ho row
      have hge := grownCap_ge w (xs.length + m) old t
      have hcm : grownCap w (xs.length + m) old t ≤ maxLen := grownCap_le_maxLen w (xs.length + m) old t (by unfold maxLen; omega)
      refine ⟨⟨by simp, .inr ⟨w.heap.size, _, _, by simp, hbase, heap_alloc_new w.drew _, by simpa using hge, hcm, ?_, ?_⟩⟩, ⟨rfl, rfl, rfl, by simp, fun k hk _ => heap_alloc_old w.drew _ hk⟩⟩
      · simp only [hzc, Array.size_append, List.size_toArray, List.length_replicate, size_zeroCells]
        simp
        omega
      · simp only [Array.toList_append, Nat.mul_one]
        exact List.take_left
    rcases hown.2 with ⟨rfl, h0⟩ | ⟨g, cap, cur, rfl, hbg, hg, hnc, hcm, hcs, htake⟩
    · have hx : xs = [] := List.eq_nil_of_length_eq_zero h0
      subst hx
      have hr := Lib.run_append_nil_zeros (P := P) w ts tn ty t i0 z .i64 kn ht htn hi hz m (by omega) (by omega) (by omega) h48
      have hgr := grown 0 (by simp; omega) (Value.ownBlock (.slice none 0 0))
      simp only [List.length_nil, Nat.zero_add, List.nil_append, Array.empty_append] at hgr ⊢
      rw [hzc, zeroCells_one] at hr
      rw [hzc] at hgr
      exact ⟨_, _, hr, ⟨hgr.1, hgr.2, Or.inr rfl⟩⟩
    · rw [Nat.mul_one] at hcs htake
      by_cases hroom : xs.length + m ≤ cap
      · have hr := run_zeros_room (P := P) w (ty := ty) ht htn hi hz hs hzc hz1 g xs.length cap cur hg m (by omega) (by omega) h48 hroom (by omega)
        refine ⟨_, _, hr, ⟨⟨by simp, .inr ⟨g, cap, _, by simp, hbg, setRow_heap w g cur _ t _ hg, by simpa using hroom, hcm, ?_, ?_⟩⟩, ⟨rfl, rfl, rfl, by simp, fun k _ hk => setRow_other w g k _ (fun e => hk (by simp [Value.ownBlock, e]))⟩, Or.inl rfl⟩⟩
        · simp only [List.size_toArray, List.length_append, List.length_take, List.length_drop, Array.length_toList, List.length_replicate]
          omega
        · rw [htake, Nat.mul_one]
          exact List.take_left
      · have holds : ∀ j u, xs[j]? = some u → w.cell? ((⟨g, 0, none⟩ : Addr).add j) = some u := hown.cells (g := g) rfl
        have hb2 : (xs.length + m) * i0.bytes ≤ 140737488355328 := by
          rw [hby]
          have : (xs.length + m) * by_ ≤ 10000000 * 8 := Nat.mul_le_mul hn hb8
          omega
        have hr := run_zeros_grow (P := P) w (ty := ty) ht htn hi hz hs hzc ⟨g, 0, none⟩ xs.length cap xs rfl holds m (by omega) h48 (by omega) (by omega) (growslice_fits (by omega) hb2)
        have hgr := grown cap (by omega) (Value.ownBlock (.slice (some ⟨g, 0, none⟩) xs.length cap))
        exact ⟨_, _, hr, ⟨hgr.1, hgr.2, Or.inr rfl⟩⟩
end
end Go.Proofs.Ytkkklobjfoehnaa
