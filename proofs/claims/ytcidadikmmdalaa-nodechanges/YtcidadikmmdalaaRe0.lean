/- Replace. -/
import Derived.Test.YtcidadikmmdalaaDl
namespace Go.Proofs.Ytcidadikmmdalaa
open Go.RowKit Go.Extern

theorem lay_nil (l : List En) (o : Nat) : lay l o [] = l := by simp [lay]
theorem RowE.ownP {w : World} {g base i n : Nat} {l : List En} (h : RowE w g l) (hb : base ≤ g) (hok : ∀ p ∈ l, enOk p) (hn : l.length = n) (hn2 : n ≤ 1000) (hi : i ≤ n) : OwnE 50 w base (.slice (some ⟨g, 0, none⟩) i n) (l.take i) := by
  have hlen : (l.take i).length = i := by simp; omega
  refine ⟨⟨cellsE_length _, .inr ⟨g, n, (cellsE l).toArray, by rw [hlen], hb, h, by rw [hlen]; exact hi, by unfold maxLen; omega, by simp [cellsE_length, hn], ?_⟩⟩, fun p hp => hok p (List.mem_of_mem_take hp), by omega⟩
  rw [hlen, ← cellsE_take]
theorem lay_drop {l ms : List En} {i j : Nat} (hi : i ≤ l.length) (hj : i + ms.length ≤ j) : (lay l i ms).drop j = l.drop j := by
  unfold lay
  have h1 : (l.take i ++ ms).length = i + ms.length := by simp; omega
  rw [List.drop_append, List.drop_of_length_le (by omega), List.nil_append, h1, List.drop_drop]
  congr 1; omega
theorem run_clear0 {w : World} {a : Addr} {c : Nat} (ty : TypeId) : (Builtin.clear_ #[47] ty #[.slice (some a) 0 c]).run Try.prog w = .ok (.tuple #[]) w := by
  simp [Builtin.clear_, run_underlying Try.underlying47]
theorem SrcE.ents {w : World} {a : Addr} {c cv : Nat} {ms : List En} (h : SrcE w a ms) (hc : ms.length = c) (hc1 : c ≤ 1000) (hcv : c ≤ cv) (hcm : cv ≤ maxLen) (hmo : ∀ p ∈ ms, enOk p) : Ents w (.slice (some a) c cv) ms := by
  subst hc
  rcases Nat.eq_zero_or_pos ms.length with h0 | h0
  · refine ⟨some a, cv, 0, 0, rfl, fun hp => by omega, fun i e he => ?_, hmo, by omega, by simp, hcv, hcm⟩
    have := (List.getElem?_eq_some_iff.1 he).1; omega
  · obtain ⟨b, off, spot⟩ := a
    have hsp : spot = none := by
      obtain ⟨p, hp⟩ : ∃ p, ms[0]? = some p := ⟨ms[0]'(by omega), by rw [List.getElem?_eq_getElem]⟩
      have := h 0 _ (by have := (cellsE_at ms 0 p hp).1; simpa using this)
      exact World.cell?_spot (by simpa [Addr.add] using this)
    subst hsp
    refine ⟨_, cv, b, off, rfl, fun _ => rfl, fun i e he => ?_, hmo, by omega, by simp, hcv, hcm⟩
    obtain ⟨c0, c1⟩ := cellsE_at ms i e he
    have d0 := h _ _ c0
    have d1 := h _ _ c1
    rw [add_plain] at d0 d1
    exact ⟨d0, by rw [Nat.add_assoc]; exact d1⟩
end Go.Proofs.Ytcidadikmmdalaa
