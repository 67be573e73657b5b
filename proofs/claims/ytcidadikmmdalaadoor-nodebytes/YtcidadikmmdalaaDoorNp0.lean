/- The node that stands in a sector. -/
import Derived.Test.YtcidadikmmdalaaDoorNb0
import Derived.Test.YtcidadikmmdalaaDoorFM04
import Derived.Test.YtcidadikmmdalaaDoorFM05
import Derived.Test.YtcidadikmmdalaaDoorRi
namespace Go.Proofs.YtcidadikmmdalaaDoor
open Go.RowKit Go.Extern

/-- The pair that is read at a place. -/
def GotAt (b : List Nat) (i : Nat) (p : En) : Prop :=
  Fr.readOk (b.drop (2 + 16 * i)) 8 = true ∧ p.1 = (Fr.rdN (b.drop (2 + 16 * i)) 8 : Nat) ∧ Fr.readOk (b.drop (10 + 16 * i)) 8 = true ∧ p.2 = (Fr.rdN (b.drop (10 + 16 * i)) 8 : Nat)
def PreG (b : List Nat) (l : List En) : Prop := ∀ i p, l[i]? = some p → GotAt b i p
theorem PreG.nil (b : List Nat) : PreG b [] := fun i p h => by simp at h
theorem PreG.snoc {b : List Nat} {l : List En} {p : En} (h : PreG b l) (hp : GotAt b l.length p) : PreG b (l ++ [p]) := fun i q hq => by
  rcases Nat.lt_trichotomy i l.length with hi | hi | hi
  · rw [List.getElem?_append_left hi] at hq; exact h i q hq
  · subst hi; simp at hq; subst hq; exact hp
  · rw [List.getElem?_eq_none (by simp; omega)] at hq; cases hq
/-- The right node 'L', 'l' stands in the sector 's'. -/
structure IsNode (s : List Nat) (L : Int) (l : List En) : Prop where
  err : Fr.gErr 2 s = 0
  len : (Fr.gPay 2 s).length = 2 + 16 * l.length
  lev : L = ((Fr.gPay 2 s).getD 0 0 : Nat)
  cnt : (Fr.gPay 2 s).getD 1 0 = l.length
  pre : PreG (Fr.gPay 2 s) l
  right : Rt L (l.map Prod.fst) (l.map Prod.snd)
theorem IsNode.unique {s : List Nat} {L M : Int} {l m : List En} (h : IsNode s L l) (k : IsNode s M m) : L = M ∧ l = m := by
  refine ⟨h.lev.trans k.lev.symm, ?_⟩
  have hl : l.length = m.length := h.cnt.symm.trans k.cnt
  apply List.ext_getElem? 
  intro i
  rcases Nat.lt_or_ge i l.length with hi | hi
  · have h1 := h.pre i l[i] (by rw [List.getElem?_eq_getElem])
    have h2 := k.pre i (m[i]'(by omega)) (by rw [List.getElem?_eq_getElem])
    rw [List.getElem?_eq_getElem hi, List.getElem?_eq_getElem (by omega)]
    congr 1
    exact Prod.ext (h1.2.1.trans h2.2.1.symm) (h1.2.2.2.trans h2.2.2.2.symm)
  · rw [List.getElem?_eq_none hi, List.getElem?_eq_none (by omega)]
theorem isnode_read {s b : List Nat} {L : Int} {l : List En} (h : IsNode s L l) (hb : Fr.gPay 2 s = b) {j : Nat} (hj : j < b.getD 1 0) : Fr.readOk (b.drop (2 + 16 * j)) 8 = true ∧ Fr.readOk (b.drop (10 + 16 * j)) 8 = true := by
  subst hb
  have hc := h.cnt
  have h1 := h.pre j (l[j]'(by omega)) (by rw [List.getElem?_eq_getElem])
  exact ⟨h1.1, h1.2.2.1⟩
theorem rdN_i64 (bs : List Nat) : I64 (Fr.rdN bs 8 : Nat) := by
  unfold Fr.rdN
  split
  · rename_i h
    have := (of_decide_eq_true h).2
    have h8 : Fr.great 8 = 4611686018427387903 := rfl
    rw [h8] at this
    unfold I64; omega
  · unfold I64; omega
theorem ret_rnode2 {fn : Func} {R : Ending → World → Prop} {a : Act} {w : World} {p u : Tmp} (h : fn.results = #[.cell p 24, .tmp u]) (g : Nat) (x y z : Value) (hp : a.tmps.getD p undef = .pointer (some ⟨g, 0, none⟩))
    (hg : w.heap[g]? = some (.cells #[x, y, z] 24 (0, 0))) (hd : a.defers = []) (hR : R (.returned (.tuple #[.agg #[x, y, z], a.tmps.getD u undef])) w) : bodyPost Tryd.prog fn R .ret a w :=
  bodyPost_ret (res_two h a.tmps w g 24 #[x, y, z] (0, 0) _ hp hg Tryd.underlying24 rfl infoRN) hd hR
/-- What the document's Parse leaves. -/
def RParsed (s : List Nat) (w : World) (e : Ending) (w' : World) : Prop := Below w.heap.size w w' ∧
  ((∃ L l kv vv, IsNode s L l ∧ e = .returned (.tuple #[.agg #[.int .i64 L, kv, vv], .bool true]) ∧ Ints w' kv (l.map Prod.fst) ∧ Ints w' vv (l.map Prod.snd)) ∨
   ((∀ L l, ¬ IsNode s L l) ∧ ∃ L a n c a2 n2 c2, e = .returned (.tuple #[.agg #[.int .i64 L, .slice a n c, .slice a2 n2 c2], .bool false])))
/-- What Parse leaves. -/
def NParsed (s : List Nat) (w : World) (e : Ending) (w' : World) : Prop := Below w.heap.size w w' ∧
  ((∃ L l kv vv, IsNode s L l ∧ e = .returned (.tuple #[.agg #[.int .i64 L, kv, vv], .nilIface]) ∧ Ints w' kv (l.map Prod.fst) ∧ Ints w' vv (l.map Prod.snd)) ∨
   ((∀ L l, ¬ IsNode s L l) ∧ e = .returned (.tuple #[.agg #[.int .i64 0, .slice none 0 0, .slice none 0 0], errV 70])))
end Go.Proofs.YtcidadikmmdalaaDoor
