/- A table that a law has made, and blocks of the law's own; 'in', 'ints'. -/
import Derived.Test.YtjofbehmhdjohaaDl
import Derived.Test.YtjofbehmhdjohaaAw
namespace Go.Proofs.Ytjofbehmhdjohaa
open Go.RowKit Go.Extern

/-- In the world 'wr' the law's table stands at 'b'; the blocks of 'K' are the law's own. -/
def St (w : World) (K : Nat → Prop) (b : Nat) (E : List En) (last : Int) (wr : World) : Prop :=
  ∃ F, Tb wr F b E last ∧ (∀ k, F k → w.heap.size ≤ k) ∧ (∀ k, F k → ¬ K k) ∧ (∀ k, K k → k < wr.heap.size) ∧ Below w.heap.size w wr
abbrev noK : Nat → Prop := fun _ => False
/-- The blocks of 'K' are as they were. -/
def Kept (K : Nat → Prop) (w w' : World) : Prop := ∀ k o, K k → w.heap[k]? = some o → w'.heap[k]? = some o
theorem Kept.below {K : Nat → Prop} {w w' : World} (h : Below w.heap.size w w') : Kept K w w' := fun _ _ _ ho => blk_below h ho
theorem Kept.trans {K : Nat → Prop} {w w1 w2 : World} (h : Kept K w w1) (h2 : Kept K w1 w2) : Kept K w w2 := fun k o hk ho => h2 k o hk (h k o hk ho)
section
variable {w wr wr' : World} {K : Nat → Prop} {b : Nat} {E : List En} {last : Int}
theorem St.below (h : St w K b E last wr) (hb : Below wr.heap.size wr wr') : St w K b E last wr' := by
  obtain ⟨F, h1, h2, h3, h4, h5⟩ := h
  exact ⟨F, h1.below hb, h2, h3, fun k hk => Nat.lt_of_lt_of_le (h4 k hk) hb.size, nextB h5 hb⟩
theorem St.bel (h : St w K b E last wr) : Below w.heap.size w wr := by obtain ⟨F, h1, h2, h3, h4, h5⟩ := h; exact h5
theorem St.tb (h : St w K b E last wr) : ∃ F, Tb wr F b E last := by obtain ⟨F, h1, -⟩ := h; exact ⟨F, h1⟩
theorem St.up (h : St w K b E last wr) : Up (E.map En.num) := by obtain ⟨F, h1, -⟩ := h; exact h1.up
theorem St.num (h : St w K b E last wr) : ∀ e ∈ E, 1 ≤ e.num ∧ e.num ≤ last := by obtain ⟨F, h1, -⟩ := h; exact h1.num
theorem St.short (h : St w K b E last wr) : (E.length : Int) ≤ last := by obtain ⟨F, h1, -⟩ := h; exact h1.short
theorem St.size (h : St w K b E last wr) : w.heap.size ≤ wr.heap.size := h.bel.size
theorem St.notb (h : St w K b E last wr) {k : Nat} (hk : K k) : k ≠ b := by
  obtain ⟨F, h1, h2, h3, h4, h5⟩ := h; exact fun e => h3 b h1.fb (by rw [← e]; exact hk)
theorem St.bge (h : St w K b E last wr) : w.heap.size ≤ b := by obtain ⟨F, h1, h2, h3, h4, h5⟩ := h; exact h2 b h1.fb
theorem St.blt (h : St w K b E last wr) : b < wr.heap.size := by obtain ⟨F, h1, h2, h3, h4, h5⟩ := h; exact h1.flt b h1.fb
/-- What the law does to its own blocks, and what it makes, leaves the table. -/
theorem St.mine (h : St w K b E last wr) {K' : Nat → Prop} (ht : Turn K wr wr') (hge : ∀ k, K k → w.heap.size ≤ k) (hK' : ∀ k, K' k → (K k ∨ wr.heap.size ≤ k) ∧ k < wr'.heap.size) : St w K' b E last wr' := by
  obtain ⟨F, h1, h2, h3, h4, h5⟩ := h
  refine ⟨F, h1.keep ht.size fun k hk => ht.block k (h1.flt k hk) (h3 k hk), h2, fun k hk hk' => ?_, fun k hk => (hK' k hk).2, h5.trans (ht.below h5.size hge)⟩
  rcases (hK' k hk').1 with e | e
  · exact h3 k hk e
  · have := h1.flt k hk; omega
theorem St.new (w : World) : Calls Try.prog 12 #[] w (fun e w' => ∃ b, e = .returned (.pointer (some ⟨b, 0, none⟩)) ∧ St w noK b [] 0 w') := by
  refine (new_any w).mono ?_
  rintro e w' ⟨rfl, h1, h2⟩
  exact ⟨_, rfl, _, h1, fun k hk => by omega, fun k _ h => h, fun k h => h.elim, h2⟩
theorem St.put (h : St w K b E last wr) {F : Nat → Prop} (hF : Tb wr F b E last) (h2 : ∀ k, F k → w.heap.size ≤ k) (h3 : ∀ k, F k → ¬ K k) {E' : List En} {last' : Int} (hT : Tb wr' (ext F wr wr') b E' last') (ht : Turn F wr wr') : St w K b E' last' wr' ∧ Kept K wr wr' := by
  obtain ⟨-, -, -, -, h4, h5⟩ := h
  have _ := hF
  refine ⟨⟨_, hT, fun k hk => ?_, fun k hk hk' => ?_, fun k hk => Nat.lt_of_lt_of_le (h4 k hk) ht.size, h5.trans (ht.below h5.size h2)⟩, fun k o hk ho => ?_⟩
  · rcases hk with hk | hk
    · exact h2 k hk
    · have := h5.size; omega
  · rcases hk with hk | hk
    · exact h3 k hk hk'
    · have := h4 k hk'; omega
  · rw [ht.block k (heap_lt ho) (fun e => h3 k e hk)]; exact ho
theorem St.add (h : St w K b E last wr) {Z : Nat → Prop} {v : Value} {l : List S} (hv : Sps wr Z v l) (hr : l.all rightB = true) (hl : l.length ≤ 1000) (hlast : last + 1 ≤ 900) (hZ : ∀ k, k < wr.heap.size → Z k → k ≠ b) :
    Calls Try.prog 14 #[.pointer (some ⟨b, 0, none⟩), v] wr (fun e w' => ∃ x : En, e = .returned (.tuple #[.int .i64 (last + 1), .nilIface]) ∧ x.num = last + 1 ∧ x.sps = l ∧ St w K b (E ++ [x]) (last + 1) w' ∧ Kept K wr w') := by
  have h0 := h
  obtain ⟨F, h1, h2, h3, h4, h5⟩ := h
  refine (add_ok h1 hv hr hl hlast hZ).mono ?_
  rintro e w' ⟨x, rfl, e1, e2, hT, ht⟩
  exact ⟨x, rfl, e1, e2, h0.put h1 h2 h3 hT ht⟩
theorem St.add1 (h : St w K b E last wr) {s : S} (hs : sOk s) (hr : rightB s = true) (hlast : last + 1 ≤ 900) :
    Calls Try.prog 14 #[.pointer (some ⟨b, 0, none⟩), .slice (some ⟨wr.heap.size, 0, none⟩) 1 1] (wr.alloc (.cells #[.int .i64 s.vol, .int .i64 s.frm, .int .i64 s.len, .bool s.wr] 24)) (fun e w' =>
      ∃ x : En, e = .returned (.tuple #[.int .i64 (last + 1), .nilIface]) ∧ x.num = last + 1 ∧ x.sps = [s] ∧ St w K b (E ++ [x]) (last + 1) w' ∧ Kept K wr w') := by
  have h0 := h
  obtain ⟨F, h1, h2, h3, h4, h5⟩ := h
  refine (add_one h1 hs hr hlast).mono ?_
  rintro e w' ⟨x, rfl, e1, e2, hT, ht⟩
  exact ⟨x, rfl, e1, e2, h0.put h1 h2 h3 hT ht⟩
theorem St.done (h : St w K b E last wr) (k : Int) : Calls Try.prog 18 #[.pointer (some ⟨b, 0, none⟩), .int .i64 k] wr (fun e w' =>
    (e = .returned (errV 130) ∧ (∀ x ∈ E, x.num ≠ k) ∧ St w K b E last w' ∧ Kept K wr w') ∨
    (∃ p x, e = .returned (errV 131) ∧ E[p]? = some x ∧ x.num = k ∧ freeB E x p = false ∧ St w K b E last w' ∧ Kept K wr w') ∨
    (∃ p x, e = .returned (errV 0) ∧ E[p]? = some x ∧ x.num = k ∧ freeB E x p = true ∧ St w K b (E.take p ++ E.drop (p + 1)) last w' ∧ Kept K wr w')) := by
  have h0 := h
  obtain ⟨F, h1, h2, h3, h4, h5⟩ := h
  refine (done_any h1 k).mono ?_
  rintro e w' (⟨rfl, hn, hb⟩ | ⟨p, x, rfl, e1, e2, e3, hb⟩ | ⟨p, x, rfl, e1, e2, e3, hT, ht⟩)
  · exact .inl ⟨rfl, hn, h0.below hb, Kept.below hb⟩
  · exact .inr (.inl ⟨p, x, rfl, e1, e2, e3, h0.below hb, Kept.below hb⟩)
  · refine .inr (.inr ⟨p, x, rfl, e1, e2, e3, h0.put h1 h2 h3 (hT.refit (fun k hk => .inl hk) (fun k hk => ?_)) ht⟩)
    rcases hk with hk | hk
    · have := h1.flt k hk; have := ht.size; omega
    · exact hk.2
theorem St.add1m (h : St w K b E last wr) {s : S} (hs : sOk s) (hr : rightB s = true) (hlast : last + 1 ≤ 900) {m : Nat} (hm : m = wr.heap.size) :
    Calls Try.prog 14 #[.pointer (some ⟨b, 0, none⟩), .slice (some ⟨m, 0, none⟩) 1 1] (wr.alloc (.cells #[.int .i64 s.vol, .int .i64 s.frm, .int .i64 s.len, .bool s.wr] 24)) (fun e w' =>
      ∃ x : En, e = .returned (.tuple #[.int .i64 (last + 1), .nilIface]) ∧ x.num = last + 1 ∧ x.sps = [s] ∧ St w K b (E ++ [x]) (last + 1) w' ∧ Kept K wr w') := by
  subst hm; exact h.add1 hs hr hlast
end
theorem add_one_badm (w : World) {b : Nat} {s : S} (hs : sOk s) (hr : rightB s = false) {m : Nat} (hm : m = w.heap.size) :
    Calls Try.prog 14 #[.pointer (some ⟨b, 0, none⟩), .slice (some ⟨m, 0, none⟩) 1 1] (w.alloc (.cells #[.int .i64 s.vol, .int .i64 s.frm, .int .i64 s.len, .bool s.wr] 24)) (fun e w' =>
      e = .returned (.tuple #[.int .i64 0, .iface 66 (.int .i64 20)]) ∧ Below w.heap.size w w') := by
  subst hm; exact add_one_bad hs hr
/-- An entry that may go ahead, and is the only one with its number. -/
theorem at_num {E : List En} (hu : Up (E.map En.num)) {p q : Nat} {x y : En} (hx : E[p]? = some x) (hy : E[q]? = some y) (e : x.num = y.num) : p = q ∧ x = y := by
  have h := hu.inj (num_at hx) (by rw [e]; exact num_at hy)
  subst h
  rw [hx] at hy
  exact ⟨rfl, Option.some.inj hy⟩
set_option maxRecDepth 100000 in
set_option maxHeartbeats 1000000 in
theorem in_any {w : World} {v : Value} {l : List Int} (hv : Ints w v l) (k : Int) : Calls Try.prog 28 #[v, .int .i64 k] w fun e w' => e = .returned (.bool (decide (k ∈ l))) ∧ w' = w := by
  have hlen := hv.len
  obtain ⟨ao, cap, g, off, rfl, h2, h3⟩ := hv.at_
  have H2 := hide h2
  have H3 := hide h3
  obtain ⟨n, hn⟩ : ∃ n, l.length = n := ⟨_, rfl⟩
  rw [hn] at hlen ⊢
  have HN := hide hn
  clear h2 h3 hn hv
  go_enter Try.func28, Try.ntmps28
  go_wp2_with fail
  go_loopg [9] n (fun t i wr => ∃ j : Nat, j + t = n ∧ i = .int .i64 (j : Int) ∧ Hid (k ∉ l.take j) ∧ w = wr)
  case atStart => exact ⟨0, by omega, rfl, hide (by simp), rfl⟩
  case round =>
    obtain ⟨j, hj, rfl, HA, rfl⟩ := hrel
    cases gk with
    | zero =>
      have hnl : ¬ (j : Int) < (n : Int) := by omega
      have hend : l.take j = l := List.take_of_length_le (by rw [HN.out]; omega)
      rw [hend] at HA
      clear hend
      go_wp2_with fail
      go_ret
      exact ⟨by rw [decide_eq_false HA.out]; rfl, rfl⟩
    | succ m =>
      have hlt : (j : Int) < (n : Int) := by omega
      have hb0 : (0 : Int) ≤ (j : Int) := by omega
      obtain ⟨p, he⟩ : ∃ e, l[j]? = some e := ⟨l[j]'(by rw [HN.out]; omega), by rw [List.getElem?_eq_getElem]⟩
      obtain rfl := H2.out (by rw [HN.out]; omega)
      have k0 := H3.out j p he
      have HT := hide (take_snoc he)
      have hj63 : (j : Int) + 1 < 140737488355328 + 1 := by omega
      clear he
      by_cases hc : p = k
      · have e1 : (p == k) = true := by simp [hc]
        have HC := hide hc
        clear hc
        go_wp2_with fail
        go_ret
        exact ⟨by rw [decide_eq_true (List.mem_of_mem_take (by rw [HT.out, HC.out]; simp))]; rfl, rfl⟩
      · have e1 : (p == k) = false := by simp [hc]
        have HC := hide hc
        clear hc
        go_wp2_with fail
        go_roundg m
        case measure => omega
        case rel => exact ⟨j + 1, by omega, by simp, hide (by rw [HT.out]; simp; exact ⟨HA.out, fun e => HC.out e.symm⟩), rfl⟩
end Go.Proofs.Ytjofbehmhdjohaa
