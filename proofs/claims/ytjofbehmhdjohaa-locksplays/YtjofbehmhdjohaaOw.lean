/- The law's own lists beside its table. -/
import Derived.Test.YtjofbehmhdjohaaAp
namespace Go.Proofs.Ytjofbehmhdjohaa
open Go.RowKit Go.Extern

theorem infoRn : (Try.prog.info? 44).map (fun i => (i.zero, i.size, i.bytes)) = some (some (.agg #[.int .i64 0, .slice none 0 0]), 2, 32) := by kernel_rfl
theorem append_rn {w : World} {base : Nat} {v : Value} {l : List En} (ty : TypeId) (hown : OwnK enE 2 44 w base v l) {m : List En} {ad : Addr} {cap : Nat} (hs : SrcK w ad (cellsOf enE m)) (hn : l.length + m.length ≤ 1000) (hbase : base ≤ w.heap.size) :
    ∃ v' w', (Builtin.append_ #[31, 31] ty #[v, .slice (some ad) m.length cap]).run Try.prog w = .ok v' w' ∧ GrewK enE 2 44 w v base w' v' (l ++ m) := by
  obtain ⟨i0, hi, hi2⟩ := Option.map_eq_some_iff.1 infoRn
  simp only [Prod.mk.injEq] at hi2
  exact append_k Try.underlying31 hi hi2.1 hi2.2.1 hi2.2.2 rfl (by omega) (by omega) enE_len enE_one hown hs hn hbase
/-- One entry more, onto a list of one's own. -/
theorem more_rn {wr : World} {B : Nat} {av : Value} {A : List En} (ho : OwnK enE 2 44 wr B av A) (hB : B ≤ wr.heap.size) (x : En) (hl : A.length < 1000) :
    ∃ a n c w', (Builtin.append_ #[31, 31] 31 #[av, .slice (some ⟨wr.heap.size, 0, none⟩) 1 1]).run Try.prog (wr.alloc (.cells #[.int .i64 x.num, .slice x.ao x.n x.cap] 44)) = .ok (.slice a n c) w' ∧ OwnK enE 2 44 w' B (.slice a n c) (A ++ [x]) ∧
      Turn (fun k => av.ownBlock = some k) wr w' ∧ ((Value.slice a n c).ownBlock = av.ownBlock ∨ ∃ j, (Value.slice a n c).ownBlock = some j ∧ wr.heap.size ≤ j) := by
  have hA := bel_alloc wr (.cells #[.int .i64 x.num, .slice x.ao x.n x.cap] 44)
  obtain ⟨v', w', hr, hg⟩ := append_rn (m := [x]) (cap := 1) 31 (ho.below hA) (by have := lit_src wr 44 (enE x); simpa [cellsOf, enE] using this) (by simp; omega) (by simp; omega)
  obtain ⟨a, n, c, rfl, -⟩ := hg.own.form
  refine ⟨a, n, c, w', hr, hg.own, (Turn.of_below hA).trans (Turn.of_grown hg.grown fun k hk => hk) fun _ _ h => h, ?_⟩
  rcases hg.at_ with e | e
  · exact .inl e
  · exact .inr ⟨_, e, by simp⟩
theorem more_turn {wr : World} {o : Value} {l : List Int} {k : Int} {B : Nat} (ho : OwnI wr B o l) (hB : B ≤ wr.heap.size) (hk : I64 k) (hl : l.length ≤ 2000) :
    ∃ a2 n2 c2 w', (Builtin.append_ #[45, 45] 45 #[o, .slice (some ⟨wr.heap.size, 0, none⟩) 1 1]).run Try.prog (wr.alloc (.cells #[.int .i64 k] 3)) = .ok (.slice a2 n2 c2) w' ∧ OwnI w' B (.slice a2 n2 c2) (l ++ [k]) ∧
      Turn (fun k => o.ownBlock = some k) wr w' ∧ ((Value.slice a2 n2 c2).ownBlock = o.ownBlock ∨ ∃ j, (Value.slice a2 n2 c2).ownBlock = some j ∧ wr.heap.size ≤ j) := by
  have hA := bel_alloc wr (.cells #[.int .i64 k] 3)
  obtain ⟨v', w', hr, hg⟩ := append_i (wr.alloc (.cells #[.int .i64 k] 3)) 45 B o _ l [k] (ho.below hA) (ints_lit wr k hk) (by simp; omega) (by simp; omega)
  obtain ⟨a2, n2, c2, rfl, -⟩ := hg.own.form
  refine ⟨a2, n2, c2, w', hr, hg.own, (Turn.of_below hA).trans (Turn.of_grown hg.grown fun k hk => hk) fun _ _ h => h, ?_⟩
  rcases hg.at_ with e | e
  · exact .inl e
  · exact .inr ⟨_, e, by simp⟩
/-- The law's table, its list of entries, its list of numbers. -/
structure EnS (w : World) (b : Nat) (E : List En) (last : Int) (av : Value) (A : List En) (dv : Value) (D : List Int) (wr : World) : Prop where
  st : St w (fun k => av.ownBlock = some k ∨ dv.ownBlock = some k) b E last wr
  al : OwnK enE 2 44 wr w.heap.size av A
  dn : OwnI wr w.heap.size dv D
  ne : ∀ k, av.ownBlock = some k → dv.ownBlock ≠ some k
  asp : ∀ e ∈ A, Sps w anyZ e.sv e.sps
section
variable {w wr w' : World} {b : Nat} {E E' : List En} {last last' : Int} {av dv : Value} {A : List En} {D : List Int}
theorem EnS.start (h : St w noK b E last wr) : EnS w b E last (.slice none 0 0) [] (.slice none 0 0) [] wr :=
  ⟨h.mine (Turn.refl _ _) (fun k h => h.elim) (fun k hk => by simp [Value.ownBlock] at hk), OwnK.nil _ _ _, OwnI.nil _ _, fun k hk => by simp [Value.ownBlock] at hk, by simp⟩
theorem EnS.below (h : EnS w b E last av A dv D wr) (hb : Below wr.heap.size wr w') : EnS w b E last av A dv D w' :=
  ⟨h.st.below hb, h.al.below hb, h.dn.below hb, h.ne, h.asp⟩
/-- Behind a call that changed the table. -/
theorem EnS.table (h : EnS w b E last av A dv D wr) (hs : St w (fun k => av.ownBlock = some k ∨ dv.ownBlock = some k) b E' last' w') (hk : Kept (fun k => av.ownBlock = some k ∨ dv.ownBlock = some k) wr w') : EnS w b E' last' av A dv D w' :=
  ⟨hs, h.al.same fun k o hv ho => hk k o (.inl hv) ho, h.dn.same fun k o hv ho => hk k o (.inr hv) ho, h.ne, h.asp⟩
theorem EnS.bel (h : EnS w b E last av A dv D wr) : Below w.heap.size w wr := h.st.bel
theorem EnS.ens (h : EnS w b E last av A dv D wr) : Ens wr av A := h.al.ens fun e he => (h.asp e he).below h.bel
theorem EnS.push (h : EnS w b E last av A dv D wr) {x : En} (hx : Sps w anyZ x.sv x.sps) (hl : A.length < 1000) :
    ∃ a n c w', (Builtin.append_ #[31, 31] 31 #[av, .slice (some ⟨wr.heap.size, 0, none⟩) 1 1]).run Try.prog (wr.alloc (.cells #[.int .i64 x.num, .slice x.ao x.n x.cap] 44)) = .ok (.slice a n c) w' ∧ EnS w b E last (.slice a n c) (A ++ [x]) dv D w' := by
  obtain ⟨a, n, c, w', hr, ho, ht, hat⟩ := more_rn h.al h.st.size x hl
  have hdl : ∀ k, dv.ownBlock = some k → k < wr.heap.size := fun k hk => (h.dn.lt k hk).2
  refine ⟨a, n, c, w', hr, h.st.mine (ht.trans (Turn.refl _ _) (fun _ _ e => e) |> fun t => ⟨t.os, t.tape, t.output, t.size, fun k hk hn => t.block k hk (fun e => hn (.inl e))⟩) (fun k hk => ?_) (fun k hk => ?_), ho, h.dn.same fun k o hk ho => ?_, fun k hk e => ?_, fun e he => ?_⟩
  · rcases hk with hk | hk
    · exact (h.al.lt k hk).1
    · exact (h.dn.lt k hk).1
  · rcases hk with hk | hk
    · refine ⟨?_, (ho.lt k hk).2⟩
      rcases hat with e | ⟨j, e, hj⟩
      · exact .inl (.inl (by rw [← e]; exact hk))
      · rw [e] at hk; cases hk; exact .inr hj
    · exact ⟨.inl (.inr hk), Nat.lt_of_lt_of_le (hdl k hk) ht.size⟩
  · rw [ht.block k (hdl k hk) (fun e => h.ne k e hk)]; exact ho
  · rcases hat with e1 | ⟨j, e1, hj⟩
    · exact h.ne k (by rw [← e1]; exact hk) e
    · rw [e1] at hk; cases hk; have := hdl _ e; omega
  · rcases List.mem_append.1 he with he | he
    · exact h.asp e he
    · simp at he; subst he; exact hx
theorem EnS.log (h : EnS w b E last av A dv D wr) {k : Int} (hk : I64 k) (hl : D.length ≤ 2000) :
    ∃ a n c w', (Builtin.append_ #[45, 45] 45 #[dv, .slice (some ⟨wr.heap.size, 0, none⟩) 1 1]).run Try.prog (wr.alloc (.cells #[.int .i64 k] 3)) = .ok (.slice a n c) w' ∧ EnS w b E last av A (.slice a n c) (D ++ [k]) w' := by
  obtain ⟨a, n, c, w', hr, ho, ht, hat⟩ := more_turn h.dn h.st.size hk hl
  have hal : ∀ k, av.ownBlock = some k → k < wr.heap.size := fun k hk => (h.al.lt k hk).2
  refine ⟨a, n, c, w', hr, h.st.mine ⟨ht.os, ht.tape, ht.output, ht.size, fun k hk hn => ht.block k hk (fun e => hn (.inr e))⟩ (fun k hk => ?_) (fun k hk => ?_), h.al.same fun k o hk ho => ?_, ho, fun k hk e => ?_, h.asp⟩
  · rcases hk with hk | hk
    · exact (h.al.lt k hk).1
    · exact (h.dn.lt k hk).1
  · rcases hk with hk | hk
    · exact ⟨.inl (.inl hk), Nat.lt_of_lt_of_le (hal k hk) ht.size⟩
    · refine ⟨?_, (ho.lt k hk).2⟩
      rcases hat with e | ⟨j, e, hj⟩
      · exact .inl (.inr (by rw [← e]; exact hk))
      · rw [e] at hk; cases hk; exact .inr hj
  · rw [ht.block k (hal k hk) (fun e => h.ne k hk e)]; exact ho
  · rcases hat with e1 | ⟨j, e1, hj⟩
    · exact h.ne k hk (by rw [← e1]; exact e)
    · rw [e1] at e; cases e; have := hal _ hk; omega
end
/-- Add of a list that 'spans' has made. -/
theorem EnS.add {w wr w2 : World} {b : Nat} {E : List En} {last : Int} {av dv : Value} {A : List En} {D : List Int} (h : EnS w b E last av A dv D wr) {v : Value} {l : List S} (hb : Below wr.heap.size wr w2) (ho : OwnK enS 4 24 w2 wr.heap.size v l) (hok : ∀ s ∈ l, sOk s) (hr : l.all rightB = true) (hlast : last + 1 ≤ 900) :
    Calls Try.prog 14 #[.pointer (some ⟨b, 0, none⟩), v] w2 (fun e w' => ∃ x : En, e = .returned (.tuple #[.int .i64 (last + 1), .nilIface]) ∧ x.num = last + 1 ∧ x.sps = l ∧ EnS w b (E ++ [x]) (last + 1) av A dv D w' ∧ ∀ k o, v.ownBlock = some k → w2.heap[k]? = some o → w'.heap[k]? = some o) := by
  have h2 := h.below hb
  -- the new list's block is one of the law's own while the call goes on
  have hvlt := fun k hk => ho.lt k hk
  have hst : St w (fun k => (av.ownBlock = some k ∨ dv.ownBlock = some k) ∨ v.ownBlock = some k) b E last w2 :=
    h.st.mine (Turn.of_below hb) (fun k hk => by
      rcases hk with hk | hk
      · exact (h.al.lt k hk).1
      · exact (h.dn.lt k hk).1) (fun k hk => by
      rcases hk with hk | hk
      · refine ⟨.inl hk, Nat.lt_of_lt_of_le ?_ hb.size⟩
        rcases hk with hk | hk
        · exact (h.al.lt k hk).2
        · exact (h.dn.lt k hk).2
      · exact ⟨.inr (hvlt k hk).1, (hvlt k hk).2⟩)
  refine (hst.add (ho.sps hok) hr ho.2 hlast (fun k _ hk => hst.notb (.inr hk))).mono ?_
  rintro e w' ⟨x, rfl, e1, e2, hs, hk⟩
  refine ⟨x, rfl, e1, e2, h2.table (hs.mine (Turn.refl _ _) (fun k hk => ?_) (fun k hk => ⟨.inl (.inl hk), ?_⟩)) (fun k o hk' ho' => hk k o (.inl hk') ho'), fun k o hk' ho' => hk k o (.inr hk') ho'⟩
  · rcases hk with (hk | hk) | hk
    · exact (h.al.lt k hk).1
    · exact (h.dn.lt k hk).1
    · have := (hvlt k hk).1; have := h.st.size; omega
  · obtain ⟨F, f1, f2, f3, f4, f5⟩ := hs
    exact f4 k (.inl hk)
end Go.Proofs.Ytjofbehmhdjohaa
