/- The law NodeBack. -/
import Derived.Test.YtcidadikmmdalaaDrL
namespace Go.Proofs.Ytcidadikmmdalaa
open Go.RowKit Go.Extern

theorem enterCheck (args : Array Value) (w : World) : (callFunc 24 args).run Try.prog w = .ok (.enter 24 args) w := by kernel_rfl
section
variable {ρ : Operand → Value} {o : Oper} {w : World}
theorem exec_neqNil {x : Tmp} {T : TypeId} (ho : o.op = .binOp .neq 30 (.tmp x) (.const .nilIface) T) (hx : ρ (.tmp x) = .nilIface) (hy : ρ (.const .nilIface) = .nilIface) : (execOp ρ o).run Try.prog w = .ok (.value (.bool false)) w := by
  unfold execOp; simp only [ho, hx, hy]; simp [eqGuard]; go_simp
end
theorem found_at {K : List Int} (hu : Up K) {j : Nat} {k at_ : Int} {ex : Bool} (hj : K[j]? = some k) (h : Found K k at_ ex) : at_ = (j : Int) ∧ ex = true := by
  obtain ⟨m, hs, ⟨rfl, hm, rfl⟩ | ⟨rfl, hm, rfl⟩⟩ := h
  · refine ⟨?_, rfl⟩
    rcases Nat.lt_trichotomy m j with e | e | e
    · have := hu.lt hm hj e; omega
    · rw [e]
    · have := hu.lt hj hm e; omega
  · exact absurd (List.mem_of_getElem? hj) hm
/-- What is known of the nodes that Put told. -/
structure BkF (l : List En) (k v : Int) (L : Int) (ns : List Nd) : Prop where
  rt : ∀ (i : Nat) (nd : Nd), ns[i]? = some nd → nd.1 = L ∧ Ris nd.2 ∧ 1 ≤ nd.2.length ∧ nd.2.length ≤ 7
  old : ∀ (i : Nat) (nd : Nd), ns[i]? = some nd → ∀ (o vo vo' : Int), (o, vo) ∈ l → (o, vo') ∈ nd.2 → o ≠ k → vo' = vo
  ord : ∀ (a b : Nd), ns[0]? = some a → ns[1]? = some b → ∀ p ∈ a.2, ∀ r ∈ b.2, p.1 < r.1
  pos : 1 ≤ ns.length
  few : ns.length ≤ 2
theorem key_one {l : List En} (h : Ris l) {o a b : Int} (ha : (o, a) ∈ l) (hb : (o, b) ∈ l) : a = b := by
  obtain ⟨i, hi⟩ := List.mem_iff_getElem?.1 ha
  obtain ⟨j, hj⟩ := List.mem_iff_getElem?.1 hb
  rcases Nat.lt_trichotomy i j with e | e | e
  · have := h.at_lt hi hj e; simp at this
  · subst e; rw [hi] at hj; cases hj; rfl
  · have := h.at_lt hj hi e; simp at this
theorem mem_putS {l : List En} {k v : Int} {p : En} : p ∈ putS l k v ↔ (p ∈ l ∧ p.1 ≠ k) ∨ p = (k, v) := by
  unfold putS
  rw [List.mem_append, List.mem_cons, mem_loS, mem_hiS]
  constructor
  · rintro (⟨h1, h2⟩ | h1 | ⟨h1, h2⟩)
    · exact .inl ⟨h1, by omega⟩
    · exact .inr h1
    · exact .inl ⟨h1, by omega⟩
  · rintro (⟨h1, h2⟩ | h1)
    · rcases Int.lt_trichotomy p.1 k with e | e | e
      · exact .inl ⟨h1, e⟩
      · exact absurd e h2
      · exact .inr (.inr ⟨h1, e⟩)
    · exact .inr (.inl h1)
theorem putS_len_out {l : List En} {k v : Int} (h : Ris l) (hk : k ∉ l.map Prod.fst) : (putS l k v).length = l.length + 1 := by
  have e : dropS l k = l := by
    have : ∀ m : List En, Ris m → k ∉ m.map Prod.fst → loS m k ++ hiS m k = m := fun m => by
      induction m with
      | nil => intro _ _; rfl
      | cons a m ih =>
        intro hr hn
        have hra : Ris m := hr.sub (List.sublist_cons_self _ _)
        have hn' : k ∉ m.map Prod.fst := fun hx => hn (by simp at hx ⊢; exact .inr hx)
        have hak : a.1 ≠ k := fun e => hn (by simp [e])
        have hih := ih hra hn'
        rcases Int.lt_trichotomy a.1 k with e | e | e
        · have h1 : loS (a :: m) k = a :: loS m k := by simp [loS, e]
          have hq : ¬ k < a.1 := by omega
          have h2 : hiS (a :: m) k = hiS m k := by simp [hiS, hq]
          rw [h1, h2, List.cons_append, hih]
        · exact absurd e hak
        · have hall : ∀ p ∈ m, k < p.1 := fun p hp => by
            have := (List.pairwise_cons.1 hr.2).1 p hp; omega
          have h1 : loS (a :: m) k = [] := filter_none (fun p hp => by
            rcases List.mem_cons.1 hp with rfl | h
            · simp; omega
            · have := hall p h; simp; omega)
          have h2 : hiS (a :: m) k = a :: m := filter_all (fun p hp => by
            rcases List.mem_cons.1 hp with rfl | h
            · simpa using e
            · simpa using hall p h)
          rw [h1, h2]; rfl
    exact this l h hk
  have : (putS l k v).length = (dropS l k).length + 1 := by unfold putS dropS; simp; omega
  rw [this, e]
theorem bkF {K V : List Int} {L : Int} (h : Rt L K V) {k v : Int} (hf : fitP (k, v)) : BkF (K.zip V) k v L (cutS L (putS (K.zip V) k v)) := by
  have hr := ris_putS h.ris hf
  obtain ⟨h1, h8⟩ := put_len h k v
  have hold : ∀ (q : List En), (∀ p ∈ q, p ∈ putS (K.zip V) k v) → ∀ o vo vo', (o, vo) ∈ K.zip V → (o, vo') ∈ q → o ≠ k → vo' = vo := fun q hq o vo vo' ho ho' hne => by
    rcases mem_putS.1 (hq _ ho') with ⟨h3, -⟩ | h3
    · exact key_one h.ris h3 ho
    · exact absurd (Prod.mk.inj h3).1 hne
  obtain ⟨P, hP⟩ : ∃ P, putS (K.zip V) k v = P := ⟨_, rfl⟩
  rw [hP] at hr h1 h8 hold ⊢
  by_cases h7 : P.length ≤ 7
  · rw [cutS_one h1 h7]
    have e0 : ∀ (i : Nat) (nd : Nd), [((L, P) : Nd)][i]? = some nd → nd = (L, P) := fun i nd hi => by
      match i, hi with
      | 0, hi => simpa using hi.symm
      | i + 1, hi => simp at hi
    refine ⟨fun i nd hi => ?_, fun i nd hi => ?_, fun a b _ hb => by simp at hb, by simp, by simp⟩
    · rw [e0 i nd hi]; exact ⟨rfl, hr, h1, h7⟩
    · rw [e0 i nd hi]; exact hold P (fun p hp => hp)
  · rw [cutS_two h7]
    have e0 : ∀ (i : Nat) (nd : Nd), [((L, P.take 4) : Nd), (L, P.drop 4)][i]? = some nd → nd = (L, P.take 4) ∨ nd = (L, P.drop 4) := fun i nd hi => by
      match i, hi with
      | 0, hi => left; simpa using hi.symm
      | 1, hi => right; simpa using hi.symm
      | i + 2, hi => simp at hi
    have hap : Ris (P.take 4 ++ P.drop 4) := by rw [List.take_append_drop]; exact hr
    have hap := ris_append.1 hap
    refine ⟨fun i nd hi => ?_, fun i nd hi => ?_, fun a b ha hb => ?_, by simp, by simp⟩
    · rcases e0 i nd hi with rfl | rfl
      · exact ⟨rfl, hap.1, by simp; omega, by simp; omega⟩
      · exact ⟨rfl, hap.2.1, by simp; omega, by simp; omega⟩
    · rcases e0 i nd hi with rfl | rfl
      · exact hold _ (fun p hp => List.mem_of_mem_take hp)
      · exact hold _ (fun p hp => List.mem_of_mem_drop hp)
    · obtain rfl : (L, P.take 4) = a := by simpa using ha
      obtain rfl : (L, P.drop 4) = b := by simpa using hb
      exact hap.2.2
/-- How many keys the first ones have. -/
def cnt (ns : List Nd) (i : Nat) : Nat := ((ns.take i).map (fun nd => nd.2.length)).sum
theorem cnt_snoc {ns : List Nd} {i : Nat} {nd : Nd} (h : ns[i]? = some nd) : cnt ns (i + 1) = cnt ns i + nd.2.length := by unfold cnt; rw [List.take_add_one, h]; simp
theorem cnt_all (L : Int) (P : List En) (h1 : 1 ≤ P.length) : cnt (cutS L P) (cutS L P).length = P.length := by
  unfold cnt
  rw [List.take_length]
  by_cases h7 : P.length ≤ 7
  · rw [cutS_one h1 h7]; simp
  · rw [cutS_two h7]; simp; omega
theorem Nds.at_ {w : World} {v : Value} {ns : List Nd} (h : Nds w v ns) (hp : 1 ≤ ns.length) : ∃ g cap n, v = .slice (some ⟨g, 0, none⟩) n cap ∧ Hid (n = ns.length) ∧ ∀ i nd, ns[i]? = some nd → NdAt w g i nd := by
  obtain ⟨ao, cap, g, n, rfl, hn, h3, h4⟩ := h
  obtain rfl := h3 (by omega)
  exact ⟨g, cap, n, rfl, hn, h4⟩

end Go.Proofs.Ytcidadikmmdalaa
