/- What the law RefsMoves leans on. -/
import Derived.Test.YtjopdejgijojmaaRr
namespace Go.Proofs.Ytjopdejgijojmaa
open Go.RowKit Go.Extern

/-- Owners that are put to an address. -/
def mvL (l : List Ref) (to_ : Int) (os : List Own) : List Ref := os.foldl (fun l o => putS l o to_) l
theorem mvL_snoc {l : List Ref} {to_ : Int} {os : List Own} {j : Nat} {o : Own} (h : os[j]? = some o) : mvL l to_ (os.take (j + 1)) = putS (mvL l to_ (os.take j)) o to_ := by
  unfold mvL; rw [take_snoc h, List.foldl_append]; rfl
theorem mvL_ok {to_ : Int} (ht : 0 ≤ to_) (hI : I64 to_) : ∀ {os : List Own} {l : List Ref}, Okl l → (∀ o ∈ os, OkO o) → Okl (mvL l to_ os)
  | [], _, h, _ => h
  | o :: t, l, h, ho => mvL_ok ht hI (os := t) (h.put (ho o (by simp)) ht hI) (fun q hq => ho q (by simp [hq]))
theorem ofS_mvL {to_ : Int} (ht : 0 ≤ to_) (hI : I64 to_) : ∀ {os : List Own} {l : List Ref}, Okl l → (∀ o ∈ os, OkO o) → ∀ q, ofS (mvL l to_ os) q = if q ∈ os then to_ else ofS l q
  | [], _, _, _, q => by simp [mvL]
  | o :: t, l, h, ho, q => by
    have ih := ofS_mvL ht hI (os := t) (h.put (ho o (by simp)) ht hI) (fun q hq => ho q (by simp [hq])) q
    have e : mvL l to_ (o :: t) = mvL (putS l o to_) to_ t := rfl
    rw [e, ih, ofS_putS h.srt]
    by_cases h1 : q ∈ t
    · simp [h1]
    · by_cases h2 : q = o
      · simp [h2]
      · simp [h1, h2]
structure Moved (l : List Ref) (from_ to_ : Int) (l' : List Ref) : Prop where
  ok : Okl l'
  none_ : byS l' from_ = []
  len : (byS l' to_).length = (byS l from_).length + (byS l to_).length
  size : l'.length = l.length
theorem moved {l : List Ref} (h : Okl l) {from_ to_ : Int} (hf : 0 < from_) (ht : 0 < to_) (hI : I64 to_) (hne : from_ ≠ to_) : Moved l from_ to_ (mvL l to_ (byS l from_)) := by
  have hO : ∀ o ∈ byS l from_, OkO o := fun o ho => h.own _ (mem_byS.1 ho)
  have hok := mvL_ok (by omega) hI h hO
  have hof := ofS_mvL (by omega) hI h hO
  have hin : ∀ o, o ∈ byS l from_ ↔ ofS l o = from_ := fun o => by
    rw [mem_byS, h.mem_iff]
    exact ⟨fun x => x.1, fun x => ⟨x, by omega⟩⟩
  refine ⟨hok, ?_, ?_, ?_⟩
  · refine List.eq_nil_iff_forall_not_mem.2 (fun o ho => ?_)
    have h1 := (hok.mem_iff.1 (mem_byS.1 ho)).1
    rw [hof] at h1
    by_cases h2 : o ∈ byS l from_
    · rw [if_pos h2] at h1; omega
    · rw [if_neg h2] at h1; exact h2 ((hin o).2 h1)
  · rw [← List.length_append]
    refine List.Perm.length_eq ((List.perm_ext_iff_of_nodup (srt_byS hok.srt to_).nodup ?_).2 (fun o => ?_))
    · refine List.nodup_append.2 ⟨(srt_byS h.srt from_).nodup, (srt_byS h.srt to_).nodup, fun a ha b hb e => ?_⟩
      subst e
      have h1 := (hin a).1 ha
      have h2 := (h.mem_iff.1 (mem_byS.1 hb)).1
      omega
    · rw [mem_byS, hok.mem_iff, hof, List.mem_append]
      have h4 : o ∈ byS l to_ ↔ ofS l o = to_ := by rw [mem_byS, h.mem_iff]; exact ⟨fun x => x.1, fun x => ⟨x, by omega⟩⟩
      by_cases h2 : o ∈ byS l from_
      · rw [if_pos h2]
        exact ⟨fun _ => Or.inl h2, fun _ => ⟨rfl, by omega⟩⟩
      · rw [if_neg h2]
        exact ⟨fun x => Or.inr (h4.2 x.1), fun x => by
          rcases x with x | x
          · exact absurd x h2
          · exact ⟨h4.1 x, by omega⟩⟩
  · have hp : ((mvL l to_ (byS l from_)).map Prod.fst).Perm (l.map Prod.fst) := by
      have hmem : ∀ {k : List Ref}, Okl k → ∀ o, o ∈ k.map Prod.fst ↔ ofS k o ≠ 0 := fun {k} hk o => by
        constructor
        · intro hx
          obtain ⟨r, hr, rfl⟩ := List.mem_map.1 hx
          obtain ⟨h1, h2⟩ := hk.mem_iff.1 (show (r.1, r.2) ∈ k from hr)
          rw [h1]; exact h2
        · intro hx
          exact List.mem_map.2 ⟨(o, ofS k o), hk.mem_iff.2 ⟨rfl, hx⟩, rfl⟩
      refine (List.perm_ext_iff_of_nodup hok.srt.keys h.srt.keys).2 (fun o => ?_)
      rw [hmem hok, hmem h, hof]
      by_cases h2 : o ∈ byS l from_
      · have h3 := (hin o).1 h2
        rw [if_pos h2, h3]
        exact ⟨fun _ => by omega, fun _ => by omega⟩
      · rw [if_neg h2]
    have := hp.length_eq
    simpa using this
theorem RefsAt.start {F : Nat → Prop} {w w1 : World} {ao : Option Addr} {g off : Nat} {rs : List Ref} (h : RefsAt (fun _ => False) w ao g off rs) (hF : ∀ k, F k → w.heap.size ≤ k) (hb : Below w.heap.size w w1) : RefsAt F w1 ao g off rs := by
  have h2 := h.below hb
  refine ⟨h2.ad, fun hp hx => ?_, h2.cells⟩
  have hr : rs[0]? = some rs[0] := by simp [hp]
  have := cell_lt (h.cells 0 _ hr).1
  have := hF g hx
  simp only at *; omega
theorem put_some {w : World} {F : Nat → Prop} {b : Nat} {l : List Ref} {was : Option (List Ref)} (h : Rf w F b l was) {r : Ref} (hr : OkR r) :
    Calls Try.prog 10 #[.pointer (some ⟨b, 0, none⟩), encO r.1, .int .i64 r.2] w fun e w' => ∃ ev, e = .returned ev ∧ Rfd F b (putA l r) was w w' :=
  (put_any h hr).mono (fun _ _ ⟨h1, h2⟩ => ⟨_, h1, h2⟩)
/-- What stands while the owners of an address are looked through. -/
structure S3 (w : World) (F : Nat → Prop) (b : Nat) (l : List Ref) (ao : Option Addr) (g : Nat) (m : List Own) (x : Nat) (o : Own) (wx : World) : Prop where
  rf : Rf wx F b l none
  os : OwnsAt F wx ao g m
  bx : BoxO wx x o
  bel : Below w.heap.size w wx
theorem BoxO.below {w w' : World} {x : Nat} {o : Own} (h : BoxO w x o) (hb : Below w.heap.size w w') : BoxO w' x o := by
  have hk := hb.block x (cell_lt h.1)
  exact ⟨cell_same hk h.1, cell_same hk h.2⟩
theorem S3.below {w : World} {F : Nat → Prop} {b : Nat} {l : List Ref} {ao : Option Addr} {g : Nat} {m : List Own} {x : Nat} {o : Own} {wx wy : World} (h : S3 w F b l ao g m x o wx) (hb : Below wx.heap.size wx wy) : S3 w F b l ao g m x o wy :=
  ⟨h.rf.below hb, h.os.below hb, h.bx.below hb, h.bel.trans (hb.mono h.bel.size)⟩
theorem enterOf (args : Array Value) (w : World) : (callFunc 21 args).run Try.prog w = .ok (.enter 21 args) w := by kernel_rfl
theorem fldP0 (b i : Nat) (w : World) : (Instr.fieldAt 35 (.pointer (some ⟨b, i, none⟩)) 0).run Try.prog w = .ok (.pointer (some ⟨b, i, none⟩)) w := by kernel_rfl
theorem fldP1 (b i : Nat) (w : World) : (Instr.fieldAt 35 (.pointer (some ⟨b, i, none⟩)) 1).run Try.prog w = .ok (.pointer (some ⟨b, i + 1, none⟩)) w := by kernel_rfl
theorem index_owners {w : World} {g n cap i : Nat} (h : i < n) : (Instr.indexAt 53 (.slice (some ⟨g, 0, none⟩) n cap) (.int .i64 (i : Int))).run Try.prog w = .ok (.pointer (some ⟨g, i * 2, none⟩)) w := by
  have hlt : (i : Int) < (n : Int) := by omega
  have hge : (0 : Int) ≤ (i : Int) := by omega
  go_simp
section
variable {ρ : Operand → Value} {o : Oper} {w : World} {x y : Operand} {n m : Int} {T : TypeId}
theorem exec_gtrT (ho : o.op = .binOp .gtr 3 x y T) (hx : ρ x = .int .i64 n) (hy : ρ y = .int .i64 m) (h : m < n) : (execOp ρ o).run Try.prog w = .ok (.value (.bool true)) w := by
  unfold execOp; simp only [ho, hx, hy]; go_simp
theorem exec_gtrF (ho : o.op = .binOp .gtr 3 x y T) (hx : ρ x = .int .i64 n) (hy : ρ y = .int .i64 m) (h : ¬ m < n) : (execOp ρ o).run Try.prog w = .ok (.value (.bool false)) w := by
  unfold execOp; simp only [ho, hx, hy]; go_simp
theorem exec_geqF (ho : o.op = .binOp .geq 3 x y T) (hx : ρ x = .int .i64 n) (hy : ρ y = .int .i64 m) (h : ¬ m ≤ n) : (execOp ρ o).run Try.prog w = .ok (.value (.bool false)) w := by
  unfold execOp; simp only [ho, hx, hy]; go_simp
theorem exec_eqlNT (ho : o.op = .binOp .eql 3 x y T) (hx : ρ x = .int .i64 n) (hy : ρ y = .int .i64 m) (h : n = m) : (execOp ρ o).run Try.prog w = .ok (.value (.bool true)) w := by
  subst h
  unfold execOp; simp only [ho, hx, hy]; go_simp
theorem exec_eqlNF (ho : o.op = .binOp .eql 3 x y T) (hx : ρ x = .int .i64 n) (hy : ρ y = .int .i64 m) (h : n ≠ m) : (execOp ρ o).run Try.prog w = .ok (.value (.bool false)) w := by
  have hb : (n == m) = false := by simpa using h
  unfold execOp; simp only [ho, hx, hy]; go_simp
end

end Go.Proofs.Ytjopdejgijojmaa
