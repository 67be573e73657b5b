/- The program's disk and the document's own, side by side. -/
import Derived.Test.YtphmhepbilhkjaaRFill
import Derived.Test.YtphmhepbilhkjaaIntsEq
namespace Go.Proofs.Ytphmhepbilhkjaa
open Go.RowKit Go.Extern

structure PlAt (Z : Option (Nat × Obj)) (w0 w : World) (F G : Nat → Prop) (bd bx : Nat) (S X : List Sec) : Prop where
  d : Dk w F bd S
  x : Rk w G bx X
  fb : ∀ k, F k → w0.heap.size ≤ k ∧ k < w.heap.size
  gb : ∀ k, G k → w0.heap.size ≤ k ∧ k < w.heap.size
  ap : ∀ k, F k → ¬ G k
  bel : Below w0.heap.size w0 w
  pb : ∀ k o, Z = some (k, o) → w.heap[k]? = some o ∧ ¬ F k ∧ ¬ G k
def Pl (Z : Option (Nat × Obj)) (w0 w : World) (bd bx : Nat) (S X : List Sec) : Prop := ∃ F G, PlAt Z w0 w F G bd bx S X
section
variable {Z : Option (Nat × Obj)} {w0 w w' : World} {F G H : Nat → Prop} {bd bx : Nat} {S S' X X' : List Sec}
theorem PlAt.pl (h : PlAt Z w0 w F G bd bx S X) : Pl Z w0 w bd bx S X := ⟨F, G, h⟩
theorem PlAt.below (h : PlAt Z w0 w F G bd bx S X) (hb : Below w.heap.size w w') : PlAt Z w0 w' F G bd bx S X :=
  ⟨h.d.below hb, h.x.below hb, fun k hk => ⟨(h.fb k hk).1, Nat.lt_of_lt_of_le (h.fb k hk).2 hb.size⟩, fun k hk => ⟨(h.gb k hk).1, Nat.lt_of_lt_of_le (h.gb k hk).2 hb.size⟩, h.ap, h.bel.trans (hb.mono h.bel.size), fun k o hz => ⟨by rw [hb.block k (heap_lt (h.pb k o hz).1)]; exact (h.pb k o hz).1, (h.pb k o hz).2⟩⟩
theorem Pl.below (h : Pl Z w0 w bd bx S X) (hb : Below w.heap.size w w') : Pl Z w0 w' bd bx S X := by
  obtain ⟨F, G, h⟩ := h; exact ⟨F, G, h.below hb⟩
theorem PlAt.prog (h : PlAt Z w0 w F G bd bx S X) (hd : Dk w' (ext F w w') bd S') (ht : Turn F w w') : PlAt Z w0 w' (ext F w w') G bd bx S' X := by
  have hs := ht.size
  refine ⟨hd, h.x.turn ht (fun k hg hf => h.ap k hf hg), fun k hk => ?_, fun k hk => ⟨(h.gb k hk).1, by have := (h.gb k hk).2; omega⟩, fun k hk hg => ?_, h.bel.trans (ht.below h.bel.size (fun k hk => (h.fb k hk).1)), fun k o hz => ⟨by rw [ht.block k (heap_lt (h.pb k o hz).1) (h.pb k o hz).2.1]; exact (h.pb k o hz).1, fun hf => ?_, (h.pb k o hz).2.2⟩⟩
  · rcases hk with hk | hk
    · have := h.fb k hk; omega
    · have := h.bel.size; omega
  · rcases hk with hk | hk
    · exact h.ap k hk hg
    · have := (h.gb k hg).2; omega
  · have := heap_lt (h.pb k o hz).1
    rcases hf with hf | hf
    · exact (h.pb k o hz).2.1 hf
    · omega
theorem PlAt.ref (h : PlAt Z w0 w F G bd bx S X) (hx : Rk w' (ext G w w') bx X') (ht : Turn G w w') : PlAt Z w0 w' F (ext G w w') bd bx S X' := by
  have hs := ht.size
  refine ⟨h.d.turn ht (fun k hf hg => h.ap k hf hg), hx, fun k hk => ⟨(h.fb k hk).1, by have := (h.fb k hk).2; omega⟩, fun k hk => ?_, fun k hf hg => ?_, h.bel.trans (ht.below h.bel.size (fun k hk => (h.gb k hk).1)), fun k o hz => ⟨by rw [ht.block k (heap_lt (h.pb k o hz).1) (h.pb k o hz).2.2]; exact (h.pb k o hz).1, (h.pb k o hz).2.1, fun hf => ?_⟩⟩
  · rcases hk with hk | hk
    · have := h.gb k hk; omega
    · have := h.bel.size; omega
  · rcases hg with hg | hg
    · exact h.ap k hf hg
    · have := (h.fb k hf).2; omega
  · have := heap_lt (h.pb k o hz).1
    rcases hf with hf | hf
    · exact (h.pb k o hz).2.2 hf
    · omega
/-- Another block is kept. -/
theorem PlAt.guard {Z' : Option (Nat × Obj)} (h : PlAt Z w0 w F G bd bx S X) (hz : ∀ k o, Z' = some (k, o) → w.heap[k]? = some o ∧ ¬ F k ∧ ¬ G k) : PlAt Z' w0 w F G bd bx S X := ⟨h.d, h.x, h.fb, h.gb, h.ap, h.bel, hz⟩
theorem Pl.free (h : Pl Z w0 w bd bx S X) : Pl none w0 w bd bx S X := by
  obtain ⟨F, G, h⟩ := h; exact ⟨F, G, h.guard (fun _ _ h => by cases h)⟩
theorem Pl.kept {k : Nat} {o : Obj} (h : Pl (some (k, o)) w0 w bd bx S X) : w.heap[k]? = some o := by
  obtain ⟨F, G, h⟩ := h; exact (h.pb k o rfl).1
/-- A block that is new is kept. -/
theorem Pl.new (h : Pl Z w0 w bd bx S X) (o : Obj) (ho : (w.alloc o).heap[w.heap.size]? = some o) : Pl (some (w.heap.size, o)) w0 (w.alloc o) bd bx S X := by
  obtain ⟨F, G, h⟩ := h
  refine ⟨F, G, (h.below ((Below.refl _ _).alloc (Nat.le_refl _) o)).guard (fun k o' hk => ?_)⟩
  simp only [Option.some.injEq, Prod.mk.injEq] at hk
  obtain ⟨rfl, rfl⟩ := hk
  exact ⟨ho, fun hf => by have := (h.fb _ hf).2; omega, fun hg => by have := (h.gb _ hg).2; omega⟩
/-- Something else turns. -/
theorem PlAt.turn (h : PlAt Z w0 w F G bd bx S X) (ht : Turn H w w') (hf : ∀ k, F k → ¬ H k) (hg : ∀ k, G k → ¬ H k) (hw : ∀ k, H k → w0.heap.size ≤ k) (hz : ∀ k o, Z = some (k, o) → ¬ H k) : PlAt Z w0 w' F G bd bx S X :=
  ⟨h.d.turn ht hf, h.x.turn ht hg, fun k hk => ⟨(h.fb k hk).1, Nat.lt_of_lt_of_le (h.fb k hk).2 ht.size⟩, fun k hk => ⟨(h.gb k hk).1, Nat.lt_of_lt_of_le (h.gb k hk).2 ht.size⟩, h.ap, h.bel.trans (ht.below h.bel.size hw), fun k o hk => ⟨by rw [ht.block k (heap_lt (h.pb k o hk).1) (hz k o hk)]; exact (h.pb k o hk).1, (h.pb k o hk).2⟩⟩
theorem Pl.bel (h : Pl Z w0 w bd bx S X) : Below w0.heap.size w0 w := by obtain ⟨_, _, h⟩ := h; exact h.bel
theorem Pl.len (h : Pl Z w0 w bd bx S X) : S.length ≤ 4096 := by obtain ⟨_, _, h⟩ := h; exact h.d.good.1
theorem PlAt.len (h : PlAt Z w0 w F G bd bx S X) : S.length ≤ 4096 := h.d.good.1
end
/-- A sector of the document's own disk made bad, or good again. -/
theorem RkAt.badB {w : World} {G : Nat → Prop} {b g n cap : Nat} {T : List (Value × Sec)} (h : RkAt w G b (.slice (some ⟨g, 0, none⟩) n cap) T) {i : Nat} {u : Value} {s : Sec} (hi : T[i]? = some (u, s)) (on : Bool) :
    RkAt (w.setCell ⟨g, i * 2 + 1, none⟩ (.bool on)) (ext G w (w.setCell ⟨g, i * 2 + 1, none⟩ (.bool on))) b (.slice (some ⟨g, 0, none⟩) n cap) (T.set i (u, { s with bad := on })) ∧ Turn G w (w.setCell ⟨g, i * 2 + 1, none⟩ (.bool on)) := by
  have hn : n = T.length := by obtain ⟨a, c, e⟩ := h.form; injection e
  subst hn
  refine h.put (p' := (u, { s with bad := on })) (Below.refl _ _) ((h.val i _ hi).keep (fun _ _ _ => rfl) (fun k hk _ => .inl hk)) (fun k hk => Below.heap_setCell _ _ _ _ (fun e => hk (by rw [e]; rfl))) (by simp [World.setCell]) ?_ ⟨rfl, rfl, rfl⟩
  rw [List.length_set, rcells_set hi, set_same (rcells_get0 hi)]
  exact ownsRow_setCell h.row (i * 2 + 1) _
/-- Waits of at most so many. -/
def Wl (S : List Sec) (j : Nat) : Prop := ∀ s ∈ S, s.wait.length ≤ j
theorem Wl.wSet {S : List Sec} {j : Nat} (h : Wl S j) (i : Int) (d : List Nat) : Wl (wSet S i d) (j + 1) := fun s hs => by
  obtain ⟨s0, h0, -, h2⟩ := wSet_mem hs
  have := h s0 h0
  omega
theorem Wl.flush (S : List Sec) (j : Nat) : Wl (S.map Sec.flushed) j := fun s hs => by
  obtain ⟨s0, -, rfl⟩ := List.mem_map.1 hs
  exact Nat.zero_le _
theorem Wl.grow {S : List Sec} {j : Nat} (h : Wl S j) (n : Int) : Wl (gSet S n) (j + 1) := fun s hs => by
  unfold gSet at hs
  split at hs
  · rcases List.mem_append.1 hs with h1 | h1
    · have := h s h1; omega
    · rw [(List.mem_replicate.1 h1).2]; exact Nat.zero_le _
  · have := h s hs; omega
theorem Wl.bad {S : List Sec} {j : Nat} (h : Wl S j) (i : Int) (on : Bool) : Wl (bSet S i on) (j + 1) := fun s hs => by
  obtain ⟨k, hk⟩ := List.getElem?_of_mem hs
  obtain ⟨s0, h0, rfl⟩ := bSet_at hk
  have := h s0 (List.mem_of_getElem? h0)
  split
  · show s0.wait.length ≤ j + 1; omega
  · omega
theorem Wl.crash (S : List Sec) (ps : List Int) (j : Nat) : Wl (crS S ps) j := fun s hs => by
  unfold crS at hs
  obtain ⟨s0, -, rfl⟩ := List.mem_map.1 hs
  exact Nat.zero_le _
theorem Wl.fill (S : List Sec) (d : List Nat) (j : Nat) : Wl (fillS S d) j := fun s hs => by rw [fillS_wait hs]; exact Nat.zero_le _
theorem Wl.mono {S : List Sec} {j k : Nat} (h : Wl S j) (hk : j ≤ k) : Wl S k := fun s hs => Nat.le_trans (h s hs) hk

/-- The value of one call of a script. -/
def opV (kind oi on : Int) (aod : Option Addr) (dn capd : Nat) (aop : Option Addr) (pn capp : Nat) : Value := .agg #[.int .i64 kind, .int .i64 oi, .int .i64 on, .slice aod dn capd, .slice aop pn capp]
def opC (kind oi on : Int) (aod : Option Addr) (dn capd : Nat) (aop : Option Addr) (pn capp : Nat) : Array Value := #[.int .i64 kind, .int .i64 oi, .int .i64 on, .slice aod dn capd, .slice aop pn capp]
/-- What step leaves. -/
def Stepped (Z : Option (Nat × Obj)) (w0 : World) (bd bx j : Nat) (e : Ending) (w' : World) : Prop := e = .returned (.bool true) ∧ ∃ S, Pl Z w0 w' bd bx S S ∧ Wl S (j + 1)

set_option maxRecDepth 100000 in
set_option maxHeartbeats 2000000 in
theorem step3_any {Z : Option (Nat × Obj)} {w0 w : World} {bd bx j : Nat} {S : List Sec} (h : Pl Z w0 w bd bx S S) (hw : Wl S j) (hj : j ≤ 1000) (oi on : Int) (aod : Option Addr) (dn capd : Nat) (aop : Option Addr) (pn capp : Nat) :
    Calls Try.prog 13 #[.pointer (some ⟨bd, 0, none⟩), .pointer (some ⟨bx, 0, none⟩), opV 3 oi on aod dn capd aop pn capp] w (Stepped Z w0 bd bx j) := by
  obtain ⟨F, G, h⟩ := h
  have HAL : Hid (Below w.heap.size w (w.alloc (.cells (opC 3 oi on aod dn capd aop pn capp) 35))) := (Below.refl _ _).alloc (Nat.le_refl _) _
  have h1 := h.below HAL.out
  have HWW : Hid (∀ s ∈ S, s.wait.length ≤ 1000000) := fun s hs => by have := hw s hs; omega
  have HFL := hide (flush_any h1.d HWW.out)
  have HRF : Hid (∀ F' w2, PlAt Z w0 w2 F' G bd bx (S.map Sec.flushed) S → Calls Try.prog 33 #[.pointer (some ⟨bx, 0, none⟩)] w2 (RTurned G bx (S.map Sec.flushed) (.int .i64 ((pend S).length : Int)) w2)) := fun F' w2 h2 => rflush_any h2.x h.len HWW.out
  have H1 := hide h1
  clear h h1 hw
  unfold opV opC at *
  go_enter Try.func13, Try.ntmps13
  go_wp2_with (first | (go_at_call 25; refine HFL.out.mono ?_; rintro e w2 ⟨rfl, hd2, ht2⟩; have H2 := hide (H1.out.prog hd2 ht2); clear hd2 ht2) | (go_at_call 33; refine (HRF.out _ _ H2.out).mono ?_; rintro e w3 ⟨rfl, hx3, ht3⟩; have H3 := hide (H2.out.ref hx3 ht3); clear hx3 ht3))
  go_ret
  exact ⟨by simp, _, H3.out.pl, Wl.flush _ _⟩
end Go.Proofs.Ytphmhepbilhkjaa
