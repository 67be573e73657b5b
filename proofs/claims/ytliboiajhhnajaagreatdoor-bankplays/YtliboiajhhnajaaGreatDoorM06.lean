import Derived.Test.YtliboiajhhnajaaGreatDoorM05
import Derived.Test.YtliboiajhhnajaaGreatDoorM03
import Derived.Test.YtliboiajhhnajaaGreatDoorM04
import Derived.Deep.RegionHeld3
/- Grow and New by their contracts. -/
namespace Go.Proofs.YtliboiajhhnajaaGreatDoor
open Go.RowKit Go.Extern

def growB (S : List Sec) (n : Int) : Bool := decide (1 ≤ n ∧ n ≤ 4096 - (S.length : Int))
def gErr (S : List Sec) (n : Int) : Int := if growB S n then 0 else 20
def gSet (S : List Sec) (n : Int) : List Sec := if growB S n then S ++ List.replicate n.toNat zeroSec else S

set_option maxRecDepth 100000 in
set_option maxHeartbeats 1000000 in
theorem grow_no {w : World} {F : Nat → Prop} {b : Nat} {S : List Sec} (h : Dk w F b S) (n : Int) (hn : growB S n = false) :
    Calls Tryz.prog 45 #[.pointer (some ⟨b, 0, none⟩), .int .i64 n] w (Turned F b S 20 w) := by
  have HS := hide (size_any h)
  have HD := hide h
  have hS := h.good.1
  have hn' : n < 1 ∨ 4096 - (S.length : Int) < n := by
    have : ¬ (1 ≤ n ∧ n ≤ 4096 - (S.length : Int)) := by simpa [growB] using hn
    omega
  clear h hn
  by_cases h1 : n < 1
  · have hd : decide (n < 1) = true := by simpa using h1
    clear hn' h1
    go_enter Tryz.func45, Tryz.ntmps45
    go_wp2_with (go_at_call 39; refine HS.out.mono ?_; rintro e w' ⟨rfl, rfl⟩)
    go_ret
    exact Turned.same HD.out
  · have hd : decide (n < 1) = false := by simpa using h1
    have hd2 : decide (4096 - (S.length : Int) < n) = true := by simp; omega
    clear hn' h1
    go_enter Tryz.func45, Tryz.ntmps45
    go_wp2_with (go_at_call 39; refine HS.out.mono ?_; rintro e w' ⟨rfl, rfl⟩)
    go_ret
    exact Turned.same HD.out

set_option maxRecDepth 100000 in
set_option maxHeartbeats 1000000 in
theorem grow_yes {w : World} {F : Nat → Prop} {b : Nat} {S : List Sec} (h : Dk w F b S) (n : Nat) (hn1 : 1 ≤ n) (hn2 : n + S.length ≤ 4096) :
    Calls Tryz.prog 45 #[.pointer (some ⟨b, 0, none⟩), .int .i64 (n : Int)] w (Turned F b (S ++ List.replicate n zeroSec) 0 w) := by
  have HS := hide (size_any h)
  have HD := hide h
  have hd : decide ((n : Int) < 1) = false := by simp; omega
  have hd2 : decide (4096 - (S.length : Int) < (n : Int)) = false := by simp; omega
  clear h hn1
  have HN := hide hn2
  have hS : (S.length : Int) ≤ 4096 := by omega
  clear hn2
  go_enter Tryz.func45, Tryz.ntmps45
  go_wp2_with (go_at_call 39; refine HS.out.mono ?_; rintro e w' ⟨rfl, hww⟩; obtain rfl : w = w' := hww.symm)
  go_loopg [16] n (fun gk i wr => ∃ j, j + gk = n ∧ i = .int .i64 (j : Int) ∧ Dk wr (ext F w wr) b (S ++ List.replicate j zeroSec) ∧ Turn F w wr)
  case atStart => exact ⟨0, by omega, rfl, by simpa using HD.out.mono (fun _ hk => .inl hk), Turn.refl _ _⟩
  case round =>
    obtain ⟨j, hj, rfl, hdk, htn⟩ := hrel
    have HDK := hide hdk
    have HTN := hide htn
    clear hdk htn
    cases gk with
    | zero =>
      have hend : ¬ (j : Int) < (n : Int) := by omega
      obtain rfl : j = n := by omega
      clear hj
      go_wp2
      go_ret
      exact ⟨rfl, HDK.out, HTN.out⟩
    | succ m =>
      have hlt : (j : Int) < (n : Int) := by omega
      obtain ⟨v, mb, D, hat⟩ := HDK.out
      have c0 := two_cell0 hat.blk
      have hbs := heap_lt hat.blk
      obtain ⟨v', w3, ⟨ao3, n3, cap3, rfl⟩, hr3, k0, f0, hdk, htn⟩ := grow_core hat (by rw [List.length_append, List.length_replicate]; have := HN.out; omega) ((Below.refl _ _).alloc (Nat.le_refl _) (.cells (secA zeroSec) 114)) (heap_alloc_new wr _)
      have HDK2 := hide hdk
      have HTN2 := hide htn
      have hjj : (j : Int) + 1 < 4097 := by have := HN.out; omega
      have HZ : Hid (Con zeroSec.dur) := zeros_con
      clear hat hdk htn
      go_wp2_with (first | ((with_reducible refine wpList_build0 rfl rfl ?_)) | ((with_reducible refine wpList_oneS rfl rfl zeroSec HZ.out ?_ ?_); rfl) | ((with_reducible refine wpList_appendS rfl rfl hr3 ?_ ?_ ?_ ?_); rfl; rfl; rfl))
      go_roundg m
      case measure => omega
      case rel =>
        have hsz := HTN2.out.size
        refine ⟨j + 1, by omega, by go_num, ?_, HTN.out.trans HTN2.out (fun i hi h => ?_)⟩
        · rw [List.replicate_succ', ← List.append_assoc]
          exact HDK2.out.mono (fun i hi => ext_ext HTN.out.size hsz i hi)
        · rcases h with h | h
          · exact h
          · omega
theorem grow_any {w : World} {F : Nat → Prop} {b : Nat} {S : List Sec} (h : Dk w F b S) (n : Int) :
    Calls Tryz.prog 45 #[.pointer (some ⟨b, 0, none⟩), .int .i64 n] w (Turned F b (gSet S n) (gErr S n) w) := by
  unfold gSet gErr
  cases hg : growB S n with
  | false => exact grow_no h n hg
  | true =>
    have hb : 1 ≤ n ∧ n ≤ 4096 - (S.length : Int) := by simpa [growB] using hg
    obtain ⟨k, rfl⟩ : ∃ k : Nat, n = (k : Int) := ⟨n.toNat, by omega⟩
    exact grow_yes h k (by omega) (by omega)

/-- A new disk. -/
def fresh (n : Nat) : List Sec := List.replicate n zeroSec
def newB (n : Int) : Bool := decide (1 ≤ n ∧ n ≤ 4096)
/-- What New leaves: no disk and the error, or a disk of noughts in blocks of its own. -/
def Newed (n : Int) (w : World) (e : Ending) (w' : World) : Prop :=
  Below w.heap.size w w' ∧ if newB n then ∃ b F, e = .returned (.tuple #[.pointer (some ⟨b, 0, none⟩), errV 0]) ∧ Dk w' F b (fresh n.toNat) ∧ ∀ k, F k → w.heap.size ≤ k ∧ k < w'.heap.size
    else e = .returned (.tuple #[.pointer none, errV 20])

theorem dk_made (w : World) : Dk ((w.alloc (.map #[] 0)).alloc (.cells #[.slice none 0 0, .map (some w.heap.size)] 104)) (fun k => w.heap.size ≤ k ∧ k < w.heap.size + 2) (w.heap.size + 1) [] := by
  have e : (w.alloc (.map #[] 0)).heap.size = w.heap.size + 1 := by simp
  have hm := (World.ownsMap_made w Tryz.prog 3 rawE).alloc (.cells #[.slice none 0 0, .map (some w.heap.size)] 104)
  have hv : ∀ k, valAt (.map []) k = .slice none 0 0 := fun k => rfl
  refine ⟨.slice none 0 0, w.heap.size, .map [], by rw [← e]; exact heap_alloc_new _ _, World.ownsRow_nil _ _ _ _, hm, fun k _ => ?_, fun kl => ?_, fun k j _ _ _ => .inl (by rw [hv]; rfl), ⟨by omega, by omega⟩, ⟨by omega, by omega⟩, fun g hg => by simp [Value.ownBlock] at hg, fun k g _ hg => by rw [hv] at hg; simp [Value.ownBlock] at hg, ⟨by simp, by simp⟩⟩
  · rw [hv]
    have : wt [] k = [] := by unfold wt; split <;> simp
    rw [this]
    exact World.ownsRow_nil _ _ _ _
  · constructor
    · intro h; simp [Maps.has] at h
    · rintro ⟨i, s, -, h, -⟩; simp at h

set_option maxRecDepth 100000 in
set_option maxHeartbeats 1000000 in
theorem new_any (w : World) (n : Int) : Calls Tryz.prog 66 #[.int .i64 n] w (Newed n w) := by
  have HG := hide (grow_any (dk_made w) n)
  have HB : Hid (Below w.heap.size w ((w.alloc (.map #[] 0)).alloc (.cells #[.slice none 0 0, .map (some w.heap.size)] 104))) := ((Below.refl _ _).alloc (Nat.le_refl _) _).alloc (by simp) _
  have HSZ : Hid (((w.alloc (.map #[] 0)).alloc (.cells #[.slice none 0 0, .map (some w.heap.size)] 104)).heap.size = w.heap.size + 2) := by show _ = _; simp
  have hmm := @run_makeMap Tryz.prog
  cases hn : newB n with
  | false =>
    have hg : growB [] n = false := by simpa [growB, newB] using hn
    rw [show gErr [] n = 20 by simp [gErr, hg]] at HG
    have HN := hide hn
    clear hg hn
    go_enter Tryz.func66, Tryz.ntmps66
    go_wp2_with (go_at_call 45; refine HG.out.mono ?_; rintro e w' ⟨rfl, hdk, htn⟩; rw [show errV 20 = .iface 85 (.int .i64 20) from rfl])
    have HT := hide htn
    clear htn hdk
    go_wp2
    go_ret2
    refine ⟨HB.out.trans (HT.out.below (B := w.heap.size) (by rw [HSZ.out]; omega) (fun k hk => hk.1)), ?_⟩
    rw [HN.out]
    rfl
  | true =>
    have hg : growB [] n = true := by simpa [growB, newB] using hn
    rw [show gErr [] n = 0 by simp [gErr, hg], show gSet [] n = fresh n.toNat by simp [gSet, hg, fresh]] at HG
    have HN := hide hn
    clear hg hn
    go_enter Tryz.func66, Tryz.ntmps66
    go_wp2_with (go_at_call 45; refine HG.out.mono ?_; rintro e w' ⟨rfl, hdk, htn⟩; rw [errV_zero])
    have HT := hide htn
    have HDK := hide hdk
    clear htn hdk
    go_wp2
    go_ret2
    refine ⟨HB.out.trans (HT.out.below (B := w.heap.size) (by rw [HSZ.out]; omega) (fun k hk => hk.1)), ?_⟩
    rw [HN.out]
    have hs := HT.out.size
    rw [HSZ.out] at hs
    refine ⟨_, _, rfl, HDK.out, fun k hk => ?_⟩
    rcases hk with hk | hk
    · omega
    · rw [HSZ.out] at hk; omega
end Go.Proofs.YtliboiajhhnajaaGreatDoor

/- Steps of a region that draws its order, one operation at a time. -/
namespace Go.Proofs.YtliboiajhhnajaaGreatDoor
open Go.RowKit Go.Extern

section
variable {ops : Array Oper} {Q : Exit → Act → World → Prop} {md : Region.Mode} {S : World → Prop}
/-- An operation that tells the same value in every world that meets S is taken first. -/
theorem take_run (i : Nat) {oi : Oper} (dst : Option Tmp) (v : Value) {fuel : Nat} {listed : Array Bool} {a : Act} {w : World} (hi : ops[i]? = some oi) (hd : oi.dst = dst) (hg : oi.guard = none)
    (hs : Region.noSelect ops = true) (hf : Region.free md ops listed i = true) (hr : (Region.ready md ops listed).contains i = true)
    (hQ : ∀ c a w, Q (.panic c) (a.put dst v) w → Q (.panic c) a w) (hrun : ∀ wx, S wx → (execOp a.eval oi).run Tryz.prog wx = .ok (.value v) wx) (hS : S w)
    (h : wpAnyH Tryz.prog md ops Q S fuel (listed.setIfInBounds i true) (a.put dst v) w) : wpAnyH Tryz.prog md ops Q S (fuel + 1) listed a w := by
  subst hd
  exact wpAnyH_take hi hs hf hr hQ (Or.inl ⟨by simp [Region.wanted, hg], hrun⟩) hS h
/-- The one operation that may come up tells a value, and may turn the world. -/
theorem only_value (i : Nat) {oi : Oper} (dst : Option Tmp) {fuel : Nat} {listed : Array Bool} {a : Act} {w : World} (hi : ops[i]? = some oi) (hd : oi.dst = dst) (hg : oi.guard = none) (hr : Region.ready md ops listed = [i])
    {v : Value} {w' : World} (hrun : (execOp a.eval oi).run Tryz.prog w = .ok (.value v) w') (hS : S w') (h : wpAnyH Tryz.prog md ops Q S fuel (listed.setIfInBounds i true) (a.put dst v) w') : wpAnyH Tryz.prog md ops Q S (fuel + 1) listed a w := by
  subst hd
  refine wpAnyH_ready hr (by simp) (AllReadyH.cons hi (fun K hK => ?_) AllReadyH.nil)
  exact step_value hg hrun (hK.out _ _ hS (fun _ => h))
/-- .. or none. -/
theorem only_skip (i : Nat) {oi : Oper} (dst : Option Tmp) {fuel : Nat} {listed : Array Bool} {a : Act} {w : World} (hi : ops[i]? = some oi) (hd : oi.dst = dst) (hg : oi.guard = none) (hr : Region.ready md ops listed = [i])
    {w' : World} (hrun : (execOp a.eval oi).run Tryz.prog w = .ok .skip w') (hS : S w') (h : wpAnyH Tryz.prog md ops Q S fuel (listed.setIfInBounds i true) (a.put dst undef) w') : wpAnyH Tryz.prog md ops Q S (fuel + 1) listed a w := by
  subst hd
  refine wpAnyH_ready hr (by simp) (AllReadyH.cons hi (fun K hK => ?_) AllReadyH.nil)
  exact step_skip hg hrun (hK.out _ _ hS (fun _ => h))
/-- Two operations that may come up, each telling a value, in either order. -/
theorem both_value (i j : Nat) {oi oj : Oper} (di dj : Option Tmp) {fuel : Nat} {listed : Array Bool} {a : Act} {w : World} (hi : ops[i]? = some oi) (hj : ops[j]? = some oj) (hdi : oi.dst = di) (hdj : oj.dst = dj) (hgi : oi.guard = none) (hgj : oj.guard = none)
    (hr : Region.ready md ops listed = [i, j]) (hri : Region.ready md ops (listed.setIfInBounds i true) = [j]) (hrj : Region.ready md ops (listed.setIfInBounds j true) = [i]) {vi vj : Value} {w' : World}
    (hruni : ∀ b, (b = a ∨ b = a.put dj vj) → ∀ wx, (wx = w ∨ wx = w') → (execOp b.eval oi).run Tryz.prog wx = .ok (.value vi) wx) (hrunj : ∀ b, (b = a ∨ b = a.put di vi) → (execOp b.eval oj).run Tryz.prog w = .ok (.value vj) w') (hS : S w) (hS' : S w')
    (hput : (a.put dj vj).put di vi = (a.put di vi).put dj vj) (hl : (listed.setIfInBounds j true).setIfInBounds i true = (listed.setIfInBounds i true).setIfInBounds j true)
    (h : wpAnyH Tryz.prog md ops Q S fuel ((listed.setIfInBounds i true).setIfInBounds j true) ((a.put di vi).put dj vj) w') : wpAnyH Tryz.prog md ops Q S (fuel + 2) listed a w := by
  subst hdi hdj
  refine wpAnyH_ready hr (by simp) (AllReadyH.cons hi (fun K hK => ?_) (AllReadyH.cons hj (fun K hK => ?_) AllReadyH.nil))
  · refine step_value hgi (hruni a (.inl rfl) w (.inl rfl)) (hK.out _ _ hS (fun _ => ?_))
    exact only_value j oj.dst hj rfl hgj hri (hrunj _ (.inr rfl)) hS' h
  · refine step_value hgj (hrunj a (.inl rfl)) (hK.out _ _ hS' (fun _ => ?_))
    refine only_value i oi.dst hi rfl hgi hrj (hruni _ (.inr rfl) w' (.inr rfl)) hS' ?_
    rw [hput, hl]; exact h
/-- The one operation that may come up is a call. -/
theorem only_call (i : Nat) {oi : Oper} (dst : Option Tmp) {fuel : Nat} {listed : Array Bool} {a : Act} {w : World} (hi : ops[i]? = some oi) (hd : oi.dst = dst) (hg : oi.guard = none) (hr : Region.ready md ops listed = [i])
    {f : FuncId} {args : Array Value} (hrun : (execOp a.eval oi).run Tryz.prog w = .ok (.enter f args) w)
    (hc : Calls Tryz.prog f args w fun e w' => ∃ v, e = .returned v ∧ S w' ∧ wpAnyH Tryz.prog md ops Q S fuel (listed.setIfInBounds i true) (a.put dst v) w') : wpAnyH Tryz.prog md ops Q S (fuel + 1) listed a w := by
  subst hd
  refine wpAnyH_ready hr (by simp) (AllReadyH.cons hi (fun K hK => ?_) AllReadyH.nil)
  rw [if_pos (by simp [Region.wanted, hg])]
  unfold Oper.wp
  rw [hrun]
  refine hc.mono ?_
  rintro e w' ⟨v, rfl, hS, h⟩
  exact hK.out _ _ hS (fun _ => h)
end
section
variable {ρ : Operand → Value} {o : Oper} {w : World}
theorem exec_call1 {f : FuncId} {x : Operand} {ts : Array TypeId} {xv : Value} (ho : o.op = .call { callee := .value (.func f), args := #[x], argTypes := ts }) (hcf : ∀ (args : Array Value) (w : World), (callFunc f args).run Tryz.prog w = .ok (.enter f args) w) (hf : ρ (.func f) = .func (.func f) #[] #[]) (hx : ρ x = xv) : (execOp ρ o).run Tryz.prog w = .ok (.enter f #[xv]) w := by
  unfold execOp; simp [ho, resolve, Deferred.ofValue, invoke, hf, hx, hcf]
theorem exec_call2 {f : FuncId} {x y : Operand} {ts : Array TypeId} {xv yv : Value} (ho : o.op = .call { callee := .value (.func f), args := #[x, y], argTypes := ts }) (hcf : ∀ (args : Array Value) (w : World), (callFunc f args).run Tryz.prog w = .ok (.enter f args) w) (hf : ρ (.func f) = .func (.func f) #[] #[]) (hx : ρ x = xv) (hy : ρ y = yv) : (execOp ρ o).run Tryz.prog w = .ok (.enter f #[xv, yv]) w := by
  unfold execOp; simp [ho, resolve, Deferred.ofValue, invoke, hf, hx, hy, hcf]
theorem exec_call3 {f : FuncId} {x y z : Operand} {ts : Array TypeId} {xv yv zv : Value} (ho : o.op = .call { callee := .value (.func f), args := #[x, y, z], argTypes := ts }) (hcf : ∀ (args : Array Value) (w : World), (callFunc f args).run Tryz.prog w = .ok (.enter f args) w) (hf : ρ (.func f) = .func (.func f) #[] #[]) (hx : ρ x = xv) (hy : ρ y = yv) (hz : ρ z = zv) : (execOp ρ o).run Tryz.prog w = .ok (.enter f #[xv, yv, zv]) w := by
  unfold execOp; simp [ho, resolve, Deferred.ofValue, invoke, hf, hx, hy, hz, hcf]
theorem exec_assign {x : Operand} {v : Value} (ho : o.op = .assign x) (hx : ρ x = v) : (execOp ρ o).run Tryz.prog w = .ok (.value v) w := by
  unfold execOp; simp [ho, hx]
theorem exec_move {x : Operand} {v : Value} (ho : o.op = .move x) (hx : ρ x = v) : (execOp ρ o).run Tryz.prog w = .ok (.value v) w := by
  unfold execOp; simp [ho, hx]
theorem exec_nilCheck {x : Operand} {p : Addr} (ho : o.op = .nilCheck x) (hx : ρ x = .pointer (some p)) : (execOp ρ o).run Tryz.prog w = .ok (.value (.pointer (some p))) w := by
  unfold execOp; simp [ho, hx]
theorem exec_field {s : TypeId} {f : Nat} {x : Operand} {v p : Value} (ho : o.op = .fieldAddr s x f) (hr : (Instr.fieldAt s p f).run Tryz.prog w = .ok v w) (hx : ρ x = p) : (execOp ρ o).run Tryz.prog w = .ok (.value v) w := by
  unfold execOp; simp only [ho, hx, hr, Sem.run_bind, Sem.run_pure, Result.andThen_ok]
theorem exec_index {t : TypeId} {x y : Operand} {v xv yv : Value} (ho : o.op = .indexAddr t x y) (hr : (Instr.indexAt t xv yv).run Tryz.prog w = .ok v w) (hx : ρ x = xv) (hy : ρ y = yv) : (execOp ρ o).run Tryz.prog w = .ok (.value v) w := by
  unfold execOp; simp only [ho, hx, hy, hr, Sem.run_bind, Sem.run_pure, Result.andThen_ok]
theorem exec_len {t : TypeId} {x : Operand} {v xv : Value} (ho : o.op = .call { callee := .builtin .len, args := #[x], argTypes := #[t] }) (hr : (Builtin.len_ #[t] o.type #[xv]).run Tryz.prog w = .ok v w) (hx : ρ x = xv) : (execOp ρ o).run Tryz.prog w = .ok (.value v) w := by
  unfold execOp; simp [ho, resolve, invoke, builtin, hx, hr]
end
theorem enterCopy (args : Array Value) (w : World) : (callFunc 12 args).run Tryz.prog w = .ok (.enter 12 args) w := by kernel_rfl
theorem enterWrite (args : Array Value) (w : World) : (callFunc 52 args).run Tryz.prog w = .ok (.enter 52 args) w := by kernel_rfl
theorem enterChoose (args : Array Value) (w : World) : (callFunc 73 args).run Tryz.prog w = .ok (.enter 73 args) w := by kernel_rfl
theorem field1 (b : Nat) (w : World) : (Instr.fieldAt 104 (.pointer (some ⟨b, 0, none⟩)) 1).run Tryz.prog w = .ok (.pointer (some ⟨b, 1, none⟩)) w := by kernel_rfl
theorem field0 (b : Nat) (w : World) : (Instr.fieldAt 104 (.pointer (some ⟨b, 0, none⟩)) 0).run Tryz.prog w = .ok (.pointer (some ⟨b, 0, none⟩)) w := by kernel_rfl
theorem secField0 (g o : Nat) (w : World) : (Instr.fieldAt 114 (.pointer (some ⟨g, o, none⟩)) 0).run Tryz.prog w = .ok (.pointer (some ⟨g, o, none⟩)) w := by kernel_rfl
theorem len_con (w : World) (a : Option Addr) (n c : Nat) : (Builtin.len_ #[116] 3 #[.slice a n c]).run Tryz.prog w = .ok (.int .i64 (n : Int)) w := by kernel_rfl
theorem load_map {w : World} {p : Addr} {v : Value} (h : w.cell? p = some v) : (Instr.loadAt 102 (.pointer (some p))).run Tryz.prog w = .ok v w := by go_simp
theorem load_secs {w : World} {p : Addr} {v : Value} (h : w.cell? p = some v) : (Instr.loadAt 101 (.pointer (some p))).run Tryz.prog w = .ok v w := by go_simp
theorem index_sec {w : World} {g n cap i : Nat} (h : i < n) : (Instr.indexAt 101 (.slice (some ⟨g, 0, none⟩) n cap) (.int .i64 (i : Int))).run Tryz.prog w = .ok (.pointer (some ⟨g, i * 129, none⟩)) w := by
  have hlt : (i : Int) < (n : Int) := by omega
  have hge : (0 : Int) ≤ (i : Int) := by omega
  go_simp
end Go.Proofs.YtliboiajhhnajaaGreatDoor
