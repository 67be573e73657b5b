/- Grow and New by their contracts. -/
import Derived.Test.YtliboiajhhnajaaDoorGCore
import Derived.Test.YtliboiajhhnajaaDoorRead
namespace Go.Proofs.YtliboiajhhnajaaDoor
open Go.RowKit Go.Extern

def growB (S : List Sec) (n : Int) : Bool := decide (1 ≤ n ∧ n ≤ 4096 - (S.length : Int))
def gErr (S : List Sec) (n : Int) : Int := if growB S n then 0 else 20
def gSet (S : List Sec) (n : Int) : List Sec := if growB S n then S ++ List.replicate n.toNat zeroSec else S

set_option maxRecDepth 100000 in
set_option maxHeartbeats 1000000 in
theorem grow_no {w : World} {F : Nat → Prop} {b : Nat} {S : List Sec} (h : Dk w F b S) (n : Int) (hn : growB S n = false) :
    Calls Tryd.prog 23 #[.pointer (some ⟨b, 0, none⟩), .int .i64 n] w (Turned F b S 20 w) := by
  have HS := hide (size_any h)
  have HD := hide h
  have hS := h.good.1
  have hn' : n < 1 ∨ 4096 - (S.length : Int) < n := by
    have : ¬ (1 ≤ n ∧ n ≤ 4096 - (S.length : Int)) := by simpa [growB] using hn
    omega
  clear h hn
  by_cases h1 : n < 1
  · have hd : decide (n < 1) = true := by simpa using h1
    clear hn' h1
    go_enter Tryd.func23, Tryd.ntmps23
    go_wp2_with (go_at_call 16; refine HS.out.mono ?_; rintro e w' ⟨rfl, rfl⟩)
    go_ret
    exact Turned.same HD.out
  · have hd : decide (n < 1) = false := by simpa using h1
    have hd2 : decide (4096 - (S.length : Int) < n) = true := by simp; omega
    clear hn' h1
    go_enter Tryd.func23, Tryd.ntmps23
    go_wp2_with (go_at_call 16; refine HS.out.mono ?_; rintro e w' ⟨rfl, rfl⟩)
    go_ret
    exact Turned.same HD.out

set_option maxRecDepth 100000 in
set_option maxHeartbeats 1000000 in
theorem grow_yes {w : World} {F : Nat → Prop} {b : Nat} {S : List Sec} (h : Dk w F b S) (n : Nat) (hn1 : 1 ≤ n) (hn2 : n + S.length ≤ 4096) :
    Calls Tryd.prog 23 #[.pointer (some ⟨b, 0, none⟩), .int .i64 (n : Int)] w (Turned F b (S ++ List.replicate n zeroSec) 0 w) := by
  have HS := hide (size_any h)
  have HD := hide h
  have hd : decide ((n : Int) < 1) = false := by simp; omega
  have hd2 : decide (4096 - (S.length : Int) < (n : Int)) = false := by simp; omega
  clear h hn1
  have HN := hide hn2
  have hS : (S.length : Int) ≤ 4096 := by omega
  clear hn2
  go_enter Tryd.func23, Tryd.ntmps23
  go_wp2_with (go_at_call 16; refine HS.out.mono ?_; rintro e w' ⟨rfl, hww⟩; obtain rfl : w = w' := hww.symm)
  go_loopg [16] n (fun gk i wr => ∃ j, j + gk = n ∧ i = .int .i64 (j : Int) ∧ Dk wr (ext F w wr) b (S ++ List.replicate j zeroSec) ∧ Turn F w wr)
  case atStart => exact ⟨0, by omega, rfl, by simpa using HD.out.mono (fun _ hk => .inl hk), Turn.refl _ _⟩
  case round =>
    obtain ⟨j, hj, rfl, hdk, htn⟩ := hrel
    have HDK := hide hdk
    have HTN := hide htn
    clear hdk htn
    cases gk with
    | zero =>
      have hend : ¬ (j : Int) < (n : Int) := by omega
      obtain rfl : j = n := by omega
      clear hj
      go_wp2
      go_ret
      exact ⟨rfl, HDK.out, HTN.out⟩
    | succ m =>
      have hlt : (j : Int) < (n : Int) := by omega
      obtain ⟨v, mb, D, hat⟩ := HDK.out
      have c0 := two_cell0 hat.blk
      have hbs := heap_lt hat.blk
      obtain ⟨v', w3, ⟨ao3, n3, cap3, rfl⟩, hr3, k0, f0, hdk, htn⟩ := grow_core hat (by rw [List.length_append, List.length_replicate]; have := HN.out; omega) ((Below.refl _ _).alloc (Nat.le_refl _) (.cells (secA zeroSec) 77)) (heap_alloc_new wr _)
      have HDK2 := hide hdk
      have HTN2 := hide htn
      have hjj : (j : Int) + 1 < 4097 := by have := HN.out; omega
      have HZ : Hid (Con zeroSec.dur) := zeros_con
      clear hat hdk htn
      go_wp2_with (first | ((with_reducible refine wpList_build0 rfl rfl ?_)) | ((with_reducible refine wpList_oneS rfl rfl zeroSec HZ.out ?_ ?_); rfl) | ((with_reducible refine wpList_appendS rfl rfl hr3 ?_ ?_ ?_ ?_); rfl; rfl; rfl))
      go_roundg m
      case measure => omega
      case rel =>
        have hsz := HTN2.out.size
        refine ⟨j + 1, by omega, by go_num, ?_, HTN.out.trans HTN2.out (fun i hi h => ?_)⟩
        · rw [List.replicate_succ', ← List.append_assoc]
          exact HDK2.out.mono (fun i hi => ext_ext HTN.out.size hsz i hi)
        · rcases h with h | h
          · exact h
          · omega
theorem grow_any {w : World} {F : Nat → Prop} {b : Nat} {S : List Sec} (h : Dk w F b S) (n : Int) :
    Calls Tryd.prog 23 #[.pointer (some ⟨b, 0, none⟩), .int .i64 n] w (Turned F b (gSet S n) (gErr S n) w) := by
  unfold gSet gErr
  cases hg : growB S n with
  | false => exact grow_no h n hg
  | true =>
    have hb : 1 ≤ n ∧ n ≤ 4096 - (S.length : Int) := by simpa [growB] using hg
    obtain ⟨k, rfl⟩ : ∃ k : Nat, n = (k : Int) := ⟨n.toNat, by omega⟩
    exact grow_yes h k (by omega) (by omega)

/-- A new disk. -/
def fresh (n : Nat) : List Sec := List.replicate n zeroSec
def newB (n : Int) : Bool := decide (1 ≤ n ∧ n ≤ 4096)
/-- What New leaves: no disk and the error, or a disk of noughts in blocks of its own. -/
def Newed (n : Int) (w : World) (e : Ending) (w' : World) : Prop :=
  Below w.heap.size w w' ∧ if newB n then ∃ b F, e = .returned (.tuple #[.pointer (some ⟨b, 0, none⟩), errV 0]) ∧ Dk w' F b (fresh n.toNat) ∧ ∀ k, F k → w.heap.size ≤ k ∧ k < w'.heap.size
    else e = .returned (.tuple #[.pointer none, errV 20])

theorem dk_made (w : World) : Dk ((w.alloc (.map #[] 0)).alloc (.cells #[.slice none 0 0, .map (some w.heap.size)] 60)) (fun k => w.heap.size ≤ k ∧ k < w.heap.size + 2) (w.heap.size + 1) [] := by
  have e : (w.alloc (.map #[] 0)).heap.size = w.heap.size + 1 := by simp
  have hm := (World.ownsMap_made w Tryd.prog 3 rawE).alloc (.cells #[.slice none 0 0, .map (some w.heap.size)] 60)
  have hv : ∀ k, valAt (.map []) k = .slice none 0 0 := fun k => rfl
  refine ⟨.slice none 0 0, w.heap.size, .map [], by rw [← e]; exact heap_alloc_new _ _, World.ownsRow_nil _ _ _ _, hm, fun k _ => ?_, fun kl => ?_, fun k j _ _ _ => .inl (by rw [hv]; rfl), ⟨by omega, by omega⟩, ⟨by omega, by omega⟩, fun g hg => by simp [Value.ownBlock] at hg, fun k g _ hg => by rw [hv] at hg; simp [Value.ownBlock] at hg, ⟨by simp, by simp⟩⟩
  · rw [hv]
    have : wt [] k = [] := by unfold wt; split <;> simp
    rw [this]
    exact World.ownsRow_nil _ _ _ _
  · constructor
    · intro h; simp [Maps.has] at h
    · rintro ⟨i, s, -, h, -⟩; simp at h

set_option maxRecDepth 100000 in
set_option maxHeartbeats 1000000 in
theorem new_any (w : World) (n : Int) : Calls Tryd.prog 17 #[.int .i64 n] w (Newed n w) := by
  have HG := hide (grow_any (dk_made w) n)
  have HB : Hid (Below w.heap.size w ((w.alloc (.map #[] 0)).alloc (.cells #[.slice none 0 0, .map (some w.heap.size)] 60))) := ((Below.refl _ _).alloc (Nat.le_refl _) _).alloc (by simp) _
  have HSZ : Hid (((w.alloc (.map #[] 0)).alloc (.cells #[.slice none 0 0, .map (some w.heap.size)] 60)).heap.size = w.heap.size + 2) := by show _ = _; simp
  have hmm := @run_makeMap Tryd.prog
  cases hn : newB n with
  | false =>
    have hg : growB [] n = false := by simpa [growB, newB] using hn
    rw [show gErr [] n = 20 by simp [gErr, hg]] at HG
    have HN := hide hn
    clear hg hn
    go_enter Tryd.func17, Tryd.ntmps17
    go_wp2_with (go_at_call 23; refine HG.out.mono ?_; rintro e w' ⟨rfl, hdk, htn⟩; rw [show errV 20 = .iface 46 (.int .i64 20) from rfl])
    have HT := hide htn
    clear htn hdk
    go_wp2
    go_ret2
    refine ⟨HB.out.trans (HT.out.below (B := w.heap.size) (by rw [HSZ.out]; omega) (fun k hk => hk.1)), ?_⟩
    rw [HN.out]
    rfl
  | true =>
    have hg : growB [] n = true := by simpa [growB, newB] using hn
    rw [show gErr [] n = 0 by simp [gErr, hg], show gSet [] n = fresh n.toNat by simp [gSet, hg, fresh]] at HG
    have HN := hide hn
    clear hg hn
    go_enter Tryd.func17, Tryd.ntmps17
    go_wp2_with (go_at_call 23; refine HG.out.mono ?_; rintro e w' ⟨rfl, hdk, htn⟩; rw [errV_zero])
    have HT := hide htn
    have HDK := hide hdk
    clear htn hdk
    go_wp2
    go_ret2
    refine ⟨HB.out.trans (HT.out.below (B := w.heap.size) (by rw [HSZ.out]; omega) (fun k hk => hk.1)), ?_⟩
    rw [HN.out]
    have hs := HT.out.size
    rw [HSZ.out] at hs
    refine ⟨_, _, rfl, HDK.out, fun k hk => ?_⟩
    rcases hk with hk | hk
    · omega
    · rw [HSZ.out] at hk; omega
end Go.Proofs.YtliboiajhhnajaaDoor
