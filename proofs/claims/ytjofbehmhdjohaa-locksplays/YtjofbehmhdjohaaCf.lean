/- Which spans are right; which clash, one by one. -/
import Derived.Test.YtjofbehmhdjohaaMc
namespace Go.Proofs.Ytjofbehmhdjohaa
open Go.RowKit Go.Extern

set_option maxRecDepth 100000 in
set_option maxHeartbeats 2000000 in
theorem allRight_any {w : World} {Z : Nat → Prop} {v : Value} {l : List S} (hv : Sps w Z v l) :
    Calls Try.prog 32 #[v] w fun e w' => e = .returned (.bool (l.all rightB)) ∧ Below w.heap.size w w' := by
  obtain ⟨ao, cap, g, off, rfl, h2, h3, -, h5, -⟩ := hv
  have H2 := hide h2
  have H3 := hide h3
  obtain ⟨n, hn⟩ : ∃ n, l.length = n := ⟨_, rfl⟩
  rw [hn] at h5 ⊢
  have HN := hide hn
  clear h2 h3 hn
  go_enter Try.func32, Try.ntmps32
  go_wp2_with fail
  go_loopg [7] n (fun k i wr => ∃ j : Nat, j + k = n ∧ i = .int .i64 (j : Int) ∧ Hid ((l.take j).all rightB = true) ∧ Hid (Below w.heap.size w wr))
  case atStart => exact ⟨0, by omega, rfl, hide (by simp), hide (Below.refl _ _)⟩
  case round =>
    obtain ⟨j, hj, rfl, HA, HB⟩ := hrel
    cases gk with
    | zero =>
      have hnl : ¬ (j : Int) < (n : Int) := by omega
      have hend : l.take j = l := List.take_of_length_le (by rw [HN.out]; omega)
      rw [hend] at HA
      clear hend
      go_wp2_with fail
      go_ret
      exact ⟨by rw [HA.out]; rfl, HB.out⟩
    | succ m =>
      have hlt : (j : Int) < (n : Int) := by omega
      have hb0 : (0 : Int) ≤ (j : Int) := by omega
      obtain ⟨p, he⟩ : ∃ e, l[j]? = some e := ⟨l[j]'(by rw [HN.out]; omega), by rw [List.getElem?_eq_getElem]⟩
      obtain rfl := (H2.out (by rw [HN.out]; omega)).1
      obtain ⟨k0, k1, k2, k3⟩ := H3.out j p he
      have HT := hide (take_snoc he)
      replace k0 := cell_bel HB.out k0
      replace k1 := cell_bel HB.out k1
      replace k2 := cell_bel HB.out k2
      replace k3 := cell_bel HB.out k3
      have hj63 : (j : Int) + 1 < 140737488355328 + 1 := by omega
      clear he
      go_wp2_with fail
      clear k0 k1 k2 k3
      refine (isRight_any p _).mono ?_
      rintro e w1 ⟨rfl, hb1⟩
      have HB1 := hide (nextB (nextB HB.out (bel_alloc _ _)) hb1)
      clear hb1
      cases hc : rightB p with
      | false =>
        have HC := hide hc
        clear hc
        go_wp2_with fail
        go_ret
        exact ⟨by rw [List.all_eq_false.2 ⟨p, List.mem_of_mem_take (by rw [HT.out]; simp), by rw [HC.out]; simp⟩]; rfl, HB1.out⟩
      | true =>
        have HC := hide hc
        clear hc
        go_wp2_with fail
        go_roundg m
        case measure => omega
        case rel => exact ⟨j + 1, by omega, by simp, hide (by rw [HT.out, List.all_append, HA.out]; simp [HC.out]), HB1⟩
/-- What IndexFunc leaves. -/
def Idx (w : World) (p : Bool) (e : Ending) (w' : World) : Prop := (∃ k : Int, e = .returned (.int .i64 k) ∧ decide (0 ≤ k) = p) ∧ Below w.heap.size w w'

set_option maxRecDepth 100000 in
set_option maxHeartbeats 2000000 in
theorem idxS_clash {w : World} {Z : Nat → Prop} {v : Value} {l : List S} (hv : Sps w Z v l) {x : S} (hx : sOk x) :
    Calls Try.prog 48 #[v, .func (.func 9) #[spV x] #[]] w (Idx w (l.any fun s => clashB x s)) := by
  have HOK := hide hv.ok
  obtain ⟨ao, cap, g, off, rfl, h2, h3, -, h5, -⟩ := hv
  have H2 := hide h2
  have H3 := hide h3
  have HX := hide hx
  obtain ⟨n, hn⟩ : ∃ n, l.length = n := ⟨_, rfl⟩
  rw [hn] at h5 ⊢
  have HN := hide hn
  clear h2 h3 hn hx
  go_enter Try.func48, Try.ntmps48
  go_wp2_with fail
  go_loopg [8] n (fun k i wr => ∃ j : Nat, j + k = n ∧ i = .int .i64 (j : Int) ∧ Hid (((l.take j).any fun s => clashB x s) = false) ∧ Hid (Below w.heap.size w wr))
  case atStart => exact ⟨0, by omega, rfl, hide (by simp), hide (Below.refl _ _)⟩
  case round =>
    obtain ⟨j, hj, rfl, HA, HB⟩ := hrel
    cases gk with
    | zero =>
      have hnl : ¬ (j : Int) < (n : Int) := by omega
      have hend : l.take j = l := List.take_of_length_le (by rw [HN.out]; omega)
      rw [hend] at HA
      clear hend
      go_wp2_with fail
      go_ret
      exact ⟨⟨-1, rfl, by rw [HA.out]; rfl⟩, HB.out⟩
    | succ m =>
      have hlt : (j : Int) < (n : Int) := by omega
      have hb0 : (0 : Int) ≤ (j : Int) := by omega
      obtain ⟨p, he⟩ : ∃ e, l[j]? = some e := ⟨l[j]'(by rw [HN.out]; omega), by rw [List.getElem?_eq_getElem]⟩
      obtain rfl := (H2.out (by rw [HN.out]; omega)).1
      obtain ⟨k0, k1, k2, k3⟩ := H3.out j p he
      have HP := hide (HOK.out p (List.mem_of_getElem? he))
      have HT := hide (take_snoc he)
      replace k0 := cell_bel HB.out k0
      replace k1 := cell_bel HB.out k1
      replace k2 := cell_bel HB.out k2
      replace k3 := cell_bel HB.out k3
      have hj63 : (j : Int) + 1 < 140737488355328 + 1 := by omega
      clear he
      go_wp2_with fail
      clear k0 k1 k2 k3
      refine (clash_any HX.out HP.out _).mono ?_
      rintro e w1 ⟨rfl, hb1⟩
      have HB1 := hide (nextB HB.out hb1)
      clear hb1
      cases hc : clashB x p with
      | true =>
        have HC := hide hc
        clear hc
        go_wp2_with fail
        go_ret
        exact ⟨⟨_, rfl, by rw [List.any_eq_true.2 ⟨p, List.mem_of_mem_take (by rw [HT.out]; simp), HC.out⟩]; simp⟩, HB1.out⟩
      | false =>
        have HC := hide hc
        clear hc
        go_wp2_with fail
        go_roundg m
        case measure => omega
        case rel => exact ⟨j + 1, by omega, by simp, hide (by rw [HT.out, List.any_append, HA.out]; simp [HC.out]), HB1⟩

def Clc (w : World) (p : Bool) (e : Ending) (w' : World) : Prop := e = .returned (.bool p) ∧ Below w.heap.size w w'
set_option maxRecDepth 100000 in
theorem contS_clash {w : World} {Z : Nat → Prop} {v : Value} {l : List S} (hv : Sps w Z v l) {x : S} (hx : sOk x) :
    Calls Try.prog 44 #[v, .func (.func 9) #[spV x] #[]] w (Clc w (l.any fun s => clashB x s)) := by
  have hI := idxS_clash hv hx
  obtain ⟨a, n, c, rfl, -⟩ := hv.form
  obtain ⟨P, hP⟩ : ∃ P, (l.any fun s => clashB x s) = P := ⟨_, rfl⟩
  rw [hP] at hI ⊢
  clear hv hx hP
  go_enter Try.func44, Try.ntmps44
  go_wp2_with fail
  refine hI.mono ?_
  rintro e w1 ⟨⟨k, rfl, hk⟩, hb⟩
  have HK := hide hk
  have HB := hide hb
  clear hk hb
  go_wp2_with fail
  go_ret
  exact ⟨by rw [← HK.out]; rfl, HB.out⟩
/-- An entry in a block of its own. -/
def BoxE (w : World) (b : Nat) (n : Int) (sv : Value) : Prop := w.heap[b]? = some (.cells #[.int .i64 n, sv] 69 (0, 0))
theorem BoxE.below {w w' : World} {b : Nat} {n : Int} {sv : Value} (h : BoxE w b n sv) (hb : Below w.heap.size w w') : BoxE w' b n sv := blk_below hb h
theorem BoxE.c1 {w : World} {b : Nat} {n : Int} {sv : Value} (h : BoxE w b n sv) : w.cell? ⟨b, 1, none⟩ = some sv := row_cell h 1
theorem BoxE.c0 {w : World} {b : Nat} {n : Int} {sv : Value} (h : BoxE w b n sv) : w.cell? ⟨b, 0, none⟩ = some (.int .i64 n) := row_cell h 0

set_option maxRecDepth 100000 in
theorem clashes1_any {w : World} {Z : Nat → Prop} {b : Nat} {n : Int} {sv : Value} {l : List S} (hb : BoxE w b n sv) (hv : Sps w Z sv l) {s : S} (hs : sOk s) :
    Calls Try.prog 45 #[spV s, .pointer (some ⟨b, 0, none⟩)] w (Clc w (l.any fun o => clashB s o)) := by
  have HA := hide (bel_alloc w (.cells #[.int .i64 s.vol, .int .i64 s.frm, .int .i64 s.len, .bool s.wr] 24))
  have hC := contS_clash (hv.below HA.out) hs
  have c1 := (hb.below HA.out).c1
  obtain ⟨a, m, c, rfl, -⟩ := hv.form
  obtain ⟨P, hP⟩ : ∃ P, (l.any fun o => clashB s o) = P := ⟨_, rfl⟩
  rw [hP] at hC ⊢
  clear hv hs hP hb
  obtain ⟨s0, s1, s2, s3⟩ := s
  unfold spV at *
  simp only at HA hC c1 ⊢
  go_enter Try.func45, Try.ntmps45
  go_wp2_with fail
  refine hC.mono ?_
  rintro e w1 ⟨rfl, hb⟩
  have HB := hide (nextB HA.out hb)
  clear hb c1
  go_wp2_with fail
  go_ret
  exact ⟨rfl, HB.out⟩

set_option maxRecDepth 100000 in
set_option maxHeartbeats 2000000 in
theorem idxS_clo {w : World} {Z : Nat → Prop} {v : Value} {l : List S} (hv : Sps w Z v l) {b : Nat} {n0 : Int} {sv : Value} {lo : List S} {Z2 : Nat → Prop} (hbx : BoxE w b n0 sv) (hlo : Sps w Z2 sv lo) :
    Calls Try.prog 48 #[v, .func (.func 45) #[] #[.pointer (some ⟨b, 0, none⟩)]] w (Idx w (l.any fun s => lo.any fun o => clashB s o)) := by
  have HOK := hide hv.ok
  obtain ⟨ao, cap, g, off, rfl, h2, h3, -, h5, -⟩ := hv
  have H2 := hide h2
  have H3 := hide h3
  have HBX := hide hbx
  have HLO := hide hlo
  obtain ⟨n, hn⟩ : ∃ n, l.length = n := ⟨_, rfl⟩
  rw [hn] at h5 ⊢
  have HN := hide hn
  clear h2 h3 hn hbx hlo
  go_enter Try.func48, Try.ntmps48
  go_wp2_with fail
  go_loopg [8] n (fun k i wr => ∃ j : Nat, j + k = n ∧ i = .int .i64 (j : Int) ∧ Hid (((l.take j).any fun s => lo.any fun o => clashB s o) = false) ∧ Hid (Below w.heap.size w wr))
  case atStart => exact ⟨0, by omega, rfl, hide (by simp), hide (Below.refl _ _)⟩
  case round =>
    obtain ⟨j, hj, rfl, HA, HB⟩ := hrel
    cases gk with
    | zero =>
      have hnl : ¬ (j : Int) < (n : Int) := by omega
      have hend : l.take j = l := List.take_of_length_le (by rw [HN.out]; omega)
      rw [hend] at HA
      clear hend
      go_wp2_with fail
      go_ret
      exact ⟨⟨-1, rfl, by rw [HA.out]; rfl⟩, HB.out⟩
    | succ m =>
      have hlt : (j : Int) < (n : Int) := by omega
      have hb0 : (0 : Int) ≤ (j : Int) := by omega
      obtain ⟨p, he⟩ : ∃ e, l[j]? = some e := ⟨l[j]'(by rw [HN.out]; omega), by rw [List.getElem?_eq_getElem]⟩
      obtain rfl := (H2.out (by rw [HN.out]; omega)).1
      obtain ⟨k0, k1, k2, k3⟩ := H3.out j p he
      have HP := hide (HOK.out p (List.mem_of_getElem? he))
      have HT := hide (take_snoc he)
      replace k0 := cell_bel HB.out k0
      replace k1 := cell_bel HB.out k1
      replace k2 := cell_bel HB.out k2
      replace k3 := cell_bel HB.out k3
      have hj63 : (j : Int) + 1 < 140737488355328 + 1 := by omega
      clear he
      go_wp2_with fail
      clear k0 k1 k2 k3
      refine (clashes1_any (HBX.out.below HB.out) (HLO.out.below HB.out) HP.out).mono ?_
      rintro e w1 ⟨rfl, hb1⟩
      have HB1 := hide (nextB HB.out hb1)
      clear hb1
      cases hc : lo.any fun o => clashB p o with
      | true =>
        have HC := hide hc
        clear hc
        go_wp2_with fail
        go_ret
        exact ⟨⟨_, rfl, by rw [List.any_eq_true.2 ⟨p, List.mem_of_mem_take (by rw [HT.out]; simp), HC.out⟩]; simp⟩, HB1.out⟩
      | false =>
        have HC := hide hc
        clear hc
        go_wp2_with fail
        go_roundg m
        case measure => omega
        case rel => exact ⟨j + 1, by omega, by simp, hide (by rw [HT.out, List.any_append, HA.out]; simp [HC.out]), HB1⟩

/-- Two lists of spans clash. -/
def clE (a b : List S) : Bool := a.any fun s => b.any fun o => clashB s o
theorem clE_iff {a b : List S} : clE a b = true ↔ ∃ s ∈ a, ∃ o ∈ b, clashB s o = true := by simp [clE, List.any_eq_true]
theorem clE_comm (a b : List S) : clE a b = clE b a := by
  rw [Bool.eq_iff_iff, clE_iff, clE_iff]
  constructor
  · rintro ⟨s, hs, o, ho, h⟩; exact ⟨o, ho, s, hs, by rw [clashB_comm]; exact h⟩
  · rintro ⟨s, hs, o, ho, h⟩; exact ⟨o, ho, s, hs, by rw [clashB_comm]; exact h⟩
set_option maxRecDepth 100000 in
theorem contS_clo {w : World} {Z : Nat → Prop} {v : Value} {l : List S} (hv : Sps w Z v l) {b : Nat} {n0 : Int} {sv : Value} {lo : List S} {Z2 : Nat → Prop} (hbx : BoxE w b n0 sv) (hlo : Sps w Z2 sv lo) :
    Calls Try.prog 44 #[v, .func (.func 45) #[] #[.pointer (some ⟨b, 0, none⟩)]] w (Clc w (clE l lo)) := by
  have hI := idxS_clo hv hbx hlo
  obtain ⟨a, n, c, rfl, -⟩ := hv.form
  unfold clE
  obtain ⟨P, hP⟩ : ∃ P, (l.any fun s => lo.any fun o => clashB s o) = P := ⟨_, rfl⟩
  rw [hP] at hI ⊢
  clear hv hbx hlo hP
  go_enter Try.func44, Try.ntmps44
  go_wp2_with fail
  refine hI.mono ?_
  rintro e w1 ⟨⟨k, rfl, hk⟩, hb⟩
  have HK := hide hk
  have HB := hide hb
  clear hk hb
  go_wp2_with fail
  go_ret
  exact ⟨by rw [← HK.out]; rfl, HB.out⟩

set_option maxRecDepth 100000 in
theorem clashes_any {w : World} {Z Z2 : Nat → Prop} {n1 n2 : Int} {v1 v2 : Value} {l1 l2 : List S} (h1 : Sps w Z v1 l1) (h2 : Sps w Z2 v2 l2) :
    Calls Try.prog 38 #[.agg #[.int .i64 n1, v1], .agg #[.int .i64 n2, v2]] w (Clc w (clE l1 l2)) := by
  have hA := bel_alloc w (.cells #[.int .i64 n1, v1] 69)
  have hA2 := bel_alloc (w.alloc (.cells #[.int .i64 n1, v1] 69)) (.cells #[.int .i64 n2, v2] 69)
  have HA := hide (nextB hA hA2)
  have hx : BoxE ((w.alloc (.cells #[.int .i64 n1, v1] 69)).alloc (.cells #[.int .i64 n2, v2] 69)) w.heap.size n1 v1 := BoxE.below (w := w.alloc (.cells #[.int .i64 n1, v1] 69)) (heap_alloc_new _ _) hA2
  have hy : BoxE ((w.alloc (.cells #[.int .i64 n1, v1] 69)).alloc (.cells #[.int .i64 n2, v2] 69)) (w.heap.size + 1) n2 v2 := by have := heap_alloc_new (w.alloc (.cells #[.int .i64 n1, v1] 69)) (.cells #[.int .i64 n2, v2] 69); rwa [World.size_alloc] at this
  have hC := contS_clo (h1.below HA.out) hy (h2.below HA.out)
  have c1 := hx.c1
  obtain ⟨a1, m1, k1, rfl, -⟩ := h1.form
  obtain ⟨a2, m2, k2, rfl, -⟩ := h2.form
  clear h1 h2 hA hA2 hx hy
  go_enter Try.func38, Try.ntmps38
  go_wp2_with fail
  refine hC.mono ?_
  rintro e w1 ⟨rfl, hb⟩
  have HB := hide (nextB HA.out hb)
  clear hb c1
  go_wp2_with fail
  go_ret
  exact ⟨rfl, HB.out⟩
end Go.Proofs.Ytjofbehmhdjohaa
