/- Which of the entries clash with one. -/
import Derived.Test.YtjofbehmhdjohaaFd
import Derived.Test.YtjofbehmhdjohaaTk
namespace Go.Proofs.Ytjofbehmhdjohaa
open Go.RowKit Go.Extern

set_option maxRecDepth 100000 in
set_option maxHeartbeats 2000000 in
theorem idxE_any {w : World} {v : Value} {E : List En} (hv : Ens w v E) {x : En} (hx : Sps w anyZ x.sv x.sps) :
    Calls Try.prog 46 #[v, .func (.func 38) #[.agg #[.int .i64 x.num, .slice x.ao x.n x.cap]] #[]] w (Idx w (E.any fun s => clE x.sps s.sps)) := by
  have HV := hide hv
  have HX := hide hx
  obtain ⟨ao, cap, g, off, rfl, h2, h3, -, h5, -⟩ := hv
  have H2 := hide h2
  have H3 := hide h3
  obtain ⟨n, hn⟩ : ∃ n, E.length = n := ⟨_, rfl⟩
  rw [hn] at h5 HV ⊢
  have HN := hide hn
  clear h2 h3 hn hx
  go_enter Try.func46, Try.ntmps46
  go_wp2_with fail
  go_loopg [8] n (fun k i wr => ∃ j : Nat, j + k = n ∧ i = .int .i64 (j : Int) ∧ Hid (((E.take j).any fun s => clE x.sps s.sps) = false) ∧ Hid (Below w.heap.size w wr))
  case atStart => exact ⟨0, by omega, rfl, hide (by simp), hide (Below.refl _ _)⟩
  case round =>
    obtain ⟨j, hj, rfl, HA, HB⟩ := hrel
    cases gk with
    | zero =>
      have hnl : ¬ (j : Int) < (n : Int) := by omega
      have hend : E.take j = E := List.take_of_length_le (by rw [HN.out]; omega)
      rw [hend] at HA
      clear hend
      go_wp2_with fail
      go_ret
      exact ⟨⟨-1, rfl, by rw [HA.out]; rfl⟩, HB.out⟩
    | succ m =>
      have hlt : (j : Int) < (n : Int) := by omega
      have hb0 : (0 : Int) ≤ (j : Int) := by omega
      obtain ⟨p, he⟩ : ∃ e, E[j]? = some e := ⟨E[j]'(by rw [HN.out]; omega), by rw [List.getElem?_eq_getElem]⟩
      obtain rfl := H2.out (by rw [HN.out]; omega)
      obtain ⟨k0, k1⟩ := H3.out j p he
      have HP := hide (HV.out.sps (List.mem_of_getElem? he))
      have HT := hide (take_snoc he)
      replace k0 := cell_bel HB.out k0
      replace k1 := cell_bel HB.out k1
      have hj63 : (j : Int) + 1 < 140737488355328 + 1 := by omega
      clear he
      go_wp2_with fail
      clear k0 k1
      refine (clashes_any (HX.out.below HB.out) (HP.out.below HB.out)).mono ?_
      rintro e w1 ⟨rfl, hb1⟩
      have HB1 := hide (nextB HB.out hb1)
      clear hb1
      cases hc : clE x.sps p.sps with
      | true =>
        have HC := hide hc
        clear hc
        go_wp2_with fail
        go_ret
        exact ⟨⟨_, rfl, by rw [List.any_eq_true.2 ⟨p, List.mem_of_mem_take (by rw [HT.out]; simp), HC.out⟩]; simp⟩, HB1.out⟩
      | false =>
        have HC := hide hc
        clear hc
        go_wp2_with fail
        go_roundg m
        case measure => omega
        case rel => exact ⟨j + 1, by omega, by simp, hide (by rw [HT.out, List.any_append, HA.out]; simp [HC.out]), HB1⟩
set_option maxRecDepth 100000 in
theorem contE_any {w : World} {v : Value} {E : List En} (hv : Ens w v E) {x : En} (hx : Sps w anyZ x.sv x.sps) :
    Calls Try.prog 41 #[v, .func (.func 38) #[.agg #[.int .i64 x.num, .slice x.ao x.n x.cap]] #[]] w (Clc w (E.any fun s => clE x.sps s.sps)) := by
  have hI := idxE_any hv hx
  obtain ⟨a, n, c, rfl, -⟩ := hv.form
  obtain ⟨P, hP⟩ : ∃ P, (E.any fun s => clE x.sps s.sps) = P := ⟨_, rfl⟩
  rw [hP] at hI ⊢
  clear hv hx hP
  go_enter Try.func41, Try.ntmps41
  go_wp2_with fail
  refine hI.mono ?_
  rintro e w1 ⟨⟨k, rfl, hk⟩, hb⟩
  have HK := hide hk
  have HB := hide hb
  clear hk hb
  go_wp2_with fail
  go_ret
  exact ⟨by rw [← HK.out]; rfl, HB.out⟩

/-- A table, in memory: block 'b', the slice 'v' of its entries; its blocks are among 'F'. -/
structure TbAt (w : World) (F : Nat → Prop) (b : Nat) (v : Value) (E : List En) (last : Int) : Prop where
  blk : w.heap[b]? = some (.cells #[v, .int .i64 last] 64 (0, 0))
  own : OwnK enE 2 69 w 0 v E
  fb : F b
  fv : ∀ k, v.ownBlock = some k → F k ∧ k ≠ b
  sp : ∀ e ∈ E, Sps w (fun k => F k ∧ k ≠ b ∧ v.ownBlock ≠ some k) e.sv e.sps
  flt : ∀ k, F k → k < w.heap.size
  up : Up (E.map En.num)
  num : ∀ e ∈ E, 1 ≤ e.num ∧ e.num ≤ last
  lst : 0 ≤ last ∧ last ≤ 900
def Tb (w : World) (F : Nat → Prop) (b : Nat) (E : List En) (last : Int) : Prop := ∃ v, TbAt w F b v E last
section
variable {w w' : World} {F : Nat → Prop} {b : Nat} {v : Value} {E : List En} {last : Int}
theorem TbAt.keep (h : TbAt w F b v E last) (hs : w.heap.size ≤ w'.heap.size) (hk : ∀ k, F k → w'.heap[k]? = w.heap[k]?) : TbAt w' F b v E last :=
  ⟨by rw [hk b h.fb]; exact h.blk, h.own.same fun k o hv ho => by rw [hk k (h.fv k hv).1]; exact ho, h.fb, h.fv, fun e he => (h.sp e he).keep fun k _ hz => hk k hz.1, fun k hf => Nat.lt_of_lt_of_le (h.flt k hf) hs, h.up, h.num, h.lst⟩
theorem TbAt.below (h : TbAt w F b v E last) (hb : Below w.heap.size w w') : TbAt w' F b v E last := h.keep hb.size fun k hf => hb.block k (h.flt k hf)
theorem Tb.keep (h : Tb w F b E last) (hs : w.heap.size ≤ w'.heap.size) (hk : ∀ k, F k → w'.heap[k]? = w.heap[k]?) : Tb w' F b E last := by
  obtain ⟨v, h⟩ := h; exact ⟨v, h.keep hs hk⟩
theorem Tb.below (h : Tb w F b E last) (hb : Below w.heap.size w w') : Tb w' F b E last := by obtain ⟨v, h⟩ := h; exact ⟨v, h.below hb⟩
theorem TbAt.ens (h : TbAt w F b v E last) : Ens w v E := h.own.ens fun e he => (h.sp e he).mono fun _ _ _ => trivial
theorem TbAt.c0 (h : TbAt w F b v E last) : w.cell? ⟨b, 0, none⟩ = some v := row_cell h.blk 0
theorem TbAt.c1 (h : TbAt w F b v E last) : w.cell? ⟨b, 1, none⟩ = some (.int .i64 last) := row_cell h.blk 1
theorem Tb.flt (h : Tb w F b E last) : ∀ k, F k → k < w.heap.size := by obtain ⟨v, h⟩ := h; exact h.flt
theorem Tb.fb (h : Tb w F b E last) : F b := by obtain ⟨v, h⟩ := h; exact h.fb
theorem Tb.up (h : Tb w F b E last) : Up (E.map En.num) := by obtain ⟨v, h⟩ := h; exact h.up
theorem Tb.num (h : Tb w F b E last) : ∀ e ∈ E, 1 ≤ e.num ∧ e.num ≤ last := by obtain ⟨v, h⟩ := h; exact h.num
theorem Tb.lst (h : Tb w F b E last) : 0 ≤ last ∧ last ≤ 900 := by obtain ⟨v, h⟩ := h; exact h.lst
theorem Tb.few (h : Tb w F b E last) : E.length ≤ 1000 := by obtain ⟨v, h⟩ := h; exact h.own.2
end
/-- What New leaves. -/
def Newd (w : World) (e : Ending) (w' : World) : Prop := e = .returned (.pointer (some ⟨w.heap.size, 0, none⟩)) ∧ Tb w' (fun k => k = w.heap.size) w.heap.size [] 0 ∧ Below w.heap.size w w'
theorem new_any (w : World) : Calls Try.prog 12 #[] w (Newd w) := by
  have HB := hide (bel_alloc w (.cells #[.slice none 0 0, .int .i64 0] 64))
  have HT : Hid (Tb (w.alloc (.cells #[.slice none 0 0, .int .i64 0] 64)) (fun k => k = w.heap.size) w.heap.size [] 0) :=
    ⟨_, heap_alloc_new _ _, OwnK.nil _ _ _, rfl, fun k h => by simp [Value.ownBlock] at h, by simp, fun k hk => by simp [hk], by simp [Up], by simp, by simp⟩
  go_enter Try.func12, Try.ntmps12
  go_wp2
  go_ret
  exact ⟨rfl, HT.out, HB.out⟩
set_option maxRecDepth 100000 in
theorem find_any {w : World} {F : Nat → Prop} {b : Nat} {E : List En} {last : Int} (h : Tb w F b E last) (k : Int) : Calls Try.prog 36 #[.pointer (some ⟨b, 0, none⟩), .int .i64 k] w (Fnd w E k) := by
  obtain ⟨v, h⟩ := h
  have hS := bsf_any h.ens h.up k
  have c0 := h.c0
  obtain ⟨a, n, c, rfl, -⟩ := h.ens.form
  clear h
  go_enter Try.func36, Try.ntmps36
  go_wp2_with fail
  refine hS.mono ?_
  rintro e w1 ⟨⟨m, q, rfl, h1, h2, h3⟩, hb⟩
  have H1 := hide h1
  have H2 := hide h2
  have H3 := hide h3
  have HB := hide hb
  clear h1 h2 h3 hb c0
  go_wp2_with fail
  go_ret2
  exact ⟨⟨m, q, rfl, H1.out, H2.out, H3.out⟩, HB.out⟩
end Go.Proofs.Ytjofbehmhdjohaa
