/- Replace. -/
import Derived.Test.YtcidadikmmdalaaRe0
namespace Go.Proofs.Ytcidadikmmdalaa
open Go.RowKit Go.Extern

set_option maxRecDepth 100000 in
set_option maxHeartbeats 1000000 in
theorem replace_A0 {w : World} {g n : Nat} {l : List En} (hr : RowE w g l) (hl : l.length = n) (hn : n ≤ 200) (hok : ∀ p ∈ l, enOk p) {i j : Nat} (hj : i + 1 = j) (hjn0 : j = n) {a : Addr} {cv : Nat} {ms : List En} (hs : SrcE w a ms) (hc : ms.length = 0) (hmo : ∀ p ∈ ms, enOk p) {B : Nat} (hB : B ≤ g) :
    Calls Try.prog 34 #[.slice (some ⟨g, 0, none⟩) n n, .int .i64 (i : Int), .int .i64 (j : Int), .slice (some a) 0 cv] w (Gave B w (l.take i ++ ms ++ l.drop j)) := by
  subst hjn0
  obtain rfl : ms = [] := List.length_eq_zero_iff.1 hc
  have hlt : (l.take i).length = i := by simp; omega
  have hii : ¬ ((i : Int) = (j : Int)) := by omega
  have hii2 : ¬ (i = j) := by omega
  have hle : (i : Int) ≤ (j : Int) := by omega
  have hjn : (j : Int) ≤ (j : Int) := by omega
  have hap := run_roomE hr (i := i) (n := j) (sLen := 0) (sCap := cv) (ms := []) hs rfl (by omega) (by omega) 47
  rw [lay_nil, Nat.add_zero] at hap
  have hr1 : RowE (putE w g l) g l := putE_row hr l
  have hb1 : Below B w (putE w g l) := putE_below (Below.refl B w) hB l
  obtain ⟨w1, hw1⟩ : ∃ w1, putE w g l = w1 := ⟨_, rfl⟩
  rw [hw1] at hap hr1 hb1
  have hcl := run_clearE hr1 (o := i) (n := j - i) (c := j - i) (by omega) (by omega) 0
  have e2 := lay_app (l.take i) (l.drop i) (List.replicate (j - i) ((0, 0) : En))
  rw [hlt, List.take_append_drop] at e2
  rw [e2] at hcl
  have hr2 := putE_row hr1 (l.take i ++ List.replicate (j - i) ((0, 0) : En) ++ (l.drop i).drop (List.replicate (j - i) ((0, 0) : En)).length)
  have hb2 := putE_below hb1 hB (l.take i ++ List.replicate (j - i) ((0, 0) : En) ++ (l.drop i).drop (List.replicate (j - i) ((0, 0) : En)).length)
  rw [List.append_assoc (l.take i)] at hr2
  have HE := hide (RowE.head hr2 (n := i) (C := j) (fun p hp => hok p (List.mem_of_mem_take hp)) (by omega) hlt.symm (by omega) (by unfold maxLen; omega))
  have HB2 := hide hb2
  rw [List.append_assoc (l.take i)] at hcl HB2
  obtain ⟨w2, hw2⟩ : ∃ w2, putE w1 g (l.take i ++ (List.replicate (j - i) ((0, 0) : En) ++ (l.drop i).drop (List.replicate (j - i) ((0, 0) : En)).length)) = w2 := ⟨_, rfl⟩
  rw [hw2] at hcl HE HB2
  have e3 : l.take i ++ [] ++ l.drop j = l.take i := by rw [List.drop_of_length_le (by omega)]; simp
  rw [e3]
  have hne : ¬ (j = i) := by omega
  have hltI : (i : Int) < (j : Int) := by omega
  clear hr hl hok hs hc hmo hw1 hr1 hb1 hr2 hb2 hw2 e2 e3 hlt hj
  go_enter Try.func34, Try.ntmps34
  go_wp2_with (first
    | (at_builtin; refine wpList_append_eq rfl _ _ rfl rfl rfl hap ?_; clear hap)
    | (at_builtin; refine wpList_clear_eq rfl _ rfl rfl hcl ?_; clear hcl))
  go_ret
  exact ⟨_, rfl, HE.out, HB2.out⟩
end Go.Proofs.Ytcidadikmmdalaa
