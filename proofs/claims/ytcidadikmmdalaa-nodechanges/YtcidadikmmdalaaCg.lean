/- Change. -/
import Derived.Test.YtcidadikmmdalaaReA0
import Derived.Test.YtcidadikmmdalaaReA12
import Derived.Test.YtcidadikmmdalaaReB0
import Derived.Test.YtcidadikmmdalaaReB1
import Derived.Test.YtcidadikmmdalaaReB2
import Derived.Test.YtcidadikmmdalaaPu
namespace Go.Proofs.Ytcidadikmmdalaa
open Go.RowKit Go.Extern

theorem replace_any {w : World} {g n : Nat} {l : List En} (hr : RowE w g l) (hl : l.length = n) (hn : n ≤ 200) (hok : ∀ p ∈ l, enOk p) {i j : Nat} (hj : i + 1 = j) (hjn : j ≤ n) {a : Addr} {c cv : Nat} {ms : List En} (hs : SrcE w a ms) (hc : ms.length = c) (hc2 : c ≤ 2) (hcv : c ≤ cv) (hcm : cv ≤ maxLen) (hmo : ∀ p ∈ ms, enOk p) {B : Nat} (hB : B ≤ g) :
    Calls Try.prog 34 #[.slice (some ⟨g, 0, none⟩) n n, .int .i64 (i : Int), .int .i64 (j : Int), .slice (some a) c cv] w (Gave B w (l.take i ++ ms ++ l.drop j)) := by
  by_cases h : j = n
  · rcases Nat.eq_zero_or_pos c with e | e
    · subst e; exact replace_A0 hr hl hn hok hj h hs hc hmo hB
    · exact replace_A12 hr hl hn hok hj h e hc2 hs hc hcv hcm hmo hB
  · rcases (show c = 0 ∨ c = 1 ∨ c = 2 by omega) with e | e | e
    · subst e; exact replace_B0 hr hl hn hok hj (by omega) hs hc hmo hB
    · subst e; exact replace_B1 hr hl hn hok hj (by omega) hs hc hmo hB
    · subst e; exact replace_B2 hr hl hn hok hj (by omega) hs hc hmo hB
/-- The pairs with others in the place of one. -/
def chgS (l : List En) (i : Nat) (ms : List En) : List En := l.take i ++ ms ++ l.drop (i + 1)

set_option maxRecDepth 100000 in
set_option maxHeartbeats 1000000 in
theorem change_bad {w : World} {kv vv : Value} {K V : List Int} {L : Int} (hk : Ints w kv K) (hv : Ints w vv V) (h : ¬ Rt L K V) (at_ : Int) (a : Option Addr) (c cv : Nat) :
    Calls Try.prog 21 #[.agg #[.int .i64 L, kv, vv], .int .i64 at_, .slice a c cv] w (Putted w [] 70) := by
  have HBA := hide (bel_alloc w (.cells #[.int .i64 L, kv, vv] 26))
  have hC := check_bad (hk.below HBA.out) (hv.below HBA.out) h
  obtain ⟨aK, nK, cK, rfl, -⟩ := hk.form
  obtain ⟨aV, nV, cV, rfl, -⟩ := hv.form
  rw [errV_code (by omega)] at hC
  clear hk hv h
  go_enter Try.func21, Try.ntmps21
  go_wp2_with (go_at_call 24; refine hC.mono ?_; rintro e w1 ⟨rfl, hb1⟩; have HB1 := hide hb1; clear hb1)
  go_ret2
  exact ⟨_, by rw [errV_code (by omega)]; rfl, Nds.nil _, nextB HBA.out HB1.out⟩

set_option maxRecDepth 100000 in
set_option maxHeartbeats 1000000 in
theorem change_key {w : World} {kv vv : Value} {K V : List Int} {L : Int} (hk : Ints w kv K) (hv : Ints w vv V) (h : Rt L K V) {at_ : Int} {a : Option Addr} {c cv : Nat} (hx : at_ < 0 ∨ (K.length : Int) ≤ at_ ∨ 2 < c) :
    Calls Try.prog 21 #[.agg #[.int .i64 L, kv, vv], .int .i64 at_, .slice a c cv] w (Putted w [] 80) := by
  have HBA := hide (bel_alloc w (.cells #[.int .i64 L, kv, vv] 26))
  have hC := check_ok (hk.below HBA.out) (hv.below HBA.out) h
  have HX := hide (BoxN.new 26 w L kv vv)
  obtain ⟨aK, n, cK, rfl, hn⟩ := hk.form
  obtain ⟨aV, nV, cV, rfl, -⟩ := hv.form
  rw [← hn.out] at hx
  clear hk hv h hn
  by_cases h0 : at_ < 0
  · clear hx
    go_enter Try.func21, Try.ntmps21
    go_wp2_with (go_at_call 24; refine hC.mono ?_; rintro e w1 ⟨rfl, hb1⟩; have HB1 := hide hb1; clear hb1)
    go_ret2
    exact ⟨_, by rw [errV_code (by omega)]; rfl, Nds.nil _, nextB HBA.out HB1.out⟩
  by_cases h1 : (n : Int) ≤ at_
  · clear hx
    go_enter Try.func21, Try.ntmps21
    go_wp2_with (go_at_call 24; refine hC.mono ?_; rintro e w1 ⟨rfl, hb1⟩; have HB1 := hide hb1; obtain ⟨x0, x1, x2⟩ := (HX.out.below hb1).cells; clear hb1)
    go_ret2
    exact ⟨_, by rw [errV_code (by omega)]; rfl, Nds.nil _, nextB HBA.out HB1.out⟩
  · have h2 : 2 < (c : Int) := by omega
    clear hx
    go_enter Try.func21, Try.ntmps21
    go_wp2_with (go_at_call 24; refine hC.mono ?_; rintro e w1 ⟨rfl, hb1⟩; have HB1 := hide hb1; obtain ⟨x0, x1, x2⟩ := (HX.out.below hb1).cells; clear hb1)
    go_ret2
    exact ⟨_, by rw [errV_code (by omega)]; rfl, Nds.nil _, nextB HBA.out HB1.out⟩

set_option maxRecDepth 100000 in
set_option maxHeartbeats 2000000 in
theorem change_in {w : World} {kv vv : Value} {K V : List Int} {L : Int} (hk : Ints w kv K) (hv : Ints w vv V) (h : Rt L K V) {i : Nat} (hi : i < K.length) {a : Addr} {c cv : Nat} {ms : List En} (hs : SrcE w a ms) (hc : ms.length = c) (hc2 : c ≤ 2) (hcv : c ≤ cv) (hcm : cv ≤ maxLen) (hmo : ∀ p ∈ ms, enOk p) (b : Bool) (hb : risB (chgS (K.zip V) i ms) = b) :
    Calls Try.prog 21 #[.agg #[.int .i64 L, kv, vv], .int .i64 (i : Int), .slice (some a) c cv] w (if b = true then Putted w (cutS L (chgS (K.zip V) i ms)) 0 else Putted w [] 80) := by
  have HBA := hide (bel_alloc w (.cells #[.int .i64 L, kv, vv] 26))
  have hC := check_ok (hk.below HBA.out) (hv.below HBA.out) h
  have HK := hide (hk.below HBA.out)
  have HV := hide (hv.below HBA.out)
  have HX := hide (BoxN.new 26 w L kv vv)
  have HR := hide h
  have HOK := hide (zip_ok hk hv)
  have HS := hide (hs.below HBA.out)
  have HC := hide (And.intro hc (And.intro hcv (And.intro hcm hmo)))
  obtain ⟨aK, n, cK, rfl, hn⟩ := hk.form
  obtain ⟨aV, nV, cV, rfl, -⟩ := hv.form
  have hfew := h.few
  rw [← hn.out] at hi hfew
  have HI := hide hi
  have h1 : ¬ (n : Int) ≤ (i : Int) := by omega
  have h2 : ¬ 2 < (c : Int) := by omega
  have h0 : ¬ (i : Int) < 0 := by omega
  have HNK := hide hn.out
  have HBB := hide hb
  have HC2 := hide hc2
  clear hk hv h hn hs hc hcv hcm hmo hi hb hc2
  have key : Calls Try.prog 21 #[.agg #[.int .i64 L, .slice aK n cK, .slice aV nV cV], .int .i64 (i : Int), .slice (some a) c cv] w (fun e w' => if b = true then Putted w (cutS L (chgS (K.zip V) i ms)) 0 e w' else Putted w [] 80 e w') := by
    go_enter Try.func21, Try.ntmps21
    go_wp2_with fail
    refine hC.mono ?_
    rintro e w1 ⟨rfl, hb1⟩
    have HB1 := hide hb1
    obtain ⟨x0, x1, x2⟩ := (HX.out.below hb1).cells
    clear hb1 hC
    go_wp2_with fail
    clear x0 x1 x2
    refine (pairs_any L (HK.out.below HB1.out) (HV.out.below HB1.out) HR.out.same (by have := HR.out.few; omega)).mono ?_
    rintro e w3 ⟨g, n3, rfl, HN3, hr3, hg3, hb3⟩
    obtain ⟨hc, hcv, hcm, hmo⟩ := HC.out
    have hn3 : n3 = n := by rw [HN3.out, HR.out.len]; exact HNK.out.symm
    have hRp := replace_any hr3 HN3.out.symm (by omega) HOK.out (i := i) (j := i + 1) rfl (by have := HI.out; omega) (HS.out.below (nextB HB1.out hb3)) hc HC2.out hcv hcm hmo hg3
    have HRP := hide hRp
    have hn3' := hn3
    subst hn3'
    have HBS := hide (nextB HBA.out (nextB HB1.out hb3))
    have HX3 := hide (HX.out.below (nextB HB1.out hb3))
    have hlt1 : w.heap.size < w1.heap.size := by have h1 := HB1.out.size; simp at h1; omega
    have HLT := hide hlt1
    have e1 : IntKind.i64.wrap ((i : Int) + 1) = ((i + 1 : Nat) : Int) := by rw [show (i : Int) + 1 = ((i + 1 : Nat) : Int) by omega]; exact IntWalk.i64_in _ ⟨by omega, by omega⟩
    clear hRp hr3 hg3 hb3 hc hcv hcm hmo hlt1 hn3
    go_wp2_with fail
    clear e1
    refine HRP.out.mono ?_
    rintro e w4 ⟨v4, rfl, he4, hb4⟩
    have HE4 := hide he4
    have hx4 : BoxN 26 w4 w.heap.size L (.slice aK n3 cK) (.slice aV nV cV) := by
      unfold BoxN
      rw [hb4.block _ HLT.out]; exact HX3.out
    have HX4 := hide hx4
    have HB4 := hide (HBS.out.trans (hb4.mono (by have := HLT.out; omega)))
    obtain ⟨a4, n4, c4, rfl, hn4⟩ := he4.form
    have HLN : Hid ((chgS (K.zip V) i ms).length ≤ 1000) := hide (by have := HR.out.len; have := HR.out.few; have := HC.out.1; have := HC2.out; unfold chgS; simp; omega)
    clear he4 hb4 hx4 hn4
    go_wp2_with fail
    refine (allRight_any HE4.out).mono ?_
    rintro e w5 ⟨rfl, hb5⟩
    rw [show risB ((K.zip V).take i ++ ms ++ (K.zip V).drop (i + 1)) = b from HBB.out]
    have HB5 := hide hb5
    obtain ⟨x0, x1, x2⟩ := (HX4.out.below hb5).cells
    clear hb5
    cases b with
    | false =>
      go_wp2_with fail
      go_ret2
      exact ⟨_, by rw [errV_code (by omega)]; rfl, Nds.nil _, nextB HB4.out HB5.out⟩
    | true =>
      go_wp2_with fail
      refine (cut_any (l := chgS (K.zip V) i ms) (HE4.out.below HB5.out) HLN.out L).mono ?_
      rintro e w7 ⟨v7, rfl, hn7', hb7⟩
      have HN7 := hide hn7'
      have HB8 := hide (nextB HB4.out (nextB HB5.out hb7))
      obtain ⟨ao, cap, g7, n7, rfl, -⟩ := hn7'
      clear hb7
      go_wp2_with fail
      go_ret2
      exact ⟨_, rfl, HN7.out, HB8.out⟩
  cases b with
  | true => exact key
  | false => exact key
end Go.Proofs.Ytcidadikmmdalaa
