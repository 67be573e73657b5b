/- The fixed answer. -/
import Derived.Test.YtjofbehmhdjohaaAd
namespace Go.Proofs.Ytjofbehmhdjohaa
open Go.RowKit Go.Extern

theorem sps_lit1 (w : World) (s : S) (hs : sOk s) : Sps (w.alloc (.cells #[.int .i64 s.vol, .int .i64 s.frm, .int .i64 s.len, .bool s.wr] 24)) (fun k => k = w.heap.size) (.slice (some ⟨w.heap.size, 0, none⟩) 1 1) [s] := by
  refine ⟨_, 1, w.heap.size, 0, rfl, fun _ => ⟨rfl, rfl⟩, fun i x hx => ?_, by simpa using hs, by simp, by simp, by simp, by unfold maxLen; omega⟩
  obtain ⟨rfl, rfl⟩ : i = 0 ∧ x = s := by
    cases i with
    | zero => exact ⟨rfl, by simpa using hx.symm⟩
    | succ i => simp at hx
  have h := heap_alloc_new w (.cells #[.int .i64 x.vol, .int .i64 x.frm, .int .i64 x.len, .bool x.wr] 24)
  exact ⟨row_cell h 0, row_cell h 1, row_cell h 2, row_cell h 3⟩
theorem awake_right1 : ([⟨1, 0, 4, true⟩] : List S).all rightB = true := by decide
theorem awake_right2 : ([⟨1, 3, 1, false⟩] : List S).all rightB = true := by decide
theorem awake_free {x y : En} (hx : x.sps = [⟨1, 0, 4, true⟩]) (hy : y.sps = [⟨1, 3, 1, false⟩]) : freeB [x, y] x 0 = true ∧ freeB [x, y] y 1 = false := by
  refine ⟨by simp [freeB], ?_⟩
  unfold freeB
  simp only [List.take_succ_cons, List.take_zero, List.any_cons, List.any_nil, hx, hy, Bool.or_false]
  decide
/-- Add of one span that is handed in as such. -/
theorem add_one {w : World} {F : Nat → Prop} {b : Nat} {E : List En} {last : Int} (h : Tb w F b E last) {s : S} (hs : sOk s) (hr : rightB s = true) (hlast : last + 1 ≤ 900) :
    Calls Try.prog 14 #[.pointer (some ⟨b, 0, none⟩), .slice (some ⟨w.heap.size, 0, none⟩) 1 1] (w.alloc (.cells #[.int .i64 s.vol, .int .i64 s.frm, .int .i64 s.len, .bool s.wr] 24)) (fun e w' =>
      ∃ x : En, e = .returned (.tuple #[.int .i64 (last + 1), .nilIface]) ∧ x.num = last + 1 ∧ x.sps = [s] ∧ Tb w' (ext F w w') b (E ++ [x]) (last + 1) ∧ Turn F w w') := by
  have hA := bel_alloc w (.cells #[.int .i64 s.vol, .int .i64 s.frm, .int .i64 s.len, .bool s.wr] 24)
  refine (add_ok (h.below hA) (sps_lit1 w s hs) (by simpa using hr) (by simp) hlast (fun k _ hk e => by have := h.flt b h.fb; omega)).mono ?_
  rintro e w' ⟨x, rfl, h1, h2, h3, h4⟩
  have ht : Turn F w w' := (Turn.of_below hA).trans h4 fun _ _ h => h
  refine ⟨x, rfl, h1, h2, h3.refit (fun k hk => ?_) (fun k hk => ?_), ht⟩
  · rcases hk with hk | hk
    · exact .inl hk
    · exact .inr ⟨by have := hk.1; simp at this; omega, hk.2⟩
  · rcases hk with hk | hk
    · have := h.flt k hk; have := ht.size; omega
    · exact hk.2
/-- .. that is not right. -/
theorem add_one_bad {w : World} {b : Nat} {s : S} (hs : sOk s) (hr : rightB s = false) :
    Calls Try.prog 14 #[.pointer (some ⟨b, 0, none⟩), .slice (some ⟨w.heap.size, 0, none⟩) 1 1] (w.alloc (.cells #[.int .i64 s.vol, .int .i64 s.frm, .int .i64 s.len, .bool s.wr] 24)) (fun e w' =>
      e = .returned (.tuple #[.int .i64 0, .iface 66 (.int .i64 20)]) ∧ Below w.heap.size w w') := by
  have hA := bel_alloc w (.cells #[.int .i64 s.vol, .int .i64 s.frm, .int .i64 s.len, .bool s.wr] 24)
  refine (add_bad (sps_lit1 w s hs) (by simpa using hr)).mono ?_
  rintro e w' ⟨rfl, hb⟩
  exact ⟨rfl, nextB hA hb⟩
theorem sOk_small {a b c : Int} {d : Bool} (h : 0 ≤ a ∧ a < 1000) (h2 : 0 ≤ b ∧ b < 1000) (h3 : 0 ≤ c ∧ c < 1000) : sOk ⟨a, b, c, d⟩ := ⟨by unfold I64; simp only; omega, by unfold I64; simp only; omega, by unfold I64; simp only; omega⟩

set_option maxRecDepth 100000 in
set_option maxHeartbeats 2000000 in
theorem awake_any (w : World) : Calls Try.prog 11 #[] w fun e w' => e = .returned (.bool true) ∧ Below w.heap.size w w' := by
  go_enter Try.func11, Try.ntmps11
  go_wp2_with fail
  refine (new_any w).mono ?_
  rintro e w1 ⟨rfl, ht, hb1⟩
  have HT := hide ht
  have HB1 := hide hb1
  obtain ⟨b, hb⟩ : ∃ b, w.heap.size = b := ⟨_, rfl⟩
  have HBB := hide hb
  simp only [hb] at HT
  rw [hb]
  clear ht hb1 hb
  go_wp2_with fail
  refine (add_one (s := ⟨1, 0, 4, true⟩) HT.out (sOk_small (by omega) (by omega) (by omega)) (by decide) (by omega)).mono ?_
  rintro e w2 ⟨x1, rfl, n1, s1, ht2, tu2⟩
  have HT2 := hide ht2
  have HB2 := hide (HB1.out.trans (tu2.below HB1.out.size (fun k hk => by have := HBB.out; omega)))
  have HW1 := hide HB1.out.size
  have HN1 := hide n1
  have HS1 := hide s1
  clear ht2 tu2 HB1 HT n1 s1
  go_wp2_with fail
  refine (add_one (s := ⟨1, 3, 1, false⟩) HT2.out (sOk_small (by omega) (by omega) (by omega)) (by decide) (by omega)).mono ?_
  rintro e w3 ⟨x2, rfl, n2, s2, ht3, tu3⟩
  have HT3 := hide ht3
  have HB3 := hide (HB2.out.trans (tu3.below HB2.out.size (fun k hk => by
    rcases hk with hk | hk
    · have := HBB.out; omega
    · have := HBB.out; have := HW1.out; omega)))
  have HN2 := hide n2
  have HS2 := hide s2
  clear ht3 tu3 HB2 HT2 n2 s2
  go_wp2_with fail
  refine (may_any HT3.out 1).mono ?_
  rintro e w4 ⟨⟨r, rfl, hr⟩, hb4⟩
  obtain rfl : r = true := hr.2 (by
    have := (May_at HT3.out.up (p := 0) (x := x1) rfl).2 (awake_free HS1.out HS2.out).1
    rwa [HN1.out] at this)
  have HT4 := hide (HT3.out.below hb4)
  have HB4 := hide (HB3.out.trans (hb4.mono HB3.out.size))
  clear hr hb4 HT3 HB3
  go_wp2_with fail
  refine (may_any HT4.out 2).mono ?_
  rintro e w5 ⟨⟨r, rfl, hr⟩, hb5⟩
  obtain rfl : r = false := by
    cases r with
    | false => rfl
    | true =>
      have h0 := hr.1 rfl
      have h1 := May_at HT4.out.up (p := 1) (x := x2) rfl
      rw [HN2.out] at h1
      have h2 := h1.1 h0
      have h3 := (awake_free HS1.out HS2.out).2
      have e : ([] ++ [x1] ++ [x2] : List En) = [x1, x2] := rfl
      rw [e, h3] at h2
      cases h2
  have HB5 := hide (HB4.out.trans (hb5.mono HB4.out.size))
  clear hr hb5 HT4 HB4
  go_wp2_with fail
  go_ret
  exact ⟨rfl, HB5.out⟩
end Go.Proofs.Ytjofbehmhdjohaa
