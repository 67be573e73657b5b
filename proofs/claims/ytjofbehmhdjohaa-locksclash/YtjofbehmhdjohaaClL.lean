/- The law LocksClash. -/
import Derived.Test.YtjofbehmhdjohaaAw
import Derived.Test.YtjofbehmhdjohaaRsp
namespace Go.Proofs.Ytjofbehmhdjohaa
open Go.RowKit Go.Extern

set_option maxRecDepth 100000 in
set_option maxHeartbeats 2000000 in
theorem clashL_any {s o : S} (hso : sOk s) (hoo : sOk o) (w : World) :
    Calls Try.prog 3 #[spV s, spV o] w fun e w' => e = .returned (.bool true) ∧ Below w.heap.size w w' := by
  have hC := fun wx => clash_any hso hoo wx
  have hR := fun wx => rclash_any hso hoo wx
  have hD := fun wx => clash_any hoo hso wx
  rw [clashB_comm o s] at hD
  obtain ⟨q, hq⟩ : ∃ q, clashB s o = q := ⟨_, rfl⟩
  rw [hq] at hC hR hD
  have HA := bel_alloc w (.cells #[.int .i64 s.vol, .int .i64 s.frm, .int .i64 s.len, .bool s.wr] 23)
  have HA2 := bel_alloc (w.alloc (.cells #[.int .i64 s.vol, .int .i64 s.frm, .int .i64 s.len, .bool s.wr] 23)) (.cells #[.int .i64 o.vol, .int .i64 o.frm, .int .i64 o.len, .bool o.wr] 23)
  have HX := hide ((BoxS.new w s 23).below HA2)
  have HY := hide (BoxS.new (w.alloc (.cells #[.int .i64 s.vol, .int .i64 s.frm, .int .i64 s.len, .bool s.wr] 23)) o 23)
  have HB := hide (nextB HA HA2)
  simp only [World.size_alloc] at HY
  clear HA HA2 hso hoo hq
  obtain ⟨a, b, c, d⟩ := s
  obtain ⟨a2, b2, c2, d2⟩ := o
  simp only at HB HX HY hC hR hD
  unfold spV at hC hR hD ⊢
  simp only at hC hR hD ⊢
  have e0 : (q == q) = true := by simp
  go_enter Try.func3, Try.ntmps3
  go_wp2_with fail
  refine (hC _).mono ?_
  rintro e w1 ⟨rfl, hb1⟩
  have HB1 := hide (nextB HB.out hb1)
  have HX1 := hide (HX.out.below hb1)
  have HY1 := hide (HY.out.below hb1)
  obtain ⟨x0, x1, x2, x3⟩ := HX1.out.cells
  obtain ⟨y0, y1, y2, y3⟩ := HY1.out.cells
  simp only at x0 x1 x2 x3 y0 y1 y2 y3
  clear hb1 HB HX HY hC
  go_wp2_with fail
  clear x0 x1 x2 x3 y0 y1 y2 y3
  refine (hR _).mono ?_
  rintro e w2 ⟨rfl, hb2⟩
  have HB2 := hide (nextB HB1.out hb2)
  obtain ⟨x0, x1, x2, x3⟩ := (HX1.out.below hb2).cells
  obtain ⟨y0, y1, y2, y3⟩ := (HY1.out.below hb2).cells
  simp only at x0 x1 x2 x3 y0 y1 y2 y3
  clear hb2 HB1 HX1 HY1 hR
  go_wp2_with fail
  clear x0 x1 x2 x3 y0 y1 y2 y3
  refine (hD _).mono ?_
  rintro e w3 ⟨rfl, hb3⟩
  have HB3 := hide (nextB HB2.out hb3)
  clear hb3 HB2 hD
  go_wp2_with fail
  refine (awake_any _).mono ?_
  rintro e w4 ⟨rfl, hb4⟩
  have HB4 := hide (nextB HB3.out hb4)
  clear hb4 HB3
  go_wp2_with fail
  go_ret
  exact ⟨rfl, HB4.out⟩
end Go.Proofs.Ytjofbehmhdjohaa
