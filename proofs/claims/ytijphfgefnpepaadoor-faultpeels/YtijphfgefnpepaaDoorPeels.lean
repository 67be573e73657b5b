/- The statement FaultPeels, walked: it returns true, and nothing that was there has turned. -/
import Derived.Test.YtijphfgefnpepaaDoorChain
namespace Go.Proofs.YtijphfgefnpepaaDoor
open Go.RowKit Go.Extern.Stop Go.Stop Go.Extern

theorem code_ok (c : Int) : EndOk (.iface 27 (.int .i64 c)) := Or.inr ⟨c, rfl⟩

set_option maxRecDepth 100000 in
set_option maxHeartbeats 2000000 in
theorem peels_any (ls : List Lk) (v : Value) (c : Int) (w : World) (hv : Links w v ls) (hL : Laid w) :
    Calls Tryd.prog 8 #[v, .int .i64 c] w fun ev w' => ev = .returned (.bool true) ∧ Below w.heap.size w w' := by
  by_cases hl : ls.length ≤ 200
  · have HCh := hide (chain_any ls v c w hv (by omega))
    have HL := hide hL
    obtain ⟨ao, cap, b, off, rfl, h2, h3⟩ := hv
    have H2 := hide h2
    have H3 := hide h3
    clear h2 h3 hL
    have hl2 : ¬ (200 : Int) < (ls.length : Int) := by omega
    go_enter Tryd.func8, Tryd.ntmps8
    go_wp2_with fail
    refine HCh.out.mono ?_
    rintro ev w1 ⟨e, rfl, hc, hb⟩
    have HC := hide hc
    have HB := hide hb
    clear hc hb
    go_wp2
    go_loopg [5, 25] ls.length (fun k e i wr => ∃ j, j + k = ls.length ∧ i = .int .i64 (j : Int) ∧ Chain wr (ls.drop j) c e ∧ Below w.heap.size w wr)
    case atStart => exact ⟨0, by omega, rfl, HC.out, HB.out⟩
    case round =>
      clear HC HB HCh
      obtain ⟨j, hj, rfl, hc, hb⟩ := hrel
      have HC := hide hc
      have HB := hide hb
      have HLr := hide (HL.out.below hb)
      clear hc hb
      cases gk with
      | zero =>
        have hlt : ¬ (j : Int) < (ls.length : Int) := by omega
        have hd : ls.drop j = [] := List.drop_eq_nil_of_le (by omega)
        have hc0 : u5 = .iface 27 (.int .i64 c) := by have := HC.out; rw [hd] at this; exact this
        subst hc0
        have HC2 : Hid (Chain wr [] c (.iface 27 (.int .i64 c))) := rfl
        clear HC hd
        go_wp2_with fail
        refine (where_any _ (code_ok c) [] _ _ (Chain.ch _ _ HC2.out) HLr.out).mono ?_
        rintro ev w2 ⟨rfl, hb2⟩
        have HB2 := hide hb2
        clear hb2
        rw [show whereOf [] = .tuple #[.int .i64 0, .int .i64 0, .bool false] from rfl]
        go_wp2_with fail
        refine (depth_any _ (code_ok c) [] _ _ (Ch.below HB2.out _ _ (Chain.ch _ _ HC2.out)) (HLr.out.below HB2.out) (by simp)).mono ?_
        rintro ev w3 ⟨rfl, hb3⟩
        have HB3 := hide hb3
        clear hb3
        go_wp2_with fail
        refine (is_any [] c c _ _ rfl).mono ?_
        rintro ev w4 ⟨rfl, rfl⟩
        rw [show (c == c) = true by simp]
        go_wp2_with fail
        refine (unwrap_code c _).mono ?_
        rintro ev w5 ⟨rfl, rfl⟩
        go_wp2_with fail
        refine (awake_any _ ((HLr.out.below HB2.out).below HB3.out)).mono ?_
        rintro ev w6 ⟨rfl, hb6⟩
        have HB6 := hide hb6
        clear hb6
        go_wp2
        go_ret
        exact ⟨rfl, HB.out.trans ((HB2.out.trans ((HB3.out.trans (HB6.out.mono HB3.out.size)).mono HB2.out.size)).mono HB.out.size)⟩
      | succ m =>
        have hlt : (j : Int) < (ls.length : Int) := by omega
        have hjl : j < ls.length := by omega
        obtain ⟨kk, hkk⟩ : ∃ kk, ls[j]? = some kk := ⟨ls[j], by simp [hjl]⟩
        have hd : ls.drop j = kk :: ls.drop (j + 1) := by
          obtain ⟨hm, rfl⟩ := List.getElem?_eq_some_iff.1 hkk
          exact List.drop_eq_getElem_cons hm
        obtain ⟨g1, g2, g3⟩ := H3.out j kk hkk
        have k1 : wr.cell? ⟨b, off + j * 3, none⟩ = some (.string kk.op) := by rw [HB.out.cell (cell_lt g1)]; exact g1
        have k2 : wr.cell? ⟨b, off + j * 3 + 1, none⟩ = some (.int .i64 kk.dev) := by rw [HB.out.cell (cell_lt g2)]; exact g2
        have k3 : wr.cell? ⟨b, off + j * 3 + 2, none⟩ = some (.int .i64 kk.pl) := by rw [HB.out.cell (cell_lt g3)]; exact g3
        have hao : ao = some ⟨b, off, none⟩ := H2.out (by omega)
        subst hao
        have hc := HC.out
        rw [hd] at hc
        have HC2 := hide hc
        clear hc HC hd g1 g2 g3 hkk
        have hb0 : (0 : Int) ≤ (j : Int) := by omega
        have hlen : ((kk :: ls.drop (j + 1)).length : Int) = (ls.length : Int) - (j : Int) := by simp only [List.length_cons, List.length_drop]; omega
        have HLEN := hide hlen
        clear hlen
        generalize hr : ls.drop (j + 1) = r at *
        have HR := hide hr
        clear hr
        have hba : Below wr.heap.size wr (wr.alloc (.cells #[.string kk.op, .int .i64 kk.dev, .int .i64 kk.pl] 34)) := (Below.refl _ _).alloc (Nat.le_refl _) _
        have HBA := hide hba
        have HCa := hide (Chain.below hba _ _ _ HC2.out)
        have HLa := hide (HLr.out.below hba)
        clear hba HC2
        go_wp2_with fail
        refine (where_any _ (code_ok c) (kk :: r) _ _ (Chain.ch _ _ HCa.out) HLa.out).mono ?_
        rintro ev w2 ⟨rfl, hb2⟩
        have HB2 := hide hb2
        clear hb2
        rw [show whereOf (kk :: r) = .tuple #[.int .i64 kk.dev, .int .i64 kk.pl, .bool true] from rfl]
        go_wp2_with fail
        refine (codeOf_chain (kk :: r) c _ _ (Chain.below HB2.out _ _ _ HCa.out) (HLa.out.below HB2.out)).mono ?_
        rintro ev w3 ⟨rfl, hb3⟩
        have hx1 : w3.cell? ⟨wr.heap.size, 1, none⟩ = some (.int .i64 kk.dev) := by
          rw [hb3.cell (Nat.lt_of_lt_of_le (by simp) HB2.out.size), HB2.out.cell (by simp)]; simp
        have hx2 : w3.cell? ⟨wr.heap.size, 2, none⟩ = some (.int .i64 kk.pl) := by
          rw [hb3.cell (Nat.lt_of_lt_of_le (by simp) HB2.out.size), HB2.out.cell (by simp)]; simp
        have HB3 := hide (HB2.out.trans (hb3.mono HB2.out.size))
        clear hb3
        go_wp2_with fail
        refine (depth_any _ (code_ok c) (kk :: r) _ _ (Chain.ch _ _ (Chain.below HB3.out _ _ _ HCa.out)) (HLa.out.below HB3.out) ?_).mono ?_
        · have := HLEN.out; omega
        rintro ev w4 ⟨rfl, hb4⟩
        have HB4 := hide (HB3.out.trans (hb4.mono HB3.out.size))
        clear hb4
        rw [HLEN.out]
        go_wp2_with fail
        refine (is_any (kk :: r) c c _ _ (Chain.below HB4.out _ _ _ HCa.out)).mono ?_
        rintro ev w5 ⟨rfl, rfl⟩
        rw [show (c == c) = true by simp]
        obtain ⟨bb, e', he, -, -, -, q5, q6⟩ := Chain.below HB4.out _ _ _ HCa.out
        subst he
        have Q6 := hide q6
        clear q6
        go_wp2_with fail
        refine (unwrap_fault bb e' _ q5 Q6.out.form).mono ?_
        rintro ev w6 ⟨rfl, rfl⟩
        go_wp2
        go_roundg m
        case measure => omega
        case rel => exact ⟨j + 1, by omega, by go_num, by rw [HR.out]; exact Q6.out, HB.out.trans ((HBA.out.trans (HB4.out.mono HBA.out.size)).mono HB.out.size)⟩
  · obtain ⟨ao, cap, b, off, rfl, h2, h3⟩ := hv
    have hl2 : (200 : Int) < (ls.length : Int) := by omega
    have H1 := hide (awake_any w hL)
    clear h2 h3 hl hL
    go_enter Tryd.func8, Tryd.ntmps8
    go_wp2_with (go_at_call 9; refine H1.out.mono ?_; rintro e w' ⟨rfl, hb⟩)
    go_ret
    exact ⟨rfl, hb⟩
end Go.Proofs.YtijphfgefnpepaaDoor
