import Derived.Test.YtliboiajhhnajaaGreatDoorM02
import Derived.Test.YtliboiajhhnajaaGreatDoorM01
import Derived.LaidEql
import Derived.Stop.Asserts
import Derived.RowKitTokens
/- choose by its contract. -/
namespace Go.Proofs.YtliboiajhhnajaaGreatDoor
open Go.RowKit Go.Extern

theorem len_pos {S : List Sec} {i : Nat} {s : Sec} (h : S[i]? = some s) : 0 < S.length := by
  have := (List.getElem?_eq_some_iff.1 h).1; omega
theorem choose_ret (w : World) (d : List Nat) (hd : Con d) (tmps : Array Value) (h : tmps.getD 6 undef = .pointer (some ⟨w.heap.size, 0, none⟩)) :
    (results Tryz.f73 tmps).run Tryz.prog (w.alloc (.cells (conC d) 112)) = .ok (conV d) (w.alloc (.cells (conC d) 112)) :=
  results_cell_row (by kernel_rfl) tmps _ w.heap.size 112 (conC d) (0, 0) _ h (heap_alloc_new w _) Tryz.underlying112 rfl (by rw [conC_size hd]; exact infoC)

set_option maxRecDepth 100000 in
theorem choose_dur {w : World} {F : Nat → Prop} {b : Nat} {S : List Sec} (h : Dk w F b S) {i : Nat} {s : Sec} (hs : S[i]? = some s) (n : Int) (hn : n < 1) :
    Calls Tryz.prog 73 #[.pointer (some ⟨b, 0, none⟩), .int .i64 (i : Int), .int .i64 n] w fun e w' => e = .returned (conV s.dur) ∧ Below w.heap.size w w' := by
  obtain ⟨v, mb, D, h⟩ := h
  have hi : i < S.length := (List.getElem?_eq_some_iff.1 hs).1
  have hI : I64 (i : Int) := I64.nat (by have := h.good.1; omega)
  have hcon := (h.good.2 s (List.mem_of_getElem? hs)).1
  have hb := heap_lt h.blk
  have h' := h.below (allocC_below w zeros)
  have c0 := two_cell0 h.blk
  have c1 := two_cell1 h.blk
  have hl := (look_at h'.map hI).1
  obtain ⟨ao, cap, hv⟩ := ownsRow_form (h'.rows _ hI)
  rw [hv] at hl
  obtain ⟨g, cap2, cur, rfl, -, -, hcap, -⟩ := ownsRow_pos h'.secs (len_pos hs)
  have hd := run_loadDur h'.secs h.good hs
  have hst := run_storeC w zeros s.dur zeros_con hcon
  rw [← zeroC] at hl hd hst
  have HBL := hide (allocC_below w s.dur)
  have HR := hide (fun tmps h => choose_ret w s.dur hcon tmps h)
  generalize (wt S (i : Int)).length = nw at hl
  generalize conV s.dur = cv at hd hst HR
  generalize w.alloc (.cells (conC s.dur) 112) = w2 at hst HBL HR
  have hlt : (i : Int) < (S.length : Int) := by omega
  have hge : (0 : Int) ≤ (i : Int) := by omega
  clear h h' hv hs hi hI hcon hcap
  have hn1 : decide (n < 1) = true := by simpa using hn
  clear hn
  go_enter Tryz.func73, Tryz.ntmps73
  go_wp2_with (first | ((with_reducible refine wpList_load_run rfl rfl hd ?_ ?_); rfl) | ((with_reducible refine wpList_store_run rfl rfl hst ?_ ?_ ?_); rfl; rfl) | ((with_reducible refine bodyPost_ret (v := cv) ?_ ?_ ?_); exact HR.out _ rfl; rfl; exact ⟨rfl, HBL.out⟩))

set_option maxRecDepth 100000 in
set_option maxHeartbeats 1000000 in
theorem choose_none {w : World} {F : Nat → Prop} {b : Nat} {S : List Sec} (h : Dk w F b S) {i : Nat} {s : Sec} (hs : S[i]? = some s) (n : Int) (hn : ¬ n < 1) (hw : s.wait = []) :
    Calls Tryz.prog 73 #[.pointer (some ⟨b, 0, none⟩), .int .i64 (i : Int), .int .i64 n] w fun e w' => e = .returned (conV s.dur) ∧ Below w.heap.size w w' := by
  obtain ⟨v, mb, D, h⟩ := h
  have hi : i < S.length := (List.getElem?_eq_some_iff.1 hs).1
  have hI : I64 (i : Int) := I64.nat (by have := h.good.1; omega)
  have hcon := (h.good.2 s (List.mem_of_getElem? hs)).1
  have hb := heap_lt h.blk
  have h' := h.below (allocC_below w zeros)
  have c0 := two_cell0 h.blk
  have c1 := two_cell1 h.blk
  have hl := (look_at h'.map hI).1
  obtain ⟨ao, cap, hv⟩ := ownsRow_form (h'.rows _ hI)
  rw [hv, wt_at hs, hw] at hl
  obtain ⟨g, cap2, cur, rfl, -⟩ := ownsRow_pos h'.secs (len_pos hs)
  have hd := run_loadDur h'.secs h.good hs
  have hst := run_storeC w zeros s.dur zeros_con hcon
  rw [← zeroC] at hl hd hst
  have HBL := hide (allocC_below w s.dur)
  have HR := hide (fun tmps h => choose_ret w s.dur hcon tmps h)
  generalize conV s.dur = cv at hd hst HR
  generalize w.alloc (.cells (conC s.dur) 112) = w2 at hst HBL HR
  have hlt : (i : Int) < (S.length : Int) := by omega
  have hge : (0 : Int) ≤ (i : Int) := by omega
  clear h h' hv hs hi hI hcon hw
  have hn1 : decide (n < 1) = false := by simpa using hn
  clear hn
  go_enter Tryz.func73, Tryz.ntmps73
  go_wp2_with (first | ((with_reducible refine wpList_load_run rfl rfl hd ?_ ?_); rfl) | ((with_reducible refine wpList_store_run rfl rfl hst ?_ ?_ ?_); rfl; rfl) | ((with_reducible refine bodyPost_ret (v := cv) ?_ ?_ ?_); exact HR.out _ rfl; rfl; exact ⟨rfl, HBL.out⟩))

set_option maxRecDepth 100000 in
set_option maxHeartbeats 1000000 in
theorem choose_wait {w : World} {F : Nat → Prop} {b : Nat} {S : List Sec} (h : Dk w F b S) {i : Nat} {s : Sec} (hs : S[i]? = some s) (n : Nat) (hn : 0 < n) (hn2 : I64 (n : Int)) (hw : 0 < s.wait.length) (hww : s.wait.length ≤ 1000000) (c : List Nat) (m : Nat) (hm : (s.wait.length < n ∧ m = s.wait.length) ∨ (¬ s.wait.length < n ∧ m = n)) (hc : s.wait[m - 1]? = some c) :
    Calls Tryz.prog 73 #[.pointer (some ⟨b, 0, none⟩), .int .i64 (i : Int), .int .i64 (n : Int)] w fun e w' => e = .returned (conV c) ∧ Below w.heap.size w w' := by
  obtain ⟨v, mb, D, h⟩ := h
  have hi : i < S.length := (List.getElem?_eq_some_iff.1 hs).1
  have hI : I64 (i : Int) := I64.nat (by have := h.good.1; omega)
  have hgs := h.good.2 s (List.mem_of_getElem? hs)
  have hcon := hgs.2 c (List.mem_of_getElem? hc)
  have hb := heap_lt h.blk
  have h' := h.below (allocC_below w zeros)
  have c1 := two_cell1 h.blk
  have hl := (look_at h'.map hI).1
  have hrw := h'.rows _ hI
  rw [wt_at hs] at hrw
  obtain ⟨g, cap2, cur, hv, -, -⟩ := ownsRow_pos hrw hw
  rw [hv] at hl hrw
  have hd := run_loadWait hrw hgs.2 hc
  have hst := run_storeC w zeros c zeros_con hcon
  rw [← zeroC] at hl hd hst
  have HBL := hide (allocC_below w c)
  have HR := hide (fun tmps h => choose_ret w c hcon tmps h)
  generalize conV c = cv at hd hst HR
  generalize w.alloc (.cells (conC c) 112) = w2 at hst HBL HR
  generalize s.wait.length = nw at *
  unfold I64 at hn2
  have hn1 : decide ((n : Int) < 1) = false := by simp; omega
  have hz : ((nw : Int) == 0) = false := by simp; omega
  clear h h' hv hs hi hI hcon hrw hgs hc
  rcases hm with ⟨hlt, rfl⟩ | ⟨hlt, rfl⟩
  · go_enter Tryz.func73, Tryz.ntmps73
    go_wp2_with (first | ((with_reducible refine wpList_load_run rfl rfl hd ?_ ?_); rfl) | ((with_reducible refine wpList_store_run rfl rfl hst ?_ ?_ ?_); rfl; rfl) | ((with_reducible refine bodyPost_ret (v := cv) ?_ ?_ ?_); exact HR.out _ rfl; rfl; exact ⟨rfl, HBL.out⟩))
  · go_enter Tryz.func73, Tryz.ntmps73
    go_wp2_with (first | ((with_reducible refine wpList_load_run rfl rfl hd ?_ ?_); rfl) | ((with_reducible refine wpList_store_run rfl rfl hst ?_ ?_ ?_); rfl; rfl) | ((with_reducible refine bodyPost_ret (v := cv) ?_ ?_ ?_); exact HR.out _ rfl; rfl; exact ⟨rfl, HBL.out⟩))

/-- choose: the write with this number, from 1 on; below 1 what lasts, above all of them the last one. -/
theorem choose_any {w : World} {F : Nat → Prop} {b : Nat} {S : List Sec} (h : Dk w F b S) {i : Nat} {s : Sec} (hs : S[i]? = some s) (n : Int) (hn : I64 n) (hww : s.wait.length ≤ 1000000) :
    Calls Tryz.prog 73 #[.pointer (some ⟨b, 0, none⟩), .int .i64 (i : Int), .int .i64 n] w fun e w' => e = .returned (conV (s.pick n)) ∧ Below w.heap.size w w' := by
  unfold Sec.pick
  by_cases h1 : n < 1
  · rw [if_pos h1]; exact choose_dur h hs n h1
  · rw [if_neg h1]
    obtain ⟨k, rfl⟩ : ∃ k : Nat, n = (k : Int) := ⟨n.toNat, by omega⟩
    rw [Int.toNat_natCast, List.getD_eq_getElem?_getD]
    rcases Nat.eq_zero_or_pos s.wait.length with h0 | h0
    · rw [List.length_eq_zero_iff.1 h0]; exact choose_none h hs _ h1 (List.length_eq_zero_iff.1 h0)
    · have hlt : min k s.wait.length - 1 < s.wait.length := by omega
      obtain ⟨c, hc⟩ : ∃ c, s.wait[min k s.wait.length - 1]? = some c := ⟨_, List.getElem?_eq_getElem hlt⟩
      rw [hc, Option.getD_some]
      by_cases hk : s.wait.length < k
      · exact choose_wait h hs k (by omega) hn h0 hww _ _ (.inl ⟨hk, rfl⟩) (by rw [Nat.min_eq_right (by omega)] at hc; exact hc)
      · exact choose_wait h hs k (by omega) hn h0 hww _ _ (.inr ⟨hk, rfl⟩) (by rw [Nat.min_eq_left (by omega)] at hc; exact hc)
end Go.Proofs.YtliboiajhhnajaaGreatDoor

/- errors.Is of a code, and the statements' own 'is', by their contracts. -/
namespace Go.Proofs.YtliboiajhhnajaaGreatDoor
open Go.RowKit Go.Extern.Stop Go.Stop Go.Extern

theorem Tryz.typeOfC (v : Value) (w : World) : (ReflectliteType.typeOf #[.iface 85 v]).run Tryz.prog w = .ok (.iface 122 (.agg #[.pointer (some ⟨1, 85, none⟩)])) w := by kernel_rfl
theorem Tryz.methodComparable (h : Value) (w : World) : (Go.method 250 122 (.agg #[h]) "Comparable").run Tryz.prog w = .ok (135, .agg #[h]) w := by kernel_rfl
theorem comparableC (w : World) : (callFunc 135 #[.agg #[.pointer (some ⟨1, 85, none⟩)]]).run Tryz.prog w = .ok (.value (.bool true)) w := by kernel_rfl
theorem Tryz.noIsC (v : Value) (xT : TypeId) (w : World) : (Instr.typeAssert (.iface 85 v) xT 124 true).run Tryz.prog w = .ok (.tuple #[.nilIface, .bool false]) w := run_typeAssert_lacksB Tryz.underlying124 (by kernel_rfl) (by kernel_rfl) v xT w
theorem Tryz.noUnwrapC (v : Value) (xT : TypeId) (w : World) : (Instr.typeAssert (.iface 85 v) xT 127 true).run Tryz.prog w = .ok (.tuple #[.nilIface, .bool false]) w := run_typeAssert_lacksB Tryz.underlying127 (by kernel_rfl) (by kernel_rfl) v xT w
theorem Tryz.noUnwrapsC (v : Value) (xT : TypeId) (w : World) : (Instr.typeAssert (.iface 85 v) xT 128 true).run Tryz.prog w = .ok (.tuple #[.nilIface, .bool false]) w := run_typeAssert_lacksB Tryz.underlying128 (by kernel_rfl) (by kernel_rfl) v xT w
theorem Tryz.compC : (Tryz.prog.info? 85).map (·.comparable) = some true := by kernel_rfl
theorem run_equalIn_iface_int {P : Program} (w : World) (d : Nat) {ti tn : TypeId} {ms : Array (String × TypeId)} {i : TypeInfo} {k : IntKind} (a b : Int)
    (hi : P.underlying ti = some (.interface ms)) (hn : P.underlying tn = some (.int k)) (hinfo : P.info? tn = some i) (hcomp : i.comparable = true) :
    (Op.equalIn (d + 2) ti (.iface tn (.int k a)) (.iface tn (.int k b))).run P w = .ok (a == b) w := by
  simp [Op.equalIn, run_underlying hi, run_underlying hn, typeInfo, hinfo, hcomp]
theorem run_eql_iface_int {P : Program} (w : World) {ti tn : TypeId} {ms : Array (String × TypeId)} {i : TypeInfo} {k : IntKind} (a b : Int)
    (hi : P.underlying ti = some (.interface ms)) (hn : P.underlying tn = some (.int k)) (hinfo : P.info? tn = some i) (hcomp : i.comparable = true) :
    (binOp .eql ti (.iface tn (.int k a)) (.iface tn (.int k b))).run P w = .ok (.bool (a == b)) w := by
  simp only [binOp]
  simp [Op.equal, Op.maxDepth, run_equalIn_iface_int w 9998 a b hi hn hinfo hcomp]
theorem Tryz.eqlCode (a b : Int) (w : World) : (binOp .eql 46 (.iface 85 (.int .i64 a)) (.iface 85 (.int .i64 b))).run Tryz.prog w = .ok (.bool (a == b)) w := by
  obtain ⟨i, hi, hcmp⟩ := Option.map_eq_some_iff.1 Tryz.compC
  exact run_eql_iface_int w a b Tryz.underlying46 Tryz.underlying85 hi hcmp

/-- An error by its number; 0: none. -/
def errV (c : Int) : Value := if c = 0 then .nilIface else .iface 85 (.int .i64 c)
theorem errV_zero : errV 0 = .nilIface := rfl
theorem errV_code {c : Int} (h : c ≠ 0) : errV c = .iface 85 (.int .i64 c) := by simp [errV, h]

set_option maxRecDepth 100000 in
set_option maxHeartbeats 1000000 in
theorem eis_any (c n : Int) (w : World) :
    Calls Tryz.prog 71 #[.iface 85 (.int .i64 c), .iface 85 (.int .i64 n), .bool true] w fun ev w' => ev = .returned (.bool (c == n)) ∧ w' = w := by
  have f1 := Tryz.eqlCode
  have f4 := Tryz.noIsC
  have f6 := Tryz.noUnwrapC
  have f7 := Tryz.noUnwrapsC
  go_enter Tryz.func71, Tryz.ntmps71
  go_wp2
  go_loopg [0] 0 (fun _ v wr => wr = w ∧ v = .iface 85 (.int .i64 c))
  case atStart => exact ⟨rfl, rfl⟩
  case round =>
    obtain ⟨rfl, rfl⟩ := hrel
    by_cases hcn : c = n
    · have hcb : (c == n) = true := by simp [hcn]
      clear hcn
      go_wp2
      go_ret
      exact ⟨by rw [hcb]; rfl, rfl⟩
    · have hcb : (c == n) = false := by simp [hcn]
      clear hcn
      go_wp2
      go_ret
      exact ⟨by rw [hcb]; rfl, rfl⟩

theorem errorsIs_any (c n : Int) (w : World) :
    Calls Tryz.prog 43 #[.iface 85 (.int .i64 c), .iface 85 (.int .i64 n)] w fun ev w' => ev = .returned (.bool (c == n)) ∧ w' = w := by
  have h26 := @run_callFunc_extern Tryz.prog 70 _ ReflectliteType.typeOf Tryz.func70 (by kernel_rfl) (by kernel_rfl) (by kernel_rfl) (by kernel_rfl)
  have f1 := Tryz.typeOfC
  have f2 := Tryz.methodComparable
  have f3 := comparableC
  go_enter Tryz.func43, Tryz.ntmps43
  go_wp2_with (go_at_call 71; refine (eis_any c n _).mono ?_; rintro e w' ⟨rfl, rfl⟩)
  go_ret
  exact ⟨rfl, rfl⟩

end Go.Proofs.YtliboiajhhnajaaGreatDoor

/- Read by its contract. -/
namespace Go.Proofs.YtliboiajhhnajaaGreatDoor
open Go.RowKit Go.Extern

/-- What is read last: what was written last, or what lasts. -/
def Sec.top (s : Sec) : List Nat := s.pick (s.wait.length : Int)
theorem Sec.top_con {s : Sec} (h : GoodSec s) : Con s.top := s.pick_con h _

theorem bytes_of_con {w : World} {g : Nat} {c : List Nat} {t : TypeId} {fr : Nat × Nat} (hc : Con c) (h : w.heap[g]? = some (.cells (conC c) t fr)) : Bytes w (.slice (some ⟨g, 0, none⟩) 128 128) c := by
  refine ⟨some ⟨g, 0, none⟩, 128, g, 0, by rw [hc.1], fun _ => rfl, fun i b hb => ?_, hc.2, by rw [hc.1]; decide, by simp, by rw [hc.1]; exact Nat.le_refl _, by unfold maxLen; decide⟩
  rw [cell_of_row w g _ _ _ _ h, Nat.zero_add]
  unfold conC
  rw [List.getElem?_toArray]
  exact cellsB_get hb

def rErr (S : List Sec) (i : Int) : Int := if hasB S i then (match S[i.toNat]? with | some s => if s.bad then 21 else 0 | none => 0) else 20
def rDat (S : List Sec) (i : Int) : List Nat := if hasB S i then (match S[i.toNat]? with | some s => if s.bad then [] else s.top | none => []) else []
/-- What Read leaves. -/
def Readed (S : List Sec) (i : Int) (w : World) (e : Ending) (w' : World) : Prop := ∃ u, e = .returned (.tuple #[u, errV (rErr S i)]) ∧ Own w' w.heap.size u (rDat S i) ∧ Below w.heap.size w w'

set_option maxRecDepth 100000 in
set_option maxHeartbeats 1000000 in
theorem read_any {w : World} {F : Nat → Prop} {b : Nat} {S : List Sec} (h : Dk w F b S) (i : Int) (hi : I64 i) (hww : ∀ s ∈ S, s.wait.length ≤ 1000000) :
    Calls Tryz.prog 48 #[.pointer (some ⟨b, 0, none⟩), .int .i64 i] w (Readed S i w) := by
  have HH := hide (has_any h i)
  cases hh : hasB S i with
  | false =>
    rw [hh] at HH
    have HE : Hid (rErr S i = 20 ∧ rDat S i = []) := ⟨by simp [rErr, hh], by simp [rDat, hh]⟩
    clear h hww
    go_enter Tryz.func48, Tryz.ntmps48
    go_wp2_with (go_at_call 72; refine HH.out.mono ?_; rintro e w' ⟨rfl, rfl⟩)
    go_ret2
    exact ⟨_, by rw [HE.out.1]; rfl, by rw [HE.out.2]; exact Own.nil _ _, Below.refl _ _⟩
  | true =>
    rw [hh] at HH
    have hb : 0 ≤ i ∧ i < (S.length : Int) := by simpa [hasB] using hh
    obtain ⟨k, rfl⟩ : ∃ k : Nat, i = (k : Int) := ⟨i.toNat, by omega⟩
    obtain ⟨s, hs⟩ : ∃ s, S[k]? = some s := ⟨S[k]'(by omega), by simp⟩
    have HW := hide (waiting_any h hi)
    rw [wt_at hs] at HW
    have hgs := h.good.2 s (List.mem_of_getElem? hs)
    have hwl := hww s (List.mem_of_getElem? hs)
    have HC := hide (choose_any h hs (s.wait.length : Int) (by unfold I64; omega) hwl)
    obtain ⟨v, mb, D, hd⟩ := h
    have c0 := two_cell0 hd.blk
    obtain ⟨g, cap, cur, rfl, -⟩ := ownsRow_pos hd.secs (len_pos hs)
    have cb := cell_bad hd.secs hd.good hs
    have hlt : (k : Int) < (S.length : Int) := hb.2
    have hge : (0 : Int) ≤ (k : Int) := by omega
    cases hbad : s.bad with
    | true =>
      have HE : Hid (rErr S (k : Int) = 21 ∧ rDat S (k : Int) = []) := ⟨by simp [rErr, hh, hs, hbad], by simp [rDat, hh, hs, hbad]⟩
      rw [hbad] at cb
      clear hd hgs HC HW hww
      go_enter Tryz.func48, Tryz.ntmps48
      go_wp2_with (go_at_call 72; refine HH.out.mono ?_; rintro e w' ⟨rfl, rfl⟩)
      go_ret2
      exact ⟨_, by rw [HE.out.1]; rfl, by rw [HE.out.2]; exact Own.nil _ _, Below.refl _ _⟩
    | false =>
      have HE : Hid (rErr S (k : Int) = 0 ∧ rDat S (k : Int) = s.top) := ⟨by simp [rErr, hh, hs, hbad], by simp [rDat, hh, hs, hbad]⟩
      rw [hbad] at cb
      have hcon := s.top_con hgs
      have HC' : Hid (Calls Tryz.prog 73 #[.pointer (some ⟨b, 0, none⟩), .int .i64 (k : Int), .int .i64 (s.wait.length : Int)] w fun e w' => e = .returned (conV s.top) ∧ Below w.heap.size w w') := HC.out
      have HST : Hid (∀ w2 : World, (Instr.storeAt 112 (.pointer (some ⟨w2.heap.size, 0, none⟩)) (conV s.top)).run Tryz.prog (w2.alloc (.cells Tryz.zeroCells112 112)) = .ok () (w2.alloc (.cells (conC s.top) 112))) := fun w2 => by rw [zeroC]; exact run_storeC w2 zeros s.top zeros_con hcon
      have HCL : Hid (∀ w2 : World, Bytes (w2.alloc (.cells (conC s.top) 112)) (.slice (some ⟨w2.heap.size, 0, none⟩) 128 128) s.top) := fun w2 => bytes_of_con hcon (heap_alloc_new w2 _)
      have HAL : Hid (∀ w2 : World, Below w.heap.size w w2 → Below w.heap.size w (w2.alloc (.cells (conC s.top) 112)) ∧ w.heap.size ≤ (w2.alloc (.cells (conC s.top) 112)).heap.size) := fun w2 hb => ⟨hb.alloc hb.size _, Nat.le_trans hb.size (by simp)⟩
      generalize s.top = tp at *
      generalize conV tp = cv at *
      generalize conC tp = cc at *
      clear hd hgs HC hww hcon
      go_enter Tryz.func48, Tryz.ntmps48
      go_wp2_with (go_at_call 72; refine HH.out.mono ?_; rintro e w' ⟨rfl, rfl⟩)
      refine HW.out.mono ?_
      rintro e w' ⟨rfl, rfl⟩
      go_wp2_with fail
      refine HC'.out.mono ?_
      rintro e w2 ⟨rfl, hb2⟩
      have hst := HST.out w2
      have HB2 := hide (HAL.out w2 hb2)
      have HBY := hide (HCL.out w2)
      clear hb2 HAL HST
      go_wp2_with (first | ((with_reducible refine wpList_store_run rfl rfl hst ?_ ?_ ?_); rfl; rfl) | (go_at_call 75; refine (clone_any tp _ _ HBY.out).mono ?_; rintro e w4 ⟨u, rfl, ho, hb4⟩))
      have HO := hide (ho.base (base' := w'.heap.size) HB2.out.2)
      have HB4 := hide (HB2.out.1.trans (hb4.mono HB2.out.2))
      obtain ⟨ao4, cap4, rfl⟩ := ho.form
      clear ho hb4
      go_ret2
      exact ⟨_, by rw [HE.out.1]; rfl, by rw [HE.out.2]; exact HO.out, HB4.out⟩
end Go.Proofs.YtliboiajhhnajaaGreatDoor
