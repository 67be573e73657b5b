/- Where, Depth, Deepest, errors.Is, errors.Unwrap, Wrap and the statements' own chain, by their contracts. -/
import Derived.Test.YtijphfgefnpepaaDoorReads
namespace Go.Proofs.YtijphfgefnpepaaDoor
open Go.RowKit Go.Extern.Stop Go.Stop Go.Extern

/-- What Where tells of a list of faults. -/
def whereOf : List Lk → Value
  | [] => .tuple #[.int .i64 0, .int .i64 0, .bool false]
  | k :: _ => .tuple #[.int .i64 k.dev, .int .i64 k.pl, .bool true]

theorem where_fst (z : Value) (l : List Lk) (p : Value) (w : World) (hf : Fst w z l p) :
    Calls Tryd.prog 25 #[p] w fun ev w' => ev = .returned (whereOf l) ∧ Below w.heap.size w w' := by
  cases l with
  | nil =>
    have hp : p = .pointer none := hf
    subst hp
    refine (where_nil w).mono ?_
    rintro ev w' ⟨rfl, rfl⟩
    exact ⟨rfl, Below.refl _ _⟩
  | cons k r =>
    obtain ⟨b, e', rfl, h2, h3, h4, h5, h6⟩ := hf
    refine (where_some b k.dev k.pl w h3 h4).mono ?_
    rintro ev w' ⟨rfl, hb⟩
    exact ⟨rfl, hb⟩

theorem whereOf_form (l : List Lk) : ∃ d p o, whereOf l = .tuple #[.int .i64 d, .int .i64 p, .bool o] := by
  cases l with
  | nil => exact ⟨_, _, _, rfl⟩
  | cons k r => exact ⟨_, _, _, rfl⟩

theorem where_any (z : Value) (hz : EndOk z) (l : List Lk) (e : Value) (w : World) (hc : Ch w z l e) (hL : Laid w) :
    Calls Tryd.prog 14 #[e] w fun ev w' => ev = .returned (whereOf l) ∧ Below w.heap.size w w' := by
  have HA := hide (first_any z hz l e w hc hL)
  obtain ⟨d, p, o, hw⟩ := whereOf_form l
  have HW := hide hw
  clear hc hL hw
  go_enter Tryd.func14, Tryd.ntmps14
  go_wp2_with fail
  refine HA.out.mono ?_
  rintro ev w1 ⟨q, rfl, hf, hb1⟩
  have HF := hide (hf.below hb1 l q)
  have HB := hide hb1
  clear hf hb1
  go_wp2_with fail
  refine (where_fst z l q _ HF.out).mono ?_
  rintro ev w2 ⟨rfl, hb2⟩
  have HB2 := hide hb2
  clear hb2
  rw [HW.out]
  go_wp2
  go_ret3
  exact ⟨by rw [HW.out]; rfl, HB.out.trans (HB2.out.mono HB.out.size)⟩

set_option maxHeartbeats 1000000 in
theorem depth_any (z : Value) (hz : EndOk z) (l : List Lk) (e : Value) (w : World) (hc : Ch w z l e) (hL : Laid w) (hl : l.length ≤ 1000) :
    Calls Tryd.prog 12 #[e] w fun ev w' => ev = .returned (.int .i64 l.length) ∧ Below w.heap.size w w' := by
  have HA := hide (first_any z hz l e w hc hL)
  have HL := hide hL
  clear hc hL
  go_enter Tryd.func12, Tryd.ntmps12
  go_wp2_with fail
  refine HA.out.mono ?_
  rintro ev w1 ⟨q, rfl, hf, hb1⟩
  have HF := hide (hf.below hb1 l q)
  have HB := hide hb1
  have HL1 := hide (HL.out.below hb1)
  clear hf hb1
  go_wp2
  go_loopg [3, 4] l.length (fun k n p wr => ∃ l' : List Lk, Fst wr z l' p ∧ l'.length = k ∧ k ≤ l.length ∧ n = .int .i64 ((l.length : Int) - k) ∧ Below w.heap.size w wr ∧ Laid wr)
  case atStart => exact ⟨l, HF.out, rfl, Nat.le_refl _, by simp, HB.out, HL1.out⟩
  case round =>
    clear HA HF HB HL1
    obtain ⟨l', hf, rfl, hle, rfl, hb, hLr⟩ := hrel
    have HBr := hide hb
    have HLr := hide hLr
    clear hb hLr
    cases l' with
    | nil =>
      have hp : u4 = .pointer none := hf
      subst hp
      go_wp2
      go_ret
      exact ⟨by simp, HBr.out⟩
    | cons k r =>
      obtain ⟨b, e', rfl, h2, h3, h4, h5, h6⟩ := hf
      have H6 := hide h6
      clear h6 h2 h3 h4
      simp only [List.length_cons] at hle
      go_wp2_with fail
      refine (first_any z hz r e' _ H6.out HLr.out).mono ?_
      rintro ev w2 ⟨q2, rfl, hf2, hb2⟩
      have HF2 := hide (hf2.below hb2 r q2)
      have HB2 := hide hb2
      clear hf2 hb2
      go_wp2
      go_roundg r.length
      case measure => simp
      case rel => exact ⟨r, HF2.out, rfl, by omega, by congr 1; omega, HBr.out.trans (HB2.out.mono HBr.out.size), HLr.out.below HB2.out⟩

/-- What Deepest tells of a list of faults. -/
def deepOf (l : List Lk) : Value := whereOf l.getLast?.toList

/-- The pointer that Deepest holds behind the faults 'pre'. -/
def Lst (w : World) (pre : List Lk) (q : Value) : Prop :=
  (pre = [] ∧ q = .pointer none) ∨ ∃ k b, pre.getLast? = some k ∧ q = .pointer (some ⟨b, 0, none⟩) ∧ w.cell? ⟨b, 1, none⟩ = some (.int .i64 k.dev) ∧ w.cell? ⟨b, 2, none⟩ = some (.int .i64 k.pl)

theorem Lst.below {w w' : World} (hb : Below w.heap.size w w') {pre : List Lk} {q : Value} (h : Lst w pre q) : Lst w' pre q := by
  rcases h with h | ⟨k, b, h1, h2, h3, h4⟩
  · exact Or.inl h
  · exact Or.inr ⟨k, b, h1, h2, by rw [hb.cell (cell_lt h3)]; exact h3, by rw [hb.cell (cell_lt h4)]; exact h4⟩

theorem where_lst (pre : List Lk) (q : Value) (w : World) (h : Lst w pre q) :
    Calls Tryd.prog 25 #[q] w fun ev w' => ev = .returned (deepOf pre) ∧ Below w.heap.size w w' := by
  rcases h with ⟨rfl, rfl⟩ | ⟨k, b, h1, rfl, h3, h4⟩
  · refine (where_nil w).mono ?_
    rintro ev w' ⟨rfl, rfl⟩
    exact ⟨rfl, Below.refl _ _⟩
  · refine (where_some b k.dev k.pl w h3 h4).mono ?_
    rintro ev w' ⟨rfl, hb⟩
    exact ⟨by simp [deepOf, h1, whereOf], hb⟩

set_option maxHeartbeats 1000000 in
theorem deepest_any (z : Value) (hz : EndOk z) (l : List Lk) (e : Value) (w : World) (hc : Ch w z l e) (hL : Laid w) :
    Calls Tryd.prog 15 #[e] w fun ev w' => ev = .returned (deepOf l) ∧ Below w.heap.size w w' := by
  have HA := hide (first_any z hz l e w hc hL)
  have HL := hide hL
  clear hc hL
  go_enter Tryd.func15, Tryd.ntmps15
  go_wp2_with fail
  refine HA.out.mono ?_
  rintro ev w1 ⟨q, rfl, hf, hb1⟩
  have HF := hide (hf.below hb1 l q)
  have HB := hide hb1
  have HL1 := hide (HL.out.below hb1)
  clear hf hb1
  go_wp2
  go_loopg [5, 6] l.length (fun k n p wr => ∃ pre l' : List Lk, l = pre ++ l' ∧ Fst wr z l' p ∧ l'.length = k ∧ Lst wr pre n ∧ Below w.heap.size w wr ∧ Laid wr)
  case atStart => exact ⟨[], l, rfl, HF.out, rfl, Or.inl ⟨rfl, rfl⟩, HB.out, HL1.out⟩
  case round =>
    clear HA HF HB HL1
    obtain ⟨pre, l', hpl, hf, rfl, hlst, hb, hLr⟩ := hrel
    have HBr := hide hb
    have HLr := hide hLr
    have HP := hide hpl
    have HLs := hide hlst
    clear hb hLr hpl hlst
    cases l' with
    | nil =>
      have hp : u6 = .pointer none := hf
      subst hp
      obtain ⟨d, p, o, hw⟩ := whereOf_form l.getLast?.toList
      have HW := hide hw
      clear hw
      go_wp2_with fail
      refine (where_lst pre u5 _ HLs.out).mono ?_
      rintro ev w2 ⟨rfl, hb2⟩
      have HB2 := hide hb2
      clear hb2
      have hd : deepOf pre = .tuple #[.int .i64 d, .int .i64 p, .bool o] := by rw [← HW.out, HP.out]; simp [deepOf]
      rw [hd]
      have HD := hide hd
      clear hd
      go_wp2
      go_ret3
      exact ⟨by unfold deepOf; rw [HW.out]; rfl, HBr.out.trans (HB2.out.mono HBr.out.size)⟩
    | cons k r =>
      obtain ⟨b, e', rfl, h2, h3, h4, h5, h6⟩ := hf
      have H6 := hide h6
      have H34 := hide (And.intro h3 h4)
      clear h6 h2 h3 h4
      go_wp2_with fail
      refine (first_any z hz r e' _ H6.out HLr.out).mono ?_
      rintro ev w2 ⟨q2, rfl, hf2, hb2⟩
      have HF2 := hide (hf2.below hb2 r q2)
      have HB2 := hide hb2
      have HLs2 : Hid (Lst w2 (pre ++ [k]) (.pointer (some ⟨b, 0, none⟩))) := Lst.below hb2 (Or.inr ⟨k, b, by simp, rfl, H34.out.1, H34.out.2⟩)
      clear hf2 hb2
      go_wp2
      go_roundg r.length
      case measure => simp
      case rel => exact ⟨pre ++ [k], r, by rw [HP.out]; simp, HF2.out, rfl, HLs2.out, HBr.out.trans (HB2.out.mono HBr.out.size), HLr.out.below HB2.out⟩

set_option maxHeartbeats 1000000 in
theorem is27_any (l : List Lk) (c n : Int) (e : Value) (w : World) (hc : Chain w l c e) :
    Calls Tryd.prog 27 #[e, .iface 27 (.int .i64 n), .bool true] w fun ev w' => ev = .returned (.bool (c == n)) ∧ w' = w := by
  have f1 := Tryd.eqlCode
  have f2 := Tryd.eqlOther
  have f3 := Tryd.noIs48
  have f4 := Tryd.noIs27
  have f5 := Tryd.hasUnwrap48
  have f6 := Tryd.noUnwrap27
  have f7 := Tryd.noUnwraps27
  have f8 := Tryd.methodUnwrap
  have HC := hide hc
  clear hc
  go_enter Tryd.func27, Tryd.ntmps27
  go_wp2
  go_loopg [0] l.length (fun k v wr => wr = w ∧ ∃ l', Chain w l' c v ∧ l'.length = k)
  case atStart => exact ⟨rfl, l, HC.out, rfl⟩
  case round =>
    obtain ⟨rfl, l', hl, rfl⟩ := hrel
    cases l' with
    | nil =>
      have hl' : u0 = .iface 27 (.int .i64 c) := hl
      subst hl'
      clear hl
      by_cases hcn : c = n
      · have hcb : (c == n) = true := by simp [hcn]
        clear hcn
        go_wp2
        go_ret
        exact ⟨by rw [hcb]; rfl, rfl⟩
      · have hcb : (c == n) = false := by simp [hcn]
        clear hcn
        go_wp2
        go_ret
        exact ⟨by rw [hcb]; rfl, rfl⟩
    | cons k r =>
      obtain ⟨b, e', rfl, -, -, -, h5, h6⟩ := hl
      obtain ⟨T, x, hx⟩ := h6.form
      subst hx
      have H6 := hide h6
      clear h6
      go_wp2_with (go_at_call 19; refine (unwrap_any b _ _ h5 ⟨_, _, rfl⟩).mono ?_; rintro e w' ⟨rfl, rfl⟩)
      go_roundg r.length
      case measure => simp
      case rel => exact ⟨rfl, r, H6.out, rfl⟩

theorem comparable27 (w : World) : (callFunc 82 #[.agg #[.pointer (some ⟨4, 27, none⟩)]]).run Tryd.prog w = .ok (.value (.bool true)) w := by kernel_rfl

theorem is_any (l : List Lk) (c n : Int) (e : Value) (w : World) (hc : Chain w l c e) :
    Calls Tryd.prog 16 #[e, .iface 27 (.int .i64 n)] w fun ev w' => ev = .returned (.bool (c == n)) ∧ w' = w := by
  have h26 := @run_callFunc_extern Tryd.prog 26 _ ReflectliteType.typeOf Tryd.func26 (by kernel_rfl) (by kernel_rfl) (by kernel_rfl) (by kernel_rfl)
  have f1 := Tryd.typeOf27
  have f2 := Tryd.methodComparable
  have f3 := comparable27
  obtain ⟨T, x, hx⟩ := hc.form
  subst hx
  have HC := hide hc
  clear hc
  go_enter Tryd.func16, Tryd.ntmps16
  go_wp2_with (go_at_call 27; refine (is27_any l c n _ _ HC.out).mono ?_; rintro e w' ⟨rfl, rfl⟩)
  go_ret
  exact ⟨rfl, rfl⟩

theorem unwrap_fault (b : Nat) (e' : Value) (w : World) (h : w.cell? ⟨b, 3, none⟩ = some e') (hf : ∃ T x, e' = .iface T x) :
    Calls Tryd.prog 22 #[.iface 48 (.pointer (some ⟨b, 0, none⟩))] w fun e w' => e = .returned e' ∧ w' = w := by
  have f5 := Tryd.hasUnwrap48
  have f8 := Tryd.methodUnwrap
  go_enter Tryd.func22, Tryd.ntmps22
  go_wp2_with (go_at_call 19; refine (unwrap_any b _ _ h hf).mono ?_; rintro e w' ⟨rfl, rfl⟩)
  go_ret
  exact ⟨rfl, rfl⟩

theorem unwrap_code (n : Int) (w : World) :
    Calls Tryd.prog 22 #[.iface 27 (.int .i64 n)] w fun e w' => e = .returned .nilIface ∧ w' = w := by
  have f6 := Tryd.noUnwrap27
  go_enter Tryd.func22, Tryd.ntmps22
  go_wp2
  go_ret
  exact ⟨rfl, rfl⟩

theorem wrap_any (op : ByteArray) (d p : Int) (T : TypeId) (x : Value) (w : World) :
    Calls Tryd.prog 18 #[.string op, .int .i64 d, .int .i64 p, .iface T x] w fun e w' => e = .returned (.iface 48 (.pointer (some ⟨w.heap.size, 0, none⟩))) ∧ w' = w.alloc (.cells #[.string op, .int .i64 d, .int .i64 p, .iface T x] 50) := by
  go_enter Tryd.func18, Tryd.ntmps18
  go_wp2
  go_ret
  exact ⟨rfl, rfl⟩

theorem wrap_nil (op : ByteArray) (d p : Int) (w : World) :
    Calls Tryd.prog 18 #[.string op, .int .i64 d, .int .i64 p, .nilIface] w fun e w' => e = .returned .nilIface ∧ w' = w := by
  go_enter Tryd.func18, Tryd.ntmps18
  go_wp2
  go_ret
  exact ⟨rfl, rfl⟩

/-- One fault more around an error. -/
theorem wrap_chain (k : Lk) (l : List Lk) (c : Int) (e : Value) (w : World) (hc : Chain w l c e) :
    Calls Tryd.prog 18 #[.string k.op, .int .i64 k.dev, .int .i64 k.pl, e] w fun ev w' => ∃ e', ev = .returned e' ∧ Chain w' (k :: l) c e' ∧ Below w.heap.size w w' := by
  obtain ⟨T, x, hx⟩ := hc.form
  subst hx
  refine (wrap_any k.op k.dev k.pl T x w).mono ?_
  rintro ev w' ⟨rfl, rfl⟩
  refine ⟨_, rfl, ⟨w.heap.size, .iface T x, rfl, by simp, by simp, by simp, by simp, hc.alloc _⟩, (Below.refl _ _).alloc (Nat.le_refl _) _⟩
end Go.Proofs.YtijphfgefnpepaaDoor
