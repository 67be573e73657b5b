import Derived.Test.YtcidadikmmdalaaDoorFM04
import Derived.Test.YtcidadikmmdalaaDoorFM03
/- The reference's Read by its contract. -/
namespace Go.Proofs.YtcidadikmmdalaaDoor.Fr
open Go.RowKit Go.Extern

theorem val_append (a b : List Nat) : val (a ++ b) = val a * 256 ^ b.length + val b := by
  have h := fold_from b (val a)
  unfold val at h ⊢
  rw [List.foldl_append]; exact h
theorem val_snoc (a : List Nat) (b : Nat) : val (a ++ [b]) = val a * 256 + b := by unfold val; rw [List.foldl_append]; rfl
theorem val_take_le (bs : List Nat) {j k : Nat} (h : j ≤ k) : val (bs.take j) ≤ val (bs.take k) := by
  have e : bs.take k = bs.take j ++ (bs.take k).drop j := by
    conv => lhs; rw [← List.take_append_drop j (bs.take k)]
    rw [List.take_take, Nat.min_eq_left h]
  rw [e, val_append]
  have : val (bs.take j) * 1 ≤ val (bs.take j) * 256 ^ ((bs.take k).drop j).length := Nat.mul_le_mul_left _ (Nat.pow_pos (by decide))
  omega
/-- Eight bytes: too great just if the first is above 63. -/
theorem long_great (bs : List Nat) (h8 : 8 ≤ bs.length) (hlt : ∀ b ∈ bs, b < 256) (b : Nat) (hb : bs[0]? = some b) : (val (bs.take 8) ≤ great 8) ↔ b ≤ 63 := by
  match bs, h8, hb, hlt with
  | b0 :: r, h8, hb, hlt =>
    obtain rfl : b0 = b := by simpa using hb
    have ht : (b0 :: r).take 8 = [b0] ++ r.take 7 := rfl
    have hl : (r.take 7).length = 7 := by simp at h8 ⊢; omega
    have hv := val_lt (r.take 7) (fun x hx => hlt x (List.mem_cons_of_mem _ (List.mem_of_mem_take hx)))
    rw [ht, val_append, hl]
    rw [hl] at hv
    have h1 : val [b0] = b0 := by simp [val]
    rw [h1]
    simp only [great, if_true] at *
    constructor
    · intro h; omega
    · intro h; omega

set_option maxRecDepth 100000 in
set_option maxHeartbeats 400000 in
theorem read_lacks (wd : Nat) (bs : List Nat) (v : Value) (w : World) (hv : Bytes w v bs) (hl : bs.length < wd) :
    Calls Tryd.prog 32 #[v, .int .i64 (wd : Int)] w fun e w' => e = .returned (.tuple #[.int .i64 0, .bool false]) ∧ w' = w := by
  obtain ⟨ao, cap, g, off, rfl, -⟩ := hv
  have hl' : (bs.length : Int) < (wd : Int) := by omega
  go_enter Tryd.func32, Tryd.ntmps32
  go_wp2
  go_ret2
  exact ⟨rfl, rfl⟩

set_option maxRecDepth 100000 in
set_option maxHeartbeats 400000 in
theorem read_great (bs : List Nat) (v : Value) (w : World) (hv : Bytes w v bs) (hl : 8 ≤ bs.length) (b : Nat) (hb : bs[0]? = some b) (h63 : 63 < b) :
    Calls Tryd.prog 32 #[v, .int .i64 8] w fun e w' => e = .returned (.tuple #[.int .i64 0, .bool false]) ∧ w' = w := by
  obtain ⟨g, off, cap, rfl, hc, -, -⟩ := hv.at0 (by omega)
  have c0 : w.cell? ⟨g, off, none⟩ = some (.int .u8 (b : Int)) := hc 0 b hb
  have hl' : ¬ (bs.length : Int) < 8 := by omega
  have hl0 : (0 : Int) < (bs.length : Int) := by omega
  have hn0 : 0 < bs.length := by omega
  have hg : (63 : Int) < (b : Int) := by omega
  have d1 : decide ((bs.length : Int) < 8) = false := by simpa using hl'
  have d2 : decide ((63 : Int) < (b : Int)) = true := by simpa using hg
  clear hv hc hb h63 hl
  go_enter Tryd.func32, Tryd.ntmps32
  go_wp2
  go_ret2
  exact ⟨rfl, rfl⟩

set_option maxRecDepth 100000 in
set_option maxHeartbeats 400000 in
theorem read_eight (bs : List Nat) (v : Value) (w : World) (hv : Bytes w v bs) (hl : 8 ≤ bs.length) (b : Nat) (hb : bs[0]? = some b) (h63 : b ≤ 63) (hgr : val (bs.take 8) < 9223372036854775808) :
    Calls Tryd.prog 32 #[v, .int .i64 8] w fun e w' => e = .returned (.tuple #[.int .i64 (val (bs.take 8) : Nat), .bool true]) ∧ w' = w := by
  have HLT := hide hv.lt
  obtain ⟨g, off, cap, rfl, hc, -, -⟩ := hv.at0 (by omega)
  have c0 : w.cell? ⟨g, off, none⟩ = some (.int .u8 (b : Int)) := hc 0 b hb
  have hl' : ¬ (bs.length : Int) < 8 := by omega
  have hl0 : (0 : Int) < (bs.length : Int) := by omega
  have hn0 : 0 < bs.length := by omega
  have d1 : decide ((bs.length : Int) < 8) = false := by simpa using hl'
  have d2 : decide ((63 : Int) < (b : Int)) = false := by simp; omega
  have HC := hide hc
  have HGR := hide hgr
  clear hv hc hb h63 hgr
  go_enter Tryd.func32, Tryd.ntmps32
  go_wp2
  go_loopg [6, 7] 8 (fun k n i wr => wr = w ∧ ∃ j, j + k = 8 ∧ i = .int .i64 (j : Int) ∧ n = .int .i64 ((val (bs.take j) : Nat) : Int))
  case atStart => exact ⟨rfl, 0, by omega, rfl, by simp [val]⟩
  case round =>
    obtain ⟨rfl, j, hj, rfl, hx⟩ := hrel
    cases gk with
    | zero =>
      obtain hjw : j = 8 := by omega
      rw [hjw] at hx
      have hnl : ¬ (j : Int) < 8 := by omega
      clear hjw
      generalize hxv : val (bs.take 8) = x at hx
      have HXV := hide hxv
      subst hx
      clear hxv
      go_wp2
      go_ret2
      exact ⟨by rw [HXV.out]; rfl, rfl⟩
    | succ m =>
      have hlt : (j : Int) < 8 := by omega
      have hlt2 : (j : Int) < (bs.length : Int) := by omega
      have hb0 : (0 : Int) ≤ (j : Int) := by omega
      obtain ⟨b, hb⟩ : ∃ b, bs[j]? = some b := ⟨bs[j]'(by omega), by simp⟩
      have k1 := HC.out j b hb
      have hb256 : b < 256 := HLT.out b (List.mem_of_getElem? hb)
      have HV : Hid (val (bs.take (j + 1)) = val (bs.take j) * 256 + b) := by show _ = _; rw [take_snoc hb, val_snoc]
      have hle := val_take_le bs (show j + 1 ≤ 8 by omega)
      rw [HV.out] at hle
      have hxb : val (bs.take j) * 256 + b < 9223372036854775808 := by have := HGR.out; omega
      generalize val (bs.take j) = x at *
      subst hx
      have hx0 : (0 : Int) ≤ (x : Int) := by omega
      have hx1 : (x : Int) * 256 + (b : Int) < 9223372036854775808 := by omega
      clear hb hle
      go_wp2
      go_roundg m
      case measure => omega
      case rel => exact ⟨rfl, j + 1, by omega, by go_num, by rw [HV.out]; go_num⟩

set_option maxRecDepth 100000 in
set_option maxHeartbeats 400000 in
theorem read_small (wd : Nat) (hwd : wd ≤ 4) (bs : List Nat) (v : Value) (w : World) (hv : Bytes w v bs) (hl : wd ≤ bs.length) (hpos : 0 < wd) (hgr : val (bs.take wd) < 9223372036854775808) :
    Calls Tryd.prog 32 #[v, .int .i64 (wd : Int)] w fun e w' => e = .returned (.tuple #[.int .i64 (val (bs.take wd) : Nat), .bool true]) ∧ w' = w := by
  have HLT := hide hv.lt
  obtain ⟨g, off, cap, rfl, hc, -, -⟩ := hv.at0 (by omega)
  have hl' : ¬ (bs.length : Int) < (wd : Int) := by omega
  have hw8 : ((wd : Int) == 8) = false := by simp; omega
  have d1 : decide (bs.length < wd) = false := by simp; omega
  have d3 : decide ((bs.length : Int) < (wd : Int)) = false := by simp; omega
  have HC := hide hc
  have HGR := hide hgr
  clear hv hc hgr
  go_enter Tryd.func32, Tryd.ntmps32
  go_wp2
  go_loopg [6, 7] wd (fun k n i wr => wr = w ∧ ∃ j, j + k = wd ∧ i = .int .i64 (j : Int) ∧ n = .int .i64 ((val (bs.take j) : Nat) : Int))
  case atStart => exact ⟨rfl, 0, by omega, rfl, by simp [val]⟩
  case round =>
    obtain ⟨rfl, j, hj, rfl, hx⟩ := hrel
    cases gk with
    | zero =>
      obtain hjw : j = wd := by omega
      rw [hjw] at hx
      have hnl : ¬ (j : Int) < (wd : Int) := by omega
      clear hjw
      generalize hxv : val (bs.take wd) = x at hx
      have HXV := hide hxv
      subst hx
      clear hxv
      go_wp2
      go_ret2
      exact ⟨by rw [HXV.out]; rfl, rfl⟩
    | succ m =>
      have hlt : (j : Int) < (wd : Int) := by omega
      have hlt2 : (j : Int) < (bs.length : Int) := by omega
      have hb0 : (0 : Int) ≤ (j : Int) := by omega
      obtain ⟨b, hb⟩ : ∃ b, bs[j]? = some b := ⟨bs[j]'(by omega), by simp⟩
      have k1 := HC.out j b hb
      have hb256 : b < 256 := HLT.out b (List.mem_of_getElem? hb)
      have HV : Hid (val (bs.take (j + 1)) = val (bs.take j) * 256 + b) := by show _ = _; rw [take_snoc hb, val_snoc]
      have hle := val_take_le bs (show j + 1 ≤ wd by omega)
      rw [HV.out] at hle
      have hxb : val (bs.take j) * 256 + b < 9223372036854775808 := by have := HGR.out; omega
      generalize val (bs.take j) = x at *
      subst hx
      have hx0 : (0 : Int) ≤ (x : Int) := by omega
      have hx1 : (x : Int) * 256 + (b : Int) < 9223372036854775808 := by omega
      clear hb hle
      go_wp2
      go_roundg m
      case measure => omega
      case rel => exact ⟨rfl, j + 1, by omega, by go_num, by rw [HV.out]; go_num⟩

theorem read_any (wd : Nat) (hwd : wd = 1 ∨ wd = 2 ∨ wd = 4 ∨ wd = 8) (bs : List Nat) (v : Value) (w : World) (hv : Bytes w v bs) :
    Calls Tryd.prog 32 #[v, .int .i64 (wd : Int)] w fun e w' => e = .returned (.tuple #[.int .i64 (rdN bs wd : Nat), .bool (readOk bs wd)]) ∧ w' = w := by
  by_cases hl : bs.length < wd
  · have h1 : readOk bs wd = false := by simp [readOk]; omega
    have h2 : rdN bs wd = 0 := by simp [rdN, h1]
    rw [h1, h2]
    exact read_lacks wd bs v w hv hl
  · have hl' : wd ≤ bs.length := by omega
    have hvl := val_lt (bs.take wd) (fun x hx => hv.lt x (List.mem_of_mem_take hx))
    rw [show (bs.take wd).length = wd by simp; omega] at hvl
    by_cases h8 : wd = 8
    · subst h8
      obtain ⟨b, hb⟩ : ∃ b, bs[0]? = some b := ⟨bs[0]'(by omega), by simp⟩
      have hiff := long_great bs hl' hv.lt b hb
      by_cases h63 : b ≤ 63
      · have hv8 := hiff.2 h63
        have h1 : readOk bs 8 = true := by simp [readOk, hl', hv8]
        have h2 : rdN bs 8 = val (bs.take 8) := by simp [rdN, h1]
        rw [h1, h2]
        exact read_eight bs v w hv hl' b hb h63 (by simp [great] at hv8; omega)
      · have h1 : readOk bs 8 = false := by
          have : ¬ val (bs.take 8) ≤ great 8 := fun h => h63 (hiff.1 h)
          simp [readOk]; omega
        have h2 : rdN bs 8 = 0 := by simp [rdN, h1]
        rw [h1, h2]
        exact read_great bs v w hv hl' b hb (by omega)
    · have h4 : wd ≤ 4 := by omega
      have hgr : val (bs.take wd) ≤ great wd := by
        unfold great; rw [if_neg h8]; omega
      have hpw : (256 : Nat) ^ wd ≤ 256 ^ 4 := Nat.pow_le_pow_right (by decide) h4
      have h1 : readOk bs wd = true := by simp [readOk, hl', hgr]
      have h2 : rdN bs wd = val (bs.take wd) := by simp [rdN, h1]
      rw [h1, h2]
      exact read_small wd h4 bs v w hv hl' (by omega) (by simp at hpw; omega)
end Go.Proofs.YtcidadikmmdalaaDoor.Fr

/- An unpacker whose bytes lie below a bound. -/
namespace Go.Proofs.YtcidadikmmdalaaDoor.Fr
open Go.RowKit Go.Extern

/-- As 'Unp', and its bytes lie in a block below 'B'. -/
def UnpB (w : World) (B b : Nat) (left : List Nat) (sp : Bool) : Prop :=
  ∃ ao n cap, w.heap[b]? = some (.cells #[.slice ao n cap, .bool sp] 90 (0, 0)) ∧ Bytes w (.slice ao n cap) left ∧ (sp = true → left = []) ∧ ∀ a, ao = some a → a.block < B
theorem UnpB.unp {w : World} {B b : Nat} {left : List Nat} {sp : Bool} (h : UnpB w B b left sp) : Unp w b left sp := by
  obtain ⟨ao, n, cap, h1, h2, h3, -⟩ := h; exact ⟨ao, n, cap, h1, h2, h3⟩
theorem UnpB.below {w w' : World} {B b : Nat} {left : List Nat} {sp : Bool} (h : UnpB w B b left sp) (hb : Below w.heap.size w w') : UnpB w' B b left sp := by
  obtain ⟨ao, n, cap, h1, h2, h3⟩ := h
  exact ⟨ao, n, cap, heap_below hb h1, h2.below hb, h3⟩
/-- What leaves the blocks below the bound leaves it. -/
theorem UnpB.keep {w w' : World} {B b : Nat} {left : List Nat} {sp : Bool} (h : UnpB w B b left sp) (hbB : b < B) (hk : ∀ c o, c < B → w.heap[c]? = some o → w'.heap[c]? = some o) : UnpB w' B b left sp := by
  obtain ⟨ao, n, cap, h1, ⟨ao', cap', g, off, e, k2, k3, k4⟩, h3, h4⟩ := h
  refine ⟨ao, n, cap, hk b _ hbB h1, ⟨ao', cap', g, off, e, k2, fun i x hx => ?_, k4⟩, h3, h4⟩
  have hc := k3 i x hx
  have hpos : 0 < left.length := by have := (List.getElem?_eq_some_iff.1 hx).1; omega
  simp only [Value.slice.injEq] at e
  have hg : g < B := h4 ⟨g, off, none⟩ (by rw [e.1]; exact k2 hpos)
  obtain ⟨o, ho⟩ : ∃ o, w.heap[g]? = some o := ⟨w.heap[g]'(cell_lt hc), by rw [Array.getElem?_eq_getElem]⟩
  have ho' := hk g o hg ho
  unfold World.cell? at hc ⊢
  simp only [ho] at hc
  simp only [ho']
  exact hc
theorem cut_fromB (w : World) (ao0 : Option Addr) (n0 cap0 : Nat) (bs : List Nat) (lo : Nat) (hv : Bytes w (.slice ao0 n0 cap0) bs) (hlo : lo ≤ bs.length) : ∃ ao n cap, (∀ w2, (Instr.slice 25 (.slice ao0 n0 cap0) (some (.int .i64 (lo : Int))) none none).run Tryd.prog w2 = .ok (.slice ao n cap) w2) ∧ Hid (Bytes w (.slice ao n cap) (bs.drop lo)) ∧ ∀ B, (∀ a, ao0 = some a → a.block < B) → ∀ a, ao = some a → a.block < B := by
  have hv' := hv
  obtain ⟨ao, cap, g, off, e0, -⟩ := hv
  simp only [Value.slice.injEq] at e0
  obtain ⟨rfl, rfl, rfl⟩ := e0
  refine ⟨if cap0 = lo then ao0 else ao0.map (·.add (lo * 1)), bs.length - lo, cap0 - lo, fun w2 => ?_, ?_, fun B hB a ha => ?_⟩
  · have := run_slice_l (P := Tryd.prog) w2 25 ao0 bs.length cap0 underB .i64 (lo : Int) (by omega) (by omega)
    rw [this, elemB, sizeU8]
    simp [Result.andThen, sliced]
  · have := sliced_bytes w ao0 bs cap0 lo bs.length hv' hlo (Nat.le_refl _)
    have e : (bs.drop lo).take (bs.length - lo) = bs.drop lo := List.take_of_length_le (by simp)
    rw [e] at this
    exact this
  · split at ha
    · exact hB a ha
    · obtain ⟨a0, h0, rfl⟩ := Option.map_eq_some_iff.1 ha
      have : (a0.add (lo * 1)).block = a0.block := by unfold Addr.add; split <;> rfl
      rw [this]; exact hB a0 h0
theorem spoilB (B b : Nat) (left : List Nat) (sp : Bool) (w : World) (hu : UnpB w B b left sp) :
    Calls Tryd.prog 58 #[.pointer (some ⟨b, 0, none⟩)] w fun e w' => e = .returned (.int .i64 0) ∧ UnpB w' B b [] true ∧ w.grownBy w' (some b) := by
  obtain ⟨ao, n, cap, h1, -, -⟩ := hu
  have c0 := two_cell0 h1
  have c1 := two_cell1 h1
  have f0 := two_frozen h1 0
  have f1 := two_frozen h1 1
  have H1 := hide h1
  clear h1
  go_enter Tryd.func58, Tryd.ntmps58
  go_wp2
  go_ret
  refine ⟨rfl, ⟨none, 0, 0, two_set1 _ (two_set0 _ H1.out), Bytes.nil _, fun _ => rfl, by simp⟩, ?_⟩
  exact (grown_set w b 0 _).trans (grown_set _ b 1 _)

set_option maxRecDepth 100000 in
set_option maxHeartbeats 1000000 in
theorem unextB_yes (B wd : Nat) (hwd : wd = 1 ∨ wd = 2 ∨ wd = 4 ∨ wd = 8) (b : Nat) (left : List Nat) (sp : Bool) (w : World) (hu : UnpB w B b left sp) (hok : readOk left wd = true) :
    Calls Tryd.prog 52 #[.pointer (some ⟨b, 0, none⟩), .int .i64 (wd : Int)] w fun e w' => e = .returned (.int .i64 (val (left.take wd) : Nat)) ∧ UnpB w' B b (left.drop wd) sp ∧ w.grownBy w' (some b) := by
  obtain ⟨ao, n, cap, h1, h2, h3, h9⟩ := hu
  have hok' : wd ≤ left.length ∧ val (left.take wd) ≤ great wd := by simpa [readOk] using hok
  obtain ⟨hl, hg⟩ := hok'
  have hsp : Hid (sp = true → left.drop wd = []) := fun e => by rw [h3 e]; simp
  obtain ⟨an, nn, cn, hcut, HCut, hbd⟩ := cut_fromB w _ _ _ left wd h2 hl
  have HBD := hide (hbd B h9)
  clear hbd h9
  have HR := hide (readNumber_any wd hwd left hl _ w h2)
  have H2 := hide h2
  obtain ⟨ao', cap', g, off, e, -⟩ := h2
  simp only [Value.slice.injEq] at e
  obtain ⟨rfl, rfl, rfl⟩ := e
  have c0 := two_cell0 h1
  have H1 := hide h1
  have hnl : ¬ (left.length : Int) < (wd : Int) := by omega
  have hgi : ¬ (great wd : Int) < ((val (left.take wd) : Nat) : Int) := by omega
  have hg2 := great_lt wd hwd
  have hw64 : IntKind.i64.wrap ((val (left.take wd) : Nat) : Int) = ((val (left.take wd) : Nat) : Int) := by rw [IntKind.wrap_i64]; omega
  have HWD := hide hwd
  generalize val (left.take wd) = x at *
  clear h1 h3 hok hg hl hwd
  go_enter Tryd.func52, Tryd.ntmps52
  go_wp2_with fail
  refine HR.out.mono ?_
  rintro e w1 ⟨rfl, hb1⟩
  have HB1 := hide hb1
  have h1' := heap_below hb1 H1.out
  have d0 := two_cell0 h1'
  have d1 := two_frozen h1' 0
  have H1' := hide h1'
  clear hb1 h1'
  go_wp2_with (go_at_call 57; refine (greatest_any wd HWD.out _).mono ?_; rintro e w' ⟨rfl, rfl⟩)
  go_ret
  refine ⟨rfl, ⟨an, nn, cn, two_set0 _ H1'.out, ?_, hsp.out, HBD.out⟩, ?_⟩
  · exact Bytes.grown H1'.out (grown_set _ b 0 _) (HCut.out.below HB1.out)
  · exact (grown_below HB1.out _).trans (grown_set _ b 0 _)

set_option maxRecDepth 100000 in
set_option maxHeartbeats 1000000 in
theorem unextB_no (B wd : Nat) (hwd : wd = 1 ∨ wd = 2 ∨ wd = 4 ∨ wd = 8) (b : Nat) (left : List Nat) (sp : Bool) (w : World) (hu : UnpB w B b left sp) (hok : readOk left wd = false) :
    Calls Tryd.prog 52 #[.pointer (some ⟨b, 0, none⟩), .int .i64 (wd : Int)] w fun e w' => e = .returned (.int .i64 0) ∧ UnpB w' B b [] true ∧ w.grownBy w' (some b) := by
  have HU := hide hu
  obtain ⟨ao, n, cap, h1, h2, h3, -⟩ := hu
  have HWD := hide hwd
  by_cases hl : wd ≤ left.length
  · have hg : great wd < val (left.take wd) := by
      have : ¬ (wd ≤ left.length ∧ val (left.take wd) ≤ great wd) := by simpa [readOk] using hok
      omega
    have HR := hide (readNumber_any wd hwd left hl _ w h2)
    obtain ⟨ao', cap', g, off, e, -⟩ := h2
    simp only [Value.slice.injEq] at e
    obtain ⟨rfl, rfl, rfl⟩ := e
    have c0 := two_cell0 h1
    have hnl : ¬ (left.length : Int) < (wd : Int) := by omega
    have hgi : (great wd : Int) < ((val (left.take wd) : Nat) : Int) := by omega
    generalize val (left.take wd) = x at *
    clear h1 h3 hok hg hl hwd
    go_enter Tryd.func52, Tryd.ntmps52
    go_wp2_with fail
    refine HR.out.mono ?_
    rintro e w1 ⟨rfl, hb1⟩
    have HB1 := hide hb1
    clear hb1
    go_wp2_with (first
      | (go_at_call 57; refine (greatest_any wd HWD.out _).mono ?_; rintro e w' ⟨rfl, rfl⟩)
      | (go_at_call 58; refine (spoilB B b left sp _ (HU.out.below HB1.out)).mono ?_; rintro e w' ⟨rfl, hu2, hg2⟩))
    go_ret
    exact ⟨rfl, hu2, (grown_below HB1.out _).trans hg2⟩
  · obtain ⟨ao', cap', g, off, e, -⟩ := h2
    simp only [Value.slice.injEq] at e
    obtain ⟨rfl, rfl, rfl⟩ := e
    have c0 := two_cell0 h1
    have hnl : (left.length : Int) < (wd : Int) := by omega
    clear h1 h3 hok hl hwd
    go_enter Tryd.func52, Tryd.ntmps52
    go_wp2_with (go_at_call 58; refine (spoilB B b left sp _ HU.out).mono ?_; rintro e w' ⟨rfl, hu2, hg2⟩)
    go_ret
    exact ⟨rfl, hu2, hg2⟩

theorem unextB_any (B wd : Nat) (hwd : wd = 1 ∨ wd = 2 ∨ wd = 4 ∨ wd = 8) (b : Nat) (left : List Nat) (sp : Bool) (w : World) (hu : UnpB w B b left sp) :
    Calls Tryd.prog 52 #[.pointer (some ⟨b, 0, none⟩), .int .i64 (wd : Int)] w fun e w' => e = .returned (.int .i64 (rdN left wd : Nat)) ∧ UnpB w' B b (rdL left wd) (rdS left sp wd) ∧ w.grownBy w' (some b) := by
  cases hok : readOk left wd with
  | true =>
    have := unextB_yes B wd hwd b left sp w hu hok
    simpa [rdN, rdL, rdS, hok] using this
  | false =>
    have := unextB_no B wd hwd b left sp w hu hok
    simpa [rdN, rdL, rdS, hok] using this
theorem UByteB (B b : Nat) (left : List Nat) (sp : Bool) (w : World) (hu : UnpB w B b left sp) :
    Calls Tryd.prog 35 #[.pointer (some ⟨b, 0, none⟩)] w fun e w' => e = .returned (.int .i64 (rdN left 1 : Nat)) ∧ UnpB w' B b (rdL left 1) (rdS left sp 1) ∧ w.grownBy w' (some b) := by
  have H := hide (unextB_any B 1 (by simp) b left sp w hu)
  clear hu
  generalize rdN left 1 = x at *
  generalize rdL left 1 = y at *
  generalize rdS left sp 1 = z at *
  go_enter Tryd.func35, Tryd.ntmps35
  go_wp2_with fail
  refine H.out.mono ?_
  rintro e w' ⟨rfl, hq, hg⟩
  have HQ := hide hq
  have HG := hide hg
  clear hq hg H
  go_wp2
  go_ret
  exact ⟨rfl, HQ.out, HG.out⟩
theorem ULongB (B b : Nat) (left : List Nat) (sp : Bool) (w : World) (hu : UnpB w B b left sp) :
    Calls Tryd.prog 36 #[.pointer (some ⟨b, 0, none⟩)] w fun e w' => e = .returned (.int .i64 (rdN left 8 : Nat)) ∧ UnpB w' B b (rdL left 8) (rdS left sp 8) ∧ w.grownBy w' (some b) := by
  have H := hide (unextB_any B 8 (by simp) b left sp w hu)
  clear hu
  generalize rdN left 8 = x at *
  generalize rdL left 8 = y at *
  generalize rdS left sp 8 = z at *
  go_enter Tryd.func36, Tryd.ntmps36
  go_wp2_with fail
  refine H.out.mono ?_
  rintro e w' ⟨rfl, hq, hg⟩
  have HQ := hide hq
  have HG := hide hg
  clear hq hg H
  go_wp2
  go_ret
  exact ⟨rfl, HQ.out, HG.out⟩
theorem newUnpackerB (bs : List Nat) (v : Value) (w : World) (hv : Bytes w v bs) :
    Calls Tryd.prog 34 #[v] w fun e w' => ∃ b, e = .returned (.pointer (some ⟨b, 0, none⟩)) ∧ w.heap.size ≤ b ∧ UnpB w' w'.heap.size b bs false ∧ b < w'.heap.size ∧ Below w.heap.size w w' := by
  have H2 := hide (clone_any bs _ w hv)
  obtain ⟨ao, cap, g, off, rfl, -⟩ := hv
  go_enter Tryd.func34, Tryd.ntmps34
  go_wp2_with fail
  refine H2.out.mono ?_
  rintro e w1 ⟨u, rfl, ho, hb⟩
  have HO := hide ho
  have HB := hide hb
  obtain ⟨ao2, cap2, rfl⟩ := ho.form
  have HBD : Hid (∀ a, ao2 = some a → a.block < (w1.alloc (.cells #[.slice ao2 bs.length cap2, .bool false] 90)).heap.size) := hide (fun a e => by subst e; have := (ho.lt a.block rfl).2; simp; omega)
  clear ho hb
  go_wp2
  go_ret
  refine ⟨_, rfl, HB.out.size, ⟨ao2, _, cap2, heap_alloc_new _ _, HO.out.bytes.below ((Below.refl _ _).alloc (Nat.le_refl _) _), by simp, HBD.out⟩, by simp, HB.out.alloc HB.out.size _⟩

end Go.Proofs.YtcidadikmmdalaaDoor.Fr
