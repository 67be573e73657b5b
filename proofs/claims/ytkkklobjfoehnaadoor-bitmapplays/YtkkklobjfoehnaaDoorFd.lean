/- find. -/
import Derived.Test.YtkkklobjfoehnaaDoorTz
namespace Go.Proofs.YtkkklobjfoehnaaDoor
open Go.RowKit Go.Extern

/-- What find, Free, Next tell. -/
def foundV (o : Option Nat) : Value := match o with | some k => .tuple #[.int .i64 (k : Int), .bool true] | none => .tuple #[.int .i64 0, .bool false]
theorem i64_or63 (i : Nat) (hi : i < 1000000) : bits .or .i64 (i : Int) 63 = ((i / 64 * 64 + 63 : Nat) : Int) := by
  have h1 : (BitVec.ofInt 64 (i : Int)).toNat = i := by
    rw [BitVec.ofInt_natCast, BitVec.toNat_ofNat]; exact Nat.mod_eq_of_lt (by omega)
  have h2 : (BitVec.ofInt 64 (63 : Int)).toNat = 63 := by decide
  show IntKind.i64.wrap ((BitVec.ofInt 64 (i : Int) ||| BitVec.ofInt 64 (63 : Int)).toNat : Int) = _
  have e : i ||| 63 = i / 64 * 64 + 63 := by
    apply Nat.eq_of_testBit_eq
    intro j
    rw [Nat.testBit_or, Nat.mul_comm, show i / 64 = i / 2 ^ 6 by rfl, show 64 * (i / 2 ^ 6) + 63 = 2 ^ 6 * (i / 2 ^ 6) + 63 by rfl, Nat.testBit_two_pow_mul_add _ (by decide), Nat.testBit_div_two_pow, show (63 : Nat) = 2 ^ 6 - 1 by rfl, Nat.testBit_two_pow_sub_one]
    by_cases h : j < 6
    · simp [h]
    · simp [h]; congr 1; omega
  rw [BitVec.toNat_or, h1, h2, e, IntKind.wrap_i64]
  omega
theorem u64_not (x : Nat) (hx : x < 18446744073709551616) : bits .xor .u64 IntKind.u64.max (x : Int) = ((18446744073709551615 - x : Nat) : Int) := by
  have h1 : (BitVec.ofInt 64 (x : Int)) = BitVec.ofNat 64 x := by rw [BitVec.ofInt_natCast]
  have h2 : (BitVec.ofInt 64 IntKind.u64.max) = BitVec.allOnes 64 := by decide
  show IntKind.u64.wrap ((BitVec.ofInt 64 IntKind.u64.max ^^^ BitVec.ofInt 64 (x : Int)).toNat : Int) = _
  rw [h1, h2, BitVec.allOnes_xor, BitVec.toNat_not, BitVec.toNat_ofNat, Nat.mod_eq_of_lt (by omega)]
  rw [IntKind.wrap_u64]
  omega
set_option maxRecDepth 100000 in
set_option maxHeartbeats 2000000 in
theorem find_nat {w : World} {F : Nat → Prop} {b : Nat} {l : List Bool} (h : Bm w F b l) (a : Nat) (on : Bool) (hT : Tab w) :
    Calls Tryd.prog 29 #[.pointer (some ⟨b, 0, none⟩), .int .i64 (a : Int), .bool on] w fun e w' => e = .returned (foundV (firstS l a on)) ∧ w' = w := by
  obtain ⟨v, ws, h⟩ := h
  obtain ⟨c0, c1⟩ := h.cells
  have HH := hide h
  have HL := hide h.len
  have HT := hide hT
  obtain ⟨ao, cap, e⟩ := ownsRow_form h.row
  rw [wordsC_length] at e
  subst e
  clear h hT
  go_enter Tryd.func29, Tryd.ntmps29
  go_wp2_with fail
  go_loopg [8] (l.length - a) (fun c i wr => ∃ j : Nat, c = l.length - j ∧ a ≤ j ∧ i = .int .i64 (j : Int) ∧ wr = w ∧ Hid (∀ q, a ≤ q → q < j → q < l.length → l.getD q false ≠ on))
  case atStart => exact ⟨a, rfl, Nat.le_refl _, rfl, rfl, hide fun q h1 h2 => by omega⟩
  case round =>
    obtain ⟨j, hc, haj, rfl, rfl, HN⟩ := hrel
    by_cases hj : j < l.length
    · have hnl : (j : Int) < (l.length : Int) := by omega
      obtain ⟨x, g, nw, cap2, hv, hw, hxl, hwl, hgd, hnw⟩ := HH.out.word hj
      obtain ⟨rfl, rfl, rfl⟩ : ao = some ⟨g, 0, none⟩ ∧ ws.length = nw ∧ cap = cap2 := by simpa using hv
      have cw := word_at HH.out hw
      rw [Nat.zero_add] at cw
      have hj2 : j < 1000000 := by have := HL.out; omega
      have e1 := i64_and63 j hj2
      obtain ⟨n1, hn1⟩ : ∃ n1, n1 = j / 64 * 64 + 63 := ⟨_, rfl⟩
      obtain ⟨n2, hn2⟩ : ∃ n2, n2 = (j / 64 + 1) * 64 := ⟨_, rfl⟩
      have e2 : bits .or .i64 (j : Int) 63 = (n1 : Int) := by rw [hn1]; exact i64_or63 j hj2
      have e3 : IntKind.i64.wrap ((n1 : Int) + 1) = (n2 : Int) := by rw [IntWalk.i64_in _ ⟨by omega, by omega⟩]; omega
      have e6 : ((j : Int) / 64).toNat = j / 64 := by omega
      have hwn : (j : Int) / 64 < (ws.length : Int) := by omega
      have hw0 : (0 : Int) ≤ (j : Int) / 64 := by omega
      obtain ⟨rest, hrest⟩ : ∃ rest, rest = wantW on x / 2 ^ (j % 64) := ⟨_, rfl⟩
      obtain ⟨r1, r2, r3, r4⟩ := find_round HH.out.map haj (fun q h1 h2 => HN.out q h1 h2 (by omega)) x rest hw hrest
      have HTZ := hide (tz_any rest r1 _ HT.out)
      generalize Lib.ctz 64 rest = t at r2 r3 r4 HTZ
      obtain ⟨fd, hfd⟩ : ∃ fd, fd = j + t := ⟨_, rfl⟩
      have e7 : IntKind.i64.wrap ((j : Int) + (t : Int)) = (fd : Int) := by rw [IntWalk.i64_in _ ⟨by omega, by omega⟩]; omega
      rw [← hfd] at r2 r3
      have HR2 := hide r2
      have HR3 : Hid ((rest = 0 ∨ l.length ≤ fd) → ∀ q, a ≤ q → q < n2 → q < l.length → l.getD q false ≠ on) := hide (by rw [hn2]; exact r3)
      have HRE := hide hrest
      have HN2 : Hid (j < n2) := hide (by omega)
      have HC := hide hc
      have HAJ := hide haj
      have HXL := hide hxl
      clear hv hgd hnw r2 r3 r4 r1 hrest hfd hn1 hn2 hw hxl hc haj hj2 hwl
      cases on with
      | true =>
        have e8 : ((x : Int) / 2 ^ (j % 64)) = ((rest : Nat) : Int) := by rw [HRE.out]; unfold wantW; simp
        by_cases hz : rest = 0
        · have hb : ((rest : Int) != 0) = false := by simp [hz]
          have HZ := hide hz
          clear hz
          go_wp2_with fail
          refine HTZ.out.mono ?_
          rintro e w' ⟨rfl, rfl⟩
          go_wp2_with fail
          go_roundg (l.length - n2)
          case measure => have := HN2.out; have := HC.out; omega
          case rel => exact ⟨n2, rfl, by have := HAJ.out; have := HN2.out; omega, rfl, rfl, hide fun q h1 h2 h3 => HR3.out (.inl HZ.out) q h1 h2 h3⟩
        · have hb : ((rest : Int) != 0) = true := by simp [hz]
          have HZ := hide hz
          clear hz
          by_cases hf : fd < l.length
          · have hfi : (fd : Int) < (l.length : Int) := by omega
            have HE := hide (HR2.out HZ.out hf)
            clear hf
            go_wp2_with fail
            refine HTZ.out.mono ?_
            rintro e w' ⟨rfl, rfl⟩
            go_wp2_with fail
            go_ret2
            exact ⟨by rw [HE.out]; rfl, rfl⟩
          · have hfi : ¬ (fd : Int) < (l.length : Int) := by omega
            have HE := hide (HR3.out (.inr (by omega)))
            clear hf
            go_wp2_with fail
            refine HTZ.out.mono ?_
            rintro e w' ⟨rfl, rfl⟩
            go_wp2_with fail
            go_roundg (l.length - n2)
            case measure => have := HN2.out; have := HC.out; omega
            case rel => exact ⟨n2, rfl, by have := HAJ.out; have := HN2.out; omega, rfl, rfl, hide fun q h1 h2 h3 => HE.out q h1 h2 h3⟩
      | false =>
        obtain ⟨y, hy⟩ : ∃ y, y = 18446744073709551615 - x := ⟨_, rfl⟩
        have ey : bits .xor .u64 IntKind.u64.max (x : Int) = (y : Int) := by rw [hy]; exact u64_not x HXL.out
        have e8 : ((y : Int) / 2 ^ (j % 64)) = ((rest : Nat) : Int) := by rw [HRE.out, hy]; unfold wantW; simp
        clear hy
        by_cases hz : rest = 0
        · have hb : ((rest : Int) != 0) = false := by simp [hz]
          have HZ := hide hz
          clear hz
          go_wp2_with fail
          refine HTZ.out.mono ?_
          clear h
          rintro e w' ⟨rfl, rfl⟩
          go_wp2_with fail
          go_roundg (l.length - n2)
          case measure => have := HN2.out; have := HC.out; omega
          case rel => exact ⟨n2, rfl, by have := HAJ.out; have := HN2.out; omega, rfl, rfl, hide fun q h1 h2 h3 => HR3.out (.inl HZ.out) q h1 h2 h3⟩
        · have hb : ((rest : Int) != 0) = true := by simp [hz]
          have HZ := hide hz
          clear hz
          by_cases hf : fd < l.length
          · have hfi : (fd : Int) < (l.length : Int) := by omega
            have HE := hide (HR2.out HZ.out hf)
            clear hf
            go_wp2_with fail
            refine HTZ.out.mono ?_
            clear h
            rintro e w' ⟨rfl, rfl⟩
            go_wp2_with fail
            go_ret2
            exact ⟨by rw [HE.out]; rfl, rfl⟩
          · have hfi : ¬ (fd : Int) < (l.length : Int) := by omega
            have HE := hide (HR3.out (.inr (by omega)))
            clear hf
            go_wp2_with fail
            refine HTZ.out.mono ?_
            clear h
            rintro e w' ⟨rfl, rfl⟩
            go_wp2_with fail
            go_roundg (l.length - n2)
            case measure => have := HN2.out; have := HC.out; omega
            case rel => exact ⟨n2, rfl, by have := HAJ.out; have := HN2.out; omega, rfl, rfl, hide fun q h1 h2 h3 => HE.out q h1 h2 h3⟩
    · have hnl : ¬ (j : Int) < (l.length : Int) := by omega
      have HE : Hid (firstS l a on = none) := hide (firstS_none.2 fun q h1 h2 => HN.out q h1 (by omega) h2)
      go_wp2
      go_ret2
      exact ⟨by rw [HE.out]; rfl, rfl⟩
set_option maxRecDepth 100000 in
set_option maxHeartbeats 2000000 in
theorem find_neg {w : World} {F : Nat → Prop} {b : Nat} {l : List Bool} (h : Bm w F b l) (a : Nat) (ha : a = 0) (fr : Int) (hfr : fr < 0) (on : Bool) (hT : Tab w) :
    Calls Tryd.prog 29 #[.pointer (some ⟨b, 0, none⟩), .int .i64 fr, .bool on] w fun e w' => e = .returned (foundV (firstS l a on)) ∧ w' = w := by
  obtain ⟨v, ws, h⟩ := h
  obtain ⟨c0, c1⟩ := h.cells
  have HH := hide h
  have HL := hide h.len
  have HT := hide hT
  obtain ⟨ao, cap, e⟩ := ownsRow_form h.row
  rw [wordsC_length] at e
  subst e
  have HA := hide ha
  clear h hT ha
  go_enter Tryd.func29, Tryd.ntmps29
  go_wp2_with fail
  go_loopg [8] (l.length - a) (fun c i wr => ∃ j : Nat, c = l.length - j ∧ a ≤ j ∧ i = .int .i64 (j : Int) ∧ wr = w ∧ Hid (∀ q, a ≤ q → q < j → q < l.length → l.getD q false ≠ on))
  case atStart => exact ⟨a, rfl, Nat.le_refl _, by rw [HA.out]; rfl, rfl, hide fun q h1 h2 => by omega⟩
  case round =>
    obtain ⟨j, hc, haj, rfl, rfl, HN⟩ := hrel
    by_cases hj : j < l.length
    · have hnl : (j : Int) < (l.length : Int) := by omega
      obtain ⟨x, g, nw, cap2, hv, hw, hxl, hwl, hgd, hnw⟩ := HH.out.word hj
      obtain ⟨rfl, rfl, rfl⟩ : ao = some ⟨g, 0, none⟩ ∧ ws.length = nw ∧ cap = cap2 := by simpa using hv
      have cw := word_at HH.out hw
      rw [Nat.zero_add] at cw
      have hj2 : j < 1000000 := by have := HL.out; omega
      have e1 := i64_and63 j hj2
      obtain ⟨n1, hn1⟩ : ∃ n1, n1 = j / 64 * 64 + 63 := ⟨_, rfl⟩
      obtain ⟨n2, hn2⟩ : ∃ n2, n2 = (j / 64 + 1) * 64 := ⟨_, rfl⟩
      have e2 : bits .or .i64 (j : Int) 63 = (n1 : Int) := by rw [hn1]; exact i64_or63 j hj2
      have e3 : IntKind.i64.wrap ((n1 : Int) + 1) = (n2 : Int) := by rw [IntWalk.i64_in _ ⟨by omega, by omega⟩]; omega
      have e6 : ((j : Int) / 64).toNat = j / 64 := by omega
      have hwn : (j : Int) / 64 < (ws.length : Int) := by omega
      have hw0 : (0 : Int) ≤ (j : Int) / 64 := by omega
      obtain ⟨rest, hrest⟩ : ∃ rest, rest = wantW on x / 2 ^ (j % 64) := ⟨_, rfl⟩
      obtain ⟨r1, r2, r3, r4⟩ := find_round HH.out.map haj (fun q h1 h2 => HN.out q h1 h2 (by omega)) x rest hw hrest
      have HTZ := hide (tz_any rest r1 _ HT.out)
      generalize Lib.ctz 64 rest = t at r2 r3 r4 HTZ
      obtain ⟨fd, hfd⟩ : ∃ fd, fd = j + t := ⟨_, rfl⟩
      have e7 : IntKind.i64.wrap ((j : Int) + (t : Int)) = (fd : Int) := by rw [IntWalk.i64_in _ ⟨by omega, by omega⟩]; omega
      rw [← hfd] at r2 r3
      have HR2 := hide r2
      have HR3 : Hid ((rest = 0 ∨ l.length ≤ fd) → ∀ q, a ≤ q → q < n2 → q < l.length → l.getD q false ≠ on) := hide (by rw [hn2]; exact r3)
      have HRE := hide hrest
      have HN2 : Hid (j < n2) := hide (by omega)
      have HC := hide hc
      have HAJ := hide haj
      have HXL := hide hxl
      clear hv hgd hnw r2 r3 r4 r1 hrest hfd hn1 hn2 hw hxl hc haj hj2 hwl
      cases on with
      | true =>
        have e8 : ((x : Int) / 2 ^ (j % 64)) = ((rest : Nat) : Int) := by rw [HRE.out]; unfold wantW; simp
        by_cases hz : rest = 0
        · have hb : ((rest : Int) != 0) = false := by simp [hz]
          have HZ := hide hz
          clear hz
          go_wp2_with fail
          refine HTZ.out.mono ?_
          rintro e w' ⟨rfl, rfl⟩
          go_wp2_with fail
          go_roundg (l.length - n2)
          case measure => have := HN2.out; have := HC.out; omega
          case rel => exact ⟨n2, rfl, by have := HAJ.out; have := HN2.out; omega, rfl, rfl, hide fun q h1 h2 h3 => HR3.out (.inl HZ.out) q h1 h2 h3⟩
        · have hb : ((rest : Int) != 0) = true := by simp [hz]
          have HZ := hide hz
          clear hz
          by_cases hf : fd < l.length
          · have hfi : (fd : Int) < (l.length : Int) := by omega
            have HE := hide (HR2.out HZ.out hf)
            clear hf
            go_wp2_with fail
            refine HTZ.out.mono ?_
            rintro e w' ⟨rfl, rfl⟩
            go_wp2_with fail
            go_ret2
            exact ⟨by rw [HE.out]; rfl, rfl⟩
          · have hfi : ¬ (fd : Int) < (l.length : Int) := by omega
            have HE := hide (HR3.out (.inr (by omega)))
            clear hf
            go_wp2_with fail
            refine HTZ.out.mono ?_
            rintro e w' ⟨rfl, rfl⟩
            go_wp2_with fail
            go_roundg (l.length - n2)
            case measure => have := HN2.out; have := HC.out; omega
            case rel => exact ⟨n2, rfl, by have := HAJ.out; have := HN2.out; omega, rfl, rfl, hide fun q h1 h2 h3 => HE.out q h1 h2 h3⟩
      | false =>
        obtain ⟨y, hy⟩ : ∃ y, y = 18446744073709551615 - x := ⟨_, rfl⟩
        have ey : bits .xor .u64 IntKind.u64.max (x : Int) = (y : Int) := by rw [hy]; exact u64_not x HXL.out
        have e8 : ((y : Int) / 2 ^ (j % 64)) = ((rest : Nat) : Int) := by rw [HRE.out, hy]; unfold wantW; simp
        clear hy
        by_cases hz : rest = 0
        · have hb : ((rest : Int) != 0) = false := by simp [hz]
          have HZ := hide hz
          clear hz
          go_wp2_with fail
          refine HTZ.out.mono ?_
          clear h
          rintro e w' ⟨rfl, rfl⟩
          go_wp2_with fail
          go_roundg (l.length - n2)
          case measure => have := HN2.out; have := HC.out; omega
          case rel => exact ⟨n2, rfl, by have := HAJ.out; have := HN2.out; omega, rfl, rfl, hide fun q h1 h2 h3 => HR3.out (.inl HZ.out) q h1 h2 h3⟩
        · have hb : ((rest : Int) != 0) = true := by simp [hz]
          have HZ := hide hz
          clear hz
          by_cases hf : fd < l.length
          · have hfi : (fd : Int) < (l.length : Int) := by omega
            have HE := hide (HR2.out HZ.out hf)
            clear hf
            go_wp2_with fail
            refine HTZ.out.mono ?_
            clear h
            rintro e w' ⟨rfl, rfl⟩
            go_wp2_with fail
            go_ret2
            exact ⟨by rw [HE.out]; rfl, rfl⟩
          · have hfi : ¬ (fd : Int) < (l.length : Int) := by omega
            have HE := hide (HR3.out (.inr (by omega)))
            clear hf
            go_wp2_with fail
            refine HTZ.out.mono ?_
            clear h
            rintro e w' ⟨rfl, rfl⟩
            go_wp2_with fail
            go_roundg (l.length - n2)
            case measure => have := HN2.out; have := HC.out; omega
            case rel => exact ⟨n2, rfl, by have := HAJ.out; have := HN2.out; omega, rfl, rfl, hide fun q h1 h2 h3 => HE.out q h1 h2 h3⟩
    · have hnl : ¬ (j : Int) < (l.length : Int) := by omega
      have HE : Hid (firstS l a on = none) := hide (firstS_none.2 fun q h1 h2 => HN.out q h1 (by omega) h2)
      go_wp2
      go_ret2
      exact ⟨by rw [HE.out]; rfl, rfl⟩
theorem foundV_form (o : Option Nat) : ∃ (k : Int) (q : Bool), foundV o = .tuple #[.int .i64 k, .bool q] := by cases o <;> exact ⟨_, _, rfl⟩
theorem find_any {w : World} {F : Nat → Prop} {b : Nat} {l : List Bool} (h : Bm w F b l) (fr : Int) (on : Bool) (hT : Tab w) :
    Calls Tryd.prog 29 #[.pointer (some ⟨b, 0, none⟩), .int .i64 fr, .bool on] w fun e w' => e = .returned (foundV (firstS l fr.toNat on)) ∧ w' = w := by
  by_cases hf : fr < 0
  · exact find_neg h _ (by omega) fr hf on hT
  · have := find_nat h fr.toNat on hT
    rw [Int.toNat_of_nonneg (by omega)] at this
    exact this
set_option maxRecDepth 100000 in
theorem free_any {w : World} {F : Nat → Prop} {b : Nat} {l : List Bool} (h : Bm w F b l) (fr : Int) (hT : Tab w) :
    Calls Tryd.prog 17 #[.pointer (some ⟨b, 0, none⟩), .int .i64 fr] w fun e w' => e = .returned (foundV (firstS l fr.toNat false)) ∧ w' = w := by
  have HF := hide (find_any h fr false hT)
  clear h hT
  obtain ⟨k, q, e⟩ := foundV_form (firstS l fr.toNat false)
  rw [e] at HF ⊢
  go_enter Tryd.func17, Tryd.ntmps17
  go_wp2_with (go_at_call 29; refine HF.out.mono ?_; rintro e w' ⟨rfl, rfl⟩)
  go_ret2
  exact ⟨rfl, rfl⟩
set_option maxRecDepth 100000 in
theorem next_any {w : World} {F : Nat → Prop} {b : Nat} {l : List Bool} (h : Bm w F b l) (fr : Int) (hT : Tab w) :
    Calls Tryd.prog 19 #[.pointer (some ⟨b, 0, none⟩), .int .i64 fr] w fun e w' => e = .returned (foundV (firstS l fr.toNat true)) ∧ w' = w := by
  have HF := hide (find_any h fr true hT)
  clear h hT
  obtain ⟨k, q, e⟩ := foundV_form (firstS l fr.toNat true)
  rw [e] at HF ⊢
  go_enter Tryd.func19, Tryd.ntmps19
  go_wp2_with (go_at_call 29; refine HF.out.mono ?_; rintro e w' ⟨rfl, rfl⟩)
  go_ret2
  exact ⟨rfl, rfl⟩
/-- Where a stretch ends. -/
def endS (l : List Bool) (a : Nat) : Nat := (firstS l a false).getD l.length
set_option maxRecDepth 100000 in
theorem end_any {w : World} {F : Nat → Prop} {b : Nat} {l : List Bool} (h : Bm w F b l) (a : Nat) (hT : Tab w) :
    Calls Tryd.prog 31 #[.pointer (some ⟨b, 0, none⟩), .int .i64 (a : Int)] w fun e w' => e = .returned (.int .i64 (endS l a : Int)) ∧ w' = w := by
  have HF := hide (free_any h (a : Int) hT)
  obtain ⟨v, ws, h⟩ := h
  obtain ⟨c0, -⟩ := h.cells
  clear h hT
  rw [Int.toNat_natCast] at HF
  unfold endS
  cases hq : firstS l a false with
  | some k =>
    rw [hq] at HF
    clear hq
    unfold foundV at HF
    go_enter Tryd.func31, Tryd.ntmps31
    go_wp2_with (go_at_call 17; refine HF.out.mono ?_; rintro e w' ⟨rfl, rfl⟩)
    go_ret
    exact ⟨rfl, rfl⟩
  | none =>
    rw [hq] at HF
    clear hq
    unfold foundV at HF
    go_enter Tryd.func31, Tryd.ntmps31
    go_wp2_with (go_at_call 17; refine HF.out.mono ?_; rintro e w' ⟨rfl, rfl⟩)
    go_ret
    exact ⟨rfl, rfl⟩
end Go.Proofs.YtkkklobjfoehnaaDoor
