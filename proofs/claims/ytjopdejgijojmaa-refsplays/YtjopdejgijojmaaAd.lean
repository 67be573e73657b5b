/- The document's own Addrs. -/
import Derived.Test.YtjopdejgijojmaaBy
import Derived.Lib.SliceRun
namespace Go.Proofs.Ytjopdejgijojmaa
open Go.RowKit Go.Extern

theorem elemI : Try.prog.elem 50 = 3 := by kernel_rfl
theorem underI : Try.prog.underlying 50 = some (.slice (Try.prog.elem 50)) := by kernel_rfl
theorem sizeInt (w : World) : (sizeOf 3).run Try.prog w = .ok 1 w := by kernel_rfl
theorem infoInt : (Try.prog.info? 3).map (fun i => (i.zero, i.size, i.bytes)) = some (some (.int .i64 0), 1, 8) := by kernel_rfl
theorem len_ints (w : World) (a : Option Addr) (n c : Nat) : (Builtin.len_ #[50] 3 #[.slice a n c]).run Try.prog w = .ok (.int .i64 (n : Int)) w := by kernel_rfl
theorem index_int {w : World} {g n cap i : Nat} (h : i < n) : (Instr.indexAt 50 (.slice (some ⟨g, 0, none⟩) n cap) (.int .i64 (i : Int))).run Try.prog w = .ok (.pointer (some ⟨g, i, none⟩)) w := by
  have hlt : (i : Int) < (n : Int) := by omega
  have hge : (0 : Int) ≤ (i : Int) := by omega
  go_simp
section
variable {ρ : Operand → Value} {o : Oper} {w : World} {x y : Operand} {n m : Int} {T : TypeId}
theorem exec_lssT (ho : o.op = .binOp .lss 3 x y T) (hx : ρ x = .int .i64 n) (hy : ρ y = .int .i64 m) (h : n < m) : (execOp ρ o).run Try.prog w = .ok (.value (.bool true)) w := by
  unfold execOp; rw [ho]; simp only [hx, hy]; go_simp
theorem exec_lssF (ho : o.op = .binOp .lss 3 x y T) (hx : ρ x = .int .i64 n) (hy : ρ y = .int .i64 m) (h : ¬ n < m) : (execOp ρ o).run Try.prog w = .ok (.value (.bool false)) w := by
  unfold execOp; rw [ho]; simp only [hx, hy]; go_simp
theorem exec_neqT (ho : o.op = .binOp .neq 3 x y T) (hx : ρ x = .int .i64 n) (hy : ρ y = .int .i64 m) (h : n ≠ m) : (execOp ρ o).run Try.prog w = .ok (.value (.bool true)) w := by
  have hb : (n == m) = false := by simpa using h
  unfold execOp; rw [ho]; simp only [hx, hy]; go_simp
end
theorem sliced_row (w : World) (ao : Option Addr) (xs : List Value) (cap lo hi : Nat) (hv : Row w (.slice ao xs.length cap) xs) (h1 : lo ≤ hi) (h2 : hi ≤ xs.length) : Row w (sliced ao lo hi cap 1) ((xs.drop lo).take (hi - lo)) := by
  obtain ⟨ao', cap', g, off, e, k2, k3, k5, k6, k7, k8⟩ := hv
  simp only [Value.slice.injEq, true_and] at e
  obtain ⟨rfl, rfl⟩ := e
  have hlen : ((xs.drop lo).take (hi - lo)).length = hi - lo := by simp; omega
  have hsub : ∀ (i : Nat) b, ((xs.drop lo).take (hi - lo))[i]? = some b → xs[lo + i]? = some b := by
    intro i b hb
    have hi' : i < hi - lo := by
      have := (List.getElem?_eq_some_iff.1 hb).1
      rw [hlen] at this; exact this
    rw [List.getElem?_take_of_lt hi', List.getElem?_drop] at hb
    exact hb
  cases ao with
  | none =>
    have hb0 : xs = [] := by
      rcases Nat.eq_zero_or_pos xs.length with h | h
      · exact List.length_eq_zero_iff.1 h
      · cases k2 h
    subst hb0
    obtain rfl := k6 rfl
    simp at h2
    subst h2
    have : lo = 0 := by omega
    subst this
    simp [sliced]
    exact Row.nil w
  | some ad =>
    refine ⟨if cap = lo then some ad else some (ad.add (lo * 1)), cap - lo, g, off + lo, ?_, fun hp => ?_, fun i b hb => ?_, by omega, fun h => ?_, by omega, Nat.le_trans (Nat.sub_le _ _) k8⟩
    · rw [hlen]; simp [sliced]
    · rw [hlen] at hp
      have := Option.some.inj (k2 (by omega))
      subst this
      rw [if_neg (by omega), add_plain, Nat.mul_one]
    · have := k3 (lo + i) b (hsub i b hb)
      rw [Nat.add_assoc]; exact this
    · split at h <;> cases h
theorem cutR_from (w : World) (v : Value) (xs : List Value) (lo : Nat) (hv : Row w v xs) (hlo : lo ≤ xs.length) : ∃ ao n cap, (∀ w2, (Instr.slice 50 v (some (.int .i64 (lo : Int))) none none).run Try.prog w2 = .ok (.slice ao n cap) w2) ∧ Hid (Row w (.slice ao n cap) (xs.drop lo)) := by
  have hv' := hv
  obtain ⟨ao, cap, g, off, rfl, -⟩ := hv
  refine ⟨if cap = lo then ao else ao.map (·.add (lo * 1)), xs.length - lo, cap - lo, fun w2 => ?_, ?_⟩
  · have := run_slice_l (P := Try.prog) w2 50 ao xs.length cap underI .i64 (lo : Int) (by omega) (by omega)
    rw [this, elemI, sizeInt]
    simp [Result.andThen, sliced]
  · have := sliced_row w ao xs cap lo xs.length hv' hlo (Nat.le_refl _)
    have e : (xs.drop lo).take (xs.length - lo) = xs.drop lo := List.take_of_length_le (by simp)
    rw [e] at this
    exact this
theorem cutR_to (w : World) (v : Value) (xs : List Value) (hi : Nat) (hv : Row w v xs) (h2 : hi ≤ xs.length) : ∃ ao n cap, (∀ w2, (Instr.slice 50 v none (some (.int .i64 (hi : Int))) none).run Try.prog w2 = .ok (.slice ao n cap) w2) ∧ Hid (Row w (.slice ao n cap) (xs.take hi)) := by
  have hv' := hv
  obtain ⟨ao, cap, g, off, rfl, -, -, -, -, h7, -⟩ := hv
  refine ⟨if cap = 0 then ao else ao.map (·.add (0 * 1)), hi - 0, cap - 0, fun w2 => ?_, ?_⟩
  · have := run_slice_h (P := Try.prog) w2 50 ao xs.length cap underI .i64 (hi : Int) (by omega) (by omega)
    rw [this, elemI, sizeInt]
    simp [Result.andThen, sliced]
  · have := sliced_row w ao xs cap 0 hi hv' (Nat.zero_le _) h2
    rw [List.drop_zero, Nat.sub_zero] at this
    exact this

theorem addrs_same {l : List Ref} {ns : List Int} {j : Nat} {y : Ref} (h : IsAddrs (l.take j) ns) (hy : l[j]? = some y) (hm : y.2 ∈ ns) : IsAddrs (l.take (j + 1)) ns := by
  refine ⟨h.1, fun x => ?_⟩
  rw [h.2, take_snoc hy]
  constructor
  · rintro ⟨o, ho⟩; exact ⟨o, List.mem_append.2 (.inl ho)⟩
  · rintro ⟨o, ho⟩
    rcases List.mem_append.1 ho with ho | ho
    · exact ⟨o, ho⟩
    · have := List.mem_singleton.1 ho
      subst this
      exact (h.2 _).1 hm
theorem addrs_ins {l : List Ref} {ns : List Int} {j t : Nat} {y : Ref} (h : IsAddrs (l.take j) ns) (hy : l[j]? = some y) (h1 : ∀ x ∈ ns.take t, x < y.2) (h2 : ∀ x ∈ ns.drop t, y.2 < x) : IsAddrs (l.take (j + 1)) (ns.take t ++ ([y.2] ++ ns.drop t)) := by
  have e := List.take_append_drop t ns
  have hp := h.1
  rw [← e] at hp
  obtain ⟨p1, p2, p3⟩ := List.pairwise_append.1 hp
  refine ⟨List.pairwise_append.2 ⟨p1, List.pairwise_append.2 ⟨by simp, p2, fun a ha b hb => by rw [List.mem_singleton.1 ha]; exact h2 b hb⟩, fun a ha b hb => ?_⟩, fun x => ?_⟩
  · rcases List.mem_append.1 hb with hb | hb
    · rw [List.mem_singleton.1 hb]; exact h1 a ha
    · exact p3 a ha b hb
  · have hx : x ∈ ns.take t ++ ([y.2] ++ ns.drop t) ↔ x ∈ ns ∨ x = y.2 := by
      rw [List.mem_append, List.mem_append, List.mem_singleton]
      conv => rhs; rw [← e, List.mem_append]
      constructor
      · rintro (h | h | h)
        · exact .inl (.inl h)
        · exact .inr h
        · exact .inl (.inr h)
      · rintro ((h | h) | h)
        · exact .inl h
        · exact .inr (.inr h)
        · exact .inr (.inl h)
    rw [hx, h.2, take_snoc hy]
    constructor
    · rintro (⟨o, ho⟩ | rfl)
      · exact ⟨o, List.mem_append.2 (.inl ho)⟩
      · exact ⟨y.1, List.mem_append.2 (.inr (by simp))⟩
    · rintro ⟨o, ho⟩
      rcases List.mem_append.1 ho with ho | ho
      · exact .inl ⟨o, ho⟩
      · have := List.mem_singleton.1 ho
        subst this
        exact .inr rfl
theorem IsAddrs.length {l : List Ref} {ns : List Int} (h : IsAddrs l ns) : ns.length ≤ l.length := by
  have hnd : ns.Nodup := by rw [List.nodup_iff_pairwise_ne]; exact h.1.imp (fun h => by omega)
  have hsub : ∀ x ∈ ns, x ∈ l.map Prod.snd := fun x hx => by
    obtain ⟨o, ho⟩ := (h.2 x).1 hx
    exact List.mem_map.2 ⟨_, ho, rfl⟩
  have := List.Nodup.length_le_of_subset hnd hsub
  simpa using this
theorem rising_drop {ns : List Int} (h : ns.Pairwise (fun a b => a < b)) {t : Nat} {z y : Int} (hz : ns[t]? = some z) (hlt : y < z) : ∀ x ∈ ns.drop t, y < x := by
  intro x hx
  obtain ⟨k, hk, rfl⟩ := List.mem_iff_getElem.1 hx
  rw [List.getElem_drop]
  obtain ⟨ht, rfl⟩ := List.getElem?_eq_some_iff.1 hz
  by_cases e : k = 0
  · subst e; simpa using hlt
  · have := List.pairwise_iff_getElem.1 h t (t + k) ht (by simp at hk; omega) (by omega)
    omega
set_option maxRecDepth 100000 in
set_option maxHeartbeats 8000000 in
theorem raddrs_any {F : Nat → Prop} {w : World} {ao : Option Addr} {g off : Nat} {l : List Ref} (hR : RefsAt F w ao g off l) (hl : l.length ≤ 100000) (cap : Nat) :
    Calls Try.prog 34 #[.slice ao l.length cap] w (Addrd w l) := by
  have HRA := hide hR
  obtain ⟨nl, hnl⟩ : ∃ nl, l.length = nl := ⟨_, rfl⟩
  rw [hnl]
  clear hR
  go_enter Try.func34, Try.ntmps34
  go_wp2_with fail
  go_loopg [3, 4] nl (fun k ov i wr => ∃ (j : Nat) (ns : List Int), j + k = nl ∧ i = .int .i64 (j : Int) ∧ Hid (IsAddrs (l.take j) ns) ∧ Hid (wr.ownsRow w.heap.size 3 1 ov ns.length (ns.map encI)) ∧ Hid (Below w.heap.size w wr))
  case atStart => exact ⟨0, [], by omega, rfl, hide ⟨by simp, by simp⟩, hide (World.ownsRow_nil _ _ _ _), hide (Below.refl _ _)⟩
  case round =>
    obtain ⟨j, ns, hj, rfl, HIA, HOW, HBz⟩ := hrel
    cases gk with
    | zero =>
      have hnlt : ¬ ((j : Nat) : Int) < (nl : Int) := by omega
      rw [List.take_of_length_le (by omega)] at HIA
      obtain ⟨ao5, cap5, hv5⟩ := ownsRow_form HOW.out
      subst hv5
      go_wp2_with fail
      go_ret
      exact ⟨_, ns, rfl, HIA.out, HOW.out, HBz.out, HIA.out.length⟩
    | succ m0 =>
      have hjl : j < nl := by omega
      have hlti : (j : Int) < (nl : Int) := by omega
      have hge : (0 : Int) ≤ (j : Int) := by omega
      obtain ⟨y, hy⟩ : ∃ y, l[j]? = some y := ⟨l[j]'(by omega), by rw [List.getElem?_eq_getElem]⟩
      obtain rfl := HRA.out.ad (by omega)
      have HY := hide hy
      have e7 : IntKind.i64.wrap ((j : Int) + 1) = (j : Int) + 1 := IntWalk.i64_in _ ⟨by omega, by omega⟩
      obtain ⟨n, hn⟩ : ∃ n, ns.length = n := ⟨_, rfl⟩
      have hnb : n ≤ 100000 := by
        have h1 := HIA.out.length
        have h2 := List.length_take_le j l
        omega
      have HROW0 := hide (ownsRow_row (xs := ns.map encI) (by rw [List.length_map]; exact HOW.out) (by rw [List.length_map]; omega))
      obtain ⟨aoN, capN, gN, hv, hIN⟩ := ints_at (F := fun _ => False) HOW.out (by simp)
      subst hv
      have HIN := hide hIN
      rw [hn] at HROW0 ⊢
      have HROW := HROW0
      rw [hn] at HOW
      obtain ⟨wz, hwz⟩ : ∃ wz, wz = wr := ⟨_, rfl⟩
      subst hwz
      clear hy hIN HROW0
      go_wp2_with fail
      go_loopg [5] n (fun k av wr => ∃ (t : Nat), t + k = n ∧ av = .int .i64 (t : Int) ∧ Hid (∀ x ∈ ns.take t, x < y.2) ∧ Hid (Below wz.heap.size wz wr))
      case atStart => exact ⟨0, by omega, rfl, hide (by simp), hide (Below.refl _ _)⟩
      case round =>
        obtain ⟨t, ht, rfl, HLT, HBw⟩ := hrel
        cases gk with
        | zero =>
          go_wp2_with fail
          refine wp_region_held_drew (S := Below wr.heap.size wr) (by kernel_rfl) (below_drew0 wr) (fun hS => ?_)
          refine take_want 0 (some 13) (.int .i64 (t : Int)) rfl rfl rfl (by kernel_rfl) (by kernel_rfl) (by kernel_rfl) (fun _ _ _ h => h) (fun wx hx => exec_move rfl rfl) hS ?_
          simp only [Act.put, List.setIfInBounds_toArray, List.set_cons_zero, List.set_cons_succ]
          refine take_want 1 (some 14) (.slice aoN n capN) rfl rfl rfl (by kernel_rfl) (by kernel_rfl) (by kernel_rfl) (fun _ _ _ h => h) (fun wx hx => exec_move rfl rfl) hS ?_
          simp only [Act.put, List.setIfInBounds_toArray, List.set_cons_zero, List.set_cons_succ]
          refine take_want 2 (some 15) (.int .i64 (n : Int)) rfl rfl rfl (by kernel_rfl) (by kernel_rfl) (by kernel_rfl) (fun _ _ _ h => h) (fun wx hx => exec_len rfl (len_ints _ _ _ _) rfl) hS ?_
          simp only [Act.put, List.setIfInBounds_toArray, List.set_cons_zero, List.set_cons_succ]
          refine take_want 3 (some 16) (.bool false) rfl rfl rfl (by kernel_rfl) (by kernel_rfl) (by kernel_rfl) (fun _ _ _ h => h) (fun wx hx => exec_lssF rfl rfl rfl (by omega)) hS ?_
          simp only [Act.put, List.setIfInBounds_toArray, List.set_cons_zero, List.set_cons_succ]
          refine take_want 4 (some 17) (.bool false) rfl rfl rfl (by kernel_rfl) (by kernel_rfl) (by kernel_rfl) (fun _ _ _ h => h) (fun wx hx => exec_move rfl rfl) hS ?_
          simp only [Act.put, List.setIfInBounds_toArray, List.set_cons_zero, List.set_cons_succ]
          refine skip_want 5 (some 18) rfl rfl rfl (by kernel_rfl) (by kernel_rfl) (by kernel_rfl) (fun _ _ _ h => h) hS ?_
          simp only [Act.put, List.setIfInBounds_toArray, List.set_cons_zero, List.set_cons_succ]
          refine skip_want 6 (some 19) rfl rfl rfl (by kernel_rfl) (by kernel_rfl) (by kernel_rfl) (fun _ _ _ h => h) hS ?_
          simp only [Act.put, List.setIfInBounds_toArray, List.set_cons_zero, List.set_cons_succ]
          refine skip_want 7 (some 20) rfl rfl rfl (by kernel_rfl) (by kernel_rfl) (by kernel_rfl) (fun _ _ _ h => h) hS ?_
          simp only [Act.put, List.setIfInBounds_toArray, List.set_cons_zero, List.set_cons_succ]
          refine skip_want 8 (some 21) rfl rfl rfl (by kernel_rfl) (by kernel_rfl) (by kernel_rfl) (fun _ _ _ h => h) hS ?_
          simp only [Act.put, List.setIfInBounds_toArray, List.set_cons_zero, List.set_cons_succ]
          refine skip_want 9 (some 22) rfl rfl rfl (by kernel_rfl) (by kernel_rfl) (by kernel_rfl) (fun _ _ _ h => h) hS ?_
          simp only [Act.put, List.setIfInBounds_toArray, List.set_cons_zero, List.set_cons_succ]
          refine skip_want 10 (some 23) rfl rfl rfl (by kernel_rfl) (by kernel_rfl) (by kernel_rfl) (fun _ _ _ h => h) hS ?_
          simp only [Act.put, List.setIfInBounds_toArray, List.set_cons_zero, List.set_cons_succ]
          refine skip_want 11 (some 24) rfl rfl rfl (by kernel_rfl) (by kernel_rfl) (by kernel_rfl) (fun _ _ _ h => h) hS ?_
          simp only [Act.put, List.setIfInBounds_toArray, List.set_cons_zero, List.set_cons_succ]
          refine skip_want 12 (some 25) rfl rfl rfl (by kernel_rfl) (by kernel_rfl) (by kernel_rfl) (fun _ _ _ h => h) hS ?_
          simp only [Act.put, List.setIfInBounds_toArray, List.set_cons_zero, List.set_cons_succ]
          refine skip_want 13 (some 26) rfl rfl rfl (by kernel_rfl) (by kernel_rfl) (by kernel_rfl) (fun _ _ _ h => h) hS ?_
          simp only [Act.put, List.setIfInBounds_toArray, List.set_cons_zero, List.set_cons_succ]
          refine skip_want 14 (some 27) rfl rfl rfl (by kernel_rfl) (by kernel_rfl) (by kernel_rfl) (fun _ _ _ h => h) hS ?_
          simp only [Act.put, List.setIfInBounds_toArray, List.set_cons_zero, List.set_cons_succ]
          refine take_want 15 (some 28) (.bool false) rfl rfl rfl (by kernel_rfl) (by kernel_rfl) (by kernel_rfl) (fun _ _ _ h => h) (fun wx hx => exec_pickF rfl rfl rfl) hS ?_
          simp only [Act.put, List.setIfInBounds_toArray, List.set_cons_zero, List.set_cons_succ]
          refine wpAnyH_done (by kernel_rfl) ?_ _
          clear hS
          go_wp2_with fail
          refine wp_region_held_drew (S := Below wr.heap.size wr) (by kernel_rfl) (below_next (below_drew0 wr) (below_drew0 _)) (fun hS => ?_)
          refine take_want 0 (some 31) (.int .i64 (t : Int)) rfl rfl rfl (by kernel_rfl) (by kernel_rfl) (by kernel_rfl) (fun _ _ _ h => h) (fun wx hx => exec_move rfl rfl) hS ?_
          simp only [Act.put, List.setIfInBounds_toArray, List.set_cons_zero, List.set_cons_succ]
          refine take_want 1 (some 32) (.slice aoN n capN) rfl rfl rfl (by kernel_rfl) (by kernel_rfl) (by kernel_rfl) (fun _ _ _ h => h) (fun wx hx => exec_move rfl rfl) hS ?_
          simp only [Act.put, List.setIfInBounds_toArray, List.set_cons_zero, List.set_cons_succ]
          refine take_want 2 (some 33) (.int .i64 (n : Int)) rfl rfl rfl (by kernel_rfl) (by kernel_rfl) (by kernel_rfl) (fun _ _ _ h => h) (fun wx hx => exec_len rfl (len_ints _ _ _ _) rfl) hS ?_
          simp only [Act.put, List.setIfInBounds_toArray, List.set_cons_zero, List.set_cons_succ]
          refine take_want 3 (some 34) (.bool true) rfl rfl rfl (by kernel_rfl) (by kernel_rfl) (by kernel_rfl) (fun _ _ _ h => h) (fun wx hx => exec_eqlNT rfl rfl rfl (by omega)) hS ?_
          simp only [Act.put, List.setIfInBounds_toArray, List.set_cons_zero, List.set_cons_succ]
          refine take_want 4 (some 35) (.bool true) rfl rfl rfl (by kernel_rfl) (by kernel_rfl) (by kernel_rfl) (fun _ _ _ h => h) (fun wx hx => exec_move rfl rfl) hS ?_
          simp only [Act.put, List.setIfInBounds_toArray, List.set_cons_zero, List.set_cons_succ]
          refine skip_want 5 (some 36) rfl rfl rfl (by kernel_rfl) (by kernel_rfl) (by kernel_rfl) (fun _ _ _ h => h) hS ?_
          simp only [Act.put, List.setIfInBounds_toArray, List.set_cons_zero, List.set_cons_succ]
          refine skip_want 6 (some 37) rfl rfl rfl (by kernel_rfl) (by kernel_rfl) (by kernel_rfl) (fun _ _ _ h => h) hS ?_
          simp only [Act.put, List.setIfInBounds_toArray, List.set_cons_zero, List.set_cons_succ]
          refine skip_want 7 (some 38) rfl rfl rfl (by kernel_rfl) (by kernel_rfl) (by kernel_rfl) (fun _ _ _ h => h) hS ?_
          simp only [Act.put, List.setIfInBounds_toArray, List.set_cons_zero, List.set_cons_succ]
          refine skip_want 8 (some 39) rfl rfl rfl (by kernel_rfl) (by kernel_rfl) (by kernel_rfl) (fun _ _ _ h => h) hS ?_
          simp only [Act.put, List.setIfInBounds_toArray, List.set_cons_zero, List.set_cons_succ]
          refine skip_want 9 (some 40) rfl rfl rfl (by kernel_rfl) (by kernel_rfl) (by kernel_rfl) (fun _ _ _ h => h) hS ?_
          simp only [Act.put, List.setIfInBounds_toArray, List.set_cons_zero, List.set_cons_succ]
          refine skip_want 10 (some 41) rfl rfl rfl (by kernel_rfl) (by kernel_rfl) (by kernel_rfl) (fun _ _ _ h => h) hS ?_
          simp only [Act.put, List.setIfInBounds_toArray, List.set_cons_zero, List.set_cons_succ]
          refine skip_want 11 (some 42) rfl rfl rfl (by kernel_rfl) (by kernel_rfl) (by kernel_rfl) (fun _ _ _ h => h) hS ?_
          simp only [Act.put, List.setIfInBounds_toArray, List.set_cons_zero, List.set_cons_succ]
          refine skip_want 12 (some 43) rfl rfl rfl (by kernel_rfl) (by kernel_rfl) (by kernel_rfl) (fun _ _ _ h => h) hS ?_
          simp only [Act.put, List.setIfInBounds_toArray, List.set_cons_zero, List.set_cons_succ]
          refine skip_want 13 (some 44) rfl rfl rfl (by kernel_rfl) (by kernel_rfl) (by kernel_rfl) (fun _ _ _ h => h) hS ?_
          simp only [Act.put, List.setIfInBounds_toArray, List.set_cons_zero, List.set_cons_succ]
          refine skip_want 14 (some 45) rfl rfl rfl (by kernel_rfl) (by kernel_rfl) (by kernel_rfl) (fun _ _ _ h => h) hS ?_
          simp only [Act.put, List.setIfInBounds_toArray, List.set_cons_zero, List.set_cons_succ]
          refine take_want 15 (some 46) (.bool true) rfl rfl rfl (by kernel_rfl) (by kernel_rfl) (by kernel_rfl) (fun _ _ _ h => h) (fun wx hx => exec_pickT rfl rfl rfl) hS ?_
          simp only [Act.put, List.setIfInBounds_toArray, List.set_cons_zero, List.set_cons_succ]
          refine wpAnyH_done (by kernel_rfl) ?_ _
          clear hS
          obtain ⟨wd, hwd⟩ : ∃ wd, wr.drew.drew = wd := ⟨_, rfl⟩
          have HBd : Hid (Below wz.heap.size wz wd) := hide (by rw [← hwd]; exact below_next HBw.out (below_next (below_drew0 _) (below_drew0 _)))
          rw [hwd]
          clear hwd
          have HRd := hide (HROW.out.below HBd.out)
          obtain ⟨aoA, nA, capA, hcA, hrA⟩ := cutR_to wd (.slice aoN n capN) (ns.map encI) t HRd.out (by simp; omega)
          obtain ⟨aoB, nB, capB, hcB, hrB⟩ := cutR_from wd (.slice aoN n capN) (ns.map encI) t HRd.out (by simp; omega)
          obtain ⟨i0, hi, hz0, hz1, hz2⟩ := info_parts infoInt
          have hone : ∀ (m : List Int), ∀ u ∈ m.map encI, u.oneCell' = true := fun m u hu => by
            obtain ⟨q, -, rfl⟩ := List.mem_map.1 hu
            rfl
          obtain ⟨v1, w1, hap1, hg1⟩ := append_row (ty := 50) Try.underlying50 hi hz0 hz1 hz2 rfl (by omega) wd wd.heap.size (.slice none 0 0) (.slice aoA nA capA) [] ((ns.map encI).take t) (World.ownsRow_nil _ _ _ _) hrA.out (fun u hu => hone ns u (List.mem_of_mem_take hu)) (by simp; omega) (Nat.le_refl _)
          have hb1 : Below wd.heap.size wd w1 := hg1.below (Nat.le_refl _) (fun k e => by simp [Value.ownBlock] at e)
          have hs1 := hb1.size
          have hL := lit_row w1 w1.heap.size 3 [.int .i64 y.2] (Nat.le_refl _) (by simp)
          obtain ⟨v2, w2, hap2, hg2⟩ := append_row (ty := 50) Try.underlying50 hi hz0 hz1 hz2 rfl (by omega) (w1.alloc (.cells #[.int .i64 y.2] 3)) wd.heap.size v1 (.slice (some ⟨w1.heap.size, 0, none⟩) 1 1) ([] ++ (ns.map encI).take t) [.int .i64 y.2] (hg1.own.alloc _) (ownsRow_row hL (by simp)) (fun u hu => by rw [List.mem_singleton.1 hu]; rfl) (by simp; omega) (by simp; omega)
          have hb2 : Below wd.heap.size wd w2 := (hb1.alloc hs1 _).trans (hg2.below (by simp; omega) (fun k e => (hg1.own.lt k e).1))
          have hs2 := hb2.size
          obtain ⟨v3, w3, hap3, hg3⟩ := append_row (ty := 50) Try.underlying50 hi hz0 hz1 hz2 rfl (by omega) w2 wd.heap.size v2 (.slice aoB nB capB) ([] ++ (ns.map encI).take t ++ [.int .i64 y.2]) ((ns.map encI).drop t) hg2.own (hrB.out.below hb2) (fun u hu => hone ns u (List.mem_of_mem_drop hu)) (by simp; omega) hs2
          have hb3 : Below wd.heap.size wd w3 := hb2.trans (hg3.below hs2 (fun k e => (hg2.own.lt k e).1))
          have HB3 : Hid (Below wz.heap.size wz w3) := hide (below_next HBd.out hb3)
          have HO3 : Hid (w3.ownsRow w.heap.size 3 1 v3 (ns.take t ++ ([y.2] ++ ns.drop t)).length ((ns.take t ++ ([y.2] ++ ns.drop t)).map encI)) := hide (by
            have h := hg3.own
            have e : [] ++ (ns.map encI).take t ++ [.int .i64 y.2] ++ (ns.map encI).drop t = (ns.take t ++ ([y.2] ++ ns.drop t)).map encI := by
              simp only [List.nil_append, List.map_append, List.map_cons, List.map_nil, List.map_take, List.map_drop, List.append_assoc]; rfl
            rw [e, List.length_map] at h
            exact ownsRow_base h (by have := HBz.out.size; have := HBd.out.size; omega))
          obtain ⟨ao1, cap1, hv1⟩ := ownsRow_form hg1.own
          obtain ⟨ao2, cap2, hv2⟩ := ownsRow_form hg2.own
          obtain ⟨ao3, cap3, hv3⟩ := ownsRow_form hg3.own
          obtain ⟨n1, hn1⟩ : ∃ k, ([] ++ (ns.map encI).take t).length = k := ⟨_, rfl⟩
          obtain ⟨n2, hn2⟩ : ∃ k, ([] ++ (ns.map encI).take t ++ [Value.int .i64 y.2]).length = k := ⟨_, rfl⟩
          obtain ⟨n3, hn3⟩ : ∃ k, ([] ++ (ns.map encI).take t ++ [Value.int .i64 y.2] ++ (ns.map encI).drop t).length = k := ⟨_, rfl⟩
          rw [hn1] at hv1
          rw [hn2] at hv2
          rw [hn3] at hv3
          obtain ⟨-, -, c3⟩ := (HRA.out.below (below_next HBz.out (below_next HBd.out hb1))).cells j y HY.out
          subst hv1 hv2 hv3
          clear hg1 hg2 hg3 hL hb1 hb2 hb3 hrA hrB hone hi hz0 hz1 hz2 hn1 hn2 hn3 hs1 hs2
          go_wp2_with (first
            | (at_builtin; refine wpList_append_eq rfl _ _ rfl rfl rfl hap1 ?_; clear hap1)
            | (at_builtin; refine wpList_append_eq rfl _ _ rfl rfl rfl hap2 ?_; clear hap2)
            | (at_builtin; refine wpList_append_eq rfl _ _ rfl rfl rfl hap3 ?_; clear hap3))
          go_roundg m0
          case measure => omega
          case rel => exact ⟨j + 1, _, by omega, by go_num, hide (addrs_ins HIA.out HY.out HLT.out (by rw [List.drop_of_length_le (by omega)]; simp)), HO3, hide (below_next HBz.out HB3.out)⟩
        | succ m =>
          have htn : t < n := by omega
          have hge2 : (0 : Int) ≤ (t : Int) := by omega
          obtain ⟨z, hz⟩ : ∃ z, ns[t]? = some z := ⟨ns[t]'(by omega), by rw [List.getElem?_eq_getElem]⟩
          have HZ := hide hz
          obtain rfl := HIN.out.ad (by omega)
          have e8 : IntKind.i64.wrap ((t : Int) + 1) = (t : Int) + 1 := IntWalk.i64_in _ ⟨by omega, by omega⟩
          clear hz
          by_cases hzy : z < y.2
          · have HLT2 : Hid (∀ x ∈ ns.take (t + 1), x < y.2) := hide (fun x hx => by
              rw [take_snoc HZ.out] at hx
              rcases List.mem_append.1 hx with hx | hx
              · exact HLT.out x hx
              · rw [List.mem_singleton.1 hx]; exact hzy)
            go_wp2_with fail
            refine wp_region_held_drew (S := Below wr.heap.size wr) (by kernel_rfl) (below_drew0 wr) (fun hS => ?_)
            refine take_want 0 (some 13) (.int .i64 (t : Int)) rfl rfl rfl (by kernel_rfl) (by kernel_rfl) (by kernel_rfl) (fun _ _ _ h => h) (fun wx hx => exec_move rfl rfl) hS ?_
            simp only [Act.put, List.setIfInBounds_toArray, List.set_cons_zero, List.set_cons_succ]
            refine take_want 1 (some 14) (.slice (some ⟨gN, 0, none⟩) n capN) rfl rfl rfl (by kernel_rfl) (by kernel_rfl) (by kernel_rfl) (fun _ _ _ h => h) (fun wx hx => exec_move rfl rfl) hS ?_
            simp only [Act.put, List.setIfInBounds_toArray, List.set_cons_zero, List.set_cons_succ]
            refine take_want 2 (some 15) (.int .i64 (n : Int)) rfl rfl rfl (by kernel_rfl) (by kernel_rfl) (by kernel_rfl) (fun _ _ _ h => h) (fun wx hx => exec_len rfl (len_ints _ _ _ _) rfl) hS ?_
            simp only [Act.put, List.setIfInBounds_toArray, List.set_cons_zero, List.set_cons_succ]
            refine take_want 3 (some 16) (.bool true) rfl rfl rfl (by kernel_rfl) (by kernel_rfl) (by kernel_rfl) (fun _ _ _ h => h) (fun wx hx => exec_lssT rfl rfl rfl (by omega)) hS ?_
            simp only [Act.put, List.setIfInBounds_toArray, List.set_cons_zero, List.set_cons_succ]
            refine take_want 4 (some 17) (.bool true) rfl rfl rfl (by kernel_rfl) (by kernel_rfl) (by kernel_rfl) (fun _ _ _ h => h) (fun wx hx => exec_move rfl rfl) hS ?_
            simp only [Act.put, List.setIfInBounds_toArray, List.set_cons_zero, List.set_cons_succ]
            refine take_want 5 (some 18) (.slice (some ⟨gN, 0, none⟩) n capN) rfl rfl rfl (by kernel_rfl) (by kernel_rfl) (by kernel_rfl) (fun _ _ _ h => h) (fun wx hx => exec_move rfl rfl) hS ?_
            simp only [Act.put, List.setIfInBounds_toArray, List.set_cons_zero, List.set_cons_succ]
            refine take_want 6 (some 19) (.int .i64 (t : Int)) rfl rfl rfl (by kernel_rfl) (by kernel_rfl) (by kernel_rfl) (fun _ _ _ h => h) (fun wx hx => exec_move rfl rfl) hS ?_
            simp only [Act.put, List.setIfInBounds_toArray, List.set_cons_zero, List.set_cons_succ]
            refine take_want 7 (some 20) (.pointer (some ⟨gN, t, none⟩)) rfl rfl rfl (by kernel_rfl) (by kernel_rfl) (by kernel_rfl) (fun _ _ _ h => h) (fun wx hx => exec_index rfl (index_int htn) rfl rfl) hS ?_
            simp only [Act.put, List.setIfInBounds_toArray, List.set_cons_zero, List.set_cons_succ]
            refine take_want 8 (some 21) (.int .i64 z) rfl rfl rfl (by kernel_rfl) (by kernel_rfl) (by kernel_rfl) (fun _ _ _ h => h) (fun wx hx => exec_load rfl (load_intV ((HIN.out.below (below_next HBw.out hx)).cells t z HZ.out)) rfl) hS ?_
            simp only [Act.put, List.setIfInBounds_toArray, List.set_cons_zero, List.set_cons_succ]
            refine take_want 9 (some 22) (.slice (some ⟨g, off, none⟩) nl cap) rfl rfl rfl (by kernel_rfl) (by kernel_rfl) (by kernel_rfl) (fun _ _ _ h => h) (fun wx hx => exec_move rfl rfl) hS ?_
            simp only [Act.put, List.setIfInBounds_toArray, List.set_cons_zero, List.set_cons_succ]
            refine take_want 10 (some 23) (.int .i64 (j : Int)) rfl rfl rfl (by kernel_rfl) (by kernel_rfl) (by kernel_rfl) (fun _ _ _ h => h) (fun wx hx => exec_move rfl rfl) hS ?_
            simp only [Act.put, List.setIfInBounds_toArray, List.set_cons_zero, List.set_cons_succ]
            refine take_want 11 (some 24) (.pointer (some ⟨g, off + j * 3, none⟩)) rfl rfl rfl (by kernel_rfl) (by kernel_rfl) (by kernel_rfl) (fun _ _ _ h => h) (fun wx hx => exec_index rfl (index_refs hjl) rfl rfl) hS ?_
            simp only [Act.put, List.setIfInBounds_toArray, List.set_cons_zero, List.set_cons_succ]
            refine take_want 12 (some 25) (.pointer (some ⟨g, off + j * 3 + 2, none⟩)) rfl rfl rfl (by kernel_rfl) (by kernel_rfl) (by kernel_rfl) (fun _ _ _ h => h) (fun wx hx => exec_field rfl (fldQ2 _ _ wx) rfl) hS ?_
            simp only [Act.put, List.setIfInBounds_toArray, List.set_cons_zero, List.set_cons_succ]
            refine take_want 13 (some 26) (.int .i64 y.2) rfl rfl rfl (by kernel_rfl) (by kernel_rfl) (by kernel_rfl) (fun _ _ _ h => h) (fun wx hx => exec_load rfl (load_intV ((HRA.out.below (below_next HBz.out (below_next HBw.out hx))).cells j y HY.out).2.2) rfl) hS ?_
            simp only [Act.put, List.setIfInBounds_toArray, List.set_cons_zero, List.set_cons_succ]
            refine take_want 14 (some 27) (.bool true) rfl rfl rfl (by kernel_rfl) (by kernel_rfl) (by kernel_rfl) (fun _ _ _ h => h) (fun wx hx => exec_lssT rfl rfl rfl (by omega)) hS ?_
            simp only [Act.put, List.setIfInBounds_toArray, List.set_cons_zero, List.set_cons_succ]
            refine take_want 15 (some 28) (.bool true) rfl rfl rfl (by kernel_rfl) (by kernel_rfl) (by kernel_rfl) (fun _ _ _ h => h) (fun wx hx => exec_pickT rfl rfl rfl) hS ?_
            simp only [Act.put, List.setIfInBounds_toArray, List.set_cons_zero, List.set_cons_succ]
            refine wpAnyH_done (by kernel_rfl) ?_ _
            have HB2 : Hid (Below wz.heap.size wz wr.drew) := hide (below_next HBw.out hS)
            clear hS
            go_wp2_with fail
            go_roundg m
            case measure => omega
            case rel => exact ⟨t + 1, by omega, by go_num, HLT2, HB2⟩
          · by_cases hze : z = y.2
            · have HM : Hid (y.2 ∈ ns) := hide (by rw [← hze]; exact List.mem_of_getElem? HZ.out)
              go_wp2_with fail
              refine wp_region_held_drew (S := Below wr.heap.size wr) (by kernel_rfl) (below_drew0 wr) (fun hS => ?_)
              refine take_want 0 (some 13) (.int .i64 (t : Int)) rfl rfl rfl (by kernel_rfl) (by kernel_rfl) (by kernel_rfl) (fun _ _ _ h => h) (fun wx hx => exec_move rfl rfl) hS ?_
              simp only [Act.put, List.setIfInBounds_toArray, List.set_cons_zero, List.set_cons_succ]
              refine take_want 1 (some 14) (.slice (some ⟨gN, 0, none⟩) n capN) rfl rfl rfl (by kernel_rfl) (by kernel_rfl) (by kernel_rfl) (fun _ _ _ h => h) (fun wx hx => exec_move rfl rfl) hS ?_
              simp only [Act.put, List.setIfInBounds_toArray, List.set_cons_zero, List.set_cons_succ]
              refine take_want 2 (some 15) (.int .i64 (n : Int)) rfl rfl rfl (by kernel_rfl) (by kernel_rfl) (by kernel_rfl) (fun _ _ _ h => h) (fun wx hx => exec_len rfl (len_ints _ _ _ _) rfl) hS ?_
              simp only [Act.put, List.setIfInBounds_toArray, List.set_cons_zero, List.set_cons_succ]
              refine take_want 3 (some 16) (.bool true) rfl rfl rfl (by kernel_rfl) (by kernel_rfl) (by kernel_rfl) (fun _ _ _ h => h) (fun wx hx => exec_lssT rfl rfl rfl (by omega)) hS ?_
              simp only [Act.put, List.setIfInBounds_toArray, List.set_cons_zero, List.set_cons_succ]
              refine take_want 4 (some 17) (.bool true) rfl rfl rfl (by kernel_rfl) (by kernel_rfl) (by kernel_rfl) (fun _ _ _ h => h) (fun wx hx => exec_move rfl rfl) hS ?_
              simp only [Act.put, List.setIfInBounds_toArray, List.set_cons_zero, List.set_cons_succ]
              refine take_want 5 (some 18) (.slice (some ⟨gN, 0, none⟩) n capN) rfl rfl rfl (by kernel_rfl) (by kernel_rfl) (by kernel_rfl) (fun _ _ _ h => h) (fun wx hx => exec_move rfl rfl) hS ?_
              simp only [Act.put, List.setIfInBounds_toArray, List.set_cons_zero, List.set_cons_succ]
              refine take_want 6 (some 19) (.int .i64 (t : Int)) rfl rfl rfl (by kernel_rfl) (by kernel_rfl) (by kernel_rfl) (fun _ _ _ h => h) (fun wx hx => exec_move rfl rfl) hS ?_
              simp only [Act.put, List.setIfInBounds_toArray, List.set_cons_zero, List.set_cons_succ]
              refine take_want 7 (some 20) (.pointer (some ⟨gN, t, none⟩)) rfl rfl rfl (by kernel_rfl) (by kernel_rfl) (by kernel_rfl) (fun _ _ _ h => h) (fun wx hx => exec_index rfl (index_int htn) rfl rfl) hS ?_
              simp only [Act.put, List.setIfInBounds_toArray, List.set_cons_zero, List.set_cons_succ]
              refine take_want 8 (some 21) (.int .i64 z) rfl rfl rfl (by kernel_rfl) (by kernel_rfl) (by kernel_rfl) (fun _ _ _ h => h) (fun wx hx => exec_load rfl (load_intV ((HIN.out.below (below_next HBw.out hx)).cells t z HZ.out)) rfl) hS ?_
              simp only [Act.put, List.setIfInBounds_toArray, List.set_cons_zero, List.set_cons_succ]
              refine take_want 9 (some 22) (.slice (some ⟨g, off, none⟩) nl cap) rfl rfl rfl (by kernel_rfl) (by kernel_rfl) (by kernel_rfl) (fun _ _ _ h => h) (fun wx hx => exec_move rfl rfl) hS ?_
              simp only [Act.put, List.setIfInBounds_toArray, List.set_cons_zero, List.set_cons_succ]
              refine take_want 10 (some 23) (.int .i64 (j : Int)) rfl rfl rfl (by kernel_rfl) (by kernel_rfl) (by kernel_rfl) (fun _ _ _ h => h) (fun wx hx => exec_move rfl rfl) hS ?_
              simp only [Act.put, List.setIfInBounds_toArray, List.set_cons_zero, List.set_cons_succ]
              refine take_want 11 (some 24) (.pointer (some ⟨g, off + j * 3, none⟩)) rfl rfl rfl (by kernel_rfl) (by kernel_rfl) (by kernel_rfl) (fun _ _ _ h => h) (fun wx hx => exec_index rfl (index_refs hjl) rfl rfl) hS ?_
              simp only [Act.put, List.setIfInBounds_toArray, List.set_cons_zero, List.set_cons_succ]
              refine take_want 12 (some 25) (.pointer (some ⟨g, off + j * 3 + 2, none⟩)) rfl rfl rfl (by kernel_rfl) (by kernel_rfl) (by kernel_rfl) (fun _ _ _ h => h) (fun wx hx => exec_field rfl (fldQ2 _ _ wx) rfl) hS ?_
              simp only [Act.put, List.setIfInBounds_toArray, List.set_cons_zero, List.set_cons_succ]
              refine take_want 13 (some 26) (.int .i64 y.2) rfl rfl rfl (by kernel_rfl) (by kernel_rfl) (by kernel_rfl) (fun _ _ _ h => h) (fun wx hx => exec_load rfl (load_intV ((HRA.out.below (below_next HBz.out (below_next HBw.out hx))).cells j y HY.out).2.2) rfl) hS ?_
              simp only [Act.put, List.setIfInBounds_toArray, List.set_cons_zero, List.set_cons_succ]
              refine take_want 14 (some 27) (.bool false) rfl rfl rfl (by kernel_rfl) (by kernel_rfl) (by kernel_rfl) (fun _ _ _ h => h) (fun wx hx => exec_lssF rfl rfl rfl (by omega)) hS ?_
              simp only [Act.put, List.setIfInBounds_toArray, List.set_cons_zero, List.set_cons_succ]
              refine take_want 15 (some 28) (.bool false) rfl rfl rfl (by kernel_rfl) (by kernel_rfl) (by kernel_rfl) (fun _ _ _ h => h) (fun wx hx => exec_pickT rfl rfl rfl) hS ?_
              simp only [Act.put, List.setIfInBounds_toArray, List.set_cons_zero, List.set_cons_succ]
              refine wpAnyH_done (by kernel_rfl) ?_ _
              clear hS
              go_wp2_with fail
              refine wp_region_held_drew (S := Below wr.heap.size wr) (by kernel_rfl) (below_next (below_drew0 wr) (below_drew0 _)) (fun hS => ?_)
              refine take_want 0 (some 31) (.int .i64 (t : Int)) rfl rfl rfl (by kernel_rfl) (by kernel_rfl) (by kernel_rfl) (fun _ _ _ h => h) (fun wx hx => exec_move rfl rfl) hS ?_
              simp only [Act.put, List.setIfInBounds_toArray, List.set_cons_zero, List.set_cons_succ]
              refine take_want 1 (some 32) (.slice (some ⟨gN, 0, none⟩) n capN) rfl rfl rfl (by kernel_rfl) (by kernel_rfl) (by kernel_rfl) (fun _ _ _ h => h) (fun wx hx => exec_move rfl rfl) hS ?_
              simp only [Act.put, List.setIfInBounds_toArray, List.set_cons_zero, List.set_cons_succ]
              refine take_want 2 (some 33) (.int .i64 (n : Int)) rfl rfl rfl (by kernel_rfl) (by kernel_rfl) (by kernel_rfl) (fun _ _ _ h => h) (fun wx hx => exec_len rfl (len_ints _ _ _ _) rfl) hS ?_
              simp only [Act.put, List.setIfInBounds_toArray, List.set_cons_zero, List.set_cons_succ]
              refine take_want 3 (some 34) (.bool false) rfl rfl rfl (by kernel_rfl) (by kernel_rfl) (by kernel_rfl) (fun _ _ _ h => h) (fun wx hx => exec_eqlNF rfl rfl rfl (by omega)) hS ?_
              simp only [Act.put, List.setIfInBounds_toArray, List.set_cons_zero, List.set_cons_succ]
              refine take_want 4 (some 35) (.bool false) rfl rfl rfl (by kernel_rfl) (by kernel_rfl) (by kernel_rfl) (fun _ _ _ h => h) (fun wx hx => exec_move rfl rfl) hS ?_
              simp only [Act.put, List.setIfInBounds_toArray, List.set_cons_zero, List.set_cons_succ]
              refine take_want 5 (some 36) (.slice (some ⟨gN, 0, none⟩) n capN) rfl rfl rfl (by kernel_rfl) (by kernel_rfl) (by kernel_rfl) (fun _ _ _ h => h) (fun wx hx => exec_move rfl rfl) hS ?_
              simp only [Act.put, List.setIfInBounds_toArray, List.set_cons_zero, List.set_cons_succ]
              refine take_want 6 (some 37) (.int .i64 (t : Int)) rfl rfl rfl (by kernel_rfl) (by kernel_rfl) (by kernel_rfl) (fun _ _ _ h => h) (fun wx hx => exec_move rfl rfl) hS ?_
              simp only [Act.put, List.setIfInBounds_toArray, List.set_cons_zero, List.set_cons_succ]
              refine take_want 7 (some 38) (.pointer (some ⟨gN, t, none⟩)) rfl rfl rfl (by kernel_rfl) (by kernel_rfl) (by kernel_rfl) (fun _ _ _ h => h) (fun wx hx => exec_index rfl (index_int htn) rfl rfl) hS ?_
              simp only [Act.put, List.setIfInBounds_toArray, List.set_cons_zero, List.set_cons_succ]
              refine take_want 8 (some 39) (.int .i64 z) rfl rfl rfl (by kernel_rfl) (by kernel_rfl) (by kernel_rfl) (fun _ _ _ h => h) (fun wx hx => exec_load rfl (load_intV ((HIN.out.below (below_next HBw.out hx)).cells t z HZ.out)) rfl) hS ?_
              simp only [Act.put, List.setIfInBounds_toArray, List.set_cons_zero, List.set_cons_succ]
              refine take_want 9 (some 40) (.slice (some ⟨g, off, none⟩) nl cap) rfl rfl rfl (by kernel_rfl) (by kernel_rfl) (by kernel_rfl) (fun _ _ _ h => h) (fun wx hx => exec_move rfl rfl) hS ?_
              simp only [Act.put, List.setIfInBounds_toArray, List.set_cons_zero, List.set_cons_succ]
              refine take_want 10 (some 41) (.int .i64 (j : Int)) rfl rfl rfl (by kernel_rfl) (by kernel_rfl) (by kernel_rfl) (fun _ _ _ h => h) (fun wx hx => exec_move rfl rfl) hS ?_
              simp only [Act.put, List.setIfInBounds_toArray, List.set_cons_zero, List.set_cons_succ]
              refine take_want 11 (some 42) (.pointer (some ⟨g, off + j * 3, none⟩)) rfl rfl rfl (by kernel_rfl) (by kernel_rfl) (by kernel_rfl) (fun _ _ _ h => h) (fun wx hx => exec_index rfl (index_refs hjl) rfl rfl) hS ?_
              simp only [Act.put, List.setIfInBounds_toArray, List.set_cons_zero, List.set_cons_succ]
              refine take_want 12 (some 43) (.pointer (some ⟨g, off + j * 3 + 2, none⟩)) rfl rfl rfl (by kernel_rfl) (by kernel_rfl) (by kernel_rfl) (fun _ _ _ h => h) (fun wx hx => exec_field rfl (fldQ2 _ _ wx) rfl) hS ?_
              simp only [Act.put, List.setIfInBounds_toArray, List.set_cons_zero, List.set_cons_succ]
              refine take_want 13 (some 44) (.int .i64 y.2) rfl rfl rfl (by kernel_rfl) (by kernel_rfl) (by kernel_rfl) (fun _ _ _ h => h) (fun wx hx => exec_load rfl (load_intV ((HRA.out.below (below_next HBz.out (below_next HBw.out hx))).cells j y HY.out).2.2) rfl) hS ?_
              simp only [Act.put, List.setIfInBounds_toArray, List.set_cons_zero, List.set_cons_succ]
              refine take_want 14 (some 45) (.bool false) rfl rfl rfl (by kernel_rfl) (by kernel_rfl) (by kernel_rfl) (fun _ _ _ h => h) (fun wx hx => exec_neqN rfl rfl rfl hze) hS ?_
              simp only [Act.put, List.setIfInBounds_toArray, List.set_cons_zero, List.set_cons_succ]
              refine take_want 15 (some 46) (.bool false) rfl rfl rfl (by kernel_rfl) (by kernel_rfl) (by kernel_rfl) (fun _ _ _ h => h) (fun wx hx => exec_pickF rfl rfl rfl) hS ?_
              simp only [Act.put, List.setIfInBounds_toArray, List.set_cons_zero, List.set_cons_succ]
              refine wpAnyH_done (by kernel_rfl) ?_ _
              have HB2 : Hid (Below wz.heap.size wz wr.drew.drew) := hide (below_next HBw.out hS)
              clear hS hze
              go_wp2_with fail
              go_roundg m0
              case measure => omega
              case rel => exact ⟨j + 1, ns, by omega, by go_num, hide (addrs_same HIA.out HY.out HM.out), hide (ownsRow_below (by rw [hn]; exact HOW.out) HB2.out), hide (below_next HBz.out HB2.out)⟩
            · have HGT : Hid (∀ x ∈ ns.drop t, y.2 < x) := hide (rising_drop HIA.out.1 HZ.out (by omega))
              go_wp2_with fail
              refine wp_region_held_drew (S := Below wr.heap.size wr) (by kernel_rfl) (below_drew0 wr) (fun hS => ?_)
              refine take_want 0 (some 13) (.int .i64 (t : Int)) rfl rfl rfl (by kernel_rfl) (by kernel_rfl) (by kernel_rfl) (fun _ _ _ h => h) (fun wx hx => exec_move rfl rfl) hS ?_
              simp only [Act.put, List.setIfInBounds_toArray, List.set_cons_zero, List.set_cons_succ]
              refine take_want 1 (some 14) (.slice (some ⟨gN, 0, none⟩) n capN) rfl rfl rfl (by kernel_rfl) (by kernel_rfl) (by kernel_rfl) (fun _ _ _ h => h) (fun wx hx => exec_move rfl rfl) hS ?_
              simp only [Act.put, List.setIfInBounds_toArray, List.set_cons_zero, List.set_cons_succ]
              refine take_want 2 (some 15) (.int .i64 (n : Int)) rfl rfl rfl (by kernel_rfl) (by kernel_rfl) (by kernel_rfl) (fun _ _ _ h => h) (fun wx hx => exec_len rfl (len_ints _ _ _ _) rfl) hS ?_
              simp only [Act.put, List.setIfInBounds_toArray, List.set_cons_zero, List.set_cons_succ]
              refine take_want 3 (some 16) (.bool true) rfl rfl rfl (by kernel_rfl) (by kernel_rfl) (by kernel_rfl) (fun _ _ _ h => h) (fun wx hx => exec_lssT rfl rfl rfl (by omega)) hS ?_
              simp only [Act.put, List.setIfInBounds_toArray, List.set_cons_zero, List.set_cons_succ]
              refine take_want 4 (some 17) (.bool true) rfl rfl rfl (by kernel_rfl) (by kernel_rfl) (by kernel_rfl) (fun _ _ _ h => h) (fun wx hx => exec_move rfl rfl) hS ?_
              simp only [Act.put, List.setIfInBounds_toArray, List.set_cons_zero, List.set_cons_succ]
              refine take_want 5 (some 18) (.slice (some ⟨gN, 0, none⟩) n capN) rfl rfl rfl (by kernel_rfl) (by kernel_rfl) (by kernel_rfl) (fun _ _ _ h => h) (fun wx hx => exec_move rfl rfl) hS ?_
              simp only [Act.put, List.setIfInBounds_toArray, List.set_cons_zero, List.set_cons_succ]
              refine take_want 6 (some 19) (.int .i64 (t : Int)) rfl rfl rfl (by kernel_rfl) (by kernel_rfl) (by kernel_rfl) (fun _ _ _ h => h) (fun wx hx => exec_move rfl rfl) hS ?_
              simp only [Act.put, List.setIfInBounds_toArray, List.set_cons_zero, List.set_cons_succ]
              refine take_want 7 (some 20) (.pointer (some ⟨gN, t, none⟩)) rfl rfl rfl (by kernel_rfl) (by kernel_rfl) (by kernel_rfl) (fun _ _ _ h => h) (fun wx hx => exec_index rfl (index_int htn) rfl rfl) hS ?_
              simp only [Act.put, List.setIfInBounds_toArray, List.set_cons_zero, List.set_cons_succ]
              refine take_want 8 (some 21) (.int .i64 z) rfl rfl rfl (by kernel_rfl) (by kernel_rfl) (by kernel_rfl) (fun _ _ _ h => h) (fun wx hx => exec_load rfl (load_intV ((HIN.out.below (below_next HBw.out hx)).cells t z HZ.out)) rfl) hS ?_
              simp only [Act.put, List.setIfInBounds_toArray, List.set_cons_zero, List.set_cons_succ]
              refine take_want 9 (some 22) (.slice (some ⟨g, off, none⟩) nl cap) rfl rfl rfl (by kernel_rfl) (by kernel_rfl) (by kernel_rfl) (fun _ _ _ h => h) (fun wx hx => exec_move rfl rfl) hS ?_
              simp only [Act.put, List.setIfInBounds_toArray, List.set_cons_zero, List.set_cons_succ]
              refine take_want 10 (some 23) (.int .i64 (j : Int)) rfl rfl rfl (by kernel_rfl) (by kernel_rfl) (by kernel_rfl) (fun _ _ _ h => h) (fun wx hx => exec_move rfl rfl) hS ?_
              simp only [Act.put, List.setIfInBounds_toArray, List.set_cons_zero, List.set_cons_succ]
              refine take_want 11 (some 24) (.pointer (some ⟨g, off + j * 3, none⟩)) rfl rfl rfl (by kernel_rfl) (by kernel_rfl) (by kernel_rfl) (fun _ _ _ h => h) (fun wx hx => exec_index rfl (index_refs hjl) rfl rfl) hS ?_
              simp only [Act.put, List.setIfInBounds_toArray, List.set_cons_zero, List.set_cons_succ]
              refine take_want 12 (some 25) (.pointer (some ⟨g, off + j * 3 + 2, none⟩)) rfl rfl rfl (by kernel_rfl) (by kernel_rfl) (by kernel_rfl) (fun _ _ _ h => h) (fun wx hx => exec_field rfl (fldQ2 _ _ wx) rfl) hS ?_
              simp only [Act.put, List.setIfInBounds_toArray, List.set_cons_zero, List.set_cons_succ]
              refine take_want 13 (some 26) (.int .i64 y.2) rfl rfl rfl (by kernel_rfl) (by kernel_rfl) (by kernel_rfl) (fun _ _ _ h => h) (fun wx hx => exec_load rfl (load_intV ((HRA.out.below (below_next HBz.out (below_next HBw.out hx))).cells j y HY.out).2.2) rfl) hS ?_
              simp only [Act.put, List.setIfInBounds_toArray, List.set_cons_zero, List.set_cons_succ]
              refine take_want 14 (some 27) (.bool false) rfl rfl rfl (by kernel_rfl) (by kernel_rfl) (by kernel_rfl) (fun _ _ _ h => h) (fun wx hx => exec_lssF rfl rfl rfl (by omega)) hS ?_
              simp only [Act.put, List.setIfInBounds_toArray, List.set_cons_zero, List.set_cons_succ]
              refine take_want 15 (some 28) (.bool false) rfl rfl rfl (by kernel_rfl) (by kernel_rfl) (by kernel_rfl) (fun _ _ _ h => h) (fun wx hx => exec_pickT rfl rfl rfl) hS ?_
              simp only [Act.put, List.setIfInBounds_toArray, List.set_cons_zero, List.set_cons_succ]
              refine wpAnyH_done (by kernel_rfl) ?_ _
              clear hS
              go_wp2_with fail
              refine wp_region_held_drew (S := Below wr.heap.size wr) (by kernel_rfl) (below_next (below_drew0 wr) (below_drew0 _)) (fun hS => ?_)
              refine take_want 0 (some 31) (.int .i64 (t : Int)) rfl rfl rfl (by kernel_rfl) (by kernel_rfl) (by kernel_rfl) (fun _ _ _ h => h) (fun wx hx => exec_move rfl rfl) hS ?_
              simp only [Act.put, List.setIfInBounds_toArray, List.set_cons_zero, List.set_cons_succ]
              refine take_want 1 (some 32) (.slice (some ⟨gN, 0, none⟩) n capN) rfl rfl rfl (by kernel_rfl) (by kernel_rfl) (by kernel_rfl) (fun _ _ _ h => h) (fun wx hx => exec_move rfl rfl) hS ?_
              simp only [Act.put, List.setIfInBounds_toArray, List.set_cons_zero, List.set_cons_succ]
              refine take_want 2 (some 33) (.int .i64 (n : Int)) rfl rfl rfl (by kernel_rfl) (by kernel_rfl) (by kernel_rfl) (fun _ _ _ h => h) (fun wx hx => exec_len rfl (len_ints _ _ _ _) rfl) hS ?_
              simp only [Act.put, List.setIfInBounds_toArray, List.set_cons_zero, List.set_cons_succ]
              refine take_want 3 (some 34) (.bool false) rfl rfl rfl (by kernel_rfl) (by kernel_rfl) (by kernel_rfl) (fun _ _ _ h => h) (fun wx hx => exec_eqlNF rfl rfl rfl (by omega)) hS ?_
              simp only [Act.put, List.setIfInBounds_toArray, List.set_cons_zero, List.set_cons_succ]
              refine take_want 4 (some 35) (.bool false) rfl rfl rfl (by kernel_rfl) (by kernel_rfl) (by kernel_rfl) (fun _ _ _ h => h) (fun wx hx => exec_move rfl rfl) hS ?_
              simp only [Act.put, List.setIfInBounds_toArray, List.set_cons_zero, List.set_cons_succ]
              refine take_want 5 (some 36) (.slice (some ⟨gN, 0, none⟩) n capN) rfl rfl rfl (by kernel_rfl) (by kernel_rfl) (by kernel_rfl) (fun _ _ _ h => h) (fun wx hx => exec_move rfl rfl) hS ?_
              simp only [Act.put, List.setIfInBounds_toArray, List.set_cons_zero, List.set_cons_succ]
              refine take_want 6 (some 37) (.int .i64 (t : Int)) rfl rfl rfl (by kernel_rfl) (by kernel_rfl) (by kernel_rfl) (fun _ _ _ h => h) (fun wx hx => exec_move rfl rfl) hS ?_
              simp only [Act.put, List.setIfInBounds_toArray, List.set_cons_zero, List.set_cons_succ]
              refine take_want 7 (some 38) (.pointer (some ⟨gN, t, none⟩)) rfl rfl rfl (by kernel_rfl) (by kernel_rfl) (by kernel_rfl) (fun _ _ _ h => h) (fun wx hx => exec_index rfl (index_int htn) rfl rfl) hS ?_
              simp only [Act.put, List.setIfInBounds_toArray, List.set_cons_zero, List.set_cons_succ]
              refine take_want 8 (some 39) (.int .i64 z) rfl rfl rfl (by kernel_rfl) (by kernel_rfl) (by kernel_rfl) (fun _ _ _ h => h) (fun wx hx => exec_load rfl (load_intV ((HIN.out.below (below_next HBw.out hx)).cells t z HZ.out)) rfl) hS ?_
              simp only [Act.put, List.setIfInBounds_toArray, List.set_cons_zero, List.set_cons_succ]
              refine take_want 9 (some 40) (.slice (some ⟨g, off, none⟩) nl cap) rfl rfl rfl (by kernel_rfl) (by kernel_rfl) (by kernel_rfl) (fun _ _ _ h => h) (fun wx hx => exec_move rfl rfl) hS ?_
              simp only [Act.put, List.setIfInBounds_toArray, List.set_cons_zero, List.set_cons_succ]
              refine take_want 10 (some 41) (.int .i64 (j : Int)) rfl rfl rfl (by kernel_rfl) (by kernel_rfl) (by kernel_rfl) (fun _ _ _ h => h) (fun wx hx => exec_move rfl rfl) hS ?_
              simp only [Act.put, List.setIfInBounds_toArray, List.set_cons_zero, List.set_cons_succ]
              refine take_want 11 (some 42) (.pointer (some ⟨g, off + j * 3, none⟩)) rfl rfl rfl (by kernel_rfl) (by kernel_rfl) (by kernel_rfl) (fun _ _ _ h => h) (fun wx hx => exec_index rfl (index_refs hjl) rfl rfl) hS ?_
              simp only [Act.put, List.setIfInBounds_toArray, List.set_cons_zero, List.set_cons_succ]
              refine take_want 12 (some 43) (.pointer (some ⟨g, off + j * 3 + 2, none⟩)) rfl rfl rfl (by kernel_rfl) (by kernel_rfl) (by kernel_rfl) (fun _ _ _ h => h) (fun wx hx => exec_field rfl (fldQ2 _ _ wx) rfl) hS ?_
              simp only [Act.put, List.setIfInBounds_toArray, List.set_cons_zero, List.set_cons_succ]
              refine take_want 13 (some 44) (.int .i64 y.2) rfl rfl rfl (by kernel_rfl) (by kernel_rfl) (by kernel_rfl) (fun _ _ _ h => h) (fun wx hx => exec_load rfl (load_intV ((HRA.out.below (below_next HBz.out (below_next HBw.out hx))).cells j y HY.out).2.2) rfl) hS ?_
              simp only [Act.put, List.setIfInBounds_toArray, List.set_cons_zero, List.set_cons_succ]
              refine take_want 14 (some 45) (.bool true) rfl rfl rfl (by kernel_rfl) (by kernel_rfl) (by kernel_rfl) (fun _ _ _ h => h) (fun wx hx => exec_neqT rfl rfl rfl hze) hS ?_
              simp only [Act.put, List.setIfInBounds_toArray, List.set_cons_zero, List.set_cons_succ]
              refine take_want 15 (some 46) (.bool true) rfl rfl rfl (by kernel_rfl) (by kernel_rfl) (by kernel_rfl) (fun _ _ _ h => h) (fun wx hx => exec_pickF rfl rfl rfl) hS ?_
              simp only [Act.put, List.setIfInBounds_toArray, List.set_cons_zero, List.set_cons_succ]
              refine wpAnyH_done (by kernel_rfl) ?_ _
              clear hS hze
              obtain ⟨wd, hwd⟩ : ∃ wd, wr.drew.drew = wd := ⟨_, rfl⟩
              have HBd : Hid (Below wz.heap.size wz wd) := hide (by rw [← hwd]; exact below_next HBw.out (below_next (below_drew0 _) (below_drew0 _)))
              rw [hwd]
              clear hwd
              have HRd := hide (HROW.out.below HBd.out)
              obtain ⟨aoA, nA, capA, hcA, hrA⟩ := cutR_to wd (.slice (some ⟨gN, 0, none⟩) n capN) (ns.map encI) t HRd.out (by simp; omega)
              obtain ⟨aoB, nB, capB, hcB, hrB⟩ := cutR_from wd (.slice (some ⟨gN, 0, none⟩) n capN) (ns.map encI) t HRd.out (by simp; omega)
              obtain ⟨i0, hi, hz0, hz1, hz2⟩ := info_parts infoInt
              have hone : ∀ (m : List Int), ∀ u ∈ m.map encI, u.oneCell' = true := fun m u hu => by
                obtain ⟨q, -, rfl⟩ := List.mem_map.1 hu
                rfl
              obtain ⟨v1, w1, hap1, hg1⟩ := append_row (ty := 50) Try.underlying50 hi hz0 hz1 hz2 rfl (by omega) wd wd.heap.size (.slice none 0 0) (.slice aoA nA capA) [] ((ns.map encI).take t) (World.ownsRow_nil _ _ _ _) hrA.out (fun u hu => hone ns u (List.mem_of_mem_take hu)) (by simp; omega) (Nat.le_refl _)
              have hb1 : Below wd.heap.size wd w1 := hg1.below (Nat.le_refl _) (fun k e => by simp [Value.ownBlock] at e)
              have hs1 := hb1.size
              have hL := lit_row w1 w1.heap.size 3 [.int .i64 y.2] (Nat.le_refl _) (by simp)
              obtain ⟨v2, w2, hap2, hg2⟩ := append_row (ty := 50) Try.underlying50 hi hz0 hz1 hz2 rfl (by omega) (w1.alloc (.cells #[.int .i64 y.2] 3)) wd.heap.size v1 (.slice (some ⟨w1.heap.size, 0, none⟩) 1 1) ([] ++ (ns.map encI).take t) [.int .i64 y.2] (hg1.own.alloc _) (ownsRow_row hL (by simp)) (fun u hu => by rw [List.mem_singleton.1 hu]; rfl) (by simp; omega) (by simp; omega)
              have hb2 : Below wd.heap.size wd w2 := (hb1.alloc hs1 _).trans (hg2.below (by simp; omega) (fun k e => (hg1.own.lt k e).1))
              have hs2 := hb2.size
              obtain ⟨v3, w3, hap3, hg3⟩ := append_row (ty := 50) Try.underlying50 hi hz0 hz1 hz2 rfl (by omega) w2 wd.heap.size v2 (.slice aoB nB capB) ([] ++ (ns.map encI).take t ++ [.int .i64 y.2]) ((ns.map encI).drop t) hg2.own (hrB.out.below hb2) (fun u hu => hone ns u (List.mem_of_mem_drop hu)) (by simp; omega) hs2
              have hb3 : Below wd.heap.size wd w3 := hb2.trans (hg3.below hs2 (fun k e => (hg2.own.lt k e).1))
              have HB3 : Hid (Below wz.heap.size wz w3) := hide (below_next HBd.out hb3)
              have HO3 : Hid (w3.ownsRow w.heap.size 3 1 v3 (ns.take t ++ ([y.2] ++ ns.drop t)).length ((ns.take t ++ ([y.2] ++ ns.drop t)).map encI)) := hide (by
                have h := hg3.own
                have e : [] ++ (ns.map encI).take t ++ [.int .i64 y.2] ++ (ns.map encI).drop t = (ns.take t ++ ([y.2] ++ ns.drop t)).map encI := by
                  simp only [List.nil_append, List.map_append, List.map_cons, List.map_nil, List.map_take, List.map_drop, List.append_assoc]; rfl
                rw [e, List.length_map] at h
                exact ownsRow_base h (by have := HBz.out.size; have := HBd.out.size; omega))
              obtain ⟨ao1, cap1, hv1⟩ := ownsRow_form hg1.own
              obtain ⟨ao2, cap2, hv2⟩ := ownsRow_form hg2.own
              obtain ⟨ao3, cap3, hv3⟩ := ownsRow_form hg3.own
              obtain ⟨n1, hn1⟩ : ∃ k, ([] ++ (ns.map encI).take t).length = k := ⟨_, rfl⟩
              obtain ⟨n2, hn2⟩ : ∃ k, ([] ++ (ns.map encI).take t ++ [Value.int .i64 y.2]).length = k := ⟨_, rfl⟩
              obtain ⟨n3, hn3⟩ : ∃ k, ([] ++ (ns.map encI).take t ++ [Value.int .i64 y.2] ++ (ns.map encI).drop t).length = k := ⟨_, rfl⟩
              rw [hn1] at hv1
              rw [hn2] at hv2
              rw [hn3] at hv3
              obtain ⟨-, -, c3⟩ := (HRA.out.below (below_next HBz.out (below_next HBd.out hb1))).cells j y HY.out
              subst hv1 hv2 hv3
              clear hg1 hg2 hg3 hL hb1 hb2 hb3 hrA hrB hone hi hz0 hz1 hz2 hn1 hn2 hn3 hs1 hs2
              go_wp2_with (first
                | (at_builtin; refine wpList_append_eq rfl _ _ rfl rfl rfl hap1 ?_; clear hap1)
                | (at_builtin; refine wpList_append_eq rfl _ _ rfl rfl rfl hap2 ?_; clear hap2)
                | (at_builtin; refine wpList_append_eq rfl _ _ rfl rfl rfl hap3 ?_; clear hap3))
              go_roundg m0
              case measure => omega
              case rel => exact ⟨j + 1, _, by omega, by go_num, hide (addrs_ins HIA.out HY.out HLT.out HGT.out), HO3, hide (below_next HBz.out HB3.out)⟩
end Go.Proofs.Ytjopdejgijojmaa
