/- Steps of both disks: written; any step. -/
import Derived.Test.YtphmhepbilhkjaaPl4
namespace Go.Proofs.Ytphmhepbilhkjaa
open Go.RowKit Go.Extern

theorem Own.turn {w w' : World} {base : Nat} {F : Nat → Prop} {v : Value} {bs : List Nat} (h : Own w base v bs) (ht : Turn F w w') (hv : ∀ k, v.ownBlock = some k → ¬ F k) : Own w' base v bs :=
  ⟨ownsRow_of_block h.1 (fun k o hk ho => by rw [ht.block k (heap_lt ho) (hv k hk)]; exact ho), h.2⟩
theorem u8_inc (x : Nat) : ∃ y : Nat, y < 256 ∧ IntKind.u8.wrap ((x : Int) + 1) = (y : Int) := by
  refine ⟨(x + 1) % 256, Nat.mod_lt _ (by decide), ?_⟩
  rw [IntKind.wrap_u8']; omega

set_option maxRecDepth 100000 in
set_option maxHeartbeats 2000000 in
theorem step2_any {Z : Option (Nat × Obj)} {w0 w : World} {bd bx j : Nat} {S : List Sec} (h : Pl Z w0 w bd bx S S) (hw : Wl S j) (hj : j ≤ 1000) (oi on : Int) (aod : Option Addr) (dn capd : Nat) (aop : Option Addr) (pn capp : Nat) (d : List Nat) (hd : Bytes w0 (.slice aod dn capd) d) (hdl : d.length ≤ 1000) :
    Calls Try.prog 13 #[.pointer (some ⟨bd, 0, none⟩), .pointer (some ⟨bx, 0, none⟩), opV 2 oi on aod dn capd aop pn capp] w (Stepped Z w0 bd bx j) := by
  obtain ⟨F, G, h⟩ := h
  have HAL : Hid (Below w.heap.size w (w.alloc (.cells (opC 2 oi on aod dn capd aop pn capp) 35))) := (Below.refl _ _).alloc (Nat.le_refl _) _
  have HOB : Hid ((w.alloc (.cells (opC 2 oi on aod dn capd aop pn capp) 35)).heap[w.heap.size]? = some (.cells (opC 2 oi on aod dn capd aop pn capp) 35 (0, 0))) := heap_alloc_new w _
  have h1 := h.below HAL.out
  have HFB : Hid (∀ k, F k → k < w.heap.size) := fun k hk => (h.fb k hk).2
  have HGB : Hid (∀ k, G k → k < w.heap.size) := fun k hk => (h.gb k hk).2
  have H1 := hide h1
  have HW := hide hw
  have e0 : opC 2 oi on aod dn capd aop pn capp = #[.int .i64 2, .int .i64 oi, .int .i64 on, .slice aod dn capd, .slice aop pn capp] := rfl
  have HWW : Hid (∀ s ∈ S, s.wait.length < 1000000) := fun s hs => by have := hw s hs; omega
  have HDB := hide hd
  have HDL := hide hdl
  have HCP := hide (copy_any d (.slice aod dn capd) _ (hd.below h1.bel))
  have HZ1 : Hid ((w.alloc (.cells (opC 2 oi on aod dn capd aop pn capp) 35)).heap.size = w.heap.size + 1) := by show _ = _; simp
  have HW0 := hide h.bel.size
  have HZK : Hid (∀ k o, Z = some (k, o) → k < w.heap.size) := fun k o hz => heap_lt (h.pb k o hz).1
  clear h h1 hw hd hdl
  unfold opV
  go_enter Try.func13, Try.ntmps13
  go_wp2_with fail
  rw [← e0]
  refine HCP.out.mono ?_
  rintro e w2 ⟨u2, rfl, hu2, hb2⟩
  have h2 := H1.out.below hb2
  have hob2 : w2.heap[w.heap.size]? = some (.cells (opC 2 oi on aod dn capd aop pn capp) 35 (0, 0)) := by rw [hb2.block _ (heap_lt HOB.out)]; exact HOB.out
  obtain ⟨q1, -, -, -⟩ := opC_cells hob2
  obtain ⟨ao2, cp2, rfl⟩ := hu2.form
  have HWR := hide (write_any h2.d oi _ d hu2.bytes HWW.out)
  have HU2 := hide hu2
  have H2 := hide h2
  have HO2 := hide hob2
  have HB2 := hide hb2.size
  obtain ⟨bn, hbn⟩ : ∃ bn, d.length = bn := ⟨_, rfl⟩
  have HBN := hide hbn
  rw [hbn] at HWR HU2 ⊢
  clear hu2 h2 hob2 hb2 HCP e0 hbn
  go_wp2_with fail
  refine HWR.out.mono ?_
  rintro e w3 ⟨rfl, hd3, ht3⟩
  have h3 := H2.out.prog hd3 ht3
  have hnf : ∀ k, (Value.slice ao2 bn cp2).ownBlock = some k → ¬ F k := fun k hk hf => by have h1 := (HU2.out.lt k hk).1; rw [HZ1.out] at h1; have := HFB.out k hf; omega
  have hu3 := HU2.out.turn ht3 hnf
  have hob3 : w3.heap[w.heap.size]? = some (.cells (opC 2 oi on aod dn capd aop pn capp) 35 (0, 0)) := by rw [ht3.block _ (heap_lt HO2.out) (fun hf => by have := HFB.out _ hf; omega)]; exact HO2.out
  have hov := Over.start hu3
  rw [HBN.out] at hov
  have HOV := hide hov
  have H3 := hide h3
  have HO3 := hide hob3
  have HHF : Hid (∀ k, ext F w2 w3 k → ¬ (Value.slice ao2 bn cp2).ownBlock = some k) := fun k hk hv => by
    rcases hk with hk | hk
    · exact hnf k hv hk
    · have := (HU2.out.lt k hv).2; omega
  have HHG : Hid (∀ k, G k → ¬ (Value.slice ao2 bn cp2).ownBlock = some k) := fun k hk hv => by
    have h1 := (HU2.out.lt k hv).1; rw [HZ1.out] at h1; have := HGB.out k hk; omega
  have HHW : Hid (∀ k, (Value.slice ao2 bn cp2).ownBlock = some k → w.heap.size + 1 ≤ k) := fun k hv => by
    have h1 := (HU2.out.lt k hv).1; rw [HZ1.out] at h1; exact h1
  clear hd3 ht3 h3 hnf hu3 hob3 hov HWR q1
  go_wp2_with fail
  go_loopg [24] bn (fun gk y wr => ∃ k, k + gk = bn ∧ y = .int .i64 (k : Int) ∧ Over w3 wr (.slice ao2 bn cp2) bn)
  case atStart => exact ⟨0, by omega, rfl, HOV.out⟩
  case round =>
    obtain ⟨k, hk, rfl, hov⟩ := hrel
    have HOR := hide hov
    cases gk with
    | zero =>
      have hend : ¬ (k : Int) < (bn : Int) := by omega
      have ht4 : Turn (fun k => (Value.slice ao2 bn cp2).ownBlock = some k) w3 wr := Turn.of_grown hov.2 (fun k hk => hk)
      have h4 := H3.out.turn ht4 HHF.out HHG.out (fun k hv => by have := HHW.out k hv; have := HW0.out; omega) (fun k o hz hv => by have := HHW.out k hv; have := HZK.out k o hz; omega)
      have hob4 : wr.heap[w.heap.size]? = some (.cells (opC 2 oi on aod dn capd aop pn capp) 35 (0, 0)) := by rw [ht4.block _ (heap_lt HO3.out) (fun hv => by have := HHW.out _ hv; omega)]; exact HO3.out
      obtain ⟨q1, -, q3, -⟩ := opC_cells hob4
      have HRW := hide (rwrite_any h4.x oi (.slice aod dn capd) d (HDB.out.below h4.bel) HWW.out)
      have HIS := hide (fun w => is_same (wErr S oi d) w)
      have H4 := hide h4
      clear hk hov ht4 h4 hob4
      go_wp2_with (first | (go_at_call 32; refine HRW.out.mono ?_; rintro e w5 ⟨rfl, hx5, ht5⟩; have H5 := hide (H4.out.ref hx5 ht5); clear hx5 ht5) | (go_at_call 11; refine (HIS.out _).mono ?_; rintro e w' ⟨rfl, hww⟩; subst hww))
      go_ret
      exact ⟨rfl, _, H5.out.pl, HW.out.wSet _ _⟩
    | succ m =>
      have hlt : (k : Int) < (bn : Int) := by omega
      have hb0 : (0 : Int) ≤ (k : Int) := by omega
      have hkl : k < bn := by omega
      have hkk : (k : Int) + 1 < 1002 := by have := HDL.out; rw [HBN.out] at this; omega
      obtain ⟨gb, rfl⟩ := hov.form (by omega)
      obtain ⟨x, -, cx, fx, hset⟩ := hov.at_ hkl
      obtain ⟨y, hy, hxy⟩ := u8_inc x
      have HN := hide (hset y hy)
      clear hov hset
      go_wp2_with fail
      go_roundg m
      case measure => omega
      case rel => exact ⟨k + 1, by omega, by go_num, HN.out⟩

theorem step_any {Z : Option (Nat × Obj)} {w0 w : World} {bd bx j : Nat} {S : List Sec} (h : Pl Z w0 w bd bx S S) (hw : Wl S j) (hj : j ≤ 1000) (kind oi on : Int) (aod : Option Addr) (dn capd : Nat) (aop : Option Addr) (pn capp : Nat) (d : List Nat) (hd : Bytes w0 (.slice aod dn capd) d) (hdl : d.length ≤ 1000) (ps : List Int) (hps : Ints w0 (.slice aop pn capp) ps) (hpl : ps.length ≤ 1000) :
    Calls Try.prog 13 #[.pointer (some ⟨bd, 0, none⟩), .pointer (some ⟨bx, 0, none⟩), opV kind oi on aod dn capd aop pn capp] w (Stepped Z w0 bd bx j) := by
  by_cases h2 : kind = 2
  · subst h2; exact step2_any h hw hj oi on aod dn capd aop pn capp d hd hdl
  by_cases h3 : kind = 3
  · subst h3; exact step3_any h hw hj oi on aod dn capd aop pn capp
  by_cases h4 : kind = 4
  · subst h4; exact step4_any h hw oi on aod dn capd aop pn capp
  by_cases h5 : kind = 5
  · subst h5; exact step5_any h hw oi on aod dn capd aop pn capp
  by_cases h6 : kind = 6
  · subst h6; exact step6_any h hw hj oi on aod dn capd aop pn capp ps hps hpl
  by_cases h7 : kind = 7
  · subst h7; exact step7_any h oi on aod dn capd aop pn capp d hd hdl
  exact stepNo_any h hw kind oi on h2 h3 h4 h5 h6 h7 aod dn capd aop pn capp
end Go.Proofs.Ytphmhepbilhkjaa
