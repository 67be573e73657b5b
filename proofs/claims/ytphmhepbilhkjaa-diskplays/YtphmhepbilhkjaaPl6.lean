/- Steps of both disks: a crash, a fill, none. -/
import Derived.Test.YtphmhepbilhkjaaPl
namespace Go.Proofs.Ytphmhepbilhkjaa
open Go.RowKit Go.Extern

theorem opC_cells {w : World} {OB : Nat} {kind oi on : Int} {aod : Option Addr} {dn capd : Nat} {aop : Option Addr} {pn capp : Nat} (h : w.heap[OB]? = some (.cells (opC kind oi on aod dn capd aop pn capp) 35 (0, 0))) :
    w.cell? ⟨OB, 1, none⟩ = some (.int .i64 oi) ∧ w.cell? ⟨OB, 2, none⟩ = some (.int .i64 on) ∧ w.cell? ⟨OB, 3, none⟩ = some (.slice aod dn capd) ∧ w.cell? ⟨OB, 4, none⟩ = some (.slice aop pn capp) := by
  refine ⟨?_, ?_, ?_, ?_⟩ <;> rw [cell_of_row w _ _ _ _ _ h] <;> rfl
theorem Ints.block {w : World} {v : Value} {ns : List Int} (h : Ints w v ns) (hp : 0 < ns.length) : ∀ k, v.ownBlock = some k → k < w.heap.size := by
  obtain ⟨ao, cap, g, off, rfl, h2, h3, -⟩ := h
  intro k hk
  obtain rfl := h2 hp
  simp only [Value.ownBlock, Option.some.injEq] at hk
  subst hk
  exact cell_lt (h3 0 ns[0] (by simp [hp]))

set_option maxRecDepth 100000 in
set_option maxHeartbeats 2000000 in
theorem step6_any {Z : Option (Nat × Obj)} {w0 w : World} {bd bx j : Nat} {S : List Sec} (h : Pl Z w0 w bd bx S S) (hw : Wl S j) (hj : j ≤ 1000) (oi on : Int) (aod : Option Addr) (dn capd : Nat) (aop : Option Addr) (pn capp : Nat) (ps : List Int) (hps : Ints w0 (.slice aop pn capp) ps) (hpl : ps.length ≤ 1000) :
    Calls Try.prog 13 #[.pointer (some ⟨bd, 0, none⟩), .pointer (some ⟨bx, 0, none⟩), opV 6 oi on aod dn capd aop pn capp] w (Stepped Z w0 bd bx j) := by
  obtain ⟨F, G, h⟩ := h
  have HAL : Hid (Below w.heap.size w (w.alloc (.cells (opC 6 oi on aod dn capd aop pn capp) 35))) := (Below.refl _ _).alloc (Nat.le_refl _) _
  have HOB : Hid ((w.alloc (.cells (opC 6 oi on aod dn capd aop pn capp) 35)).heap[w.heap.size]? = some (.cells (opC 6 oi on aod dn capd aop pn capp) 35 (0, 0))) := heap_alloc_new w _
  have h1 := h.below HAL.out
  have HWW : Hid (∀ s ∈ S, s.wait.length ≤ 1000000) := fun s hs => by have := hw s hs; omega
  have HPS := hide hps
  have HGB : Hid (∀ k, G k → k < w.heap.size) := fun k hk => (h.gb k hk).2
  have HRC := hide (rcrash_any h1.x h.len HWW.out (.slice aop pn capp) ps (HPS.out.below h1.bel) (fun hp k hk hg => by have := hps.block hp k hk; have := (h.gb k hg).1; omega))
  have H1 := hide h1
  have HPL : Hid (ps.length ≤ 1000000) := by show _ ≤ _; omega
  clear h h1 hw hps hpl
  unfold opV
  have e0 : opC 6 oi on aod dn capd aop pn capp = #[.int .i64 6, .int .i64 oi, .int .i64 on, .slice aod dn capd, .slice aop pn capp] := rfl
  rw [e0] at HAL H1 HRC
  go_enter Try.func13, Try.ntmps13
  go_wp2_with fail
  refine HRC.out.mono ?_
  rintro e w2 ⟨rfl, hx2, ht2⟩
  have h2 := H1.out.ref hx2 ht2
  have H2 := hide h2
  have hob : w2.heap[w.heap.size]? = some (.cells (opC 6 oi on aod dn capd aop pn capp) 35 (0, 0)) := by rw [ht2.block _ (heap_lt HOB.out) (fun hg => by have := HGB.out _ hg; omega)]; exact HOB.out
  obtain ⟨-, -, -, q4⟩ := opC_cells hob
  have q4' : (w2.alloc (.cells #[] 3)).cell? ⟨w.heap.size, 4, none⟩ = some (.slice aop pn capp) := by rw [((Below.refl w2.heap.size w2).alloc (Nat.le_refl _) _).cell (cell_lt q4)]; exact q4
  obtain ⟨v3, w3, hr3, hi3, hb3, hn3, ao3, n3, c3, rfl⟩ := append_picks w2 (.slice aop pn capp) ps (HPS.out.below h2.bel) HPL.out
  have h3 := h2.below hb3
  have HCR := hide (crash_any h3.d HWW.out (.slice ao3 n3 c3) ps hi3 (fun k hk hf => by have := hn3 k hk; have := (h2.fb k hf).2; omega))
  have H3 := hide h3
  clear hx2 ht2 h2 h3 hob hi3 hb3 hn3 HRC e0
  go_wp2_with (first | ((with_reducible refine wpList_appendI rfl rfl hr3 ?_ ?_ ?_ ?_); rfl; rfl; rfl) | (go_at_call 26; refine HCR.out.mono ?_; rintro e w4 ⟨rfl, hd4, ht4⟩; have H4 := hide (H3.out.prog hd4 ht4); clear hd4 ht4))
  go_ret
  exact ⟨rfl, _, H4.out.pl, Wl.crash _ _ _⟩

set_option maxRecDepth 100000 in
set_option maxHeartbeats 2000000 in
theorem step7_any {Z : Option (Nat × Obj)} {w0 w : World} {bd bx j : Nat} {S : List Sec} (h : Pl Z w0 w bd bx S S) (oi on : Int) (aod : Option Addr) (dn capd : Nat) (aop : Option Addr) (pn capp : Nat) (d : List Nat) (hd : Bytes w0 (.slice aod dn capd) d) (hdl : d.length ≤ 1000) :
    Calls Try.prog 13 #[.pointer (some ⟨bd, 0, none⟩), .pointer (some ⟨bx, 0, none⟩), opV 7 oi on aod dn capd aop pn capp] w (Stepped Z w0 bd bx j) := by
  obtain ⟨F, G, h⟩ := h
  have HAL : Hid (Below w.heap.size w (w.alloc (.cells (opC 7 oi on aod dn capd aop pn capp) 35))) := (Below.refl _ _).alloc (Nat.le_refl _) _
  have HOB : Hid ((w.alloc (.cells (opC 7 oi on aod dn capd aop pn capp) 35)).heap[w.heap.size]? = some (.cells (opC 7 oi on aod dn capd aop pn capp) 35 (0, 0))) := heap_alloc_new w _
  have h1 := h.below HAL.out
  have HDB := hide hd
  have HDL := hide hdl
  have HGB : Hid (∀ k, G k → k < w.heap.size) := fun k hk => (h.gb k hk).2
  have HRC := hide (rfill_any h1.x h.len (.slice aod dn capd) d (HDB.out.below h1.bel) hdl (fun hp k hk hg => by have := hd.block hp k hk; have := (h.gb k hg).1; omega))
  have H1 := hide h1
  clear h h1 hd hdl
  unfold opV
  have e0 : opC 7 oi on aod dn capd aop pn capp = #[.int .i64 7, .int .i64 oi, .int .i64 on, .slice aod dn capd, .slice aop pn capp] := rfl
  rw [e0] at HAL H1 HRC
  go_enter Try.func13, Try.ntmps13
  go_wp2_with fail
  refine HRC.out.mono ?_
  rintro e w2 ⟨rfl, hx2, ht2⟩
  have h2 := H1.out.ref hx2 ht2
  have H2 := hide h2
  have hob : w2.heap[w.heap.size]? = some (.cells (opC 7 oi on aod dn capd aop pn capp) 35 (0, 0)) := by rw [ht2.block _ (heap_lt HOB.out) (fun hg => by have := HGB.out _ hg; omega)]; exact HOB.out
  obtain ⟨-, -, q3, -⟩ := opC_cells hob
  have HCP := hide (copy_any d (.slice aod dn capd) w2 (HDB.out.below h2.bel))
  have HF2 : Hid (∀ k, F k → k < w2.heap.size) := fun k hk => (h2.fb k hk).2
  clear hx2 ht2 h2 hob HRC e0
  go_wp2_with fail
  refine HCP.out.mono ?_
  rintro e w3 ⟨u3, rfl, hu3, hb3⟩
  have h3 := H2.out.below hb3
  obtain ⟨ao3, cp3, rfl⟩ := hu3.form
  have HFI := hide (fill_any h3.d _ d hu3.bytes HDL.out (fun k hk hf => by have := (hu3.lt k hk).1; have := HF2.out k hf; omega))
  have H3 := hide h3
  clear h3 hu3 hb3 HCP
  go_wp2_with fail
  refine HFI.out.mono ?_
  rintro e w4 ⟨rfl, hd4, ht4⟩
  have H4 := hide (H3.out.prog hd4 ht4)
  clear hd4 ht4 HFI
  go_wp2_with fail
  go_ret
  exact ⟨rfl, _, H4.out.pl, Wl.fill _ _ _⟩

set_option maxRecDepth 100000 in
set_option maxHeartbeats 2000000 in
theorem stepNo_any {Z : Option (Nat × Obj)} {w0 w : World} {bd bx j : Nat} {S : List Sec} (h : Pl Z w0 w bd bx S S) (hw : Wl S j) (kind oi on : Int) (h2 : kind ≠ 2) (h3 : kind ≠ 3) (h4 : kind ≠ 4) (h5 : kind ≠ 5) (h6 : kind ≠ 6) (h7 : kind ≠ 7) (aod : Option Addr) (dn capd : Nat) (aop : Option Addr) (pn capp : Nat) :
    Calls Try.prog 13 #[.pointer (some ⟨bd, 0, none⟩), .pointer (some ⟨bx, 0, none⟩), opV kind oi on aod dn capd aop pn capp] w (Stepped Z w0 bd bx j) := by
  have HAL : Hid (Below w.heap.size w (w.alloc (.cells (opC kind oi on aod dn capd aop pn capp) 35))) := (Below.refl _ _).alloc (Nat.le_refl _) _
  have H1 := hide (h.below HAL.out)
  have HW := hide hw
  have b2 : (kind == 2) = false := by simpa using h2
  have b3 : (kind == 3) = false := by simpa using h3
  have b4 : (kind == 4) = false := by simpa using h4
  have b5 : (kind == 5) = false := by simpa using h5
  have b6 : (kind == 6) = false := by simpa using h6
  have b7 : (kind == 7) = false := by simpa using h7
  clear h hw h2 h3 h4 h5 h6 h7
  unfold opV
  go_enter Try.func13, Try.ntmps13
  go_wp2
  go_ret
  exact ⟨rfl, _, H1.out, HW.out.mono (Nat.le_succ _)⟩
end Go.Proofs.Ytphmhepbilhkjaa
