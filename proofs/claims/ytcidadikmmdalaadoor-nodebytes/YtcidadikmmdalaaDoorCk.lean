/- Check. -/
import Derived.Test.YtcidadikmmdalaaDoorAr
import Derived.Test.YtcidadikmmdalaaDoorErr
namespace Go.Proofs.YtcidadikmmdalaaDoor
open Go.RowKit Go.Extern

theorem zip_ok {w : World} {kv vv : Value} {K V : List Int} (hk : Ints w kv K) (hv : Ints w vv V) : ∀ p ∈ K.zip V, enOk p := fun p hp => by
  obtain ⟨a, b⟩ := p
  have := List.of_mem_zip hp
  exact ⟨hk.2 a this.1, hv.2 b this.2⟩
theorem Paird.ents {l : List En} {g n : Nat} {w' : World} (hn : Hid (n = l.length)) (h : RowE w' g l) (hok : ∀ p ∈ l, enOk p) (hl : l.length ≤ 1000) : Ents w' (.slice (some ⟨g, 0, none⟩) n n) l := by
  rw [hn.out]; exact (h.own (base := 0) (by omega) hok hl).ents

set_option maxRecDepth 100000 in
set_option maxHeartbeats 1000000 in
theorem check_ok {w : World} {kv vv : Value} {K V : List Int} {L : Int} (hk : Ints w kv K) (hv : Ints w vv V) (h : Rt L K V) :
    Calls Tryd.prog 8 #[.agg #[.int .i64 L, kv, vv]] w fun e w' => e = .returned .nilIface ∧ Below w.heap.size w w' := by
  have HK := hide hk
  have HV := hide hv
  have HR := hide h
  obtain ⟨aK, n, cK, rfl, hn⟩ := hk.form
  obtain ⟨aV, n2, cV, rfl, hn2⟩ := hv.form
  obtain rfl : n = n2 := by rw [hn.out, hn2.out, h.same]
  have l0 : ¬ L < 0 := by have := h.lev; omega
  have l1 : ¬ 20 < L := by have := h.lev; omega
  have l2 : ¬ (n : Int) < 1 := by have := h.pos; have := hn.out; omega
  have l3 : ¬ 7 < (n : Int) := by have := h.few; have := hn.out; omega
  have HBA := hide (bel_alloc w (.cells #[.int .i64 L, .slice aK n cK, .slice aV n cV] 30))
  have hP := pairs_any L (HK.out.below HBA.out) (HV.out.below HBA.out) h.same (by have := h.few; omega)
  have HOK := hide (zip_ok hk hv)
  have HLZ := hide h.len
  clear hk hv h
  go_enter Tryd.func8, Tryd.ntmps8
  go_wp2_with (first
    | (go_at_call 21; refine hP.mono ?_; rintro e w1 ⟨g, n3, rfl, HN3, hr1, hg1, hb1⟩; have hE := Paird.ents HN3 hr1 HOK.out (by rw [HLZ.out]; have := HR.out.few; omega); have HE := hide hE; have HB1 := hide hb1; clear hr1 hg1 hb1 hE)
    | (go_at_call 26; refine (allRight_any HE.out).mono ?_; rintro e w2 ⟨rfl, hb2⟩; rw [risB_iff.2 HR.out.ris]; have HB2 := hide hb2; clear hb2))
  go_ret
  exact ⟨rfl, nextB (nextB HBA.out HB1.out) HB2.out⟩

set_option maxRecDepth 100000 in
set_option maxHeartbeats 1000000 in
theorem check_bad {w : World} {kv vv : Value} {K V : List Int} {L : Int} (hk : Ints w kv K) (hv : Ints w vv V) (h : ¬ Rt L K V) :
    Calls Tryd.prog 8 #[.agg #[.int .i64 L, kv, vv]] w fun e w' => e = .returned (errV 70) ∧ Below w.heap.size w w' := by
  rw [errV_code (by omega)]
  have HK := hide hk
  have HV := hide hv
  have HR := hide h
  obtain ⟨aK, n, cK, rfl, hn⟩ := hk.form
  obtain ⟨aV, n2, cV, rfl, hn2⟩ := hv.form
  have HBA := hide (bel_alloc w (.cells #[.int .i64 L, .slice aK n cK, .slice aV n2 cV] 30))
  have HOK := hide (zip_ok hk hv)
  clear h
  by_cases l0 : L < 0
  · clear hk hv
    go_enter Tryd.func8, Tryd.ntmps8
    go_wp2
    go_ret
    exact ⟨rfl, HBA.out⟩
  by_cases l1 : 20 < L
  · clear hk hv
    go_enter Tryd.func8, Tryd.ntmps8
    go_wp2
    go_ret
    exact ⟨rfl, HBA.out⟩
  by_cases l2 : (n : Int) < 1
  · clear hk hv
    go_enter Tryd.func8, Tryd.ntmps8
    go_wp2
    go_ret
    exact ⟨rfl, HBA.out⟩
  by_cases l3 : 7 < (n : Int)
  · clear hk hv
    go_enter Tryd.func8, Tryd.ntmps8
    go_wp2
    go_ret
    exact ⟨rfl, HBA.out⟩
  by_cases l4 : n2 = n
  · subst l4
    have hsm : V.length = K.length := by have := hn.out; have := hn2.out; omega
    have HNR : Hid (¬ Ris (K.zip V)) := hide (fun hr => HR.out ⟨by omega, by have := hn.out; omega, by have := hn.out; omega, hsm, hr⟩)
    have hP := pairs_any L (HK.out.below HBA.out) (HV.out.below HBA.out) hsm (by have := hn.out; omega)
    have HLZ : Hid ((K.zip V).length ≤ 7) := hide (by rw [zip_len hsm]; have := hn.out; omega)
    clear hk hv hsm
    go_enter Tryd.func8, Tryd.ntmps8
    go_wp2_with (first
      | (go_at_call 21; refine hP.mono ?_; rintro e w1 ⟨g, n3, rfl, HN3, hr1, hg1, hb1⟩; have hE := Paird.ents HN3 hr1 HOK.out (by have := HLZ.out; omega); have HE := hide hE; have HB1 := hide hb1; clear hr1 hg1 hb1 hE)
      | (go_at_call 26; refine (allRight_any HE.out).mono ?_; rintro e w2 ⟨rfl, hb2⟩; rw [risB_false.2 HNR.out]; have HB2 := hide hb2; clear hb2))
    go_ret
    exact ⟨rfl, nextB (nextB HBA.out HB1.out) HB2.out⟩
  · have l5 : ((n2 : Int) == (n : Int)) = false := by simp; omega
    have l6 : (n2 == n) = false := by simp; omega
    have l7 : ((n2 : Int) != (n : Int)) = true := by simp; omega
    clear hk hv
    go_enter Tryd.func8, Tryd.ntmps8
    go_wp2
    go_ret
    exact ⟨rfl, HBA.out⟩
end Go.Proofs.YtcidadikmmdalaaDoor
