/- The document's Bytes of a node. -/
import Derived.Test.YtcidadikmmdalaaDoorNb0
namespace Go.Proofs.YtcidadikmmdalaaDoor
open Go.RowKit Go.Extern

theorem own2 (w : World) {x y : Nat} (hx : x < 256) (hy : y < 256) : Fr.Own (w.alloc (.cells #[.int .u8 (x : Int), .int .u8 (y : Int)] 5)) w.heap.size (.slice (some ⟨w.heap.size, 0, none⟩) 2 2) [x, y] := by
  refine ⟨⟨by simp [Fr.cellsB], .inr ⟨w.heap.size, 2, #[.int .u8 (x : Int), .int .u8 (y : Int)], rfl, Nat.le_refl _, heap_alloc_new _ _, by simp, by unfold maxLen; omega, by simp, by simp [Fr.cellsB]⟩⟩, ?_, by simp⟩
  intro b hb
  rcases List.mem_cons.1 hb with rfl | hb
  · exact hx
  · rw [List.mem_singleton.1 hb]; exact hy
theorem bytes12 {x y : Nat} (hx : x < 256) (hy : y < 256) : Fr.bytesOf 1 [(x : Int), (y : Int)] = [x, y] := by
  simp [Fr.bytesOf, Fr.be, Nat.mod_eq_of_lt hx, Nat.mod_eq_of_lt hy]

set_option maxRecDepth 100000 in
set_option maxHeartbeats 4000000 in
theorem rbytes_any {w : World} {kv vv : Value} {K V : List Int} {L : Int} (hk : Ints w kv K) (hv : Ints w vv V) (h : Rt L K V) :
    Calls Tryd.prog 10 #[.agg #[.int .i64 L, kv, vv]] w fun e w' => ∃ u, e = .returned u ∧ Fr.Bytes w' u (Fr.frameOf 2 (payB L (K.zip V))) ∧ Below w.heap.size w w' := by
  obtain ⟨lv, rfl⟩ : ∃ lv : Nat, L = (lv : Int) := ⟨L.toNat, by have := h.lev; omega⟩
  obtain ⟨aK, cK, gK, oK, hkf, hK1, hK2⟩ := hk.at_
  obtain ⟨aV, cV, gV, oV, hvf, hV1, hV2⟩ := hv.at_
  obtain ⟨n, hn⟩ : ∃ n, K.length = n := ⟨_, rfl⟩
  have hpos := h.pos
  have hfew := h.few
  rw [h.same, hn] at hvf hV1
  rw [hn] at hkf hK1 hpos hfew
  obtain rfl := hK1 (by omega)
  obtain rfl := hV1 (by omega)
  have HBA := hide (bel_alloc w (.cells #[.int .i64 (lv : Int), kv, vv] 24))
  have HX := hide (BoxN.new 24 w (lv : Int) kv vv)
  subst hkf hvf
  have HR := hide h
  have HN := hide hn
  have HK2 := hide hK2
  have HV2 := hide hV2
  have hlv : lv ≤ 20 := by have := h.lev; omega
  have q1 : IntKind.u8.wrap (lv : Int) = (lv : Int) := by rw [IntKind.wrap_u8']; omega
  have q2 : IntKind.u8.wrap (n : Int) = (n : Int) := by rw [IntKind.wrap_u8']; omega
  have HO0 := hide (own2 (w.alloc (.cells #[.int .i64 (lv : Int), .slice (some ⟨gK, oK, none⟩) n cK, .slice (some ⟨gV, oV, none⟩) n cV] 24)) (x := lv) (y := n) (by omega) (by omega))
  have HB12 : Hid (Fr.bytesOf 1 [(lv : Int), (n : Int)] = [lv, n]) := hide (bytes12 (by omega) (by omega))
  have HBL := hide (bel_alloc (w.alloc (.cells #[.int .i64 (lv : Int), .slice (some ⟨gK, oK, none⟩) n cK, .slice (some ⟨gV, oV, none⟩) n cV] 24)) (.cells #[.int .u8 (lv : Int), .int .u8 (n : Int)] 5))
  rw [World.size_alloc] at HO0
  clear hk hv h hK1 hV1 hK2 hV2 hn hlv
  go_enter Tryd.func10, Tryd.ntmps10
  go_wp2_with fail
  clear q1 q2
  obtain ⟨wA, hwA⟩ : ∃ x, w.alloc (.cells #[.int .i64 (lv : Int), .slice (some ⟨gK, oK, none⟩) n cK, .slice (some ⟨gV, oV, none⟩) n cV] 24) = x := ⟨_, rfl⟩
  have hsA : wA.heap.size = w.heap.size + 1 := by rw [← hwA, World.size_alloc]
  rw [hwA] at HBL HBA HX HO0
  rw [hwA]
  rw [← hsA] at HO0
  rw [← hsA]
  clear hwA
  have HSA := hide hsA
  clear hsA
  go_loopg [3, 4] n (fun t s3 s4 wr => ∃ (j : Nat) (b : Value), j + t = n ∧ s3 = b ∧ s4 = .int .i64 (j : Int) ∧ Hid (Fr.Own wr wA.heap.size b ([lv, n] ++ payE ((K.zip V).take j)) ∧ Below wA.heap.size wA wr))
  case atStart => exact ⟨0, _, by omega, rfl, rfl, hide ⟨by simpa [payE] using HO0.out, HBL.out⟩⟩
  case round =>
    obtain ⟨j, bv, hj, rfl, rfl, HW⟩ := hrel
    have HBR := hide (nextB HBA.out HW.out.2)
    obtain ⟨x0, x1, x2⟩ := (HX.out.below HW.out.2).cells
    obtain ⟨ab, cb, gb, ob, hbf, -⟩ := HW.out.1.bytes
    obtain ⟨nb, hnb⟩ : ∃ m, ([lv, n] ++ payE ((K.zip V).take j)).length = m := ⟨_, rfl⟩
    rw [hnb] at hbf
    subst hbf
    have HLJ : Hid (([lv, n] ++ payE ((K.zip V).take j)).length ≤ 200) := hide (by
      have h2 := List.length_take_le j (K.zip V); have h5 := List.length_take_le' j (K.zip V); have h3 := HR.out.len; have h4 := HR.out.few; rw [List.length_append, payE_length]; simp only [List.length_cons, List.length_nil]; omega)
    clear hnb
    cases gk with
    | zero =>
      have hnl : ¬ (j : Int) < (n : Int) := by omega
      have htk : (K.zip V).take j = K.zip V := List.take_of_length_le (by rw [HR.out.len, HN.out]; omega)
      rw [htk] at HW
      have HPL : Hid (([lv, n] ++ payE (K.zip V)).length ≤ 122) := hide (by
        rw [List.length_append, payE_length, HR.out.len]; have := HR.out.few; simp only [List.length_cons, List.length_nil]; omega)
      go_wp2_with fail
      refine (Fr.rput_any 2 (by omega) _ _ wr HW.out.1.bytes HPL.out).mono ?_
      rintro e w6 ⟨u6, rfl, ho6, hb6⟩
      have HO6 := hide ho6
      have HB6 := hide (nextB HBR.out hb6)
      clear ho6 hb6
      go_wp2_with fail
      go_ret
      refine ⟨_, rfl, ?_, HB6.out⟩
      have hh := HO6.out.bytes
      unfold payB
      rw [HR.out.len, HN.out, HB12.out]
      exact hh
    | succ m =>
      have hlt : (j : Int) < (n : Int) := by omega
      have hb0 : (0 : Int) ≤ (j : Int) := by omega
      have hjn : j < n := by omega
      have e7 : IntKind.i64.wrap ((j : Int) + 1) = (j : Int) + 1 := IntWalk.i64_in _ ⟨by omega, by omega⟩
      obtain ⟨⟨a, b⟩, haj⟩ : ∃ k, (K.zip V)[j]? = some k := ⟨(K.zip V)[j]'(by rw [HR.out.len, HN.out]; omega), by rw [List.getElem?_eq_getElem]⟩
      have hfp := HR.out.ris.1 _ (List.mem_of_getElem? haj)
      have hka : K[j]? = some a := by rw [← zip_fst HR.out.same, List.getElem?_map, haj]; rfl
      have hvb : V[j]? = some b := by rw [← zip_snd HR.out.same, List.getElem?_map, haj]; rfl
      have HSN : Hid (payE ((K.zip V).take (j + 1)) = payE ((K.zip V).take j) ++ (Fr.be 8 a.toNat ++ Fr.be 8 b.toNat)) := hide (by rw [take_snoc haj, payE_snoc]; simp [Fr.bytesOf])
      obtain ⟨an, rfl⟩ : ∃ m : Nat, a = (m : Int) := ⟨a.toNat, by have := hfp.1; omega⟩
      obtain ⟨bn, rfl⟩ : ∃ m : Nat, b = (m : Int) := ⟨b.toNat, by have := hfp.2.2.1; omega⟩
      have HAN : Hid (an < 9223372036854775808 ∧ bn < 9223372036854775808) := hide (by have h1 := hfp.2.1; have h2 := hfp.2.2.2; simp only at h1 h2; omega)
      rw [Int.toNat_natCast, Int.toNat_natCast] at HSN
      have c0 := cell_bel HBR.out (HK2.out j _ hka)
      clear hfp haj
      go_wp2_with fail
      clear x0 x1 x2 c0
      refine (Fr.number_any an 8 (by omega) HAN.out.1 wr).mono ?_
      rintro e w5 ⟨u5, rfl, ho5, hb5⟩
      have HO5 := hide ho5
      have HB5 := hide hb5
      have HOB := hide (HW.out.1.below hb5)
      have HBS := hide (nextB HW.out.2 hb5)
      obtain ⟨a5, c5, g5, o5, hu5, -⟩ := ho5.bytes
      rw [Fr.be_length] at hu5
      subst hu5
      clear ho5 hb5
      go_wp2_with (at_builtin; refine Fr.wpList_append_bytes rfl _ _ rfl wA.heap.size _ _ _ (Fr.be 8 an) rfl rfl HOB.out HO5.out.bytes (by have := HLJ.out; rw [Fr.be_length]; omega) HBS.out.size ?_; intro v6 w6 ho6 hg6 hat6; have HO6 := hide ho6; have HBS6 := hide (HBS.out.grown hg6 HBS.out.size (fun k e => (HOB.out.lt k e).1)); obtain ⟨x0, x1, x2⟩ := (HX.out.below HBS6.out).cells; have c1 := cell_bel (nextB HBA.out HBS6.out) (HV2.out j _ hvb); obtain ⟨a6, c6, g6, o6, hv6, -⟩ := ho6.bytes; obtain ⟨n6, hn6⟩ : ∃ m, ([lv, n] ++ payE ((K.zip V).take j) ++ Fr.be 8 an).length = m := ⟨_, rfl⟩; rw [hn6] at hv6; subst hv6; clear ho6 hg6 hat6 hn6)
      clear x0 x1 x2 c1
      refine (Fr.number_any bn 8 (by omega) HAN.out.2 w6).mono ?_
      rintro e w7 ⟨u7, rfl, ho7, hb7⟩
      have HO7 := hide ho7
      have HOB7 := hide (HO6.out.below hb7)
      have HBS7 := hide (nextB HBS6.out hb7)
      obtain ⟨a7, c7, g7, o7, hu7, -⟩ := ho7.bytes
      rw [Fr.be_length] at hu7
      subst hu7
      have HLJ7 : Hid (([lv, n] ++ payE ((K.zip V).take j) ++ Fr.be 8 an).length ≤ 300) := hide (by have := HLJ.out; rw [List.length_append, Fr.be_length]; omega)
      clear ho7 hb7
      go_wp2_with (at_builtin; refine Fr.wpList_append_bytes rfl _ _ rfl wA.heap.size _ _ _ (Fr.be 8 bn) rfl rfl HOB7.out HO7.out.bytes (by have := HLJ7.out; rw [Fr.be_length]; omega) HBS7.out.size ?_; intro v8 w8 ho8 hg8 hat8; have HO8 := hide ho8; have HBS8 := hide (HBS7.out.grown hg8 HBS7.out.size (fun k e => (HOB7.out.lt k e).1)); obtain ⟨a8, c8, g8, o8, hv8, -⟩ := ho8.bytes; obtain ⟨n8, hn8⟩ : ∃ m, ([lv, n] ++ payE ((K.zip V).take j) ++ Fr.be 8 an ++ Fr.be 8 bn).length = m := ⟨_, rfl⟩; rw [hn8] at hv8; subst hv8; clear ho8 hg8 hat8 hn8)
      go_roundg m
      case measure => omega
      case rel => exact ⟨j + 1, _, by omega, rfl, by go_num, hide ⟨by rw [HSN.out]; simpa only [List.append_assoc] using HO8.out, HBS8.out⟩⟩
end Go.Proofs.YtcidadikmmdalaaDoor
