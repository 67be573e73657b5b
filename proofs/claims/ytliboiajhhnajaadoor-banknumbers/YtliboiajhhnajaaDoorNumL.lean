/- BankNumbers walked. -/
import Derived.Test.YtliboiajhhnajaaDoorNum
namespace Go.Proofs.YtliboiajhhnajaaDoor
open Go.RowKit Go.Extern

theorem index_intsN {w : World} {g n cap i : Nat} (h : i < n) : (Instr.indexAt 22 (.slice (some ⟨g, 0, none⟩) n cap) (.int .i64 (i : Int))).run Tryd.prog w = .ok (.pointer (some ⟨g, i, none⟩)) w := by
  have h1 : (i : Int) < (n : Int) := by omega
  go_simp
theorem exec_neqI {ρ : Operand → Value} {o : Oper} {w : World} {x y : Operand} {n : Int} {T : TypeId} (ho : o.op = .binOp .neq 3 x y T) (hx : ρ x = .int .i64 n) (hy : ρ y = .int .i64 n) : (execOp ρ o).run Tryd.prog w = .ok (.value (.bool false)) w := by
  unfold execOp; simp only [ho, hx, hy]; go_simp
theorem load_intN {w : World} {p : Addr} {v : Value} (h : w.cell? p = some v) : (Instr.loadAt 3 (.pointer (some p))).run Tryd.prog w = .ok v w := by go_simp

set_option maxRecDepth 100000 in
set_option maxHeartbeats 8000000 in
theorem numL_any (w : World) (sv gv : Value) (ss gs : List Int) (hsv : Ints w sv ss) (hgv : Ints w gv gs) (hL : Laid w) : Calls Tryd.prog 3 #[sv, gv] w fun e w' => e = .returned (.bool true) ∧ Below w.heap.size w w' := by
  obtain ⟨aos, caps, gS, oS, rfl, s2, s3, -⟩ := hsv
  obtain ⟨aog, capg, gG, oG, rfl, g2, g3, -⟩ := hgv
  have S2 := hide s2
  have S3 := hide s3
  have G2 := hide g2
  have G3 := hide g3
  have HLD := hide hL
  clear s2 s3 g2 g3 hL
  go_enter Tryd.func3, Tryd.ntmps3
  go_wp2_with fail
  refine (bnew_any w).mono ?_
  rintro e w2 ⟨b, rfl, hbkb, hb2⟩
  have HNU : Hid (Nu w w2 b (.slice none 0 0)) := ⟨_, _, NumAt.start hbkb hb2⟩
  clear hbkb hb2
  by_cases hbig : (30 : Int) < (ss.length : Int) ∨ (gs.length : Int) < (ss.length : Int)
  · have HBO := hide HNU.out.bel
    have HA := hide (awake_any w2)
    have hdd : decide ((30 : Int) < (ss.length : Int)) = true ∨ (decide ((30 : Int) < (ss.length : Int)) = false ∧ decide (gs.length < ss.length) = true) := by
      by_cases h0 : (30 : Int) < (ss.length : Int)
      · exact .inl (by simpa using h0)
      · exact .inr ⟨by simpa using h0, by simp; omega⟩
    clear hbig
    rcases hdd with hd1 | ⟨hd1, hd2⟩
    · go_wp2_with (go_at_call 5; refine HA.out.mono ?_; rintro e w' ⟨rfl, hb⟩; have HBB := hide (HBO.out.trans (hb.mono HBO.out.size)); clear hb)
      go_ret
      exact ⟨rfl, HBB.out⟩
    · go_wp2_with (go_at_call 5; refine HA.out.mono ?_; rintro e w' ⟨rfl, hb⟩; have HBB := hide (HBO.out.trans (hb.mono HBO.out.size)); clear hb)
      go_ret
      exact ⟨rfl, HBB.out⟩
  · have hd1 : decide ((30 : Int) < (ss.length : Int)) = false := by simp; omega
    have hd2 : decide (gs.length < ss.length) = false := by simp; omega
    have HL30 : Hid (ss.length ≤ 30) := by show _ ≤ _; omega
    have HGL : Hid (ss.length ≤ gs.length) := by show _ ≤ _; omega
    clear hbig
    go_wp2_with fail
    go_loopg [36, 6] ss.length (fun gk i v wr => ∃ j, j + gk = ss.length ∧ i = .int .i64 (j : Int) ∧ Nu w wr b v)
    case atStart => exact ⟨0, by omega, rfl, HNU.out⟩
    case round =>
      clear HNU
      obtain ⟨j, hj, rfl, hnu⟩ := hrel
      have HNU := hide hnu
      obtain ⟨F, D, hat⟩ := hnu
      obtain ⟨aov, capv, rfl⟩ := ownsRow_form hat.row
      rw [szs_length] at HNU hat
      rw [szs_length]
      have hD8 := hat.k.few
      cases gk with
      | succ m =>
        have hjl : j < ss.length := by omega
        have hlt : (j : Int) < (ss.length : Int) := by omega
        have hb0 : (0 : Int) ≤ (j : Int) := by omega
        have hjg : (j : Int) < (gs.length : Int) := by have := HGL.out; omega
        have hjj : (j : Int) + 1 < 32 := by have := HL30.out; omega
        obtain ⟨n, hn⟩ : ∃ n, ss[j]? = some n := ⟨ss[j], by simp [hjl]⟩
        obtain ⟨dd, hdd⟩ : ∃ dd, gs[j]? = some dd := ⟨gs[j]'(by omega), by simp⟩
        obtain rfl := S2.out (by omega)
        obtain rfl := G2.out (by omega)
        have HSC := hide (S3.out j n hn)
        have HGC := hide (G3.out j dd hdd)
        have cs : wr.cell? ⟨gS, oS + j, none⟩ = some (.int .i64 n) := by rw [hat.bel.cell (cell_lt HSC.out)]; exact HSC.out
        have HAT := hide hat
        clear hn hdd hat
        by_cases h50 : (50 : Int) < n
        · by_cases h4k : n ≤ 4096
          · have HBO := hide HAT.out.bel
            have HA := hide (awake_any wr)
            have e1 : decide ((50 : Int) < n) = true := by simpa using h50
            have e2 : decide (n ≤ 4096) = true := by simpa using h4k
            clear h50 h4k HAT
            go_wp2_with (go_at_call 5; refine HA.out.mono ?_; rintro e w' ⟨rfl, hb⟩; have HBB := hide (HBO.out.trans (hb.mono HBO.out.size)); clear hb)
            go_ret
            exact ⟨rfl, HBB.out⟩
          · have e1 : decide ((50 : Int) < n) = true := by simpa using h50
            have e2 : decide (n ≤ 4096) = false := by simpa using h4k
            by_cases h8 : 8 ≤ D.length
            · have e3 : decide ((8 : Int) ≤ (D.length : Int)) = true := by simp; omega
              have e3n : decide (8 ≤ D.length) = true := by simpa using h8
              have HCA := hide (badd_any HAT.out.k n)
              have HE : Hid (addC D pw0 n = 24) := by show _ = _; unfold addC; rw [if_neg (by decide), if_pos h8]
              clear h50 h4k h8
              go_wp2_with fail
              refine HCA.out.mono ?_
              rintro e w3 ⟨ht3, he⟩
              have he2 : ∃ u, e = .returned (.tuple #[.int .i64 0, u]) ∧ FErr w3 u (addC D pw0 n) "add".toUTF8 (D.length : Int) 0 ∧ Bk w3 (ext F wr w3) b D pw0 := by
                rcases he with ⟨-, h⟩ | ⟨hc, -⟩
                · exact h
                · exact absurd hc (by rw [HE.out]; decide)
              obtain ⟨u, rfl, hu, hbk3⟩ := he2
              clear he
              rw [HE.out] at hu
              have h3 := HAT.out.same hbk3 ht3
              have HTD := hide (told_any hu (HLD.out.below h3.bel))
              have HN3 := hide h3
              obtain ⟨fb, rfl, -⟩ := hu.at_ (by decide)
              clear hu hbk3 ht3 h3 HCA
              go_wp2_with fail
              refine HTD.out.mono ?_
              rintro e w9 ⟨rfl, hb9⟩
              obtain ⟨F2, D2, ao2, cap2, hN2, hD2⟩ : ∃ F2 D2 ao2 cap2, NumAt w w9 F2 b D2 (.slice ao2 D2.length cap2) ∧ (D2 = D ∧ ao2 = aov ∧ cap2 = capv) := ⟨_, _, _, _, HN3.out.below hb9, rfl, rfl, rfl⟩
              obtain ⟨rfl, rfl, rfl⟩ := hD2
              have HN2 := hide hN2
              clear hN2 hb9 HTD HN3 HAT
              have cg : w9.cell? ⟨gG, oG + j, none⟩ = some (.int .i64 dd) := by rw [HN2.out.bel.cell (cell_lt HGC.out)]; exact HGC.out
              have HD28 := hide HN2.out.k.few
              by_cases hd0 : 0 ≤ dd
              · obtain ⟨k, rfl⟩ : ∃ k : Nat, dd = (k : Int) := ⟨dd.toNat, by omega⟩
                have z1 : decide ((0 : Int) ≤ (k : Int)) = true := by simp
                clear hd0
                by_cases hkl : k < D2.length
                · have z2 : decide (k < D2.length) = true := by simpa using hkl
                  have z2' : (k : Int) < (D2.length : Int) := by omega
                  obtain ⟨d, hd⟩ : ∃ d, D2[k]? = some d := ⟨D2[k], by simp⟩
                  obtain ⟨g6, cap6, cur6, hv6, -⟩ := ownsRow_pos HN2.out.row (by rw [szs_length]; omega)
                  simp only [szs_length, Value.slice.injEq, true_and] at hv6
                  obtain ⟨rfl, rfl⟩ := hv6
                  have hrow := HN2.out.row
                  rw [szs_length] at hrow
                  have c6 : w9.cell? ⟨g6, k, none⟩ = some (.int .i64 (sizeOf d)) := row_cell hrow (j := k) (by simp [szs, hd])
                  clear hkl
                  cases d with
                  | none =>
                    rw [show sizeOf none = 0 from rfl] at c6
                    clear hd hrow
                    go_wp2
                    go_roundg m
                    case measure => omega
                    case rel => exact ⟨j + 1, by omega, by go_num, _, _, HN2.out⟩
                  | some d =>
                    obtain ⟨p, S⟩ := d
                    rw [show sizeOf (some (p, S)) = (S.length : Int) from rfl] at c6
                    have hpS := HN2.out.pos k p S hd
                    have z3 : decide (0 < S.length) = true := by simp; omega
                    have z3' : decide ((0 : Int) < (S.length : Int)) = true := by simp; omega
                    have HDT := hide (bdetach_any HN2.out.k (k : Int))
                    have hlk : lookP D2 pw0 (k : Int) = 0 := lookP_at rfl hd
                    have hbd : bdD D2 pw0 (k : Int) = D2.set k none := by unfold bdD; rw [if_pos hlk, Int.toNat_natCast]
                    rw [hlk, hbd] at HDT
                    have HROW := hide hrow
                    clear hd hpS hlk hbd hrow
                    go_wp2_with fail
                    refine HDT.out.mono ?_
                    rintro e w8 ⟨x, rfl, hx, hk8, ht8⟩
                    obtain rfl := hx.zero
                    have HG8 := hide (HN2.out.gone k hk8 ht8)
                    have hr8 : w8.ownsRow w.heap.size 3 1 (.slice (some ⟨g6, 0, none⟩) D2.length cap2) D2.length ((szs D2).map (Value.int .i64)) := ownsRow_of_block HROW.out (fun k o hv ho => by rw [ht8.block k (heap_lt ho) (HN2.out.out k hv)]; exact ho)
                    have c8 : w8.cell? ⟨g6, k, none⟩ = some (.int .i64 (S.length : Int)) := by rw [World.cell?_of_block (w := w9) (ht8.block g6 (cell_lt c6) (HN2.out.out g6 rfl))]; exact c6
                    have f8 := row_frozen' hr8 k
                    have HLE : Hid ((D2.set k none).length = D2.length) := by show _ = _; simp
                    clear hx hk8 ht8 HDT hr8 c6
                    go_wp2
                    go_roundg m
                    case measure => omega
                    case rel => exact ⟨j + 1, by omega, by go_num, _, _, HG8.out⟩
                · have z2 : decide (k < D2.length) = false := by simpa using hkl
                  clear hkl
                  go_wp2
                  go_roundg m
                  case measure => omega
                  case rel => exact ⟨j + 1, by omega, by go_num, _, _, HN2.out⟩
              · have z1 : decide (0 ≤ dd) = false := by simpa using hd0
                clear hd0
                go_wp2
                go_roundg m
                case measure => omega
                case rel => exact ⟨j + 1, by omega, by go_num, _, _, HN2.out⟩
            · have e3 : decide ((8 : Int) ≤ (D.length : Int)) = false := by simp; omega
              have e3n : decide (8 ≤ D.length) = false := by simpa using h8
              have e4 : decide (n < 1) = false := by simp; omega
              have e5 : decide ((4096 : Int) < n) = true := by simp; omega
              have HCA := hide (badd_any HAT.out.k n)
              have HE : Hid (addC D pw0 n = 20) := by show _ = _; unfold addC; rw [if_neg (by decide), if_neg h8, if_neg (by simp [newB]; omega)]
              clear h50 h4k h8
              go_wp2_with fail
              refine HCA.out.mono ?_
              rintro e w3 ⟨ht3, he⟩
              have he2 : ∃ u, e = .returned (.tuple #[.int .i64 0, u]) ∧ FErr w3 u (addC D pw0 n) "add".toUTF8 (D.length : Int) 0 ∧ Bk w3 (ext F wr w3) b D pw0 := by
                rcases he with ⟨-, h⟩ | ⟨hc, -⟩
                · exact h
                · exact absurd hc (by rw [HE.out]; decide)
              obtain ⟨u, rfl, hu, hbk3⟩ := he2
              clear he
              rw [HE.out] at hu
              have h3 := HAT.out.same hbk3 ht3
              have HTD := hide (told_any hu (HLD.out.below h3.bel))
              have HN3 := hide h3
              obtain ⟨fb, rfl, -⟩ := hu.at_ (by decide)
              clear hu hbk3 ht3 h3 HCA
              go_wp2_with fail
              refine HTD.out.mono ?_
              rintro e w9 ⟨rfl, hb9⟩
              obtain ⟨F2, D2, ao2, cap2, hN2, hD2⟩ : ∃ F2 D2 ao2 cap2, NumAt w w9 F2 b D2 (.slice ao2 D2.length cap2) ∧ (D2 = D ∧ ao2 = aov ∧ cap2 = capv) := ⟨_, _, _, _, HN3.out.below hb9, rfl, rfl, rfl⟩
              obtain ⟨rfl, rfl, rfl⟩ := hD2
              have HN2 := hide hN2
              clear hN2 hb9 HTD HN3 HAT
              have cg : w9.cell? ⟨gG, oG + j, none⟩ = some (.int .i64 dd) := by rw [HN2.out.bel.cell (cell_lt HGC.out)]; exact HGC.out
              have HD28 := hide HN2.out.k.few
              by_cases hd0 : 0 ≤ dd
              · obtain ⟨k, rfl⟩ : ∃ k : Nat, dd = (k : Int) := ⟨dd.toNat, by omega⟩
                have z1 : decide ((0 : Int) ≤ (k : Int)) = true := by simp
                clear hd0
                by_cases hkl : k < D2.length
                · have z2 : decide (k < D2.length) = true := by simpa using hkl
                  have z2' : (k : Int) < (D2.length : Int) := by omega
                  obtain ⟨d, hd⟩ : ∃ d, D2[k]? = some d := ⟨D2[k], by simp⟩
                  obtain ⟨g6, cap6, cur6, hv6, -⟩ := ownsRow_pos HN2.out.row (by rw [szs_length]; omega)
                  simp only [szs_length, Value.slice.injEq, true_and] at hv6
                  obtain ⟨rfl, rfl⟩ := hv6
                  have hrow := HN2.out.row
                  rw [szs_length] at hrow
                  have c6 : w9.cell? ⟨g6, k, none⟩ = some (.int .i64 (sizeOf d)) := row_cell hrow (j := k) (by simp [szs, hd])
                  clear hkl
                  cases d with
                  | none =>
                    rw [show sizeOf none = 0 from rfl] at c6
                    clear hd hrow
                    go_wp2
                    go_roundg m
                    case measure => omega
                    case rel => exact ⟨j + 1, by omega, by go_num, _, _, HN2.out⟩
                  | some d =>
                    obtain ⟨p, S⟩ := d
                    rw [show sizeOf (some (p, S)) = (S.length : Int) from rfl] at c6
                    have hpS := HN2.out.pos k p S hd
                    have z3 : decide (0 < S.length) = true := by simp; omega
                    have z3' : decide ((0 : Int) < (S.length : Int)) = true := by simp; omega
                    have HDT := hide (bdetach_any HN2.out.k (k : Int))
                    have hlk : lookP D2 pw0 (k : Int) = 0 := lookP_at rfl hd
                    have hbd : bdD D2 pw0 (k : Int) = D2.set k none := by unfold bdD; rw [if_pos hlk, Int.toNat_natCast]
                    rw [hlk, hbd] at HDT
                    have HROW := hide hrow
                    clear hd hpS hlk hbd hrow
                    go_wp2_with fail
                    refine HDT.out.mono ?_
                    rintro e w8 ⟨x, rfl, hx, hk8, ht8⟩
                    obtain rfl := hx.zero
                    have HG8 := hide (HN2.out.gone k hk8 ht8)
                    have hr8 : w8.ownsRow w.heap.size 3 1 (.slice (some ⟨g6, 0, none⟩) D2.length cap2) D2.length ((szs D2).map (Value.int .i64)) := ownsRow_of_block HROW.out (fun k o hv ho => by rw [ht8.block k (heap_lt ho) (HN2.out.out k hv)]; exact ho)
                    have c8 : w8.cell? ⟨g6, k, none⟩ = some (.int .i64 (S.length : Int)) := by rw [World.cell?_of_block (w := w9) (ht8.block g6 (cell_lt c6) (HN2.out.out g6 rfl))]; exact c6
                    have f8 := row_frozen' hr8 k
                    have HLE : Hid ((D2.set k none).length = D2.length) := by show _ = _; simp
                    clear hx hk8 ht8 HDT hr8 c6
                    go_wp2
                    go_roundg m
                    case measure => omega
                    case rel => exact ⟨j + 1, by omega, by go_num, _, _, HG8.out⟩
                · have z2 : decide (k < D2.length) = false := by simpa using hkl
                  clear hkl
                  go_wp2
                  go_roundg m
                  case measure => omega
                  case rel => exact ⟨j + 1, by omega, by go_num, _, _, HN2.out⟩
              · have z1 : decide (0 ≤ dd) = false := by simpa using hd0
                clear hd0
                go_wp2
                go_roundg m
                case measure => omega
                case rel => exact ⟨j + 1, by omega, by go_num, _, _, HN2.out⟩
        · have e1 : decide ((50 : Int) < n) = false := by simpa using h50
          by_cases h8 : 8 ≤ D.length
          · have e3 : decide ((8 : Int) ≤ (D.length : Int)) = true := by simp; omega
            have e3n : decide (8 ≤ D.length) = true := by simpa using h8
            have HCA := hide (badd_any HAT.out.k n)
            have HE : Hid (addC D pw0 n = 24) := by show _ = _; unfold addC; rw [if_neg (by decide), if_pos h8]
            clear h50 h8
            go_wp2_with fail
            refine HCA.out.mono ?_
            rintro e w3 ⟨ht3, he⟩
            have he2 : ∃ u, e = .returned (.tuple #[.int .i64 0, u]) ∧ FErr w3 u (addC D pw0 n) "add".toUTF8 (D.length : Int) 0 ∧ Bk w3 (ext F wr w3) b D pw0 := by
              rcases he with ⟨-, h⟩ | ⟨hc, -⟩
              · exact h
              · exact absurd hc (by rw [HE.out]; decide)
            obtain ⟨u, rfl, hu, hbk3⟩ := he2
            clear he
            rw [HE.out] at hu
            have h3 := HAT.out.same hbk3 ht3
            have HTD := hide (told_any hu (HLD.out.below h3.bel))
            have HN3 := hide h3
            obtain ⟨fb, rfl, -⟩ := hu.at_ (by decide)
            clear hu hbk3 ht3 h3 HCA
            go_wp2_with fail
            refine HTD.out.mono ?_
            rintro e w9 ⟨rfl, hb9⟩
            obtain ⟨F2, D2, ao2, cap2, hN2, hD2⟩ : ∃ F2 D2 ao2 cap2, NumAt w w9 F2 b D2 (.slice ao2 D2.length cap2) ∧ (D2 = D ∧ ao2 = aov ∧ cap2 = capv) := ⟨_, _, _, _, HN3.out.below hb9, rfl, rfl, rfl⟩
            obtain ⟨rfl, rfl, rfl⟩ := hD2
            have HN2 := hide hN2
            clear hN2 hb9 HTD HN3 HAT
            have cg : w9.cell? ⟨gG, oG + j, none⟩ = some (.int .i64 dd) := by rw [HN2.out.bel.cell (cell_lt HGC.out)]; exact HGC.out
            have HD28 := hide HN2.out.k.few
            by_cases hd0 : 0 ≤ dd
            · obtain ⟨k, rfl⟩ : ∃ k : Nat, dd = (k : Int) := ⟨dd.toNat, by omega⟩
              have z1 : decide ((0 : Int) ≤ (k : Int)) = true := by simp
              clear hd0
              by_cases hkl : k < D2.length
              · have z2 : decide (k < D2.length) = true := by simpa using hkl
                have z2' : (k : Int) < (D2.length : Int) := by omega
                obtain ⟨d, hd⟩ : ∃ d, D2[k]? = some d := ⟨D2[k], by simp⟩
                obtain ⟨g6, cap6, cur6, hv6, -⟩ := ownsRow_pos HN2.out.row (by rw [szs_length]; omega)
                simp only [szs_length, Value.slice.injEq, true_and] at hv6
                obtain ⟨rfl, rfl⟩ := hv6
                have hrow := HN2.out.row
                rw [szs_length] at hrow
                have c6 : w9.cell? ⟨g6, k, none⟩ = some (.int .i64 (sizeOf d)) := row_cell hrow (j := k) (by simp [szs, hd])
                clear hkl
                cases d with
                | none =>
                  rw [show sizeOf none = 0 from rfl] at c6
                  clear hd hrow
                  go_wp2
                  go_roundg m
                  case measure => omega
                  case rel => exact ⟨j + 1, by omega, by go_num, _, _, HN2.out⟩
                | some d =>
                  obtain ⟨p, S⟩ := d
                  rw [show sizeOf (some (p, S)) = (S.length : Int) from rfl] at c6
                  have hpS := HN2.out.pos k p S hd
                  have z3 : decide (0 < S.length) = true := by simp; omega
                  have z3' : decide ((0 : Int) < (S.length : Int)) = true := by simp; omega
                  have HDT := hide (bdetach_any HN2.out.k (k : Int))
                  have hlk : lookP D2 pw0 (k : Int) = 0 := lookP_at rfl hd
                  have hbd : bdD D2 pw0 (k : Int) = D2.set k none := by unfold bdD; rw [if_pos hlk, Int.toNat_natCast]
                  rw [hlk, hbd] at HDT
                  have HROW := hide hrow
                  clear hd hpS hlk hbd hrow
                  go_wp2_with fail
                  refine HDT.out.mono ?_
                  rintro e w8 ⟨x, rfl, hx, hk8, ht8⟩
                  obtain rfl := hx.zero
                  have HG8 := hide (HN2.out.gone k hk8 ht8)
                  have hr8 : w8.ownsRow w.heap.size 3 1 (.slice (some ⟨g6, 0, none⟩) D2.length cap2) D2.length ((szs D2).map (Value.int .i64)) := ownsRow_of_block HROW.out (fun k o hv ho => by rw [ht8.block k (heap_lt ho) (HN2.out.out k hv)]; exact ho)
                  have c8 : w8.cell? ⟨g6, k, none⟩ = some (.int .i64 (S.length : Int)) := by rw [World.cell?_of_block (w := w9) (ht8.block g6 (cell_lt c6) (HN2.out.out g6 rfl))]; exact c6
                  have f8 := row_frozen' hr8 k
                  have HLE : Hid ((D2.set k none).length = D2.length) := by show _ = _; simp
                  clear hx hk8 ht8 HDT hr8 c6
                  go_wp2
                  go_roundg m
                  case measure => omega
                  case rel => exact ⟨j + 1, by omega, by go_num, _, _, HG8.out⟩
              · have z2 : decide (k < D2.length) = false := by simpa using hkl
                clear hkl
                go_wp2
                go_roundg m
                case measure => omega
                case rel => exact ⟨j + 1, by omega, by go_num, _, _, HN2.out⟩
            · have z1 : decide (0 ≤ dd) = false := by simpa using hd0
              clear hd0
              go_wp2
              go_roundg m
              case measure => omega
              case rel => exact ⟨j + 1, by omega, by go_num, _, _, HN2.out⟩
          · have e3 : decide ((8 : Int) ≤ (D.length : Int)) = false := by simp; omega
            have e3n : decide (8 ≤ D.length) = false := by simpa using h8
            by_cases h1 : n < 1
            · have e4 : decide (n < 1) = true := by simpa using h1
              have HCA := hide (badd_any HAT.out.k n)
              have HE : Hid (addC D pw0 n = 20) := by show _ = _; unfold addC; rw [if_neg (by decide), if_neg h8, if_neg (by simp [newB]; omega)]
              clear h50 h8 h1
              go_wp2_with fail
              refine HCA.out.mono ?_
              rintro e w3 ⟨ht3, he⟩
              have he2 : ∃ u, e = .returned (.tuple #[.int .i64 0, u]) ∧ FErr w3 u (addC D pw0 n) "add".toUTF8 (D.length : Int) 0 ∧ Bk w3 (ext F wr w3) b D pw0 := by
                rcases he with ⟨-, h⟩ | ⟨hc, -⟩
                · exact h
                · exact absurd hc (by rw [HE.out]; decide)
              obtain ⟨u, rfl, hu, hbk3⟩ := he2
              clear he
              rw [HE.out] at hu
              have h3 := HAT.out.same hbk3 ht3
              have HTD := hide (told_any hu (HLD.out.below h3.bel))
              have HN3 := hide h3
              obtain ⟨fb, rfl, -⟩ := hu.at_ (by decide)
              clear hu hbk3 ht3 h3 HCA
              go_wp2_with fail
              refine HTD.out.mono ?_
              rintro e w9 ⟨rfl, hb9⟩
              obtain ⟨F2, D2, ao2, cap2, hN2, hD2⟩ : ∃ F2 D2 ao2 cap2, NumAt w w9 F2 b D2 (.slice ao2 D2.length cap2) ∧ (D2 = D ∧ ao2 = aov ∧ cap2 = capv) := ⟨_, _, _, _, HN3.out.below hb9, rfl, rfl, rfl⟩
              obtain ⟨rfl, rfl, rfl⟩ := hD2
              have HN2 := hide hN2
              clear hN2 hb9 HTD HN3 HAT
              have cg : w9.cell? ⟨gG, oG + j, none⟩ = some (.int .i64 dd) := by rw [HN2.out.bel.cell (cell_lt HGC.out)]; exact HGC.out
              have HD28 := hide HN2.out.k.few
              by_cases hd0 : 0 ≤ dd
              · obtain ⟨k, rfl⟩ : ∃ k : Nat, dd = (k : Int) := ⟨dd.toNat, by omega⟩
                have z1 : decide ((0 : Int) ≤ (k : Int)) = true := by simp
                clear hd0
                by_cases hkl : k < D2.length
                · have z2 : decide (k < D2.length) = true := by simpa using hkl
                  have z2' : (k : Int) < (D2.length : Int) := by omega
                  obtain ⟨d, hd⟩ : ∃ d, D2[k]? = some d := ⟨D2[k], by simp⟩
                  obtain ⟨g6, cap6, cur6, hv6, -⟩ := ownsRow_pos HN2.out.row (by rw [szs_length]; omega)
                  simp only [szs_length, Value.slice.injEq, true_and] at hv6
                  obtain ⟨rfl, rfl⟩ := hv6
                  have hrow := HN2.out.row
                  rw [szs_length] at hrow
                  have c6 : w9.cell? ⟨g6, k, none⟩ = some (.int .i64 (sizeOf d)) := row_cell hrow (j := k) (by simp [szs, hd])
                  clear hkl
                  cases d with
                  | none =>
                    rw [show sizeOf none = 0 from rfl] at c6
                    clear hd hrow
                    go_wp2
                    go_roundg m
                    case measure => omega
                    case rel => exact ⟨j + 1, by omega, by go_num, _, _, HN2.out⟩
                  | some d =>
                    obtain ⟨p, S⟩ := d
                    rw [show sizeOf (some (p, S)) = (S.length : Int) from rfl] at c6
                    have hpS := HN2.out.pos k p S hd
                    have z3 : decide (0 < S.length) = true := by simp; omega
                    have z3' : decide ((0 : Int) < (S.length : Int)) = true := by simp; omega
                    have HDT := hide (bdetach_any HN2.out.k (k : Int))
                    have hlk : lookP D2 pw0 (k : Int) = 0 := lookP_at rfl hd
                    have hbd : bdD D2 pw0 (k : Int) = D2.set k none := by unfold bdD; rw [if_pos hlk, Int.toNat_natCast]
                    rw [hlk, hbd] at HDT
                    have HROW := hide hrow
                    clear hd hpS hlk hbd hrow
                    go_wp2_with fail
                    refine HDT.out.mono ?_
                    rintro e w8 ⟨x, rfl, hx, hk8, ht8⟩
                    obtain rfl := hx.zero
                    have HG8 := hide (HN2.out.gone k hk8 ht8)
                    have hr8 : w8.ownsRow w.heap.size 3 1 (.slice (some ⟨g6, 0, none⟩) D2.length cap2) D2.length ((szs D2).map (Value.int .i64)) := ownsRow_of_block HROW.out (fun k o hv ho => by rw [ht8.block k (heap_lt ho) (HN2.out.out k hv)]; exact ho)
                    have c8 : w8.cell? ⟨g6, k, none⟩ = some (.int .i64 (S.length : Int)) := by rw [World.cell?_of_block (w := w9) (ht8.block g6 (cell_lt c6) (HN2.out.out g6 rfl))]; exact c6
                    have f8 := row_frozen' hr8 k
                    have HLE : Hid ((D2.set k none).length = D2.length) := by show _ = _; simp
                    clear hx hk8 ht8 HDT hr8 c6
                    go_wp2
                    go_roundg m
                    case measure => omega
                    case rel => exact ⟨j + 1, by omega, by go_num, _, _, HG8.out⟩
                · have z2 : decide (k < D2.length) = false := by simpa using hkl
                  clear hkl
                  go_wp2
                  go_roundg m
                  case measure => omega
                  case rel => exact ⟨j + 1, by omega, by go_num, _, _, HN2.out⟩
              · have z1 : decide (0 ≤ dd) = false := by simpa using hd0
                clear hd0
                go_wp2
                go_roundg m
                case measure => omega
                case rel => exact ⟨j + 1, by omega, by go_num, _, _, HN2.out⟩
            · have e4 : decide (n < 1) = false := by simpa using h1
              have e5 : decide ((4096 : Int) < n) = false := by simp; omega
              have e6 : ((D.length : Int) != (D.length : Int)) = false := by simp
              have HCA := hide (badd_any HAT.out.k n)
              have HE : Hid (addC D pw0 n = 0) := by show _ = _; unfold addC; rw [if_neg (by decide), if_neg (by omega), if_pos (by simp [newB]; omega)]
              obtain ⟨nn, rfl⟩ : ∃ nn : Nat, n = (nn : Int) := ⟨n.toNat, by omega⟩
              have HNN : Hid (1 ≤ nn ∧ nn ≤ 4096) := by show _ ∧ _; omega
              have HDL : Hid (D.length < 8) := by show _ < _; omega
              clear h50 h8 h1
              go_wp2_with fail
              refine HCA.out.mono ?_
              rintro e w3 ⟨ht3, he⟩
              rcases he with ⟨hc, -⟩ | ⟨-, rfl, p, hbk3⟩
              · exact absurd HE.out hc
              rw [Int.toNat_natCast] at hbk3
              have h3 := HAT.out.row
              have hr3 : w3.ownsRow w.heap.size 3 1 (.slice aov D.length capv) (szs D).length ((szs D).map (Value.int .i64)) := ownsRow_of_block h3 (fun k o hv ho => by rw [ht3.block k (heap_lt ho) (HAT.out.out k hv)]; exact ho)
              obtain ⟨v9, w9, hrun, hrow9, ht9, hown9, ⟨ao9, n9, cap9, rfl⟩⟩ := append_intF hr3 (Nat.le_trans HAT.out.bel.size ht3.size) (nn : Int) (by rw [szs_length]; have := HDL.out; omega)
              have h9 := HAT.out.add HNN.out hbk3 ht3 ht9 hrow9 hown9
              have hn9 : n9 = (D ++ [some (p, fresh nn)]).length := by obtain ⟨a', c', e⟩ := ownsRow_form h9.row; rw [szs_length] at e; cases e; rfl
              subst hn9
              obtain ⟨F2, D2, ao2, cap2, hN2, hD2⟩ : ∃ F2 D2 ao2 cap2, NumAt w w9 F2 b D2 (.slice ao2 D2.length cap2) ∧ (D2 = D ++ [some (p, fresh nn)] ∧ ao2 = ao9 ∧ cap2 = cap9) := ⟨_, _, _, _, h9, rfl, rfl, rfl⟩
              obtain ⟨hD2, rfl, rfl⟩ := hD2
              rw [← hD2] at hrun
              have HN2 := hide hN2
              clear hN2 h9 hbk3 ht3 h3 hr3 hrow9 ht9 hown9 HCA HAT hD2
              have cg : w9.cell? ⟨gG, oG + j, none⟩ = some (.int .i64 dd) := by rw [HN2.out.bel.cell (cell_lt HGC.out)]; exact HGC.out
              have HD28 := hide HN2.out.k.few
              by_cases hd0 : 0 ≤ dd
              · obtain ⟨k, rfl⟩ : ∃ k : Nat, dd = (k : Int) := ⟨dd.toNat, by omega⟩
                have z1 : decide ((0 : Int) ≤ (k : Int)) = true := by simp
                clear hd0
                by_cases hkl : k < D2.length
                · have z2 : decide (k < D2.length) = true := by simpa using hkl
                  have z2' : (k : Int) < (D2.length : Int) := by omega
                  obtain ⟨d, hd⟩ : ∃ d, D2[k]? = some d := ⟨D2[k], by simp⟩
                  obtain ⟨g6, cap6, cur6, hv6, -⟩ := ownsRow_pos HN2.out.row (by rw [szs_length]; omega)
                  simp only [szs_length, Value.slice.injEq, true_and] at hv6
                  obtain ⟨rfl, rfl⟩ := hv6
                  have hrow := HN2.out.row
                  rw [szs_length] at hrow
                  have c6 : w9.cell? ⟨g6, k, none⟩ = some (.int .i64 (sizeOf d)) := row_cell hrow (j := k) (by simp [szs, hd])
                  clear hkl
                  cases d with
                  | none =>
                    rw [show sizeOf none = 0 from rfl] at c6
                    clear hd hrow
                    go_wp2_with (first | ((with_reducible refine wpList_appendI rfl rfl hrun ?_ ?_ ?_ ?_); rfl; rfl; rfl))
                    go_roundg m
                    case measure => omega
                    case rel => exact ⟨j + 1, by omega, by go_num, _, _, HN2.out⟩
                  | some d =>
                    obtain ⟨p, S⟩ := d
                    rw [show sizeOf (some (p, S)) = (S.length : Int) from rfl] at c6
                    have hpS := HN2.out.pos k p S hd
                    have z3 : decide (0 < S.length) = true := by simp; omega
                    have z3' : decide ((0 : Int) < (S.length : Int)) = true := by simp; omega
                    have HDT := hide (bdetach_any HN2.out.k (k : Int))
                    have hlk : lookP D2 pw0 (k : Int) = 0 := lookP_at rfl hd
                    have hbd : bdD D2 pw0 (k : Int) = D2.set k none := by unfold bdD; rw [if_pos hlk, Int.toNat_natCast]
                    rw [hlk, hbd] at HDT
                    have HROW := hide hrow
                    clear hd hpS hlk hbd hrow
                    go_wp2_with (first | ((with_reducible refine wpList_appendI rfl rfl hrun ?_ ?_ ?_ ?_); rfl; rfl; rfl))
                    refine HDT.out.mono ?_
                    rintro e w8 ⟨x, rfl, hx, hk8, ht8⟩
                    obtain rfl := hx.zero
                    have HG8 := hide (HN2.out.gone k hk8 ht8)
                    have hr8 : w8.ownsRow w.heap.size 3 1 (.slice (some ⟨g6, 0, none⟩) D2.length cap2) D2.length ((szs D2).map (Value.int .i64)) := ownsRow_of_block HROW.out (fun k o hv ho => by rw [ht8.block k (heap_lt ho) (HN2.out.out k hv)]; exact ho)
                    have c8 : w8.cell? ⟨g6, k, none⟩ = some (.int .i64 (S.length : Int)) := by rw [World.cell?_of_block (w := w9) (ht8.block g6 (cell_lt c6) (HN2.out.out g6 rfl))]; exact c6
                    have f8 := row_frozen' hr8 k
                    have HLE : Hid ((D2.set k none).length = D2.length) := by show _ = _; simp
                    clear hx hk8 ht8 HDT hr8 c6
                    go_wp2
                    go_roundg m
                    case measure => omega
                    case rel => exact ⟨j + 1, by omega, by go_num, _, _, HG8.out⟩
                · have z2 : decide (k < D2.length) = false := by simpa using hkl
                  clear hkl
                  go_wp2_with (first | ((with_reducible refine wpList_appendI rfl rfl hrun ?_ ?_ ?_ ?_); rfl; rfl; rfl))
                  go_roundg m
                  case measure => omega
                  case rel => exact ⟨j + 1, by omega, by go_num, _, _, HN2.out⟩
              · have z1 : decide (0 ≤ dd) = false := by simpa using hd0
                clear hd0
                go_wp2_with (first | ((with_reducible refine wpList_appendI rfl rfl hrun ?_ ?_ ?_ ?_); rfl; rfl; rfl))
                go_roundg m
                case measure => omega
                case rel => exact ⟨j + 1, by omega, by go_num, _, _, HN2.out⟩
      | zero =>
        have hend : ¬ (j : Int) < (ss.length : Int) := by omega
        have HAT := hide hat
        have HSZ := hide (sizes_any hat.k)
        have hne : ((D.length : Int) != (D.length : Int)) = false := by simp
        clear hat hj
        go_wp2_with fail
        refine HSZ.out.mono ?_
        rintro e w3 ⟨v2, rfl, hv2, hb3⟩
        have HV2 := hide hv2
        have HN3 := hide (HAT.out.below hb3)
        obtain ⟨ao2, cap2, rfl⟩ := ownsRow_form hv2
        clear hv2 hb3 HSZ HAT
        go_wp2_with fail
        go_loopg [123] D.length (fun gk i wr => ∃ q, q + gk = D.length ∧ i = .int .i64 (q : Int) ∧ Below w3.heap.size w3 wr)
        case atStart => exact ⟨0, by omega, rfl, Below.refl _ _⟩
        case round =>
          obtain ⟨q, hq, rfl, hbw⟩ := hrel
          have HBW := hide hbw
          cases gk with
          | succ m =>
            have hql : q < D.length := by omega
            have hlt : (q : Int) < (D.length : Int) := by omega
            have hqq : (q : Int) + 1 < 10 := by omega
            obtain ⟨d, hd⟩ : ∃ d, D[q]? = some d := ⟨D[q], by simp⟩
            have hrow := HN3.out.row
            rw [szs_length] at hrow
            obtain ⟨gA, capA, curA, hvA, -⟩ := ownsRow_pos HV2.out (by omega)
            obtain ⟨gB, capB, curB, hvB, -⟩ := ownsRow_pos hrow (by omega)
            simp only [Value.slice.injEq, true_and] at hvA hvB
            obtain ⟨rfl, rfl⟩ := hvA
            obtain ⟨rfl, rfl⟩ := hvB
            have cA : w3.cell? ⟨gA, q, none⟩ = some (.int .i64 (sizeOf d)) := row_cell HV2.out (j := q) (by simp [hd])
            have cB : w3.cell? ⟨gB, q, none⟩ = some (.int .i64 (sizeOf d)) := row_cell hrow (j := q) (by simp [szs, hd])
            have HS0 : Hid (wr.drew.cell? ⟨gA, q, none⟩ = some (.int .i64 (sizeOf d)) ∧ wr.drew.cell? ⟨gB, q, none⟩ = some (.int .i64 (sizeOf d))) := ⟨by show wr.cell? _ = _; rw [hbw.cell (cell_lt cA)]; exact cA, by show wr.cell? _ = _; rw [hbw.cell (cell_lt cB)]; exact cB⟩
            have HQL := hide hql
            clear hd hrow cA cB hbw hql
            generalize sizeOf d = z at HS0
            go_wp2_with fail
            refine wp_region_held_drew (S := fun wx => wx.cell? ⟨gA, q, none⟩ = some (.int .i64 z) ∧ wx.cell? ⟨gB, q, none⟩ = some (.int .i64 z)) (by kernel_rfl) HS0.out (fun hS => ?_)
            refine take_run 0 (some 126) (.slice (some ⟨gA, 0, none⟩) D.length cap2) rfl rfl rfl (by kernel_rfl) (by kernel_rfl) (by kernel_rfl) (fun _ _ _ h => h) (fun wx hx => exec_move rfl rfl) hS ?_
            simp only [Act.put, List.setIfInBounds_toArray, List.set_cons_zero, List.set_cons_succ]
            refine take_run 1 (some 127) (.int .i64 (q : Int)) rfl rfl rfl (by kernel_rfl) (by kernel_rfl) (by kernel_rfl) (fun _ _ _ h => h) (fun wx hx => exec_move rfl rfl) hS ?_
            simp only [Act.put, List.setIfInBounds_toArray, List.set_cons_zero, List.set_cons_succ]
            refine take_run 2 (some 128) (.pointer (some ⟨gA, q, none⟩)) rfl rfl rfl (by kernel_rfl) (by kernel_rfl) (by kernel_rfl) (fun _ _ _ h => h) (fun wx hx => exec_index rfl (index_intsN HQL.out) rfl rfl) hS ?_
            simp only [Act.put, List.setIfInBounds_toArray, List.set_cons_zero, List.set_cons_succ]
            refine take_run 3 (some 129) (.int .i64 z) rfl rfl rfl (by kernel_rfl) (by kernel_rfl) (by kernel_rfl) (fun _ _ _ h => h) (fun wx hx => exec_load rfl (load_intN hx.1) rfl) hS ?_
            simp only [Act.put, List.setIfInBounds_toArray, List.set_cons_zero, List.set_cons_succ]
            refine take_run 4 (some 130) (.slice (some ⟨gB, 0, none⟩) D.length capv) rfl rfl rfl (by kernel_rfl) (by kernel_rfl) (by kernel_rfl) (fun _ _ _ h => h) (fun wx hx => exec_move rfl rfl) hS ?_
            simp only [Act.put, List.setIfInBounds_toArray, List.set_cons_zero, List.set_cons_succ]
            refine take_run 5 (some 131) (.int .i64 (q : Int)) rfl rfl rfl (by kernel_rfl) (by kernel_rfl) (by kernel_rfl) (fun _ _ _ h => h) (fun wx hx => exec_move rfl rfl) hS ?_
            simp only [Act.put, List.setIfInBounds_toArray, List.set_cons_zero, List.set_cons_succ]
            refine take_run 6 (some 132) (.pointer (some ⟨gB, q, none⟩)) rfl rfl rfl (by kernel_rfl) (by kernel_rfl) (by kernel_rfl) (fun _ _ _ h => h) (fun wx hx => exec_index rfl (index_intsN HQL.out) rfl rfl) hS ?_
            simp only [Act.put, List.setIfInBounds_toArray, List.set_cons_zero, List.set_cons_succ]
            refine take_run 7 (some 133) (.int .i64 z) rfl rfl rfl (by kernel_rfl) (by kernel_rfl) (by kernel_rfl) (fun _ _ _ h => h) (fun wx hx => exec_load rfl (load_intN hx.2) rfl) hS ?_
            simp only [Act.put, List.setIfInBounds_toArray, List.set_cons_zero, List.set_cons_succ]
            refine take_run 8 (some 134) (.bool false) rfl rfl rfl (by kernel_rfl) (by kernel_rfl) (by kernel_rfl) (fun _ _ _ h => h) (fun wx hx => exec_neqI rfl rfl rfl) hS ?_
            simp only [Act.put, List.setIfInBounds_toArray, List.set_cons_zero, List.set_cons_succ]
            refine wpAnyH_done (by kernel_rfl) ?_ _
            clear hS HS0
            go_wp2
            go_roundg m
            case measure => omega
            case rel => exact ⟨q + 1, by omega, by go_num, HBW.out.trans ((Below.refl wr.heap.size wr).drew.mono HBW.out.size)⟩
          | zero =>
            have hend2 : ¬ (q : Int) < (D.length : Int) := by omega
            have HBO := hide (HN3.out.bel.trans (hbw.mono HN3.out.bel.size))
            have HA := hide (awake_any wr)
            clear hq hbw
            go_wp2_with (go_at_call 5; refine HA.out.mono ?_; rintro e w' ⟨rfl, hb⟩; have HBB := hide (HBO.out.trans (hb.mono HBO.out.size)); clear hb)
            go_ret
            exact ⟨rfl, HBB.out⟩
end Go.Proofs.YtliboiajhhnajaaDoor
