/- Clone; the law's 'spans'. -/
import Derived.Test.YtjofbehmhdjohaaCf
import Derived.Lib.SliceRun
namespace Go.Proofs.Ytjofbehmhdjohaa
open Go.RowKit Go.Extern

theorem wpList_append_eq {P : Program} {w w' : World} {ops : Array Oper} {rest : List Oper} {o : Oper} {a : Act} {Q : Exit → Act → World → Prop} {v sv xv : Value} {t : TypeId} (hg : o.guard = none) (s x : Operand)
    (hop : o.op = Op.call { callee := Callee.builtin Builtin.append, args := #[s, x], argTypes := #[t, t] }) (hs : a.eval s = sv) (hx : a.eval x = xv) (hrun : (Builtin.append_ #[t, t] o.type #[sv, xv]).run P w = .ok v w')
    (hK : wpList P ops Q rest (a.put o.dst v) w') : wpList P ops Q (o :: rest) a w := by
  refine wpList_plain hg fun K hK' => ?_
  unfold Oper.wp
  simp [execOp, hop, resolve, invoke, builtin, hs, hx, hrun, Result.andThen]
  exact hK' _ _ hK
theorem infoS : (Try.prog.info? 24).map (fun i => (i.zero, i.size, i.bytes)) = some (some (.agg #[.int .i64 0, .int .i64 0, .int .i64 0, .bool false]), 4, 32) := by kernel_rfl
theorem append_s {w : World} {base : Nat} {v : Value} {l : List S} (ty : TypeId) (hown : OwnK enS 4 24 w base v l) {m : List S} {ad : Addr} {cap : Nat} (hs : SrcK w ad (cellsOf enS m)) (hn : l.length + m.length ≤ 1000) (hbase : base ≤ w.heap.size) :
    ∃ v' w', (Builtin.append_ #[35, 35] ty #[v, .slice (some ad) m.length cap]).run Try.prog w = .ok v' w' ∧ GrewK enS 4 24 w v base w' v' (l ++ m) := by
  obtain ⟨i0, hi, hi2⟩ := Option.map_eq_some_iff.1 infoS
  simp only [Prod.mk.injEq] at hi2
  exact append_k Try.underlying35 hi hi2.1 hi2.2.1 hi2.2.2 rfl (by omega) (by omega) enS_len enS_one hown hs hn hbase
/-- What Clone leaves. -/
def Clond (w : World) (l : List S) (e : Ending) (w' : World) : Prop := ∃ v, e = .returned v ∧ Sps w' (fun k => w.heap.size ≤ k) v l ∧ Below w.heap.size w w'

set_option maxRecDepth 100000 in
set_option maxHeartbeats 1000000 in
theorem clone_any {w : World} {Z : Nat → Prop} {v : Value} {l : List S} (hv : Sps w Z v l) (hl : l.length ≤ 1000) : Calls Try.prog 33 #[v] w (Clond w l) := by
  have HOK := hide hv.ok
  rcases hv.src with ⟨ad, cap, rfl, hs⟩ | ⟨rfl, rfl⟩
  · have hA := bel_alloc w (.cells #[] 24)
    obtain ⟨v', w', hap, hg⟩ := append_s 35 (OwnK.empty 24 w w.heap.size (Nat.le_refl _)) (hs.below hA) (cap := cap) (by simpa using hl) (by simp)
    rw [List.nil_append] at hg
    have HB := hide (hA.trans (hg.below (B := w.heap.size) (by simp) (fun k hk => by simp [Value.ownBlock] at hk; omega)))
    have HG := hide hg
    obtain ⟨a2, n2, c2, rfl, -⟩ := hg.own.form
    obtain ⟨n, hn⟩ : ∃ n, l.length = n := ⟨_, rfl⟩
    rw [hn] at hap ⊢
    have q1 := Lib.run_eql_slice_nil (P := Try.prog) w 35 24 (some ad) n cap 0 0 Try.underlying35
    clear hv hs hA hg hl hn
    go_enter Try.func33, Try.ntmps33
    go_wp2_with (at_builtin; refine wpList_append_eq rfl _ _ rfl rfl rfl hap ?_)
    go_ret
    exact ⟨_, rfl, (HG.out.own.sps HOK.out).mono (fun k hk he => (HG.out.own.lt k he).1), HB.out⟩
  · have q1 := Lib.run_eql_slice_nil (P := Try.prog) w 35 24 none 0 0 0 0 Try.underlying35
    clear hv hl
    go_enter Try.func33, Try.ntmps33
    go_wp2
    go_ret
    exact ⟨_, rfl, Sps.nil _ _, Below.refl _ _⟩

/-- What 'spans' leaves. -/
def Spand (w : World) (l : List S) (e : Ending) (w' : World) : Prop := ∃ v, e = .returned v ∧ OwnK enS 4 24 w' w.heap.size v l ∧ Below w.heap.size w w'
set_option maxRecDepth 100000 in
set_option maxHeartbeats 2000000 in
theorem spans_any {w : World} {Z : Nat → Prop} {v : Value} {l : List S} (hv : Sps w Z v l) (hl : l.length ≤ 900) : Calls Try.prog 13 #[v] w (Spand w l) := by
  obtain ⟨ao, cap, g, off, rfl, h2, h3, -, h5, -⟩ := hv
  have H2 := hide h2
  have H3 := hide h3
  obtain ⟨n, hn⟩ : ∃ n, l.length = n := ⟨_, rfl⟩
  rw [hn] at h5 hl ⊢
  have HN := hide hn
  clear h2 h3 hn
  go_enter Try.func13, Try.ntmps13
  go_wp2_with fail
  go_loopg [8, 3] n (fun k i o wr => ∃ j : Nat, j + k = n ∧ i = .int .i64 (j : Int) ∧ Hid (OwnK enS 4 24 wr w.heap.size o (l.take j)) ∧ Hid (Below w.heap.size w wr))
  case atStart => exact ⟨0, by omega, rfl, hide (OwnK.nil _ _ _), hide (Below.refl _ _)⟩
  case round =>
    obtain ⟨j, hj, rfl, HA, HB⟩ := hrel
    cases gk with
    | zero =>
      have hnl : ¬ (j : Int) < (n : Int) := by omega
      have hend : l.take j = l := List.take_of_length_le (by rw [HN.out]; omega)
      rw [hend] at HA
      obtain ⟨a2, n2, c2, rfl, -⟩ := HA.out.form
      clear hend
      go_wp2_with fail
      go_ret
      exact ⟨_, rfl, HA.out, HB.out⟩
    | succ m =>
      have hlt : (j : Int) < (n : Int) := by omega
      have hb0 : (0 : Int) ≤ (j : Int) := by omega
      obtain ⟨p, he⟩ : ∃ e, l[j]? = some e := ⟨l[j]'(by rw [HN.out]; omega), by rw [List.getElem?_eq_getElem]⟩
      obtain rfl := (H2.out (by rw [HN.out]; omega)).1
      obtain ⟨k0, k1, k2, k3⟩ := H3.out j p he
      have HT := hide (take_snoc he)
      replace k0 := cell_bel HB.out k0
      replace k1 := cell_bel HB.out k1
      replace k2 := cell_bel HB.out k2
      replace k3 := cell_bel HB.out k3
      have hj63 : (j : Int) + 1 < 140737488355328 + 1 := by omega
      have hA := bel_alloc wr (.cells #[.int .i64 p.vol, .int .i64 p.frm, .int .i64 p.len, .bool p.wr] 23)
      have hA2 := bel_alloc (wr.alloc (.cells #[.int .i64 p.vol, .int .i64 p.frm, .int .i64 p.len, .bool p.wr] 23)) (.cells #[.int .i64 p.vol, .int .i64 p.frm, .int .i64 p.len, .bool p.wr] 24)
      have hsz : w.heap.size ≤ wr.heap.size := HB.out.size
      obtain ⟨v', w', hap, hg⟩ := append_s (m := [p]) (cap := 1) 35 (HA.out.below (nextB hA hA2)) (by have := lit_src (wr.alloc (.cells #[.int .i64 p.vol, .int .i64 p.frm, .int .i64 p.len, .bool p.wr] 23)) 24 (enS p); simpa [cellsOf, enS] using this) (by simp; omega) (by simp; omega)
      have HG := hide hg
      have HBW := hide ((HB.out.trans ((nextB hA hA2).mono hsz)).trans (hg.below (B := w.heap.size) (by simp; omega) (fun k hk => (HA.out.lt k hk).1)))
      have hx := HA.out.form
      obtain ⟨a1, n1, c1, rfl, -⟩ := hx
      obtain ⟨a2, n2, c2, rfl, -⟩ := hg.own.form
      have hap2 : (Builtin.append_ #[35, 35] 35 #[.slice a1 n1 c1, .slice (some ⟨wr.heap.size + 1, 0, none⟩) 1 1]).run Try.prog ((wr.alloc (.cells #[.int .i64 p.vol, .int .i64 p.frm, .int .i64 p.len, .bool p.wr] 23)).alloc (.cells #[.int .i64 p.vol, .int .i64 p.frm, .int .i64 p.len, .bool p.wr] 24)) = .ok (.slice a2 n2 c2) w' := hap
      clear he hA hA2 hg hsz hap
      go_wp2_with (at_builtin; refine wpList_append_eq rfl _ _ rfl rfl rfl hap2 ?_)
      go_roundg m
      case measure => omega
      case rel => exact ⟨j + 1, by omega, by simp, hide (by rw [HT.out]; exact HG.out.own), HBW⟩
end Go.Proofs.Ytjofbehmhdjohaa
