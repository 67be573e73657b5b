/- The statements' own chain of faults, made from a list of links, by its contract. -/
import Derived.Test.YtijphfgefnpepaaDoorWalks
import Derived.Deep.RegionHeld3
namespace Go.Proofs.YtijphfgefnpepaaDoor
open Go.RowKit Go.Extern.Stop Go.Stop Go.Extern

/-- The value 'v' is, in the world 'w', a slice of the links 'ls'. -/
def Links (w : World) (v : Value) (ls : List Lk) : Prop :=
  ∃ ao cap b off, v = .slice ao ls.length cap ∧ (0 < ls.length → ao = some ⟨b, off, none⟩) ∧
    ∀ i k, ls[i]? = some k → w.cell? ⟨b, off + i * 3, none⟩ = some (.string k.op) ∧ w.cell? ⟨b, off + i * 3 + 1, none⟩ = some (.int .i64 k.dev) ∧ w.cell? ⟨b, off + i * 3 + 2, none⟩ = some (.int .i64 k.pl)

theorem Links.below {w w' : World} (hb : Below w.heap.size w w') {v : Value} {ls : List Lk} (h : Links w v ls) : Links w' v ls := by
  obtain ⟨ao, cap, b, off, h1, h2, h3⟩ := h
  refine ⟨ao, cap, b, off, h1, h2, fun i k hk => ?_⟩
  obtain ⟨g1, g2, g3⟩ := h3 i k hk
  exact ⟨by rw [hb.cell (cell_lt g1)]; exact g1, by rw [hb.cell (cell_lt g2)]; exact g2, by rw [hb.cell (cell_lt g3)]; exact g3⟩

theorem chain_step {ls : List Lk} {m : Nat} {kk : Lk} {c : Int} {T : TypeId} {x : Value} {w : World} (hk : ls[m]? = some kk) (hc : Chain w (ls.drop (m + 1)) c (.iface T x)) :
    Chain (w.alloc (.cells #[.string kk.op, .int .i64 kk.dev, .int .i64 kk.pl, .iface T x] 50)).drew (ls.drop m) c (.iface 48 (.pointer (some ⟨w.heap.size, 0, none⟩))) := by
  have hd : ls.drop m = kk :: ls.drop (m + 1) := by
    obtain ⟨hm, rfl⟩ := List.getElem?_eq_some_iff.1 hk
    exact List.drop_eq_getElem_cons hm
  rw [hd]
  exact ⟨w.heap.size, .iface T x, rfl, by simp, by simp, by simp, by simp, Chain.below ((Below.refl _ _).alloc (Nat.le_refl _) _).drew _ _ _ hc⟩

set_option maxHeartbeats 1000000 in
theorem chain_any (ls : List Lk) (v : Value) (c : Int) (w : World) (hv : Links w v ls) (hl : ls.length ≤ 1000) :
    Calls Tryd.prog 10 #[v, .int .i64 c] w fun ev w' => ∃ e, ev = .returned e ∧ Chain w' ls c e ∧ Below w.heap.size w w' := by
  obtain ⟨ao, cap, b, off, rfl, h2, h3⟩ := hv
  have H2 := hide h2
  have H3 := hide h3
  clear h2 h3
  go_enter Tryd.func10, Tryd.ntmps10
  go_wp2
  go_loopg [5, 6] ls.length (fun k e i wr => k ≤ ls.length ∧ i = .int .i64 ((k : Int) - 1) ∧ Chain wr (ls.drop k) c e ∧ Below w.heap.size w wr)
  case atStart => exact ⟨Nat.le_refl _, rfl, by simp [Chain], Below.refl _ _⟩
  case round =>
    obtain ⟨hk, hi, hc, hb⟩ := hrel
    have HC := hide hc
    have HB := hide hb
    clear hc hb
    cases gk with
    | zero =>
      subst hi
      go_wp2
      go_ret
      exact ⟨_, rfl, HC.out, HB.out⟩
    | succ m =>
      have hi' : u6 = .int .i64 (m : Int) := by rw [hi]; congr 1; omega
      clear hi
      subst hi'
      have hm : m < ls.length := by omega
      obtain ⟨kk, hkk⟩ : ∃ kk, ls[m]? = some kk := ⟨ls[m], by simp [hm]⟩
      obtain ⟨g1, g2, g3⟩ := H3.out m kk hkk
      have HK := hide hkk
      clear hkk
      have k1 : wr.cell? ⟨b, off + m * 3, none⟩ = some (.string kk.op) := by rw [HB.out.cell (cell_lt g1)]; exact g1
      have k2 : wr.cell? ⟨b, off + m * 3 + 1, none⟩ = some (.int .i64 kk.dev) := by rw [HB.out.cell (cell_lt g2)]; exact g2
      have k3 : wr.cell? ⟨b, off + m * 3 + 2, none⟩ = some (.int .i64 kk.pl) := by rw [HB.out.cell (cell_lt g3)]; exact g3
      clear g1 g2 g3
      have hao : ao = some ⟨b, off, none⟩ := H2.out (by omega)
      subst hao
      have b1 : (0 : Int) ≤ (m : Int) := by omega
      have b2 : (m : Int) < (ls.length : Int) := by omega
      obtain ⟨T, x, hx⟩ := HC.out.form
      subst hx
      have n1 := World.new_ne wr _ k1
      have n2 := World.new_ne wr _ k2
      have n3 := World.new_ne wr _ k3
      go_wp2
      go_region_held3 (fun w' => w'.cell? ⟨b, off + m * 3, none⟩ = some (.string kk.op) ∧ w'.cell? ⟨b, off + m * 3 + 1, none⟩ = some (.int .i64 kk.dev) ∧ w'.cell? ⟨b, off + m * 3 + 2, none⟩ = some (.int .i64 kk.pl)) (go_keep)
        ((go_at_call 18; refine (wrap_any kk.op kk.dev kk.pl T x _).mono ?_; rintro e w' ⟨rfl, rfl⟩))
      all_goals go_wp2
      go_roundg m
      case measure => omega
      case rel => exact ⟨by omega, rfl, chain_step HK.out HC.out, (HB.out.alloc HB.out.size _).drew⟩

set_option maxHeartbeats 1000000 in
theorem awake_any (w : World) (hL : Laid w) : Calls Tryd.prog 9 #[] w fun ev w' => ev = .returned (.bool true) ∧ Below w.heap.size w w' := by
  have hc : Chain (w.alloc (.cells #[.string ⟨#[114, 101, 97, 100]⟩, .int .i64 1, .int .i64 7, .iface 27 (.int .i64 21)] 50)) [⟨⟨#[114, 101, 97, 100]⟩, 1, 7⟩] 21 (.iface 48 (.pointer (some ⟨w.heap.size, 0, none⟩))) :=
    ⟨w.heap.size, .iface 27 (.int .i64 21), rfl, by simp, by simp, by simp, by simp, rfl⟩
  have hb0 : Below w.heap.size w (w.alloc (.cells #[.string ⟨#[114, 101, 97, 100]⟩, .int .i64 1, .int .i64 7, .iface 27 (.int .i64 21)] 50)) := (Below.refl _ _).alloc (Nat.le_refl _) _
  have H1 := hide (is_any _ 21 21 _ _ hc)
  have H2 := hide (depth_any _ (Or.inr ⟨21, rfl⟩) _ _ _ (Chain.ch _ _ hc) (hL.below hb0) (by simp))
  have HL := hide hL
  have HB0 := hide hb0
  clear hc hb0 hL
  go_enter Tryd.func9, Tryd.ntmps9
  go_wp2_with (first
    | (go_at_call 18; refine (wrap_any _ _ _ _ _ _).mono ?_; rintro e w' ⟨rfl, rfl⟩)
    | (go_at_call 16; refine H1.out.mono ?_; rintro e w' ⟨rfl, rfl⟩)
    | (go_at_call 12; refine H2.out.mono ?_; rintro e w' ⟨rfl, hb2⟩))
  go_ret
  exact ⟨rfl, HB0.out.trans (hb2.mono HB0.out.size)⟩
end Go.Proofs.YtijphfgefnpepaaDoor
