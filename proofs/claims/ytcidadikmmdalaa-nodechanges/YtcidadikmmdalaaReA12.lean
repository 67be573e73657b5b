/- Replace. -/
import Derived.Test.YtcidadikmmdalaaRe0
namespace Go.Proofs.Ytcidadikmmdalaa
open Go.RowKit Go.Extern

set_option maxRecDepth 100000 in
set_option maxHeartbeats 1000000 in
theorem replace_A12 {w : World} {g n : Nat} {l : List En} (hr : RowE w g l) (hl : l.length = n) (hn : n ≤ 200) (hok : ∀ p ∈ l, enOk p) {i j : Nat} (hj : i + 1 = j) (hjn0 : j = n) {c : Nat} (hc1 : 1 ≤ c) (hc2 : c ≤ 2) {a : Addr} {cv : Nat} {ms : List En} (hs : SrcE w a ms) (hc : ms.length = c) (hcv : c ≤ cv) (hcm : cv ≤ maxLen) (hmo : ∀ p ∈ ms, enOk p) {B : Nat} (hB : B ≤ g) :
    Calls Try.prog 34 #[.slice (some ⟨g, 0, none⟩) n n, .int .i64 (i : Int), .int .i64 (j : Int), .slice (some a) c cv] w (Gave B w (l.take i ++ ms ++ l.drop j)) := by
  subst hjn0
  have hlt : (l.take i).length = i := by simp; omega
  have hii : ¬ ((i : Int) = (j : Int)) := by omega
  have hii2 : ¬ (i = j) := by omega
  have hle : (i : Int) ≤ (j : Int) := by omega
  have hjn : (j : Int) ≤ (j : Int) := by omega
  have hO := hr.ownP hB hok hl (by omega) (i := i) (by omega)
  have hX : Ents w (.slice (some a) c cv) ms := hs.ents hc (by omega) hcv hcm hmo
  obtain ⟨v', w', hap, hg⟩ := append_e w 47 B _ _ (l.take i) ms hO hX (by rw [hlt, hc]; omega) (by have := hr.lt; omega)
  have HG := hide hg
  have HBW : Hid (Below B w w') := hide (hg.below (by have := hr.lt; omega) (fun k hk => (hO.lt k hk).1))
  obtain ⟨a2, n2, c2, rfl, hn2⟩ := hg.own.form
  have hnn : ¬ (n2 : Int) < (j : Int) := by have := hn2.out; rw [List.length_append, hlt, hc] at this; omega
  have e3 : l.take i ++ ms ++ l.drop j = l.take i ++ ms := by rw [List.drop_of_length_le (by omega)]; simp
  rw [e3]
  clear hr hl hok hs hc hcv hcm hmo hO hX hg e3 hlt hj hn2
  go_enter Try.func34, Try.ntmps34
  go_wp2_with (at_builtin; refine wpList_append_eq rfl _ _ rfl rfl rfl hap ?_)
  go_ret
  exact ⟨_, rfl, HG.out.own.ents, HBW.out⟩
end Go.Proofs.Ytcidadikmmdalaa
