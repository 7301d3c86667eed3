/- Contract of sameEvents at two lists that hold the same. Condition: both lie in memory. -/
import Derived.Test.YtigpgnjgmaoejaaGreatLay
namespace Go.Proofs.YtigpgnjgmaoejaaGreat
open Go.RowKit

set_option maxHeartbeats 1000000 in
theorem same_any (a b : Value) (X : List Ev) (w : World) (ha : Es w 0 a X) (hb : Es w 0 b X) (hX : X.length ≤ 100000) :
    Calls Tryz.prog 32 #[a, b] w fun e w' => e = .returned (.bool true) ∧ Fr No w w' := by
  obtain ⟨aa, ca, rfl, _⟩ := own_form ha
  obtain ⟨ab, cb, rfl, _⟩ := own_form hb
  have HA := hide (And.intro ha hb)
  clear ha hb
  go_enter Tryz.func32, Tryz.ntmps32
  go_wp2
  go_loopw [5] (fun i wr => ∃ k : Nat, ∃ m, k ≤ X.length ∧ i = .int .i64 k ∧ wr = w.drewN m) (fun i _ => X.length - (intOf i).toNat)
  case atStart => exact ⟨0, 0, Nat.zero_le _, rfl, rfl⟩
  case round =>
    obtain ⟨k, m, hk, rfl, rfl⟩ := hrel
    by_cases hlt : k < X.length
    · obtain ⟨g, rfl, hg, _, h0, h1, h2, h3, h4, h5, _⟩ := es_at (unhide HA).1 k hlt
      obtain ⟨g', rfl, hg', _, i0, i1, i2, i3, i4, i5, _⟩ := es_at (unhide HA).2 k hlt
      generalize X[k] = x at *
      obtain ⟨x0, x1, x2, x3, x4, x5⟩ := x
      simp only at *
      go_wp2
      go_quiet (fail)
      go_wp2
      go_roundw
      case rel => exact ⟨k + 1, m + nq, by omega, by go_num, rfl⟩
      case measure => simp [intOf]; omega
    · go_wp2
      go_ret
      exact ⟨rfl, (Fr.refl _ _).drewN _⟩
end Go.Proofs.YtigpgnjgmaoejaaGreat
