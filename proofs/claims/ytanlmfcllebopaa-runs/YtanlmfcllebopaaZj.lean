/- thriftlaw.sameInts, walked. -/
import Derived.Test.YtanlmfcllebopaaZa
namespace Go.Proofs.Ytanlmfcllebopaa
open Go.RowKit

set_option maxHeartbeats 1000000 in
theorem sameInts_refl (l : List Int) (ao bo : Option Addr) (ca cb : Nat) (w : World) (ha : Ints w ao l) (hb : Ints w bo l) (h1 : l.length * 8 ≤ 140737488351232) :
    Calls Try.prog 14 #[.slice ao l.length ca, .slice bo l.length cb] w fun e w' => e = .returned (.bool true) ∧ ∃ n, w' = w.drewN n := by
  go_enter Try.func14, Try.ntmps14
  go_wp2
  go_loopw [5] (fun i wr => ∃ k : Nat, k ≤ l.length ∧ i = .int .i64 k ∧ ∃ n, wr = w.drewN n) (fun i _ => l.length - (intOf i).toNat)
  case atStart => exact ⟨0, Nat.zero_le _, rfl, 0, rfl⟩
  case round =>
    obtain ⟨k, hk, rfl, n, rfl⟩ := hrel
    by_cases hlt : k < l.length
    · obtain ⟨b, off, rfl, hbs, c0⟩ := ha k hlt
      obtain ⟨b', off', rfl, hbs', d0⟩ := hb k hlt
      go_wp2
      go_quiet ((fail))
      go_wp2
      go_roundw
      case rel => exact ⟨k + 1, by omega, by go_num, _, rfl⟩
      case measure => simp [intOf]; omega
    · go_wp2
      go_ret
      exact ⟨rfl, n, rfl⟩
end Go.Proofs.Ytanlmfcllebopaa
