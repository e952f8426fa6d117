/- Builder.Add, whole: what it answers for every known Op. -/
import Derived.Test.YtlcmllmphpllbaaGreatDoorXk
import Derived.Test.YtlcmllmphpllbaaGreatDoorXjCommonYes
import Derived.Test.YtlcmllmphpllbaaGreatDoorXjCommonNo
import Derived.Test.YtlcmllmphpllbaaGreatDoorXjScaleYes
import Derived.Test.YtlcmllmphpllbaaGreatDoorXjTurnYes
import Derived.Test.YtlcmllmphpllbaaGreatDoorXjTimesYes
import Derived.Test.YtlcmllmphpllbaaGreatDoorXjTimesNo
import Derived.Test.YtlcmllmphpllbaaGreatDoorXjFillYes
import Derived.Test.YtlcmllmphpllbaaGreatDoorXjFillNo
import Derived.Test.YtlcmllmphpllbaaGreatDoorXjInkNo
import Derived.Test.YtlcmllmphpllbaaGreatDoorXjInsideNo
import Derived.Test.YtlcmllmphpllbaaGreatDoorXjInSame
import Derived.Test.YtlcmllmphpllbaaGreatDoorXjInUnlike
import Derived.Test.YtlcmllmphpllbaaGreatDoorXjInNew
namespace Go.Proofs.YtlcmllmphpllbaaGreatDoor
open Go.RowKit

theorem pair_bool (x : Int × Int) (r c : Int) : ((x.1 == r && x.2 == c) = true) ↔ x = (r, c) := by
  obtain ⟨a, b⟩ := x; simp
theorem ahead_parts {n : Nd} {L : Nat} (h : aheadAll n L = true) : (n.op = 6 ∨ n.op = 8 → 0 ≤ n.a ∧ n.a < L) ∧ (n.op = 3 ∨ n.op = 4 ∨ n.op = 5 ∨ n.op = 7 → (0 ≤ n.a ∧ n.a < L) ∧ (0 ≤ n.b ∧ n.b < L)) := by
  obtain ⟨op, a, b, k, r, c⟩ := n
  simp only
  constructor
  · rintro (rfl | rfl)
    · rw [ahead6] at h; simpa [aheadB] using h
    · rw [ahead8] at h; simpa [aheadB] using h
  · rintro (rfl | rfl | rfl | rfl)
    · rw [ahead3] at h; simpa [aheadB] using h
    · rw [ahead4] at h; simpa [aheadB] using h
    · rw [ahead5] at h; simpa [aheadB] using h
    · rw [ahead7] at h; simpa [aheadB] using h
theorem add_no (base bb : Nat) (n : Nd) (vo : Option Addr) (vc : Nat) (ns : List Nd) (ins : Nat → Int × Int) (w : World) (ho : knownP n.op) (hB : Bld w base bb (.slice vo ns.length vc) ns ins) (hL : ns.length ≤ 100) (h : addZ ns ins n = none) :
    Calls Tryz.prog 25 #[.pointer (some ⟨bb, 0, none⟩), .agg n.vals] w fun e w' => e = .returned (.bool false) ∧ Below w.heap.size w w' := by
  show Calls Tryz.prog _ #[_, .agg #[.int .i64 n.op, .int .i64 n.a, .int .i64 n.b, .int .i64 n.k, .int .i64 n.rows, .int .i64 n.cols]] w _
  cases hp : aheadAll n ns.length
  · exact add_noparts base bb n vo vc ns ins w ho hB hp
  have hab := ahead_parts hp
  simp only [addZ, hp, Bool.true_eq_false, if_false] at h
  rcases ho with e | e | e | e | e | e | e | e
  · by_cases hk : 0 ≤ n.k ∧ n.k < 8
    · cases hs : (sideB n.rows && sideB n.cols)
      · exact add_inside_no base bb n vo vc ns ins w (by omega) hB e hp ⟨hk, hs⟩
      · have hsh : shapeOpt ns n = some (n.rows, n.cols) := by simp only [shapeOpt, e, if_true, hk, hs, and_self]
        rw [hsh] at h
        simp only [e, if_true] at h
        have hs2 : sideB n.rows = true ∧ sideB n.cols = true := by simpa using hs
        by_cases hz : ins n.k.toNat = (0, 0)
        · rw [if_pos hz] at h; cases h
        · rw [if_neg hz] at h
          by_cases hq : ins n.k.toNat = (n.rows, n.cols)
          · rw [if_pos hq] at h; cases h
          · refine add_in_unlike base bb n vo vc ns ins w (by omega) hB hL e hk ?_ ?_ hp hs2
            · exact Bool.eq_false_iff.2 (fun x => hz ((pair_bool _ _ _).1 x))
            · exact Bool.eq_false_iff.2 (fun x => hq ((pair_bool _ _ _).1 x))
    · exact add_ink_no base bb n vo vc ns ins w (by omega) hB e hp (by omega)
  · cases hs : (sideB n.rows && sideB n.cols)
    · exact add_fill_no base bb n vo vc ns ins w (by omega) hB e hp hs
    · have hsh : shapeOpt ns n = some (n.rows, n.cols) := by simp only [shapeOpt, e, if_true, hs]; rfl
      rw [hsh] at h
      simp [e] at h
  · obtain ⟨ha, hb⟩ := hab.2 (by omega)
    cases hs : ((nth ns n.a).rows == (nth ns n.b).rows && (nth ns n.a).cols == (nth ns n.b).cols)
    · exact add_common_no base bb n vo vc ns ins w (by omega) hB (by omega) hp ha hb hs
    · have hsh : shapeOpt ns n = some ((nth ns n.a).rows, (nth ns n.a).cols) := by simp only [shapeOpt, e, if_true, hs]; rfl
      rw [hsh] at h
      simp [e] at h
  · obtain ⟨ha, hb⟩ := hab.2 (by omega)
    cases hs : ((nth ns n.a).rows == (nth ns n.b).rows && (nth ns n.a).cols == (nth ns n.b).cols)
    · exact add_common_no base bb n vo vc ns ins w (by omega) hB (by omega) hp ha hb hs
    · have hsh : shapeOpt ns n = some ((nth ns n.a).rows, (nth ns n.a).cols) := by simp only [shapeOpt, e, if_true, hs]; rfl
      rw [hsh] at h
      simp [e] at h
  · obtain ⟨ha, hb⟩ := hab.2 (by omega)
    cases hs : ((nth ns n.a).rows == (nth ns n.b).rows && (nth ns n.a).cols == (nth ns n.b).cols)
    · exact add_common_no base bb n vo vc ns ins w (by omega) hB (by omega) hp ha hb hs
    · have hsh : shapeOpt ns n = some ((nth ns n.a).rows, (nth ns n.a).cols) := by simp only [shapeOpt, e, if_true, hs]; rfl
      rw [hsh] at h
      simp [e] at h
  · have hsh : shapeOpt ns n = some ((nth ns n.a).rows, (nth ns n.a).cols) := by simp only [shapeOpt, e, if_true]; rfl
    rw [hsh] at h
    simp [e] at h
  · obtain ⟨ha, hb⟩ := hab.2 (by omega)
    cases hs : ((nth ns n.a).cols == (nth ns n.b).rows)
    · exact add_times_no base bb n vo vc ns ins w (by omega) hB e hp ha hb hs
    · have hsh : shapeOpt ns n = some ((nth ns n.a).rows, (nth ns n.b).cols) := by simp only [shapeOpt, e, if_true, hs]; rfl
      rw [hsh] at h
      simp [e] at h
  · have hsh : shapeOpt ns n = some ((nth ns n.a).cols, (nth ns n.a).rows) := by simp only [shapeOpt, e, if_true]; rfl
    rw [hsh] at h
    simp [e] at h
theorem add_yes (base bb : Nat) (n : Nd) (vo : Option Addr) (vc : Nat) (ns : List Nd) (ins : Nat → Int × Int) (w : World) (n' : Nd) (ins' : Nat → Int × Int) (ho : knownP n.op) (hB : Bld w base bb (.slice vo ns.length vc) ns ins) (hL : ns.length ≤ 100) (h : addZ ns ins n = some (n', ins')) :
    Calls Tryz.prog 25 #[.pointer (some ⟨bb, 0, none⟩), .agg n.vals] w fun e w' => e = .returned (.bool true) ∧ (∃ vo' vc', Bld w' base bb (.slice vo' (ns ++ [n']).length vc') (ns ++ [n']) ins') ∧ KeptBut bb (Value.slice vo ns.length vc).ownBlock w w' := by
  show Calls Tryz.prog _ #[_, .agg #[.int .i64 n.op, .int .i64 n.a, .int .i64 n.b, .int .i64 n.k, .int .i64 n.rows, .int .i64 n.cols]] w _
  cases hp : aheadAll n ns.length
  · simp [addZ, hp] at h
  have hab := ahead_parts hp
  simp only [addZ, hp, Bool.true_eq_false, if_false] at h
  rcases ho with e | e | e | e | e | e | e | e
  · by_cases hk : (0 ≤ n.k ∧ n.k < 8) ∧ (sideB n.rows && sideB n.cols) = true
    · have hsh : shapeOpt ns n = some (n.rows, n.cols) := by simp only [shapeOpt, e, if_true, if_pos hk]
      rw [hsh] at h
      simp only [e, if_true] at h
      have hs2 : sideB n.rows = true ∧ sideB n.cols = true := by simpa using hk.2
      by_cases hz : ins n.k.toNat = (0, 0)
      · rw [if_pos hz] at h
        simp only [Option.some.injEq, Prod.mk.injEq] at h
        obtain ⟨rfl, rfl⟩ := h
        have := add_in_new base bb n vo vc ns ins w (by omega) hB hL e hk.1 hz hp hs2
        rw [e] at this ⊢
        exact this
      · rw [if_neg hz] at h
        by_cases hq : ins n.k.toNat = (n.rows, n.cols)
        · rw [if_pos hq] at h
          simp only [Option.some.injEq, Prod.mk.injEq] at h
          obtain ⟨rfl, rfl⟩ := h
          have := add_in_same base bb n vo vc ns ins w (by omega) hB hL e hk.1 (Bool.eq_false_iff.2 (fun x => hz ((pair_bool _ _ _).1 x))) ((pair_bool _ _ _).2 hq) hp hs2
          rw [e] at this ⊢
          exact this
        · rw [if_neg hq] at h; cases h
    · have hsh : shapeOpt ns n = none := by simp only [shapeOpt, e, if_true, if_neg hk]
      rw [hsh] at h
      cases h
  · cases hs : (sideB n.rows && sideB n.cols)
    · have hsh : shapeOpt ns n = none := by simp only [shapeOpt, e, if_true, hs]; rfl
      rw [hsh] at h
      cases h
    · have hsh : shapeOpt ns n = some (n.rows, n.cols) := by simp only [shapeOpt, e, if_true, hs]; rfl
      rw [hsh] at h
      simp only [show ¬ n.op = 1 by omega, if_false, Option.some.injEq, Prod.mk.injEq] at h
      obtain ⟨rfl, rfl⟩ := h
      exact add_fill_yes base bb n vo vc ns ins w (by omega) hB hL e hp (by simpa using hs)
  · obtain ⟨ha, hb⟩ := hab.2 (by omega)
    cases hs : ((nth ns n.a).rows == (nth ns n.b).rows && (nth ns n.a).cols == (nth ns n.b).cols)
    · have hsh : shapeOpt ns n = none := by simp only [shapeOpt, e, hs]; rfl
      rw [hsh] at h
      cases h
    · have hsh : shapeOpt ns n = some ((nth ns n.a).rows, (nth ns n.a).cols) := by simp only [shapeOpt, e, if_true, hs]; rfl
      rw [hsh] at h
      simp only [show ¬ n.op = 1 by omega, if_false, Option.some.injEq, Prod.mk.injEq] at h
      obtain ⟨rfl, rfl⟩ := h
      exact add_common_yes base bb n vo vc ns ins w (by omega) hB hL (by omega) hp ha hb hs
  · obtain ⟨ha, hb⟩ := hab.2 (by omega)
    cases hs : ((nth ns n.a).rows == (nth ns n.b).rows && (nth ns n.a).cols == (nth ns n.b).cols)
    · have hsh : shapeOpt ns n = none := by simp only [shapeOpt, e, hs]; rfl
      rw [hsh] at h
      cases h
    · have hsh : shapeOpt ns n = some ((nth ns n.a).rows, (nth ns n.a).cols) := by simp only [shapeOpt, e, if_true, hs]; rfl
      rw [hsh] at h
      simp only [show ¬ n.op = 1 by omega, if_false, Option.some.injEq, Prod.mk.injEq] at h
      obtain ⟨rfl, rfl⟩ := h
      exact add_common_yes base bb n vo vc ns ins w (by omega) hB hL (by omega) hp ha hb hs
  · obtain ⟨ha, hb⟩ := hab.2 (by omega)
    cases hs : ((nth ns n.a).rows == (nth ns n.b).rows && (nth ns n.a).cols == (nth ns n.b).cols)
    · have hsh : shapeOpt ns n = none := by simp only [shapeOpt, e, hs]; rfl
      rw [hsh] at h
      cases h
    · have hsh : shapeOpt ns n = some ((nth ns n.a).rows, (nth ns n.a).cols) := by simp only [shapeOpt, e, if_true, hs]; rfl
      rw [hsh] at h
      simp only [show ¬ n.op = 1 by omega, if_false, Option.some.injEq, Prod.mk.injEq] at h
      obtain ⟨rfl, rfl⟩ := h
      exact add_common_yes base bb n vo vc ns ins w (by omega) hB hL (by omega) hp ha hb hs
  · have hsh : shapeOpt ns n = some ((nth ns n.a).rows, (nth ns n.a).cols) := by simp only [shapeOpt, e, if_true]; rfl
    rw [hsh] at h
    simp only [show ¬ n.op = 1 by omega, if_false, Option.some.injEq, Prod.mk.injEq] at h
    obtain ⟨rfl, rfl⟩ := h
    exact add_scale_yes base bb n vo vc ns ins w (by omega) hB hL e hp (hab.1 (by omega))
  · obtain ⟨ha, hb⟩ := hab.2 (by omega)
    cases hs : ((nth ns n.a).cols == (nth ns n.b).rows)
    · have hsh : shapeOpt ns n = none := by simp only [shapeOpt, e, if_true, hs]; rfl
      rw [hsh] at h
      cases h
    · have hsh : shapeOpt ns n = some ((nth ns n.a).rows, (nth ns n.b).cols) := by simp only [shapeOpt, e, if_true, hs]; rfl
      rw [hsh] at h
      simp only [show ¬ n.op = 1 by omega, if_false, Option.some.injEq, Prod.mk.injEq] at h
      obtain ⟨rfl, rfl⟩ := h
      exact add_times_yes base bb n vo vc ns ins w (by omega) hB hL e hp ha hb hs
  · have hsh : shapeOpt ns n = some ((nth ns n.a).cols, (nth ns n.a).rows) := by simp only [shapeOpt, e, if_true]; rfl
    rw [hsh] at h
    simp only [show ¬ n.op = 1 by omega, if_false, Option.some.injEq, Prod.mk.injEq] at h
    obtain ⟨rfl, rfl⟩ := h
    exact add_turn_yes base bb n vo vc ns ins w (by omega) hB hL e hp (hab.1 (by omega))
end Go.Proofs.YtlcmllmphpllbaaGreatDoor
