/- thriftref.Shape, thriftref.placed, walked. -/
import Derived.Test.YtlcmllmphpllbaaGreatDoorWa
namespace Go.Proofs.YtlcmllmphpllbaaGreatDoor
open Go.RowKit

def shapeZ (n a b : Nd) : Int × Int × Bool :=
  if n.op = 1 ∨ n.op = 2 then (n.rows, n.cols, sideB n.rows && sideB n.cols)
  else if n.op = 3 ∨ n.op = 4 ∨ n.op = 5 then (a.rows, a.cols, a.rows == b.rows && a.cols == b.cols)
  else if n.op = 6 then (a.rows, a.cols, true)
  else if n.op = 7 then (a.rows, b.cols, a.cols == b.rows)
  else if n.op = 8 then (a.cols, a.rows, true)
  else (0, 0, false)
def trip (x : Int × Int × Bool) : Value := .tuple #[.int .i64 x.1, .int .i64 x.2.1, .bool x.2.2]

set_option maxHeartbeats 1000000 in
theorem shape_any (n a b : Nd) (w : World) :
    Calls Tryz.prog 21 #[.agg n.vals, .agg a.vals, .agg b.vals] w fun e w' => e = .returned (trip (shapeZ n a b)) ∧ Below w.heap.size w w' := by
  simp only [Nd.vals]
  obtain ⟨op, na, nb, nk, r, c⟩ := n
  obtain ⟨ap, aa, ab, ak, ar, ac⟩ := a
  obtain ⟨bp, ba, bb, bk, br, bc⟩ := b
  simp only []
  by_cases h1 : op = 1 ∨ op = 2
  · rcases h1 with rfl | rfl <;> cases hs1 : sideB r
    all_goals
      go_enter Tryz.func21, Tryz.ntmps21
      go_wp2_with (go_at_call 27; refine (side_any _ _).mono ?_; rintro e w' ⟨rfl, rfl⟩)
      go_quiet ((fail))
      go_wp2
      go_ret3
      exact ⟨by simp [trip, shapeZ, hs1], Bl.drew (Bl.more (Bl.more (Bl.more (Bl.refl _) _) _) _) _⟩
  · by_cases h2 : op = 3 ∨ op = 4 ∨ op = 5
    · rcases h2 with rfl | rfl | rfl <;> cases hs1 : (ar == br)
      all_goals
        go_enter Tryz.func21, Tryz.ntmps21
        go_wp2
        go_quiet ((fail))
        go_wp2
        go_ret3
        exact ⟨by simp [trip, shapeZ, hs1], Bl.drew (Bl.more (Bl.more (Bl.more (Bl.refl _) _) _) _) _⟩
    · by_cases h3 : op = 6 ∨ op = 7 ∨ op = 8
      · rcases h3 with rfl | rfl | rfl
        all_goals
          go_enter Tryz.func21, Tryz.ntmps21
          go_wp2
          go_quiet ((fail))
          go_wp2
          go_ret3
          exact ⟨by simp [trip, shapeZ], Bl.drew (Bl.more (Bl.more (Bl.more (Bl.refl _) _) _) _) _⟩
      · simp only [not_or] at h1 h2 h3
        obtain ⟨g1, g2⟩ := h1
        obtain ⟨g3, g4, g5⟩ := h2
        obtain ⟨g6, g7, g8⟩ := h3
        have b1 : (op == 1) = false := by simpa using g1
        have b2 : (op == 2) = false := by simpa using g2
        have b3 : (op == 3) = false := by simpa using g3
        have b4 : (op == 4) = false := by simpa using g4
        have b5 : (op == 5) = false := by simpa using g5
        have b6 : (op == 6) = false := by simpa using g6
        have b7 : (op == 7) = false := by simpa using g7
        have b8 : (op == 8) = false := by simpa using g8
        go_enter Tryz.func21, Tryz.ntmps21
        go_wp2
        go_ret3
        exact ⟨by simp [trip, shapeZ, *], Bl.more (Bl.more (Bl.more (Bl.refl _) _) _) _⟩
end Go.Proofs.YtlcmllmphpllbaaGreatDoor
