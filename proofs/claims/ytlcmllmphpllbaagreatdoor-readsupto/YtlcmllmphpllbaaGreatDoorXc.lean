/- costs, Field.Of, Field.Put, walked. -/
import Derived.Test.YtlcmllmphpllbaaGreatDoorXa
import Derived.Test.YtlcmllmphpllbaaGreatDoorWj
import Derived.Deep.RegionWith
namespace Go.Proofs.YtlcmllmphpllbaaGreatDoor
open Go.RowKit

set_option maxHeartbeats 400000 in
theorem cost_no (n : Nd) (ar ac br bc : Int) (w : World) :
    Calls Tryz.prog 44 #[.agg #[.int .i64 n.op, .int .i64 n.a, .int .i64 n.b, .int .i64 n.k, .int .i64 n.rows, .int .i64 n.cols, .int .i64 ar, .int .i64 ac, .int .i64 br, .int .i64 bc]] w fun e w' => e = .returned (.int .i64 0) ∧ Below w.heap.size w w' := by
  go_enter Tryz.func44, Tryz.ntmps44
  go_wp2
  go_ret
  exact ⟨rfl, by repeat (first | exact Bl.refl _ | assumption | refine Bl.more ?_ _ | refine Bl.drew ?_ _)⟩
set_option maxHeartbeats 400000 in
theorem cost_fill (n : Nd) (ar ac br bc : Int) (w : World) :
    Calls Tryz.prog 47 #[.agg #[.int .i64 n.op, .int .i64 n.a, .int .i64 n.b, .int .i64 n.k, .int .i64 n.rows, .int .i64 n.cols, .int .i64 ar, .int .i64 ac, .int .i64 br, .int .i64 bc]] w fun e w' => e = .returned (.int .i64 1) ∧ Below w.heap.size w w' := by
  go_enter Tryz.func47, Tryz.ntmps47
  go_wp2
  go_ret
  exact ⟨rfl, by repeat (first | exact Bl.refl _ | assumption | refine Bl.more ?_ _ | refine Bl.drew ?_ _)⟩
set_option maxHeartbeats 400000 in
theorem cost_places (n : Nd) (ar ac br bc : Int) (w : World) (hb : 1 ≤ n.rows * n.cols ∧ n.rows * n.cols ≤ 16) :
    Calls Tryz.prog 50 #[.agg #[.int .i64 n.op, .int .i64 n.a, .int .i64 n.b, .int .i64 n.k, .int .i64 n.rows, .int .i64 n.cols, .int .i64 ar, .int .i64 ac, .int .i64 br, .int .i64 bc]] w fun e w' => e = .returned (.int .i64 (n.rows * n.cols)) ∧ Below w.heap.size w w' := by
  go_enter Tryz.func50, Tryz.ntmps50
  go_wp2
  try go_quiet ((fail))
  try go_wp2
  go_ret
  exact ⟨rfl, by repeat (first | exact Bl.refl _ | assumption | refine Bl.more ?_ _ | refine Bl.drew ?_ _)⟩
theorem cost_places_lit (a0 a1 a2 a3 a4 a5 ar ac br bc : Int) (w : World) (hb : 1 ≤ a4 * a5 ∧ a4 * a5 ≤ 16) :
    Calls Tryz.prog 50 #[.agg #[.int .i64 a0, .int .i64 a1, .int .i64 a2, .int .i64 a3, .int .i64 a4, .int .i64 a5, .int .i64 ar, .int .i64 ac, .int .i64 br, .int .i64 bc]] w fun e w' => e = .returned (.int .i64 (a4 * a5)) ∧ Below w.heap.size w w' := cost_places ⟨a0, a1, a2, a3, a4, a5⟩ ar ac br bc w hb
theorem wrapI (x : Int) (h : -9223372036854775808 ≤ x ∧ x ≤ 9223372036854775807) : IntKind.i64.wrap x = x := by rw [IntKind.wrap_i64]; omega
theorem assoc2 (a b c : Int) : 2 * (a * b) * c = 2 * a * b * c := by rw [Int.mul_assoc 2 a b]
set_option maxHeartbeats 400000 in
theorem cost_times (n : Nd) (ar ac br bc : Int) (w : World) (hr : 1 ≤ n.rows ∧ n.rows ≤ 4) (hc : 1 ≤ n.cols ∧ n.cols ≤ 4) (hi : 1 ≤ ac ∧ ac ≤ 4) :
    Calls Tryz.prog 57 #[.agg #[.int .i64 n.op, .int .i64 n.a, .int .i64 n.b, .int .i64 n.k, .int .i64 n.rows, .int .i64 n.cols, .int .i64 ar, .int .i64 ac, .int .i64 br, .int .i64 bc]] w fun e w' => e = .returned (.int .i64 (2 * n.rows * n.cols * ac)) ∧ Below w.heap.size w w' := by
  obtain ⟨⟨b1, b2⟩, ⟨b3, b4⟩, ⟨b5, b6⟩, _⟩ := own_bd 7 n.rows n.cols ac hr hc hi
  have b7 : 2 ≤ 2 * (n.rows * n.cols) ∧ 2 * (n.rows * n.cols) ≤ 32 := by omega
  have b8 : 2 ≤ 2 * (n.rows * n.cols) * ac ∧ 2 * (n.rows * n.cols) * ac ≤ 128 := by rw [assoc2]; exact ⟨b5, b6⟩
  go_enter Tryz.func57, Tryz.ntmps57
  go_wp2
  go_region_with (go_at_call 50; refine (cost_places_lit _ _ _ _ _ _ _ _ _ _ _ ⟨b1, b2⟩).mono ?_; rintro e w1 ⟨rfl, hb1⟩; obtain ⟨hcc, hff⟩ := bcell hb1; have hz1 := hb1.size; simp at hz1)
  all_goals go_wp2
  all_goals
    go_ret
    exact ⟨ret_int (by rw [wrapI (2 * (n.rows * n.cols)) ⟨by omega, by omega⟩, wrapI (2 * (n.rows * n.cols) * ac) ⟨by omega, by omega⟩]; exact assoc2 _ _ _), by repeat (first | exact Bl.refl _ | refine Bl.trans ?_ (by assumption) | refine Bl.more ?_ _ | refine Bl.drew ?_ _ | refine Below.drew ?_)⟩

def ofZ (f : Int) (n : Nd) : Int := if f = 0 then n.k else if f = 1 then n.a else if f = 2 then n.b else if f = 3 then n.rows else n.cols
def putZ (f : Int) (n : Nd) (x : Int) : Nd :=
  if f = 0 then { n with k := x } else if f = 1 then { n with a := x } else if f = 2 then { n with b := x } else if f = 3 then { n with rows := x } else { n with cols := x }
set_option maxHeartbeats 1000000 in
theorem of_any (f : Int) (n : Nd) (w : World) (hf : f = 0 ∨ f = 1 ∨ f = 2 ∨ f = 3 ∨ f = 4) :
    Calls Tryz.prog 73 #[.int .i64 f, .agg #[.int .i64 n.op, .int .i64 n.a, .int .i64 n.b, .int .i64 n.k, .int .i64 n.rows, .int .i64 n.cols]] w fun e w' => e = .returned (.int .i64 (ofZ f n)) ∧ Below w.heap.size w w' := by
  rcases hf with rfl | rfl | rfl | rfl | rfl
  all_goals
    go_enter Tryz.func73, Tryz.ntmps73
    go_wp2
    go_ret
    exact ⟨rfl, by repeat (first | exact Bl.refl _ | assumption | refine Bl.more ?_ _ | refine Bl.drew ?_ _)⟩
set_option maxHeartbeats 1000000 in
theorem put_any (f : Int) (n : Nd) (x : Int) (w : World) (hf : f = 0 ∨ f = 1 ∨ f = 2 ∨ f = 3 ∨ f = 4) :
    Calls Tryz.prog 32 #[.int .i64 f, .agg #[.int .i64 n.op, .int .i64 n.a, .int .i64 n.b, .int .i64 n.k, .int .i64 n.rows, .int .i64 n.cols], .int .i64 x] w fun e w' => e = .returned (.agg (putZ f n x).vals) ∧ Below w.heap.size w w' := by
  rcases hf with rfl | rfl | rfl | rfl | rfl
  · go_enter Tryz.func32, Tryz.ntmps32
    go_wp2
    exact bodyPost_ret (v := .agg #[.int .i64 n.op, .int .i64 n.a, .int .i64 n.b, .int .i64 x, .int .i64 n.rows, .int .i64 n.cols]) (by simp [results, Tryz.results32, go_sem]) rfl ⟨rfl, by repeat (first | exact Bl.refl _ | assumption | refine Bl.more ?_ _ | refine Bl.drew ?_ _)⟩
  · go_enter Tryz.func32, Tryz.ntmps32
    go_wp2
    exact bodyPost_ret (v := .agg #[.int .i64 n.op, .int .i64 x, .int .i64 n.b, .int .i64 n.k, .int .i64 n.rows, .int .i64 n.cols]) (by simp [results, Tryz.results32, go_sem]) rfl ⟨rfl, by repeat (first | exact Bl.refl _ | assumption | refine Bl.more ?_ _ | refine Bl.drew ?_ _)⟩
  · go_enter Tryz.func32, Tryz.ntmps32
    go_wp2
    exact bodyPost_ret (v := .agg #[.int .i64 n.op, .int .i64 n.a, .int .i64 x, .int .i64 n.k, .int .i64 n.rows, .int .i64 n.cols]) (by simp [results, Tryz.results32, go_sem]) rfl ⟨rfl, by repeat (first | exact Bl.refl _ | assumption | refine Bl.more ?_ _ | refine Bl.drew ?_ _)⟩
  · go_enter Tryz.func32, Tryz.ntmps32
    go_wp2
    exact bodyPost_ret (v := .agg #[.int .i64 n.op, .int .i64 n.a, .int .i64 n.b, .int .i64 n.k, .int .i64 x, .int .i64 n.cols]) (by simp [results, Tryz.results32, go_sem]) rfl ⟨rfl, by repeat (first | exact Bl.refl _ | assumption | refine Bl.more ?_ _ | refine Bl.drew ?_ _)⟩
  · go_enter Tryz.func32, Tryz.ntmps32
    go_wp2
    exact bodyPost_ret (v := .agg #[.int .i64 n.op, .int .i64 n.a, .int .i64 n.b, .int .i64 n.k, .int .i64 n.rows, .int .i64 x]) (by simp [results, Tryz.results32, go_sem]) rfl ⟨rfl, by repeat (first | exact Bl.refl _ | assumption | refine Bl.more ?_ _ | refine Bl.drew ?_ _)⟩
end Go.Proofs.YtlcmllmphpllbaaGreatDoor
