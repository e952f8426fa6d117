/- the methods of ops.Use and ops.Field, walked. -/
import Derived.Test.YtlcmllmphpllbaaGreatDoorXa
import Derived.Test.YtlcmllmphpllbaaGreatDoorWj
namespace Go.Proofs.YtlcmllmphpllbaaGreatDoor
open Go.RowKit

theorem underSh : Tryz.prog.underlying 60 = some (.struct (Tryz.prog.fieldsOf 60)) := by kernel_rfl
theorem stoodSh : Tryz.prog.stoodInHeld 60 = false := by kernel_rfl
theorem guardSh : Tryz.prog.eqGuardType Tryz.prog.depth 60 = false := by kernel_rfl
theorem fldsSh : (Tryz.prog.fieldsOf 60).toList.map (fun f => (f.name, f.type, f.offset)) = [("Rows", 3, 0), ("Cols", 3, 1)] := by kernel_rfl
theorem list2 {α : Type} {l : List α} (h : l.length = 2) : ∃ a b, l = [a, b] := by
  match l, h with
  | [a, b], _ => exact ⟨a, b, rfl⟩
theorem eqFields_sh (a b c d : Int) (w : World) : (Op.eqFields 9999 #[.int .i64 a, .int .i64 b] #[.int .i64 c, .int .i64 d] (Tryz.prog.fieldsOf 60).toList).run Tryz.prog w = .ok (a == c && b == d) w := by
  have h := fldsSh
  generalize (Tryz.prog.fieldsOf 60).toList = fs at h
  have hlen : fs.length = 2 := by simpa using congrArg List.length h
  obtain ⟨f0, f1, rfl⟩ := list2 hlen
  simp only [List.map_cons, List.map_nil, List.cons.injEq, Prod.mk.injEq, and_true] at h
  obtain ⟨⟨n0, t0, o0⟩, ⟨n1, t1, o1⟩⟩ := h
  simp only [Op.eqFields, n0, t0, o0, n1, t1, o1]
  simp [go_sem, part]
  by_cases e0 : a = c <;> by_cases e1 : b = d <;> simp [e0, e1]
theorem run_neq_sh (a b c d : Int) (w : World) : (binOp .neq 60 (.agg #[.int .i64 a, .int .i64 b]) (.agg #[.int .i64 c, .int .i64 d])).run Tryz.prog w = .ok (.bool (!(a == c && b == d))) w := by
  rw [run_neq_struct, run_equalIn_struct w 9999 60 _ _ underSh stoodSh, eqFields_sh]
  rfl
theorem run_eql_sh (a b c d : Int) (w : World) : (binOp .eql 60 (.agg #[.int .i64 a, .int .i64 b]) (.agg #[.int .i64 c, .int .i64 d])).run Tryz.prog w = .ok (.bool (a == c && b == d)) w := by
  rw [run_eql_struct, run_equalIn_struct w 9999 60 _ _ underSh stoodSh, eqFields_sh]
  rfl
theorem guard_sh (op : BinOp) (x y : Operand) (xs ys : Array Value) (w : World) : (eqGuard op 60 x y (.agg xs) (.agg ys)).run Tryz.prog w = .ok () w := run_eqGuard_agg w _ _ x y xs ys guardSh

set_option maxHeartbeats 400000 in
theorem shapeOf_any (n : Nd) (w : World) :
    Calls Tryz.prog 63 #[.agg #[.int .i64 n.op, .int .i64 n.a, .int .i64 n.b, .int .i64 n.k, .int .i64 n.rows, .int .i64 n.cols]] w fun e w' => e = .returned (.agg #[.int .i64 n.rows, .int .i64 n.cols]) ∧ Below w.heap.size w w' := by
  go_enter Tryz.func63, Tryz.ntmps63
  go_wp2
  exact bodyPost_ret (v := .agg #[.int .i64 n.rows, .int .i64 n.cols]) (by simp [results, Tryz.results63, go_sem]) rfl ⟨rfl, by repeat (first | exact Bl.refl _ | refine Bl.more ?_ _ | refine Bl.drew ?_ _)⟩
theorem shapeOf_lit (a0 a1 a2 a3 a4 a5 : Int) (w : World) :
    Calls Tryz.prog 63 #[.agg #[.int .i64 a0, .int .i64 a1, .int .i64 a2, .int .i64 a3, .int .i64 a4, .int .i64 a5]] w fun e w' => e = .returned (.agg #[.int .i64 a4, .int .i64 a5]) ∧ Below w.heap.size w w' := shapeOf_any ⟨a0, a1, a2, a3, a4, a5⟩ w

set_option maxHeartbeats 400000 in
theorem isSide_any (op : Int) (w : World) :
    Calls Tryz.prog 72 #[.int .i64 op] w fun e w' => e = .returned (.bool (sideB op)) ∧ w' = w := by
  go_enter Tryz.func72, Tryz.ntmps72
  go_wp2
  all_goals
    go_ret
    exact ⟨ret_bool (by simp only [sideB]; rw [Bool.eq_iff_iff]; simp; omega), rfl⟩
set_option maxHeartbeats 400000 in
theorem said_yes (n : Nd) (ar ac br bc : Int) (w : World) (h : sideB n.rows = true) (h2 : sideB n.cols = true) :
    Calls Tryz.prog 46 #[.agg #[.int .i64 n.op, .int .i64 n.a, .int .i64 n.b, .int .i64 n.k, .int .i64 n.rows, .int .i64 n.cols, .int .i64 ar, .int .i64 ac, .int .i64 br, .int .i64 bc]] w fun e w' => e = .returned (.tuple #[.agg #[.int .i64 n.rows, .int .i64 n.cols], .bool true]) ∧ Below w.heap.size w w' := by
  go_enter Tryz.func46, Tryz.ntmps46
  go_wp2_with (first | (go_at_call 72; refine (isSide_any _ _).mono ?_; rintro e w' ⟨rfl, rfl⟩) | go_in)
  refine bodyPost_ret (v := .agg #[.int .i64 n.rows, .int .i64 n.cols]) (by simp [results, Tryz.results63, go_sem]) rfl ?_
  go_wp2
  exact bodyPost_ret (v := .tuple #[.agg #[.int .i64 n.rows, .int .i64 n.cols], .bool true]) (by simp [results, Tryz.results46, go_sem]) rfl ⟨rfl, by repeat (first | exact Bl.refl _ | assumption | refine Bl.more ?_ _ | refine Bl.drew ?_ _)⟩
set_option maxHeartbeats 400000 in
theorem said_no (n : Nd) (ar ac br bc : Int) (w : World) (h : (sideB n.rows && sideB n.cols) = false) :
    Calls Tryz.prog 46 #[.agg #[.int .i64 n.op, .int .i64 n.a, .int .i64 n.b, .int .i64 n.k, .int .i64 n.rows, .int .i64 n.cols, .int .i64 ar, .int .i64 ac, .int .i64 br, .int .i64 bc]] w fun e w' => e = .returned (.tuple #[.agg #[.int .i64 0, .int .i64 0], .bool false]) ∧ Below w.heap.size w w' := by
  cases h1 : sideB n.rows
  · clear h
    go_enter Tryz.func46, Tryz.ntmps46
    go_wp2_with (go_at_call 72; refine (isSide_any _ _).mono ?_; rintro e w' ⟨rfl, rfl⟩)
    exact bodyPost_ret (v := .tuple #[.agg #[.int .i64 0, .int .i64 0], .bool false]) (by simp [results, Tryz.results46, go_sem]) rfl ⟨rfl, by repeat (first | exact Bl.refl _ | assumption | refine Bl.more ?_ _ | refine Bl.drew ?_ _)⟩
  · have h2 : sideB n.cols = false := by simpa [h1] using h
    clear h
    go_enter Tryz.func46, Tryz.ntmps46
    go_wp2_with (go_at_call 72; refine (isSide_any _ _).mono ?_; rintro e w' ⟨rfl, rfl⟩)
    exact bodyPost_ret (v := .tuple #[.agg #[.int .i64 0, .int .i64 0], .bool false]) (by simp [results, Tryz.results46, go_sem]) rfl ⟨rfl, by repeat (first | exact Bl.refl _ | assumption | refine Bl.more ?_ _ | refine Bl.drew ?_ _)⟩
set_option maxHeartbeats 400000 in
theorem common_no (n : Nd) (ar ac br bc : Int) (w : World) (h : (ar == br && ac == bc) = false) :
    Calls Tryz.prog 49 #[.agg #[.int .i64 n.op, .int .i64 n.a, .int .i64 n.b, .int .i64 n.k, .int .i64 n.rows, .int .i64 n.cols, .int .i64 ar, .int .i64 ac, .int .i64 br, .int .i64 bc]] w fun e w' => e = .returned (.tuple #[.agg #[.int .i64 (0), .int .i64 (0)], .bool false]) ∧ Below w.heap.size w w' := by
  have hr := run_neq_sh ar ac br bc
  have hg := guard_sh .neq
  rw [h] at hr
  go_enter Tryz.func49, Tryz.ntmps49
  go_wp2
  exact bodyPost_ret (v := .tuple #[.agg #[.int .i64 (0), .int .i64 (0)], .bool false]) (by simp [results, Tryz.results49, go_sem]) rfl ⟨rfl, by repeat (first | exact Bl.refl _ | assumption | refine Bl.more ?_ _ | refine Bl.drew ?_ _)⟩
set_option maxHeartbeats 400000 in
theorem common_yes (n : Nd) (ar ac br bc : Int) (w : World) (h : (ar == br && ac == bc) = true) :
    Calls Tryz.prog 49 #[.agg #[.int .i64 n.op, .int .i64 n.a, .int .i64 n.b, .int .i64 n.k, .int .i64 n.rows, .int .i64 n.cols, .int .i64 ar, .int .i64 ac, .int .i64 br, .int .i64 bc]] w fun e w' => e = .returned (.tuple #[.agg #[.int .i64 (ar), .int .i64 (ac)], .bool true]) ∧ Below w.heap.size w w' := by
  have hr := run_neq_sh ar ac br bc
  have hg := guard_sh .neq
  rw [h] at hr
  go_enter Tryz.func49, Tryz.ntmps49
  go_wp2
  exact bodyPost_ret (v := .tuple #[.agg #[.int .i64 (ar), .int .i64 (ac)], .bool true]) (by simp [results, Tryz.results49, go_sem]) rfl ⟨rfl, by repeat (first | exact Bl.refl _ | assumption | refine Bl.more ?_ _ | refine Bl.drew ?_ _)⟩
set_option maxHeartbeats 400000 in
theorem part_any (n : Nd) (ar ac br bc : Int) (w : World) :
    Calls Tryz.prog 54 #[.agg #[.int .i64 n.op, .int .i64 n.a, .int .i64 n.b, .int .i64 n.k, .int .i64 n.rows, .int .i64 n.cols, .int .i64 ar, .int .i64 ac, .int .i64 br, .int .i64 bc]] w fun e w' => e = .returned (.tuple #[.agg #[.int .i64 (ar), .int .i64 (ac)], .bool true]) ∧ Below w.heap.size w w' := by
  go_enter Tryz.func54, Tryz.ntmps54
  go_wp2
  exact bodyPost_ret (v := .tuple #[.agg #[.int .i64 (ar), .int .i64 (ac)], .bool true]) (by simp [results, Tryz.results54, go_sem]) rfl ⟨rfl, by repeat (first | exact Bl.refl _ | assumption | refine Bl.more ?_ _ | refine Bl.drew ?_ _)⟩
set_option maxHeartbeats 400000 in
theorem turned_any (n : Nd) (ar ac br bc : Int) (w : World) :
    Calls Tryz.prog 59 #[.agg #[.int .i64 n.op, .int .i64 n.a, .int .i64 n.b, .int .i64 n.k, .int .i64 n.rows, .int .i64 n.cols, .int .i64 ar, .int .i64 ac, .int .i64 br, .int .i64 bc]] w fun e w' => e = .returned (.tuple #[.agg #[.int .i64 (ac), .int .i64 (ar)], .bool true]) ∧ Below w.heap.size w w' := by
  go_enter Tryz.func59, Tryz.ntmps59
  go_wp2
  exact bodyPost_ret (v := .tuple #[.agg #[.int .i64 (ac), .int .i64 (ar)], .bool true]) (by simp [results, Tryz.results59, go_sem]) rfl ⟨rfl, by repeat (first | exact Bl.refl _ | assumption | refine Bl.more ?_ _ | refine Bl.drew ?_ _)⟩
set_option maxHeartbeats 400000 in
theorem times_no (n : Nd) (ar ac br bc : Int) (w : World) (h : (ac == br) = false) :
    Calls Tryz.prog 56 #[.agg #[.int .i64 n.op, .int .i64 n.a, .int .i64 n.b, .int .i64 n.k, .int .i64 n.rows, .int .i64 n.cols, .int .i64 ar, .int .i64 ac, .int .i64 br, .int .i64 bc]] w fun e w' => e = .returned (.tuple #[.agg #[.int .i64 (0), .int .i64 (0)], .bool false]) ∧ Below w.heap.size w w' := by
  have h2 : (ac != br) = true := by simpa using h
  go_enter Tryz.func56, Tryz.ntmps56
  go_wp2
  try go_quiet ((fail))
  try go_wp2
  exact bodyPost_ret (v := .tuple #[.agg #[.int .i64 (0), .int .i64 (0)], .bool false]) (by simp [results, Tryz.results56, go_sem]) rfl ⟨rfl, by repeat (first | exact Bl.refl _ | assumption | refine Bl.more ?_ _ | refine Bl.drew ?_ _)⟩
set_option maxHeartbeats 400000 in
theorem times_yes (n : Nd) (ar ac br bc : Int) (w : World) (h : (ac == br) = true) :
    Calls Tryz.prog 56 #[.agg #[.int .i64 n.op, .int .i64 n.a, .int .i64 n.b, .int .i64 n.k, .int .i64 n.rows, .int .i64 n.cols, .int .i64 ar, .int .i64 ac, .int .i64 br, .int .i64 bc]] w fun e w' => e = .returned (.tuple #[.agg #[.int .i64 (ar), .int .i64 (bc)], .bool true]) ∧ Below w.heap.size w w' := by
  have h2 : (ac != br) = false := by simpa using h
  go_enter Tryz.func56, Tryz.ntmps56
  go_wp2
  try go_quiet ((fail))
  try go_wp2
  exact bodyPost_ret (v := .tuple #[.agg #[.int .i64 (ar), .int .i64 (bc)], .bool true]) (by simp [results, Tryz.results56, go_sem]) rfl ⟨rfl, by repeat (first | exact Bl.refl _ | assumption | refine Bl.more ?_ _ | refine Bl.drew ?_ _)⟩
set_option maxHeartbeats 400000 in
theorem input_yes (n : Nd) (ar ac br bc : Int) (w : World) (hk : 0 ≤ n.k ∧ n.k < 8) (h : sideB n.rows = true) (h2 : sideB n.cols = true) :
    Calls Tryz.prog 43 #[.agg #[.int .i64 n.op, .int .i64 n.a, .int .i64 n.b, .int .i64 n.k, .int .i64 n.rows, .int .i64 n.cols, .int .i64 ar, .int .i64 ac, .int .i64 br, .int .i64 bc]] w fun e w' => e = .returned (.tuple #[.agg #[.int .i64 (n.rows), .int .i64 (n.cols)], .bool true]) ∧ Below w.heap.size w w' := by
  go_enter Tryz.func43, Tryz.ntmps43
  go_wp2_with (go_at_call 46; refine (said_yes ⟨n.op, n.a, n.b, n.k, n.rows, n.cols⟩ ar ac br bc _ h h2).mono ?_; rintro e w1 ⟨rfl, hb1⟩; obtain ⟨hcc, hff⟩ := bcell hb1; have hz1 := hb1.size; simp at hz1)
  exact bodyPost_ret (v := .tuple #[.agg #[.int .i64 (n.rows), .int .i64 (n.cols)], .bool true]) (by simp [results, Tryz.results43, go_sem, hcc]) rfl ⟨rfl, ((Bl.trans (by repeat (first | exact Bl.refl _ | refine Bl.more ?_ _)) hb1).setCell (by simp) _).setCell (by simp) _⟩
set_option maxHeartbeats 400000 in
theorem input_side (n : Nd) (ar ac br bc : Int) (w : World) (hk : 0 ≤ n.k ∧ n.k < 8) (h : (sideB n.rows && sideB n.cols) = false) :
    Calls Tryz.prog 43 #[.agg #[.int .i64 n.op, .int .i64 n.a, .int .i64 n.b, .int .i64 n.k, .int .i64 n.rows, .int .i64 n.cols, .int .i64 ar, .int .i64 ac, .int .i64 br, .int .i64 bc]] w fun e w' => e = .returned (.tuple #[.agg #[.int .i64 (0), .int .i64 (0)], .bool false]) ∧ Below w.heap.size w w' := by
  go_enter Tryz.func43, Tryz.ntmps43
  go_wp2_with (go_at_call 46; refine (said_no ⟨n.op, n.a, n.b, n.k, n.rows, n.cols⟩ ar ac br bc _ h).mono ?_; rintro e w1 ⟨rfl, hb1⟩; obtain ⟨hcc, hff⟩ := bcell hb1; have hz1 := hb1.size; simp at hz1)
  exact bodyPost_ret (v := .tuple #[.agg #[.int .i64 (0), .int .i64 (0)], .bool false]) (by simp [results, Tryz.results43, go_sem, hcc]) rfl ⟨rfl, ((Bl.trans (by repeat (first | exact Bl.refl _ | refine Bl.more ?_ _)) hb1).setCell (by simp) _).setCell (by simp) _⟩
set_option maxHeartbeats 400000 in
theorem input_no (n : Nd) (ar ac br bc : Int) (w : World) (hk : n.k < 0 ∨ 8 ≤ n.k) :
    Calls Tryz.prog 43 #[.agg #[.int .i64 n.op, .int .i64 n.a, .int .i64 n.b, .int .i64 n.k, .int .i64 n.rows, .int .i64 n.cols, .int .i64 ar, .int .i64 ac, .int .i64 br, .int .i64 bc]] w fun e w' => e = .returned (.tuple #[.agg #[.int .i64 0, .int .i64 0], .bool false]) ∧ Below w.heap.size w w' := by
  rcases hk with hk | hk
  all_goals
    go_enter Tryz.func43, Tryz.ntmps43
    go_wp2
    exact bodyPost_ret (v := .tuple #[.agg #[.int .i64 0, .int .i64 0], .bool false]) (by simp [results, Tryz.results43, go_sem]) rfl ⟨rfl, by repeat (first | exact Bl.refl _ | assumption | refine Bl.more ?_ _ | refine Bl.drew ?_ _)⟩
end Go.Proofs.YtlcmllmphpllbaaGreatDoor
