/- thrift.Cost, thrift.Print where the nodes are no graph, walked. -/
import Derived.Test.YtanlmfcllebopaaDoorRRXm
import Derived.Test.YtanlmfcllebopaaDoorRRXn
namespace Go.Proofs.YtanlmfcllebopaaDoorRR
open Go.RowKit

set_option maxHeartbeats 400000 in
theorem pprint_no (ns : List Nd) (ao : Option Addr) (cap : Nat) (w : World) (hn : Nodes w ao ns) (hg : isGraphB ns = false) :
    Calls Tryd.prog 6 #[.slice ao ns.length cap] w fun e w' => e = .returned (.tuple #[.string (bs []), .int .i64 4]) ∧ Below w.heap.size w w' := by
  go_enter Tryd.func6, Tryd.ntmps6
  go_wp2_with (go_at_call 12; refine (pIsGraph_any ns _ _ _ hn).mono ?_; rintro e w1 ⟨rfl, hb1⟩)
  go_ret2
  exact ⟨rfl, hb1⟩
set_option maxHeartbeats 400000 in
theorem pcost_no (ns : List Nd) (ao : Option Addr) (cap : Nat) (w : World) (hn : Nodes w ao ns) (hg : isGraphB ns = false) :
    Calls Tryd.prog 8 #[.slice ao ns.length cap] w fun e w' => e = .returned (.tuple #[.int .i64 0, .int .i64 4]) ∧ Below w.heap.size w w' := by
  go_enter Tryd.func8, Tryd.ntmps8
  go_wp2_with (go_at_call 12; refine (pIsGraph_any ns _ _ _ hn).mono ?_; rintro e w1 ⟨rfl, hb1⟩)
  go_ret2
  exact ⟨rfl, hb1⟩
set_option maxHeartbeats 400000 in
theorem pcost_yes (ns : List Nd) (ao : Option Addr) (cap : Nat) (w : World) (hn : Nodes w ao ns) (hg : isGraphB ns = true) :
    Calls Tryd.prog 8 #[.slice ao ns.length cap] w fun e w' => e = .returned (.tuple #[.int .i64 (costZ ns), .int .i64 0]) ∧ Below w.heap.size w w' := by
  have HG : Hid (isGraphB ns = true) := hg
  go_enter Tryd.func8, Tryd.ntmps8
  go_wp2_with (first | (go_at_call 12; refine (pIsGraph_any ns _ _ _ hn).mono ?_; rintro e w1 ⟨rfl, hb1⟩) | (go_at_call 20; refine (pgcost ns _ _ _ (hn.below hb1) HG.out).mono ?_; rintro e w2 ⟨rfl, hb2⟩))
  go_ret2
  exact ⟨rfl, Bl.trans hb1 hb2⟩
end Go.Proofs.YtanlmfcllebopaaDoorRR
