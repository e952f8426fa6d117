/- thriftref.Cost, walked. -/
import Derived.Test.YtlcmllmphpllbaaGreatDoorWj
namespace Go.Proofs.YtlcmllmphpllbaaGreatDoor
open Go.RowKit

theorem infoInt : (Tryz.prog.info? 3).map (fun i => (i.zero, i.size, i.bytes)) = some (some (.int .i64 0), 1, 8) := by kernel_rfl
theorem underInts : Tryz.prog.underlying 25 = some (.slice 3) := by kernel_rfl
theorem ints_view {w : World} {base : Nat} {v : Value} {m : Nat} {l : List Int} (hl : l.length = m) (h : w.ownsRow base 3 1 v m (l.map (Value.int .i64))) :
    ∃ ao cap, v = .slice ao m cap ∧ ∀ j, j < m → ∃ g, ao = some ⟨g, 0, none⟩ ∧ g < w.heap.size ∧ w.cell? ⟨g, j, none⟩ = some (.int .i64 (l.getD j 0)) := by
  rcases h with ⟨h0, ⟨rfl, hn⟩ | ⟨g, cap, cur, rfl, hb, hh, hle, hm, hcs, hcur⟩⟩
  · exact ⟨none, 0, by rw [hn], fun j hj => absurd hj (by omega)⟩
  · have hw : w.ownsRow base 3 1 (.slice (some ⟨g, 0, none⟩) m cap) m (l.map (Value.int .i64)) := ⟨h0, .inr ⟨g, cap, cur, rfl, hb, hh, hle, hm, hcs, hcur⟩⟩
    have hg : g < w.heap.size := by
      by_cases hlt : g < w.heap.size
      · exact hlt
      · rw [Array.getElem?_eq_none (by omega)] at hh; cases hh
    refine ⟨some ⟨g, 0, none⟩, cap, rfl, fun j hj => ⟨g, rfl, hg, ?_⟩⟩
    rw [hw.cellAt j (by omega)]
    simp [List.getD, List.getElem?_map, List.getElem?_eq_getElem (show j < l.length by omega)]
theorem part_cases (op : Int) : partsZ op = 0 ∨ partsZ op = 1 ∨ partsZ op = 2 := by
  unfold partsZ; repeat' split
  all_goals simp

end Go.Proofs.YtlcmllmphpllbaaGreatDoor
