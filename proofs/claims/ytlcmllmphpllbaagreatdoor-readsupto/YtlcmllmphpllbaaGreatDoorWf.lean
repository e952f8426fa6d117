/- thriftlaw.copied, walked. -/
import Derived.Test.YtlcmllmphpllbaaGreatDoorWa
namespace Go.Proofs.YtlcmllmphpllbaaGreatDoor
open Go.RowKit
def cellsOf : List Nd → List Value
  | [] => []
  | n :: ns => .int .i64 n.op :: .int .i64 n.a :: .int .i64 n.b :: .int .i64 n.k :: .int .i64 n.rows :: .int .i64 n.cols :: cellsOf ns
theorem cellsOf_len (ns : List Nd) : (cellsOf ns).length = ns.length * 6 := by
  induction ns with
  | nil => rfl
  | cons n ns ih => simp only [cellsOf, List.length_cons]; omega
theorem cellsOf_app (ns ms : List Nd) : cellsOf (ns ++ ms) = cellsOf ns ++ cellsOf ms := by
  induction ns with
  | nil => rfl
  | cons n ns ih => simp only [List.cons_append, cellsOf, ih]
theorem cellsOf_at (ns : List Nd) : ∀ i, (h : i < ns.length) → (cellsOf ns)[i * 6]? = some (.int .i64 ns[i].op) ∧ (cellsOf ns)[i * 6 + 1]? = some (.int .i64 ns[i].a) ∧ (cellsOf ns)[i * 6 + 2]? = some (.int .i64 ns[i].b) ∧
    (cellsOf ns)[i * 6 + 3]? = some (.int .i64 ns[i].k) ∧ (cellsOf ns)[i * 6 + 4]? = some (.int .i64 ns[i].rows) ∧ (cellsOf ns)[i * 6 + 5]? = some (.int .i64 ns[i].cols) := by
  induction ns with
  | nil => intro i h; exact absurd h (Nat.not_lt_zero _)
  | cons n ns ih =>
    intro i h
    cases i with
    | zero => simp [cellsOf]
    | succ i =>
      have := ih i (by simpa using h)
      have e0 : (i + 1) * 6 = (i * 6) + 1 + 1 + 1 + 1 + 1 + 1 := by omega
      simp only [e0, cellsOf, List.getElem?_cons_succ, List.getElem_cons_succ]
      exact this
theorem nodes_of_owns {w : World} {base : Nat} {v : Value} {ns : List Nd} (h : w.ownsRow base 42 6 v ns.length (cellsOf ns)) : ∃ ao cap, v = .slice ao ns.length cap ∧ Nodes w ao ns ∧ ∀ b o, ao = some ⟨b, o, none⟩ → base ≤ b := by
  rcases h with ⟨h0, ⟨rfl, hn⟩ | ⟨g, cap, cur, rfl, hb, hh, hle, hm, hcs, hcur⟩⟩
  · exact ⟨none, 0, by rw [hn], fun i hi => absurd hi (by omega), fun b o e => by cases e⟩
  · have hw : w.ownsRow base 42 6 (.slice (some ⟨g, 0, none⟩) ns.length cap) ns.length (cellsOf ns) := ⟨h0, .inr ⟨g, cap, cur, rfl, hb, hh, hle, hm, hcs, hcur⟩⟩
    have hg : g < w.heap.size := by
      by_cases hlt : g < w.heap.size
      · exact hlt
      · rw [Array.getElem?_eq_none (by omega)] at hh; cases hh
    refine ⟨some ⟨g, 0, none⟩, cap, rfl, fun i hi => ⟨g, 0, rfl, hg, ?_⟩, fun b o e => by cases e; exact hb⟩
    obtain ⟨a0, a1, a2, a3, a4, a5⟩ := cellsOf_at ns i hi
    simp only [Nat.zero_add]
    exact ⟨(hw.cellAt _ (by omega)).trans a0, (hw.cellAt _ (by omega)).trans a1, (hw.cellAt _ (by omega)).trans a2, (hw.cellAt _ (by omega)).trans a3, (hw.cellAt _ (by omega)).trans a4, (hw.cellAt _ (by omega)).trans a5⟩

theorem infoNd : (Tryz.prog.info? 42).map (fun i => (i.zero, i.size, i.bytes)) = some (some (.agg #[.int .i64 0, .int .i64 0, .int .i64 0, .int .i64 0, .int .i64 0, .int .i64 0]), 6, 48) := by kernel_rfl
theorem underNds : Tryz.prog.underlying 32 = some (.slice 42) := by kernel_rfl

end Go.Proofs.YtlcmllmphpllbaaGreatDoor
