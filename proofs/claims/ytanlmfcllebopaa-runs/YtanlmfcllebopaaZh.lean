/- thrift.Run, walked. -/
import Derived.Test.YtanlmfcllebopaaZg
import Derived.Test.YtanlmfcllebopaaXm
namespace Go.Proofs.Ytanlmfcllebopaa
open Go.RowKit

set_option maxHeartbeats 2000000 in
theorem prun_nograph (ns : List Nd) (ins : List Mx) (ao io : Option Addr) (cap ic : Nat) (w : World) (hn : Nodes w ao ns) (hg : isGraphB ns = false) :
    Calls Try.prog 12 #[.slice ao ns.length cap, .slice io ins.length ic] w fun e w' => e = .returned (.tuple #[.agg #[.int .i64 0, .int .i64 0, .slice none 0 0], .int .i64 4]) ∧ Below w.heap.size w w' := by
  go_enter Try.func12, Try.ntmps12
  go_wp2_with fail
  refine (pIsGraph_any ns _ _ _ ?_).mono ?_
  · exact hn.below (Bl.more (Bl.refl _) _)
  rintro e w1 ⟨rfl, hb1⟩
  have hrs : ResCell w1 w.heap.size := (ResCell.new w w.heap.size _ rfl).below hb1
  obtain ⟨⟨y0, y1, y2, y3⟩, yf⟩ := hrs
  have hbw : Below w.heap.size w w1 := Bl.trans (Bl.more (Bl.refl _) _) hb1
  clear hb1
  go_wp2
  exact bodyPost_ret (v := .tuple #[.agg #[.int .i64 0, .int .i64 0, .slice none 0 0], .int .i64 4]) (by simp [results, Try.results12, go_sem, y1, y2, y3]) rfl ⟨rfl, by repeat (first | exact hbw | refine Below.setCell ?_ (by exact Nat.le_refl _) _)⟩
theorem res_after {w2 : World} {b : Nat} (h : ResCell w2 b) (r c v : Value) : ∀ o : Obj, (((((w2.setCell ⟨b, 0, none⟩ r).setCell ⟨b, 1, none⟩ c).setCell ⟨b, 2, none⟩ v).alloc o).cell? ⟨b, 0, none⟩ = some r) ∧ (((((w2.setCell ⟨b, 0, none⟩ r).setCell ⟨b, 1, none⟩ c).setCell ⟨b, 2, none⟩ v).alloc o).cell? ⟨b, 1, none⟩ = some c) ∧ (((((w2.setCell ⟨b, 0, none⟩ r).setCell ⟨b, 1, none⟩ c).setCell ⟨b, 2, none⟩ v).alloc o).cell? ⟨b, 2, none⟩ = some v) := by
  obtain ⟨⟨y0, y1, y2, y3⟩, _⟩ := h
  intro o
  have hl : b < (((w2.setCell ⟨b, 0, none⟩ r).setCell ⟨b, 1, none⟩ c).setCell ⟨b, 2, none⟩ v).heap.size := by simpa using y0
  refine ⟨?_, ?_, ?_⟩
  · rw [al1 hl]; simp [go_sem, y1]
  · rw [al1 hl]; simp [go_sem, y2]
  · rw [al1 hl]; simp [go_sem, y3]
/-- what thrift.Run answers at a graph -/
def PRunPost (ns : List Nd) (ins : List Mx) (w : World) (e : Ending) (w' : World) : Prop :=
  (Hid (inputsOk ns ins = true) ∧ ∃ v, e = .returned (.tuple #[.agg #[.int .i64 (partM (gives ns ins ns.length) (ns.length - 1 : Nat)).rows, .int .i64 (partM (gives ns ins ns.length) (ns.length - 1 : Nat)).cols, v], .int .i64 0]) ∧ w'.ownsRow w.heap.size 3 1 v (partM (gives ns ins ns.length) (ns.length - 1 : Nat)).nums.length ((partM (gives ns ins ns.length) (ns.length - 1 : Nat)).nums.map (Value.int .i64)) ∧ Below w.heap.size w w')
  ∨ (Hid (inputsOk ns ins = false) ∧ e = .returned (.tuple #[.agg #[.int .i64 0, .int .i64 0, .slice none 0 0], .int .i64 5]) ∧ Below w.heap.size w w')
set_option maxHeartbeats 2000000 in
theorem prun_graph (ns : List Nd) (ins : List Mx) (ao io : Option Addr) (cap ic : Nat) (w : World) (hn : Nodes w ao ns) (hI : Mats w io ins) (hg : isGraphB ns = true) (hil : ins.length * 40 ≤ 140737488351232) :
    Calls Try.prog 12 #[.slice ao ns.length cap, .slice io ins.length ic] w (PRunPost ns ins w) := by
  have HG : Hid (isGraphB ns = true) := hg
  go_enter Try.func12, Try.ntmps12
  go_wp2_with fail
  refine (pIsGraph_any ns _ _ _ ?_).mono ?_
  · exact hn.below (Bl.more (Bl.refl _) _)
  rintro e w1 ⟨rfl, hb1⟩
  have HR1 : Hid (ResCell w1 w.heap.size) := (ResCell.new w w.heap.size _ rfl).below hb1
  have HW1 : Hid (Below w.heap.size w w1) := Bl.trans (Bl.more (Bl.refl _) _) hb1
  have hz1 : w.heap.size < w1.heap.size := by have := hb1.size; simp at this; omega
  clear hb1
  go_wp2_with fail
  refine (pgrun ns ins _ _ _ _ _ (hn.below HW1.out) (hI.below HW1.out) HG.out hil).mono ?_
  rintro e w2 (⟨hy, v, rfl, hown, hb2⟩ | ⟨hno, rfl, hb2⟩)
  · obtain ⟨vo, vc, rfl, hvw⟩ := ints_view rfl hown
    clear hvw
    have HOWN : Hid (w2.ownsRow w1.heap.size 3 1 (.slice vo (partM (gives ns ins ns.length) (ns.length - 1 : Nat)).nums.length vc) (partM (gives ns ins ns.length) (ns.length - 1 : Nat)).nums.length ((partM (gives ns ins ns.length) (ns.length - 1 : Nat)).nums.map (Value.int .i64))) := hown
    have HR2 : Hid (ResCell w2 w.heap.size) := HR1.out.below hb2
    have HW2 : Hid (Below w.heap.size w w2) := Bl.trans HW1.out hb2
    clear hown hb2
    obtain ⟨⟨y0, y1, y2, y3⟩, yf⟩ := HR2.out
    have Q := res_after HR2.out (.int .i64 (partM (gives ns ins ns.length) (ns.length - 1 : Nat)).rows) (.int .i64 (partM (gives ns ins ns.length) (ns.length - 1 : Nat)).cols) (.slice vo (partM (gives ns ins ns.length) (ns.length - 1 : Nat)).nums.length vc)
    have Q0 := fun o => (Q o).1
    have Q1 := fun o => (Q o).2.1
    have Q2 := fun o => (Q o).2.2
    clear Q
    go_wp2
    refine bodyPost_ret (v := .tuple #[.agg #[.int .i64 (partM (gives ns ins ns.length) (ns.length - 1 : Nat)).rows, .int .i64 (partM (gives ns ins ns.length) (ns.length - 1 : Nat)).cols, .slice vo (partM (gives ns ins ns.length) (ns.length - 1 : Nat)).nums.length vc], .int .i64 0]) (by simp [results, Try.results12, go_sem, Q0, Q1, Q2]) rfl (.inl ⟨hy.out, _, rfl, ?_, ?_⟩)
    · exact ownsRow_base ((ownsRow_setCell_below (ownsRow_setCell_below (ownsRow_setCell_below HOWN.out (by dsimp only; omega) _) (by dsimp only; omega) _) (by dsimp only; omega) _).alloc _) (by omega)
    · exact Bl.more (((HW2.out.setCell (by exact Nat.le_refl _) _).setCell (by exact Nat.le_refl _) _).setCell (by exact Nat.le_refl _) _) _
  · have HR2 : Hid (ResCell w2 w.heap.size) := HR1.out.below hb2
    have HW2 : Hid (Below w.heap.size w w2) := Bl.trans HW1.out hb2
    clear hb2
    obtain ⟨⟨y0, y1, y2, y3⟩, yf⟩ := HR2.out
    have Q := res_after HR2.out (.int .i64 0) (.int .i64 0) (.slice none 0 0)
    have Q0 := fun o => (Q o).1
    have Q1 := fun o => (Q o).2.1
    have Q2 := fun o => (Q o).2.2
    clear Q
    go_wp2
    exact bodyPost_ret (v := .tuple #[.agg #[.int .i64 0, .int .i64 0, .slice none 0 0], .int .i64 5]) (by simp [results, Try.results12, go_sem, Q0, Q1, Q2]) rfl (.inr ⟨hno.out, rfl, Bl.more (((HW2.out.setCell (by exact Nat.le_refl _) _).setCell (by exact Nat.le_refl _) _).setCell (by exact Nat.le_refl _) _) _⟩)
end Go.Proofs.Ytanlmfcllebopaa
