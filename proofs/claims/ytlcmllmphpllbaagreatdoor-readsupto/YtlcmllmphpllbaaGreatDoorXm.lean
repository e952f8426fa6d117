/- graphs.IsGraph, walked. -/
import Derived.Test.YtlcmllmphpllbaaGreatDoorXl
namespace Go.Proofs.YtlcmllmphpllbaaGreatDoor
open Go.RowKit

theorem putZ_op (f : Int) (n : Nd) (x : Int) : (putZ f n x).op = n.op := by
  unfold putZ; repeat' split
  all_goals rfl
theorem saidTo_op (op : Int) (n : Nd) : ∀ m, (saidTo op n m).op = n.op
  | 0 => rfl
  | m + 1 => by rw [saidTo, putZ_op]; exact saidTo_op op n m
theorem saidOf_known {n : Nd} (h : knownP n.op) : knownP (saidOf n).op := by
  rw [saidOf, saidTo_op]; exact h
theorem bld_last {w : World} {base bb vc m : Nat} {vo : Option Addr} {l : List Nd} {n : Nd} {ins : Nat → Int × Int} (hl : l.length = m) (h : Bld w base bb (.slice vo (l ++ [n]).length vc) (l ++ [n]) ins) :
    w.cell? ⟨bb, 0, none⟩ = some (.slice vo (m + 1) vc) ∧ NodeAt w vo m n := by
  subst hl
  obtain ⟨ao, cap, hv, hN, _⟩ := nodes_of_owns h.2.2.2.2.1
  simp only [Value.slice.injEq, true_and] at hv
  have hc := h.2.2.2.1
  have hlen : (l ++ [n]).length = l.length + 1 := by simp
  rw [hlen] at hc
  refine ⟨hc, ?_⟩
  have := hN l.length (by simp)
  rw [← hv.1] at this
  simpa using this
theorem bld_new (w : World) (c : Array Value) (hc : c = #[.slice none 0 0, .int .i64 0, .int .i64 0, .int .i64 0, .int .i64 0, .int .i64 0, .int .i64 0, .int .i64 0, .int .i64 0, .int .i64 0, .int .i64 0, .int .i64 0, .int .i64 0, .int .i64 0, .int .i64 0, .int .i64 0, .int .i64 0]) (t : TypeId) :
    Bld (w.alloc (.cells c t)) (w.heap.size + 1) w.heap.size (.slice none 0 0) [] (fun _ => (0, 0)) := by
  subst hc
  refine ⟨by omega, by simp, by simp, by simp [go_sem], World.ownsRow_nil _ _ _ _, fun j => by simp [go_sem], fun k hk => ?_⟩
  obtain rfl | rfl | rfl | rfl | rfl | rfl | rfl | rfl : k = 0 ∨ k = 1 ∨ k = 2 ∨ k = 3 ∨ k = 4 ∨ k = 5 ∨ k = 6 ∨ k = 7 := by omega
  all_goals simp [go_sem]
theorem NdCell.keptBut {w w' : World} {b bb : Nat} {row : Option Nat} {n : Nd} (h : NdCell w b n) (hk : KeptBut bb row w w') (h1 : b ≠ bb) (h2 : some b ≠ row) : NdCell w' b n := by
  obtain ⟨hs, c0, c1, c2, c3, c4, c5, hf⟩ := h
  have hb := hk.2 b hs h1 h2
  refine ⟨Nat.lt_of_lt_of_le hs hk.1.size, ?_, ?_, ?_, ?_, ?_, ?_, fun j => ?_⟩
  · exact (World.cell?_of_block (a := ⟨b, 0, none⟩) hb).trans c0
  · exact (World.cell?_of_block (a := ⟨b, 1, none⟩) hb).trans c1
  · exact (World.cell?_of_block (a := ⟨b, 2, none⟩) hb).trans c2
  · exact (World.cell?_of_block (a := ⟨b, 3, none⟩) hb).trans c3
  · exact (World.cell?_of_block (a := ⟨b, 4, none⟩) hb).trans c4
  · exact (World.cell?_of_block (a := ⟨b, 5, none⟩) hb).trans c5
  · exact (World.frozen?_of_block (a := ⟨b, j, none⟩) hb).trans (hf j)

end Go.Proofs.YtlcmllmphpllbaaGreatDoor
