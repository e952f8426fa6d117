/- Kind.Said, walked. -/
import Derived.Test.YtlcmllmphpllbaaGreatDoorXc
namespace Go.Proofs.YtlcmllmphpllbaaGreatDoor
open Go.RowKit

/-- a node in a block of its own -/
def NdCell (w : World) (b : Nat) (n : Nd) : Prop := b < w.heap.size ∧ w.cell? ⟨b, 0, none⟩ = some (.int .i64 n.op) ∧ w.cell? ⟨b, 1, none⟩ = some (.int .i64 n.a) ∧ w.cell? ⟨b, 2, none⟩ = some (.int .i64 n.b)
    ∧ w.cell? ⟨b, 3, none⟩ = some (.int .i64 n.k) ∧ w.cell? ⟨b, 4, none⟩ = some (.int .i64 n.rows) ∧ w.cell? ⟨b, 5, none⟩ = some (.int .i64 n.cols) ∧ ∀ j, w.frozen? ⟨b, j, none⟩ = false
def saidTo (op : Int) (n : Nd) : Nat → Nd
  | 0 => ⟨n.op, 0, 0, 0, 0, 0⟩
  | m + 1 => putZ ((saysZ op).getD m 0) (saidTo op n m) (ofZ ((saysZ op).getD m 0) n)
theorem says_mem (op : Int) (m : Nat) (h : m < (saysZ op).length) : (saysZ op)[m] = 0 ∨ (saysZ op)[m] = 1 ∨ (saysZ op)[m] = 2 ∨ (saysZ op)[m] = 3 ∨ (saysZ op)[m] = 4 := by
  have : (saysZ op)[m] ∈ saysZ op := List.getElem_mem h
  revert this
  generalize (saysZ op)[m] = x
  unfold saysZ
  repeat' split
  all_goals simp; omega
theorem says_len (op : Int) : 1 ≤ (saysZ op).length ∧ (saysZ op).length ≤ 3 := by
  unfold saysZ; repeat' split
  all_goals simp

theorem NdCell.below {w w' : World} {b : Nat} {n : Nd} (h : NdCell w b n) (hb : Below w.heap.size w w') : NdCell w' b n := by
  obtain ⟨hs, c0, c1, c2, c3, c4, c5, hf⟩ := h
  refine ⟨Nat.lt_of_lt_of_le hs hb.size, ?_, ?_, ?_, ?_, ?_, ?_, fun j => ?_⟩
  · rw [hb.cell (by exact hs)]; exact c0
  · rw [hb.cell (by exact hs)]; exact c1
  · rw [hb.cell (by exact hs)]; exact c2
  · rw [hb.cell (by exact hs)]; exact c3
  · rw [hb.cell (by exact hs)]; exact c4
  · rw [hb.cell (by exact hs)]; exact c5
  · rw [hb.frozen (by exact hs)]; exact hf j
def World.putNd (w : World) (b : Nat) (n : Nd) : World := (((((w.setCell ⟨b, 0, none⟩ (.int .i64 n.op)).setCell ⟨b, 1, none⟩ (.int .i64 n.a)).setCell ⟨b, 2, none⟩ (.int .i64 n.b)).setCell ⟨b, 3, none⟩ (.int .i64 n.k)).setCell ⟨b, 4, none⟩ (.int .i64 n.rows)).setCell ⟨b, 5, none⟩ (.int .i64 n.cols)
theorem NdCell.put {w : World} {b : Nat} {n : Nd} (h : NdCell w b n) (n' : Nd) : NdCell (World.putNd w b n') b n' := by
  obtain ⟨hs, c0, c1, c2, c3, c4, c5, hf⟩ := h
  refine ⟨by simpa [World.putNd] using hs, ?_, ?_, ?_, ?_, ?_, ?_, fun j => ?_⟩ <;> simp [World.putNd, go_sem, c0, c1, c2, c3, c4, c5, hf]
theorem NdCell.other {w : World} {b b' : Nat} {n n' : Nd} (h : NdCell w b n) (hne : b ≠ b') : NdCell (World.putNd w b' n') b n := by
  obtain ⟨hs, c0, c1, c2, c3, c4, c5, hf⟩ := h
  refine ⟨by simpa [World.putNd] using hs, ?_, ?_, ?_, ?_, ?_, ?_, fun j => ?_⟩ <;> simp [World.putNd, go_sem, c0, c1, c2, c3, c4, c5, hf]
theorem NdCell.belowPut {w w' : World} {b : Nat} {n : Nd} (h : Below w.heap.size w w') (hb : w.heap.size ≤ b) : Below w.heap.size w (World.putNd w' b n) :=
  (((((h.setCell (by exact hb) _).setCell (by exact hb) _).setCell (by exact hb) _).setCell (by exact hb) _).setCell (by exact hb) _).setCell (by exact hb) _
theorem putNd_size (w : World) (b : Nat) (n : Nd) : (World.putNd w b n).heap.size = w.heap.size := by simp [World.putNd]
theorem SaysAt.belowPut {w : World} {b b' : Nat} {op : Int} {n : Nd} (h : SaysAt w b op) (hne : b ≠ b') : SaysAt (World.putNd w b' n) b op :=
  ⟨by rw [putNd_size]; exact h.1, fun j hj => by simp only [World.putNd]; simp [go_sem, h.2 j hj]⟩

theorem of_lit (f a0 a1 a2 a3 a4 a5 : Int) (w : World) (hf : f = 0 ∨ f = 1 ∨ f = 2 ∨ f = 3 ∨ f = 4) :
    Calls Tryz.prog 73 #[.int .i64 f, .agg #[.int .i64 a0, .int .i64 a1, .int .i64 a2, .int .i64 a3, .int .i64 a4, .int .i64 a5]] w fun e w' => ∃ x, Hid (x = ofZ f ⟨a0, a1, a2, a3, a4, a5⟩) ∧ e = .returned (.int .i64 x) ∧ Below w.heap.size w w' :=
  (of_any f ⟨a0, a1, a2, a3, a4, a5⟩ w hf).mono fun _ _ h => ⟨_, rfl, h⟩
theorem put_lit (f a0 a1 a2 a3 a4 a5 x : Int) (w : World) (hf : f = 0 ∨ f = 1 ∨ f = 2 ∨ f = 3 ∨ f = 4) :
    Calls Tryz.prog 32 #[.int .i64 f, .agg #[.int .i64 a0, .int .i64 a1, .int .i64 a2, .int .i64 a3, .int .i64 a4, .int .i64 a5], .int .i64 x] w fun e w' => ∃ s : Nd, Hid (s = putZ f ⟨a0, a1, a2, a3, a4, a5⟩ x) ∧ e = .returned (.agg #[.int .i64 s.op, .int .i64 s.a, .int .i64 s.b, .int .i64 s.k, .int .i64 s.rows, .int .i64 s.cols]) ∧ Below w.heap.size w w' :=
  (put_any f ⟨a0, a1, a2, a3, a4, a5⟩ x w hf).mono fun _ _ h => ⟨_, rfl, h⟩

end Go.Proofs.YtlcmllmphpllbaaGreatDoor
