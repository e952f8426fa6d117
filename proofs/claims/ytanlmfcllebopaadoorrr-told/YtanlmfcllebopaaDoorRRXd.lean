/- Kind.Said, walked. -/
import Derived.Test.YtanlmfcllebopaaDoorRRXc
namespace Go.Proofs.YtanlmfcllebopaaDoorRR
open Go.RowKit

/-- a node in a block of its own -/
def NdCell (w : World) (b : Nat) (n : Nd) : Prop := b < w.heap.size ∧ w.cell? ⟨b, 0, none⟩ = some (.int .i64 n.op) ∧ w.cell? ⟨b, 1, none⟩ = some (.int .i64 n.a) ∧ w.cell? ⟨b, 2, none⟩ = some (.int .i64 n.b)
    ∧ w.cell? ⟨b, 3, none⟩ = some (.int .i64 n.k) ∧ w.cell? ⟨b, 4, none⟩ = some (.int .i64 n.rows) ∧ w.cell? ⟨b, 5, none⟩ = some (.int .i64 n.cols) ∧ ∀ j, w.frozen? ⟨b, j, none⟩ = false
def saidTo (op : Int) (n : Nd) : Nat → Nd
  | 0 => ⟨n.op, 0, 0, 0, 0, 0⟩
  | m + 1 => putZ ((saysZ op).getD m 0) (saidTo op n m) (ofZ ((saysZ op).getD m 0) n)
theorem says_mem (op : Int) (m : Nat) (h : m < (saysZ op).length) : (saysZ op)[m] = 0 ∨ (saysZ op)[m] = 1 ∨ (saysZ op)[m] = 2 ∨ (saysZ op)[m] = 3 ∨ (saysZ op)[m] = 4 := by
  have : (saysZ op)[m] ∈ saysZ op := List.getElem_mem h
  revert this
  generalize (saysZ op)[m] = x
  unfold saysZ
  repeat' split
  all_goals simp; omega
theorem says_len (op : Int) : 1 ≤ (saysZ op).length ∧ (saysZ op).length ≤ 3 := by
  unfold saysZ; repeat' split
  all_goals simp

theorem NdCell.below {w w' : World} {b : Nat} {n : Nd} (h : NdCell w b n) (hb : Below w.heap.size w w') : NdCell w' b n := by
  obtain ⟨hs, c0, c1, c2, c3, c4, c5, hf⟩ := h
  refine ⟨Nat.lt_of_lt_of_le hs hb.size, ?_, ?_, ?_, ?_, ?_, ?_, fun j => ?_⟩
  · rw [hb.cell (by exact hs)]; exact c0
  · rw [hb.cell (by exact hs)]; exact c1
  · rw [hb.cell (by exact hs)]; exact c2
  · rw [hb.cell (by exact hs)]; exact c3
  · rw [hb.cell (by exact hs)]; exact c4
  · rw [hb.cell (by exact hs)]; exact c5
  · rw [hb.frozen (by exact hs)]; exact hf j
def World.putNd (w : World) (b : Nat) (n : Nd) : World := (((((w.setCell ⟨b, 0, none⟩ (.int .i64 n.op)).setCell ⟨b, 1, none⟩ (.int .i64 n.a)).setCell ⟨b, 2, none⟩ (.int .i64 n.b)).setCell ⟨b, 3, none⟩ (.int .i64 n.k)).setCell ⟨b, 4, none⟩ (.int .i64 n.rows)).setCell ⟨b, 5, none⟩ (.int .i64 n.cols)
theorem NdCell.put {w : World} {b : Nat} {n : Nd} (h : NdCell w b n) (n' : Nd) : NdCell (World.putNd w b n') b n' := by
  obtain ⟨hs, c0, c1, c2, c3, c4, c5, hf⟩ := h
  refine ⟨by simpa [World.putNd] using hs, ?_, ?_, ?_, ?_, ?_, ?_, fun j => ?_⟩ <;> simp [World.putNd, go_sem, c0, c1, c2, c3, c4, c5, hf]
theorem NdCell.other {w : World} {b b' : Nat} {n n' : Nd} (h : NdCell w b n) (hne : b ≠ b') : NdCell (World.putNd w b' n') b n := by
  obtain ⟨hs, c0, c1, c2, c3, c4, c5, hf⟩ := h
  refine ⟨by simpa [World.putNd] using hs, ?_, ?_, ?_, ?_, ?_, ?_, fun j => ?_⟩ <;> simp [World.putNd, go_sem, c0, c1, c2, c3, c4, c5, hf]
theorem NdCell.belowPut {w w' : World} {b : Nat} {n : Nd} (h : Below w.heap.size w w') (hb : w.heap.size ≤ b) : Below w.heap.size w (World.putNd w' b n) :=
  (((((h.setCell (by exact hb) _).setCell (by exact hb) _).setCell (by exact hb) _).setCell (by exact hb) _).setCell (by exact hb) _).setCell (by exact hb) _
theorem putNd_size (w : World) (b : Nat) (n : Nd) : (World.putNd w b n).heap.size = w.heap.size := by simp [World.putNd]
theorem SaysAt.belowPut {w : World} {b b' : Nat} {op : Int} {n : Nd} (h : SaysAt w b op) (hne : b ≠ b') : SaysAt (World.putNd w b' n) b op :=
  ⟨by rw [putNd_size]; exact h.1, fun j hj => by simp only [World.putNd]; simp [go_sem, h.2 j hj]⟩

theorem of_lit (f a0 a1 a2 a3 a4 a5 : Int) (w : World) (hf : f = 0 ∨ f = 1 ∨ f = 2 ∨ f = 3 ∨ f = 4) :
    Calls Tryd.prog 28 #[.int .i64 f, .agg #[.int .i64 a0, .int .i64 a1, .int .i64 a2, .int .i64 a3, .int .i64 a4, .int .i64 a5]] w fun e w' => ∃ x, Hid (x = ofZ f ⟨a0, a1, a2, a3, a4, a5⟩) ∧ e = .returned (.int .i64 x) ∧ Below w.heap.size w w' :=
  (of_any f ⟨a0, a1, a2, a3, a4, a5⟩ w hf).mono fun _ _ h => ⟨_, rfl, h⟩
theorem put_lit (f a0 a1 a2 a3 a4 a5 x : Int) (w : World) (hf : f = 0 ∨ f = 1 ∨ f = 2 ∨ f = 3 ∨ f = 4) :
    Calls Tryd.prog 53 #[.int .i64 f, .agg #[.int .i64 a0, .int .i64 a1, .int .i64 a2, .int .i64 a3, .int .i64 a4, .int .i64 a5], .int .i64 x] w fun e w' => ∃ s : Nd, Hid (s = putZ f ⟨a0, a1, a2, a3, a4, a5⟩ x) ∧ e = .returned (.agg #[.int .i64 s.op, .int .i64 s.a, .int .i64 s.b, .int .i64 s.k, .int .i64 s.rows, .int .i64 s.cols]) ∧ Below w.heap.size w w' :=
  (put_any f ⟨a0, a1, a2, a3, a4, a5⟩ x w hf).mono fun _ _ h => ⟨_, rfl, h⟩

set_option maxHeartbeats 2000000 in
theorem said_any (op : Int) (b : Nat) (n : Nd) (w : World) (hs : SaysAt w b op) :
    Calls Tryd.prog 25 #[.agg (kindCells op b), .agg n.vals] w fun e w' => e = .returned (.agg (saidTo op n (saysZ op).length).vals) ∧ Below w.heap.size w w' := by
  have hl := says_len op
  simp only [kindCells, Nd.vals]
  generalize hwd : bs (wordL op) = wd
  generalize hsf : shapeF op = sf
  generalize hcf : costF op = cf
  generalize haf : atF op = af
  clear hwd hsf hcf haf
  go_enter Tryd.func25, Tryd.ntmps25
  go_wp2
  go_loopw [14] (fun j wr => ∃ m : Nat, m ≤ (saysZ op).length ∧ j = .int .i64 m ∧ SaysAt wr b op ∧ NdCell wr (w.heap.size + 1) n ∧ NdCell wr (w.heap.size + 1 + 1) ⟨0, 0, 0, 0, 0, 0⟩ ∧ NdCell wr (w.heap.size + 1 + 1 + 1) (saidTo op n m) ∧ Below w.heap.size w wr) (fun j _ => (saysZ op).length - (intOf j).toNat)
  case atStart => exact ⟨0, Nat.zero_le _, rfl, hs.below (Bl.more (Bl.more (Bl.more (Bl.more (Bl.refl _) _) _) _) _), ⟨by simp, by simp [go_sem], by simp [go_sem], by simp [go_sem], by simp [go_sem], by simp [go_sem], by simp [go_sem], fun j => by simp [go_sem]⟩, ⟨by simp, by simp [go_sem], by simp [go_sem], by simp [go_sem], by simp [go_sem], by simp [go_sem], by simp [go_sem], fun j => by simp [go_sem]⟩, ⟨by simp, by simp [go_sem, saidTo], by simp [go_sem, saidTo], by simp [go_sem, saidTo], by simp [go_sem, saidTo], by simp [go_sem, saidTo], by simp [go_sem, saidTo], fun j => by simp [go_sem]⟩, Bl.more (Bl.more (Bl.more (Bl.more (Bl.refl _) _) _) _) _⟩
  case round =>
    obtain ⟨m, hm, rfl, hsa, hn1, hn2, hn3, hbr⟩ := hrel
    by_cases hlt : m < (saysZ op).length
    · have cs := hsa.2 m hlt
      have hf := says_mem op m hlt
      have HT : Hid (saidTo op n (m + 1) = putZ (saysZ op)[m] (saidTo op n m) (ofZ (saysZ op)[m] n)) := by show putZ _ _ _ = _; simp [hlt]
      have HN1 : Hid (NdCell wr (w.heap.size + 1) n) := hn1
      have HN2 : Hid (NdCell wr (w.heap.size + 1 + 1) ⟨0, 0, 0, 0, 0, 0⟩) := hn2
      have HN3 : Hid (NdCell wr (w.heap.size + 1 + 1 + 1) (saidTo op n m)) := hn3
      have HSA : Hid (SaysAt wr b op) := hsa
      generalize (saysZ op)[m] = f at *
      generalize saidTo op n m = s at *
      obtain ⟨z1, c0, c1, c2, c3, c4, c5, _⟩ := hn1
      obtain ⟨z3, d0, d1, d2, d3, d4, d5, fr⟩ := hn3
      clear hn2
      have hbl := hsa.1
      clear hsa
      go_wp2
      go_region_with (first | (go_at_call 28; refine (of_lit _ _ _ _ _ _ _ _ hf).mono ?_; rintro e w1 ⟨x, hx, rfl, hb0⟩; have hb1 : Below wr.heap.size wr w1 := Bl.trans (by repeat (first | exact Bl.refl _ | refine Below.drew ?_)) hb0; clear hb0; obtain ⟨_, q0, q1, q2, q3, q4, q5, qf⟩ := NdCell.below HN3.out hb1) | (go_at_call 53; refine (put_lit _ _ _ _ _ _ _ _ _ hf).mono ?_; rintro e w2 ⟨s', hs', rfl, hb2⟩; obtain ⟨_, g0, g1, g2, g3, g4, g5, gf⟩ := NdCell.below (NdCell.below HN3.out hb1) hb2))
      all_goals
        go_wp2
        have e1 : saidTo op n (m + 1) = s' := by rw [HT.out, hs'.out, hx.out]
        have hb3 := Bl.trans hb1 hb2
        have hlt0 := hs.1
        have hsz := hbr.size
        go_roundw
        case rel =>
          exact ⟨m + 1, by omega, by go_num, SaysAt.belowPut (HSA.out.below hb3) (by omega), NdCell.other (n' := s') (HN1.out.below hb3) (by omega), NdCell.other (n' := s') (HN2.out.below hb3) (by omega), (by rw [e1]; exact NdCell.put (HN3.out.below hb3) s'), NdCell.belowPut (Bl.trans hbr hb3) (by omega)⟩
        case measure => simp [intOf]; omega
    · have hml : m = (saysZ op).length := by omega
      have HN2 : Hid (NdCell wr (w.heap.size + 1 + 1) ⟨0, 0, 0, 0, 0, 0⟩) := hn2
      obtain ⟨z2, c0, c1, c2, c3, c4, c5, cf⟩ := hn2
      have e1 : Hid (saidTo op n (saysZ op).length = saidTo op n m) := by show saidTo op n (saysZ op).length = saidTo op n m; rw [hml]
      generalize saidTo op n m = s at *
      obtain ⟨z3, d0, d1, d2, d3, d4, d5, df⟩ := hn3
      clear hn1 hsa
      have HM : Hid (m = (saysZ op).length) := hml
      clear hml
      go_wp2
      refine bodyPost_ret (v := .agg #[.int .i64 s.op, .int .i64 s.a, .int .i64 s.b, .int .i64 s.k, .int .i64 s.rows, .int .i64 s.cols]) (by simp [results, Tryd.results25, go_sem, c0, c1, c2, c3, c4, c5]) rfl ⟨by rw [e1.out], ?_⟩
      exact NdCell.belowPut (n := s) hbr (by omega)
end Go.Proofs.YtanlmfcllebopaaDoorRR
