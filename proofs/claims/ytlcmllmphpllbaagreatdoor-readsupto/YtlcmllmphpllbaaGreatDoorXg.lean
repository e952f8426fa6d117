/- Builder.hasParts, Builder.keepInput, walked. -/
import Derived.Test.YtlcmllmphpllbaaGreatDoorXe
import Derived.Test.YtlcmllmphpllbaaGreatDoorXb
namespace Go.Proofs.YtlcmllmphpllbaaGreatDoor
open Go.RowKit

set_option maxHeartbeats 2000000 in
theorem hasParts_any (op : Int) (b bb : Nat) (n : Nd) (vo : Option Addr) (L vc : Nat) (w : World) (hs : SaysAt w b op) (hbb : bb < w.heap.size) (hc : w.cell? ⟨bb, 0, none⟩ = some (.slice vo L vc)) :
    Calls Tryz.prog 34 #[.pointer (some ⟨bb, 0, none⟩), .agg (kindCells op b), .agg n.vals] w fun e w' => e = .returned (.bool ((partsTo op n (saysZ op).length).all (fun x => aheadB x L))) ∧ Below w.heap.size w w' := by
  have hl := says_len op
  have hpl := partsTo_len op n (saysZ op).length
  have HP : Hid (∀ W, Below w.heap.size w W → Calls Tryz.prog 61 #[.agg (kindCells op b), .agg n.vals] W fun e w' => ∃ ao cap, e = .returned (.slice ao (partsTo op n (saysZ op).length).length cap) ∧
      (∀ j, j < (partsTo op n (saysZ op).length).length → ∃ g, ao = some ⟨g, 0, none⟩ ∧ g < w'.heap.size ∧ w'.cell? ⟨g, j, none⟩ = some (.int .i64 ((partsTo op n (saysZ op).length).getD j 0))) ∧ Below W.heap.size W w') := fun W h => parts_list op b n W (hs.below h)
  generalize hps : partsTo op n (saysZ op).length = ps at *
  clear hps
  simp only [kindCells, Nd.vals] at *
  go_enter Tryz.func34, Tryz.ntmps34
  go_wp2_with (go_at_call 61; refine (HP.out _ ?_).mono ?_; (repeat (first | exact Bl.refl _ | refine Bl.more ?_ _)); rintro e w1 ⟨ao, cap, rfl, hv, hb1⟩)
  have hb2 : Below w.heap.size w w1 := Bl.trans (Bl.more (Bl.more (Bl.refl _) _) _) hb1
  have c1 : w1.cell? ⟨bb, 0, none⟩ = some (.slice vo L vc) := (hb2.cell (by exact hbb)).trans hc
  clear hb1
  go_loopw [13] (fun j wr => ∃ m : Nat, m ≤ ps.length ∧ j = .int .i64 m ∧ Hid (∀ k, k < m → aheadB (ps.getD k 0) L = true) ∧ wr = w1) (fun j _ => ps.length - (intOf j).toNat)
  case atStart => exact ⟨0, Nat.zero_le _, rfl, fun k hk => absurd hk (Nat.not_lt_zero _), rfl⟩
  case round =>
    obtain ⟨m, hm, rfl, hall, rfl⟩ := hrel
    by_cases hlt : m < ps.length
    · obtain ⟨g, rfl, hg, e0⟩ := hv m hlt
      clear hv
      have hno : aheadB (ps.getD m 0) L = false → ps.all (fun x => aheadB x L) = false := fun h => by
        rw [List.all_eq_false]; exact ⟨ps[m], List.getElem_mem hlt, by simpa [hlt] using h⟩
      have HNO : Hid (aheadB (ps.getD m 0) L = false → ps.all (fun x => aheadB x L) = false) := hno
      clear hno
      generalize hx : ps.getD m 0 = x at e0 HNO
      have HX : Hid (ps.getD m 0 = x) := hx
      clear hx
      by_cases hx0 : x < 0
      · go_wp2
        go_ret
        exact ⟨by rw [HNO.out (by simp [aheadB]; omega)]; rfl, hb2⟩
      · by_cases hx1 : (L : Int) ≤ x
        · go_wp2
          go_ret
          exact ⟨by rw [HNO.out (by simp [aheadB]; omega)]; rfl, hb2⟩
        · go_wp2
          go_roundw
          case rel =>
            refine ⟨m + 1, by omega, by go_num, ?_, (by first | rfl | trivial)⟩
            intro k hk
            by_cases e : k = m
            · subst e; rw [HX.out]; simp [aheadB]; omega
            · exact hall.out k (by omega)
          case measure => simp [intOf]; omega
    · have hyes : Hid (ps.all (fun x => aheadB x L) = true) := by
        show ps.all (fun x => aheadB x L) = true
        rw [List.all_eq_true]
        intro x hx
        obtain ⟨k, hk, rfl⟩ := List.getElem_of_mem hx
        simpa [hk] using hall.out k (by omega)
      clear hv
      go_wp2
      go_ret
      exact ⟨by rw [hyes.out]; rfl, hb2⟩

theorem below_both {B : Nat} {w w' : World} (h : Below B w w') {p : Addr} {u : Value} (hp : p.block < B) : Below B (w.setCell p u) (w'.setCell p u) := by
  refine ⟨h.os, h.tape, h.output, by simpa using h.size, fun k hk => ?_⟩
  by_cases e : k = p.block
  · subst e
    simp only [World.setCell]
    rw [Array.getElem?_modify, Array.getElem?_modify, if_pos rfl, if_pos rfl, h.block _ hp]
  · rw [Below.heap_setCell w' p u k e, Below.heap_setCell w p u k e]
    exact h.block k hk
-- an input that is there
set_option maxHeartbeats 2000000 in
theorem keep_there (bb k : Nat) (r c r0 c0 : Int) (w : World) (hk : k < 8) (hbb : bb < w.heap.size) (d0 : w.cell? ⟨bb, 1 + k * 2, none⟩ = some (.int .i64 r0)) (d1 : w.cell? ⟨bb, 1 + k * 2 + 1, none⟩ = some (.int .i64 c0)) (hz : (r0 == 0 && c0 == 0) = false) :
    Calls Tryz.prog 36 #[.pointer (some ⟨bb, 0, none⟩), .int .i64 k, .agg #[.int .i64 r, .int .i64 c]] w fun e w' => e = .returned (.bool (r0 == r && c0 == c)) ∧ Below w.heap.size w w' := by
  have h1 : (0 : Int) ≤ (k : Int) := by omega
  have h2 : (k : Int) < 8 := by omega
  have q1 := run_eql_sh r0 c0 0 0
  have q2 := run_eql_sh r0 c0 r c
  rw [hz] at q1
  have hg := guard_sh .eql
  have hal := al2 hbb
  go_enter Tryz.func36, Tryz.ntmps36
  go_wp2
  go_quiet ((fail))
  go_wp2
  go_quiet ((fail))
  go_wp2
  go_ret
  exact ⟨rfl, by repeat (first | exact Bl.refl _ | refine Bl.more ?_ _ | refine Bl.drew ?_ _)⟩
-- one that is not there
set_option maxHeartbeats 2000000 in
theorem keep_new (bb k : Nat) (r c : Int) (w : World) (hk : k < 8) (hbb : bb < w.heap.size) (d0 : w.cell? ⟨bb, 1 + k * 2, none⟩ = some (.int .i64 0)) (d1 : w.cell? ⟨bb, 1 + k * 2 + 1, none⟩ = some (.int .i64 0)) (hf : ∀ j, w.frozen? ⟨bb, j, none⟩ = false) :
    Calls Tryz.prog 36 #[.pointer (some ⟨bb, 0, none⟩), .int .i64 k, .agg #[.int .i64 r, .int .i64 c]] w fun e w' => e = .returned (.bool true) ∧ Below w.heap.size ((w.setCell ⟨bb, 1 + k * 2, none⟩ (.int .i64 r)).setCell ⟨bb, 1 + k * 2 + 1, none⟩ (.int .i64 c)) w' := by
  have h1 : (0 : Int) ≤ (k : Int) := by omega
  have h2 : (k : Int) < 8 := by omega
  have q1 := run_eql_sh 0 0 0 0
  have q2 := run_eql_sh r c r c
  simp only [BEq.rfl, Bool.and_self] at q1 q2
  have hg := guard_sh .eql
  have hal := al2 hbb
  have hfl : ∀ o p x, ((w.alloc o).alloc p).frozen? ⟨bb, x, none⟩ = false := fun o p x => by rw [(Bl.more (Bl.more (Bl.refl w) o) p).frozen (by exact hbb)]; exact hf x
  go_enter Tryz.func36, Tryz.ntmps36
  go_wp2
  go_quiet ((fail))
  go_wp2
  go_region
  have hbs : bb < ((w.setCell ⟨bb, 1 + k * 2, none⟩ (.int .i64 r)).setCell ⟨bb, 1 + k * 2 + 1, none⟩ (.int .i64 c)).heap.size := by simpa using hbb
  have hal2 := al2 hbs
  go_wp2
  go_quiet ((fail))
  go_wp2
  go_ret
  refine ⟨rfl, ?_⟩
  refine below_drewN ?_ _
  refine below_both (p := ⟨bb, 1 + k * 2 + 1, none⟩) (u := .int .i64 c) ?_ (show bb < w.heap.size from hbb)
  refine below_both (p := ⟨bb, 1 + k * 2, none⟩) (u := .int .i64 r) ?_ (show bb < w.heap.size from hbb)
  exact Bl.drew (Bl.more (Bl.more (Bl.refl _) _) _) _
end Go.Proofs.YtlcmllmphpllbaaGreatDoor
