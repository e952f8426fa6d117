/- (*thriftlaw.Book).looks, walked, where the book has no lists of numbers. -/
import Derived.Test.YtlcmllmphpllbaaGreatDoorNa
import Derived.Deep.RegionHeld3
namespace Go.Proofs.YtlcmllmphpllbaaGreatDoor
open Go.RowKit

theorem nshape {w : World} {base size n : Nat} {e : TypeId} {v : Value} {xs : List Value} (h : w.ownsRow base e size v n xs) : ∃ ao cap, v = .slice ao n cap := by
  rcases h.2 with ⟨rfl, rfl⟩ | ⟨g, cap, cur, rfl, _⟩
  · exact ⟨_, _, rfl⟩
  · exact ⟨_, _, rfl⟩
/-- list k of the book -/
theorem NBook.list {w : World} {bb base : Nat} {io mo : Option Addr} {ic mc : Nat} {I : List (Value × Int)} {next : Int} (hB : NBook w bb base (.slice io I.length ic) (.slice mo I.length mc) I next) {k : Nat} (hk : k < I.length) :
    ∃ gi gm ao n cap m, io = some ⟨gi, 0, none⟩ ∧ mo = some ⟨gm, 0, none⟩ ∧ gi < w.heap.size ∧ gm < w.heap.size ∧ w.cell? ⟨gi, k, none⟩ = some (.slice ao n cap) ∧ w.cell? ⟨gm, k, none⟩ = some (.int .i64 m) ∧ n ≤ 2000 ∧ Hid (∀ j, j < n * 6 → ∃ g, ao = some ⟨g, 0, none⟩ ∧ w.cell? ⟨g, j, none⟩ = some (patN m j)) := by
  obtain ⟨gi, ic', e1, _, l1⟩ := hB.ri.form (by omega)
  obtain ⟨gm, mc', e2, _, l2⟩ := hB.rm.form (by omega)
  cases e1
  cases e2
  obtain ⟨ao, n, cap, e, hn, h⟩ := hB.marks I[k] (List.getElem_mem hk)
  refine ⟨gi, gm, ao, n, cap, I[k].2, rfl, rfl, l1, l2, ?_, ?_, hn, h⟩
  · rw [hB.ri.cellAt k (by omega)]; simp [hk, e]
  · rw [hB.rm.cellAt k (by omega)]; simp [hk]
def markNd (m : Int) : Nd := ⟨m, 0, 0, m, 0, 0⟩
set_option maxHeartbeats 8000000 in
set_option maxRecDepth 100000 in
theorem looksN_any (w : World) (bb base : Nat) (vi vm : Value) (I : List (Value × Int)) (next : Int) (hB : NBook w bb base vi vm I next) (hI : I.length ≤ 100000000000) :
    Calls Tryz.prog 5 #[.pointer (some ⟨bb, 0, none⟩)] w fun e w' => e = .returned (.bool true) ∧ Below w.heap.size w w' := by
  obtain ⟨io, ic, rfl⟩ := nshape hB.ri
  obtain ⟨mo, mc, rfl⟩ := nshape hB.rm
  have HB : Hid (NBook w bb base (.slice io I.length ic) (.slice mo I.length mc) I next) := hB
  clear hB
  go_enter Tryz.func5, Tryz.ntmps5
  go_wp2
  go_loopw [3] (fun i wr => ∃ k : Nat, k ≤ I.length ∧ i = .int .i64 k ∧ Below w.heap.size w wr) (fun i _ => I.length - (intOf i).toNat)
  case atStart => exact ⟨0, Nat.zero_le _, rfl, Bl.refl _⟩
  case round =>
    obtain ⟨k, hk, rfl, hbr⟩ := hrel
    have HBr : Hid (NBook wr bb base (.slice io I.length ic) (.slice mo I.length mc) I next) := HB.out.below hbr
    have c0 := HBr.out.c2
    have c1 := HBr.out.c3
    have hbl := HBr.out.lt
    by_cases hlt : k < I.length
    · obtain ⟨gi, gm, lo, ln, lc, m, rfl, rfl, li, lm, d0, d1, hln, hall⟩ := HBr.out.list hlt
      have alb := al1 hbl
      have alm := al1 lm
      have ali := al1 li
      rename World => w1
      go_wp2
      go_region_held3 (fun w' => w'.cell? ⟨bb, 1, none⟩ = some (.slice (some ⟨gm, 0, none⟩) I.length mc) ∧ w'.cell? ⟨gm, k, none⟩ = some (.int .i64 m))
        (first | (refine ⟨?_, ?_⟩ <;> assumption) | (refine ⟨?_, ?_⟩ <;> simp [go_sem, alb, alm, c1, d1]))
        (fail)
      all_goals
        go_wp2
        go_loopw [5] (fun i wr => ∃ j : Nat, j ≤ ln ∧ i = .int .i64 j ∧ Below w1.heap.size w1 wr ∧ XAt wr w1.heap.size m) (fun i _ => ln - (intOf i).toNat)
        case atStart => exact ⟨0, Nat.zero_le _, rfl, Below.drew (Bl.more (Bl.refl _) _), by simp, by simp [go_sem], by simp [go_sem], by simp [go_sem], by simp [go_sem], by simp [go_sem], by simp [go_sem]⟩
        case round =>
          obtain ⟨j, hj, rfl, hb2, hX⟩ := hrel
          have HX : Hid (XAt wr w1.heap.size m) := hX
          obtain ⟨x0, x1, x2, x3, x4, x5, x6⟩ := hX
          have f0 := (hb2.cell (by exact hbl)).trans c0
          have f1 := (hb2.cell (by exact li)).trans d0
          by_cases hjt : j < ln
          · obtain ⟨g, hlo, q0⟩ := hall.out (j * 6) (by omega)
            subst hlo
            have hq : ∀ q, q < 6 → wr.cell? ⟨g, j * 6 + q, none⟩ = some (patN m q) := fun q hq => by
              obtain ⟨g', e, h⟩ := hall.out (j * 6 + q) (by omega)
              cases e
              rw [patN_add] at h
              exact (hb2.cell (World.block_lt_of_cell? w1 _ h)).trans h
            have r0 : wr.cell? ⟨g, j * 6, none⟩ = some (.int .i64 m) := hq 0 (by omega)
            have r1 : wr.cell? ⟨g, j * 6 + 1, none⟩ = some (.int .i64 0) := hq 1 (by omega)
            have r2 : wr.cell? ⟨g, j * 6 + 2, none⟩ = some (.int .i64 0) := hq 2 (by omega)
            have r3 : wr.cell? ⟨g, j * 6 + 3, none⟩ = some (.int .i64 m) := hq 3 (by omega)
            have r4 : wr.cell? ⟨g, j * 6 + 4, none⟩ = some (.int .i64 0) := hq 4 (by omega)
            have r5 : wr.cell? ⟨g, j * 6 + 5, none⟩ = some (.int .i64 0) := hq 5 (by omega)
            clear hq q0
            have hr : ∀ w, (binOp .neq 42 (.agg #[.int .i64 m, .int .i64 0, .int .i64 0, .int .i64 m, .int .i64 0, .int .i64 0]) (.agg #[.int .i64 m, .int .i64 0, .int .i64 0, .int .i64 m, .int .i64 0, .int .i64 0])).run Tryz.prog w = .ok (.bool false) w := fun w => by
              have := run_neq_nd (markNd m) (markNd m) w
              rwa [(sameNd_iff (markNd m) (markNd m)).2 rfl] at this
            have hgd : ∀ (x y : Operand) xs ys w, (eqGuard .neq 42 x y (.agg xs) (.agg ys)).run Tryz.prog w = .ok () w := fun x y xs ys w => run_eqGuard_agg w _ _ x y xs ys guardNd
            go_wp2
            go_quiet ((fail))
            go_wp2
            go_roundw
            case rel => exact ⟨j + 1, by omega, by go_num, Bl.drew hb2 _, HX.out.keeps (S := fun _ => False) (Keeps.of_below (Bl.drew (Bl.refl _) _)) id⟩
            case measure => simp [intOf]; omega
          · go_wp2
            go_roundw
            case rel => exact ⟨k + 1, by omega, by go_num, Bl.trans hbr hb2⟩
            case measure => simp [intOf]; omega
    · have hke : k = I.length := by omega
      subst hke
      have c2 := HBr.out.c0
      rename World => w1
      go_wp2
      go_loopw [6] (fun i wr => i = .int .i64 0 ∧ wr = w1) (fun _ _ => 0)
      case atStart => exact ⟨rfl, rfl⟩
      case round =>
        obtain ⟨rfl, hw⟩ := hrel
        subst hw
        go_wp2
        go_ret
        exact ⟨rfl, hbr⟩
end Go.Proofs.YtlcmllmphpllbaaGreatDoor
