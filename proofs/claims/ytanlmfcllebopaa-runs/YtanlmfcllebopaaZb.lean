/- ops.at and the methods of ops.Work, walked. -/
import Derived.Test.YtanlmfcllebopaaZa
namespace Go.Proofs.Ytanlmfcllebopaa
open Go.RowKit

set_option maxHeartbeats 1000000 in
theorem pat_any (r c : Int) (no : Option Addr) (l : List Int) (cap : Nat) (i k : Int) (w : World) (hl : Ints w no l) (hi : 0 ≤ i ∧ i ≤ 3) (hk : 0 ≤ k ∧ k ≤ 3) (hc : 0 ≤ c ∧ c ≤ 4) (hx : i * c + k < l.length) :
    Calls Try.prog 75 #[.agg #[.int .i64 r, .int .i64 c, .slice no l.length cap], .int .i64 i, .int .i64 k] w fun e w' => e = .returned (.int .i64 (numAt c l i k)) ∧ Below w.heap.size w w' := by
  obtain ⟨p1, p2⟩ := prod_bd hi hc
  obtain ⟨hi1, hi2⟩ := hi
  obtain ⟨hk1, hk2⟩ := hk
  obtain ⟨hc1, hc2⟩ := hc
  have HN : Hid (numAt c l i k = l.getD (i * c + k).toNat 0) := rfl
  obtain ⟨q, hq⟩ := Int.eq_ofNat_of_zero_le (show 0 ≤ i * c + k by omega)
  have hql : q < l.length := by omega
  obtain ⟨b, off, rfl, hs, hcell⟩ := hl q hql
  have hal := al1 hs
  have ht : (i * c + k).toNat = q := by omega
  have HV : Hid (numAt c l i k = l[q]) := by show numAt c l i k = l[q]; rw [HN.out, ht]; simp [hql]
  have hcell' : w.cell? ⟨b, off + (i * c + k).toNat, none⟩ = some (.int .i64 l[q]) := by rw [ht]; exact hcell
  have hge : 0 ≤ i * c + k := by omega
  clear hq
  go_enter Try.func75, Try.ntmps75
  go_wp2
  go_ret
  exact ⟨ret_int (by rw [HV.out]), Bl.more (Bl.refl _) _⟩
set_option maxHeartbeats 2000000 in
theorem wat_input (n : Nd) (I A B : Mx) (io ao bo : Option Addr) (ic ac bc : Nat) (i k : Int) (w : World) (hI : Ints w io I.nums) (hf : FitOne I i k) :
    Calls Try.prog 50 #[.agg #[.int .i64 n.op, .int .i64 n.a, .int .i64 n.b, .int .i64 n.k, .int .i64 n.rows, .int .i64 n.cols, .int .i64 I.rows, .int .i64 I.cols, .slice io I.nums.length ic, .int .i64 A.rows, .int .i64 A.cols, .slice ao A.nums.length ac, .int .i64 B.rows, .int .i64 B.cols, .slice bo B.nums.length bc], .int .i64 i, .int .i64 k] w fun e w' => e = .returned (.int .i64 (numAt I.cols I.nums i k)) ∧ Below w.heap.size w w' := by
  have HB : Hid ((0 ≤ i ∧ i ≤ 3) ∧ (0 ≤ k ∧ k ≤ 3) ∧ (0 ≤ I.cols ∧ I.cols ≤ 4) ∧ i * I.cols + k < I.nums.length) := hf.bd
  have HA : Hid (Ints w io I.nums) := hI
  clear hI hf
  go_enter Try.func50, Try.ntmps50
  go_wp2_with fail
  refine (pat_any I.rows I.cols io I.nums ic i k _ ?_ HB.out.1 HB.out.2.1 HB.out.2.2.1 HB.out.2.2.2).mono ?_
  · exact HA.out.below (by repeat (first | exact Bl.refl _ | refine Bl.more ?_ _ | refine Below.drew ?_))
  rintro e w3 ⟨rfl, hb3⟩
  go_wp2
  go_ret
  exact ⟨rfl, Bl.trans (by repeat (first | exact Bl.refl _ | refine Bl.more ?_ _ | refine Below.drew ?_)) hb3⟩
set_option maxHeartbeats 2000000 in
theorem wat_turn (n : Nd) (I A B : Mx) (io ao bo : Option Addr) (ic ac bc : Nat) (i k : Int) (w : World) (hA : Ints w ao A.nums) (hf : FitOne A k i) :
    Calls Try.prog 65 #[.agg #[.int .i64 n.op, .int .i64 n.a, .int .i64 n.b, .int .i64 n.k, .int .i64 n.rows, .int .i64 n.cols, .int .i64 I.rows, .int .i64 I.cols, .slice io I.nums.length ic, .int .i64 A.rows, .int .i64 A.cols, .slice ao A.nums.length ac, .int .i64 B.rows, .int .i64 B.cols, .slice bo B.nums.length bc], .int .i64 i, .int .i64 k] w fun e w' => e = .returned (.int .i64 (numAt A.cols A.nums k i)) ∧ Below w.heap.size w w' := by
  have HB : Hid ((0 ≤ k ∧ k ≤ 3) ∧ (0 ≤ i ∧ i ≤ 3) ∧ (0 ≤ A.cols ∧ A.cols ≤ 4) ∧ k * A.cols + i < A.nums.length) := hf.bd
  have HA : Hid (Ints w ao A.nums) := hA
  clear hA hf
  go_enter Try.func65, Try.ntmps65
  go_wp2_with fail
  refine (pat_any A.rows A.cols ao A.nums ac k i _ ?_ HB.out.1 HB.out.2.1 HB.out.2.2.1 HB.out.2.2.2).mono ?_
  · exact HA.out.below (by repeat (first | exact Bl.refl _ | refine Bl.more ?_ _ | refine Below.drew ?_))
  rintro e w3 ⟨rfl, hb3⟩
  go_wp2
  go_ret
  exact ⟨rfl, Bl.trans (by repeat (first | exact Bl.refl _ | refine Bl.more ?_ _ | refine Below.drew ?_)) hb3⟩
set_option maxHeartbeats 2000000 in
theorem wat_fill (n : Nd) (I A B : Mx) (io ao bo : Option Addr) (ic ac bc : Nat) (i k : Int) (w : World)  :
    Calls Try.prog 53 #[.agg #[.int .i64 n.op, .int .i64 n.a, .int .i64 n.b, .int .i64 n.k, .int .i64 n.rows, .int .i64 n.cols, .int .i64 I.rows, .int .i64 I.cols, .slice io I.nums.length ic, .int .i64 A.rows, .int .i64 A.cols, .slice ao A.nums.length ac, .int .i64 B.rows, .int .i64 B.cols, .slice bo B.nums.length bc], .int .i64 i, .int .i64 k] w fun e w' => e = .returned (.int .i64 (n.k)) ∧ Below w.heap.size w w' := by
  go_enter Try.func53, Try.ntmps53
  go_wp2
  go_ret
  exact ⟨rfl, by repeat (first | exact Bl.refl _ | refine Bl.more ?_ _ | refine Below.drew ?_)⟩
/-- the two parts in a block of a Work -/
def WkCell (w : World) (b : Nat) (A B : Mx) (ao bo : Option Addr) (ac bc : Nat) : Prop := b < w.heap.size ∧ (w.cell? ⟨b, 9, none⟩ = some (.int .i64 A.rows) ∧ w.cell? ⟨b, 10, none⟩ = some (.int .i64 A.cols) ∧ w.cell? ⟨b, 11, none⟩ = some (.slice ao A.nums.length ac)) ∧ w.cell? ⟨b, 12, none⟩ = some (.int .i64 B.rows) ∧ w.cell? ⟨b, 13, none⟩ = some (.int .i64 B.cols) ∧ w.cell? ⟨b, 14, none⟩ = some (.slice bo B.nums.length bc)
theorem WkCell.below {w w' : World} {b : Nat} {A B : Mx} {ao bo : Option Addr} {ac bc : Nat} (h : WkCell w b A B ao bo ac bc) (hb : Below w.heap.size w w') : WkCell w' b A B ao bo ac bc := by
  obtain ⟨hs, ⟨a0, a1, a2⟩, b0, b1, b2⟩ := h
  exact ⟨Nat.lt_of_lt_of_le hs hb.size, ⟨(hb.cell (by exact hs)).trans a0, (hb.cell (by exact hs)).trans a1, (hb.cell (by exact hs)).trans a2⟩, (hb.cell (by exact hs)).trans b0, (hb.cell (by exact hs)).trans b1, (hb.cell (by exact hs)).trans b2⟩
set_option maxHeartbeats 2000000 in
set_option maxRecDepth 100000 in
theorem wat_sum (n : Nd) (I A B : Mx) (io ao bo : Option Addr) (ic ac bc : Nat) (i k : Int) (w : World) (hA : Ints w ao A.nums) (hB : Ints w bo B.nums) (hf : FitTwo A B i k) :
    Calls Try.prog 56 #[.agg #[.int .i64 n.op, .int .i64 n.a, .int .i64 n.b, .int .i64 n.k, .int .i64 n.rows, .int .i64 n.cols, .int .i64 I.rows, .int .i64 I.cols, .slice io I.nums.length ic, .int .i64 A.rows, .int .i64 A.cols, .slice ao A.nums.length ac, .int .i64 B.rows, .int .i64 B.cols, .slice bo B.nums.length bc], .int .i64 i, .int .i64 k] w fun e w' => e = .returned (.int .i64 (wrap64 (numAt A.cols A.nums i k + numAt B.cols B.nums i k))) ∧ Below w.heap.size w w' := by
  obtain ⟨⟨oA, oB⟩, ⟨i1, i2⟩, ⟨k1, k2⟩, i3, k3⟩ := hf
  have HXA := FitOne.bd ⟨oA, ⟨i1, i2⟩, ⟨k1, k2⟩⟩
  have HXB := FitOne.bd ⟨oB, ⟨i1, i3⟩, ⟨k1, k3⟩⟩
  have HB : Hid (((0 ≤ i ∧ i ≤ 3) ∧ (0 ≤ k ∧ k ≤ 3) ∧ (0 ≤ A.cols ∧ A.cols ≤ 4) ∧ i * A.cols + k < A.nums.length) ∧ ((0 ≤ i ∧ i ≤ 3) ∧ (0 ≤ k ∧ k ≤ 3) ∧ (0 ≤ B.cols ∧ B.cols ≤ 4) ∧ i * B.cols + k < B.nums.length)) := ⟨HXA, HXB⟩
  have HA : Hid (Ints w ao A.nums ∧ Ints w bo B.nums) := ⟨hA, hB⟩
  clear hA hB oA oB i1 i2 k1 k2 i3 k3 HXA HXB
  go_enter Try.func56, Try.ntmps56
  go_wp2
  go_region_held3 (fun w' => w'.cell? ⟨w.heap.size, 9, none⟩ = some (.int .i64 A.rows) ∧ w'.cell? ⟨w.heap.size, 10, none⟩ = some (.int .i64 A.cols) ∧ w'.cell? ⟨w.heap.size, 11, none⟩ = some (.slice ao A.nums.length ac) ∧ w'.cell? ⟨w.heap.size, 12, none⟩ = some (.int .i64 B.rows) ∧ w'.cell? ⟨w.heap.size, 13, none⟩ = some (.int .i64 B.cols) ∧ w'.cell? ⟨w.heap.size, 14, none⟩ = some (.slice bo B.nums.length bc))
    (first | (refine ⟨?_, ?_, ?_, ?_, ?_, ?_⟩ <;> assumption) | (refine ⟨?_, ?_, ?_, ?_, ?_, ?_⟩ <;> simp [go_sem]))
    (first | (go_at_call_of 75 (A.cols); refine (pat_any A.rows A.cols ao A.nums ac i k _ ?_ HB.out.1.1 HB.out.1.2.1 HB.out.1.2.2.1 HB.out.1.2.2.2).mono ?_; (exact HA.out.1.below (by repeat (first | exact Bl.refl _ | refine Bl.more ?_ _ | refine Below.drew ?_))); rintro e w3 ⟨rfl, hb3⟩; have MA3 : Hid (WkCell w3 w.heap.size A B ao bo ac bc) := WkCell.below ⟨by simp, ⟨by simp [go_sem], by simp [go_sem], by simp [go_sem]⟩, by simp [go_sem], by simp [go_sem], by simp [go_sem]⟩ hb3; have HW3 : Hid (Below w.heap.size w w3) := Bl.trans (by repeat (first | exact Bl.refl _ | refine Bl.more ?_ _ | refine Below.drew ?_)) hb3; obtain ⟨_, ⟨a0, a1, a2⟩, b0, b1, b2⟩ := MA3.out) | (go_at_call_of 75 (B.cols); refine (pat_any B.rows B.cols bo B.nums bc i k _ ?_ HB.out.2.1 HB.out.2.2.1 HB.out.2.2.2.1 HB.out.2.2.2.2).mono ?_; (exact HA.out.2.below HW3.out); rintro e w4 ⟨rfl, hb4⟩; obtain ⟨_, ⟨a40, a41, a42⟩, b40, b41, b42⟩ := MA3.out.below hb4))
  all_goals
    go_wp2
    go_ret
    exact ⟨ret_int (by rw [wrapEq]), Bl.trans HW3.out hb4⟩
set_option maxHeartbeats 2000000 in
set_option maxRecDepth 100000 in
theorem wat_less (n : Nd) (I A B : Mx) (io ao bo : Option Addr) (ic ac bc : Nat) (i k : Int) (w : World) (hA : Ints w ao A.nums) (hB : Ints w bo B.nums) (hf : FitTwo A B i k) :
    Calls Try.prog 57 #[.agg #[.int .i64 n.op, .int .i64 n.a, .int .i64 n.b, .int .i64 n.k, .int .i64 n.rows, .int .i64 n.cols, .int .i64 I.rows, .int .i64 I.cols, .slice io I.nums.length ic, .int .i64 A.rows, .int .i64 A.cols, .slice ao A.nums.length ac, .int .i64 B.rows, .int .i64 B.cols, .slice bo B.nums.length bc], .int .i64 i, .int .i64 k] w fun e w' => e = .returned (.int .i64 (wrap64 (numAt A.cols A.nums i k - numAt B.cols B.nums i k))) ∧ Below w.heap.size w w' := by
  obtain ⟨⟨oA, oB⟩, ⟨i1, i2⟩, ⟨k1, k2⟩, i3, k3⟩ := hf
  have HXA := FitOne.bd ⟨oA, ⟨i1, i2⟩, ⟨k1, k2⟩⟩
  have HXB := FitOne.bd ⟨oB, ⟨i1, i3⟩, ⟨k1, k3⟩⟩
  have HB : Hid (((0 ≤ i ∧ i ≤ 3) ∧ (0 ≤ k ∧ k ≤ 3) ∧ (0 ≤ A.cols ∧ A.cols ≤ 4) ∧ i * A.cols + k < A.nums.length) ∧ ((0 ≤ i ∧ i ≤ 3) ∧ (0 ≤ k ∧ k ≤ 3) ∧ (0 ≤ B.cols ∧ B.cols ≤ 4) ∧ i * B.cols + k < B.nums.length)) := ⟨HXA, HXB⟩
  have HA : Hid (Ints w ao A.nums ∧ Ints w bo B.nums) := ⟨hA, hB⟩
  clear hA hB oA oB i1 i2 k1 k2 i3 k3 HXA HXB
  go_enter Try.func57, Try.ntmps57
  go_wp2
  go_region_held3 (fun w' => w'.cell? ⟨w.heap.size, 9, none⟩ = some (.int .i64 A.rows) ∧ w'.cell? ⟨w.heap.size, 10, none⟩ = some (.int .i64 A.cols) ∧ w'.cell? ⟨w.heap.size, 11, none⟩ = some (.slice ao A.nums.length ac) ∧ w'.cell? ⟨w.heap.size, 12, none⟩ = some (.int .i64 B.rows) ∧ w'.cell? ⟨w.heap.size, 13, none⟩ = some (.int .i64 B.cols) ∧ w'.cell? ⟨w.heap.size, 14, none⟩ = some (.slice bo B.nums.length bc))
    (first | (refine ⟨?_, ?_, ?_, ?_, ?_, ?_⟩ <;> assumption) | (refine ⟨?_, ?_, ?_, ?_, ?_, ?_⟩ <;> simp [go_sem]))
    (first | (go_at_call_of 75 (A.cols); refine (pat_any A.rows A.cols ao A.nums ac i k _ ?_ HB.out.1.1 HB.out.1.2.1 HB.out.1.2.2.1 HB.out.1.2.2.2).mono ?_; (exact HA.out.1.below (by repeat (first | exact Bl.refl _ | refine Bl.more ?_ _ | refine Below.drew ?_))); rintro e w3 ⟨rfl, hb3⟩; have MA3 : Hid (WkCell w3 w.heap.size A B ao bo ac bc) := WkCell.below ⟨by simp, ⟨by simp [go_sem], by simp [go_sem], by simp [go_sem]⟩, by simp [go_sem], by simp [go_sem], by simp [go_sem]⟩ hb3; have HW3 : Hid (Below w.heap.size w w3) := Bl.trans (by repeat (first | exact Bl.refl _ | refine Bl.more ?_ _ | refine Below.drew ?_)) hb3; obtain ⟨_, ⟨a0, a1, a2⟩, b0, b1, b2⟩ := MA3.out) | (go_at_call_of 75 (B.cols); refine (pat_any B.rows B.cols bo B.nums bc i k _ ?_ HB.out.2.1 HB.out.2.2.1 HB.out.2.2.2.1 HB.out.2.2.2.2).mono ?_; (exact HA.out.2.below HW3.out); rintro e w4 ⟨rfl, hb4⟩; obtain ⟨_, ⟨a40, a41, a42⟩, b40, b41, b42⟩ := MA3.out.below hb4))
  all_goals
    go_wp2
    go_ret
    exact ⟨ret_int (by rw [wrapEq]), Bl.trans HW3.out hb4⟩
set_option maxHeartbeats 2000000 in
set_option maxRecDepth 100000 in
theorem wat_product (n : Nd) (I A B : Mx) (io ao bo : Option Addr) (ic ac bc : Nat) (i k : Int) (w : World) (hA : Ints w ao A.nums) (hB : Ints w bo B.nums) (hf : FitTwo A B i k) :
    Calls Try.prog 58 #[.agg #[.int .i64 n.op, .int .i64 n.a, .int .i64 n.b, .int .i64 n.k, .int .i64 n.rows, .int .i64 n.cols, .int .i64 I.rows, .int .i64 I.cols, .slice io I.nums.length ic, .int .i64 A.rows, .int .i64 A.cols, .slice ao A.nums.length ac, .int .i64 B.rows, .int .i64 B.cols, .slice bo B.nums.length bc], .int .i64 i, .int .i64 k] w fun e w' => e = .returned (.int .i64 (wrap64 (numAt A.cols A.nums i k * numAt B.cols B.nums i k))) ∧ Below w.heap.size w w' := by
  obtain ⟨⟨oA, oB⟩, ⟨i1, i2⟩, ⟨k1, k2⟩, i3, k3⟩ := hf
  have HXA := FitOne.bd ⟨oA, ⟨i1, i2⟩, ⟨k1, k2⟩⟩
  have HXB := FitOne.bd ⟨oB, ⟨i1, i3⟩, ⟨k1, k3⟩⟩
  have HB : Hid (((0 ≤ i ∧ i ≤ 3) ∧ (0 ≤ k ∧ k ≤ 3) ∧ (0 ≤ A.cols ∧ A.cols ≤ 4) ∧ i * A.cols + k < A.nums.length) ∧ ((0 ≤ i ∧ i ≤ 3) ∧ (0 ≤ k ∧ k ≤ 3) ∧ (0 ≤ B.cols ∧ B.cols ≤ 4) ∧ i * B.cols + k < B.nums.length)) := ⟨HXA, HXB⟩
  have HA : Hid (Ints w ao A.nums ∧ Ints w bo B.nums) := ⟨hA, hB⟩
  clear hA hB oA oB i1 i2 k1 k2 i3 k3 HXA HXB
  go_enter Try.func58, Try.ntmps58
  go_wp2
  go_region_held3 (fun w' => w'.cell? ⟨w.heap.size, 9, none⟩ = some (.int .i64 A.rows) ∧ w'.cell? ⟨w.heap.size, 10, none⟩ = some (.int .i64 A.cols) ∧ w'.cell? ⟨w.heap.size, 11, none⟩ = some (.slice ao A.nums.length ac) ∧ w'.cell? ⟨w.heap.size, 12, none⟩ = some (.int .i64 B.rows) ∧ w'.cell? ⟨w.heap.size, 13, none⟩ = some (.int .i64 B.cols) ∧ w'.cell? ⟨w.heap.size, 14, none⟩ = some (.slice bo B.nums.length bc))
    (first | (refine ⟨?_, ?_, ?_, ?_, ?_, ?_⟩ <;> assumption) | (refine ⟨?_, ?_, ?_, ?_, ?_, ?_⟩ <;> simp [go_sem]))
    (first | (go_at_call_of 75 (A.cols); refine (pat_any A.rows A.cols ao A.nums ac i k _ ?_ HB.out.1.1 HB.out.1.2.1 HB.out.1.2.2.1 HB.out.1.2.2.2).mono ?_; (exact HA.out.1.below (by repeat (first | exact Bl.refl _ | refine Bl.more ?_ _ | refine Below.drew ?_))); rintro e w3 ⟨rfl, hb3⟩; have MA3 : Hid (WkCell w3 w.heap.size A B ao bo ac bc) := WkCell.below ⟨by simp, ⟨by simp [go_sem], by simp [go_sem], by simp [go_sem]⟩, by simp [go_sem], by simp [go_sem], by simp [go_sem]⟩ hb3; have HW3 : Hid (Below w.heap.size w w3) := Bl.trans (by repeat (first | exact Bl.refl _ | refine Bl.more ?_ _ | refine Below.drew ?_)) hb3; obtain ⟨_, ⟨a0, a1, a2⟩, b0, b1, b2⟩ := MA3.out) | (go_at_call_of 75 (B.cols); refine (pat_any B.rows B.cols bo B.nums bc i k _ ?_ HB.out.2.1 HB.out.2.2.1 HB.out.2.2.2.1 HB.out.2.2.2.2).mono ?_; (exact HA.out.2.below HW3.out); rintro e w4 ⟨rfl, hb4⟩; obtain ⟨_, ⟨a40, a41, a42⟩, b40, b41, b42⟩ := MA3.out.below hb4))
  all_goals
    go_wp2
    go_ret
    exact ⟨ret_int (by rw [wrapEq]), Bl.trans HW3.out hb4⟩
set_option maxHeartbeats 2000000 in
set_option maxRecDepth 100000 in
theorem wat_scale (n : Nd) (I A B : Mx) (io ao bo : Option Addr) (ic ac bc : Nat) (i k : Int) (w : World) (hA : Ints w ao A.nums) (hf : FitOne A i k) :
    Calls Try.prog 60 #[.agg #[.int .i64 n.op, .int .i64 n.a, .int .i64 n.b, .int .i64 n.k, .int .i64 n.rows, .int .i64 n.cols, .int .i64 I.rows, .int .i64 I.cols, .slice io I.nums.length ic, .int .i64 A.rows, .int .i64 A.cols, .slice ao A.nums.length ac, .int .i64 B.rows, .int .i64 B.cols, .slice bo B.nums.length bc], .int .i64 i, .int .i64 k] w fun e w' => e = .returned (.int .i64 (wrap64 (n.k * numAt A.cols A.nums i k))) ∧ Below w.heap.size w w' := by
  have HB : Hid ((0 ≤ i ∧ i ≤ 3) ∧ (0 ≤ k ∧ k ≤ 3) ∧ (0 ≤ A.cols ∧ A.cols ≤ 4) ∧ i * A.cols + k < A.nums.length) := hf.bd
  have HA : Hid (Ints w ao A.nums) := hA
  clear hA hf
  go_enter Try.func60, Try.ntmps60
  go_wp2
  go_region_held3 (fun w' => w'.cell? ⟨w.heap.size, 9, none⟩ = some (.int .i64 A.rows) ∧ w'.cell? ⟨w.heap.size, 10, none⟩ = some (.int .i64 A.cols) ∧ w'.cell? ⟨w.heap.size, 11, none⟩ = some (.slice ao A.nums.length ac) ∧ w'.cell? ⟨w.heap.size, 3, none⟩ = some (.int .i64 n.k))
    (first | (refine ⟨?_, ?_, ?_, ?_⟩ <;> assumption) | (refine ⟨?_, ?_, ?_, ?_⟩ <;> simp [go_sem]))
    (first | (go_at_call 75; refine (pat_any A.rows A.cols ao A.nums ac i k _ ?_ HB.out.1 HB.out.2.1 HB.out.2.2.1 HB.out.2.2.2).mono ?_; (exact HA.out.below (by repeat (first | exact Bl.refl _ | refine Bl.more ?_ _ | refine Below.drew ?_))); rintro e w3 ⟨rfl, hb3⟩; have HW3 : Hid (Below w.heap.size w w3) := Bl.trans (by repeat (first | exact Bl.refl _ | refine Bl.more ?_ _ | refine Below.drew ?_)) hb3; have a0 : w3.cell? ⟨w.heap.size, 9, none⟩ = some (.int .i64 A.rows) := (hb3.cell (p := ⟨w.heap.size, 9, none⟩) (by simp)).trans (by simp [go_sem]); have a1 : w3.cell? ⟨w.heap.size, 10, none⟩ = some (.int .i64 A.cols) := (hb3.cell (p := ⟨w.heap.size, 10, none⟩) (by simp)).trans (by simp [go_sem]); have a2 : w3.cell? ⟨w.heap.size, 11, none⟩ = some (.slice ao A.nums.length ac) := (hb3.cell (p := ⟨w.heap.size, 11, none⟩) (by simp)).trans (by simp [go_sem]); have nk : w3.cell? ⟨w.heap.size, 3, none⟩ = some (.int .i64 n.k) := (hb3.cell (p := ⟨w.heap.size, 3, none⟩) (by simp)).trans (by simp [go_sem])))
  all_goals
    go_wp2
    go_ret
    exact ⟨ret_int (by rw [wrapEq]), HW3.out⟩
set_option maxHeartbeats 4000000 in
set_option maxRecDepth 100000 in
theorem wat_times (n : Nd) (I A B : Mx) (io ao bo : Option Addr) (ic ac bc : Nat) (i k : Int) (w : World) (hA : Ints w ao A.nums) (hB : Ints w bo B.nums) (hf : FitTimes A B i k) :
    Calls Try.prog 63 #[.agg #[.int .i64 n.op, .int .i64 n.a, .int .i64 n.b, .int .i64 n.k, .int .i64 n.rows, .int .i64 n.cols, .int .i64 I.rows, .int .i64 I.cols, .slice io I.nums.length ic, .int .i64 A.rows, .int .i64 A.cols, .slice ao A.nums.length ac, .int .i64 B.rows, .int .i64 B.cols, .slice bo B.nums.length bc], .int .i64 i, .int .i64 k] w fun e w' => e = .returned (.int .i64 (sumTo A B i k A.cols.toNat)) ∧ Below w.heap.size w w' := by
  obtain ⟨⟨oA, oB⟩, ⟨i1, i2⟩, ⟨k1, k2⟩, hAB⟩ := hf
  have HX : Hid (∀ j : Int, 0 ≤ j ∧ j < A.cols → ((0 ≤ i ∧ i ≤ 3) ∧ (0 ≤ j ∧ j ≤ 3) ∧ (0 ≤ A.cols ∧ A.cols ≤ 4) ∧ i * A.cols + j < A.nums.length) ∧ ((0 ≤ j ∧ j ≤ 3) ∧ (0 ≤ k ∧ k ≤ 3) ∧ (0 ≤ B.cols ∧ B.cols ≤ 4) ∧ j * B.cols + k < B.nums.length)) := fun j hj => ⟨FitOne.bd ⟨oA, ⟨i1, i2⟩, hj⟩, FitOne.bd ⟨oB, ⟨hj.1, by omega⟩, ⟨k1, k2⟩⟩⟩
  have hc1 : 1 ≤ A.cols := oA.2.1.1
  have hc2 : A.cols ≤ 4 := oA.2.1.2
  have HA : Hid (Ints w ao A.nums ∧ Ints w bo B.nums) := ⟨hA, hB⟩
  clear hA hB oA oB i1 i2 k1 k2 hAB
  go_enter Try.func63, Try.ntmps63
  go_wp2
  go_loopw [7, 12] (fun s j wr => ∃ q : Nat, (q : Int) ≤ A.cols ∧ j = .int .i64 q ∧ s = .int .i64 (sumTo A B i k q) ∧ WkCell wr w.heap.size A B ao bo ac bc ∧ Below w.heap.size w wr) (fun _ j _ => (A.cols - intOf j).toNat)
  case atStart => exact ⟨0, by omega, rfl, rfl, ⟨by simp, ⟨by simp [go_sem], by simp [go_sem], by simp [go_sem]⟩, by simp [go_sem], by simp [go_sem], by simp [go_sem]⟩, by repeat (first | exact Bl.refl _ | refine Bl.more ?_ _ | refine Below.drew ?_)⟩
  case round =>
    obtain ⟨q, hq, rfl, rfl, hma, hbr⟩ := hrel
    have HMA : Hid (WkCell wr w.heap.size A B ao bo ac bc) := hma
    obtain ⟨za, ⟨a0, a1, a2⟩, b0, b1, b2⟩ := hma
    by_cases hlt : (q : Int) < A.cols
    · have HXQ : Hid (((0 ≤ i ∧ i ≤ 3) ∧ (0 ≤ (q : Int) ∧ (q : Int) ≤ 3) ∧ (0 ≤ A.cols ∧ A.cols ≤ 4) ∧ i * A.cols + q < A.nums.length) ∧ ((0 ≤ (q : Int) ∧ (q : Int) ≤ 3) ∧ (0 ≤ k ∧ k ≤ 3) ∧ (0 ≤ B.cols ∧ B.cols ≤ 4) ∧ (q : Int) * B.cols + k < B.nums.length)) := HX.out q ⟨by omega, hlt⟩
      have HS : Hid (sumTo A B i k (q + 1) = wrap64 (sumTo A B i k q + wrap64 (numAt A.cols A.nums i q * numAt B.cols B.nums q k))) := rfl
      go_wp2
      go_region_held3 (fun w' => w'.cell? ⟨w.heap.size, 9, none⟩ = some (.int .i64 A.rows) ∧ w'.cell? ⟨w.heap.size, 10, none⟩ = some (.int .i64 A.cols) ∧ w'.cell? ⟨w.heap.size, 11, none⟩ = some (.slice ao A.nums.length ac) ∧ w'.cell? ⟨w.heap.size, 12, none⟩ = some (.int .i64 B.rows) ∧ w'.cell? ⟨w.heap.size, 13, none⟩ = some (.int .i64 B.cols) ∧ w'.cell? ⟨w.heap.size, 14, none⟩ = some (.slice bo B.nums.length bc))
        (first | (refine ⟨?_, ?_, ?_, ?_, ?_, ?_⟩ <;> assumption))
        (first | (go_at_call_of 75 (A.cols); refine (pat_any A.rows A.cols ao A.nums ac i q _ ?_ HXQ.out.1.1 HXQ.out.1.2.1 HXQ.out.1.2.2.1 HXQ.out.1.2.2.2).mono ?_; (exact HA.out.1.below (Bl.trans hbr (by repeat (first | exact Bl.refl _ | refine Below.drew ?_)))); rintro e w3 ⟨rfl, hb3⟩; have MA3 : Hid (WkCell w3 w.heap.size A B ao bo ac bc) := WkCell.below HMA.out (Bl.trans (by repeat (first | exact Bl.refl _ | refine Below.drew ?_)) hb3); have HW3 : Hid (Below w.heap.size w w3) := Bl.trans (Bl.trans hbr (by repeat (first | exact Bl.refl _ | refine Below.drew ?_))) hb3; obtain ⟨_, ⟨a30, a31, a32⟩, b30, b31, b32⟩ := MA3.out) | (go_at_call_of 75 (B.cols); refine (pat_any B.rows B.cols bo B.nums bc q k _ ?_ HXQ.out.2.1 HXQ.out.2.2.1 HXQ.out.2.2.2.1 HXQ.out.2.2.2.2).mono ?_; (exact HA.out.2.below HW3.out); rintro e w4 ⟨rfl, hb4⟩; obtain ⟨_, ⟨a40, a41, a42⟩, b40, b41, b42⟩ := MA3.out.below hb4))
      all_goals
        go_wp2
        go_roundw
        case rel => exact ⟨q + 1, by omega, by go_num, by rw [HS.out, wrapEq, wrapEq], MA3.out.below hb4, Bl.trans HW3.out hb4⟩
        case measure => simp [intOf]; omega
    · have hqe : Hid (A.cols.toNat = q) := by show A.cols.toNat = q; omega
      go_wp2
      go_ret
      exact ⟨ret_int (by rw [hqe.out]), hbr⟩
end Go.Proofs.Ytanlmfcllebopaa
